import PyProof.Rows.All
import Wide.All
import OpenK.AllK
import Wide.FinOn
import Lean
import PyProof.EqAt
import PyProof.EqKinds
import PyProof.TupleCall
import KE.KLam
import PyProof.WalksEnum
import PyProof.EnumMake
import PyProof.Rows.SortWalk
import PyProof.Rows.SetFrom
import PyProof.SetRoads
import PyProof.DictTable
import PyProof.ListRange
import PyProof.DictWalks
import PyProof.DictUpdate
import KE.KSortTup
import KE.KDictSum
import KE.KSortKey
import KE.KDictOf
import PyProof.StationsW
import OpenK.KRaise
import KE.KTryMore
import PyProof.ExcClass2
import PyProof.ExcBaseAll.ValueError
import OpenK.KOwn
import PyProof.ExcAttrAll.ValueError
import PySem.Challenge.RW_probewell_k37_whole_gathering
set_option Elab.async false
set_option linter.all false
set_option maxRecDepth 100000
open PySem renaming wpAny_bind→ae,wpAny_pure→ag,Value→ai,Shared→ak,starEach→au,Addr→av,wpAny→aM,sizeLine→aS,model→aU,mainGlobals→aV,PyData→a_,Str→bc,Program→bh,compareOp→bp,Around→bx,World→bE,wpAny_holding→bI,mem_of_lookup→bK,Heap→bL,wpAny_call_entry→bM,eval→bW,backTo→b_,wpAny_truthy_bool→cg,wpAny_callSpecial?_slot→cx,wpAny_dictEntries→cB,wpAny_mono→cC,cLine→cH,rawInt→cR,FuncData→cV,wpAny_specialOf→dh,sizeLine_eq→dv,codeAny_builtin→dw,sysModules→dF,wpAny_newObj_type→dX,DictEntry→dY,Pos→ek,Obj→eD,foldedSetIterable→eF,codeAny_mono→eH,behindInMarks→eR,wpAny_setField→e_,swapsWith→ff,binaryOp→fg,Paired→fq,wpAny_typeNameOfWhole_keyiter→fC,Scope→fE,wpAny_Call_Name_kw→fH,wpAny_passesOwn→fI,wpAny_ite_split→fJ,wpAny_attempt→fR,Stmt→fT,wpAny_setState_of→fV,intKind→fW,SetTable→gk,wpAny_isInstance→gu,scanBound→gx,bootBuiltins→gz,Keyword→gC,wpAny_setEntries_of→gH,wpAny_typeNameOf_keyiter→gK,plainId_quiet→gL,attributeBase→gM,wpAny_rule→gX,pyNext→gY,wpAny_fieldsOf→ij,holding→il,codeAny→ir,NameKind→iu,wpAny_notOrdered_dict→iD,assignEach→iK,sliceBounds→iN,keywordEach→iO,ReadsAll→iU,wpAny_execs_nil→ja,wpAny_dictEpoch→jb,hashInt→jm,TriplesOk→jz,builtinsNs→jB,fits_of_scanBound→jV,dictSetHashed→ke,assign→kg,pickOrder→km,codeAmong→kz,Walks→kD,Arguments→kH,wpAny_call→kM,relabel→kN,letOwnedTupleGo→kZ,Env→lQ,relayAll→lS,firstArgMember→l_,codeAny_call_builtin→ma,bindArgs→me,backToKw→mf,lastMarks→mC,callerA→mE,BindsTo→mG,wpAny_standAt→mP,intKind_is→ni,closureFor→nz,wpAny_typeOf→nR,wpAny_pyIter_slot→nS,wpAny_pyIter_list→nT,getItem→oI,wpAny_forIn_list→pq,wpAny_askSetting→pA,pyIter→pE,isTrue→pF,checkBuiltinCall→pX,PassesOwn→qm,unsupported→qx,subscripted→qy,standAt→sj,setNext→sr,wpAny_runValue→s_,wpAny_load→tm,truthy→tu,slotArgs→tz,isSubtype_type→tL,isInstance→tM,CmpOp→va,wpAny_comprehension_free→wa,swapsWithSole→wc,swappedStores→we,call→yd,wpAny_callSpecial?_none→yq,bindL→zK,bindC→zL,wpAny_Call_method_late→z_,setItem→Al,richCompare_meets_room→Ao,dictGet→De,Result→Di,wpAny_isOneOf_keyiter→Dw,builtinLookup_eq_fast→Ei
open PySem.W renaming Frag→af,nsIn→bH,kia_one→bX,kitOne→cN,kla_obj→dH,keepIn→ee,findIn→eL,fnOf→eV,hideAll→fm,mg_of→fw,CodeHd→fQ,envX→gP,codeIn→kE,callWith_K→lK,methodObj→mn,kitx_list→mo,kitx_dict→mq,instObj→nB,lookIn→oK,kla_fn→oM,excIn→p_,cellsFrom_some→rT,hideAll_get→vU,of_hideAll→ye,kitx_tuple→yf,specialIn→zO,plainGet→Dj,OpenLaw→Ek
open List renaming mem_cons_self→ah,mem_append_right→aj,mem_cons_of_mem→ao,mem_append_left→aq,length_map→ar,mem_singleton→ax,mem_append→ay,map_cons→aA,getElem?_eq_getElem→aB,replicate→aC,mem_map→aG,mem_cons→aH,range→aJ,length_append→aK,append_assoc→aP,size_toArray→aT,getD_eq_getElem?_getD→aX,getElem?_eq_some_iff→aY,append_nil→aZ,length_cons→ba,map_append→bb,mem_range→bo,nodup_nil→br,nodup_append→bu,getElem?_map→bz,nodup_cons→bA,mem_of_getElem?→bD,length_range→bJ,cons_append→bO,all_eq_true→bP,nil_append→bT,count_append→bZ,pairwise_cons→cy,map_nil→cA,map_congr_left→cF,mem_iff_getElem?→cG,map_map→cP,getElem_mem→cQ,drop_eq_getElem_cons→cU,mem_map_of_mem→cW,mem_filter→dc,mem_filterMap→de,length_take→du,getElem?_set_ne→dD,any_eq_false→dG,zip_cons_cons→ef,getElem?_append_right→eh,pairwise_append→ez,pairwise_singleton→eM,lookup_cons→eN,any_eq_true→eO,getElem?_set_self→eW,drop_of_length_le→eX,find?_cons→fu,length_singleton→fx,length_replicate→fy,getElem?_eq_none→fB,mem_flatMap→fU,mem_of_find?_eq_some→fX,getElem?_append_left→fY,replicate_zero→gg,filterMap_cons→gh,find?_eq_none→gB,length_eq_zero_iff→gF,length→gG,pairwise_map→gQ,pairwise_lt_range→gR,length_drop→ic,nodup_iff_count→iw,mem_of_mem_take→ix,mem_iff_getElem→iy,of_mem_zip→iC,replicate_succ→iG,getElem?_range→iH,set_cons_succ→iW,exists_cons_of_ne_nil→iX,count_pos_iff→iY,getElem?_zip_eq_some→jd,sublist_append_left→jv,not_mem_nil→jG,getElem_map→jH,drop_length→jI,forIn_cons→jX,count_cons→jY,forIn_nil→kF,getD_cons_succ→kU,flatMap_append→kW,set_cons_zero→lN,map_singleton→lP,foldl_append→mr,filter_congr→mv,ext_getElem?→mw,drop_append_of_le_length→nc,range_succ→nE,length_zip→nG,sublist_append_right→pf,getElem?_replicate→qU,range_succ_eq_map→r_,map_id'→sd,length_pos_of_mem→se,flatMap_singleton→sf,take_append_drop→sU,getElem?_toArray→sV,contains_iff_mem→sW,mem_of_mem_drop→uY,length_eraseIdx→uZ,count_cons_self→u_,findSome?_cons→vX,count_eq_zero→yi,zip_nil_left→zQ,flatMap_cons→zR,take_length→Dn,range'_succ→Dp,nodup_range→Dq,filter_cons→Dr,zip_append→En,length_set→Eo,length_nil→Ep,foldl_cons→Er,find?_some→Es
open PySem.Heap renaming get?_push_of_some→aw,lt_size→aN,get?_push_size→aR,get?_update_self→bV,SameBut→dN,size_push→dR,get?_update_other→ei,FlyingW→jw
open Bool renaming and_eq_true→az,false_ne_true→bB,false_eq_true→df,and_self→eA,and_true→gq,beq_eq_decide_eq→hU,not_true→jx,or_eq_true→nI,and_false→oN
open Option.some renaming inj→aD,injEq→er
open Nat renaming le_refl→aF,lt_of_lt_of_le→aW,ne_of_lt→bj,lt_irrefl→cE,le_trans→cI,zero_le→dq,le_of_lt→dA,lt_or_ge→et,le_succ→gE,add_assoc→ig,min_le_left→iB,lt_succ_of_lt→jf,lt_succ_self→jF,lt_trans→jR,lt_of_le_of_lt→lM,min_eq_left→nD,zero_add→rW,ne_of_gt→rX,min_self→rY,add_comm→rZ,lt_trichotomy→zP
open PySem.PyData renaming eqv→aI,canLayAll0→bg,int→bt,depthAll→bQ,bool→cm,eqvAll→cq,tuple→cw,canLay0→cS,list→dy,depth→dI,none→fG
open PySem.Value renaming ref→be,none→cD,type→eU,bool→iM,isInt→mh,str→pY,int→pZ
open Int renaming toNat_natCast→bw,toNat_of_nonneg→cX,emod_nonneg→dM,emod_lt_of_pos→eY,natCast_add→Et
open PySem.PassesOwn renaming never→bF
open Array renaming getElem?_eq_getElem→bG,length_toList→cY,getElem?_toList→cZ,mem_toList_iff→dE,getElem?_eq_none→dU,getD_eq_getD_getElem?→dW,forIn_toList→lR,toArray_toList→vc,append_assoc→yo,toList_push→zW
open PySem.Heap.SameBut renaming update→bN
open Or renaming inr→bR,inl→cf
open False renaming elim→bS
open Option renaming map_eq_some_iff→bY,isSome_iff_exists→dz,bind_some→ib,isNone_iff_eq_none→o_,bind_eq_some_iff→qT,map_eq_none_iff→rV,getD_none→Dm,map_some→El
open PySem.Str renaming ofString→cM
open PyProof.Rows renaming step_dedup→dg,callWith_type1→fF,envOfC→iE,AllBare→i_,firstMet→kj,SortKind→oX,test_link→rU,IntsAre→uW,ite_tt→vV,ite_ff→vW
open PySem.Around renaming under_plainId→dm
open ForInStep renaming yield→dt
open PySem.Builtin.Tuple renaming tupleHashOf→dB
open PySem.Paired renaming length→dJ
open PySem.SetTable renaming below→dQ,grown→gj
open PySem.F renaming slot_dict_keyiterator_next→dZ,called_set→gD,slot_list_extend→jt,plainAttrs_list→jC,slot_tuple_hash→jZ,slot_dict_len→lC,slot_dict_getitem→oY,plain_extend_loop→oZ,type_list_extend→qf,slot_dict_update→qg,slot_dict_iter→qu,args_dict_keyiterator_next_1→qw,plain_list_iadd→qR,attr_ValueError→qS,entry_dict_keyiterator_next→qV,typeOf_object_class→Eu
open PySem.NameKind renaming free→ej
open Ne renaming symm→eE
open PySem.SeqAt.ReadsAll renaming length→eZ
open PyProof.Rows.F renaming plain_set_update_loop→gf,entry_set_update_loop→kT
open PySem.Obj renaming data_mapDictKeys→gn,isFreed_of_dict→gI,mapSeq→jD,data_mapFields→jE,data_mapDict→qo,putSet→uX,mapFields→yh,isFreed_of_fields→Em
open List.Sublist renaming refl→gS,append→vY
open List.Perm renaming refl→gT,append_left→sX
open List.Pairwise renaming nil→gU,imp→zS
open PySem.Builtin.List renaming listTooLong→gW,listLengthHint→sY,listExtendWith→sZ,listSameRef→yk
open PySem.Builtin.Dict renaming updateFrom→hJ,mergeDict→iz,showsAll→iJ,entriesForEmpty→si,readDirectly→v_,selfAndRest→yl,addKeywords→ym
open True renaming intro→iS
open PUnit renaming unit→iV
open PySem.Calls renaming evalArgs_plain→iZ,Name_function_global→vb,callWith_builtin→Dv
open Prod.mk renaming injEq→ju
open Sum renaming inr→mi,inl→ml
open PySem.Shared renaming TypeIs→m_
open List.cons renaming injEq→nH
open PySem.SetTable.below renaming go→oJ
open PySem.AutoSeq1 renaming list_extend_list_list_0→oO
open PySem.Builtin.Dict_items renaming ownsTuple→sg
open PySem.MeetsSeq3 renaming plain_eq_loop→vg
open PySem.Builtin.Range renaming rangeSize→zV
open PySem.pickOrder renaming go→Ax
open PySem.W.Looks renaming ld→Dk
open PySem.SeqAt renaming room_in→Dz
def aE:=@if_pos
def aL:=@decide_eq_true
def aO:=@if_neg
def aQ:=@decide_eq_false
def bC:=@of_decide_eq_true
def dC:=@congrArg
def eB:=@beq_eq_false_iff_ne
def fK:=@if_false
def fM:=@beq_iff_eq
def h_:=@beq_self_eq_true
def ie:=@if_true
def mM:=@decide_eq_decide
def rS:=@decide_false
def uU:=@decide_true
namespace L2
open PySem PySem.Spec PyProof.Rows
abbrev Key:=Sum Int bc
def b5w:Key→ai→Bool
  | .inl k,v=>mh k v
  | .inr x,v=>ai.isStrOf x v
def c0K(w:bE):Key→Int
  | .inl k=>jm k
  | .inr x=>hashStr w x
theorem t7:∀{k:Key} {v:ai},b5w k v=true→(∃i t,k=ml i∧v=pZ i t)∨(∃x t,k=mi x∧v=pY x t)
  | .inl i,v,h=>by
    obtain⟨t,e⟩:=ai.isInt_shape (k:=i) (v:=v) h;exact .inl ⟨i,t,rfl,e⟩
  | .inr x,v,h=>by
    obtain⟨t,e⟩:=ai.isStrOf_shape (x:=x) (v:=v) h;exact .inr ⟨x,t,rfl,e⟩
theorem b5W(a b:Int):decide ((ml a:Key)=ml b)=(a == b):=by
  by_cases e:a=b
  · subst e;simp
  · have h:¬ (ml a:Key)=ml b:=fun q=>e (ml.inj q)
    rw [aQ h];exact (eB.mpr e).symm
theorem b5X(a b:bc):decide ((mi a:Key)=mi b)=decide (a=b):=by
  by_cases e:a=b
  · subst e;simp
  · have h:¬ (mi a:Key)=mi b:=fun q=>e (mi.inj q)
    rw [aQ h,aQ e]
theorem b5Y(a:Int)(b:bc):decide ((ml a:Key)=mi b)=false:=aQ (fun q=>nomatch q)
theorem b5Z(a:bc)(b:Int):decide ((mi a:Key)=ml b)=false:=aQ (fun q=>nomatch q)
def a4y(prog:bh)(w:bE):PySem.KeyKind prog w Key where
  is:=b5w
  hash:=c0K w
  inj:=fun v a b ha hb=>by
    rcases t7 ha with⟨i,t,rfl,rfl⟩|⟨x,t,rfl,rfl⟩
    · rcases t7 hb with⟨j,u,rfl,e⟩|⟨y,u,rfl,e⟩
      · injection e with e1 _;rw [e1]
      · exact nomatch e
    · rcases t7 hb with⟨j,u,rfl,e⟩|⟨y,u,rfl,e⟩
      · exact nomatch e
      · injection e with e1 _;rw [e1]
  byValue:=fun k v h=>by
    rcases t7 h with⟨i,t,rfl,rfl⟩|⟨x,t,rfl,rfl⟩ <;> rfl
  pyHash:=fun hv h=>by
    rcases t7 hv with⟨i,t,rfl,rfl⟩|⟨x,t,rfl,rfl⟩
    · exact wpAny_pyHash_int h
    · exact wpAny_pyHash_str h
  eqBool:=fun hu hv h=>by
    rcases t7 hu with⟨i,t,rfl,rfl⟩|⟨x,t,rfl,rfl⟩
    · rcases t7 hv with⟨j,u,rfl,rfl⟩|⟨y,u,rfl,rfl⟩
      · rw [b5W] at h;exact wpAny_eqBool_int h
      · rw [b5Y] at h;exact SeqAt.EqAt.int_str i t y u _ _ _ _ h
    · rcases t7 hv with⟨j,u,rfl,rfl⟩|⟨y,u,rfl,rfl⟩
      · rw [b5Z] at h;exact SeqAt.EqAt.str_int x t j u _ _ _ _ h
      · rw [b5X] at h;exact wpAny_eqBool_str h
  «strs»:=fun k x t v h=>by
    rcases t7 h with⟨i,u,rfl,e⟩|⟨y,u,rfl,e⟩
    · exact nomatch e
    · injection e with e1 _
      subst e1;cases v <;> rfl
end L2
namespace L2
open PySem PySem.Spec PyProof.Rows
inductive V where
  | non|bl (b:Bool)|int (i:Int)|str (x:bc)|byt (b:Array UInt8)|flt (b:UInt64)|ref (a:av)|ty (n:String)
  deriving DecidableEq
def RelV:V→ai→Prop
  | .non,u=>u=cD
  | .bl b,u=>u=iM b
  | .int i,u=>∃t,u=pZ i t
  | .str x,u=>∃t,u=pY x t
  | .byt b,u=>∃t,u=ai.bytes b t
  | .flt b,u=>∃t,u=ai.float b t
  | .ref a,u=>u=be a
  | .ty n,u=>u=eU n
abbrev Vals:List V→List ai→Prop:=fq RelV
theorem Vals.length{xs:List V}{us:List ai}(r:Vals xs us):xs.length=us.length:=dJ r
theorem Vals.get:∀{xs:List V} {us:List ai} {i:Nat} {x:V},Vals xs us→xs[i]?=some x→∃u,us[i]?=some u∧RelV x u
  | _,_,_,_,.nil,e=>by simp at e
  | _,_,0,_,.cons r _,e=>by simp at e;subst e;exact⟨_,rfl,r⟩
  | _,_,i + 1,x,.cons _ t,e=>by
    obtain⟨u,h1,h2⟩:=Vals.get (i:=i) (x:=x) t (by simpa using e);exact⟨u,by simpa using h1,h2⟩
theorem Vals.set(r:RelV x u):∀{xs:List V} {us:List ai} (i:Nat),Vals xs us→Vals (xs.set i x) (us.set i u)
  | _,_,_,.nil=>.nil
  | _,_,0,.cons _ t=>.cons r t
  | _,_,i + 1,.cons q t=>.cons q (Vals.set r i t)
theorem Vals.append:∀{xs ys:List V} {us ws:List ai},Vals xs us→Vals ys ws→Vals (xs ++ ys) (us ++ ws)
  | _,_,_,_,.nil,s=>s
  | _,_,_,_,.cons r t,s=>.cons r (Vals.append t s)
theorem Vals.take:∀{xs:List V} {us:List ai} (n:Nat),Vals xs us→Vals (xs.take n) (us.take n)
  | _,_,0,_=>.nil
  | _,_,_ + 1,.nil=>.nil
  | _,_,n + 1,.cons r t=>.cons r (Vals.take n t)
theorem Vals.drop:∀{xs:List V} {us:List ai} (n:Nat),Vals xs us→Vals (xs.drop n) (us.drop n)
  | _,_,0,r=>r
  | _,_,_ + 1,.nil=>.nil
  | _,_,n + 1,.cons _ t=>Vals.drop n t
def b6a:Option V→Option ai→Prop
  | some v,some u=>RelV v u
  | none,none=>True
  | _,_=>False
def KV{κ:Type}:List (κ × V)→List (κ × ai)→Prop:=fq fun (p:κ × V) (q:κ × ai)=>p.1=q.1∧RelV p.2 q.2
def kV:Key→V
  | .inl i=>.int i
  | .inr x=>.str x
inductive HO where
  | lst (xs:List V)
  | tup (xs:List V)
  | dK (kvs:List (Key × V))|dT (kvs:List (List Key × V))
  | set (S:Int→Bool) (n:Nat)
  | ins (C dx:av) (fs:List (bc × V))
  | own (x:av)
  | xd (fs:List (bc × V))
  | met (f x:av)
  | rng (lo hi:Int)
  | frz (o:eD) (u:HO)
  | tbl (ps:Array ai)
  | ext (φ:bL→Prop)
abbrev Hp:=av→Option HO
def upd(H:Hp)(a:av)(o:HO):Hp:=fun b=>if b=a then some o else H b
theorem i0{H:Hp}{a:av}{o:HO}:upd H a o a=some o:=by unfold upd;rw [aE rfl]
theorem c9{H:Hp}{a b:av}{o:HO}(h:b≠a):upd H a o b=H b:=by unfold upd;rw [aO h]
theorem a8p:upd (upd H a o) a u=upd H a u:=by
  funext b;unfold upd;split <;> rfl
theorem m8{H:Hp}{a b:av}{o:HO}(h:H a=some o)(h':H b=none):a≠b:=by
  intro e;subst e;rw [h] at h';cases h'
def Pin(a:av):HO→Prop
  | .tup _=>True
  | .frz _ (.own b)=>b=a
  | _=>False
abbrev b8K(a:av):={u:HO // Pin a u}
def a3F(H:Hp)(h:bL)(a:av)(qs:Array ai):Prop:=
  ∃ps:Array ai,h.get? a=some {cls:=.none,data:=.fields ps}∧jz ps.toList∧∀(pos:ek) (cv:ai),kz pos ps.toList=some cv→
    ∃c' oc vs q t t',cv=.ref c'∧H c'=some (.frz oc (.own a))∧oc.data=.fields vs∧vs[1]?=some (.str q t)∧qs[0]?=some (.str q t')
section
variable (P:bh)(w:bE)
def ObjOk(H:Hp)(h:bL)(a:av):HO→Prop
  | .lst xs=>xs.length≤aS∧∃(bU:List ai) (n:Nat),Vals xs bU∧h.get? a=some {cls:=.type "list",data:=.seq bU.toArray n}
  | .tup xs=>xs.length≤aS∧∃bU:List ai,Vals xs bU∧IsTup h a bU.toArray
  | .dK kvs=>kvs.length≤aS∧(a == dF)=false∧∃vs,KV kvs vs∧h.DictOf (a4y P w) a vs
  | .dT kvs=>kvs.length≤aS∧(a == dF)=false∧∃xs:List (List Key × av × ai),
      fq (fun (p:List Key × V) (q:List Key × av × ai)=>p.1=q.1∧H q.2.1=some (.tup (p.1.map kV))∧RelV p.2 q.2.2) kvs xs∧
      ∃o es ep,h.get? a=some o∧o.ExactDict∧o.data=.dict es ep∧es.toList=xs.map (entryOfKey (tupleKind (a4y P w)))∧(xs.map (·.1)).Nodup
  | .set S n=>h.SetOf (fW P w) a S n
  | .ins C dx fs=>H dx=some (.own a)∧fs.length≤1000∧dx≠a∧h.get? a=some (nB C dx)∧
      ∃mA,h.Ns1 dx mA∧(∀f,b6a (fs.lookup f) (mA f))∧PySem.Within mA (fs.map (·.1))
  | .own _=>∃o,h.get? a=some o
  | .xd fs=>∃mA,h.Ns1 a mA∧∀f,b6a (fs.lookup f) (mA f)
  | .rng lo hi=>∃t u v,h.get? a=some {cls:=.type "range",data:=.fields #[.int lo t,.int hi u,.int 1 v]}
  | .frz o u=>h.get? a=some o∧ObjOk H h a u
  | .tbl ps=>a3F H h a ps
  | .met f x=>h.get? a=some (mn (.ref f) (.ref x))
  | .ext φ=>φ h∧(∃o,h.get? a=some o)∧∀h1 h2:bL,φ h1→(∀o,h1.get? a=some o→h2.get? a=some o)→φ h2
def HOk(H:Hp)(h:bL):Prop:=∀a o,H a=some o→ObjOk P w H h a o
end
section
variable {P:bh}{w:bE}{H H':Hp}{h h':bL}{a:av}{o:HO}
theorem ObjOk.lt(x:ObjOk P w H h a o):a < h.objs.size:=by
  cases o with
  | lst xs=>obtain⟨_,_,_,_,e⟩:=x;exact aN e
  | tup xs=>obtain⟨_,_,_,p⟩:=x;exact p.lt
  | dK kvs=>obtain⟨_,_,_,_,o,_,_,e,_⟩:=x;exact aN e
  | dT kvs=>obtain⟨_,_,_,_,o,_,_,e,_⟩:=x;exact aN e
  | set S n=>obtain⟨o,_,_,_,e,_⟩:=x;exact aN e
  | ins C dx fs=>obtain⟨_,_,_,e,_⟩:=x;exact aN e
  | own y=>obtain⟨_,e⟩:=x;exact aN e
  | xd fs=>obtain⟨_,⟨_,_,_,e,_⟩,_⟩:=x;exact aN e
  | rng lo hi=>obtain⟨_,_,_,e⟩:=x;exact aN e
  | frz ob u=>obtain⟨e,_⟩:=x;exact aN e
  | tbl ps=>obtain⟨_,e,_⟩:=(show a3F H h a ps from x);exact aN e
  | met f y=>exact aN (show h.get? a=some _ from x)
  | ext φ=>obtain⟨_,⟨_,e⟩,_⟩:=x;exact aN e
theorem Paired.mapP:∀{l₁:List α} {l₂:List β},fq F l₁ l₂→(∀a b,F a b→G a b)→fq G l₁ l₂
  | _,_,.nil,_=>.nil
  | _,_,.cons r t,f=>.cons (f _ _ r) (Paired.mapP t f)
theorem ObjOk.stay(x:ObjOk P w H h a o)(k:∀b u,(b=a∨H b=some (.own a))→h.get? b=some u→h'.get? b=some u)
    (ho:∀b,H b=some (.own a)→H' b=some (.own a)) (ht:∀b (u:b8K a),H b=some u.1→H' b=some u.1):ObjOk P w H' h' a o:=by
  induction o with
  | lst xs=>obtain⟨z,bU,n,r,e⟩:=x;exact⟨z,bU,n,r,k _ _ (.inl rfl) e⟩
  | tup xs=>obtain⟨z,bU,r,ob,e,c⟩:=x;exact⟨z,bU,r,ob,k _ _ (.inl rfl) e,c⟩
  | dK kvs=>obtain⟨z,y,vs,r,ob,es,ep,e,c⟩:=x;exact⟨z,y,vs,r,ob,es,ep,k _ _ (.inl rfl) e,c⟩
  | dT kvs=>
    obtain⟨z,y,xs,r,ob,es,ep,e,c⟩:=x;exact⟨z,y,xs,Paired.mapP r fun p q z=>⟨z.1,ht _ ⟨.tup _,trivial⟩ z.2.1,z.2.2⟩,ob,es,ep,k _ _ (.inl rfl) e,c⟩
  | set S n=>obtain⟨ob,es,ep,t,e,c⟩:=x;exact⟨ob,es,ep,t,k _ _ (.inl rfl) e,c⟩
  | ins C dx fs=>
    obtain⟨d,z,ne,e,mA,⟨od,es,ep,e2,c⟩,r⟩:=x;exact⟨ho _ d,z,ne,k _ _ (.inl rfl) e,mA,⟨od,es,ep,k _ _ (.inr d) e2,c⟩,r⟩
  | own y=>obtain⟨ob,e⟩:=x;exact⟨ob,k _ _ (.inl rfl) e⟩
  | xd fs=>obtain⟨mA,⟨od,es,ep,e,c⟩,r⟩:=x;exact⟨mA,⟨od,es,ep,k _ _ (.inl rfl) e,c⟩,r⟩
  | rng lo hi=>obtain⟨t,u,v,e⟩:=x;exact⟨t,u,v,k _ _ (.inl rfl) e⟩
  | frz ob u ih=>obtain⟨e,q⟩:=x;exact⟨k _ _ (.inl rfl) e,ih q⟩
  | tbl ps=>
    obtain⟨qs,e,t,f⟩:=(show a3F H h a ps from x);refine⟨qs,k a _ (.inl rfl) e,t,fun pos cv z=>?_⟩;obtain⟨c,oc,vs,q,t1,t2,z1,z2,z3,z4,z5⟩:=f pos cv z;exact⟨c,oc,vs,q,t1,t2,z1,ht c ⟨.frz _ (.own a),rfl⟩ z2,z3,z4,z5⟩
  | met f y=>
    have e:h.get? a=some (mn (.ref f) (.ref y)):=x;show h'.get? a=some (mn (.ref f) (.ref y));exact k a _ (.inl rfl) e
  | ext φ=>obtain⟨p,⟨o,e⟩,st⟩:=x;exact⟨st _ _ p fun o q=>k _ _ (.inl rfl) q,⟨o,k _ _ (.inl rfl) e⟩,st⟩
theorem HOk.lt(x:HOk P w H h)(e:H a=some o):a < h.objs.size:=(x a o e).lt
theorem HOk.fresh(x:HOk P w H h)(e:h.objs.size≤a):H a=none:=by
  cases q:H a with
  | none=>rfl
  | some u=>exact absurd (aW (x.lt q) e) (cE _)
theorem HOk.kept(x:HOk P w H h)(k:∀b u,h.get? b=some u→h'.get? b=some u):HOk P w H h':=fun a o e=>
  (x a o e).stay (fun b u _ q=>k b u q) (fun _ q=>q) fun _ _ q=>q
theorem HOk.laid(x:HOk P w H h)(k:∀b u,h.get? b=some u→h'.get? b=some u)(hp:h.objs.size≤a)(new:ObjOk P w (upd H a o) h' a o):HOk P w (upd H a o) h':=fun b u e=>by
  have hn:=x.fresh hp;by_cases hb:b=a
  · subst hb;rw [i0] at e;cases e;exact new
  · rw [c9 hb] at e
    exact (x b u e).stay (fun c v _ q=>k c v q) (fun c q=>by rw [c9 (m8 q hn)];exact q) fun c xs q=>by rw [c9 (m8 q hn)];exact q
end
def Rd(H:Hp)(a:av)(u:HO):Prop:=H a=some u∨∃o,H a=some (.frz o u)
theorem Rd.ok{P:bh}{w:bE}{H:Hp}{h:bL}{a:av}{u:HO}(r:Rd H a u)(x:HOk P w H h):ObjOk P w H h a u:=by
  rcases r with r|⟨o,r⟩
  · exact x a u r
  · obtain⟨_,q⟩:=x a _ r
    exact q
def Mut:Option HO→Prop
  | some (.lst _)=>True
  | some (.dK _)=>True
  | some (.dT _)=>True
  | some (.set _ _)=>True
  | some (.ins _ _ _)=>True
  | some (.ext _)=>True
  | _=>False
section
variable {P:bh}{w:bE}{H:Hp}{h h':bL}{x e:av}{o':HO}
theorem HOk.write(ok:HOk P w H h)(mu:Mut (H x))(he:e=x∨H e=some (.own x))(k:∀b u,b≠e→h.get? b=some u→h'.get? b=some u)(sJ:∃u,h'.get? e=some u)
    (new:ObjOk P w (upd H x o') h' x o'):HOk P w (upd H x o') h':=fun b u q=>by
  have tG:∀c y,H c=some (.own y)→c≠x:=fun c y r z=>by subst z;rw [r] at mu;exact mu
  have wq:∀{bq:av} c (u:b8K bq),H c=some u.1→c≠x:=fun {bq} c u r z=>by subst z;rw [r] at mu;obtain⟨u,hu⟩:=u;cases u <;> first|exact hu|exact mu
  by_cases hb:b=x
  · subst hb;rw [i0] at q;cases q;exact new
  · rw [c9 hb] at q
    by_cases rM:b=e
    · have q':H b=some (.own x):=by
        rcases he with z|z
        · exact absurd (rM.trans z) hb
        · rw [rM];exact z
      rw [q] at q';cases q';obtain⟨v,hv⟩:=sJ;exact⟨v,by rw [rM];exact hv⟩
    · refine (ok b u q).stay (fun c v hc r=>k c v ?_ r) (fun c r=>by rw [c9 (tG c b r)];exact r) fun c xs r=>by rw [c9 (wq c xs r)];exact r
      rcases hc with rfl|hc
      · exact rM
      · rintro rfl
        rcases he with z|z
        · exact tG c b hc z
        · rw [hc] at z;cases z;exact hb rfl
end
structure Un (fs ex:List av) (H H':Hp) (h h':bL):Prop where
  keep:∀b o,h.get? b=some o→H b=none→b∉fs→b∉ex→h'.get? b=some o
  slot:∀b o,h.get? b=some o→H b=none→b∈fs→b∉ex→∃sl,h'.get? b=some {o with slots:=sl}
  free:∀b o,h.get? b=some o→H b=none→b∉ex→H' b=none
  there:∀b o,h.get? b=some o→b∉ex→∃o',h'.get? b=some o'
  tups:∀b xs,H b=some (.tup xs)→H' b=some (.tup xs)
  frzs:∀b o u,H b=some (.frz o u)→H' b=some (.frz o u)
  tbls:∀b ps,H b=some (.tbl ps)→∃more,H' b=some (.tbl (ps ++ more))
section
variable {fs kL ex Ee:List av}{H H1 H2:Hp}{h h1 h2 h':bL}{a x e:av}{o:HO}
theorem Un.any(u:Un fs ex H H1 h h1)(q:h.get? b=some ob)(n:H b=none)(hx:b∉ex):∃sl,h1.get? b=some {ob with slots:=sl}:=by
  by_cases hb:b∈fs
  · exact u.slot b ob q n hb hx
  · exact⟨ob.slots,u.keep b ob q n hb hx⟩
theorem Un.kept(k:∀b u,h.get? b=some u→h'.get? b=some u):Un fs ex H H h h':=
  ⟨fun b ob q _ _ _=>k b ob q,fun b ob q _ _ _=>⟨ob.slots,k b ob q⟩,fun _ _ _ n _=>n,fun b ob q _=>⟨ob,k b ob q⟩,fun _ _ q=>q,fun _ _ _ q=>q,fun _ ps q=>⟨#[],by rw [q];simp⟩⟩
theorem Un.refl:Un fs ex H H h h:=Un.kept fun _ _ q=>q
theorem Un.laid(k:∀b u,h.get? b=some u→h'.get? b=some u)(hp:h.objs.size≤a)(hn:H a=none):Un fs ex H (upd H a o) h h' where
  keep:=fun b u q _ _ _=>k b u q
  slot:=fun b u q _ _ _=>⟨u.slots,k b u q⟩
  free:=fun b u q n _=>by rw [c9 (bj (aW (aN q) hp))];exact n
  there:=fun b u q _=>⟨u,k b u q⟩
  tups:=fun b xs q=>by rw [c9 (m8 q hn)];exact q
  frzs:=fun b u xs q=>by rw [c9 (m8 q hn)];exact q
  tbls:=fun b ps q=>⟨#[],by rw [c9 (m8 q hn),q];simp⟩
theorem Un.write(mu:Mut (H x))(he:e=x∨H e=some (.own x))(k:∀b u,b≠e→h.get? b=some u→h'.get? b=some u)(sJ:∃u,h'.get? e=some u):Un fs ex H (upd H x o) h h':=by
  have hx:∀b,H b=none→b≠x:=fun b n z=>by subst z;rw [n] at mu;exact mu
  have hb:∀b,H b=none→b≠e:=fun b n z=>by
    subst z;rcases he with r|r
    · exact hx b n r
    · rw [n] at r;cases r
  have hm:∀b u,H b=some u→¬ Mut (some u)→b≠x:=fun b u q nm z=>by subst z;rw [q] at mu;exact nm mu
  refine⟨fun b u q n _ _=>k b u (hb b n) q,fun b u q n _ _=>⟨u.slots,k b u (hb b n) q⟩,fun b u q n _=>by rw [c9 (hx b n)];exact n,fun b u q _=>?_,
    fun b xs q=>by rw [c9 (hm b _ q fun z=>z)];exact q,fun b u xs q=>by rw [c9 (hm b _ q fun z=>z)];exact q,fun b ps q=>⟨#[],by rw [c9 (hm b _ q fun z=>z),q];simp⟩⟩
  by_cases rM:b=e
  · subst rM;exact sJ
  · exact⟨u,k b u rM q⟩
end
def trk(h:bL)(H:Hp):List av:=(aJ h.objs.size).filter fun a=>(H a).isSome
def a4z(h:bL)(H:Hp):bL:=fm h (trk h H)
theorem a9v(h:bL)(H:Hp):(a4z h H).objs.size=h.objs.size:=PySem.W.hideAll_size _ _
theorem b0W{h:bL}(e:h.get? b=some o)(n:H b=none):(a4z h H).get? b=some o:=
  vU _ e fun hm=>by
    have q:(H b).isSome=true:=(dc.mp hm).2;rw [n] at q;simp at q
theorem b3F(e:(a4z h H).get? b=some o):h.get? b=some o∧H b=none:=by
  have e':h.get? b=some o:=ye (trk h H) e;refine⟨e',?_⟩;cases q:H b with
  | none=>rfl
  | some x=>
    have hm:b∈trk h H:=dc.mpr ⟨bo.mpr (aN e'),by simp [q]⟩;have z:(a4z h H).get? b=none:=PySem.W.hideAll_none (trk h H) hm;rw [z] at e;cases e
def b3G(g h:bL)(L:av):List (av × eD):=(aJ h.objs.size).filterMap fun a=>if a=L∨(g.get? a).isSome=true then none else (h.get? a).map fun o=>(a,o)
def rest(g h:bL)(L d:av):List (av × eD):=(b3G g h L).filter fun p=>decide (p.1≠d)
end L2
namespace L2
open PySem PySem.Spec PyProof.Rows
def K5:List bc:=["ways_by_state","joins_by_pair","compare","first_gathering","least_asks"]
def S8(x:bc):bc:=x ++ ".<locals>." ++ "<lambda>"
def a4A(K:af)(cd:ai):Option av:=match cd with
  | .ref c=>(match K.lookup c with
    | some ⟨.type n,_,.fields vs,_⟩=>if n == "code" then
        (match (vs[11]?:Option ai),(vs[18]?:Option ai),(vs[7]?:Option ai),(vs[9]?:Option ai),(vs[10]?:Option ai) with
        | some (.ref P),some (.str _ _),some (.int _ _),some (.bool _),some (.int _ _)=>if c != P then some P else none
        | _,_,_,_,_=>none) else none
    | _=>none)
  | _=>none
def x8(K:af)(x:bc):Option av:=match bH K aV x with
  | some (some (.ref f))=>(match K.lookup f with
    | some ⟨_,_,.func fd,_⟩=>a4A K fd.code
    | _=>none)
  | _=>none
def TabsIn(K:af)(H:Hp):Prop:=∀x∈K5,∀p,x8 K x=some p→∃qs t,H p=some (.tbl qs)∧qs[0]?=some (.str (S8 x) t)
theorem TabsIn.un{K:af}{fs ex:List av}{H H':Hp}{h h':bL}(a:TabsIn K H)(u:Un fs ex H H' h h'):TabsIn K H':=fun x hx p e=>by
  obtain⟨qs,t,e1,e2⟩:=a x hx p e;obtain⟨more,e3⟩:=u.tbls p qs e1;refine⟨_,t,e3,?_⟩;have hz:0 < qs.size:=by
    rcases et 0 qs.size with z|z
    · exact z
    · rw [dU (by omega)] at e2;cases e2
  rw [Array.getElem?_append_left hz];exact e2
structure Mod (K:af) (mg:bc→Option ai) (base:bL):Prop where
  kin:K.In base
  glob:base.Ns aV mg
  blt:∃mb,base.Ns jB mb∧∀x:bc,x≠"__name__"→mb x=gz x
  nolimit:base.NoLimit
  bmain:∃bm ob,mg "__builtins__"=some (.ref bm)∧bm≠jB∧base.get? bm=some ob∧ob.cls=.type "module"∧ob.dict=some jB∧ob.data=.plain
/-- nJ context: a uT body (or a iF block) running. base: fixed through nJ whole law; s₀, H₀: nJ entry; outer: nJ frames tq slots others may change (a uT vS); stack: all frames pB run;
   ex: su pB wb made ahead of nJ entry and are walked here (a iF);fn: nJ names tq cells wb made at nJ entry (a def: all;a iF block: bU own);calm: not within an except yr;pn: pins pB zA state bears;xe: Aa is wanted of an exception pB wD nJ code -/
structure Cx where
  prog:bh
  w:bE
  K:af
  mg:bc→Option ai
  base:bL
  A:bx
  N:List bc
  s₀:ak
  H₀:Hp
  env:lQ
  outer:List lQ
  stack:List lQ
  ex:List av
  fn:bc→Bool
  calm:Bool
  pn:List (av × eD)
  xe:ai→ak→Prop
def frs(l:List lQ):List av:=l.filterMap (·.frame)
abbrev Cx.fs(X:Cx):List av:=frs X.outer
def Vis(sc:fE)(x:bc):Prop:=sc.names.lookup x=some .local∨sc.names.lookup x=some .cell∨sc.names.lookup x=some .free
def Loc(sc:fE)(x:bc):Prop:=sc.names.lookup x=some .local∨sc.names.lookup x=some .cell
def Look(env:lQ)(h:bL)(m:bc→Option ai)(x:bc)(u:ai):Prop:=
  (env.kindOf x=some .local∧m x=some u)∨((env.kindOf x=some .cell∨env.kindOf x=some .free)∧∃c,env.cells.lookup x=some c∧h.IsCell c (some u))
structure Cx.Ok (X:Cx):Prop where
  mod:Mod X.K X.mg X.base
  kind:X.env.scope.kind=.function
  glob:X.env.globals=aV
  blt:X.env.builtins=jB
  above:X.s₀.heap.objs.size≤X.env.locals
  inj:∀x y c,X.env.cells.lookup x=some c→X.env.cells.lookup y=some c→x=y
  has:∀x,(X.env.kindOf x=some .cell∨X.env.kindOf x=some .free)→∃c,X.env.cells.lookup x=some c
  cab:∀x c,X.fn x=true→X.env.cells.lookup x=some c→X.s₀.heap.objs.size≤c
  hd:X.calm=true→X.A.handled=none
  frames:X.A.frames=some X.stack
  stk:X.stack=X.outer∨(X.stack=X.env :: X.outer∧X.env.frame=some X.env.locals)
  exf:∀b∈X.ex,b≠X.env.locals∧∀x c,X.env.cells.lookup x=some c→c≠b
  bs:∀b o,X.base.get? b=some o→X.s₀.heap.get? b=some o∧X.H₀ b=none
  bsz:X.base.objs.size≤X.s₀.heap.objs.size
  noex:∀b o,X.base.get? b=some o→b∉X.ex
  exfs:∀b∈X.ex,b∉X.fs
  funs:X.s₀.heap.FunFrames X.base X.outer
  frf:∀b∈X.fs,X.H₀ b=none
  tabs:TabsIn X.K X.H₀
structure Inv (X:Cx) (pins:List (av × eD)) (σ:List (Option V)) (H:Hp) (s:ak):Prop where
  ok:X.Ok
  os:s.os=X.s₀.os
  bare:i_ s.gens
  base:Un X.fs X.ex X.H₀ H X.s₀.heap s.heap
  loc:∃m,s.heap.Ns X.env.locals m∧∀(i:Nat) (x:bc) (v:V),X.N[i]?=some x→σ[i]?=some (some v)→Vis X.env.scope x→∃u,RelV v u∧Look X.env s.heap m x u
  cell:∀x c,X.env.cells.lookup x=some c→∃v,s.heap.IsCell c v
  free:H X.env.locals=none
  freeC:∀x c,X.env.cells.lookup x=some c→H c=none
  pin:∀p∈X.pn ++ pins,s.heap.get? p.1=some p.2∧H p.1=none∧p.1≠X.env.locals∧p.1∉X.fs∧∀v,p.2.data≠.cell v
  hok:HOk X.prog X.w H s.heap
  len:σ.length=X.N.length
section
variable {X:Cx}{pins:List (av × eD)}{σ:List (Option V)}{H H':Hp}{s:ak}{h':bL}
theorem Cx.Ok.nofr(ok:X.Ok)(e:X.base.get? b=some o):b∉X.fs:=fun hb=>by
  have:=(ok.funs.mem hb).1;rw [e] at this;cases this
theorem Inv.bs(I:Inv X pins σ H s):∀b o,X.base.get? b=some o→s.heap.get? b=some o∧H b=none:=fun b o e=>
  ⟨I.base.keep b o (I.ok.bs b o e).1 (I.ok.bs b o e).2 (I.ok.nofr e) (I.ok.noex b o e),I.base.free b o (I.ok.bs b o e).1 (I.ok.bs b o e).2 (I.ok.noex b o e)⟩
theorem Inv.tabs(I:Inv X pins σ H s):TabsIn X.K H:=I.ok.tabs.un I.base
theorem Inv.bk(I:Inv X pins σ H s):∀b o,X.base.get? b=some o→s.heap.get? b=some o:=fun b o e=>(I.bs b o e).1
theorem Inv.mod(I:Inv X pins σ H s):Mod X.K X.mg X.base:=I.ok.mod
theorem Inv.kIn(I:Inv X pins σ H s):X.K.In s.heap:=I.ok.mod.kin.keeps I.bk
theorem Inv.lt(I:Inv X pins σ H s):X.env.locals < s.heap.objs.size:=let⟨_,hn,_⟩:=I.loc;hn.lt
theorem Inv.sz(I:Inv X pins σ H s):X.s₀.heap.objs.size≤s.heap.objs.size:=cI I.ok.above (dA I.lt)
theorem Inv.nofs(I:Inv X pins σ H s)(h:s.heap.objs.size≤a):a∉X.fs:=fun hb=>by
  obtain⟨_,o,ho,_⟩:=I.ok.funs.mem hb;exact absurd (aW (aN ho) (cI I.sz h)) (cE _)
theorem Inv.cne(I:Inv X pins σ H s):∀x c,X.env.cells.lookup x=some c→c≠X.env.locals:=fun x c e z=>by
  obtain⟨v,o,ho,hd⟩:=I.cell x c e;obtain⟨m,⟨o',es,ep,kO,jU,_⟩,_⟩:=I.loc;rw [z,kO] at ho;cases ho;rw [jU] at hd;cases hd
theorem Inv.funs(I:Inv X pins σ H s):s.heap.FunFrames X.base X.outer:=by
  have all:∀(l:List lQ),(∀b∈frs l,b∈X.fs)→X.s₀.heap.FunFrames X.base l→s.heap.FunFrames X.base l:=by
    intro l
    induction l with
    | nil=>intro _ _;trivial
    | cons env r ih=>
      intro hs hl;obtain⟨hk,⟨L,o,hf,hn,ho,hd⟩,hr⟩:=hl;have hL:L∈X.fs:=hs L (by unfold frs;rw [gh,hf];exact ah);obtain⟨sl,e⟩:=I.base.slot L o ho (I.ok.frf L hL) hL fun z=>I.ok.exfs L z hL
      exact⟨hk,⟨L,_,hf,hn,e,hd⟩,ih (fun b hb=>hs b (by unfold frs;rw [gh,hf];exact ao _ hb)) hr⟩
  exact all X.outer (fun _ hb=>hb) I.ok.funs
theorem Inv.stack(I:Inv X pins σ H s):s.heap.FunFrames X.base X.stack:=by
  rcases I.ok.stk with e|⟨e,hf⟩
  · rw [e];exact I.funs
  · rw [e]
    obtain⟨m,hn,_⟩:=I.loc;refine .cons (by rw [I.ok.kind];decide) hf hn ?_ I.funs;exact bL.get?_none_of_le (cI I.ok.bsz I.ok.above)
theorem Inv.stkSub(I:Inv X pins σ H s):∀b∈frs X.stack,b∈X.env.locals :: X.fs:=fun b hb=>by
  rcases I.ok.stk with e|⟨e,hf⟩
  · rw [e] at hb;exact ao _ hb
  · rw [e] at hb
    unfold frs at hb;rw [gh,hf] at hb;exact hb
theorem Inv.stkFree(I:Inv X pins σ H s):∀b∈frs X.stack,H b=none:=fun b hb=>by
  rcases aH.mp (I.stkSub b hb) with e|hb
  · rw [e];exact I.free
  · obtain⟨_,o,ho,_⟩:=I.ok.funs.mem hb
    exact I.base.free b o ho (I.ok.frf b hb) fun z=>I.ok.exfs b z hb
theorem Inv.step{g':Array GenState}{t':Nat}{d':Drawn}{ch:List av}(I:Inv X pins σ H s)
    (oR:∀b∈ch,(b∈X.ex∨X.s₀.heap.objs.size≤b)∧b≠X.env.locals∧(∀x c,X.env.cells.lookup x=some c→c≠b)∧∀p∈X.pn ++ pins,p.1≠b)
    (keep:∀b o,b≠X.env.locals→b∉X.fs→b∉ch→s.heap.get? b=some o→H b=none→h'.get? b=some o)
    (slot:∀b o,b≠X.env.locals→b∈X.fs→b∉ch→s.heap.get? b=some o→H b=none→∃sl,h'.get? b=some {o with slots:=sl}) (free:∀b o,b∉ch→s.heap.get? b=some o→H b=none→H' b=none)
    (there:∀b o,b∉ch→s.heap.get? b=some o→∃o',h'.get? b=some o')
    (tups:∀b xs,H b=some (.tup xs)→H' b=some (.tup xs)) (frzs:∀b o u,H b=some (.frz o u)→H' b=some (.frz o u)) (tbls:∀b ps,H b=some (.tbl ps)→∃more,H' b=some (.tbl (ps ++ more)))
    (ns:∀m,s.heap.Ns X.env.locals m→h'.Ns X.env.locals m) (hok:HOk X.prog X.w H' h') (hg:i_ g') :
    Inv X pins σ H' {s with heap:=h',gens:=g',drawn:=d',toks:=t'}:=by
  have yC:∀b o,X.s₀.heap.get? b=some o→b≠X.env.locals:=fun b o e=>bj (aW (aN e) I.ok.above)
  have vk:∀b o,X.s₀.heap.get? b=some o→b∉X.ex→b∉ch:=fun b o e hx hb=>by
    rcases (oR b hb).1 with z|z
    · exact hx z
    · exact absurd (aW (aN e) z) (cE _)
  have cellK:∀x c,X.env.cells.lookup x=some c→∀v,s.heap.IsCell c v→h'.IsCell c v:=fun x c e v ⟨o,ho,hd⟩=>by
    have nX:c∉ch:=fun z=>(oR c z).2.2.1 x c e rfl
    by_cases hc:c∈X.fs
    · obtain⟨sl,q⟩:=slot c o (I.cne x c e) hc nX ho (I.freeC x c e)
      exact⟨_,q,hd⟩
    · exact⟨o,keep c o (I.cne x c e) hc nX ho (I.freeC x c e),hd⟩
  refine⟨I.ok,I.os,hg,⟨fun b o e n hb hx=>?_,fun b o e n hb hx=>?_,fun b o e n hx=>?_,fun b o e hx=>?_,fun b xs e=>tups b xs (I.base.tups b xs e),fun b o xs e=>frzs b o xs (I.base.frzs b o xs e),fun b ps e=>?_⟩,?_,fun x c e=>?_,?_,fun x c e=>?_,fun p hp=>?_,hok,I.len⟩
  · exact keep b o (yC b o e) hb (vk b o e hx) (I.base.keep b o e n hb hx) (I.base.free b o e n hx)
  · obtain⟨sl,e1⟩:=I.base.slot b o e n hb hx
    obtain⟨sk,e2⟩:=slot b _ (yC b o e) hb (vk b o e hx) e1 (I.base.free b o e n hx);exact⟨sk,e2⟩
  · obtain⟨o',e1⟩:=I.base.there b o e hx
    exact free b o' (vk b o e hx) e1 (I.base.free b o e n hx)
  · obtain⟨o',e1⟩:=I.base.there b o e hx
    exact there b o' (vk b o e hx) e1
  · obtain⟨m1,e1⟩:=I.base.tbls b ps e
    obtain⟨m2,e2⟩:=tbls b _ e1;exact⟨m1 ++ m2,by rw [e2,yo]⟩
  · obtain⟨m,hn,hl⟩:=I.loc
    refine⟨m,ns m hn,fun i x v e1 e2 e3=>?_⟩;obtain⟨u,r,l⟩:=hl i x v e1 e2 e3;refine⟨u,r,?_⟩;rcases l with l|⟨k,c,e,z⟩
    · exact .inl l
    · exact .inr ⟨k,c,e,cellK x c e _ z⟩
  · obtain⟨v,z⟩:=I.cell x c e
    exact⟨v,cellK x c e v z⟩
  · obtain⟨m,⟨o,_,_,ho,_⟩,_⟩:=I.loc
    exact free _ o (fun z=>(oR _ z).2.1 rfl) ho I.free
  · obtain⟨v,o,ho,hd⟩:=I.cell x c e
    exact free c o (fun z=>(oR c z).2.2.1 x c e rfl) ho (I.freeC x c e)
  · obtain⟨e,n,ne,nf,d⟩:=I.pin p hp
    have nX:p.1∉ch:=fun z=>(oR p.1 z).2.2.2 p hp rfl
    exact⟨keep p.1 p.2 ne nf nX e n,free p.1 p.2 nX e n,ne,nf,d⟩
theorem Inv.un(I:Inv X pins σ H s)(u:Un X.fs [] H H' s.heap h')(hok:HOk X.prog X.w H' h'):Inv X pins σ H' {s with heap:=h',toks:=t'}:=by
  obtain⟨m,⟨o,es,ep,ho,r⟩,_⟩:=id I.loc;obtain⟨sl,hL⟩:=u.any ho I.free (by simp);exact I.step (g':=s.gens) (d':=s.drawn) (ch:=[]) (fun _ z=>nomatch z) (fun b o _ hb _ e n=>u.keep b o e n hb (by simp)) (fun b o _ hb _ e n=>u.slot b o e n hb (by simp)) (fun b o _ e n=>u.free b o e n (by simp)) (fun b o _ e=>u.there b o e (by simp)) u.tups u.frzs u.tbls (fun m' hm=>by
    obtain⟨o',gr,nQ,kO,r'⟩:=hm;rw [ho] at kO;cases kO;exact⟨_,gr,nQ,hL,r'⟩) hok I.bare
theorem Inv.call(I:Inv X pins σ H s)(u:Un (frs X.stack) ch H H' s.heap h')(hok:HOk X.prog X.w H' h')(hg:i_ g')
    (oR:∀b∈ch,(b∈X.ex∨X.s₀.heap.objs.size≤b)∧b≠X.env.locals∧(∀x c,X.env.cells.lookup x=some c→c≠b)∧∀p∈X.pn ++ pins,p.1≠b) :
    Inv X pins σ H' {s with heap:=h',gens:=g',drawn:=d',toks:=t'}:=by
  obtain⟨m,⟨o,es,ep,ho,r⟩,_⟩:=id I.loc;obtain⟨sl,hL⟩:=u.any ho I.free fun z=>(oR _ z).2.1 rfl
  exact I.step (ch:=ch) oR (fun b o hL hb hc e n=>u.keep b o e n (fun z=>(aH.mp (I.stkSub b z)).elim hL hb) hc) (fun b o _ _ hc e n=>u.any e n hc) (fun b o hc e n=>u.free b o e n hc) (fun b o hc e=>u.there b o e hc) u.tups u.frzs u.tbls (fun m' hm=>by
    obtain⟨o',gr,nQ,kO,r'⟩:=hm;rw [ho] at kO;cases kO;exact⟨_,gr,nQ,hL,r'⟩) hok hg
theorem Inv.turned(I:Inv X pins σ H s)(k:∀b o,b≠it→s.heap.get? b=some o→h'.get? b=some o)(hn:H it=none)(hL:it≠X.env.locals)
    (h1:it∈X.ex∨X.s₀.heap.objs.size≤it) (h2:∀x c,X.env.cells.lookup x=some c→c≠it) (h3:∀p∈X.pn ++ pins,p.1≠it):Inv X pins σ H {s with heap:=h',toks:=t'}:=by
  have yz:∀b u,H b=some u→b≠it:=fun b u e z=>by rw [z,hn] at e;cases e
  refine I.step (g':=s.gens) (d':=s.drawn) (ch:=[it]) (fun b hb=>?_) (fun b o _ _ hc e _=>k b o (fun z=>hc (by simp [z])) e) (fun b o _ _ hc e _=>⟨o.slots,k b o (fun z=>hc (by simp [z])) e⟩) (fun _ _ _ _ n=>n)
    (fun b o hc e=>⟨o,k b o (fun z=>hc (by simp [z])) e⟩) (fun _ _ e=>e) (fun _ _ _ e=>e) (fun b ps e=>⟨#[],by rw [e];simp⟩) (fun m hm=>?_) (fun b u e=>?_) I.bare
  · have e:b=it:=by simpa using hb
    subst e;exact⟨h1,hL,h2,h3⟩
  · obtain⟨o,es,ep,ho,r⟩:=hm
    exact⟨o,es,ep,k _ o (eE hL) ho,r⟩
  · refine (I.hok b u e).stay (fun c v hc q=>k c v ?_ q) (fun _ q=>q) fun _ _ q=>q
    rcases hc with z|z
    · rw [z];exact yz b u e
    · exact yz c _ z
theorem Inv.tok(I:Inv X pins σ H s)(t:Nat):Inv X pins σ H {s with toks:=t}:=I.un (h':=s.heap) (t':=t) Un.refl I.hok
theorem Inv.kept(I:Inv X pins σ H s)(k:∀b u,s.heap.get? b=some u→h'.get? b=some u):Inv X pins σ H {s with heap:=h',toks:=t'}:=I.un (Un.kept k) (I.hok.kept k)
theorem Inv.laid{a:av}{o:HO}{t':Nat}(I:Inv X pins σ H s)(k:∀b u,s.heap.get? b=some u→h'.get? b=some u)(hp:s.heap.objs.size≤a)(new:ObjOk X.prog X.w (upd H a o) h' a o) :
    Inv X pins σ (upd H a o) {s with heap:=h',toks:=t'}:=I.un (Un.laid k hp (I.hok.fresh hp)) (I.hok.laid k hp new)
theorem Inv.write(I:Inv X pins σ H s)(mu:Mut (H x))(he:e=x∨H e=some (.own x))(k:∀b u,b≠e→s.heap.get? b=some u→h'.get? b=some u)(sJ:∃u,h'.get? e=some u)
    (new:ObjOk X.prog X.w (upd H x o) h' x o):Inv X pins σ (upd H x o) {s with heap:=h',toks:=t'}:=I.un (Un.write mu he k sJ) (I.hok.write mu he k sJ new)
theorem Inv.pins_of(I:Inv X pins σ H s)(h:∀p∈nW,s.heap.get? p.1=some p.2∧H p.1=none∧p.1≠X.env.locals∧p.1∉X.fs∧∀v,p.2.data≠.cell v):Inv X nW σ H s:=
  ⟨I.ok,I.os,I.bare,I.base,I.loc,I.cell,I.free,I.freeC,fun p hp=>(ay.mp hp).elim (fun z=>I.pin p (aq _ z)) (h p),I.hok,I.len⟩
theorem a2e{N:List bc}(hN:N.Nodup){i j:Nat}{x:bc}(a:N[i]?=some x)(b:N[j]?=some x):i=j:=by
  obtain⟨h1,e1⟩:=aY.mp a;obtain⟨h2,e2⟩:=aY.mp b;exact (List.getElem_inj hN).mp (e1.trans e2.symm)
theorem a9w{M:Model}{A:bx}{E:ai→ak→Prop}{i:Nat}{x:bc}{v:V}{u:ai}{Q:Unit→ak→Prop}(I:Inv X pins σ H s)(hN:X.N.Nodup)(hi:X.N[i]?=some x)(hx:Loc X.env.scope x)(r:RelV v u)
    (h:∀s',Inv X pins (σ.set i (some v)) H s'→(∃a,dN a s.heap s'.heap∧(a=X.env.locals∨X.env.cells.lookup x=some a))→Q () s') (hf:X.fn x=true∨X.env.scope.names.lookup x=some .local:=by first|exact .inl rfl|exact .inr rfl|assumption):aM M A (storeName X.env x u) Q E s:=by
  obtain⟨m,hn,hl⟩:=id I.loc;have rJ:(X.env.scope.kind == .class || (X.env.scope.kind == .module && X.env.locals != X.env.globals))=false:=by rw [I.ok.kind];rfl
  have pO:i < σ.length:=by rw [I.len];exact (aY.mp hi).1
  have cne:=I.cne;have tracked:∀{a:av} {h':bL},(∃o,s.heap.get? a=some o∧H a=none)→dN a s.heap h'→HOk X.prog X.w H h':=fun {a h'} ha hs b ob e=>by
    obtain⟨_,_,jT⟩:=ha;refine (I.hok b ob e).stay (fun c w' hc q=>(hs.2 c ?_).trans q) (fun _ q=>q) fun _ _ q=>q
    rintro rfl;rcases hc with rfl|hc
    · rw [jT] at e;cases e
    · rw [jT] at hc;cases hc
  rcases hx with hk|hk
  · refine wpAny_storeName_local hk hn (fun h' qC hs=>?_) rJ
    obtain⟨oL,_,_,Bp,_⟩:=id hn;refine h _ ⟨I.ok,I.os,I.bare,⟨fun b o e n hb hx=>?_,fun b o e n hb hx=>?_,I.base.free,fun b o e hx=>?_,I.base.tups,I.base.frzs,I.base.tbls⟩,⟨_,qC,fun j y v' e1 e2 e3=>?_⟩,fun y c e=>?_,I.free,I.freeC,fun p hp=>?_,tracked ⟨oL,Bp,I.free⟩ hs,by simpa using I.len⟩ ⟨_,hs,.inl rfl⟩
    · exact (hs.2 b (bj (aW (aN e) I.ok.above))).trans (I.base.keep b o e n hb hx)
    · obtain⟨sl,e1⟩:=I.base.slot b o e n hb hx
      exact⟨sl,(hs.2 b (bj (aW (aN e) I.ok.above))).trans e1⟩
    · obtain⟨o',e1⟩:=I.base.there b o e hx
      exact⟨o',(hs.2 b (bj (aW (aN e) I.ok.above))).trans e1⟩
    · by_cases hj:j=i
      · subst hj
        rw [hi] at e1;cases e1;rw [eW pO] at e2;cases e2
        exact⟨u,r,.inl ⟨hk,by simp⟩⟩
      · rw [dD (eE hj)] at e2
        obtain⟨u',r',q⟩:=hl j y v' e1 e2 e3;refine⟨u',r',?_⟩;rcases q with⟨k,e⟩|⟨k,c,e,z⟩
        · refine .inl ⟨k,?_⟩
          have:y≠x:=fun e=>hj (a2e hN e1 (e ▸ hi))
          simp [this,e]
        · exact .inr ⟨k,c,e,z.sameBut hs (cne y c e)⟩
    · obtain⟨w',z⟩:=I.cell y c e
      exact⟨w',z.sameBut hs (cne y c e)⟩
    · obtain⟨e,n,ne,nf,d⟩:=I.pin p hp
      exact⟨(hs.2 p.1 ne).trans e,n,ne,nf,d⟩
  · have lY:X.fn x=true:=by
      rcases hf with z|z
      · exact z
      · rw [z] at hk;cases hk
    obtain⟨c,hc⟩:=I.ok.has x (.inl hk);obtain⟨w',z⟩:=I.cell x c hc;refine wpAny_storeName_cell I.ok.kind hk hc z (fun h' rL hs=>?_);obtain⟨oc,ub,wY⟩:=id z;refine h {s with heap:=h'} ⟨I.ok,I.os,I.bare,⟨fun b o e n hb hx=>?_,fun b o e n hb hx=>?_,I.base.free,fun b o e hx=>?_,I.base.tups,I.base.frzs,I.base.tbls⟩,⟨m,hn.sameBut hs (eE (cne x c hc)),fun j y v' e1 e2 e3=>?_⟩,fun y c' e=>?_,I.free,I.freeC,fun p hp=>?_,tracked ⟨oc,ub,I.freeC x c hc⟩ hs,by simpa using I.len⟩ ⟨c,hs,.inr hc⟩
    · exact (hs.2 b (bj (aW (aN e) (I.ok.cab x c lY hc)))).trans (I.base.keep b o e n hb hx)
    · obtain⟨sl,e1⟩:=I.base.slot b o e n hb hx
      exact⟨sl,(hs.2 b (bj (aW (aN e) (I.ok.cab x c lY hc)))).trans e1⟩
    · obtain⟨o',e1⟩:=I.base.there b o e hx
      exact⟨o',(hs.2 b (bj (aW (aN e) (I.ok.cab x c lY hc)))).trans e1⟩
    · by_cases hj:j=i
      · subst hj
        rw [hi] at e1;cases e1;rw [eW pO] at e2;cases e2
        exact⟨u,r,.inr ⟨.inl hk,c,hc,rL⟩⟩
      · rw [dD (eE hj)] at e2
        obtain⟨u',r',q⟩:=hl j y v' e1 e2 e3;refine⟨u',r',?_⟩;rcases q with q|⟨k,c',e,z'⟩
        · exact .inl q
        · refine .inr ⟨k,c',e,z'.sameBut hs ?_⟩
          rintro rfl;exact hj (a2e hN e1 (I.ok.inj _ _ _ e hc ▸ hi))
    · by_cases sN:c'=c
      · subst sN;exact⟨_,rL⟩
      · obtain⟨w2,z2⟩:=I.cell y c' e
        exact⟨w2,z2.sameBut hs sN⟩
    · obtain⟨e,n,ne,nf,d⟩:=I.pin p hp
      refine⟨(hs.2 p.1 ?_).trans e,n,ne,nf,d⟩;intro q;rw [q,ub] at e;have q':oc=p.2:=aD e;exact d w' (by rw [←q'];exact wY)
theorem a0i(I:Inv X pins σ H s)(hN:X.N.Nodup)(hi:X.N[i]?=some x)(hx:Loc X.env.scope x)(r:RelV v u)
    (h:∀s',Inv X pins (σ.set i (some v)) H s'→Q () s') (hf:X.fn x=true∨X.env.scope.names.lookup x=some .local:=by first|exact .inl rfl|exact .inr rfl|assumption):aM M A (storeName X.env x u) Q E s:=
  a9w I hN hi hx r (fun s' I' _=>h s' I') hf
theorem Inv.call'{s':ak}(I:Inv X pins σ H s)(ho:s'.os=s.os)(u:Un (frs X.stack) ch H H' s.heap s'.heap)(hok:HOk X.prog X.w H' s'.heap)(hg:i_ s'.gens)
    (oR:∀b∈ch,(b∈X.ex∨X.s₀.heap.objs.size≤b)∧b≠X.env.locals∧(∀x c,X.env.cells.lookup x=some c→c≠b)∧∀p∈X.pn ++ pins,p.1≠b):Inv X pins σ H' s':=by
  obtain⟨h',g',d',t',o'⟩:=s';have e:o'=s.os:=ho;subst e;exact I.call (g':=g') (t':=t') (d':=d') u hok hg oR
end
abbrev XK:=ai→Option av→Hp→Prop
abbrev St:=List (Option V)
abbrev VK:=V→Hp→Prop
abbrev TE:=St→Hp→VK→Prop
abbrev TT:=St→Hp→(Bool→Hp→Prop)→Prop
abbrev TA:=St→Hp→(List V→Hp→Prop)→Prop
structure Ends where
  nx:St→Hp→Prop
  rt:VK
  bk:St→Hp→Prop:=fun _ _=>False
  ct:St→Hp→Prop:=fun _ _=>False
abbrev TS:=Ends→St→Hp→Prop
def EP(X:Cx)(pins:List (av × eD))(σ:St)(Q:VK)(u:ai)(s':ak):Prop:=∃v H',Inv X pins σ H' s'∧RelV v u∧Q v H'
def TP(X:Cx)(pins:List (av × eD))(σ:St)(Q:Bool→Hp→Prop)(b:Bool)(s':ak):Prop:=∃H',Inv X pins σ H' s'∧Q b H'
def AP(X:Cx)(pins:List (av × eD))(σ:St)(Q:List V→Hp→Prop)(us:List ai)(s':ak):Prop:=∃vs H',Inv X pins σ H' s'∧Vals vs us∧Q vs H'
def SP(X:Cx)(pins:List (av × eD))(D:Ends)(f:Flow)(s':ak):Prop:=
  match f with
  | .next=>∃σ' H',Inv X pins σ' H' s'∧D.nx σ' H'
  | .brk=>∃σ' H',Inv X pins σ' H' s'∧D.bk σ' H'
  | .cont=>∃σ' H',Inv X pins σ' H' s'∧D.ct σ' H'
  | .ret u=>∃v σ' H',Inv X pins σ' H' s'∧RelV v u∧D.rt v H'
def PE(X:Cx)(e:Expr)(t:TE):Prop:=
  ∀(pins:List (av × eD)) (s:ak) (σ:St) (H:Hp) (Q:VK),Inv X pins σ H s→t σ H Q→aM (aU X.prog X.w) X.A (bW e X.env) (EP X pins σ Q) X.xe s
def PT(X:Cx)(e:Expr)(t:TT):Prop:=
  ∀(pins:List (av × eD)) (s:ak) (σ:St) (H:Hp) (Q:Bool→Hp→Prop),Inv X pins σ H s→t σ H Q→aM (aU X.prog X.w) X.A (pF e X.env (bW e X.env)) (TP X pins σ Q) X.xe s
def PW(X:Cx)(e:Expr)(t:TT):Prop:=
  ∀(whole:Sem ai) (pins:List (av × eD)) (s:ak) (σ:St) (H:Hp) (Q:Bool→Hp→Prop),Inv X pins σ H s→t σ H Q→aM (aU X.prog X.w) X.A (pF e X.env whole) (TP X pins σ Q) X.xe s
theorem PW.pt(h:PW X e t):PT X e t:=h _
def PA(X:Cx)(es:List Expr)(t:TA):Prop:=
  ∀(pos:ek) (pins:List (av × eD)) (s:ak) (σ:St) (H:Hp) (Q:List V→Hp→Prop),Inv X pins σ H s→t σ H Q→aM (aU X.prog X.w) X.A (spliced (b_ pos (au es X.env))) (AP X pins σ Q) X.xe s
def PS(X:Cx)(st:fT)(t:TS):Prop:=
  ∀(pins:List (av × eD)) (s:ak) (σ:St) (H:Hp) (D:Ends),Inv X pins σ H s→t D σ H→aM (aU X.prog X.w) X.A (exec st X.env) (SP X pins D) X.xe s
def PSs(X:Cx)(st:List fT)(t:TS):Prop:=
  ∀(pins:List (av × eD)) (s:ak) (σ:St) (H:Hp) (D:Ends),Inv X pins σ H s→t D σ H→aM (aU X.prog X.w) X.A (execs st X.env) (SP X pins D) X.xe s
theorem thn{α:Type}{t:Sem α}{Q Q':α→ak→Prop}{M:Model}{A:bx}{E:ai→ak→Prop}{s:ak}(h:aM M A t Q E s)(hQ:∀a s,Q a s→Q' a s):aM M A t Q' E s:=cC h hQ fun _ _ x=>x
end L2
namespace L2
open PySem PySem.Spec PyProof.Rows
section
variable {X:Cx}
def b8L(i:Nat):TE:=fun σ H Q=>∃v,σ[i]?=some (some v)∧Q v H
def tC(v:V):TE:=fun _ H Q=>Q v H
theorem C8(hN:X.N[i]?=some x)(hv:Vis X.env.scope x)(hd:(x == ("__debug__":bc))=false:=by decide)(gJ:(x == ("__classdict__":bc))=false:=by decide):PE X (.Name x pos) (b8L i):=by
  intro pins s σ H Q I h;obtain⟨v,e,h⟩:=h;obtain⟨m,hn,hl⟩:=I.loc;obtain⟨u,r,l⟩:=hl i x v hN e hv;have fin:EP X pins σ Q u s:=⟨v,H,I,r,h⟩;rcases l with⟨hk,hm⟩|⟨hk,c,hc,mX⟩
  · exact wpAny_Name (wpAny_loadName_local I.ok.kind hk hn hm fin) hd
  · rcases hk with hk|hk
    · exact wpAny_Name (wpAny_loadName_cell I.ok.kind hk hc mX fin) hd
    · exact wpAny_Name (wpAny_loadName_free I.ok.kind hk hc mX fin gJ) hd
theorem b0X{i j pos}:PE X (.Constant (.int i) j pos) (tC (.int i)):=fun _ _ _ H _ I h=>wpAny_Constant_int ⟨.int i,H,I.tok _,⟨_,rfl⟩,h⟩
theorem b8M{b j pos}:PE X (.Constant (.bool b) j pos) (tC (.bl b)):=fun _ _ _ H _ I h=>Constant_bool ⟨.bl b,H,I,rfl,h⟩
theorem b6b{j pos}:PE X (.Constant .none j pos) (tC .non):=fun _ _ _ H _ I h=>Constant_none ⟨.non,H,I,rfl,h⟩
theorem b6c{x j pos}:PE X (.Constant (.str x) j pos) (tC (.str x)):=fun _ _ _ H _ I h=>Calls.Constant_str ⟨.str x,H,I.tok _,⟨_,rfl⟩,h⟩
def Gl(X:Cx)(x:bc):Prop:=X.env.kindOf x=some .globalImplicit
theorem V0(I:Inv X pins σ H s)(hg:Gl X x)(hm:X.mg x=some u)(h:Q u s)
    (hd:(x == ("__debug__":bc))=false:=by decide):aM (aU X.prog X.w) X.A (bW (.Name x pos) X.env) Q E s:=
  vb I.ok.kind hg (Calls.loadGlobal_global (by rw [I.ok.glob];exact I.mod.glob.keeps I.bk) hm h) hd
theorem a0G(I:Inv X pins σ H s)(hg:Gl X x)(hm:X.mg x=none)(hv:gz x=some u)(h:Q u s)
    (hn:x≠"__name__":=by decide) (hd:(x == ("__debug__":bc))=false:=by decide):aM (aU X.prog X.w) X.A (bW (.Name x pos) X.env) Q E s:=by
  obtain⟨mb,h1,h2⟩:=I.mod.blt;exact vb I.ok.kind hg (Calls.loadGlobal_builtin (by rw [I.ok.glob];exact I.mod.glob.keeps I.bk) hm (by rw [I.ok.blt];exact h1.keeps I.bk) ((h2 x hn).trans hv) h) hd
theorem a8q(hg:Gl X x)(hm:X.mg x=some u)(r:RelV v u)(hd:(x == ("__debug__":bc))=false:=by decide):PE X (.Name x pos) (tC v):=
  fun _ _ _ H _ I h=>V0 I hg hm ⟨v,H,I,r,h⟩ hd
theorem b3H(hg:Gl X x)(hm:X.mg x=none)(hv:gz x=some u)(r:RelV v u)(hn:x≠"__name__":=by decide)(hd:(x == ("__debug__":bc))=false:=by decide):PE X (.Name x pos) (tC v):=
  fun _ _ _ H _ I h=>a0G I hg hm hv ⟨v,H,I,r,h⟩ hn hd
variable {a b:Expr}{ta tb:TE}{pos:ek}
def tB(t:TE):TT:=fun σ H Q=>t σ H fun x H1=>∃c,x=.bl c∧Q c H1
variable {tA ve:TT}{rest:List Expr}
def c0L(t u:TT):TT:=fun σ H Q=>t σ H fun c H1=>if c=true then u σ H1 Q else Q false H1
def tOr(t u:TT):TT:=fun σ H Q=>t σ H fun c H1=>if c=true then Q true H1 else u σ H1 Q
def c0M(t:TT):TT:=fun σ H Q=>t σ H fun c H1=>Q (!c) H1
theorem b3I(ha:PT X a tA):PW X (.BoolOp .And [a] pos) tA:=by
  intro wh pins s σ H Q I h;refine isTrue_and (thn (ha pins s σ H Q I h) fun c s1 e=>?_);cases c with
  | true=>exact isTrue_and_nil e
  | false=>exact e
theorem b6d(ha:PT X a tA):PW X (.BoolOp .Or [a] pos) tA:=by
  intro wh pins s σ H Q I h;refine isTrue_or (thn (ha pins s σ H Q I h) fun c s1 e=>?_);cases c with
  | false=>exact isTrue_or_nil e
  | true=>exact e
theorem b6e(ha:PT X a tA)(hb:PW X (.BoolOp .And (b :: rest) pos) ve):PW X (.BoolOp .And (a :: b :: rest) pos) (c0L tA ve):=by
  intro wh pins s σ H Q I h;refine isTrue_and (thn (ha pins s σ H _ I h) fun c s1 ⟨H1,I1,q1⟩=>?_);cases c with
  | true=>exact hb wh pins s1 σ H1 Q I1 q1
  | false=>exact⟨H1,I1,q1⟩
theorem b8N(ha:PT X a tA)(hb:PW X (.BoolOp .Or (b :: rest) pos) ve):PW X (.BoolOp .Or (a :: b :: rest) pos) (tOr tA ve):=by
  intro wh pins s σ H Q I h;refine isTrue_or (thn (ha pins s σ H _ I h) fun c s1 ⟨H1,I1,q1⟩=>?_);cases c with
  | true=>exact⟨H1,I1,q1⟩
  | false=>exact hb wh pins s1 σ H1 Q I1 q1
theorem b6f(ha:PT X a tA):PT X (.UnaryOp .Not a pos) (c0M tA):=by
  intro pins s σ H Q I h;exact isTrue_not (ha pins s σ H (fun c H1=>Q (!c) H1) I h)
def b8O(ta tb:TE):TE:=fun σ H Q=>ta σ H fun x H1=>∃c,x=.bl c∧if c=true then tb σ H1 Q else Q (.bl false) H1
def b8P(ta:TE):TE:=fun σ H Q=>ta σ H fun x H1=>∃c,x=.bl c∧Q (.bl (!c)) H1
theorem b6g{op}(h:PE X a t):PE X (.BoolOp op [a] pos) t:=fun pins s σ H Q I hw=>BoolOp_one (h pins s σ H Q I hw)
theorem b6h(ha:PE X a ta)(hb:PE X (.BoolOp .And (b :: rest) pos) tb):PE X (.BoolOp .And (a :: b :: rest) pos) (b8O ta tb):=by
  intro pins s σ H Q I h;refine BoolOp_and (thn (ha pins s σ H _ I h) fun v s1 ⟨x,H1,I1,r1,q1⟩=>?_);obtain⟨c,rfl,q1⟩:=q1;cases r1
  refine cg ?_;cases c with
  | true=>exact hb pins s1 σ H1 Q I1 q1
  | false=>exact⟨.bl false,H1,I1,rfl,q1⟩
theorem b6i(ha:PE X a ta):PE X (.UnaryOp .Not a pos) (b8P ta):=by
  intro pins s σ H Q I h;refine UnaryOp_ (thn (ha pins s σ H _ I h) fun v s1 ⟨x,H1,I1,r1,q1⟩=>?_);obtain⟨c,rfl,q1⟩:=q1;cases r1
  exact not_of (cg ⟨.bl (!c),H1,I1,rfl,q1⟩)
def tIf(t:TT)(ta tb:TE):TE:=fun σ H Q=>t σ H fun c H1=>if c=true then ta σ H1 Q else tb σ H1 Q
theorem b0Y{c:Expr}(hc:PT X c tA)(ha:PE X a ta)(hb:PE X b tb):PE X (.IfExp c a b pos) (tIf tA ta tb):=by
  intro pins s σ H Q I h;refine wpAny_IfExp (thn (hc pins s σ H _ I h) fun d s1 ⟨H1,I1,q1⟩=>?_);cases d with
  | true=>exact ha pins s1 σ H1 Q I1 q1
  | false=>exact hb pins s1 σ H1 Q I1 q1
end
end L2
namespace L2
open PySem PySem.Spec PyProof.Rows
def SqL(K:af)(H:Hp)(a:av)(xs:List V):Prop:=
  Rd H a (.lst xs)∨
    ∃(o:eD) (bU:Array ai) (n:Nat),K.lookup a=some o∧o.cls=.type "list"∧o.dict=none∧o.data=.seq bU n∧bU.size≤aS∧Vals xs bU.toList
def SqT(K:af)(H:Hp)(a:av)(xs:List V):Prop:=
  Rd H a (.tup xs)∨
    ∃(o:eD) (bU:Array ai) (n:Nat),K.lookup a=some o∧o.cls=.type "tuple"∧o.data=.seq bU n∧bU.size≤aS∧Vals xs bU.toList
def c0N:ai→Option V
  | .none=>some .non
  | .bool b=>some (.bl b)
  | .int i _=>some (.int i)
  | .str x _=>some (.str x)
  | .bytes b _=>some (.byt b)
  | .float b _=>some (.flt b)
  | .ref a=>some (.ref a)
  | .type n=>some (.ty n)
  | _=>none
theorem RelV.abs(r:RelV x u):c0N u=some x:=by
  cases x with
  | non=>cases r;rfl
  | bl _=>cases r;rfl
  | int _=>obtain⟨t,rfl⟩:=r;rfl
  | str _=>obtain⟨t,rfl⟩:=r;rfl
  | byt _=>obtain⟨t,rfl⟩:=r;rfl
  | flt _=>obtain⟨t,rfl⟩:=r;rfl
  | ref _=>cases r;rfl
  | ty _=>cases r;rfl
theorem RelV.inj(r:RelV x u)(q:RelV y u):x=y:=aD (r.abs.symm.trans q.abs)
theorem Vals.inj:∀{xs ys:List V} {us:List ai},Vals xs us→Vals ys us→xs=ys
  | _,_,_,.nil,.nil=>rfl
  | _,_,_,.cons r t,.cons r' t'=>by rw [r.inj r',Vals.inj t t']
section
variable {X:Cx}{pins:List (av × eD)}{σ:St}{H:Hp}{s:ak}{a:av}{xs ys:List V}
theorem SqL.of{K:af}(h:H a=some (.lst xs)):SqL K H a xs:=.inl (.inl h)
theorem SqT.of{K:af}(h:H a=some (.tup xs)):SqT K H a xs:=.inl (.inl h)
theorem Inv.list(I:Inv X pins σ H s)(h:SqL X.K H a xs):∃bU:List ai,Vals xs bU∧PlainL s.heap a bU.toArray∧xs.length≤aS:=by
  rcases h with h|⟨o,bU,n,hk,hc,hd,hs,hz,r⟩
  · obtain⟨z,bU,n,r,e⟩:=h.ok I.hok
    exact⟨bU,r,⟨_,n,e,rfl,rfl,rfl⟩,z⟩
  · refine⟨bU.toList,r,⟨o,n,I.kIn a o hk,hc,hd,by simpa using hs⟩,?_⟩
    have e:=r.length;simp only [cY] at e;omega
theorem Inv.tuple(I:Inv X pins σ H s)(h:SqT X.K H a xs):∃bU:List ai,Vals xs bU∧IsTup s.heap a bU.toArray∧xs.length≤aS:=by
  rcases h with h|⟨o,bU,n,hk,hc,hs,hz,r⟩
  · obtain⟨z,bU,r,p⟩:=h.ok I.hok
    exact⟨bU,r,p,z⟩
  · refine⟨bU.toList,r,⟨o,I.kIn a o hk,hc,n,by simpa using hs⟩,?_⟩
    have e:=r.length;simp only [cY] at e;omega
theorem Inv.list_inj(I:Inv X pins σ H s)(h:SqL X.K H a xs)(h':SqL X.K H a ys):xs=ys:=by
  obtain⟨bU,r,⟨o,n,e,_,_,d⟩,_⟩:=I.list h;obtain⟨its',r',⟨o',n',e',_,_,d'⟩,_⟩:=I.list h';rw [e] at e';cases e';rw [d] at d'
  injection d' with d1 _
  have:bU=its':=by simpa using dC Array.toList d1
  subst this;exact r.inj r'
theorem Inv.tuple_inj(I:Inv X pins σ H s)(h:SqT X.K H a xs)(h':SqT X.K H a ys):xs=ys:=by
  obtain⟨bU,r,⟨o,e,_,n,d⟩,_⟩:=I.tuple h;obtain⟨its',r',⟨o',e',_,n',d'⟩,_⟩:=I.tuple h';rw [e] at e';cases e';rw [d] at d'
  injection d' with d1 _
  have:bU=its':=by simpa using dC Array.toList d1
  subst this;exact r.inj r'
end
abbrev Cx.wish(X:Cx)(E:ai→ak→Prop):Cx:={X with xe:=E}
abbrev Cx.nox(X:Cx):Cx:=X.wish fun _ _=>False
theorem Cx.Ok.wish{X:Cx}(ok:X.Ok)(E:ai→ak→Prop):(X.wish E).Ok:=
  ⟨ok.mod,ok.kind,ok.glob,ok.blt,ok.above,ok.inj,ok.has,ok.cab,ok.hd,ok.frames,ok.stk,ok.exf,ok.bs,ok.bsz,ok.noex,ok.exfs,ok.funs,ok.frf,ok.tabs⟩
theorem Cx.Ok.unwish{X:Cx}(ok:(X.wish E).Ok):X.Ok:=
  ⟨ok.mod,ok.kind,ok.glob,ok.blt,ok.above,ok.inj,ok.has,ok.cab,ok.hd,ok.frames,ok.stk,ok.exf,ok.bs,ok.bsz,ok.noex,ok.exfs,ok.funs,ok.frf,ok.tabs⟩
section
variable {X:Cx}{pins:List (av × eD)}{σ:St}{H:Hp}{s:ak}{E:ai→ak→Prop}
theorem Inv.wish(I:Inv X pins σ H s)(E:ai→ak→Prop):Inv (X.wish E) pins σ H s:=⟨I.ok.wish E,I.os,I.bare,I.base,I.loc,I.cell,I.free,I.freeC,I.pin,I.hok,I.len⟩
theorem Inv.unwish(I:Inv (X.wish E) pins σ H s):Inv X pins σ H s:=⟨I.ok.unwish,I.os,I.bare,I.base,I.loc,I.cell,I.free,I.freeC,I.pin,I.hok,I.len⟩
theorem SP.unwish(h:SP (X.wish E) pins D f s'):SP X pins D f s':=by
  cases f with
  | next=>obtain⟨σ',H',I,q⟩:=h;exact⟨σ',H',I.unwish,q⟩
  | brk=>obtain⟨σ',H',I,q⟩:=h;exact⟨σ',H',I.unwish,q⟩
  | cont=>obtain⟨σ',H',I,q⟩:=h;exact⟨σ',H',I.unwish,q⟩
  | ret u=>obtain⟨v,σ',H',I,r,q⟩:=h;exact⟨v,σ',H',I.unwish,r,q⟩
theorem PSs.nox{st:List fT}{t:TS}(h:PSs X.nox st t):PSs X st t:=fun pins s σ H D I hw=>
  cC (h pins s σ H D (I.wish _) hw) (fun _ _ q=>q.unwish) fun _ _ z=>bS z
end
section
variable {X:Cx}{st:fT}{rest:List fT}{t u:TS}{e:Expr}{te:TE}{pos:ek}
def b8Q:TS:=fun D σ H=>D.nx σ H
def c0O(t u:TS):TS:=fun D σ H=>t {D with nx:=u D} σ H
theorem b3J:PSs X [] b8Q:=fun _ _ σ H _ I h=>ja ⟨σ,H,I,h⟩
theorem a5n(h1:PS X st t)(h2:PSs X rest u):PSs X (st :: rest) (c0O t u):=by
  intro pins s σ H D I h;refine wpAny_execs_cons (thn (h1 pins s σ H {D with nx:=u D} I h) fun f s1 q=>?_);cases f with
  | next=>
    obtain⟨σ',H',I',q⟩:=q;exact h2 pins s1 σ' H' D I' q
  | ret v=>exact q
  | brk=>exact q
  | cont=>exact q
theorem a8r(h1:PS X st t):PSs X [st] t:=by
  intro pins s σ H D I h;refine wpAny_execs_cons (thn (h1 pins s σ H D I h) fun f s1 q=>?_);cases f with
  | next=>exact ja q
  | ret v=>exact q
  | brk=>exact q
  | cont=>exact q
theorem Inv.quiet{pins:List (av × eD)}{σ:St}{H:Hp}{s:ak}(I:Inv X pins σ H s):interactive X.env=false:=by simp [interactive,I.ok.kind]
def b8R(te:TE):TS:=fun D σ H=>te σ H fun _ H1=>D.nx σ H1
theorem V1(he:PE X e te)(hs:ff e none pos.line X.env=pure false:=by rfl):PS X (.Expr e pos) (b8R te):=by
  intro pins s σ H D I h;exact wpAny_Expr_any (thn (he pins s σ H _ I h) fun v s1 ⟨x,H1,I1,r1,q1⟩=>⟨σ,H1,I1,q1⟩) I.quiet hs
def c0P(te:TE):TS:=fun D σ H=>te σ H D.rt
theorem b0Z(he:PE X e te):PS X (.Return (some e) pos) (c0P te):=by
  intro pins s σ H D I h;exact wpAny_Return_some (thn (he pins s σ H _ I h) fun v s1 ⟨x,H1,I1,r1,q1⟩=>⟨x,σ,H1,I1,r1,q1⟩)
def c0Q(c:TT)(t u:TS):TS:=fun D σ H=>c σ H fun b H1=>if b=true then t D σ H1 else u D σ H1
theorem b5x{c:Expr}{a b:List fT}{tc:TT}(hc:PT X c tc)(ha:PSs X a t)(hb:PSs X b u):PS X (.If c a b pos) (c0Q tc t u):=by
  intro pins s σ H D I h;refine wpAny_If (thn (hc pins s σ H _ I h) fun d s1 ⟨H1,I1,q1⟩=>?_);cases d with
  | true=>exact ha pins s1 σ H1 D I1 q1
  | false=>exact hb pins s1 σ H1 D I1 q1
def b6j:TS:=fun _ _ _=>False
theorem b1a:PS X st b6j:=fun _ _ _ _ _ _ h=>h.elim
end
abbrev TG:=V→St→Hp→(St→Hp→Prop)→Prop
abbrev TGs:=List V→St→Hp→(St→Hp→Prop)→Prop
def PG(X:Cx)(target:Expr)(t:TG):Prop:=
  ∀(pins:List (av × eD)) (s:ak) (σ:St) (H:Hp) (v:V) (u:ai) (Q:St→Hp→Prop),Inv X pins σ H s→RelV v u→t v σ H Q→
    aM (aU X.prog X.w) X.A (kg target X.env u) (fun _ s'=>∃σ' H',Inv X pins σ' H' s'∧Q σ' H') X.xe s
def PGs(X:Cx)(ts:List Expr)(t:TGs):Prop:=
  ∀(pins:List (av × eD)) (s:ak) (σ:St) (H:Hp) (vs:List V) (us:List ai) (Q:St→Hp→Prop),Inv X pins σ H s→Vals vs us→t vs σ H Q→
    aM (aU X.prog X.w) X.A (assignInOrder ((iK ts X.env).map (·.2)) us) (fun _ s'=>∃σ' H',Inv X pins σ' H' s'∧Q σ' H') X.xe s
abbrev b6k:=V→V→V→Hp→(Hp→Prop)→Prop
def b8S(X:Cx)(t:b6k):Prop:=
  ∀(pins:List (av × eD)) (s:ak) (σ:St) (H:Hp) (o i v:V) (ov iv u:ai) (Q:Hp→Prop),Inv X pins σ H s→RelV o ov→RelV i iv→RelV v u→t o i v H Q→
    aM (aU X.prog X.w) X.A (Al ov iv u) (fun _ s'=>∃H',Inv X pins σ H' s'∧Q H') X.xe s
section
variable {X:Cx}{pos:ek}
def a0j(i:Nat):TG:=fun v σ H Q=>Q (σ.set i (some v)) H
theorem B7(hN:X.N.Nodup)(hi:X.N[i]?=some x)(hx:Loc X.env.scope x)(hf:X.fn x=true∨X.env.scope.names.lookup x=some .local:=by first|exact .inl rfl|exact .inr rfl|assumption):PG X (.Name x pos) (a0j i):=by
  intro pins s σ H v u Q I r h;exact wpAny_assign_Name (a0i I hN hi hx r (fun s' I'=>⟨_,H,I',h⟩) hf)
def b8T:TGs:=fun vs σ H Q=>vs=[]∧Q σ H
def b1b(t:TG)(u:TGs):TGs:=fun vs σ H Q=>∃v r,vs=v :: r∧t v σ H fun σ' H'=>u r σ' H' Q
theorem a8s:PGs X [] b8T:=by
  intro pins s σ H vs us Q I r h;obtain⟨e,h⟩:=h;subst e;cases r
  exact assignInOrder_nil ⟨σ,H,I,h⟩
theorem a0k{e:Expr}{es:List Expr}{t:TG}{u:TGs}(h1:PG X e t)(h2:PGs X es u)
    (hs:(iK (e :: es) X.env).map (·.2)=kg e X.env :: (iK es X.env).map (·.2):=by rfl):PGs X (e :: es) (b1b t u):=by
  intro pins s σ H vs us Q I r h;obtain⟨v,vr,e1,h⟩:=h;subst e1;cases r with
  | cons r rr=>
    rw [hs];refine assignInOrder_cons (thn (h1 pins s σ H _ _ _ I r h) fun _ s1 ⟨σ1,H1,I1,q1⟩=>?_);exact h2 pins s1 σ1 H1 _ _ Q I1 rr q1
def b8U(K:af)(n:Nat)(t:TGs):TG:=fun v σ H Q=>∃a xs,v=.ref a∧SqT K H a xs∧xs.length=n∧t xs σ H Q
theorem b1c(hc:X.calm=true)(h:PGs X es t)
    (hn:(iK es X.env).length=n:=by rfl) (jS:(iK es X.env).findIdx? (·.1)=none:=by rfl):PG X (.Tuple es k pos) (b8U X.K n t):=by
  intro pins s σ H v u Q I r hw;obtain⟨a,xs,e1,hq,hl,hw⟩:=hw;subst e1;cases r
  obtain⟨bU,rv,ht,hz⟩:=I.tuple hq;refine assign_Tuple_tuple (I.ok.hd hc) ht (by simp [hn,←hl,rv.length]) jS fun h' hx=>?_
  have I1:Inv X pins σ H {s with heap:=h'}:=I.kept (t':=s.toks) fun b o e=>hx b o (bj (aN e)) e
  exact h pins _ σ H xs _ Q I1 (by simpa using rv) hw
def c0R(to ti:TE)(t:b6k):TG:=fun v σ H Q=>to σ H fun o H1=>ti σ H1 fun i H2=>t o i v H2 fun H3=>Q σ H3
theorem b6l{o i:Expr}{to ti:TE}{t:b6k}(ho:PE X o to)(hi:PE X i ti)(hs:b8S X t)
    (ha:∀v,kg (.Subscript o i pos) X.env v=(do
      let ov ←il [v] (bW o X.env)
      let iv ←il [v,ov] (bW i X.env)
      sj pos
      il [v,ov,iv] (Al ov iv v)
      release [v,ov,iv] []):=by intro _;rfl):PG X (.Subscript o i pos) (c0R to ti t):=by
  intro pins s σ H v u Q I r h;rw [ha];refine ae (bI (thn (ho pins s σ H _ I h) fun ov s1 ⟨x,H1,I1,r1,q1⟩=>?_));refine ae (bI (thn (hi pins s1 σ H1 _ I1 q1) fun iv s2 ⟨y,H2,I2,r2,q2⟩=>?_));refine ae (mP (ae (bI (thn (hs pins s2 σ H2 x y v ov iv u _ I2 r1 r2 r q2) fun _ s3 ⟨H3,I3,q3⟩=>?_))));exact wpAny_release ⟨σ,H3,I3,q3⟩
def b6m(te:TE)(g:TG):TS:=fun D σ H=>te σ H fun x H1=>g x σ H1 D.nx
theorem b1d{tg e:Expr}{te:TE}{g:TG}(he:PE X e te)(hg:PG X tg g)(hs:wc [tg] e pos.line X.env=pure false:=by rfl)(hw:we [tg] e X.env=pure none:=by rfl)
    (h1:(iK [tg] X.env).map (·.2)=[kg tg X.env]:=by rfl):PS X (.Assign [tg] e pos) (b6m te g):=by
  intro pins s σ H D I h;refine wpAny_Assign_stores (thn (he pins s σ H _ I h) fun v s1 ⟨x,H1,I1,r1,q1⟩=>?_) hs hw;rw [h1];exact thn (hg pins s1 σ H1 x v _ I1 r1 q1) fun _ s2 q=>q
theorem b6n{i:Nat}{x:bc}{e:Expr}{te:TE}{pos':ek}(hN:X.N.Nodup)(hi:X.N[i]?=some x)(hx:Loc X.env.scope x)(he:PE X e te)(hs:ff e (some (.Name x pos')) pos.line X.env=pure false:=by rfl)(hf:X.fn x=true∨X.env.scope.names.lookup x=some .local:=by first|exact .inl rfl|exact .inr rfl|assumption) :
    PS X (.Assign [.Name x pos'] e pos) (b6m te (a0j i)):=by
  intro pins s σ H D I h;refine wpAny_Assign_Name (thn (he pins s σ H _ I h) fun v s1 ⟨y,H1,I1,r1,q1⟩=>?_) hs;exact a0i I1 hN hi hx r1 (fun s2 I2=>⟨_,H1,I2,q1⟩) hf
end
section
variable {X:Cx}{pos:ek}
def b6o(c:TT)(tb:TS):TS:=fun D σ H=>∃W:Nat→St→Hp→Prop,(∃m,W m σ H)∧∀m σ H,W m σ H→
  c σ H fun b H1=>if b=true then ∃N:St→Hp→Prop,(∀σ' H',N σ' H'→∃m',m' < m∧W m' σ' H')∧tb {D with nx:=N,ct:=N,bk:=D.nx} σ H1 else D.nx σ H1
theorem b1e{c:Expr}{body:List fT}{tc:TT}{tb:TS}(hp:qm (aU X.prog X.w) X.A X.env X.xe)(hc:PT X c tc)(hb:PSs X body tb):PS X (.While c body [] pos) (b6o tc tb):=by
  intro pins s σ H D I h;obtain⟨W,⟨m0,w0⟩,turn⟩:=h;refine wpAny_While (codeAny_whileLoop (fun n s'=>∃σ' H',Inv X pins σ' H' s'∧W n σ' H') ?_ m0 ⟨σ,H,I,w0⟩);rintro n s1 ⟨σ1,H1,I1,w1⟩;refine fI hp (thn (hc pins s1 σ1 H1 _ I1 (turn n σ1 H1 w1)) fun b s2 ⟨H2,I2,q2⟩=>?_);cases b with
  | true=>
    obtain⟨N,hN,q2⟩:=q2;rw [aE rfl];refine fI hp (thn (hb pins s2 σ1 H2 _ I2 q2) fun f s3 q3=>?_);cases f with
    | next=>
      obtain⟨σ3,H3,I3,n3⟩:=q3;obtain⟨m',hm,w3⟩:=hN σ3 H3 n3;exact⟨m',hm,σ3,H3,I3,w3⟩
    | cont=>
      obtain⟨σ3,H3,I3,n3⟩:=q3;obtain⟨m',hm,w3⟩:=hN σ3 H3 n3;exact⟨m',hm,σ3,H3,I3,w3⟩
    | brk=>exact q3
    | ret v=>exact q3
  | false=>
    rw [aO bB];exact ja ⟨σ1,H2,I2,q2⟩
end
structure It where
  go:Nat→Hp→Prop
  yld:Nat→Hp→V→Hp→Prop
  stop:Nat→Hp→Prop
def a3v(X:Cx)(pins:List (av × eD))(H:Hp)(b:av):Prop:=
  H b=none∧b≠X.env.locals∧b∉X.fs∧(b∈X.ex∨X.s₀.heap.objs.size≤b)∧(∀x c,X.env.cells.lookup x=some c→c≠b)∧∀p∈X.pn ++ pins,p.1≠b
theorem Inv.fpOk(I:Inv X pins σ H s)(hb:s.heap.objs.size≤b)(hn:H' b=none):a3v X pins H' b:=by
  refine⟨hn,rX (aW I.lt hb),I.nofs hb,.inr (cI I.sz hb),fun x c e z=>?_,fun p hp z=>?_⟩
  · obtain⟨v,q⟩:=I.cell x c e
    exact absurd (aW q.lt (by rw [z];exact hb)) (cE _)
  · exact absurd (aW (aN (I.pin p hp).1) (by rw [z];exact hb)) (cE _)
structure Turn (P:bh) (w:bE) (K:af) (tg:Expr) (J:It) (fp:List av) (it:av) (tn:Nat→bL→Prop):Prop where
  mem:it∈fp
  obj:∀i h,tn i h→∀b∈fp,∃o,h.get? b=some o∧∀v,o.data≠.cell v
  keep:∀i h h',tn i h→(∀b∈fp,∀o,h.get? b=some o→h'.get? b=some o)→tn i h'
  item:∀(X:Cx),X.prog=P→X.w=w→X.K=K→X.calm=true→∀(i:Nat) (pins:List (av × eD)) (s:ak) (σ:St) (H:Hp) (E:ai→ak→Prop),Inv X pins σ H s→(∀b∈fp,a3v X pins H b)→tn i s.heap→J.go i H→
    aM (aU P w) X.A (gY (.ref it)) (fun r s1=>∃u,r=some u∧
      aM (aU P w) X.A (kZ tg (.ref it) u) (fun _ s2=>∃x H',Inv X pins σ H' s2∧RelV x u∧J.yld i H x H'∧tn (i + 1) s2.heap∧∀b∈fp,H' b=none) E s1) E s
  done:∀(X:Cx),X.prog=P→X.w=w→X.K=K→X.calm=true→∀(i:Nat) (pins:List (av × eD)) (s:ak) (σ:St) (H:Hp) (E:ai→ak→Prop),Inv X pins σ H s→(∀b∈fp,a3v X pins H b)→tn i s.heap→J.stop i H→
    aM (aU P w) X.A (gY (.ref it)) (fun r s1=>r=none∧Inv X pins σ H s1) E s
  self:∀(A:bx) (i:Nat) (s:ak) (Q:ai→ak→Prop) (E:ai→ak→Prop),tn i s.heap→Q (.ref it) s→aM (aU P w) A (pE (.ref it)) Q E s
abbrev TI:=St→Hp→(It→Hp→Prop)→Prop
def PIE(X:Cx)(pins:List (av × eD))(σ:St)(tg:Expr)(R:It→Hp→Prop)(wF:ai)(s2:ak):Prop:=
  ∃(it:av) (fp:List av) (tn:Nat→bL→Prop) (J:It) (H':Hp),wF=.ref it∧Inv X pins σ H' s2∧Turn X.prog X.w X.K tg J fp it tn∧tn 0 s2.heap∧(∀b∈fp,a3v X pins H' b)∧R J H'
def PI(X:Cx)(tg iter:Expr)(wi:TI):Prop:=
  ∀(pins:List (av × eD)) (s:ak) (σ:St) (H:Hp) (R:It→Hp→Prop),Inv X pins σ H s→wi σ H R→
    aM (aU X.prog X.w) X.A (bW iter X.env) (fun v s1=>aM (aU X.prog X.w) X.A (pE v) (PIE X pins σ tg R) X.xe s1) X.xe s
theorem a8t{s:ak}(ho:s.heap.get? it=some o)(hc:o.cls=.type n)(hd:o.data=.fields vs)
    (hn:["enumerate","zip","dict_itemiterator","dict_reverseitemiterator","odict_iterator","itertools.zip_longest","itertools.pairwise"].contains n=false) (hQ:Q () s):aM M A (kZ tg (.ref it) u) Q E s:=by
  unfold kZ;cases tg <;> first
    | exact ag hQ
    | (cases u <;> first
        | exact ag hQ
        | (refine ae (tm ho ?_)
           rw [hc,hd];show aM M A (if (["enumerate","zip","dict_itemiterator","dict_reverseitemiterator","odict_iterator","itertools.zip_longest","itertools.pairwise"].contains n && vs[0]? == some (cR _))=true then _ else _) Q E s;rw [aO (by intro h;rw [hn,Bool.false_and] at h;cases h)];exact ag hQ))
def Itl(K:af)(a:av):It:=
  ⟨fun i H=>∃xs x,SqL K H a xs∧xs[i]?=some x,fun i H x H'=>H'=H∧∀xs,SqL K H a xs→xs[i]?=some x,fun i H=>∃xs,SqL K H a xs∧xs.length≤i⟩
def Itt(K:af)(a:av):It:=
  ⟨fun i H=>∃xs x,SqT K H a xs∧xs[i]?=some x,fun i H x H'=>H'=H∧∀xs,SqT K H a xs→xs[i]?=some x,fun i H=>∃xs,SqT K H a xs∧xs.length≤i⟩
def Itr(lo:Int)(n:Nat):It:=⟨fun i _=>i < n,fun i H x H'=>H'=H∧x=.int (lo + i),fun i _=>n≤i⟩
theorem a9x{P:bh}{w:bE}{K:af}{tg:Expr}(a it:av):Turn P w K tg (Itl K a) [it] it (fun i h=>h.IsListIter it a i) where
  mem:=by simp
  obj:=fun i h st b hb=>by
    have e:b=it:=by simpa using hb
    subst e;obtain⟨o,e,c,d⟩:=st;exact⟨o,e,fun v z=>by rw [d] at z;cases z⟩
  keep:=fun i h h' st k=>st.at fun o e=>k it (by simp) o e
  item:=by
    intro X hP hw hK hc i pins s σ H E I hf st hg;subst hP hw hK;obtain⟨xs,x,hq,hx⟩:=hg;obtain⟨bU,rv,p,hz⟩:=I.list hq;obtain⟨u,hu,ru⟩:=rv.get hx;obtain⟨f0,f1,f2,f3,f4,f5⟩:=hf it (by simp);refine wpAny_pyNext_list_item st p.isList (x:=u) (by simpa using hu) fun h' nK sb=>?_
    have I1:Inv X pins σ H {s with heap:=h'}:=I.turned (t':=s.toks) (fun b o hb e=>(sb.2 b hb).trans e) f0 f1 f3 f4 f5;obtain⟨o,e,c,d⟩:=id nK;exact⟨u,rfl,a8t (s:={s with heap:=h'}) e c d (by decide) ⟨x,H,I1,ru,⟨rfl,fun ys hy=>by rw [I.list_inj hy hq];exact hx⟩,nK,fun b hb=>(hf b hb).1⟩⟩
  done:=by
    intro X hP hw hK hc i pins s σ H E I hf st hg;subst hP hw hK;obtain⟨xs,hq,hx⟩:=hg;obtain⟨bU,rv,p,hz⟩:=I.list hq;obtain⟨f0,f1,f2,f3,f4,f5⟩:=hf it (by simp);have hl:=rv.length;exact wpAny_pyNext_list_end (I.ok.hd hc) st p.isList (by simp;omega) fun h' eb=>⟨rfl,I.turned (t':=s.toks) (fun b o hb e=>eb b o hb e) f0 f1 f3 f4 f5⟩
  self:=fun _ _ _ _ _ st h=>wpAny_pyIter_listiter st h
theorem a6W{P:bh}{w:bE}{K:af}{tg:Expr}(a it:av):Turn P w K tg (Itt K a) [it] it (fun i h=>h.IsTupleIter it a i) where
  mem:=by simp
  obj:=fun i h st b hb=>by
    have e:b=it:=by simpa using hb
    subst e;obtain⟨o,e,c,d⟩:=st;exact⟨o,e,fun v z=>by rw [d] at z;cases z⟩
  keep:=fun i h h' st k=>st.at fun o e=>k it (by simp) o e
  item:=by
    intro X hP hw hK hc i pins s σ H E I hf st hg;subst hP hw hK;obtain⟨xs,x,hq,hx⟩:=hg;obtain⟨bU,rv,p,hz⟩:=I.tuple hq;obtain⟨u,hu,ru⟩:=rv.get hx;obtain⟨f0,f1,f2,f3,f4,f5⟩:=hf it (by simp);refine wpAny_pyNext_tuple_item st (show s.heap.IsTuple a bU.toArray from p) (x:=u) (by simpa using hu) fun h' nK sb=>?_
    have I1:Inv X pins σ H {s with heap:=h'}:=I.turned (t':=s.toks) (fun b o hb e=>(sb.2 b hb).trans e) f0 f1 f3 f4 f5;obtain⟨o,e,c,d⟩:=id nK;exact⟨u,rfl,a8t (s:={s with heap:=h'}) e c d (by decide) ⟨x,H,I1,ru,⟨rfl,fun ys hy=>by rw [I.tuple_inj hy hq];exact hx⟩,nK,fun b hb=>(hf b hb).1⟩⟩
  done:=by
    intro X hP hw hK hc i pins s σ H E I hf st hg;subst hP hw hK;obtain⟨xs,hq,hx⟩:=hg;obtain⟨bU,rv,p,hz⟩:=I.tuple hq;obtain⟨f0,f1,f2,f3,f4,f5⟩:=hf it (by simp);have hl:=rv.length;exact wpAny_pyNext_tuple_end (I.ok.hd hc) st (show s.heap.IsTuple a bU.toArray from p) (by simp;omega) fun h' eb=>⟨rfl,I.turned (t':=s.toks) (fun b o hb e=>eb b o hb e) f0 f1 f3 f4 f5⟩
  self:=fun _ _ _ _ _ st h=>wpAny_pyIter_tupleiter st h
theorem a6X{P:bh}{w:bE}{K:af}{tg:Expr}(it:av)(lo:Int)(n:Nat):Turn P w K tg (Itr lo n) [it] it (fun i h=>IsRangeIter h it (lo + (i:Nat) * 1) ((n:Int) - (i:Nat)) 1) where
  mem:=by simp
  obj:=fun i h st b hb=>by
    have e:b=it:=by simpa using hb
    subst e;exact⟨_,st,fun v z=>by
      have z':Data.fields _=Data.cell v:=z;cases z'⟩
  keep:=fun i h h' st k=>k it (by simp) _ st
  item:=by
    intro X hP hw hK hc i pins s σ H E I hf st hg;subst hP hw hK;obtain⟨f0,f1,f2,f3,f4,f5⟩:=hf it (by simp);have W:=Walks.range (prog:=X.prog) (w:=X.w) (I.ok.hd hc) it lo 1 n;refine W.item i s _ _ hg st fun v h' tk hv nK kk=>?_
    obtain⟨t,rfl⟩:=hv;have I1:Inv X pins σ H {s with heap:=h',toks:=tk}:=I.turned (fun b o hb e=>kk b o (by simpa using hb) e) f0 f1 f3 f4 f5;refine⟨_,rfl,a8t (s:={s with heap:=h',toks:=tk}) (n:="range_iterator") nK rfl rfl (by decide) ⟨.int (lo + i),H,I1,⟨t,?_⟩,⟨rfl,rfl⟩,nK,fun b hb=>(hf b hb).1⟩⟩;rw [Int.mul_one]
  done:=by
    intro X hP hw hK hc i pins s σ H E I hf st hg;subst hP hw hK;obtain⟨f0,f1,f2,f3,f4,f5⟩:=hf it (by simp);exact wpAny_pyNext_range_end (I.ok.hd hc) st (by have:n≤i:=hg;omega) fun h' eb=>⟨rfl,I.turned (t':=s.toks) (fun b o hb e=>eb b o hb e) f0 f1 f3 f4 f5⟩
  self:=fun _ _ _ _ _ st h=>wpAny_pyIter_rangeiter st h
end L2
namespace L2
open PySem PySem.Spec PyProof.Rows
section
variable {X:Cx}{tg:Expr}
def b8V(K:af)(tl:TE):TI:=fun σ H R=>tl σ H fun x H1=>∃a,x=.ref a∧(∃xs,SqL K H1 a xs)∧R (Itl K a) H1
def c0S(K:af)(tl:TE):TI:=fun σ H R=>tl σ H fun x H1=>∃a,x=.ref a∧(∃xs,SqT K H1 a xs)∧R (Itt K a) H1
theorem b3K{l:Expr}{tl:TE}(hl:PE X l tl):PI X tg l (b8V X.K tl):=by
  intro pins s σ H R I h;refine thn (hl pins s σ H _ I h) fun v s1 ⟨x,H1,I1,r1,q1⟩=>?_
  obtain⟨a,e,⟨xs,hq⟩,q⟩:=q1;subst e;cases r1
  obtain⟨bU,rv,p,hz⟩:=I1.list hq;refine nT p.isList ?_;refine⟨s1.heap.objs.size,[s1.heap.objs.size],_,_,H1,rfl,I1.kept (t':=s1.toks) fun b o e=>aw _ e,a9x a _,⟨_,aR _ rfl,rfl,rfl⟩,fun b hb=>?_,q⟩;have e:b=s1.heap.objs.size:=by simpa using hb
  subst e;exact I1.fpOk (aF _) (I1.hok.fresh (aF _))
theorem b6p(hl:PE X l tl):PI X tg l (c0S X.K tl):=by
  intro pins s σ H R I h;refine thn (hl pins s σ H _ I h) fun v s1 ⟨x,H1,I1,r1,q1⟩=>?_
  obtain⟨a,e,⟨xs,hq⟩,q⟩:=q1;subst e;cases r1
  obtain⟨bU,rv,p,hz⟩:=I1.tuple hq;refine wpAny_pyIter_tuple (show s1.heap.IsTuple a bU.toArray from p) ?_;refine⟨s1.heap.objs.size,[s1.heap.objs.size],_,_,H1,rfl,I1.kept (t':=s1.toks) fun b o e=>aw _ e,a6W a _,⟨_,aR _ rfl,rfl,rfl⟩,fun b hb=>?_,q⟩;have e:b=s1.heap.objs.size:=by simpa using hb
  subst e;exact I1.fpOk (aF _) (I1.hok.fresh (aF _))
theorem a5o{pins:List (av × eD)}{σ:St}{H:Hp}{s:ak}{R:It→Hp→Prop}{E:ai→ak→Prop}{lo hi:Int}{t u v:Tok}{tk:Nat}(I:Inv X pins σ H s)(h1:-(2 ^ 62)≤lo)(h2:lo < 2 ^ 62)(h3:-(2 ^ 62)≤hi)(h4:hi < 2 ^ 62)
    (q:R (Itr lo (hi - lo).toNat) H):aM (aU X.prog X.w) X.A (pE (.ref s.heap.objs.size)) (PIE X pins σ tg R) E {s with heap:=s.heap.push {cls:=.type "range",data:=.fields #[.int lo t,.int hi u,.int 1 v]},toks:=tk}:=by
  refine wpAny_pyIter_range (IsRange.new ..) (small_one h1 h2 h3 h4) ?_;have I1:Inv X pins σ H {s with heap:=s.heap.push {cls:=.type "range",data:=.fields #[.int lo t,.int hi u,.int 1 v]},toks:=tk}:=I.kept fun b o e=>aw _ e
  refine⟨(s.heap.push {cls:=.type "range",data:=.fields #[.int lo t,.int hi u,.int 1 v]}).objs.size,[(s.heap.push {cls:=.type "range",data:=.fields #[.int lo t,.int hi u,.int 1 v]}).objs.size],_,_,H,rfl,
    I1.kept (t':=tk) fun b o e=>aw _ e,a6X _ lo (hi - lo).toNat,?_,fun b hb=>?_,q⟩
  · have e1:lo + ((0:Nat):Int) * 1=lo:=by simp
    have e2:(((hi - lo).toNat:Nat):Int) - ((0:Nat):Int)=zV lo hi 1:=by rw [rangeSize_one];split <;> omega
    show IsRangeIter _ _ (lo + ((0:Nat):Int) * 1) ((((hi - lo).toNat:Nat):Int) - ((0:Nat):Int)) 1;rw [e1,e2];exact aR _ rfl
  · have e:b=(s.heap.push {cls:=.type "range",data:=.fields #[.int lo t,.int hi u,.int 1 v]}).objs.size:=by simpa using hb
    subst e;exact I1.fpOk (aF _) (I1.hok.fresh (aF _))
def b8W(ta:TA):TI:=fun σ H R=>ta σ H fun vs H1=>∃j:Int,vs=[.int j]∧-(2 ^ 62)≤j∧j < 2 ^ 62∧R (Itr 0 j.toNat) H1
def b8X(ta:TA):TI:=fun σ H R=>ta σ H fun vs H1=>∃i j:Int,vs=[.int i,.int j]∧(-(2 ^ 62)≤i∧i < 2 ^ 62∧-(2 ^ 62)≤j∧j < 2 ^ 62)∧R (Itr i (j - i).toNat) H1
theorem a9y{a:Expr}{ta:TA}{p pos:ek}(hg:Gl X "range")(hm:X.mg "range"=none)(ha:PA X [a] ta)(hs:au [a] X.env=[(false,bW a X.env)]:=by rfl):PI X tg (.Call (.Name "range" p) [a] [] pos) (b8W ta):=by
  intro pins s σ H R I h;refine Call_ (a0G I hg hm boot_range (fF (thn (ha pos pins s σ H _ I h) fun us s1 ⟨vs,H1,I1,r1,q1⟩=>?_) hs rfl));obtain⟨j,e,q1,q2,q⟩:=q1;subst e;cases r1 with
  | cons r rr=>
    cases rr
    obtain⟨t,rfl⟩:=r;exact call_range_1 (a5o I1 (by omega) (by omega) q1 q2 (by simpa using q))
theorem a9z(hg:Gl X "range")(hm:X.mg "range"=none)(ha:PA X [a,b] ta)(hs:au [a,b] X.env=[(false,bW a X.env),(false,bW b X.env)]:=by rfl)(sD:au [b] X.env=[(false,bW b X.env)]:=by rfl) :
    PI X tg (.Call (.Name "range" p) [a,b] [] pos) (b8X ta):=by
  intro pins s σ H R I h;refine Call_ (a0G I hg hm boot_range (fF (thn (ha pos pins s σ H _ I h) fun us s1 ⟨vs,H1,I1,r1,q1⟩=>?_) (by rw [hs,sD]) (by rw [sD];rfl)));obtain⟨i,j,e,⟨q1,q2,q3,q4⟩,q⟩:=q1;subst e;cases r1 with
  | cons r rr=>
    cases rr with
    | cons r' rr=>
      cases rr
      obtain⟨t,rfl⟩:=r;obtain⟨t',rfl⟩:=r';exact call_range_2 (a5o I1 q1 q2 q3 q4 q)
def c0T(wi:TI)(g:TG)(tb:TS):TS:=fun D σ H=>wi σ H fun J H1=>∃W:Nat→Nat→St→Hp→Prop,(∃m,W 0 m σ H1)∧∀i m σ H,W i m σ H→
  (J.stop i H∧D.nx σ H)∨(J.go i H∧∃N:St→Hp→Prop,(∀σ' H',N σ' H'→∃m',m' < m∧W (i + 1) m' σ' H')∧∀x H',J.yld i H x H'→g x σ H' fun σ2 H2=>tb {D with nx:=N,ct:=N,bk:=D.nx} σ2 H2)
def a4B(fp:List av)(h:bL):List (av × eD):=fp.filterMap fun b=>(h.get? b).map fun o=>(b,o)
theorem B9{h:bL}(hb:b∈fp)(e:h.get? b=some o):(b,o)∈a4B fp h:=de.mpr ⟨b,hb,by rw [e];rfl⟩
theorem a9A(hp:p∈a4B fp h):p.1∈fp∧h.get? p.1=some p.2:=by
  obtain⟨b,hb,e⟩:=de.mp hp;cases q:h.get? b with
  | none=>rw [q] at e;cases e
  | some o=>
    rw [q] at e;have e':(b,o)=p:=aD e;subst e';exact⟨hb,q⟩
theorem Inv.pinned(I:Inv X pins σ H s)(hf:∀b∈fp,a3v X pins H b)(ho:∀b∈fp,∃o,s.heap.get? b=some o∧∀v,o.data≠.cell v):Inv X (pins ++ a4B fp s.heap) σ H s:=
  I.pins_of fun p hp=>(ay.mp hp).elim (fun z=>I.pin p (aj _ z)) fun z=>by
    obtain⟨hb,e⟩:=a9A z;obtain⟨f0,f1,f2,_⟩:=hf p.1 hb;obtain⟨o,e',d⟩:=ho p.1 hb;rw [e] at e';cases e';exact⟨e,f0,f1,f2,d⟩
theorem Inv.unpinned(I:Inv X (pins ++ pl) σ H s):Inv X pins σ H s:=I.pins_of fun p hp=>I.pin p (aj _ (aq _ hp))
theorem b1f(hp:qm (aU X.prog X.w) X.A X.env X.xe)(hc:X.calm=true)(hi:PI X tg iter wi)(hg:PG X tg g)(hb:PSs X body tb)
    (hs:∀x,eF iter X.env x=pure x:=by intro _;rfl):PS X (.For tg iter body [] pos) (c0T wi g tb):=by
  intro pins s σ H D I h;refine wpAny_For (thn (hi pins s σ H _ I h) fun v s1 h1=>thn h1 fun wF s2 h2=>?_) hs;obtain⟨it,fp,tn,J,H2,e,I2,T,pD,f2,W,⟨m0,w0⟩,turn⟩:=h2;subst e;have mH:∀{H':Hp},(∀b∈fp,H' b=none)→∀b∈fp,a3v X pins H' b:=fun hn b hb=>⟨hn b hb,(f2 b hb).2⟩
  refine codeAny_forLoop_any (fun n s'=>∃i σ' H',Inv X pins σ' H' s'∧tn i s'.heap∧(∀b∈fp,H' b=none)∧W i n σ' H') ?_ m0 ⟨0,σ,H2,I2,pD,fun b hb=>(f2 b hb).1,w0⟩;rintro n s3 ⟨i,σ3,H3,I3,tw,uR,w3⟩;rcases turn i n σ3 H3 w3 with⟨stop,qn⟩|⟨go,N,hN,step⟩
  · refine fI hp (thn (T.done X rfl rfl rfl hc i pins s3 σ3 H3 X.xe I3 (mH uR) tw stop) fun r s4 ⟨hr,I4⟩=>?_)
    subst hr;exact ja ⟨σ3,H3,I4,qn⟩
  · refine fI hp (thn (T.item X rfl rfl rfl hc i pins s3 σ3 H3 X.xe I3 (mH uR) tw go) fun r s4 ⟨u,hr,h4⟩=>?_)
    subst hr;refine fI hp (thn h4 fun _ s5 ⟨x,H5,I5,r5,y5,pC,xT⟩=>?_);have yj:=I5.pinned (mH xT) (T.obj _ _ pC);refine fI hp (thn (hg _ s5 σ3 H5 x u _ yj r5 (step x H5 y5)) fun _ s6 ⟨σ6,H6,I6,q6⟩=>?_);refine fI hp (thn (hb _ s6 σ6 H6 _ I6 q6) fun f s7 q7=>?_);have again:∀{σ7:St} {H7:Hp},Inv X (pins ++ a4B fp s5.heap) σ7 H7 s7→N σ7 H7→∃m,m < n∧∃i σ' H',Inv X pins σ' H' s7∧tn i s7.heap∧(∀b∈fp,H' b=none)∧W i m σ' H':=fun {σ7 H7} I7 n7=>by
      obtain⟨m',hm,w7⟩:=hN σ7 H7 n7;refine⟨m',hm,i + 1,σ7,H7,I7.unpinned,T.keep _ _ _ pC fun b hb o e=>(I7.pin (b,o) (aj _ (aj _ (B9 hb e)))).1,fun b hb=>?_,w7⟩;obtain⟨o,e,d⟩:=T.obj _ _ pC b hb;exact (I7.pin (b,o) (aj _ (aj _ (B9 hb e)))).2.1
    cases f with
    | next=>obtain⟨σ7,H7,I7,n7⟩:=q7;exact again I7 n7
    | cont=>obtain⟨σ7,H7,I7,n7⟩:=q7;exact again I7 n7
    | brk=>obtain⟨σ7,H7,I7,q7⟩:=q7;exact⟨σ7,H7,I7.unpinned,q7⟩
    | ret v=>obtain⟨x7,σ7,H7,I7,r7,q7⟩:=q7;exact⟨x7,σ7,H7,I7.unpinned,r7,q7⟩
end
end L2
namespace L2
open PySem PySem.Spec PyProof.Rows
abbrev R2:=V→V→Hp→VK→Prop
def OpR(X:Cx)(f:ai→ai→Sem ai)(r:R2):Prop:=
  ∀(pins:List (av × eD)) (s:ak) (σ:St) (H:Hp) (x y:V) (v u:ai) (Q:VK),Inv X pins σ H s→RelV x v→RelV y u→r x y H Q→
    aM (aU X.prog X.w) X.A (f v u) (EP X pins σ Q) X.xe s
def CallR(X:Cx)(f:ai)(r:List V→Hp→VK→Prop):Prop:=
  ∀(pins:List (av × eD)) (s:ak) (σ:St) (H:Hp) (xs:List V) (us:List ai) (Q:VK),Inv X pins σ H s→Vals xs us→r xs H Q→
    aM (aU X.prog X.w) X.A (call f us) (EP X pins σ Q) X.xe s
def c0U(X:Cx)(r:V→Hp→(Bool→Hp→Prop)→Prop):Prop:=
  ∀(pins:List (av × eD)) (s:ak) (σ:St) (H:Hp) (x:V) (v:ai) (Q:Bool→Hp→Prop),Inv X pins σ H s→RelV x v→r x H Q→
    aM (aU X.prog X.w) X.A (tu v) (TP X pins σ Q) X.xe s
def tOp(r:R2)(ta tb:TE):TE:=fun σ H Q=>ta σ H fun x H1=>tb σ H1 fun y H2=>r x y H2 Q
def rI(C:Int→Int→Prop)(g:Int→Int→V):R2:=fun x y H Q=>∃i j,x=.int i∧y=.int j∧C i j∧Q (g i j) H
def rI0(g:Int→Int→V):R2:=fun x y H Q=>∃i j,x=.int i∧y=.int j∧Q (g i j) H
section
variable {X:Cx}{a b c:Expr}{ta tb tc:TE}{pos:ek}
theorem b6q(ha:PE X a ta)(hb:PE X b tb){pins:List (av × eD)}{s:ak}{σ:St}{H:Hp}{R:V→V→Hp→Prop}(I:Inv X pins σ H s)
    (h:ta σ H fun x H1=>tb σ H1 fun y H2=>R x y H2) {Q:ai→ak→Prop} {f:ai→ai→Sem ai}
    (hf:∀v u s2 x y H2,Inv X pins σ H2 s2→RelV x v→RelV y u→R x y H2→aM (aU X.prog X.w) X.A (f v u) Q X.xe s2) :
    aM (aU X.prog X.w) X.A (bW a X.env) (fun v s₁=>aM (aU X.prog X.w) X.A (bW b X.env) (fun u s₂=>aM (aU X.prog X.w) X.A (f v u) Q X.xe s₂) X.xe s₁) X.xe s:=by
  refine thn (ha pins s σ H _ I h) fun v s1 ⟨x,H1,I1,r1,q1⟩=>?_
  refine thn (hb pins s1 σ H1 _ I1 q1) fun u s2 ⟨y,H2,I2,r2,q2⟩=>?_
  exact hf v u s2 x y H2 I2 r1 r2 q2
theorem b5y{op:Operator}{r:R2}(ho:OpR X (fg op) r)(ha:PE X a ta)(hb:PE X b tb):PE X (.BinOp a op b pos) (tOp r ta tb):=by
  intro pins s σ H Q I h;exact wpAny_BinOp (b6q ha hb I h fun v u s2 x y H2 I2 rx ry q=>ho pins s2 σ H2 x y v u Q I2 rx ry q)
theorem opI{f:ai→ai→Sem ai}{C:Int→Int→Prop}{g:Int→Int→Int}
    (rule:∀(i j:Int) (t u:Tok) (s:ak) (Q:ai→ak→Prop) (E:ai→ak→Prop),C i j→Q (.int (g i j) s.toks) {s with toks:=s.toks + 1}→aM (aU X.prog X.w) X.A (f (.int i t) (.int j u)) Q E s) :
    OpR X f (rI C fun i j=>.int (g i j)):=by
  intro pins s σ H x y v u Q I rx ry h;obtain⟨i,j,rfl,rfl,hc,q⟩:=h;obtain⟨t,rfl⟩:=rx;obtain⟨t',rfl⟩:=ry;exact rule i j t t' s _ _ hc ⟨.int (g i j),H,I.tok _,⟨_,rfl⟩,q⟩
theorem b8Y{f:ai→ai→Sem ai}{g:Int→Int→Int}
    (rule:∀(i j:Int) (t u:Tok) (s:ak) (Q:ai→ak→Prop) (E:ai→ak→Prop),Q (.int (g i j) s.toks) {s with toks:=s.toks + 1}→aM (aU X.prog X.w) X.A (f (.int i t) (.int j u)) Q E s) :
    OpR X f (rI0 fun i j=>.int (g i j)):=by
  intro pins s σ H x y v u Q I rx ry h;obtain⟨i,j,rfl,rfl,q⟩:=h;obtain⟨t,rfl⟩:=rx;obtain⟨t',rfl⟩:=ry;exact rule i j t t' s _ _ ⟨.int (g i j),H,I.tok _,⟨_,rfl⟩,q⟩
theorem b6r{f:ai→ai→Sem ai}{g:Int→Int→Bool}
    (rule:∀(i j:Int) (t u:Tok) (s:ak) (Q:ai→ak→Prop) (E:ai→ak→Prop),Q (.bool (g i j)) s→aM (aU X.prog X.w) X.A (f (.int i t) (.int j u)) Q E s) :
    OpR X f (rI0 fun i j=>.bl (g i j)):=by
  intro pins s σ H x y v u Q I rx ry h;obtain⟨i,j,rfl,rfl,q⟩:=h;obtain⟨t,rfl⟩:=rx;obtain⟨t',rfl⟩:=ry;exact rule i j t t' s _ _ ⟨.bl (g i j),H,I,rfl,q⟩
def c0V(i j:Int):Prop:=0 < j∧j < 1073741824
def c0W(i j:Int):Prop:=0≤j∧j≤1000000∧i.natAbs < 2 ^ 64
def CMul(i j:Int):Prop:=(-(2 ^ 64) < i∧i < 2 ^ 64)∨(-(2 ^ 64) < j∧j < 2 ^ 64)
theorem CMul.ok{i j:Int}(h:CMul i j):IntMulOk i j:=by
  rcases h with⟨h1,h2⟩|⟨h1,h2⟩
  · exact .of_left (intBits_le_64 h1 h2)
  · exact .of_right (intBits_le_64 h1 h2)
theorem b6s:OpR X (fg .Add) (rI0 fun i j=>.int (i + j)):=b8Y fun _ _ _ _ _ _ _ q=>add_int q
theorem b6t:OpR X (fg .Sub) (rI0 fun i j=>.int (i - j)):=b8Y fun _ _ _ _ _ _ _ q=>sub_int q
theorem b6u:OpR X (fg .Mult) (rI CMul fun i j=>.int (i * j)):=opI fun _ _ _ _ _ _ _ hc q=>mul_int q hc.ok
theorem b3L:OpR X (fg .FloorDiv) (rI c0V fun i j=>.int (i / j)):=opI fun i j _ _ _ _ _ hc q=>by
  have h1:(0:Int) < j:=hc.1;have h2:j < 1073741824:=hc.2;exact floordiv_int (by omega) (by rw [Int.fdiv_eq_ediv_of_nonneg i (by omega)];exact q) (.inl (PyProof.noPylong_small (by omega)))
theorem b6v:OpR X (fg .Mod) (rI (fun _ j=>0 < j) fun i j=>.int (i % j)):=opI fun i j _ _ _ _ _ hc q=>by
  have h1:(0:Int) < j:=hc;exact mod_int' (by omega) (by rw [Int.fmod_eq_emod_of_nonneg i (by omega)];exact q)
theorem b6w:OpR X (fg .Pow) (rI c0W fun i j=>.int (i ^ j.toNat)):=opI fun _ _ _ _ _ _ _ hc q=>pow_int_small hc.1 hc.2.1 hc.2.2 q
end
section
variable {X:Cx}{a b c:Expr}{ta tb tc:TE}{pos:ek}
theorem b1g(I:Inv X pins σ H s)(q:Q (.bl k) H)(e:k=k'):EP X pins σ Q (.bool k') s:=by
  subst e;exact⟨.bl k,H,I,rfl,q⟩
theorem b8Z:OpR X (bp .Lt) (rI0 fun i j=>.bl (decide (i < j))):=b6r fun _ _ _ _ _ _ _ q=>lt_int q
theorem b9a:OpR X (bp .LtE) (rI0 fun i j=>.bl (decide (i≤j))):=b6r fun _ _ _ _ _ _ _ q=>le_int q
theorem b9b:OpR X (bp .Gt) (rI0 fun i j=>.bl (decide (j < i))):=b6r fun _ _ _ _ _ _ _ q=>gt_int q
theorem b6x:OpR X (bp .Is) (fun x y H Q=>y=.non∧Q (.bl (decide (x=.non))) H):=by
  intro pins s σ H x y v u Q I rx ry h;obtain⟨rfl,q⟩:=h;cases ry
  refine is_none_gen (b1g I q ?_);cases x <;> first
    | (cases rx;rfl)
    | (obtain⟨t,rfl⟩:=rx;rfl)
theorem b3M:OpR X (bp .IsNot) (fun x y H Q=>y=.non∧Q (.bl (!decide (x=.non))) H):=by
  intro pins s σ H x y v u Q I rx ry h;obtain⟨rfl,q⟩:=h;cases ry
  refine isnot_none_gen (b1g I q ?_);cases x <;> first
    | (cases rx;rfl)
    | (obtain⟨t,rfl⟩:=rx;rfl)
theorem a2f(b:Expr)(h:op≠.In:=by decide)(h2:op≠.NotIn:=by decide):eR op b=false:=by
  have e1:(op == va.In)=false:=by cases op <;> first|rfl|exact absurd rfl h
  have e2:(op == va.NotIn)=false:=by cases op <;> first|rfl|exact absurd rfl h2
  cases b <;> simp [eR,e1,e2]
theorem b3N{op:va}{r:R2}(ho:OpR X (bp op) r)(ha:PE X a ta)(hb:PE X b tb)(hm:eR op b=false):PE X (.Compare a [op] [b] pos) (tOp r ta tb):=by
  intro pins s σ H Q I h;exact wpAny_Compare1 (b6q ha hb I h fun v u s2 x y H2 I2 rx ry q=>ho pins s2 σ H2 x y v u Q I2 rx ry q) hm
def b1h(t:TE):TT:=fun σ H Q=>t σ H fun x H'=>∃k,x=.bl k∧Q k H'
theorem a1O(ho:OpR X (bp op) r)(ha:PE X a ta)(hb:PE X b tb)(hm:eR op b=false):PT X (.Compare a [op] [b] pos) (b1h (tOp r ta tb)):=by
  intro pins s σ H Q I h;refine wpAny_isTrue_Compare1 (thn (ha pins s σ H _ I h) fun v s1 ⟨x,H1,I1,r1,q1⟩=>thn (hb pins s1 σ H1 _ I1 q1) fun u s2 ⟨y,H2,I2,r2,q2⟩=>
    thn (ho pins s2 σ H2 x y v u _ I2 r1 r2 q2) fun c s3 ⟨z,H3,I3,r3,k,e,q3⟩=>?_) hm
  subst e;cases r3
  exact cg ⟨H3,I3,q3⟩
def b1i(r r':R2)(ta tb tc:TE):TE:=fun σ H Q=>ta σ H fun x H1=>tb σ H1 fun y H2=>r x y H2 fun z H3=>∃k,z=.bl k∧
  (if k=true then tc σ H3 fun w' H4=>r' y w' H4 Q else Q (.bl false) H3)
theorem b1j(ho:OpR X (bp op) r)(kO:OpR X (bp lF) r')(ha:PE X a ta)(hb:PE X b tb)(hc:PE X c tc)
    (hm:mC [op,lF] [b,c]=false:=by with_unfolding_all rfl):PE X (.Compare a [op,lF] [b,c] pos) (b1i r r' ta tb tc):=by
  intro pins s σ H Q I h;refine Compare_chain (thn (ha pins s σ H _ I h) fun v s1 ⟨x,H1,I1,r1,q1⟩=>chain_link (thn (hb pins s1 σ H1 _ I1 q1) fun u s2 ⟨y,H2,I2,r2,q2⟩=>
    thn (ho pins s2 σ H2 x y v u _ I2 r1 r2 q2) fun d s3 ⟨z,H3,I3,r3,k,e,q3⟩=>?_)) hm
  subst e;cases r3
  refine cg ?_;cases k with
  | false=>exact ite_ff ⟨.bl false,H3,I3,rfl,q3⟩
  | true=>exact ite_tt (chain_last (thn (hc pins s3 σ H3 _ I3 q3) fun w' s4 ⟨z',H4,I4,r4,q4⟩=>kO pins s4 σ H4 y z' u w' Q I4 r2 r4 q4))
theorem b1k(ho:OpR X (bp op) r)(kO:OpR X (bp lF) r')(ha:PE X a ta)(hb:PE X b tb)(hc:PE X c tc)
    (hm:mC [op,lF] [b,c]=false:=by with_unfolding_all rfl):PT X (.Compare a [op,lF] [b,c] pos) (b1h (b1i r r' ta tb tc)):=by
  intro pins s σ H Q I h;refine isTrue_chain (thn (ha pins s σ H _ I h) fun v s1 ⟨x,H1,I1,r1,q1⟩=>test_link (thn (hb pins s1 σ H1 _ I1 q1) fun u s2 ⟨y,H2,I2,r2,q2⟩=>
    thn (ho pins s2 σ H2 x y v u _ I2 r1 r2 q2) fun d s3 ⟨z,H3,I3,r3,k,e,q3⟩=>?_)) hm
  subst e;cases r3
  refine cg ?_;cases k with
  | false=>
    obtain⟨k',e',q'⟩:=q3;cases e'
    exact ite_ff ⟨H3,I3,q'⟩
  | true=>
    refine ite_tt (test_last (thn (hc pins s3 σ H3 _ I3 q3) fun w' s4 ⟨z',H4,I4,r4,q4⟩=>thn (kO pins s4 σ H4 y z' u w' _ I4 r2 r4 q4) fun d' s5 ⟨z2,H5,I5,r5,k2,e2,q5⟩=>?_));subst e2;cases r5
    exact cg ⟨H5,I5,q5⟩
def b6y(K:af)(x:V)(H:Hp)(k:Bool):Prop:=
  match x with
  | .non=>k=false
  | .bl b=>k=b
  | .int i=>k=(i != 0)
  | .str y=>y.length≤aS∧k=((y.length:Int) != 0)
  | .byt y=>y.size≤aS∧k=((y.size:Int) != 0)
  | .ref p=>(∃xs,SqL K H p xs∧k=!xs.isEmpty)∨(∃xs,SqT K H p xs∧k=!xs.isEmpty)∨∃kvs,H p=some (.dK kvs)∧k=!kvs.isEmpty
  | _=>False
theorem a6Y{κ:Type}{kvs:List (κ × V)}{vs:List (κ × ai)}(r:KV kvs vs):(!vs.isEmpty)=!kvs.isEmpty:=by
  cases r <;> rfl
theorem a2g{xs:List V}{bU:List ai}(r:Vals xs bU):(!bU.toArray.isEmpty)=!xs.isEmpty:=by
  cases r <;> simp
theorem a0H:(aS:Nat) < 2 ^ 63:=by rw [dv];decide
theorem b6z:c0U X (fun x H Q=>∃k,b6y X.K x H k∧Q k H):=by
  intro pins s σ H x v Q I rx h;obtain⟨k,e,q⟩:=h;have hl:=a0H;have hs:aS=16777216:=dv;cases x with
  | non=>
    cases rx
    have e':k=false:=e;subst e';exact truthy_none ⟨H,I,q⟩
  | bl b=>
    cases rx
    have e':k=b:=e;subst e';exact cg ⟨H,I,q⟩
  | int i=>
    obtain⟨t,rfl⟩:=rx;have e':k=(i != 0):=e;subst e';exact PySem.P.truthy_int ⟨H,I,q⟩
  | str y=>
    obtain⟨t,rfl⟩:=rx;obtain⟨hy,e'⟩:y.length≤aS∧k=((y.length:Int) != 0):=e;subst e';exact PySem.P.truthy_str (by omega) ⟨H,I.tok _,q⟩
  | byt y=>
    obtain⟨t,rfl⟩:=rx;obtain⟨hy,e'⟩:y.size≤aS∧k=((y.size:Int) != 0):=e;subst e';exact PySem.W.truthy_bytes (by omega) ⟨H,I.tok _,q⟩
  | ref p=>
    cases rx
    have e':(∃xs,SqL X.K H p xs∧k=!xs.isEmpty)∨(∃xs,SqT X.K H p xs∧k=!xs.isEmpty)∨∃kvs,H p=some (.dK kvs)∧k=!kvs.isEmpty:=e;rcases e' with⟨xs,hx,e'⟩|⟨xs,hx,e'⟩|⟨kvs,hx,e'⟩
    · subst e'
      obtain⟨bU,r,pl,hz⟩:=I.list hx;have hlen:=r.length;exact wpAny_truthy_list pl.isList (by simp only [aT];omega) ⟨H,I.tok _,by rw [a2g r];exact q⟩
    · subst e'
      obtain⟨bU,r,pl,hz⟩:=I.tuple hx;have hlen:=r.length;exact truthy_tuple pl (by simp only [aT];omega) ⟨H,I.tok _,by rw [a2g r];exact q⟩
    · subst e'
      obtain⟨hz,hS,vs,r,m⟩:kvs.length≤aS∧(p == dF)=false∧∃vs,KV kvs vs∧s.heap.DictOf (a4y X.prog X.w) p vs:=I.hok p _ hx;have hlen:kvs.length=vs.length:=dJ r;exact wpAny_truthy_dict hS m (by omega) ⟨H,I.tok _,by rw [a6Y r];exact q⟩
  | _=>exact (show False from e).elim
theorem b1l(ha:PE X a ta)(he:∀whole,pF a X.env whole=(do let v ←whole;sj a.pos;il [v] (tu v))) :
    PT X a (fun σ H Q=>ta σ H fun x H'=>∃k,b6y X.K x H' k∧Q k H'):=by
  intro pins s σ H Q I h;exact isTrue_plain (thn (ha pins s σ H _ I h) fun v s1 ⟨x,H1,I1,r1,q1⟩=>b6z pins s1 σ H1 x v Q I1 r1 q1) (he _)
theorem vals1(r:Vals [x] us):∃u,us=[u]∧RelV x u:=by
  cases r with
  | cons r1 r2=>cases r2;exact⟨_,rfl,r1⟩
theorem vals2(r:Vals [x,y] us):∃u w',us=[u,w']∧RelV x u∧RelV y w':=by
  cases r with
  | cons r1 r2=>
    cases r2 with
    | cons r3 r4=>cases r4;exact⟨_,_,rfl,r1,r3⟩
theorem a9B(hc:X.calm=true):CallR X (.builtin "min") (fun xs H Q=>∃i j,xs=[.int i,.int j]∧Q (.int (if j < i then j else i)) H):=by
  intro pins s σ H xs us Q I r h;obtain⟨i,j,rfl,q⟩:=h;obtain⟨u,w',rfl,⟨t,rfl⟩,⟨t',rfl⟩⟩:=vals2 r;refine min_two_ints (I.ok.hd hc) fun h' tk k=>⟨_,H,I.kept k,?_,q⟩
  by_cases hj:j < i
  · rw [aE hj,aE hj];exact⟨_,rfl⟩
  · rw [aO hj,aO hj];exact⟨_,rfl⟩
end
end L2
namespace L2
open PySem PySem.Spec PyProof.Rows
structure ObjM (h:bL) (x dx C:av) (mA:bc→Option ai):Prop where
  obj:h.get? x=some (nB C dx)
  ns:h.Ns1 dx mA
  ne:dx≠x
theorem a9C{h:bL}(n:h.Ns1 dx mA):∃od,h.get? dx=some od∧∀name,oK name od=some (mA name):=by
  obtain⟨o,es,ep,ho,hd,hk,_,hm⟩:=n;refine⟨o,ho,fun name=>?_⟩;have e:=hm name;unfold nsFind findBy at e;rw [←Array.find?_toList] at e;unfold oK;rw [hd]
  dsimp only
  split
  · rename_i y q
    rw [q] at e;exact dC some e
  · rename_i q
    rw [q] at e;have a:es.toList.any (·.refKey)=false:=by
      rw [dG];intro y hy;obtain⟨z,t,lX⟩:=hk y (dE.mp hy);simp [dY.refKey,lX]
    have a':¬ es.toList.any (·.refKey)=true:=by rw [a];exact bB
    rw [aO a'];exact dC some e
theorem ObjM.look(I:ObjM h x dx C mA):∃od,PySem.W.InstAt h x (nB C dx) C (some od)∧∀name,oK name od=some (mA name):=
  let⟨od,ho,hl⟩:=a9C I.ns
  ⟨od,⟨I.obj,rfl,rfl,ho⟩,hl⟩
section
variable {P:bh}{w:bE}{H H':Hp}{h h':bL}{a C dx:av}{fs kL:List (bc × V)}
theorem b3O(hok:HOk P w H h)(e:H a=some (.ins C dx fs)):∃mA,ObjM h a dx C mA∧(∀f,b6a (fs.lookup f) (mA f))∧PySem.Within mA (fs.map (·.1))∧fs.length≤1000∧H dx=some (.own a):=by
  obtain⟨d,z,ne,ob,mA,n,r,q⟩:=(show ObjOk P w H h a (.ins C dx fs) from hok a _ e);exact⟨mA,⟨ob,n,ne⟩,r,q,z,d⟩
end
structure Cls (K:af) (C:av):Prop where
  pg:Dj K C bc.empty=true
  hd:PySem.W.hasDictIn K C=true
  po:PySem.W.plainOver K C=true
  sa:eL K (.ref C) "__setattr__"=some (some (.builtin "object.__setattr__"))
theorem Cls.get{K:af}{C:av}(c:Cls K C)(f:bc):Dj K C f=true:=c.pg
structure Con (K:af) (C:av) (f:bc) (v:V) (u:ai):Prop where
  at_:eL K (.ref C) f=some (some u)
  rel:RelV v u
  get:zO K u "__get__"=some none
  cp:PySem.W.copiedNames.contains f=false
structure Meth (K:af) (C:av) (m:bc) (f:av):Prop where
  at_:eL K (.ref C) m=some (some (.ref f))
  fn:PySem.W.isFn K (.ref f)=true
  kp:ee K (.ref f)=true
section
variable {X:Cx}{pins:List (av × eD)}{σ:St}{H:Hp}{s:ak}{A:bx}{E:ai→ak→Prop}{Q:ai→ak→Prop}{c:ai}{b:Bool}
inductive TyOf (K:af) (H:Hp):V→ai→Prop where
  | non:TyOf K H .non (.type "NoneType")
  | bl (x:Bool):TyOf K H (.bl x) (.type "bool")
  | int (i:Int):TyOf K H (.int i) (.type "int")
  | str (x:bc):TyOf K H (.str x) (.type "str")
  | flt (x:UInt64):TyOf K H (.flt x) (.type "float")
  | lst {a:av} {xs:List V} (e:H a=some (.lst xs)):TyOf K H (.ref a) (.type "list")
  | frz {a:av} {o:eD} {xs:List V} (e:H a=some (.frz o (.lst xs))):TyOf K H (.ref a) (.type "list")
  | tup {a:av} {xs:List V} (e:H a=some (.tup xs)):TyOf K H (.ref a) (.type "tuple")
  | dK {a:av} {kvs:List (Key × V)} (e:H a=some (.dK kvs)):TyOf K H (.ref a) (.type "dict")
  | dT {a:av} {kvs:List (List Key × V)} (e:H a=some (.dT kvs)):TyOf K H (.ref a) (.type "dict")
  | ins {a C dx:av} {fs:List (bc × V)} (e:H a=some (.ins C dx fs)) (cl:Cls K C) (ha:eL K (.ref C) "__class__"=some (some (.builtin "object.__class__")))
      (hn:zO K (.builtin "object.__class__") "__get__"=some (some (.builtin "getset_descriptor.__get__"))) (sC:PySem.W.takesIn K (.builtin "object.__class__")=some true)
      (hm:PySem.W.mroIn K C (.type "object")=some true):TyOf K H (.ref a) (.ref C)
theorem a3G(I:Inv X pins σ H s)(rx:RelV x u)(ty:TyOf X.K H x t)(e:cN X.K t c=some b)(h:∀tk,Q (.bool b) {s with toks:=tk}) :
    aM (aU X.prog X.w) A (call (.builtin "isinstance") [u,c]) Q E s:=by
  cases ty with
  | non=>cases (show u=cD from rx);exact bX PySem.W.kitx_none I.kIn iS e (fun z=>nomatch z) h
  | bl y=>cases (show u=iM y from rx);exact bX PySem.W.kitx_bool I.kIn iS e (fun z=>nomatch z) h
  | int i=>obtain⟨t,q⟩:=(show ∃t,u=pZ i t from rx);cases q;exact bX PySem.W.kitx_int I.kIn iS e (fun z=>nomatch z) h
  | str y=>obtain⟨t,q⟩:=(show ∃t,u=pY y t from rx);cases q;exact bX PySem.W.kitx_str I.kIn iS e (fun z=>nomatch z) h
  | flt y=>obtain⟨t,q⟩:=(show ∃t,u=ai.float y t from rx);cases q;exact bX PySem.W.kitx_float I.kIn iS e (fun z=>nomatch z) h
  | @lst a xs ea=>
    cases (show u=be a from rx)
    obtain⟨_,_,n,_,h1⟩:=(show ObjOk X.prog X.w H s.heap a (.lst xs) from I.hok a _ ea);exact bX mo I.kIn ⟨_,h1,rfl⟩ e (fun z=>nomatch z) h
  | @frz a ob xs ea=>
    cases (show u=be a from rx)
    obtain⟨_,_,_,n,_,h1⟩:=(show ObjOk X.prog X.w H s.heap a (.frz ob (.lst xs)) from I.hok a _ ea);exact bX mo I.kIn ⟨_,h1,rfl⟩ e (fun z=>nomatch z) h
  | @tup a xs ea=>
    cases (show u=be a from rx)
    obtain⟨_,_,_,p⟩:=(show ObjOk X.prog X.w H s.heap a (.tup xs) from I.hok a _ ea);obtain⟨o,h1,h2,_⟩:=p;exact bX yf I.kIn ⟨o,h1,h2⟩ e (fun z=>nomatch z) h
  | @dK a kvs ea=>
    cases (show u=be a from rx)
    obtain⟨_,_,vs,_,p⟩:=(show ObjOk X.prog X.w H s.heap a (.dK kvs) from I.hok a _ ea);obtain⟨o,es,ep,h1,h2,_⟩:=p;exact bX mq I.kIn ⟨o,h1,h2.1⟩ e (fun z=>nomatch z) h
  | @dT a kvs ea=>
    cases (show u=be a from rx)
    obtain⟨_,_,xs,_,o,es,ep,h1,h2,_⟩:=(show ObjOk X.prog X.w H s.heap a (.dT kvs) from I.hok a _ ea);exact bX mq I.kIn ⟨o,h1,h2.1⟩ e (fun z=>nomatch z) h
  | @ins a C dx fs ea cl ha hn sC hm=>
    cases (show u=be a from rx)
    obtain⟨mA,O,_⟩:=b3O I.hok ea;obtain⟨od,J,_⟩:=O.look;exact bX (PySem.W.kitx_own (cl.get _) cl.hd ha hn sC hm) I.kIn J e (fun z=>nomatch z) h
end
end L2
namespace L2
open PySem PySem.Spec PyProof.Rows
structure Room (k:Nat) (A:bx):Prop where
  hd:A.handled=none
  dp:A.depth + 3 * k + 5 < recursionLimit
  un:A.units + 16 * k + 200 < cH
theorem Room.mono(r:Room k A)(h:j≤k):Room j A:=⟨r.hd,by have:=r.dp;omega,by have:=r.un;omega⟩
theorem Room.deeper(r:Room (k + 1) A)(env:lQ):Room k (A.deeper env):=
  ⟨r.hd,by have:=r.dp;show A.depth + 1 + 3 * k + 5 < _;omega,by have:=r.un;show A.units + 3 + 16 * k + 200 < _;omega⟩
theorem Room.depth(r:Room k A):A.depth < recursionLimit:=by have:=r.dp;omega
theorem Room.units(r:Room k A):A.units + 64 < cH:=by have:=r.un;omega
def c0X:TA:=fun _ H Q=>Q [] H
def b9c(ta:TE)(tr:TA):TA:=fun σ H Q=>ta σ H fun x H1=>tr σ H1 fun xs H2=>Q (x :: xs) H2
section
variable {X:Cx}{e:Expr}{es:List Expr}{te:TE}{t:TA}{pos:ek}
theorem o7:PA X [] c0X:=fun _ _ _ _ H Q I h=>Calls.spliced_nil ⟨[],H,I,.nil,h⟩
theorem k9(ha:PE X e te)(hr:PA X es t)(hs:au (e :: es) X.env=(false,bW e X.env) :: au es X.env:=by rfl):PA X (e :: es) (b9c te t):=by
  intro pos pins s σ H Q I h;rw [hs];show aM _ _ (spliced ((false,bW e X.env) :: b_ pos (au es X.env))) _ _ s;refine Calls.spliced_cons (thn (ha pins s σ H _ I h) fun u s1 ⟨x,H1,I1,r1,q1⟩=>?_);exact thn (hr pos pins s1 σ H1 _ I1 q1) fun us s2 ⟨xs,H2,I2,r2,q2⟩=>⟨x :: xs,H2,I2,.cons r1 r2,q2⟩
def c0Y(t:TA):TE:=fun σ H Q=>t σ H fun xs H1=>xs.length≤aS∧∀p,H1 p=none→Q (.ref p) (upd H1 p (.tup xs))
def c0Z(t:TA):TE:=fun σ H Q=>t σ H fun xs H1=>xs.length≤aS∧∀p,H1 p=none→Q (.ref p) (upd H1 p (.lst xs))
theorem a4C{x1}(h:PA X es t):PE X (.Tuple es x1 pos) (c0Y t):=by
  intro pins s σ H Q I hq;refine wpAny_Tuple_spliced (thn (h pos pins s σ H _ I hq) fun us s1 ⟨xs,H1,I1,r,z,q⟩=>⟨by rw [←r.length];exact z,?_⟩);have hf:H1 s1.heap.objs.size=none:=I1.hok.fresh (aF _);refine⟨.ref s1.heap.objs.size,upd H1 s1.heap.objs.size (.tup xs),I1.laid (t':=s1.toks) (fun b u e=>aw _ e) (aF _) ?_,rfl,q _ hf⟩;exact⟨z,us,r,⟨_,aR _ rfl,rfl,_,rfl⟩⟩
theorem b6A(h:PA X es t):PE X (.List es pos) (c0Z t):=by
  intro pins s σ H Q I hq;refine wpAny_List_spliced (thn (h pos pins s σ H _ I hq) fun us s1 ⟨xs,H1,I1,r,z,q⟩=>⟨by rw [←r.length];exact z,?_⟩);have hf:H1 s1.heap.objs.size=none:=I1.hok.fresh (aF _);refine⟨.ref s1.heap.objs.size,upd H1 s1.heap.objs.size (.lst xs),I1.laid (t':=s1.toks) (fun b u e=>aw _ e) (aF _) ?_,rfl,q _ hf⟩;exact⟨z,us,0,r,aR _ rfl⟩
end
abbrev Sp:=List V→Hp→VK→XK→Prop
abbrev CXT:=List lQ→Hp→ak→XK→ai→ak→Prop
structure Env0 (P:bh) (w:bE) (K:af) (mg:bc→Option ai) (base:bL) (A:bx) (outer:List lQ) (s:ak) (H:Hp):Prop where
  frames:A.frames=some outer
  mod:Mod K mg base
  bs:∀b o,base.get? b=some o→s.heap.get? b=some o∧H b=none
  bsz:base.objs.size≤s.heap.objs.size
  funs:s.heap.FunFrames base outer
  frf:∀b∈frs outer,H b=none
  hok:HOk P w H s.heap
  bare:i_ s.gens
  tabs:TabsIn K H
def CE(outer:List lQ)(P:bh)(w:bE)(H:Hp)(s:ak)(Q:VK)(u:ai)(s':ak):Prop:=
  ∃v H',s'.os=s.os∧i_ s'.gens∧Un (frs outer) [] H H' s.heap s'.heap∧HOk P w H' s'.heap∧RelV v u∧Q v H'
def CR(CX:CXT)(outer:List lQ)(P:bh)(w:bE)(H:Hp)(s:ak)(Q:VK)(E:XK)(r:Di)(s':ak):Prop:=
  match r with
  | .ok (.ret u)=>CE outer P w H s Q u s'
  | .ok _=>False
  | .error e=>CX outer H s E e s'
structure FnOk (P:bh) (w:bE) (K:af) (mg:bc→Option ai) (base:bL) (CX:CXT) (k:Nat) (f:av) (fd:cV) (ps:List bc) (sp:Sp):Prop where
  len:∀vs H Q E,sp vs H Q E→vs.length=ps.length
  run:∀(A:bx) (outer:List lQ) (s:ak) (H:Hp) (args:Args) (us:List ai) (vs:List V) (Q:VK) (E:XK),Room k A→Env0 P w K mg base A outer s H→mG s fd args (ps.zip us)→Vals vs us→sp vs H Q E→
    ir (aU P w) A (.call (.ref f) args) (CR CX outer P w H s Q E) s
theorem FnOk.mono{P:bh}{w:bE}{K:af}{mg:bc→Option ai}{base:bL}{CX:CXT}{j k:Nat}{f:av}{fd:cV}{ps:List bc}{sp:Sp}(F:FnOk P w K mg base CX j f fd ps sp)(h:j≤k) :
    FnOk P w K mg base CX k f fd ps sp:=⟨F.len,fun A outer s H args us vs Q E hr=>F.run A outer s H args us vs Q E (hr.mono h)⟩
section
variable {X:Cx}{pins:List (av × eD)}{σ:St}{H:Hp}{s s':ak}
theorem Inv.env0(I:Inv X pins σ H s):Env0 X.prog X.w X.K X.mg X.base X.A X.stack s H:=
  ⟨I.ok.frames,I.ok.mod,I.bs,cI I.ok.bsz I.sz,I.stack,I.stkFree,I.hok,I.bare,I.tabs⟩
theorem Inv.after(I:Inv X pins σ H s)(h:CE X.stack X.prog X.w H s Q u s'):EP X pins σ Q u s':=by
  obtain⟨v,H',os,bare,un,hok,r,q⟩:=h;obtain⟨hh,g,d,t,wo⟩:=s';obtain rfl:wo=s.os:=os;exact⟨v,H',I.call (h':=hh) (g':=g) (d':=d) (t':=t) (ch:=[]) un hok bare (fun b z=>absurd z (by simp)),r,q⟩
end
def b5z(sp:Sp)(qQ:List V)(E:XK)(t:TA):TE:=fun σ H Q=>t σ H fun vs H1=>sp (vs ++ qQ) H1 Q E
def Binds(K:af)(fd:cV)(ps:List bc)(ds:List ai):Prop:=
  ∀(s:ak) (us:List ai),K.In s.heap→(us ++ ds).length=ps.length→mG s fd ⟨us,[]⟩ (ps.zip (us ++ ds))
theorem Binds.all{K:af}{fd:cV}{ps:List bc}(h:∀us:List ai,us.length=ps.length→me fd ⟨us,[]⟩=pure (ps.zip us)):Binds K fd ps []:=fun s us _ hl=>by
  rw [aZ] at hl ⊢;exact .of_eq (h us hl)
def a6Z(CX:CXT)(X:Cx)(E:XK):Prop:=∀(pins:List (av × eD)) (σ:St) (H:Hp) (s:ak) (e:ai) (s':ak),Inv X pins σ H s→CX X.stack H s E e s'→X.xe e s'
section
variable {X:Cx}{CX:CXT}{k:Nat}{f C:av}{fd:cV}{ps:List bc}{sp:Sp}{qQ:List V}{ds:List ai}{E:XK}{x m:bc}{p pos apos:ek}{e o:Expr}{es:List Expr}{ta:TE}{t:TA}
theorem b6B(F:FnOk X.prog X.w X.K X.mg X.base CX k f fd ps sp)(hr:Room k X.A)(hb:Binds X.K fd ps ds)(hd:Vals qQ ds)(hx:a6Z CX X E)
    (I:Inv X pins σ H s) (r:Vals vs us) (h:sp (vs ++ qQ) H Q E):aM (aU X.prog X.w) X.A (call (.ref f) us) (EP X pins σ Q) X.xe s:=by
  have r2:Vals (vs ++ qQ) (us ++ ds):=r.append hd;have hl:(us ++ ds).length=ps.length:=by rw [←r2.length];exact F.len _ _ _ _ h
  refine kM (eH (F.run X.A X.stack s H ⟨us,[]⟩ (us ++ ds) (vs ++ qQ) Q E hr I.env0 (hb s us I.kIn hl) r2 h) fun r s' hq=>?_);cases r with
  | error e=>exact hx pins σ H s e s' I hq
  | ok fl=>
    cases fl with
    | ret u=>exact I.after hq
    | next=>exact bS hq
    | brk=>exact bS hq
    | cont=>exact bS hq
theorem b3P(F:FnOk X.prog X.w X.K X.mg X.base CX k f fd ps sp)(hr:Room k X.A)(hg:Gl X x)(hm:X.mg x=some (.ref f))(hk:ee X.K (.ref f)=true)(hb:Binds X.K fd ps ds)(hd:Vals qQ ds)(hx:a6Z CX X E)
    (ha:PA X (e :: es) t) (jM:(x == ("__debug__":bc))=false:=by decide) (he:au (e :: es) X.env=(false,bW e X.env) :: au es X.env:=by rfl) (fD:(b_ pos (au es X.env)).any (·.1)=false:=by rfl) :
    PE X (.Call (.Name x p) (e :: es) [] pos) (b5z sp qQ E t):=by
  intro pins s σ H Q I h;refine fH (V0 I hg hm ?_ jM);refine lK (h₀:=X.base) I.ok.mod.kin hk (thn (ha pos pins s σ H _ I h) fun us s1 ⟨vs,H1,I1,r,q⟩=>⟨I1.kIn,?_⟩) he fD;exact b6B F hr hb hd hx I1 r q
structure Mk (K:af) (C f:av):Prop where
  makes:PySem.W.makesIn K C=true
  init:eL K (.ref C) "__init__"=some (some (.ref f))
  fn:PySem.W.isFn K (.ref f)=true
  kp:ee K (.ref C)=true
end
section
variable {X:Cx}{CX:CXT}{k:Nat}{f C:av}{fd:cV}{ps ks:List bc}{sp:Sp}{E:XK}{x m:bc}{p pos apos tK:ek}{e o:Expr}{es:List Expr}{DJ:List gC}{te ta:TE}{t tk:TA}{nm:Option bc}
structure KBinds (K:af) (fd:cV) (ps ks:List bc) (g:List ai→List ai→List ai) (gV:List V→List V→List V):Prop where
  to:∀(s:ak) (us ws:List ai),K.In s.heap→(g us ws).length=ps.length→mG s fd ⟨us,ks.zip ws⟩ (ps.zip (g us ws))
  rel:∀{vs:List V} {us:List ai} {zs:List V} {ws:List ai},Vals vs us→Vals zs ws→Vals (gV vs zs) (g us ws)
variable {g:List ai→List ai→List ai}{gV:List V→List V→List V}
end
structure FnScope (N P:List bc) (sc:fE):Prop where
  kind:sc.kind=.function
  co:sc.isCoroutine=false
  gen:sc.isGenerator=false
  nd:N.Nodup
  pre:N.take P.length=P
  par:∀x∈P,sc.names.lookup x=some .local∨sc.names.lookup x=some .cell
  nofree:∀y∈sc.names,y.2≠.free
theorem a3H{kindOf:bc→Option iu}{x:bc}:∀{binds:List (bc × ai)} {m:bc→Option ai},(∀v,(x,v)∉binds)→zK kindOf binds m x=m x
  | [],_,_=>rfl
  | (n,v) :: r,m,h=>by
    unfold zK;rw [a3H fun w hw=>h w (ao _ hw)]
    split
    · have:x≠n:=by rintro rfl;exact h v ah
      simp [this]
    · rfl
theorem a3I{kindOf:bc→Option iu}{x:bc}:∀{binds:List (bc × ai)} {m:bc→Option ai},(∀v,(x,v)∉binds)→zL kindOf binds m x=m x
  | [],_,_=>rfl
  | (n,v) :: r,m,h=>by
    unfold zL;rw [a3I fun w hw=>h w (ao _ hw)]
    split
    · rfl
    · have:x≠n:=by rintro rfl;exact h v ah
      simp [this]
theorem a3J{kindOf:bc→Option iu}{x:bc}{v:ai}:∀{P:List bc} {vs:List ai} {i:Nat} {m:bc→Option ai},P.Nodup→P[i]?=some x→vs[i]?=some v→kindOf x=some .local→
    zK kindOf (P.zip vs) m x=some v
  | [],_,_,_,_,h,_,_=>by simp at h
  | _ :: _,[],_,_,_,_,h,_=>by simp at h
  | p :: P,w :: vs,0,m,nd,h1,h2,hk=>by
    simp at h1 h2;subst h1;subst h2
    show zK kindOf ((p,w) :: P.zip vs) m p=_;unfold zK;rw [a3H fun v hv=>(bA.mp nd).1 (iC hv).1,aE hk];simp
  | p :: P,w :: vs,i + 1,m,nd,h1,h2,hk=>by
    show zK kindOf ((p,w) :: P.zip vs) m x=_;unfold zK;exact a3J (i:=i) (bA.mp nd).2 (by simpa using h1) (by simpa using h2) hk
theorem a3K{kindOf:bc→Option iu}{x:bc}{v:ai}:∀{P:List bc} {vs:List ai} {i:Nat} {m:bc→Option ai},P.Nodup→P[i]?=some x→vs[i]?=some v→kindOf x≠some .local→
    zL kindOf (P.zip vs) m x=some v
  | [],_,_,_,_,h,_,_=>by simp at h
  | _ :: _,[],_,_,_,_,h,_=>by simp at h
  | p :: P,w :: vs,0,m,nd,h1,h2,hk=>by
    simp at h1 h2;subst h1;subst h2
    show zL kindOf ((p,w) :: P.zip vs) m p=_;unfold zL;rw [a3I fun v hv=>(bA.mp nd).1 (iC hv).1,aO hk];simp
  | p :: P,w :: vs,i + 1,m,nd,h1,h2,hk=>by
    show zL kindOf ((p,w) :: P.zip vs) m x=_;unfold zL;exact a3K (i:=i) (bA.mp nd).2 (by simpa using h1) (by simpa using h2) hk
def start(N:List bc)(vs:List V):St:=vs.map some ++ aC (N.length - vs.length) none
def S9(CX:CXT)(P:bh)(w:bE)(K:af)(mg:bc→Option ai)(base:bL)(N:List bc)(qual:bc)(scope:fE)(f:av)(cd:ai)(A:bx)(outer:List lQ)(s:ak)(H:Hp)(E:XK):Cx where
  prog:=P
  w:=w
  K:=K
  mg:=mg
  base:=base
  A:=A.deeper (iE qual scope s.heap.objs.size f cd)
  N:=N
  s₀:=s
  H₀:=H
  env:=iE qual scope s.heap.objs.size f cd
  outer:=outer
  stack:=iE qual scope s.heap.objs.size f cd :: outer
  ex:=[]
  calm:=true
  fn:=fun _=>true
  pn:=[]
  xe:=fun e s'=>aM (aU P w) (A.deeper (iE qual scope s.heap.objs.size f cd)) (leaving (iE qual scope s.heap.objs.size f cd) e) (fun _ qY=>CX outer H s E e qY) (fun e' qY=>CX outer H s E e' qY) s'
theorem a5p{sc:fE}(h:sc.names.lookup x=some .cell):∃c,(cellsFrom n sc.names []).lookup x=some c:=by
  have q:=rT sc.names n [] (.inl h);exact dz.mp q
theorem a9D{CX:CXT}{P:bh}{w:bE}{K:af}{mg:bc→Option ai}{base:bL}{N ps:List bc}{qual:bc}{scope:fE}{f:av}{cd:ai}{A:bx}{outer:List lQ}{s s1:ak}{H:Hp}{E:XK}{us:List ai}{vs:List V}
    (S:FnScope N ps scope) (hd:A.handled=none) (e0:Env0 P w K mg base A outer s H) (hl:vs.length=ps.length) (r:Vals vs us)
    (x:InCallC s s.heap.objs.size (zK (iE qual scope s.heap.objs.size f cd).kindOf (ps.zip us) fun _=>none) (cellsFrom (s.heap.objs.size + 1) scope.names []) (zL (iE qual scope s.heap.objs.size f cd).kindOf (ps.zip us) fun _=>none) s1) :
    Inv (S9 CX P w K mg base N qual scope f cd A outer s H E) [] (start N vs) H s1:=by
  have fD:ps.length≤N.length:=by have:=dC gG S.pre;rw [du] at this;omega
  obtain⟨h1,tk,rfl,hk⟩:=x.done;have q_:∀b:av,b∉(S9 CX P w K mg base N qual scope f cd A outer s H E).ex:=fun b z=>absurd (show b∈([]:List av) from z) (by simp)
  refine⟨⟨e0.mod,S.kind,rfl,rfl,aF _,fun y z c h1 h2=>?_,fun y hy=>?_,fun y c _ h=>?_,fun _=>hd,bx.frames_deeper e0.frames,.inr ⟨rfl,rfl⟩,fun b z=>absurd z (q_ b),e0.bs,e0.bsz,fun b _ _=>q_ b,fun b z=>absurd z (q_ b),e0.funs,e0.frf,e0.tabs⟩,
    rfl,e0.bare,Un.kept hk,⟨_,x.toInCall.ns,fun i y v h1 h2 h3=>?_⟩,fun y c h=>⟨_,x.cell y c h⟩,e0.hok.fresh (aF _),fun y c h=>?_,fun p hp=>absurd (show p∈([]:List (av × eD)) from hp) (by simp),e0.hok.kept hk,?_⟩
  · exact name_of_addr x.apart (bK h1) (bK h2)
  · have hy:scope.names.lookup y=some .cell∨scope.names.lookup y=some .free:=hy
    rcases hy with hy|hy
    · exact a5p hy
    · exact absurd rfl (S.nofree _ (bK hy))
  · exact dA (x.above y c (bK h))
  · have hi:i < vs.length:=by
      unfold start at h2;by_cases hi:i < vs.length
      · exact hi
      · rw [eh (by simpa using hi)] at h2
        rw [qU] at h2
        split at h2 <;> cases h2
    have ha:vs[i]?=some v:=by
      unfold start at h2;rw [fY (by simpa using hi),bz] at h2;cases e:vs[i]? with
      | none=>rw [e] at h2;cases h2
      | some a=>rw [e] at h2;cases h2;rfl
    obtain⟨u,hu,rv⟩:=r.get ha;have hp:ps[i]?=some y:=by
      rw [←S.pre,List.getElem?_take_of_lt (by omega)];exact h1
    have yD:ps.Nodup:=by rw [←S.pre];exact S.nd.sublist (List.take_sublist _ _)
    refine⟨u,rv,?_⟩;rcases S.par y (bD hp) with k|k
    · exact .inl ⟨k,a3J yD hp hu k⟩
    · obtain⟨c,e⟩:=a5p (n:=s.heap.objs.size + 1) k
      refine .inr ⟨.inl k,c,e,?_⟩;have q:=x.cell y c e;rw [a3K yD hp hu (by show scope.names.lookup y≠_;rw [k];decide)] at q;exact q
  · exact e0.hok.fresh (dA (x.above y c (bK h)))
  · unfold start
    show _=N.length;rw [aK,ar,fy];omega
theorem b1m{CX:CXT}{P:bh}{w:bE}{K:af}{mg:bc→Option ai}{base:bL}{k:Nat}{f:av}{name qual:bc}{params:kH}{body:List fT}{scope:fE}{dV kV doc pm eQ ct oc:ai}{an od:Option av}
    {mR:Array (Option ai)} {N ps:List bc} {sp:Sp} (lk:K.lookup f=some ⟨oc,od,.func (eV name qual params body scope dV kV doc pm an eQ ct),mR⟩) (gJ:kE K eQ qual=true) (S:FnScope N ps scope)
    (len:∀vs H Q E,sp vs H Q E→vs.length=ps.length)
    (oE:∀(A:bx) (outer:List lQ) (s:ak) (H:Hp) (vs:List V) (Q:VK) (E:XK),Room k (A.deeper (iE qual scope s.heap.objs.size f eQ))→sp vs H Q E→
      ∃t,PSs (S9 CX P w K mg base N qual scope f eQ A outer s H E) body t∧t {nx:=fun _ H'=>Q .non H',rt:=Q} (start N vs) H) :
    FnOk P w K mg base CX (k + 1) f (eV name qual params body scope dV kV doc pm an eQ ct) ps sp:=by
  refine⟨len,fun A outer s H args us vs Q E hr e0 hb r nj=>?_⟩;have hl:=len _ _ _ _ nj;have KX:K.In s.heap:=e0.mod.kin.keeps fun b o e=>(e0.bs b o e).1
  have lim:s.heap.NoLimit:=e0.mod.nolimit.keeps fun b o e=>(e0.bs b o e).1
  have uk:∀y∈ps.zip us,scope.names.lookup y.1=some .local∨(scope.names.lookup y.1=some .cell∧((cellsFrom (s.heap.objs.size + 1) scope.names []).lookup y.1).isSome=true):=fun⟨n,v⟩ hy=>by
    rcases S.par n (iC hy).1 with q|q
    · exact .inl q
    · exact .inr ⟨q,rT _ _ _ (.inl q)⟩
  refine codeAny_call_function hr.depth (KX _ _ lk) rfl S.co S.gen rfl (PySem.W.codeRec_of KX gJ) (hb _ _ _ _ ?_);refine wpAny_newFunctionEnv_cells S.kind uk fun env he s1 x=>?_
  subst he;refine⟨lim.keeps x.toInCall.keep,codeAny_func ?_⟩;obtain⟨t,ht,hq⟩:=oE A outer s H vs Q E (hr.deeper _) nj;have I:Inv (S9 CX P w K mg base N qual scope f eQ A outer s H E) [] (start N vs) H s1:=a9D S hr.hd e0 hl r x;refine cC (ht [] s1 (start N vs) H _ I hq) (fun fl s' hs=>?_) fun e s' hs=>hs
  have fin:∀{σ':St} {H':Hp} {v:V} {u:ai},Inv (S9 CX P w K mg base N qual scope f eQ A outer s H E) [] σ' H' s'→RelV v u→Q v H'→CE outer P w H s Q u s':=
    fun {σ' H' v u} J rv q=>⟨v,H',J.os,J.bare,J.base,J.hok,rv,q⟩
  cases fl with
  | ret u=>
    obtain⟨v,σ',H',J,rv,q⟩:=hs;exact fin J rv q
  | next=>
    obtain⟨σ',H',J,q⟩:=hs;exact fin (v:=V.non) (u:=cD) J rfl q
  | brk=>
    obtain⟨_,_,_,q⟩:=hs;exact bS q
  | cont=>
    obtain⟨_,_,_,q⟩:=hs;exact bS q
end L2
namespace L2
open PySem PySem.Spec PyProof.Rows
section
variable {X:Cx}{x:bc}{p pos:ek}{e:Expr}{es:List Expr}{t:TA}{id T:String}{r:List V→Hp→VK→Prop}
def tCB(r:List V→Hp→VK→Prop)(t:TA):TE:=fun σ H Q=>t σ H fun vs H1=>r vs H1 Q
theorem T0(hc:CallR X (.builtin id) r)(hg:Gl X x)(hm:X.mg x=none)(hv:gz x=some (.builtin id))(ha:PA X (e :: es) t)(hn:x≠"__name__":=by decide)(jM:(x == ("__debug__":bc))=false:=by decide)
    (he:au (e :: es) X.env=(false,bW e X.env) :: au es X.env:=by rfl) (fD:(b_ pos (au es X.env)).any (·.1)=false:=by rfl):PE X (.Call (.Name x p) (e :: es) [] pos) (tCB r t):=by
  intro pins s σ H Q I h;refine fH (a0G I hg hm hv ?_ hn jM);exact PyProof.Rows.callWith_builtin1 (thn (ha pos pins s σ H _ I h) fun us s1 ⟨vs,H1,I1,r1,q1⟩=>hc pins s1 σ H1 vs us Q I1 r1 q1) he fD
theorem E5(hc:CallR X (.type T) r)(hg:Gl X x)(hm:X.mg x=none)(hv:gz x=some (.type T))(ha:PA X (e :: es) t)(hn:x≠"__name__":=by decide)(jM:(x == ("__debug__":bc))=false:=by decide)
    (he:au (e :: es) X.env=(false,bW e X.env) :: au es X.env:=by rfl) (fD:(b_ pos (au es X.env)).any (·.1)=false:=by rfl):PE X (.Call (.Name x p) (e :: es) [] pos) (tCB r t):=by
  intro pins s σ H Q I h;refine fH (a0G I hg hm hv ?_ hn jM);exact fF (thn (ha pos pins s σ H _ I h) fun us s1 ⟨vs,H1,I1,r1,q1⟩=>hc pins s1 σ H1 vs us Q I1 r1 q1) he fD
end
end L2
namespace HT
open PySem PyProof.Rows
section
variable {prog:bh}{w:bE}{A:bx}{E:ai→ak→Prop}{s:ak}
def sIx(n d:Nat):Option Int→Nat
  | none=>d
  | some v=>if v < 0 then (v + (n:Int)).toNat else min v.toNat n
end
end HT
namespace L2
open PySem PySem.Spec PyProof.Rows
abbrev TO:=St→Hp→(Option Int→Hp→Prop)→Prop
def PO(X:Cx)(e:Option Expr)(t:TO):Prop:=
  ∀(pins:List (av × eD)) (s:ak) (σ:St) (H:Hp) (Q:Option Int→Hp→Prop),Inv X pins σ H s→t σ H Q→
    aM (aU X.prog X.w) X.A (evalPart e X.env) (fun u s'=>∃o H',Inv X pins σ H' s'∧IsPart u o∧Q o H') X.xe s
def b3Q:TO:=fun _ H Q=>Q none H
def b9d(t:TE):TO:=fun σ H Q=>t σ H fun x H1=>∃i,x=.int i∧Q (some i) H1
section
variable {X:Cx}{e:Expr}{te:TE}{lo hi:Option Expr}{tl th:TO}{pos p2:ek}
theorem b3R:PO X none b3Q:=by
  intro pins s σ H Q I h;rw [evalPart_none];exact ag ⟨none,H,I,.none,h⟩
theorem b3S(h:PE X e te):PO X (some e) (b9d te):=by
  intro pins s σ H Q I hw;rw [evalPart_some];refine thn (h pins s σ H _ I hw) fun u s1 ⟨x,H1,I1,r1,q1⟩=>?_
  obtain⟨i,rfl,q⟩:=q1;obtain⟨t,rfl⟩:=r1;exact⟨some i,H1,I1,.int i t,q⟩
def SlR(X:Cx)(r:V→Option Int→Option Int→Hp→VK→Prop):Prop:=
  ∀(pins:List (av × eD)) (s:ak) (σ:St) (H:Hp) (x:V) (v vl vu:ai) (lo hi:Option Int) (sl:av) (Q:VK),Inv X pins σ H s→RelV x v→s.heap.IsSliceOf sl vl vu .none→IsPart vl lo→IsPart vu hi→r x lo hi H Q→
    ∃T id,typeLookup (.type T) "__getitem__"=pure (some (.builtin id))∧s.TypeIs v T∧aM (aU X.prog X.w) X.A (oI v (.ref sl)) (EP X pins σ Q) X.xe s
def tSl(r:V→Option Int→Option Int→Hp→VK→Prop)(te:TE)(tl th:TO):TE:=fun σ H Q=>te σ H fun x H1=>tl σ H1 fun l H2=>th σ H2 fun u H3=>r x l u H3 Q
theorem b1n(hr:SlR X r)(he:PE X e te)(hl:PO X lo tl)(hu:PO X hi th):PE X (.Subscript e (.Slice lo hi none p2) pos) (tSl r te tl th):=by
  intro pins s σ H Q I h;refine Subscript_ (thn (he pins s σ H _ I h) fun v s1 ⟨x,H1,I1,r1,q1⟩=>?_);refine wpAny_Slice (thn (hl pins s1 σ H1 _ I1 q1) fun vl s2 ⟨l,H2,I2,pl,q2⟩=>thn (hu pins s2 σ H2 _ I2 q2) fun vu s3 ⟨u,H3,I3,pu,q3⟩=>?_);rw [evalPart_none];refine ag ?_;have I4:Inv X pins σ H3 {s3 with heap:=s3.heap.push {cls:=.type "slice",data:=.fields #[vl,vu,.none]}}:=I3.kept (t':=s3.toks) fun b ob q=>aw _ q
  obtain⟨T,id,hT,ht,hg⟩:=hr pins {s3 with heap:=s3.heap.push {cls:=.type "slice",data:=.fields #[vl,vu,.none]}} σ H3 x v vl vu l u s3.heap.objs.size Q I4 r1 (bL.IsSliceOf.new ..) pl pu q3;show aM (aU X.prog X.w) X.A (subscriptTail e (.Slice lo hi none p2) v (.ref s3.heap.objs.size)) (EP X pins σ Q) X.xe {s3 with heap:=s3.heap.push {cls:=.type "slice",data:=.fields #[vl,vu,.none]}};exact tail_any (ops:=[.ref s3.heap.objs.size,v]) ht hT hg (by with_unfolding_all rfl)
def a7a(xs:List V)(lo hi:Option Int):List V:=(xs.drop (HT.sIx xs.length 0 lo)).take (HT.sIx xs.length xs.length hi - HT.sIx xs.length 0 lo)
theorem a5q(xs:List V)(lo hi:Option Int):(a7a xs lo hi).length≤xs.length:=by
  unfold a7a;rw [du,ic];omega
end
end L2
namespace L2
open PySem PySem.Spec PyProof.Rows
def ixN(n:Nat)(i:Int):Option Nat:=if 0≤i then (if i < n then some i.toNat else none) else if -(n:Int)≤i then some (i + n).toNat else none
def atI{α:Type}(xs:List α)(i:Int):Option α:=(ixN xs.length i).bind fun j=>xs[j]?
theorem a4D(h:ixN n i=some j):seqIndex? i n=some j∧j < n∧-(n:Int)≤i∧i < n:=by
  unfold ixN at h;by_cases h0:0≤i
  · rw [aE h0] at h
    by_cases h1:i < n
    · rw [aE h1] at h
      have e:i.toNat=j:=aD h;exact⟨by rw [seqIndex_of h0 h1,e],by omega,by omega,h1⟩
    · rw [aO h1] at h;cases h
  · rw [aO h0] at h
    by_cases h1:-(n:Int)≤i
    · rw [aE h1] at h
      have e:(i + n).toNat=j:=aD h;exact⟨by rw [seqIndex_neg (by omega) h1,e],by omega,h1,by omega⟩
    · rw [aO h1] at h;cases h
theorem a8u{α:Type}{xs:List α}{i:Int}{v:α}(h:atI xs i=some v):∃j,seqIndex? i xs.length=some j∧xs[j]?=some v∧j < xs.length∧-(xs.length:Int)≤i∧i < xs.length:=by
  unfold atI at h;cases e:ixN xs.length i with
  | none=>rw [e] at h;cases h
  | some j=>
    rw [e] at h;obtain⟨h1,h2,h3,h4⟩:=a4D e;exact⟨j,h1,h,h2,h3,h4⟩
def a1P(b:Expr):Prop:=∀o i,qy b false o i=operate [o,i] (oI o i)
def IxR(X:Cx)(r:R2):Prop:=
  ∀(value slice:Expr) (pins:List (av × eD)) (s:ak) (σ:St) (H:Hp) (x y:V) (v u:ai) (Q:VK),Inv X pins σ H s→RelV x v→RelV y u→r x y H Q→
    qy slice false v u=operate [v,u] (oI v u)→aM (aU X.prog X.w) X.A (subscriptTail value slice v u) (EP X pins σ Q) X.xe s
def MtR(X:Cx)(id:String)(r:V→List V→Hp→VK→Prop):Prop:=
  ∀(pins:List (av × eD)) (s:ak) (σ:St) (H:Hp) (x:V) (xs:List V) (v:ai) (us:List ai) (Q:VK),Inv X pins σ H s→RelV x v→Vals xs us→r x xs H Q→
    aM (aU X.prog X.w) X.A (call (.builtin id) (v :: us)) (EP X pins σ Q) X.xe s
section
variable {X:Cx}{a b:Expr}{ta tb:TE}{pos:ek}
theorem IxR.or(h:IxR X r)(h':IxR X r'):IxR X (fun x y H Q=>r x y H Q∨r' x y H Q):=by
  intro value slice pins s σ H x y v u Q I rx ry q hs;rcases q with q|q
  · exact h value slice pins s σ H x y v u Q I rx ry q hs
  · exact h' value slice pins s σ H x y v u Q I rx ry q hs
theorem a8v(hr:IxR X r)(ha:PE X a ta)(hb:PE X b tb)(hs:a1P b):PE X (.Subscript a b pos) (tOp r ta tb):=by
  intro pins s σ H Q I h;exact Subscript_ (b6q ha hb I h fun v u s2 x y H2 I2 rx ry q=>hr a b pins s2 σ H2 x y v u Q I2 rx ry q (hs _ _))
def b9e(K:af):R2:=fun x y H Q=>∃p xs i v,x=.ref p∧y=.int i∧SqL K H p xs∧atI xs i=some v∧Q v H
def b9f(K:af):R2:=fun x y H Q=>∃p xs i v,x=.ref p∧y=.int i∧SqT K H p xs∧atI xs i=some v∧Q v H
theorem b3T:IxR X (b9e X.K):=by
  intro value slice pins s σ H x y v u Q I rx ry h hs;obtain⟨p,xs,i,z,rfl,rfl,hq,he,q⟩:=h;cases rx
  obtain⟨t,rfl⟩:=ry;obtain⟨bU,r,pl,hz⟩:=I.list hq;obtain⟨j,h1,h2,h3,h4,h5⟩:=a8u he;obtain⟨w,ew,tD⟩:=r.get h2;have hl:=r.length;have hn:=a0H;have fin:EP X pins σ Q w s:=⟨z,H,I,tD,q⟩;by_cases h0:0≤i
  · have hj:i.toNat=j:=by
      rw [seqIndex_of h0 h5] at h1;exact aD h1
    exact item_listR pl.isList h0 (by omega) (by rw [hj];simpa using ew) fin hs
  · have hj:(i + (bU.toArray.size:Int)).toNat=j:=by
      rw [seqIndex_neg (by omega) h4] at h1;rw [aT,←hl];exact aD h1
    exact subscriptTail_builtinR (x:=w) pl.isList.typeIs slot_list_getitem.lookup
      (wpAny_getItem_list_neg (Q:=fun r s'=>r=w∧EP X pins σ Q r s') pl.isList (by omega) (by rw [aT] <;> omega) (by omega) (by rw [hj];simpa using ew) ⟨rfl,fin⟩) hs
theorem b6C:IxR X (b9f X.K):=by
  intro value slice pins s σ H x y v u Q I rx ry h hs;obtain⟨p,xs,i,z,rfl,rfl,hq,he,q⟩:=h;cases rx
  obtain⟨t,rfl⟩:=ry;obtain⟨bU,r,pl,hz⟩:=I.tuple hq;obtain⟨j,h1,h2,h3,h4,h5⟩:=a8u he;obtain⟨w,ew,tD⟩:=r.get h2;have hl:=r.length;have hn:=a0H;have fin:EP X pins σ Q w s:=⟨z,H,I,tD,q⟩;exact subscriptTail_builtinR (x:=w) pl.typeIs slot_tuple_getitem.lookup
    (getItem_tuple (j:=j) (Q:=fun r s'=>r=w∧EP X pins σ Q r s') pl (by omega) (by omega) (by rw [aT,←hl];exact h1) (by simpa using ew) ⟨rfl,fin⟩) hs
theorem a7b(bU:List ai)(n j:Nat)(u:ai):jD (·.setIfInBounds j u) {cls:=.type "list",data:=.seq bU.toArray n}={cls:=.type "list",data:=.seq (bU.set j u).toArray n}:=by
  simp [jD]
theorem Inv.lst{pins:List (av × eD)}{σ:St}{H:Hp}{s:ak}{p:av}{xs:List V}(I:Inv X pins σ H s)(h:H p=some (.lst xs)) :
    ∃(bU:List ai) (n:Nat),Vals xs bU∧s.heap.get? p=some {cls:=.type "list",data:=.seq bU.toArray n}∧xs.length≤aS:=by
  obtain⟨z,bU,n,r,e⟩:=I.hok p _ h;exact⟨bU,n,r,e,z⟩
theorem Inv.lstUpd{bU its':List ai}(I:Inv X pins σ H s)(h:H p=some (.lst xs))
    (ho:s.heap.get? p=some {cls:=.type "list",data:=.seq bU.toArray n}) (hf:f {cls:=.type "list",data:=.seq bU.toArray n}={cls:=.type "list",data:=.seq its'.toArray n'}) (r:Vals ys its') (hz:ys.length≤aS) (t:Nat) :
    Inv X pins σ (upd H p (.lst ys)) {s with heap:=s.heap.update p f,toks:=t}:=by
  have e:(s.heap.update p f).get? p=some {cls:=.type "list",data:=.seq its'.toArray n'}:=by
    rw [bV f ho (by rw [hf] <;> rfl),hf]
  refine I.write (x:=p) (e:=p) (by rw [h];trivial) (.inl rfl) (fun b u hb q=>(ei _ _ (eE hb)).trans q) ⟨_,e⟩ ?_;exact⟨hz,its',n',r,e⟩
def b9g:V→V→V→Hp→(Hp→Prop)→Prop:=fun o i v H Q=>∃p xs k j,o=.ref p∧i=.int k∧H p=some (.lst xs)∧ixN xs.length k=some j∧Q (upd H p (.lst (xs.set j v)))
theorem set_list:b8S X b9g:=by
  intro pins s σ H o i v ov iv u Q I ro ri rv h;obtain⟨p,xs,k,j,rfl,rfl,hp,hj,q⟩:=h;cases ro
  obtain⟨t,rfl⟩:=ri;obtain⟨bU,n,r,ho,hz⟩:=I.lst hp;obtain⟨h1,h2,h3,h4⟩:=a4D hj;have hl:=r.length;have hn:=a0H;have I':Inv X pins σ (upd H p (.lst (xs.set j v))) {s with heap:=s.heap.update p (jD (·.setIfInBounds j u))}:=
    I.lstUpd hp ho (a7b bU n j u) (r.set rv j) (by rw [Eo];exact hz) s.toks
  by_cases h0:0≤k
  · have hk:k.toNat=j:=by
      rw [seqIndex_of h0 h4] at h1;exact aD h1
    exact PySem.W.ki_setAt ho h0 (by omega) (by rw [aT,←hl];exact h4) (by rw [hk];exact⟨_,I',q⟩)
  · have hk:(k + (bU.toArray.size:Int)).toNat=j:=by
      rw [seqIndex_neg (by omega) h3] at h1;rw [aT,←hl];exact aD h1
    exact PySem.W.ki_setBack ho (by omega) (by rw [aT,←hl];exact h3) (by omega) (by rw [hk];exact⟨_,I',q⟩)
theorem a4E(lo hi:Option Int)(n:Nat):(iN lo hi none n).1=((HT.sIx n 0 lo:Nat):Int)∧(iN lo hi none n).2.1=((HT.sIx n n hi:Nat):Int)∧(iN lo hi none n).2.2=1:=by
  refine⟨?_,?_,rfl⟩
  · cases lo with
    | none=>simp [iN,HT.sIx]
    | some i=>
      simp only [iN,HT.sIx,Dm,show (1:Int) > 0 by decide,ie];by_cases h:i < 0
      · simp only [h,ie] <;> omega
      · simp only [h,fK] <;> omega
  · cases hi with
    | none=>simp [iN,HT.sIx]
    | some i=>
      simp only [iN,HT.sIx,Dm,show (1:Int) > 0 by decide,ie];by_cases h:i < 0
      · simp only [h,ie] <;> omega
      · simp only [h,fK] <;> omega
theorem a3w(bU:List ai)(lo hi:Option Int):slicePick bU.toArray lo hi none=((bU.drop (HT.sIx bU.length 0 lo)).take (HT.sIx bU.length bU.length hi - HT.sIx bU.length 0 lo)).toArray:=by
  obtain⟨h1,h2,h3⟩:=a4E lo hi bU.toArray.size;unfold slicePick;rw [h1,h2,h3];simp only [sliceRange_one,pick_run,aT] <;> rfl
def c1a(K:af):V→Option Int→Option Int→Hp→VK→Prop:=fun x lo hi H Q=>∃a xs,x=.ref a∧SqL K H a xs∧∀p,H p=none→Q (.ref p) (upd H p (.lst (a7a xs lo hi)))
theorem b3U:SlR X (c1a X.K):=by
  intro pins s σ H x v vl vu lo hi sl Q I rx hs pl pu h;obtain⟨a,xs,rfl,hx,q⟩:=h;cases rx
  obtain⟨bU,r,ht,hz⟩:=I.list hx;have hlen:=r.length;refine⟨"list",_,slot_list_getitem.lookup,ht.isList.typeIs,?_⟩;refine wpAny_getItem_list_slice ht.isList hs pl pu .none (by simp) ?_ (by rw [aT] <;> omega);rw [a3w,←hlen];refine⟨.ref s.heap.objs.size,_,I.laid (t':=s.toks) (o:=.lst (a7a xs lo hi)) (fun b ob q=>aw _ q) (aF _) ?_,rfl,q _ (I.hok.fresh (aF _))⟩;exact⟨cI (a5q xs lo hi) hz,_,0,(r.drop (HT.sIx xs.length 0 lo)).take (HT.sIx xs.length xs.length hi - HT.sIx xs.length 0 lo),aR _ rfl⟩
theorem a4F:CallR X (.builtin "len") (fun xs H Q=>∃p ys,xs=[.ref p]∧(SqL X.K H p ys∨SqT X.K H p ys)∧Q (.int ys.length) H):=by
  intro pins s σ H xs us Q I r h;obtain⟨p,ys,rfl,hq,q⟩:=h;obtain⟨u,rfl,rx⟩:=vals1 r;cases rx
  have hn:=a0H;rcases hq with hq|hq
  · obtain⟨bU,r',pl,hz⟩:=I.list hq
    have hlen:=r'.length;exact Calls.call_len_list pl.isList (by simp only [aT] <;> omega) ⟨.int ys.length,H,I.tok _,⟨s.toks + 1,by rw [aT,hlen]⟩,q⟩
  · obtain⟨bU,r',pl,hz⟩:=I.tuple hq
    have hlen:=r'.length;exact len_tuple pl (by simp only [aT] <;> omega) ⟨.int ys.length,H,I.tok _,⟨s.toks + 1,by rw [aT,hlen]⟩,q⟩
theorem a4G:CallR X (.builtin "len") (fun xs H Q=>∃z,xs=[.str z]∧z.length≤aS∧Q (.int z.length) H):=by
  intro pins s σ H xs us Q I r h;obtain⟨z,rfl,hz,q⟩:=h;obtain⟨u,rfl,t,rfl⟩:=vals1 r;have hn:=a0H;exact len_str (by omega) ⟨.int z.length,H,I.tok _,⟨_,rfl⟩,q⟩
theorem CallR.or(h:CallR X f r)(h':CallR X f r'):CallR X f (fun xs H Q=>r xs H Q∨r' xs H Q):=by
  intro pins s σ H xs us Q I rs q;rcases q with q|q
  · exact h pins s σ H xs us Q I rs q
  · exact h' pins s σ H xs us Q I rs q
theorem a4H:CallR X (.type "list") (fun xs H Q=>∃p ys,xs=[.ref p]∧(SqL X.K H p ys∨SqT X.K H p ys)∧∀l,H l=none→Q (.ref l) (upd H l (.lst ys))):=by
  intro pins s σ H xs us Q I r h;obtain⟨p,ys,rfl,hq,q⟩:=h;obtain⟨u,rfl,rx⟩:=vals1 r;cases rx
  have fin:∀(bU:List ai),Vals ys bU→ys.length≤aS→∀(h':bL) (c':Nat),(∀b o',s.heap.get? b=some o'→h'.get? b=some o')→
      h'.get? s.heap.objs.size=some {cls:=.type "list",dict:=none,data:=.seq bU.toArray c',slots:=#[]}→EP X pins σ Q (.ref s.heap.objs.size) {s with heap:=h'}:=fun bU r' hz h' c' kp e=>
    ⟨.ref s.heap.objs.size,_,I.laid (t':=s.toks) kp (aF _) (show ObjOk X.prog X.w _ h' _ (.lst ys) from⟨hz,bU,c',r',e⟩),rfl,q _ (I.hok.fresh (aF _))⟩
  rcases hq with hq|hq
  · obtain⟨bU,r',pl,hz⟩:=I.list hq
    have hlen:=r'.length;obtain⟨o,ho,hc,n,hd⟩:=pl.isList;exact call_list_seq p (.inl rfl) ho hc hd (fun h' c' kp e=>fin bU r' hz h' c' kp e) (by simp only [aT] <;> omega)
  · obtain⟨bU,r',pl,hz⟩:=I.tuple hq
    have hlen:=r'.length;obtain⟨o,ho,hc,n,hd⟩:=pl;exact call_list_seq p (.inr rfl) ho hc hd (fun h' c' kp e=>fin bU r' hz h' c' kp e) (by simp only [aT] <;> omega)
theorem a3x:CallR X (.type "tuple") (fun xs H Q=>∃p ys,xs=[.ref p]∧((SqL X.K H p ys∧∀l,H l=none→Q (.ref l) (upd H l (.tup ys)))∨(SqT X.K H p ys∧Q (.ref p) H))):=by
  intro pins s σ H xs us Q I r h;obtain⟨p,ys,rfl,h⟩:=h;obtain⟨u,rfl,rx⟩:=vals1 r;cases rx
  rcases h with⟨hq,q⟩|⟨hq,q⟩
  · obtain⟨bU,r',pl,hz⟩:=I.list hq
    have hlen:=r'.length;refine call_tuple_list pl.isList (fun h' kp=>?_) (by simp only [aT] <;> omega);have I1:Inv X pins σ H {s with heap:=h'}:=I.kept (t':=s.toks) kp;have I2:Inv X pins σ (upd H h'.objs.size (.tup ys)) {s with heap:=h'.push {cls:=.type "tuple",data:=.seq bU.toArray}}:=
      I1.laid (t':=s.toks) (fun b o e=>aw _ e) (aF _) (show ObjOk X.prog X.w _ _ _ (.tup ys) from⟨hz,bU,r',IsTup.new _ _⟩)
    exact⟨.ref h'.objs.size,_,I2,rfl,q _ (I1.hok.fresh (aF _))⟩
  · obtain⟨bU,r',pl,hz⟩:=I.tuple hq
    exact call_tuple_same pl ⟨.ref p,H,I,rfl,q⟩
def tyV(K:af)(T:String)(x:V)(H:Hp):Prop:=match x with
  | .str _=>T="str"
  | .int _=>T="int"
  | .ref p=>(T="list"∧∃xs,SqL K H p xs)∨(T="tuple"∧∃o,K.lookup p=some o∧o.cls=.type "tuple"∧o.dict=none)∨
      (T="dict"∧((∃kvs,H p=some (.dK kvs))∨∃kvs,H p=some (.dT kvs)))∨(T="set"∧∃S n,H p=some (.set S n))
  | _=>False
theorem b6D(I:Inv X pins σ H s)(r:RelV x v)(ty:tyV X.K T x H) :
    s.TypeIs v T∧∀a,v=.ref a→∃ob,s.heap.get? a=some ob∧ob.dict=none:=by
  cases x with
  | str z=>
    obtain⟨t,rfl⟩:=r;cases (show T="str" from ty)
    exact⟨typeIs_str s z t,fun _ e=>nomatch e⟩
  | int i=>
    obtain⟨t,rfl⟩:=r;cases (show T="int" from ty)
    exact⟨typeIs_int s i t,fun _ e=>nomatch e⟩
  | ref p=>
    cases r
    rcases ty with⟨rfl,xs,hq⟩|⟨rfl,o,hk,hc,hd⟩|⟨rfl,hk⟩|⟨rfl,S,n,hk⟩
    · obtain⟨bU,_,pl,_⟩:=I.list hq
      refine⟨pl.isList.typeIs,fun a e=>?_⟩;cases e
      obtain⟨o,n,e,c,hd,_⟩:=pl;exact⟨o,e,hd⟩
    · refine⟨⟨o,I.kIn p o hk,hc⟩,fun a e=>?_⟩
      cases e
      exact⟨o,I.kIn _ o hk,hd⟩
    · have z:∃o,s.heap.get? p=some o∧o.ExactDict:=by
        rcases hk with⟨kvs,hk⟩|⟨kvs,hk⟩
        · obtain⟨_,_,_,_,o,_,_,e,ex,_⟩:=I.hok p _ hk
          exact⟨o,e,ex⟩
        · obtain⟨_,_,_,_,o,_,_,e,ex,_⟩:=I.hok p _ hk
          exact⟨o,e,ex⟩
      obtain⟨o,e,ex⟩:=z;refine⟨⟨o,e,ex.1⟩,fun a e2=>?_⟩;cases e2
      exact⟨o,e,ex.2.1⟩
    · obtain⟨o,_,_,_,e,ex,_⟩:=I.hok p _ hk
      refine⟨⟨o,e,ex.1⟩,fun a e2=>?_⟩;cases e2
      exact⟨o,e,ex.2.1⟩
  | _=>exact bS ty
def tBM(K:af)(T:String)(r:V→List V→Hp→VK→Prop)(to:TE)(t:TA):TE:=fun σ H Q=>to σ H fun x H1=>tyV K T x H1∧t σ H1 fun xs H2=>r x xs H2 Q
variable {o e:Expr}{es:List Expr}{to:TE}{t:TA}{name:bc}{apos cL:ek}{T id:String}{r:V→List V→Hp→VK→Prop}
theorem b1o(pa:PlainAttrs T)(slot:Slot T name id)(wM:typeOf (.builtin id)=pure (.type "method_descriptor"))(hm:MtR X id r)(ho:PE X o to)(ha:PA X (e :: es) t)
    (iq:gM o name X.env (bW o X.env)=bW o X.env:=by rfl)
    (jL:((b_ cL (au (e :: es) X.env)).all (fun x=>!x.1) && (mf cL (iO [] X.env)).all (fun x=>x.1.isSome)
      && decide ((e :: es).length + ([]:List gC).length + (if ([]:List gC).isEmpty then 0 else 1) < 30))=true:=by rfl)
    (ip:(apos.endLine == cL.line)=true:=by rfl) (hs:au (e :: es) X.env=(false,bW e X.env) :: au es X.env:=by rfl) (fZ:(b_ cL (au es X.env)).any (·.1)=false:=by rfl) :
    PE X (.Call (.Attribute o name apos) (e :: es) [] cL) (tBM X.K T r to t):=by
  intro pins s σ H Q I h;refine z_ iq jL ip rfl (thn (ho pins s σ H _ I h) fun v s1 ⟨x,H1,I1,r1,ty,q1⟩=>?_);obtain⟨h1,h2⟩:=b6D I1 r1 ty;refine⟨T,id,pa,slot,wM,h1,h2,?_⟩;have hA:=ha cL pins s1 σ H1 _ I1 q1;rw [hs] at hA ⊢;refine Dv (by show (false || (b_ cL (au es X.env)).any (·.1))=false;rw [fZ] <;> rfl) (iZ ?_);exact thn hA fun us s2 ⟨vs,H2,I2,r2,q2⟩=>hm pins s2 σ H2 x vs v us Q I2 r1 r2 q2
/- xs.append(e), list.index on a tI tuple .. are MtR facts of 06m -/
end
end L2
namespace L2
open PySem PySem.Spec PyProof.Rows
def MtM(X:Cx)(id:String)(r:V→List V→Hp→VK→Prop):Prop:=
  ∀(pins:List (av × eD)) (s:ak) (σ:St) (H:Hp) (x:V) (xs:List V) (v:ai) (us:List ai) (Q:VK),Inv X pins σ H s→RelV x v→Vals xs us→r x xs H Q→
    aM (aU X.prog X.w) X.A (call (.builtin id) (v :: us)) (EP X pins σ Q) X.xe s
theorem Vals.one:∀{x:V} {us:List ai},Vals [x] us→∃u,us=[u]∧RelV x u
  | _,_,.cons r .nil=>⟨_,rfl,r⟩
section
variable {X:Cx}{pins:List (av × eD)}{σ:St}{H:Hp}{s:ak}{l b:av}{xs ys zs:List V}
theorem Inv.lset{bU its':List ai}(I:Inv X pins σ H s)(hH:H l=some (.lst xs))
    (e:s.heap.get? l=some {cls:=.type "list",data:=.seq bU.toArray n}) (hf:f bU.toArray=its'.toArray) (hv:Vals ys its') (hz:ys.length≤aS) :
    Inv X pins σ (upd H l (.lst ys)) {s with heap:=s.heap.update l (jD f),toks:=t'}:=by
  have q:=PySem.IsL.update e f;rw [hf] at q;refine I.write (x:=l) (e:=l) (by rw [hH];exact trivial) (.inl rfl) (fun b' u hb hu=>(ei s.heap (jD f) (eE hb)).trans hu) ⟨_,q⟩ ?_;exact⟨hz,its',_,hv,q⟩
theorem Inv.lnew(I:Inv X pins σ H s)(hv:Vals ys bU)(hz:ys.length≤aS) :
    Inv X pins σ (upd H s.heap.objs.size (.lst ys)) {s with heap:=s.heap.push {cls:=.type "list",data:=.seq bU.toArray},toks:=t'}:=
  I.laid (fun _ _ q=>aw _ q) (aF _) ⟨hz,bU,0,hv,aR _ rfl⟩
theorem Inv.fresh(I:Inv X pins σ H s):H s.heap.objs.size=none:=I.hok.fresh (aF _)
theorem Inv.lstM(I:Inv X pins σ H s)(hH:H l=some (.lst xs)):xs.length≤aS∧∃(bU:List ai) (n:Nat),Vals xs bU∧xs.length=bU.length∧s.heap.get? l=some {cls:=.type "list",data:=.seq bU.toArray n}:=by
  obtain⟨z,bU,n,r,e⟩:=I.hok l _ hH;exact⟨z,bU,n,r,r.length,e⟩
theorem a5r(h:n≤aS):gW n=false:=by
  unfold gW;exact aQ (by omega)
end
section
variable {X:Cx}
def b3V:V→List V→Hp→VK→Prop:=fun x vs H Q=>∃l xs y,x=.ref l∧vs=[y]∧H l=some (.lst xs)∧xs.length < aS∧Q .non (upd H l (.lst (xs ++ [y])))
theorem a3L:MtM X "list.append" b3V:=by
  intro pins s σ H x vs v us Q I rx rv h;obtain⟨l,xs,y,rfl,rfl,hH,hz,q⟩:=h;cases rx
  obtain⟨u,rfl,ru⟩:=rv.one;obtain⟨z,bU,n,r,hl,e⟩:=I.lstM hH;refine call_meets F.slot_list_append ⟨_,e,rfl⟩ F.entry_list_append (F.args_list_append_2 _ _) (PySem.list_append l bU.toArray n u (by rw [aT];omega)) ⟨e,?_⟩;refine⟨.non,_,I.lset (its':=bU ++ [u]) hH e (by simp) (r.append (.cons ru .nil)) ?_,rfl,q⟩;rw [aK,fx];omega
def b3W:V→List V→Hp→VK→Prop:=fun x vs H Q=>∃l b xs zs,x=.ref l∧vs=[.ref b]∧H l=some (.lst xs)∧H b=some (.lst zs)∧xs.length + zs.length≤aS∧Q .non (upd H l (.lst (xs ++ zs)))
theorem a9E:MtM X "list.extend" b3W:=by
  intro pins s σ H x vs v us Q I rx rv h;obtain⟨l,b,xs,zs,rfl,rfl,hH,hB,hz,q⟩:=h;cases rx
  obtain⟨u,rfl,ru⟩:=rv.one;cases ru
  obtain⟨z,bU,n,r,hl,e⟩:=I.lstM hH;obtain⟨z2,j_,n2,r2,vB,e2⟩:=I.lstM hB;have je:bU.toArray.size + j_.toArray.size≤aS:=by rw [aT,aT];omega
  have oh:¬ (!bU.toArray.isEmpty && gW (bU.toArray.size + j_.toArray.size))=true:=by
    rw [a5r je,oN];exact bB
  refine call_meets F.slot_list_extend ⟨_,e,rfl⟩ F.entry_list_extend (F.args_list_extend_2 _ _)
    (oO l bU.toArray n b j_.toArray n2 oh (by rw [aT];omega) (by omega)) ⟨e,e2,?_⟩
  refine⟨.non,_,I.lset (its':=bU ++ j_) hH e (by simp) (r.append r2) ?_,rfl,q⟩;rw [aK];omega
end
end L2
namespace Att
open PySem PySem.W PySem.Calls PyProof.Rows
theorem a1J:∀(ns:List Int) (vs:List ai),WellAll P h vs (ns.map WData.int)→IntsAre vs ns:=by
  intro ns
  induction ns with
  | nil=>
    intro vs w;rw [cA] at w;cases w
    exact .nil
  | cons n ns ih=>
    intro vs w;rw [aA] at w;cases w with
    | cons a b=>
      cases a
      exact .cons _ _ (ih _ b)
theorem a9F{l:OpenLaw}(hn:l.most=some n) 
    (kn:l.row.toRowW.claim.pre args=true) (rh:WellAll P h vals args) :
    ∃a vs ns,vals=[be a]∧args=[WData.list (ns.map WData.int)]∧h.get? a=some {cls:=.type "list",data:=.seq vs.toArray}∧IntsAre vs ns∧ns.length≤n:=by
  have Bc:WShape.hasAll [] args [.list .int]=true:=(pre_splitW kn).1;have hc:l.pre.holds [] {args:=args}=true:=(pre_splitW kn).2;obtain⟨d,r,rfl,h1,h2⟩:=hasAllW_cons Bc;obtain rfl:=hasAllW_nil h2;obtain⟨xs,rfl,h3⟩:=hasW_list h1;obtain⟨ns,rfl⟩:=items_int h3;have hlen:ns.length≤n:=by
    unfold OpenLaw.pre at hc;have h4:(WTm.not (.lt (.lit (.int (n:Int))) (.len (.arg 0)))).holds [] {args:=[.list (ns.map .int)]}=true:=by
      have h4:=(holds_andW hc).1;rw [hn] at h4;exact h4
    have h5:=condW_of h4 (w_not (w_lt w_lit (w_len_list (w_arg rfl))));rw [ar] at h5;refine Nat.le_of_not_lt fun q=>?_
    have q':(n:Int) < ((ns.length:Nat):Int):=by omega
    first
      | (rw [aL q'] at h5;exact absurd h5 (by decide))
      | (simp at h5;omega)
  cases rh with
  | cons w1 w2=>
    cases w2
    cases w1 with
    | list ho kr=>exact⟨_,_,ns,rfl,rfl,ho,a1J ns _ kr,hlen⟩
theorem a9G(l:OpenLaw)(args:List WData):l.row.toRowW.claim.post args (.bool true) args=true:=
  postW_of (r:=l.row.toRowW) (X:=(true == true))
    (show WShape.has [] (.bool true) .bool=true by first|rfl|decide|simp [WShape.has,WShape.arms,WShape.armsAll])
    (show (WTm.eq .res (.lit (.bool true))).value [] {args:=args,res:=some (.bool true),after:=args}=some (.bool (true == true)) from w_eq_bool (w_res rfl) w_lit) rfl
theorem attach_call{l:OpenLaw}{d:DefRec}
    (hn:l.most=some n) (uB:d.params.defaults=[])
    (call:∀(w:bE) (s₀ s₁:ak) (mg mb:bc→Option ai) (fa:av) (o:eD) (pm cd doc:ai) (a:av) (vs:List ai) (ns:List Int),
      Ground q loose [] XP w s₀ mg mb s₁.heap→YP w s₁.heap→
      s₁.heap.get? fa=some o→o.data=.func (docDef d.name d.params d.body d.scope pm cd doc)→s₁.heap.CodeRec cd d.name→mg d.name=some (.ref fa)→
      s₁.heap.get? a=some {cls:=.type "list",data:=.seq vs.toArray}→IntsAre vs ns→ns.length≤n→s₁.gens=#[]→
      ir (aU l.prog w) mE (.call (.ref fa) ⟨[.ref a],[]⟩) (fun r s'=>r=.ok (.ret (.bool true))∧OldK s₁.heap s'.heap∧s'.os=s₁.os∧i_ s'.gens) s₁) :
    WalkO q loose XP YP l.row.toRowW d [] (fun f vs=>yd f vs):=by
  intro w s₀ s₁ mg mb G Y fa o pm cd doc dV kV ho hd gJ hD uh hg args vals as kn BC DN rh DT;obtain rfl:dV=.none:=Dflts.none hD uB;obtain rfl:kV=.none:=Dflts.noKw hD;obtain⟨a,vs,ns,rfl,rfl,rE,hints,hlen⟩:=a9F hn kn rh;refine enter_call (eH (call w s₀ s₁ mg mb fa o pm cd doc a vs ns G Y ho (fd_plain hd) gJ uh rE hints hlen hg) fun r s' hq=>?_);obtain⟨rfl,h2,h3,h4⟩:=hq;exact⟨.inl ⟨.bool true,.bool true,[],rfl,fun _=>rfl,.bool true,a9G l _,fun _=>⟨gU,fun _ hm=>(nomatch hm)⟩⟩,h2,h3,h4⟩
section
variable {prog:bh}{w:bE}{A:bx}{E:ai→ak→Prop}{s:ak}{K:Frag}
def ledger(h:bL)(L d:av):List (av × eD):=(aJ h.objs.size).filterMap fun a=>if a=L∨a=d then none else (h.get? a).map fun o=>(a,o)
end
end Att
namespace L2
open PySem PySem.Spec PyProof.Rows
theorem vals_ints:∀{vs:List ai} {ns:List Int},IntsAre vs ns→Vals (ns.map V.int) vs
  | _,_,.nil=>.nil
  | _,_,.cons n t h=>.cons ⟨t,rfl⟩ (vals_ints h)
end L2
namespace L2
open PySem PySem.Spec PyProof.Rows
abbrev KOf{K:af}{h:bL}(_:K.In h):af:=K
end L2
/- Ej Ds vT (shape; LID, My.* are yp):
   My.Adr: a structure of nJ addresses pB zZ yE names (classes,sT);My.Txt K t: a structure (Prop) of nJ equations over K;
   My.txt_mk:{K} {implicit addresses ..} (e1:nsIn K aV "law"=some (some (.ref f))) (e2:K.lookup f=some ⟨oc,od,.func (fnOf "law" "law" params body scope dV kV doc pm an eQ ct),sl⟩) (e3:codeIn K eQ "law"=true) ..:∃t,My.Txt K t
set_option maxRecDepth 100000 in
set_option maxHeartbeats 0 in
theorem PySem.Challenge.cw_LID_holds : PySem.Challenge.rw_LID.Holds := by
  w_on;o_law;k_head;(case hw=>w_witness2)
  k_fill
  refine L2.walk_of (l:=PySem.Challenge.rw_LID) (n:=63) (k:=40) (x:="script") (CX:=fun w=>..) (sp:=fun _=>My.sp_law) rfl (by decide) rfl ⟨rfl,by decide,by decide⟩ (fun w h Y=>PySem.W.kIn_of Y) ?F ?S ?C
  case F=>
    intro w mg fa h KX G uh;have T:∃t,My.Txt (L2.KOf KX) t:=by
      dsimp only [L2.KOf]                          -- K AE yt as «<heap const> w.params» Ed k_is
      refine' My.txt_mk ?e1 ?e2 ?e3 ..
      (case e1=>PySem.W.k_is)                    -- in nJ order: a name -> bU address -> bU object -> bU parts
      (case e2=>PySem.W.k_is)
      ..
    obtain⟨t,T⟩:=T;have e0:=uh.symm.trans (fw KX G T.law);cases e0                                       -- fa is nJ yF own address
    exact⟨_,fun s u=>.of_eq rfl,fun base kb nb=>My.law_fn T kb nb⟩     -- if «.of_eq yu comes Dy early: refine' ⟨_,?b,fun base kb nb=>My.law_fn T kb nb⟩;exact fun s u=>.of_eq rfl
  case S=>exact fun w H a ns hl hO hS=>..
  case C=>exact ..
(nJ tactic k_is has no namespace: write k_is) -/
namespace L2
open PySem PySem.Spec PyProof.Rows
def P9(s:fT):kH:=match s with
  | .FunctionDef _ a _ _ _ _ _ _ _ _=>a
  | _=>{posonlyargs:=[],args:=[],vararg:=none,kwonlyargs:=[],kw_defaults:=[],kwarg:=none,defaults:=[]}
def r9(s:fT):List fT:=match s with
  | .FunctionDef _ _ b _ _ _ _ _ _ _=>b
  | _=>[]
def g8(s:fT):fE:=match s with
  | .FunctionDef _ _ _ _ _ _ sc _ _ _=>sc
  | _=>{kind:=.function,names:=[],isGenerator:=false,isCoroutine:=false}
abbrev CX0:CXT:=fun _ _ _ _ _ _=>False
abbrev E0:XK:=fun _ _ _=>False
theorem b9h:a6Z CX0 X E0:=fun _ _ _ _ _ _ _ h=>h.elim
structure Fun (K:af) (x qual:bc) (st:fT) (f:av) (fd:cV):Prop where
  ex:∃(oc:ai) (od:Option av) (kV doc pm:ai) (an:Option av) (eQ ct:ai) (mR:Array (Option ai)),
    fd=eV x qual (P9 st) (r9 st) (g8 st) .none kV doc pm an eQ ct∧K.lookup f=some ⟨oc,od,.func fd,mR⟩∧kE K eQ qual=true
  kp:ee K (.ref f)=true
section
variable {P:bh}{w:bE}{K:af}{mg:bc→Option ai}{base:bL}
theorem Fun.ok{x qual:bc}{st:fT}{f:av}{fd:cV}{N ps:List bc}{k:Nat}{sp:Sp}(F:Fun K x qual st f fd)(S:FnScope N ps (g8 st))(len:∀vs H Q E,sp vs H Q E→vs.length=ps.length)
    (oE:∀(eQ:ai) (A:bx) (outer:List lQ) (s:ak) (H:Hp) (vs:List V) (Q:VK) (E:XK),Room k (A.deeper (iE qual (g8 st) s.heap.objs.size f eQ))→sp vs H Q E→
      ∃t,PSs (S9 CX0 P w K mg base N qual (g8 st) f eQ A outer s H E).nox (r9 st) t∧t {nx:=fun _ H'=>Q .non H',rt:=Q} (start N vs) H):FnOk P w K mg base CX0 (k + 1) f fd ps sp:=by
  obtain⟨oc,od,kV,doc,pm,an,eQ,ct,mR,rfl,lk,gJ⟩:=F.ex;refine b1m lk gJ S len fun A outer s H vs Q E hr nj=>?_
  obtain⟨t,h,q⟩:=oE eQ A outer s H vs Q E hr nj;exact⟨t,h.nox,q⟩
theorem Fun.binds{x qual:bc}{st:fT}{f:av}{fd:cV}{ps:List bc}(F:Fun K x qual st f fd)
    (h:∀(kV doc pm:ai) (an:Option av) (eQ ct:ai) (us:List ai),us.length=ps.length→me (eV x qual (P9 st) (r9 st) (g8 st) .none kV doc pm an eQ ct) ⟨us,[]⟩=pure (ps.zip us)):Binds K fd ps []:=by
  obtain⟨oc,od,kV,doc,pm,an,eQ,ct,mR,rfl,lk,gJ⟩:=F.ex;exact .all (h kV doc pm an eQ ct)
theorem b6E{x qual:bc}{st:fT}{f:av}{oc:ai}{od an:Option av}{mR:Array (Option ai)}{kV doc pm eQ ct:ai}(l:K.lookup f=some ⟨oc,od,.func (eV x qual (P9 st) (r9 st) (g8 st) .none kV doc pm an eQ ct),mR⟩)
    (c:kE K eQ qual=true) (k:ee K (.ref f)=true):Fun K x qual st f (eV x qual (P9 st) (r9 st) (g8 st) .none kV doc pm an eQ ct):=⟨⟨oc,od,kV,doc,pm,an,eQ,ct,mR,rfl,l,c⟩,k⟩
end
theorem O5(h:n≤1000):n < aS:=lM h (by decide)
section
variable {X:Cx}
theorem pv(i:Nat)(hN:X.N[i]?=some x:=by rfl)(hv:Vis X.env.scope x:=by first|exact cf rfl|exact bR (cf rfl)|exact bR (bR rfl))(hd:(x == ("__debug__":bc))=false:=by decide)
    (gJ:(x == ("__classdict__":bc))=false:=by decide):PE X (.Name x pos) (b8L i):=C8 hN hv hd gJ
end
theorem a1K{A B:Prop}(h:B):if false=true then A else B:=by
  rw [aO bB];exact h
theorem a1L{A B:Prop}(h:A):if true=true then A else B:=by
  rw [aE rfl];exact h
def Same(H H':Hp):Prop:=∀b o,H b=some o→H' b=some o
theorem Same.refl(H:Hp):Same H H:=fun _ _ h=>h
theorem Same.trans(a:Same H H1)(b:Same H1 H2):Same H H2:=fun c o h=>b c o (a c o h)
theorem Same.free{H H':Hp}(e:Same H H'){l:av}(h:H' l=Option.none):H l=Option.none:=by
  cases q:H l with
  | none=>rfl
  | some o=>
    rw [e l o q] at h;cases h
end L2
set_option Elab.async false
set_option linter.all false
set_option maxRecDepth 100000
set_option maxHeartbeats 4000000
namespace L2
open PySem PySem.Spec PyProof.Rows
def M5(X:Cx)(N:List bc)(scope:fE)(cl:List (bc × av))(C:av)(s:ak)(H:Hp)(fp:List av):Cx:=
 {X with N:=N,s₀:=s,H₀:=H,env:=compEnvC scope cl C X.env,outer:=X.stack,ex:=fp,fn:=fun _=>false,xe:=fun _ _=>False}
structure CompIn (X:Cx) (N:List bc) (scope:fE) (cl:List (bc × av)) (τ:St->St):Prop where
 clos:nz scope X.env=pure cl
 kind:scope.kind=.function
 ncell:∀y∈scope.names,y.2≠.cell
 names:∀y∈scope.names,y.2=.local->scope.names.lookup y.1=some .local
 sub:∀x c,cl.lookup x=some c->X.env.cells.lookup x=some c
 has:∀y∈scope.names,y.2=.free->∃c,cl.lookup y.1=some c
 tlen:∀σ,(τ σ).length=N.length
 tval:∀(σ:St) (i:Nat) (x:bc) (v:V),N[i]?=some x->(τ σ)[i]?=some (some v)->∃j:Nat,X.N[j]?=some x/\σ[j]?=some (some v)/\scope.names.lookup x=some .free/\(X.env.kindOf x=some .cell∨X.env.kindOf x=some .free)
theorem a0l{scope:fE}(hn:∀y∈scope.names,y.2≠.cell)(h:(kN scope env).names.lookup x=some .cell∨(kN scope env).names.lookup x=some .free):∃y∈scope.names,y.1=x/\y.2=.free:=by
 have key:∀k,(kN scope env).names.lookup x=some k->k=.cell∨k=.free->∃y∈scope.names,y.1=x/\y.2=.free:=fun k e hk=>by
  have hm:=bK e;unfold kN at hm;obtain⟨⟨n,k'⟩,hy,e2⟩:=aG.mp hm
  dsimp only at e2
  by_cases hc:(k' == ej && env.scope.kind == .function && env.kindOf n == some .cell)=true
  ·rw [aE hc] at e2;cases e2
   rw [az,az] at hc;exact⟨_,hy,rfl,by simpa using hc.1.1⟩
  ·rw [aO hc] at e2;cases e2
   rcases hk with rfl|rfl
   ·exact absurd rfl (hn _ hy)
   ·exact⟨_,hy,rfl,rfl⟩
 rcases h with h|h
 ·exact key _ h (.inl rfl)
 ·exact key _ h (.inr rfl)
theorem a4I{scope:fE}(h:scope.names.lookup x=some .free):(kN scope env).names.lookup x=some .cell∨(kN scope env).names.lookup x=some .free:=by
 have key:∀names:List (bc × iu),names.lookup x=some .free->
   (names.map fun (n,k)=>if (k == ej && env.scope.kind == .function && env.kindOf n == some .cell) then (n,iu.cell) else (n,k)).lookup x=some .cell∨
   (names.map fun (n,k)=>if (k == ej && env.scope.kind == .function && env.kindOf n == some .cell) then (n,iu.cell) else (n,k)).lookup x=some .free:=by
  intro names
  induction names with
  | nil=>intro h;cases h
  | cons z r ih=>
   obtain⟨n,k⟩:=z;intro h;rw [aA]
   dsimp only
   rw [eN] at h;cases hx:x == n with
   | true=>
    rw [hx] at h;have hk:k=.free:=by simpa using h
    subst hk;by_cases hc:(ej == ej && env.scope.kind == .function && env.kindOf n == some .cell)=true
    ·rw [aE hc,eN,hx];exact .inl rfl
    ·rw [aO hc,eN,hx];exact .inr rfl
   | false=>
    rw [hx] at h;by_cases hc:(k == ej && env.scope.kind == .function && env.kindOf n == some .cell)=true
    ·rw [aE hc,eN,hx];exact ih h
    ·rw [aO hc,eN,hx];exact ih h
 exact key _ h
end L2
namespace L2
open PySem PySem.Spec PyProof.Rows
structure Has (P:bh) (w:bE) (K:af) (mg:bc->Option ai) (base:bL) (x:bc) (k:Nat) (ps:List bc) (sp:Sp):Prop where
 ex:∃f fd,FnOk P w K mg base CX0 k f fd ps sp/\Binds K fd ps []/\ee K (.ref f)=true/\mg x=some (.ref f)
theorem Has.up{P:bh}{w:bE}{K:af}{mg:bc->Option ai}{base:bL}{x:bc}{j k:Nat}{ps:List bc}{sp:Sp}(h:Has P w K mg base x j ps sp)(l:j<=k):Has P w K mg base x k ps sp:=by
 obtain⟨f,fd,a,b⟩:=h.ex;exact⟨f,fd,a.mono l,b⟩
section
variable {X:Cx}{k:Nat}{ps:List bc}{sp:Sp}{x:bc}{p pos:ek}{e:Expr}{es:List Expr}{t:TA}
theorem a7c(h:Has X.prog X.w X.K X.mg X.base x k ps sp)(hr:Room k X.A)(ha:PA X (e :: es) t)(hg:Gl X x:=by rfl)(jM:(x == ("__debug__":bc))=false:=by decide)
  (he:au (e :: es) X.env=(false,bW e X.env) :: au es X.env:=by rfl) (fD:(b_ pos (au es X.env)).any (·.1)=false:=by rfl):PE X (.Call (.Name x p) (e :: es) [] pos) (b5z sp [] E0 t):=by
 obtain⟨f,fd,F,b,kp,m⟩:=h.ex;exact b3P F hr hg m kp b .nil b9h ha jM he fD
end
mutual
def Den(H:Hp):V->a_->Prop
 | v,.none=>v=.non
 | v,.bool b=>v=.bl b
 | v,.int i=>v=.int i
 | v,.str x=>v=.str x
 | v,.list ds=>∃a xs,v=.ref a/\H a=some (.lst xs)/\DenAll H xs ds
 | v,.tuple ds=>∃a xs,v=.ref a/\H a=some (.tup xs)/\DenAll H xs ds
 | v,.dict kvs=>kvs=[]/\∃a,v=.ref a/\H a=some (.dK [])
def DenAll(H:Hp):List V->List a_->Prop
 | xs,[]=>xs=[]
 | xs,d :: ds=>∃v r,xs=v :: r/\Den H v d/\DenAll H r ds
end
mutual
theorem Den.mono{H H':Hp}(e:Same H H'):∀(d:a_) {v:V},Den H v d->Den H' v d
 | .none,_,h=>by simpa only [Den] using h
 | .bool _,_,h=>by simpa only [Den] using h
 | .int _,_,h=>by simpa only [Den] using h
 | .str _,_,h=>by simpa only [Den] using h
 | .list ds,_,h=>by
  simp only [Den] at h ⊢;obtain⟨a,xs,h1,h2,h3⟩:=h;exact⟨a,xs,h1,e _ _ h2,DenAll.mono e ds h3⟩
 | .tuple ds,_,h=>by
  simp only [Den] at h ⊢;obtain⟨a,xs,h1,h2,h3⟩:=h;exact⟨a,xs,h1,e _ _ h2,DenAll.mono e ds h3⟩
 | .dict _,_,h=>by
  simp only [Den] at h ⊢;obtain⟨h0,a,h1,h2⟩:=h;exact⟨h0,a,h1,e _ _ h2⟩
theorem DenAll.mono{H H':Hp}(e:Same H H'):∀(ds:List a_) {xs:List V},DenAll H xs ds->DenAll H' xs ds
 | [],_,h=>by simpa only [DenAll] using h
 | d :: ds,_,h=>by
  simp only [DenAll] at h ⊢;obtain⟨v,r,h1,h2,h3⟩:=h;exact⟨v,r,h1,Den.mono e d h2,DenAll.mono e ds h3⟩
end
theorem Den.up{H H':Hp}{d:a_}{v:V}(h:Den H v d)(e:Same H H'):Den H' v d:=Den.mono e d h
theorem DenAll.up{H H':Hp}{ds:List a_}{xs:List V}(h:DenAll H xs ds)(e:Same H H'):DenAll H' xs ds:=DenAll.mono e ds h
section
variable {H:Hp}
theorem den_none:Den H .non .none:=by simp only [Den]
theorem den_bool{b:Bool}:Den H (.bl b) (.bool b):=by simp only [Den]
theorem den_int{i:Int}:Den H (.int i) (.int i):=by simp only [Den]
theorem den_list{a:av}{xs:List V}{ds:List a_}(h:H a=some (.lst xs))(q:DenAll H xs ds):Den H (.ref a) (.list ds):=by
 simp only [Den];exact⟨a,xs,rfl,h,q⟩
theorem den_tup{a:av}{xs:List V}{ds:List a_}(h:H a=some (.tup xs))(q:DenAll H xs ds):Den H (.ref a) (.tuple ds):=by
 simp only [Den];exact⟨a,xs,rfl,h,q⟩
theorem denAll_nil:DenAll H [] []:=by simp only [DenAll]
theorem denAll_cons{v:V}{d:a_}{xs:List V}{ds:List a_}(h:Den H v d)(q:DenAll H xs ds):DenAll H (v :: xs) (d :: ds):=by
 simp only [DenAll];exact⟨v,xs,rfl,h,q⟩
theorem Den.list_inv{v:V}{ds:List a_}(h:Den H v (.list ds)):∃a xs,v=.ref a/\H a=some (.lst xs)/\DenAll H xs ds:=by simpa only [Den] using h
theorem Den.tup_inv{v:V}{ds:List a_}(h:Den H v (.tuple ds)):∃a xs,v=.ref a/\H a=some (.tup xs)/\DenAll H xs ds:=by simpa only [Den] using h
theorem Den.int_inv{v:V}{i:Int}(h:Den H v (.int i)):v=.int i:=by simpa only [Den] using h
theorem DenAll.cons_inv{xs:List V}{d:a_}{ds:List a_}(h:DenAll H xs (d :: ds)):∃v r,xs=v :: r/\Den H v d/\DenAll H r ds:=by simpa only [DenAll] using h
theorem DenAll.nil_inv{xs:List V}(h:DenAll H xs []):xs=[]:=by simpa only [DenAll] using h
theorem DenAll.length:∀{ds:List a_} {xs:List V},DenAll H xs ds->xs.length=ds.length
 | [],_,h=>by rw [h.nil_inv];rfl
 | d :: ds,_,h=>by
  obtain⟨v,r,rfl,_,h⟩:=h.cons_inv;rw [ba,ba,DenAll.length h]
theorem DenAll.get:∀{ds:List a_} {xs:List V} {i:Nat} {d:a_},DenAll H xs ds->ds[i]?=some d->∃v,xs[i]?=some v/\Den H v d
 | [],_,i,d,_,e=>by simp at e
 | d0 :: ds,_,0,d,h,e=>by
  obtain⟨v,r,rfl,h1,_⟩:=h.cons_inv;have:d0=d:=by simpa using e
  subst this;exact⟨v,rfl,h1⟩
 | d0 :: ds,_,i + 1,d,h,e=>by
  obtain⟨v,r,rfl,_,h1⟩:=h.cons_inv;obtain⟨u,h2,h3⟩:=DenAll.get (i:=i) h1 (by simpa using e);exact⟨u,by simpa using h2,h3⟩
theorem DenAll.getV{ds:List a_}{xs:List V}{i:Nat}{v:V}(h:DenAll H xs ds)(e:xs[i]?=some v):∃d,ds[i]?=some d/\Den H v d:=by
 have hi:=(aY.mp e).1;rw [h.length] at hi;obtain⟨u,h1,h2⟩:=h.get (aB hi);rw [e] at h1;cases h1
 exact⟨_,aB hi,h2⟩
theorem DenAll.append:∀{ds:List a_} {xs:List V} {es:List a_} {ys:List V},DenAll H xs ds->DenAll H ys es->DenAll H (xs ++ ys) (ds ++ es)
 | [],_,_,_,h,q=>by rw [h.nil_inv];exact q
 | d :: ds,_,_,_,h,q=>by
  obtain⟨v,r,rfl,h1,h2⟩:=h.cons_inv;exact denAll_cons h1 (DenAll.append h2 q)
end
mutual
theorem Den.reads{P:bh}{w:bE}{H:Hp}{h:bL}(ok:HOk P w H h):∀(d:a_) {v:V} {u:ai},d.canLay0=true->Den H v d->RelV v u->∃as,Reads h u d as
 | .none,v,u,_,q,r=>by
  simp only [Den] at q;subst q;cases (show u=cD from r)
  exact⟨_,.none⟩
 | .bool b,v,u,_,q,r=>by
  simp only [Den] at q;subst q;cases (show u=iM b from r)
  exact⟨_,.bool b⟩
 | .int i,v,u,_,q,r=>by
  simp only [Den] at q;subst q;obtain⟨t,rfl⟩:=r;exact⟨_,.int i t⟩
 | .str x,v,u,_,q,r=>by
  simp only [Den] at q;subst q;obtain⟨t,rfl⟩:=r;exact⟨_,.str x t⟩
 | .list ds,v,u,hl,q,r=>by
  simp only [Den] at q;obtain⟨a,xs,rfl,h1,h2⟩:=q;cases (show u=be a from r)
  obtain⟨z,bU,n,rv,e⟩:=ok a _ h1;obtain⟨as,ra⟩:=DenAll.reads ok ds hl h2 rv;exact⟨_,.list e rfl rfl (by simpa using ra)⟩
 | .tuple ds,v,u,hl,q,r=>by
  simp only [Den] at q;obtain⟨a,xs,rfl,h1,h2⟩:=q;cases (show u=be a from r)
  obtain⟨z,bU,rv,o,e,c,n,d⟩:=ok a _ h1;obtain⟨as,ra⟩:=DenAll.reads ok ds hl h2 rv;exact⟨_,.tuple e c d (by simpa using ra)⟩
 | .dict _,_,_,hl,_,_=>nomatch hl
theorem DenAll.reads{P:bh}{w:bE}{H:Hp}{h:bL}(ok:HOk P w H h):∀(ds:List a_) {xs:List V} {us:List ai},bg ds=true->DenAll H xs ds->Vals xs us->∃as,iU h us ds as
 | [],xs,us,_,q,r=>by
  simp only [DenAll] at q;subst q;cases r
  exact⟨_,.nil⟩
 | d :: ds,xs,us,hl,q,r=>by
  have qD:d.canLay0=true/\bg ds=true:=by simpa [bg] using hl
  simp only [DenAll] at q;obtain⟨v,rs,rfl,h1,h2⟩:=q;cases r with
  | cons r1 r2=>
   obtain⟨as,ra⟩:=Den.reads ok d qD.1 h1 r1;obtain⟨bs,rb⟩:=DenAll.reads ok ds qD.2 h2 r2;exact⟨_,.cons ra rb⟩
end
section
variable {X:Cx}
def tyD:a_->String
 | .int _=>"int"
 | .bool _=>"bool"
 | .list _=>"list"
 | .tuple _=>"tuple"
 | .none=>"NoneType"
 | .str _=>"str"
 | .dict _=>"dict"
theorem Den.ty{K:af}{H:Hp}{v:V}:∀{d:a_},Den H v d->TyOf K H v (.type (tyD d))
 | .none,h=>by simp only [Den] at h;subst h;exact .non
 | .bool _,h=>by simp only [Den] at h;subst h;exact .bl _
 | .int _,h=>by simp only [Den] at h;subst h;exact .int _
 | .str _,h=>by simp only [Den] at h;subst h;exact .str _
 | .list _,h=>by simp only [Den] at h;obtain⟨a,xs,rfl,h1,_⟩:=h;exact .lst h1
 | .tuple _,h=>by simp only [Den] at h;obtain⟨a,xs,rfl,h1,_⟩:=h;exact .tup h1
 | .dict _,h=>by simp only [Den] at h;obtain⟨_,a,rfl,h1⟩:=h;exact .dK h1
theorem Inv.sysBelow(I:Inv X pins σ H s):dF < s.heap.objs.size:=by
 have h:aV < s.heap.objs.size:=(I.mod.glob.keeps I.bk).lt;exact jR (by decide) h
end
theorem j9(h:H p=none)(o:HO):Same H (upd H p o):=fun b u q=>by rw [c9 (m8 q h)];exact q
theorem b1p(e:Same H H')(h:H p=none)(o:HO):Same H (upd H' p o):=fun b u q=>by rw [c9 (m8 q h)];exact e b u q
end L2
namespace L2
open PySem PySem.Spec PyProof.Rows
def PTs(X:Cx)(ifs:List Expr)(tt:TT):Prop:=
 ∀(pins:List (av × eD)) (s:ak) (σ:St) (H:Hp) (Q:Bool->Hp->Prop),Inv X pins σ H s->tt σ H Q->
  aM (aU X.prog X.w) X.A (forIn ifs true fun c r=>if r=true then do let ok <-pF c X.env (bW c X.env);pure (dt ok) else pure (dt r)) (TP X pins σ Q) X.xe s
def c1b:TT:=fun _ H Q=>Q true H
theorem b3X:PTs X [] c1b:=fun _ _ σ H _ I h=>wpAny_tests_nil ⟨H,I,h⟩
theorem b3Y(h:PT X c tt):PTs X [c] tt:=fun pins s σ H Q I q=>wpAny_tests_one (h pins s σ H Q I q)
section
variable {prog:bh}{w:bE}{A:bx}{R:Di->ak->Prop}{s:ak}
theorem a3y(I:Nat->ak->Prop)
  (turn:∀n s,I n s->aM (aU prog w) A (gY it) (fun r s₁=>match r with
   | none=>R (.ok .next) s₁
   | some v=>aM (aU prog w) A (kZ target it v) (fun _ s₂=>aM (aU prog w) A (kg target env v) (fun _ s₃=>
     aM (aU prog w) A (forIn ifs true fun c r=>if r=true then do let ok <-pF c env (bW c env);pure (dt ok) else pure (dt r)) (fun ok nU=>
     if ok=true then aM (aU prog w) A (bW elt env) (fun x s₄=>
      aM (aU prog w) A (call (.builtin "list.append") [acc,x]) (fun _ s₅=>∃m,m < n/\I m s₅) (fun _ _=>False) s₄) (fun _ _=>False) nU
     else ∃m,m < n/\I m nU)
     (fun _ _=>False) s₃) (fun _ _=>False) s₂) (fun _ _=>False) s₁) (fun _ _=>False) s)
  (n:Nat) (h:I n s) :
  ir (aU prog w) A (.compLoop (.ListComp elt [⟨target,iter,ifs,0⟩] scope pos) 0 it acc env) R s:=by
 refine codeAny_loop rfl I (fun n s hI=>?_) n h;show aM _ _ ((compTurn (.ListComp elt [⟨target,iter,ifs,0⟩] scope pos) 0 it acc env).onRaise (fun x=>do noteFrame x env;theTreesLotGoes x)) _ _ s;refine wpAny_noted ?_;rw [compTurn_list];refine ae (mP (ae (cC (turn n s hI) (fun r s₁ h₁=>?_) fun _ _ h'=>h'.elim)));cases r with
 | none=>exact ag h₁
 | some v=>
  refine ae (cC h₁ (fun _ s₂ h₂=>?_) fun _ _ h'=>h'.elim);refine ae (cC h₂ (fun _ s₃ h₃=>ae (cC h₃ (fun ok nU mT=>?_) fun _ _ h'=>h'.elim)) fun _ _ h'=>h'.elim);cases ok with
  | false=>
   rw [aO bB] at mT;exact ae (ag (ag ⟨rfl,mT⟩))
  | true=>
   rw [aE rfl] at mT;exact ae (ae (cC mT (fun x s₄ h₄=>ae (cC h₄ (fun _ s₅ h₅=>ag (ag ⟨rfl,h₅⟩)) fun _ _ h'=>h'.elim)) fun _ _ h'=>h'.elim))
end
def a4J(wi:TI)(g:TG)(tt:TT)(te:TE)(τ:St->St):TE:=fun σ H Q=>wi σ H fun J H1=>∀D,H1 D=none->∃W:Nat->Nat->List V->St->Hp->Prop,(∃m,W 0 m [] (τ σ) (upd H1 D (.lst [])))/\
 ∀i m ys σ' H',W i m ys σ' H'->(J.stop i H'/\Q (.ref D) H')∨
  (J.go i H'/\∃(N:V->St->Hp->Prop) (NO:St->Hp->Prop),(∀y σ3 H4,N y σ3 H4->H4 D=some (.lst ys)/\ys.length < aS/\∃m',m' < m/\W (i + 1) m' (ys ++ [y]) σ3 (upd H4 D (.lst (ys ++ [y]))))/\
   (∀σ3 H4,NO σ3 H4->∃m',m' < m/\W (i + 1) m' ys σ3 H4)/\∀x H2,J.yld i H' x H2->g x σ' H2 fun σ3 H3=>tt σ3 H3 fun b H4=>if b=true then te σ3 H4 fun y H5=>N y σ3 H5 else NO σ3 H4)
section
variable {X:Cx}{N:List bc}{scope:fE}{cl:List (bc × av)}{τ:St->St}{elt tg iter:Expr}{ifs:List Expr}{pos:ek}{wi:TI}{g:TG}{tt:TT}{te:TE}
theorem a3M(hc:X.calm=true)(hi:PI X tg iter wi)(C:CompIn X N scope cl τ)(hg:∀Cl s H fp,PG (M5 X N scope cl Cl s H fp) tg g)(ht:∀Cl s H fp,PTs (M5 X N scope cl Cl s H fp) ifs tt)(he:∀Cl s H fp,PE (M5 X N scope cl Cl s H fp) elt te)
  (I:Inv X pins σ H s) (h:a4J wi g tt te τ σ H R) {PP:ai->av->Di->ak->Prop}
  (Cv:∀D Cl Hn s' o m,Inv X pins σ Hn s'->R (.ref D) Hn->a3v X pins Hn Cl->s'.heap.get? Cl=some o->(∀v,o.data≠.cell v)->(∀h':bL,h'.get? Cl=some o->h'.Ns Cl m)->PP (.ref D) Cl (.ok .next) s') :
  aM (aU X.prog X.w) X.A (bW iter X.env) (fun x s₁=>aM (aU X.prog X.w) X.A (pE x) (fun it s₂=>aM (aU X.prog X.w) X.A (newList []) (fun acc s₃=>
   aM (aU X.prog X.w) X.A (newFunctionEnv scope X.env.globals cl [] X.env.qual none .none (some X.env)) (fun uV s₄=>
    ir (aU X.prog X.w) X.A (.compStart (.ListComp elt [⟨tg,iter,ifs,0⟩] scope pos) 0 it acc {uV with scope:=kN scope X.env}) (PP acc uV.locals) s₄) X.xe s₃) X.xe s₂) X.xe s₁) X.xe s:=by
 refine thn (hi pins s σ H _ I h) fun x s1 h1=>thn h1 fun wF s2 h2=>?_
 obtain⟨it,fp,tn,J,H2,rfl,I2,T,pD,f2,q⟩:=h2;refine dX (wpAny_newFunctionEnv C.ncell (by intro y hy;simp at hy) (fun h₁ mK lG=>?_) C.kind)
 dsimp only at mK lG ⊢
 generalize xO:s2.heap.push {cls:=.type "list",dict:=none,data:=.seq ([]:List ai).toArray}=G2 at mK lG ⊢;have hC:G2.objs.size=s2.heap.objs.size + 1:=by rw [<-xO,dR]
 have zu:s2.heap.objs.size≠G2.objs.size:=by rw [hC];exact bj (jF _)
 have rQ:s2.heap.objs.size<=G2.objs.size:=by rw [hC];exact gE _
 have below:∀b,b < s2.heap.objs.size->b≠G2.objs.size:=fun b hb=>by rw [hC];exact bj (jf hb)
 have old:∀b o,s2.heap.get? b=some o->h₁.get? b=some o:=fun b o e=>lG.extBut b o (below b (aN e)) (aw _ (xO ▸ aw _ e))
 have lH:h₁.get? s2.heap.objs.size=some {cls:=.type "list",dict:=none,data:=.seq ([]:List ai).toArray}:=lG.extBut _ _ zu (aw _ (xO ▸ aR _ rfl));have xV:∀b∈fp,b < s2.heap.objs.size:=fun b hb=>by
  obtain⟨o,e,_⟩:=T.obj 0 _ pD b hb;exact aN e
 have zt:H2 s2.heap.objs.size=none:=I2.hok.fresh (aF _);have CH:H2 G2.objs.size=none:=I2.hok.fresh rQ;generalize vO:G2.objs.size=Cl at *;have Ai:∀b∈frs X.stack,b < s2.heap.objs.size:=fun b hb=>by
  rcases aH.mp (I2.stkSub b hb) with e|hb
  ·rw [e];exact I2.lt
  ·obtain⟨_,o,ho,_⟩:=I2.funs.mem hb;exact aN ho
 have ok':(M5 X N scope cl Cl s2 H2 fp).Ok:=by
  refine⟨I2.ok.mod,C.kind,I2.ok.glob,I2.ok.blt,rQ,fun x y c e1 e2=>I2.ok.inj x y c (C.sub x c e1) (C.sub y c e2),fun x hx=>?_,fun x c hx _=>(nomatch hx),fun z=>I2.ok.hd z,I2.ok.frames,.inl rfl,fun b hb=>⟨below b (xV b hb),fun x c e=>(f2 b hb).2.2.2.2.1 x c (C.sub x c e)⟩,
   I2.bs,cI I2.ok.bsz I2.sz,fun b o e hb=>?_,fun b hb z=>?_,I2.stack,I2.stkFree,I2.tabs⟩
  ·obtain⟨y,hy,rfl,ey⟩:=a0l C.ncell hx;exact C.has y hy ey
  ·rcases (f2 b hb).2.2.2.1 with z|z
   ·exact I2.ok.noex b o e z
   ·exact absurd (aW (aN e) (cI I2.ok.bsz z)) (cE _)
  ·rcases aH.mp (I2.stkSub b z) with e|e
   ·exact (f2 b hb).2.1 e
   ·exact (f2 b hb).2.2.1 e
 have I4:Inv (M5 X N scope cl Cl s2 H2 fp) pins (τ σ) (upd H2 s2.heap.objs.size (.lst [])) {s2 with heap:=h₁,toks:=s2.toks + ([]:List (bc × ai)).length}:=by
  have lc:=I2.loc;obtain⟨m,hn,hl⟩:=lc;refine⟨ok',rfl,I2.bare,Un.laid old (aF _) zt,⟨_,mK,fun i x v e1 e2 e3=>?_⟩,fun x c e=>?_,?_,fun x c e=>?_,fun p hp=>?_,I2.hok.laid old (aF _) ⟨dq _,[],_,.nil,lH⟩,C.tlen σ⟩
  ·obtain⟨j,j1,j2,j3,j4⟩:=C.tval σ i x v e1 e2;have kx:(kN scope X.env).names.lookup x=some .cell∨(kN scope X.env).names.lookup x=some .free:=a4I j3;obtain⟨y,hy,CQ,ey⟩:=a0l C.ncell kx;obtain⟨c,rL⟩:=C.has y hy ey;rw [CQ] at rL;have xH:=C.sub x c rL;have hv:Vis X.env.scope x:=.inr j4;obtain⟨u,ru,lk⟩:=hl j x v j1 j2 hv;refine⟨u,ru,?_⟩;rcases lk with⟨k,_⟩|⟨k,c',e',z⟩
   ·rcases j4 with j4|j4
    ·rw [j4] at k;cases k
    ·rw [j4] at k;cases k
   ·rw [xH] at e';cases e'
    obtain⟨o,ho,hd⟩:=z;exact .inr ⟨kx,c,rL,⟨o,old c o ho,hd⟩⟩
  ·obtain⟨v,o,ho,hd⟩:=I2.cell x c (C.sub x c e);exact⟨v,o,old c o ho,hd⟩
  ·show upd H2 s2.heap.objs.size (.lst []) Cl=none;rw [c9 (eE zu)];exact CH
  ·have n:=I2.freeC x c (C.sub x c e);obtain⟨v,o,ho,hd⟩:=I2.cell x c (C.sub x c e);rw [c9 (bj (aN ho))];exact n
  ·obtain⟨e,n,ne,nf,d⟩:=I2.pin p hp;refine⟨old _ _ e,by rw [c9 (bj (aN e))];exact n,below _ (aN e),fun z=>?_,d⟩;rcases aH.mp (I2.stkSub p.1 z) with e'|e'
   ·exact ne e'
   ·exact nf e'
 have mH:∀{H':Hp},(∀b∈fp,H' b=none)->∀b∈fp,a3v (M5 X N scope cl Cl s2 H2 fp) pins H' b:=fun hn b hb=>
  ⟨hn b hb,below b (xV b hb),ok'.exfs b hb,.inl hb,(ok'.exf b hb).2,(f2 b hb).2.2.2.2.2⟩
 obtain⟨W,⟨m0,w0⟩,turn⟩:=q s2.heap.objs.size zt;have loop:∀s₃:ak,s₃={s2 with heap:=h₁,toks:=s2.toks + ([]:List (bc × ai)).length}->
   ir (aU X.prog X.w) X.A (.compLoop (.ListComp elt [⟨tg,iter,ifs,0⟩] scope pos) 0 (.ref it) (.ref s2.heap.objs.size) (compEnvC scope cl Cl X.env)) (PP (.ref s2.heap.objs.size) Cl) s₃:=by
  rintro s₃ rfl;refine a3y (fun n s'=>∃i ys σ' H',Inv (M5 X N scope cl Cl s2 H2 fp) pins σ' H' s'/\tn i s'.heap/\(∀b∈fp,H' b=none)/\W i n ys σ' H') ?_ m0
   ⟨0,[],τ σ,_,I4,T.keep _ _ _ pD fun b hb o e=>old b o e,fun b hb=>by rw [c9 (bj (xV b hb))];exact (f2 b hb).1,w0⟩
  rintro n s3 ⟨i,ys,σ3,H3,I3,tw,uR,w3⟩;rcases turn i n ys σ3 H3 w3 with⟨stop,qn⟩|⟨go,NN,NO,hN,hO,step⟩
  ·refine thn (T.done (M5 X N scope cl Cl s2 H2 fp) rfl rfl rfl hc i pins s3 σ3 H3 _ I3 (mH uR) tw stop) fun r s4 ⟨hr,I5⟩=>?_
   subst hr;have lc:=I5.loc;obtain⟨m,hn,_⟩:=lc;obtain⟨o,es,ep,ho,hd,iP⟩:=hn;have J5:Inv X pins σ H3 s4:=I2.call' (ch:=fp) I5.os I5.base I5.hok I5.bare fun b hb=>⟨(f2 b hb).2.2.2.1,(f2 b hb).2.1,(f2 b hb).2.2.2.2.1,(f2 b hb).2.2.2.2.2⟩
   refine Cv _ Cl H3 s4 o m J5 qn (I2.fpOk rQ I5.free) ho (fun v z=>by rw [hd] at z;cases z) fun h' e=>⟨o,es,ep,e,hd,iP⟩
  ·refine thn (T.item (M5 X N scope cl Cl s2 H2 fp) rfl rfl rfl hc i pins s3 σ3 H3 _ I3 (mH uR) tw go) fun r s4 ⟨u,hr,h4⟩=>?_
   subst hr;refine thn h4 fun _ s5 ⟨x,H5,I5,r5,y5,pC,xT⟩=>?_
   have yj:=I5.pinned (mH xT) (T.obj _ _ pC);refine thn (hg Cl s2 H2 fp _ s5 σ3 H5 x u _ yj r5 (step x H5 y5)) fun _ s6 ⟨σ6,H6,I6,q6⟩=>?_
   refine thn (ht Cl s2 H2 fp _ s6 σ6 H6 _ I6 q6) fun ok Am ⟨Du,vZ,vf⟩=>?_
   cases ok with
   | false=>
    rw [aO bB] at vf ⊢;obtain⟨m',hm,w7⟩:=hO _ _ vf;refine⟨m',hm,i + 1,ys,σ6,_,vZ.unpinned,T.keep _ _ _ pC fun b hb o e=>(vZ.pin (b,o) (aj _ (aj _ (B9 hb e)))).1,fun b hb=>?_,w7⟩;obtain⟨o,e,d⟩:=T.obj _ _ pC b hb;exact (vZ.pin (b,o) (aj _ (aj _ (B9 hb e)))).2.1
   | true=>
    rw [aE rfl] at vf ⊢;refine thn (he Cl s2 H2 fp _ Am σ6 Du _ vZ vf) fun yv s7 ⟨y,H7,I7,r7,q7⟩=>?_
    obtain⟨As,Ar,m',hm,w7⟩:=hN _ _ _ q7;refine thn (a3L (X:=M5 X N scope cl Cl s2 H2 fp) _ s7 σ6 H7 (.ref s2.heap.objs.size) [y] (.ref s2.heap.objs.size) [yv] (fun _ H8=>H8=upd H7 s2.heap.objs.size (.lst (ys ++ [y]))) I7 rfl (.cons r7 .nil)
     ⟨_,ys,y,rfl,rfl,As,Ar,rfl⟩) fun _ s8 ⟨_,H8,I8,_,e8⟩=>?_
    subst e8;refine⟨m',hm,i + 1,ys ++ [y],σ6,_,I8.unpinned,T.keep _ _ _ pC fun b hb o e=>(I8.pin (b,o) (aj _ (aj _ (B9 hb e)))).1,fun b hb=>?_,w7⟩;obtain⟨o,e,d⟩:=T.obj _ _ pC b hb;exact (I8.pin (b,o) (aj _ (aj _ (B9 hb e)))).2.1
 have Aj:tn 0 h₁:=T.keep _ _ _ pD fun b hb o e=>old b o e
 exact codeAny_compStart_list (loop _ rfl) (T.self X.A 0 {s2 with heap:=h₁,toks:=s2.toks + ([]:List (bc × ai)).length} _ _ Aj (loop _ rfl))
end
def v5(env:lQ):List (bc × iu)->List (bc × av)->List (bc × av)
 | [],cs=>cs
 | (n,k) :: r,cs=>v5 env r (if k == .free then (n,(env.cells.lookup n).getD 0) :: cs else cs)
theorem T1{env:lQ}:∀(names:List (bc × iu)) (cs:List (bc × av)),(∀y∈names,y.2=.free->∃c,env.cells.lookup y.1=some c)->
  (forIn names cs fun (x:bc × iu) (cs:List (bc × av))=>(if x.2 == .free then do let a <-cellOf env x.1;pure (dt ((x.1,a) :: cs)) else pure (dt cs):Sem (ForInStep (List (bc × av)))))=pure (v5 env names cs)
 | [],cs,_=>by rw [kF];rfl
 | (n,k) :: r,cs,h=>by
  rw [jX]
  dsimp only
  by_cases hk:(k == ej)=true
  ·obtain⟨c,hc⟩:=h (n,k) ah (by simpa using hk);rw [aE hk];have e:cellOf env n=pure c:=by unfold cellOf;rw [hc]
   rw [e];have:=T1 r ((n,c) :: cs) fun y hy=>h y (ao _ hy)
   have e2:v5 env ((n,k) :: r) cs=v5 env r ((n,c) :: cs):=by
    show v5 env r (if k == .free then (n,(env.cells.lookup n).getD 0) :: cs else cs)=_;rw [aE hk,hc];rfl
   rw [e2,<-this];simp only [pure_bind]
  ·rw [aO hk];have:=T1 r cs fun y hy=>h y (ao _ hy)
   have e2:v5 env ((n,k) :: r) cs=v5 env r cs:=by
    show v5 env r (if k == .free then (n,(env.cells.lookup n).getD 0) :: cs else cs)=_;rw [aO hk]
   rw [e2,<-this];simp only [pure_bind]
theorem a7d{scope:fE}{env:lQ}(h:∀y∈scope.names,y.2=.free->∃c,env.cells.lookup y.1=some c):nz scope env=pure (v5 env scope.names []):=by
 have:=T1 scope.names [] h;rw [<-this];unfold nz;simp
theorem Y3{env:lQ}:∀(names:List (bc × iu)) (cs:List (bc × av)),(∀y∈names,y.2=.free->∃c,env.cells.lookup y.1=some c)->(∀p∈cs,env.cells.lookup p.1=some p.2)->
  (∀p∈v5 env names cs,env.cells.lookup p.1=some p.2)/\(∀p∈cs,p∈v5 env names cs)/\∀y∈names,y.2=.free->∃c,(y.1,c)∈v5 env names cs
 | [],cs,_,hc=>⟨hc,fun _ h=>h,fun y hy=>(nomatch hy)⟩
 | (n,k) :: r,cs,h,hc=>by
  by_cases hk:(k == ej)=true
  ·obtain⟨c,e⟩:=h (n,k) ah (by simpa using hk);have e2:v5 env ((n,k) :: r) cs=v5 env r ((n,c) :: cs):=by
    show v5 env r (if k == .free then (n,(env.cells.lookup n).getD 0) :: cs else cs)=_;rw [aE hk,e];rfl
   rw [e2];obtain⟨a,b,d⟩:=Y3 r ((n,c) :: cs) (fun y hy=>h y (ao _ hy)) fun p hp=>by
    rcases aH.mp hp with z|z
    ·rw [z];exact e
    ·exact hc p z
   refine⟨a,fun p hp=>b p (ao _ hp),fun y hy hf=>?_⟩;rcases aH.mp hy with z|z
   ·rw [z];exact⟨c,b _ ah⟩
   ·exact d y z hf
  ·have e2:v5 env ((n,k) :: r) cs=v5 env r cs:=by
    show v5 env r (if k == .free then (n,(env.cells.lookup n).getD 0) :: cs else cs)=_;rw [aO hk]
   rw [e2];obtain⟨a,b,d⟩:=Y3 r cs (fun y hy=>h y (ao _ hy)) hc;refine⟨a,b,fun y hy hf=>?_⟩;rcases aH.mp hy with z|z
   ·rw [z] at hf;exact absurd (by simpa using hf) hk
   ·exact d y z hf
theorem X4:∀{l:List (bc × av)},(x,c)∈l->∃c',l.lookup x=some c'
 | [],h=>nomatch h
 | (y,d) :: l,h=>by
  rw [eN];cases e:x == y with
  | true=>exact⟨d,rfl⟩
  | false=>
   rcases aH.mp h with z|z
   ·cases z;simp at e
   ·exact X4 z
def V2(scope:fE)(okind:bc->Option iu)(ys:List bc)(js:List Nat)(XN:List bc):Bool:=
 scope.kind == .function && scope.names.all (fun y=>y.2 != .cell && (y.2 != .local || scope.names.lookup y.1 == some .local) && (y.2 != .free || (okind y.1 == some .cell || okind y.1 == some .free))) &&
 ys.length == js.length && (ys.zip js).all fun p=>XN[p.2]? == some p.1 && scope.names.lookup p.1 == some .free && (okind p.1 == some .cell || okind p.1 == some .free)
def a0I(tn:List bc)(js:List Nat):St->St:=fun σ=>aC tn.length none ++ js.map fun j=>(σ[j]?).getD none
theorem a3N{X:Cx}{scope:fE}(ok:X.Ok)(h:V2 scope X.env.kindOf ys js X.N=true):CompIn X (tn ++ ys) scope (v5 X.env scope.names []) (a0I tn js):=by
 unfold V2 at h;rw [az,az,az,bP,bP] at h;obtain⟨⟨⟨hk,ha⟩,hl⟩,hz⟩:=h;have mX:∀y∈scope.names,y.2≠.cell:=fun y hy e=>by
  have:=ha y hy;rw [e] at this;simp at this
 have xg:∀y∈scope.names,y.2=.local->scope.names.lookup y.1=some .local:=fun y hy e=>by
  have:=ha y hy;rw [e] at this;simpa using this
 have jT:∀y∈scope.names,y.2=.free->∃c,X.env.cells.lookup y.1=some c:=fun y hy e=>by
  have:=ha y hy;rw [e] at this;refine ok.has y.1 ?_;simpa using this
 obtain⟨a,_,d⟩:=Y3 scope.names [] jT fun p hp=>(nomatch hp)
 refine⟨a7d jT,by simpa using hk,mX,xg,fun x c e=>a _ (bK e),fun y hy e=>?_,fun σ=>?_,fun σ i x v h1 h2=>?_⟩
 ·obtain⟨c,hc⟩:=d y hy e;exact X4 hc
 ·have:ys.length=js.length:=by simpa using hl
  unfold a0I;simp [this]
 ·unfold a0I at h2;by_cases hi:i < tn.length
  ·rw [fY (by simpa using hi),qU] at h2
   split at h2 <;> cases h2
  ·rw [eh (by simpa using hi),fy,bz] at h2;rw [eh (by lia)] at h1;cases hj:js[i - tn.length]? with
   | none=>rw [hj] at h2;cases h2
   | some j=>
    rw [hj] at h2;have h3:(σ[j]?).getD none=some v:=by simpa using h2
    have jk:(x,j)∈ys.zip js:=by
     have hlen:=(aY.mp h1).1;have yY:=(aY.mp hj).1;rw [cG];refine⟨i - tn.length,?_⟩;rw [jd];exact⟨h1,hj⟩
    have:=hz _ jk;rw [az,az,nI] at this;obtain⟨⟨e1,e2⟩,e3⟩:=this;refine⟨j,by simpa using e1,?_,by simpa using e2,by simpa using e3⟩;cases q:σ[j]? with
    | none=>rw [q] at h3;cases h3
    | some o=>rw [q] at h3;have:o=some v:=h3;rw [this]
section
variable {X:Cx}{tn ys:List bc}{js:List Nat}{scope:fE}{elt tg iter:Expr}{ifs:List Expr}{pos:ek}{wi:TI}{g:TG}{tt:TT}{te:TE}
theorem b1q(hc:X.calm=true)(hi:PI X tg iter wi)(C:V2 scope X.env.kindOf ys js X.N=true)(hg:∀cl Cl s H fp,PG (M5 X (tn ++ ys) scope cl Cl s H fp) tg g)(ht:∀cl Cl s H fp,PTs (M5 X (tn ++ ys) scope cl Cl s H fp) ifs tt)(he:∀cl Cl s H fp,PE (M5 X (tn ++ ys) scope cl Cl s H fp) elt te)
  (hs:∀x,eF iter X.env x=pure x:=by intro _;rfl):PE X (.ListComp elt [⟨tg,iter,ifs,0⟩] scope pos) (a4J wi g tt te (a0I tn js)):=by
 intro pins s σ H Q I h;have C:=a3N (tn:=tn) I.ok C;rw [eval_ListComp];refine wa (use:=none) rfl hs C.clos C.kind C.names (a3M hc hi C (hg _) (ht _) (he _) I h (PP:=fun acc Cl=>compPost (aU X.prog X.w) X.A X.xe none (EP X pins σ Q) acc Cl) ?_);intro D Cl Hn s' o m I' hq F ho hd nr;refine⟨m,nr _ ho,fun h' pJ=>⟨.ref D,Hn,?_,rfl,hq⟩⟩;exact I'.turned (t':=s'.toks) (fun b ob hb e=>(pJ.2 b hb).trans e) F.1 F.2.1 F.2.2.2.1 F.2.2.2.2.1 F.2.2.2.2.2
theorem a5s{py qX:ek}(hc:X.calm=true)(hN:X.N.Nodup)(hy:X.N[i]?=some y)(hx:Loc X.env.scope y)(hi:PI X tg iter wi)(C:V2 scope X.env.kindOf ys js X.N=true)
  (hg:∀cl Cl s H fp,PG (M5 X (tn ++ ys) scope cl Cl s H fp) tg g) (ht:∀cl Cl s H fp,PTs (M5 X (tn ++ ys) scope cl Cl s H fp) ifs tt) (he:∀cl Cl s H fp,PE (M5 X (tn ++ ys) scope cl Cl s H fp) elt te)
  (nY:ff (.ListComp elt [⟨tg,iter,ifs,0⟩] scope pos) (some (.Name y py)) qX.line X.env=pure true:=by rfl) (hs:∀x,eF iter X.env x=pure x:=by intro _;rfl)
  (hf:X.fn y=true∨X.env.scope.names.lookup y=some .local:=by first|exact .inl rfl|exact .inr rfl|assumption) :
  PS X (.Assign [.Name y py] (.ListComp elt [⟨tg,iter,ifs,0⟩] scope pos) qX) (b6m (a4J wi g tt te (a0I tn js)) (a0j i)):=by
 intro pins s σ H D I h;have C:=a3N (tn:=tn) I.ok C;rw [exec_Assign_Name_used _ _ _ _ nY];refine ae (mP (ae ?_));show aM _ X.A (do let _ <-comprehension (.ListComp elt [⟨tg,iter,ifs,0⟩] scope pos) scope X.env _ (newList []) false (bW iter X.env) (some (kg (.Name y py) X.env))) _ _ s;refine ae (cC (wa (use:=some (kg (.Name y py) X.env)) (Q:=fun _ s'=>SP X pins D .next s') rfl hs C.clos C.kind C.names
  (a3M hc hi C (hg _) (ht _) (he _) I h (PP:=fun acc Cl=>compPost (aU X.prog X.w) X.A X.xe (some (kg (.Name y py) X.env)) (fun _ s'=>SP X pins D .next s') acc Cl) ?_)) (fun _ s' hq=>ag (ag hq)) fun _ _ e=>e)
 intro Dl Cl Hn s' o m I' hq F ho hd nr;have I1:=I'.pinned (fp:=[Cl]) (fun b hb=>by rw [ax.mp hb];exact F) (fun b hb=>by rw [ax.mp hb];exact⟨o,ho,hd⟩);show aM _ X.A (kg (.Name y py) X.env (.ref Dl)) _ _ _;refine wpAny_assign_Name (a0i I1 hN hy hx (v:=.ref Dl) rfl (fun s2 I2=>?_) hf);have e2:=(I2.pin (Cl,o) (aj _ (aj _ (B9 (ax.mpr rfl) ho)))).1;refine⟨m,nr _ e2,fun h' pJ=>⟨σ.set i (some (.ref Dl)),Hn,?_,hq⟩⟩;exact I2.unpinned.turned (t':=s2.toks) (fun b ob hb e=>(pJ.2 b hb).trans e) F.1 F.2.1 F.2.2.2.1 F.2.2.2.2.1 F.2.2.2.2.2
end
end L2
namespace VS
open PySem PySem.Spec L2
abbrev D:=a_
mutual
def C9:D->Bool
 | .int _=>true
 | .tuple ds=>p5 ds
 | .none|.bool _|.str _|.list _|.dict _=>false
def p5:List D->Bool
 | []=>true
 | d :: ds=>C9 d && p5 ds
end
mutual
def hashD:D->Int
 | .int i=>jm i
 | .tuple ds=>reduceHash (dB (A1 ds))
 | .none|.bool _|.str _|.list _|.dict _=>0
def A1:List D->List Int
 | []=>[]
 | d :: ds=>hashD d :: A1 ds
end
mutual
def A7:D->Nat
 | .int _=>1
 | .tuple ds=>O6 ds + 1
 | .none|.bool _|.str _|.list _|.dict _=>0
def O6:List D->Nat
 | []=>0
 | d :: ds=>A7 d + O6 ds
end
mutual
theorem T2:∀d:D,C9 d=true->d.canLay0=true
 | .int _,_=>by simp only [cS]
 | .tuple ds,h=>by
  simp only [C9] at h;simp only [cS];exact a1k ds h
 | .none,h|.bool _,h|.str _,h|.list _,h|.dict _,h=>by simp only [C9] at h;cases h
theorem a1k:∀ds:List D,p5 ds=true->bg ds=true
 | [],_=>by simp only [bg]
 | d :: ds,h=>by
  simp only [p5,az] at h;simp only [bg,az];exact⟨T2 d h.1,a1k ds h.2⟩
end
mutual
theorem O7:∀a b:D,C9 a=true->C9 b=true->(aI a b=true↔a=b)
 | .int i,b,_,hb=>by
  cases b with
  | int j=>
   show (i == j)=true↔_;rw [fM];exact⟨fun e=>by rw [e],fun e=>by injection e⟩
  | tuple ds=>simp [aI]
  | _=>simp only [C9] at hb;cases hb
 | .tuple xs,b,ha,hb=>by
  cases b with
  | int j=>simp [aI]
  | tuple ys=>
   simp only [C9] at ha hb;simp only [aI];rw [a1l xs ys ha hb];exact⟨fun e=>by rw [e],fun e=>by injection e⟩
  | _=>simp only [C9] at hb;cases hb
 | .none,b,h,_|.bool _,b,h,_|.str _,b,h,_|.list _,b,h,_|.dict _,b,h,_=>by simp only [C9] at h;cases h
theorem a1l:∀a b:List D,p5 a=true->p5 b=true->(cq a b=true↔a=b)
 | [],[],_,_=>by simp [cq]
 | [],_ :: _,_,_=>by simp [cq]
 | _ :: _,[],_,_=>by simp [cq]
 | x :: xs,y :: ys,ha,hb=>by
  simp only [p5,az] at ha hb;simp only [cq,az];rw [O7 x y ha.1 hb.1,a1l xs ys ha.2 hb.2]
  constructor
  ·rintro⟨rfl,rfl⟩;rfl
  ·intro e;injection e with e1 e2;exact⟨e1,e2⟩
end
mutual
theorem a2h{h h':bL}{es ep}(ho:h.get? d=some o)(hd:o.data=.dict es ep)(hs:dN d h h'):∀(k:D) {v:ai} {as:List av},C9 k=true->Reads h v k as->Reads h' v k as
 | .int _,_,_,_,r=>by cases r;exact .int _ _
 | .tuple ds,_,_,hk,r=>by
  simp only [C9] at hk;cases r with
  | @tuple a oo vs n _ as c1 c2 c3 c4=>
   have gy:a≠d:=by
    rintro rfl;obtain rfl:oo=o:=aD (c1.symm.trans ho);rw [hd] at c3;exact nomatch c3
   exact .tuple ((hs.2 a gy).trans c1) c2 c3 (X5 ho hd hs ds hk c4)
 | .none,_,_,h,_|.bool _,_,_,h,_|.str _,_,_,h,_|.list _,_,_,h,_|.dict _,_,_,h,_=>by simp only [C9] at h;cases h
theorem X5{h h':bL}{es ep}(ho:h.get? d=some o)(hd:o.data=.dict es ep)(hs:dN d h h'):∀(ks:List D) {vs:List ai} {as:List av},p5 ks=true->iU h vs ks as->iU h' vs ks as
 | [],_,_,_,r=>by cases r;exact .nil
 | k :: ks,_,_,hk,r=>by
  simp only [p5,az] at hk;cases r with
  | cons r1 r2=>exact .cons (a2h ho hd hs k hk.1 r1) (X5 ho hd hs ks hk.2 r2)
end
section
variable {prog:bh}{w:bE}{E:ai->ak->Prop}
mutual
theorem a2i:∀(k:D) {A:bx} {s:ak} {v:ai} {as:List av} {Q:Int->ak->Prop},C9 k=true->A.units + k.depth < cH->Reads s.heap v k as->Q (hashD k) {s with toks:=s.toks + A7 k}->aM (aU prog w) A (pyHash v) Q E s
 | .int i,A,s,v,as,Q,_,_,r,h=>by
  cases r
  simp only [hashD,A7] at h;exact wpAny_pyHash_int h
 | .tuple ds,A,s,v,as,Q,hk,hu,r,h=>by
  simp only [C9] at hk;simp only [dI] at hu;simp only [hashD,A7] at h;cases r with
  | @tuple a o items n _ as ho hc hd hi=>
   have hT:s.TypeIs (.ref a) "tuple":=⟨o,ho,hc⟩;unfold pyHash
   first|unfold pyHashByItsType|skip
   first|refine ae (wpAny_cRoomFor_or (.inr (by lia)) ?_)|skip
   refine ae (dh hT jZ.lookup ?_);show aM _ _ (if (some (ai.builtin "tuple.__hash__") == some cD)=true then _ else _) Q E s;rw [aO (by rw [beq_builtin_none];exact bB)];refine ae (dh hT jZ.lookup ?_);show aM _ _ (callSpecialIfBoundUnlessNone? (.ref a) "__hash__" _ >>= _) Q E s;refine ae (wpAny_callSpecialIfBoundUnlessNone?_slot hT jZ (bM jZ hT F.entry_tuple_hash ?_ (F.args_tuple_hash_1 _)));show aM _ _ (Builtin.Tuple.tupleItemsOf (.ref a) >>= _) _ _ s;refine ae (wpAny_tupleItemsOf ho hd ?_);refine ae ?_;rw [<-lR];refine a3O ds (A:=A.in1) (acc:=#[]) hk (by show A.units + 1 + _ < _;lia) hi ?_;show aM _ _ (retInt (dB _)) _ _ _;simp only [Array.toList_append,bT];refine wpAny_ret_mkInt ?_;show aM _ _ (if (decide (-(2:Int) ^ 63<=dB (A1 ds)) && decide (dB (A1 ds) < 2 ^ 63))=true then _ else _) Q E _;unfold reduceHash at h;by_cases hr:(decide (-(2:Int) ^ 63<=dB (A1 ds)) && decide (dB (A1 ds) < 2 ^ 63))=true
   ·rw [aE hr];rw [aE hr] at h;exact ag (by simpa [ig] using h)
   ·rw [aO hr];rw [aO hr] at h;exact ae (gX (ag (by simpa [ig] using h)))
 | .none,_,_,_,_,_,h,_,_,_|.bool _,_,_,_,_,_,h,_,_,_|.str _,_,_,_,_,_,h,_,_,_|.list _,_,_,_,_,_,h,_,_,_|.dict _,_,_,_,_,_,h,_,_,_=>by simp only [C9] at h;cases h
theorem a3O:∀(ks:List D) {A:bx} {s:ak} {vs:List ai} {as:List av} {acc:Array Int} {Q:Array Int->ak->Prop},p5 ks=true->A.units + bQ ks < cH->iU s.heap vs ks as->Q (acc ++ (A1 ks).toArray) {s with toks:=s.toks + O6 ks}->
  aM (aU prog w) A (forIn vs acc fun x r=>do let r1 <-pyHash x;pure iV;pure (dt (r.push r1))) Q E s
 | [],A,s,vs,as,acc,Q,_,_,r,h=>by
  cases r
  rw [kF];exact ag (by simpa [A1,O6] using h)
 | k :: ks,A,s,vs,as,acc,Q,hk,hu,r,h=>by
  simp only [p5,az] at hk;simp only [bQ] at hu;cases r with
  | cons r1 r2=>
   rw [jX];refine ae (ae (a2i k hk.1 (by lia) r1 ?_));refine ae (ag (ag ?_));refine a3O ks (s:={s with toks:=s.toks + A7 k}) hk.2 (by lia) r2 ?_;simp only [A1,O6] at h;have e:(acc.push (hashD k)) ++ (A1 ks).toArray=acc ++ (hashD k :: A1 ks).toArray:=by simp
   rw [e];simpa [ig] using h
end
end
end VS
namespace VS
open PySem PySem.Spec L2
section
variable {prog:bh}{w:bE}{A:bx}{E:ai->ak->Prop}
mutual
theorem a3P:∀(k:D) (n:Nat) {s:ak} {v:ai} {as:List av} {Q:Bool->ak->Prop},C9 k=true->k.depth<=n->Reads s.heap v k as->Q true s->aM (aU prog w) A (eqIsQuiet n v) Q E s
 | .int i,n,s,v,as,Q,_,_,r,h=>by
  cases r
  rw [eqIsQuiet_byValue n (v:=.int i _) rfl];exact ag h
 | .tuple ds,0,s,v,as,Q,_,hn,_,_=>by simp only [dI] at hn;lia
 | .tuple ds,n + 1,s,v,as,Q,hk,hn,r,h=>by
  simp only [C9] at hk;simp only [dI] at hn;cases r with
  | @tuple a o items m _ as ho hc hd hi=>
   have hT:s.TypeIs (.ref a) "tuple":=⟨o,ho,hc⟩;unfold eqIsQuiet;refine ae (dh hT F.slot_tuple_eq.lookup ?_);show aM _ _ (tM (.ref a) (.type "tuple") >>= _) _ _ s;refine ae (gu hT isSubtype_tuple_tuple ?_);simp only [jx,df,fK];refine ae (wpAny_seqItems ho hd ?_);refine ae ?_;show aM _ _ (forIn items _ _) _ _ s;rw [<-lR];refine pq _ (fun rest r s'=>r.1=none/\s'=s/\∃ks bs,p5 ks=true/\bQ ks<=n/\(∀k∈ks,k∈ds)/\iU s.heap rest ks bs) _ ?_ ?_ _ _ ⟨rfl,rfl,ds,as,hk,by lia,fun k hk=>hk,hi⟩
   ·rintro v rest r s' ⟨hr,rfl,ks,bs,k1,k2,k3,k4⟩;cases k4 with
    | @cons _ _ d' jy _ _ r1 r2=>
     simp only [p5,az] at k1;simp only [bQ] at k2;refine ae (a3Q ds n hk (by lia) d' (k3 d' ah) r1 ?_);simp only [jx,df,fK];exact ag ⟨rfl,rfl,_,_,k1.2,by lia,fun k hk=>k3 k (ao _ hk),r2⟩
   ·rintro⟨r1,r2⟩ s' ⟨hr,rfl,_⟩;simp only at hr;subst hr;exact ag h
 | .none,_,_,_,_,_,h,_,_,_|.bool _,_,_,_,_,_,h,_,_,_|.str _,_,_,_,_,_,h,_,_,_|.list _,_,_,_,_,_,h,_,_,_|.dict _,_,_,_,_,_,h,_,_,_=>by simp only [C9] at h;cases h
theorem a3Q:∀(ds:List D) (n:Nat),p5 ds=true->bQ ds<=n->∀k∈ds,∀{s:ak} {v:ai} {as:List av} {Q:Bool->ak->Prop},Reads s.heap v k as->Q true s->aM (aU prog w) A (eqIsQuiet n v) Q E s
 | [],n,_,_,k,hk,s,v,as,Q,r,h=>nomatch hk
 | d :: ds,n,nu,hn,k,hk,s,v,as,Q,r,h=>by
  simp only [p5,az] at nu;simp only [bQ] at hn;rcases aH.mp hk with e|hk
  ·rw [e] at r;exact a3P d n nu.1 (by lia) r h
  ·exact a3Q ds n nu.2 (by lia) k hk r h
end
end
noncomputable def a9H:DecidableEq D:=fun a b=>Classical.propDecidable (a=b)
noncomputable def b1r(prog:bh)(w:bE):@HeapKind prog w D a9H:=
 letI:DecidableEq D:=a9H
 {
  is:=fun h k a=>C9 k=true/\k.depth<=7/\∃as,Reads h (.ref a) k as
  hash:=hashD
  draws:=A7
  room:=fun A=>A.units + 8 < cH
  inj:=fun⟨hx,_,_,r⟩ ⟨_,_,_,r'⟩=>SeqAt.Reads.unique _ _ _ _ _ (T2 _ hx) r r'
  keeps:=fun⟨hx,hd,_,r⟩ ho jU hs=>⟨hx,hd,_,a2h ho jU hs _ hx r⟩
  pyHash:=fun hu ⟨hx,hd,_,r⟩ h=>a2i _ hx (by lia) r h
  eqBool:=fun {A E s x y a b Q} hu ⟨hx,hd,_,r⟩ ⟨hy,jU,_,r'⟩ h=>by
   refine SeqAt.eqAt_reads x y A s _ _ _ _ r r' (T2 _ hx) (T2 _ hy) (by have:=iB x.depth y.depth;lia) _ _ _ _ ?_;have e:aI x y=@decide (x=y) (a9H x y):=by
    by_cases c:x=y
    ·rw [@aL _ (a9H x y) c];exact (O7 x y hx hy).mpr c
    ·rw [@aQ _ (a9H x y) c];cases q:aI x y with
     | false=>rfl
     | true=>exact absurd ((O7 x y hx hy).mp q) c
   rw [e];exact h
  quiet:=fun⟨hx,hd,_,r⟩ h=>a3P _ 8 hx (by lia) r h
 }
end VS
namespace VS
open PySem PySem.Spec L2
def O8(e:D × V × V)(x:dY):Prop:=x.hash=hashD e.1/\RelV e.2.1 x.key/\RelV e.2.2 x.val
def C1:List D->Bool
 | .tuple [.int 0,.int 0] :: _=>true
 | _=>false
abbrev D0(es:List (D × V × V)):Bool:=C1 (es.map (·.1))
def f8(a:av)(es:List (D × V × V)):HO:=.ext fun h=>(a == dF)=false/\es.length<=aS/\(es.map (·.1)).Nodup/\∃o ents ep,h.get? a=some o/\o.ExactDict/\o.data=.dict ents ep/\fq O8 es ents.toList/\(D0 es=false->ep=es.length)
def Mu:HO->Prop
 | .lst _=>True
 | .dK _=>True
 | .ext _=>True
 | _=>False
abbrev MuO:={o:HO // Mu o}
def keyOk(kt:Bool)(k:D):Prop:=C9 k=true/\k.depth<=7/\(kt=true->∃ds,k=.tuple ds)/\(kt=false->∃i,k=.int i)
end VS
namespace VS
open PySem L2
mutual
def imm:a_->Bool
 | .none=>true
 | .bool _=>true
 | .int _=>true
 | .str _=>true
 | .list _=>false
 | .tuple ds=>e6 ds
 | .dict _=>false
def e6:List a_->Bool
 | []=>true
 | d :: ds=>imm d && e6 ds
end
def SqX(K:af)(H:Hp)(a:av)(xs:List V):Prop:=
 Rd H a (.lst xs)∨∃(bU:List ai) (n:Nat),K.lookup a=some {cls:=.type "list",data:=.seq bU.toArray n}/\bU.length<=aS/\Vals xs bU
theorem SqX.l(h:SqX K H a xs):SqL K H a xs:=by
 rcases h with h|⟨bU,n,h1,h2,h3⟩
 ·exact .inl h
 ·exact .inr ⟨_,bU.toArray,n,h1,rfl,rfl,rfl,by simpa using h2,by simpa using h3⟩
theorem SqX.ok{X:Cx}(h:SqX X.K H a xs)(I:Inv X pins σ H s):xs.length<=aS/\∃(bU:List ai) (n:Nat),Vals xs bU/\s.heap.get? a=some {cls:=.type "list",data:=.seq bU.toArray n}:=by
 rcases h with h|⟨bU,n,h1,h2,h3⟩
 ·exact h.ok I.hok
 ·exact⟨by rw [h3.length];exact h2,bU,n,h3,I.kIn _ _ h1⟩
mutual
theorem T3:∀d:a_,C9 d=true->imm d=true
 | .int _,_=>by simp only [imm]
 | .tuple ds,h=>by
  simp only [C9] at h;simp only [imm];exact a1m ds h
 | .none,h|.bool _,h|.str _,h|.list _,h|.dict _,h=>by simp only [C9] at h;cases h
theorem a1m:∀ds:List a_,p5 ds=true->e6 ds=true
 | [],_=>by simp only [e6]
 | d :: ds,h=>by
  simp only [p5,az] at h;simp only [e6,az];exact⟨T3 d h.1,a1m ds h.2⟩
end
mutual
def Den(K:af)(H:Hp):V->a_->Prop
 | v,.none=>v=.non
 | v,.bool b=>v=.bl b
 | v,.int i=>v=.int i
 | v,.str x=>v=.str x
 | v,.list ds=>∃a xs,v=.ref a/\SqX K H a xs/\DenAll K H xs ds
 | v,.tuple ds=>∃a xs,v=.ref a/\SqT K H a xs/\DenAll K H xs ds
 | v,.dict kvs=>∃a es,v=.ref a/\H a=some (f8 a es)/\DenKV K H es kvs
def DenAll(K:af)(H:Hp):List V->List a_->Prop
 | xs,[]=>xs=[]
 | xs,d :: ds=>∃v r,xs=v :: r/\Den K H v d/\DenAll K H r ds
def DenKV(K:af)(H:Hp):List (a_ × V × V)->List (a_ × a_)->Prop
 | es,[]=>es=[]
 | es,(k,d) :: r=>∃e q,es=e :: q/\e.1=k/\Den K H e.2.1 k/\Den K H e.2.2 d/\DenKV K H q r
end
theorem Rd.up(h:Rd H a u)(e:Same H H'):Rd H' a u:=by
 rcases h with h|⟨o,h⟩
 ·exact .inl (e _ _ h)
 ·exact .inr ⟨o,e _ _ h⟩
theorem T4(h:SqX K H a xs)(e:Same H H'):SqX K H' a xs:=h.imp (fun q=>Rd.up q e) id
theorem a0J(h:SqT K H a xs)(e:Same H H'):SqT K H' a xs:=h.imp (fun q=>Rd.up q e) id
mutual
theorem Den.mono{K:af}{H H':Hp}(e:Same H H'):∀(d:a_) {v:V},Den K H v d->Den K H' v d
 | .none,_,h=>by simpa only [Den] using h
 | .bool _,_,h=>by simpa only [Den] using h
 | .int _,_,h=>by simpa only [Den] using h
 | .str _,_,h=>by simpa only [Den] using h
 | .list ds,_,h=>by
  simp only [Den] at h ⊢;obtain⟨a,xs,h1,h2,h3⟩:=h;exact⟨a,xs,h1,T4 h2 e,DenAll.mono e ds h3⟩
 | .tuple ds,_,h=>by
  simp only [Den] at h ⊢;obtain⟨a,xs,h1,h2,h3⟩:=h;exact⟨a,xs,h1,a0J h2 e,DenAll.mono e ds h3⟩
 | .dict kvs,_,h=>by
  simp only [Den] at h ⊢;obtain⟨a,es,h1,h2,h3⟩:=h;exact⟨a,es,h1,e _ _ h2,DenKV.mono e kvs h3⟩
theorem DenAll.mono{K:af}{H H':Hp}(e:Same H H'):∀(ds:List a_) {xs:List V},DenAll K H xs ds->DenAll K H' xs ds
 | [],_,h=>by simpa only [DenAll] using h
 | d :: ds,_,h=>by
  simp only [DenAll] at h ⊢;obtain⟨v,r,h1,h2,h3⟩:=h;exact⟨v,r,h1,Den.mono e d h2,DenAll.mono e ds h3⟩
theorem DenKV.mono(e:Same H H'):∀(kvs:List (a_ × a_)) {es:List (a_ × V × V)},DenKV K H es kvs->DenKV K H' es kvs
 | [],_,h=>by simpa only [DenKV] using h
 | (k,d) :: r,_,h=>by
  simp only [DenKV] at h ⊢;obtain⟨x,q,h1,h2,h3,h4,h5⟩:=h;exact⟨x,q,h1,h2,Den.mono e k h3,Den.mono e d h4,DenKV.mono e r h5⟩
end
section
variable {K:af}{H H':Hp}
theorem Den.up{d:a_}{v:V}(h:Den K H v d)(e:Same H H'):Den K H' v d:=Den.mono e d h
theorem DenAll.up{ds:List a_}{xs:List V}(h:DenAll K H xs ds)(e:Same H H'):DenAll K H' xs ds:=DenAll.mono e ds h
theorem den_none:Den K H .non .none:=by simp only [Den]
theorem den_bool{b:Bool}:Den K H (.bl b) (.bool b):=by simp only [Den]
theorem den_int{i:Int}:Den K H (.int i) (.int i):=by simp only [Den]
theorem den_list{a:av}{xs:List V}{ds:List a_}(h:SqX K H a xs)(q:DenAll K H xs ds):Den K H (.ref a) (.list ds):=by
 simp only [Den];exact⟨a,xs,rfl,h,q⟩
theorem den_tup{a:av}{xs:List V}{ds:List a_}(h:SqT K H a xs)(q:DenAll K H xs ds):Den K H (.ref a) (.tuple ds):=by
 simp only [Den];exact⟨a,xs,rfl,h,q⟩
theorem a5t:∀{es:List (a_ × V × V)} {ds:List a_},(∀e∈es,Den K H e.2.1 e.1)->DenAll K H (es.map (·.2.2)) ds->DenKV K H es ((es.map (·.1)).zip ds)
 | [],ds,_,h=>by
  cases ds with
  | nil=>simp only [cA,zQ,DenKV]
  | cons d ds=>simp only [DenAll] at h;obtain⟨v,r,h1,_⟩:=h;cases h1
 | e :: es,ds,hk,h=>by
  cases ds with
  | nil=>simp only [DenAll] at h;cases h
  | cons d ds=>
   simp only [DenAll] at h;obtain⟨v,r,h1,h2,h3⟩:=h;cases h1
   simp only [aA,ef,DenKV];exact⟨e,es,rfl,rfl,hk e ah,h2,a5t (fun e he=>hk e (ao _ he)) h3⟩
theorem a3R(h:H a=some (f8 a es))(hk:∀e∈es,Den K H e.2.1 e.1)(hv:DenAll K H (es.map (·.2.2)) ds):Den K H (.ref a) (.dict ((es.map (·.1)).zip ds)):=by
 simp only [Den];exact⟨a,es,rfl,h,a5t hk hv⟩
theorem denAll_nil:DenAll K H [] []:=by simp only [DenAll]
theorem denAll_cons{v:V}{d:a_}{xs:List V}{ds:List a_}(h:Den K H v d)(q:DenAll K H xs ds):DenAll K H (v :: xs) (d :: ds):=by
 simp only [DenAll];exact⟨v,xs,rfl,h,q⟩
theorem Den.list_inv{v:V}{ds:List a_}(h:Den K H v (.list ds)):∃a xs,v=.ref a/\SqX K H a xs/\DenAll K H xs ds:=by simpa only [Den] using h
theorem Den.tup_inv{v:V}{ds:List a_}(h:Den K H v (.tuple ds)):∃a xs,v=.ref a/\SqT K H a xs/\DenAll K H xs ds:=by simpa only [Den] using h
theorem Den.dict_inv(h:Den K H v (.dict kvs)):∃a es,v=.ref a/\H a=some (f8 a es)/\DenKV K H es kvs:=by simpa only [Den] using h
theorem DenKV.keys:∀{kvs:List (a_ × a_)} {es:List (a_ × V × V)},DenKV K H es kvs->es.map (·.1)=kvs.map (·.1)
 | [],_,h=>by simp only [DenKV] at h;rw [h];rfl
 | (k,d) :: r,_,h=>by
  simp only [DenKV] at h;obtain⟨e,q,rfl,h1,_,_,h2⟩:=h;rw [aA,aA,DenKV.keys h2,h1]
theorem DenKV.vals:∀{kvs:List (a_ × a_)} {es:List (a_ × V × V)},DenKV K H es kvs->DenAll K H (es.map (·.2.2)) (kvs.map (·.2))
 | [],_,h=>by simp only [DenKV] at h;rw [h];simp only [cA,DenAll]
 | (k,d) :: r,_,h=>by
  simp only [DenKV] at h;obtain⟨e,q,rfl,_,_,h1,h2⟩:=h;simp only [aA,DenAll];exact⟨_,_,rfl,h1,DenKV.vals h2⟩
theorem DenKV.kden:∀{kvs:List (a_ × a_)} {es:List (a_ × V × V)},DenKV K H es kvs->∀e∈es,Den K H e.2.1 e.1
 | [],_,h,e,he=>by simp only [DenKV] at h;rw [h] at he;cases he
 | (k,d) :: r,_,h,e,he=>by
  simp only [DenKV] at h;obtain⟨e0,q,rfl,h0,h1,_,h2⟩:=h;rcases aH.mp he with z|z
  ·subst z;rw [h0];exact h1
  ·exact DenKV.kden h2 e z
theorem Den.int_inv{v:V}{i:Int}(h:Den K H v (.int i)):v=.int i:=by simpa only [Den] using h
theorem Den.bool_inv(h:Den K H v (.bool b)):v=.bl b:=by simpa only [Den] using h
theorem Den.none_inv(h:Den K H v .none):v=.non:=by simpa only [Den] using h
theorem Den.str_inv(h:Den K H v (.str x)):v=.str x:=by simpa only [Den] using h
theorem DenAll.cons_inv{xs:List V}{d:a_}{ds:List a_}(h:DenAll K H xs (d :: ds)):∃v r,xs=v :: r/\Den K H v d/\DenAll K H r ds:=by simpa only [DenAll] using h
theorem DenAll.nil_inv{xs:List V}(h:DenAll K H xs []):xs=[]:=by simpa only [DenAll] using h
theorem DenAll.length:∀{ds:List a_} {xs:List V},DenAll K H xs ds->xs.length=ds.length
 | [],_,h=>by rw [h.nil_inv];rfl
 | d :: ds,_,h=>by
  obtain⟨v,r,rfl,_,h⟩:=h.cons_inv;rw [ba,ba,DenAll.length h]
theorem DenAll.get:∀{ds:List a_} {xs:List V} {i:Nat} {d:a_},DenAll K H xs ds->ds[i]?=some d->∃v,xs[i]?=some v/\Den K H v d
 | [],_,i,d,_,e=>by simp at e
 | d0 :: ds,_,0,d,h,e=>by
  obtain⟨v,r,rfl,h1,_⟩:=h.cons_inv;have:d0=d:=by simpa using e
  subst this;exact⟨v,rfl,h1⟩
 | d0 :: ds,_,i + 1,d,h,e=>by
  obtain⟨v,r,rfl,_,h1⟩:=h.cons_inv;obtain⟨u,h2,h3⟩:=DenAll.get (i:=i) h1 (by simpa using e);exact⟨u,by simpa using h2,h3⟩
theorem DenAll.getV{ds:List a_}{xs:List V}{i:Nat}{v:V}(h:DenAll K H xs ds)(e:xs[i]?=some v):∃d,ds[i]?=some d/\Den K H v d:=by
 have hi:=(aY.mp e).1;rw [h.length] at hi;obtain⟨u,h1,h2⟩:=h.get (aB hi);rw [e] at h1;cases h1
 exact⟨_,aB hi,h2⟩
theorem DenAll.append:∀{ds:List a_} {xs:List V} {es:List a_} {ys:List V},DenAll K H xs ds->DenAll K H ys es->DenAll K H (xs ++ ys) (ds ++ es)
 | [],_,_,_,h,q=>by rw [h.nil_inv];exact q
 | d :: ds,_,_,_,h,q=>by
  obtain⟨v,r,rfl,h1,h2⟩:=h.cons_inv;exact denAll_cons h1 (DenAll.append h2 q)
theorem DenAll.take:∀{ds:List a_} {xs:List V} (n:Nat),DenAll K H xs ds->DenAll K H (xs.take n) (ds.take n)
 | _,_,0,_=>by rw [List.take_zero,List.take_zero];exact denAll_nil
 | [],_,n + 1,h=>by rw [h.nil_inv];exact denAll_nil
 | d :: ds,_,n + 1,h=>by
  obtain⟨v,r,rfl,h1,h2⟩:=h.cons_inv;exact denAll_cons h1 (DenAll.take n h2)
theorem DenAll.drop:∀{ds:List a_} {xs:List V} (n:Nat),DenAll K H xs ds->DenAll K H (xs.drop n) (ds.drop n)
 | _,_,0,h=>h
 | [],_,n + 1,h=>by rw [h.nil_inv];exact denAll_nil
 | d :: ds,_,n + 1,h=>by
  obtain⟨v,r,rfl,_,h2⟩:=h.cons_inv;exact DenAll.drop n h2
theorem DenAll.ints:∀(ns:List Int),DenAll K H (ns.map V.int) (ns.map bt)
 | []=>denAll_nil
 | n :: ns=>denAll_cons den_int (DenAll.ints ns)
end
def cut(H:Hp)(F:List av):Hp:=fun a=>if a∈F then none else H a
section
variable {H H':Hp}{F F':List av}{a:av}{o:HO}
theorem V3(h:a∉F):cut H F a=H a:=by unfold cut;rw [aO h]
theorem T5(h:a∈F):cut H F a=none:=by unfold cut;rw [aE h]
theorem n0(h:cut H F a=some o):a∉F/\H a=some o:=by
 by_cases q:a∈F
 ·rw [T5 q] at h;cases h
 ·rw [V3 q] at h;exact⟨q,h⟩
theorem i7(h1:a∉F)(h2:H a=some o):cut H F a=some o:=by rw [V3 h1];exact h2
theorem i4:Same (cut H F) H:=fun _ _ h=>(n0 h).2
theorem G5(e:Same H H')(hF:∀a o,H a=some o->a∈F'->a∈F):Same (cut H F) (cut H' F'):=fun a o h=>by
 obtain⟨h1,h2⟩:=n0 h;exact i7 (fun q=>h1 (hF a o h2 q)) (e _ _ h2)
theorem K6(e:Same H H'):Same (cut H F) (cut H' F):=G5 e fun _ _ _ q=>q
theorem B3(hF:∀a,a∈F'->a∈F):Same (cut H F) (cut H F'):=G5 (Same.refl H) fun a _ _ q=>hF a q
theorem F7:cut H []=H:=by
 funext a
 exact V3 (by simp)
end
inductive Ty where
 | i|f|l (t:Ty)|tp (ts:List Ty)|d (kt:Bool) (t:Ty)
mutual
def Ty.shut:Ty->Bool
 | .i=>true
 | .f=>false
 | .l u=>u.shut
 | .tp us=>Ty.shutAll us
 | .d _ u=>u.shut
def Ty.shutAll:List Ty->Bool
 | []=>true
 | u :: us=>u.shut && Ty.shutAll us
end
def ListAll(R:V->a_->List av->Prop):List V->List a_->List av->Prop
 | xs,[],fp=>xs=[]/\fp=[]
 | xs,d :: ds,fp=>∃v r f g,xs=v :: r/\fp=f ++ g/\R v d f/\ListAll R r ds g
mutual
def Own(K:af)(H:Hp)(F:List av):Ty->V->a_->List av->Prop
 | .i,v,d,fp=>fp=[]/\imm d=true/\Den K (cut H F) v d
 | .f,v,d,fp=>fp=[]/\Den K (cut H F) v d
 | .l u,v,d,fp=>(fp=[]/\imm d=true/\Den K (cut H F) v d)∨∃a xs ds fs,v=.ref a/\H a=some (.lst xs)/\d=.list ds/\fp=a :: fs/\ListAll (Own K H F u) xs ds fs
 | .tp us,v,d,fp=>∃a xs ds,v=.ref a/\H a=some (.tup xs)/\a∉F/\d=.tuple ds/\OwnTs K H F us xs ds fp
 | .d kt u,v,d,fp=>∃a es ds fs,v=.ref a/\H a=some (f8 a es)/\d=.dict ((es.map (·.1)).zip ds)/\fp=a :: fs/\((es.map (·.1)).Nodup/\∀e∈es,keyOk kt e.1/\Den K (cut H F) e.2.1 e.1)/\ListAll (Own K H F u) (es.map (·.2.2)) ds fs
def OwnTs(K:af)(H:Hp)(F:List av):List Ty->List V->List a_->List av->Prop
 | [],xs,ds,fp=>xs=[]/\ds=[]/\fp=[]
 | u :: us,xs,ds,fp=>∃v r d e f g,xs=v :: r/\ds=d :: e/\fp=f ++ g/\Own K H F u v d f/\OwnTs K H F us r e g
end
section
variable {R R':V->a_->List av->Prop}
theorem o8:ListAll R [] [] []:=by simp only [ListAll];exact⟨trivial,trivial⟩
theorem m7(h:R v d f)(q:ListAll R xs ds g):ListAll R (v :: xs) (d :: ds) (f ++ g):=by
 simp only [ListAll];exact⟨v,xs,f,g,rfl,rfl,h,q⟩
theorem ListAll.nil_inv(h:ListAll R xs [] fp):xs=[]/\fp=[]:=by simpa only [ListAll] using h
theorem ListAll.cons_inv(h:ListAll R xs (d :: ds) fp):∃v r f g,xs=v :: r/\fp=f ++ g/\R v d f/\ListAll R r ds g:=by simpa only [ListAll] using h
theorem ListAll.length:∀{ds:List a_} {xs:List V} {fp:List av},ListAll R xs ds fp->xs.length=ds.length
 | [],_,_,h=>by rw [h.nil_inv.1];rfl
 | d :: ds,_,_,h=>by
  obtain⟨v,r,f,g,rfl,_,_,h⟩:=h.cons_inv;rw [ba,ba,ListAll.length h]
theorem ListAll.imp:∀{ds:List a_} {xs:List V} {fp:List av},ListAll R xs ds fp->(∀v d f,(∀a∈f,a∈fp)->d∈ds->R v d f->R' v d f)->ListAll R' xs ds fp
 | [],_,_,h,_=>by obtain⟨rfl,rfl⟩:=h.nil_inv;exact o8
 | d :: ds,_,_,h,q=>by
  obtain⟨v,r,f,g,rfl,rfl,h1,h2⟩:=h.cons_inv;exact m7 (q v d f (fun a ha=>aq _ ha) ah h1) (ListAll.imp h2 fun v d f' hf hd hR=>q v d f' (fun a ha=>aj _ (hf a ha)) (ao _ hd) hR)
theorem ListAll.append:∀{ds es:List a_} {xs ys:List V} {fp gp:List av},ListAll R xs ds fp->ListAll R ys es gp->ListAll R (xs ++ ys) (ds ++ es) (fp ++ gp)
 | [],_,_,_,_,_,h,q=>by obtain⟨rfl,rfl⟩:=h.nil_inv;exact q
 | d :: ds,_,_,_,_,_,h,q=>by
  obtain⟨v,r,f,g,rfl,rfl,h1,h2⟩:=h.cons_inv;rw [aP];exact m7 h1 (ListAll.append h2 q)
theorem ListAll.at_:∀{ds:List a_} {xs:List V} {fp:List av} {k:Nat} {d:a_},ListAll R xs ds fp->ds[k]?=some d->
  ∃v f pre post,xs[k]?=some v/\R v d f/\fp=pre ++ (f ++ post)/\ListAll R (xs.take k) (ds.take k) pre/\ListAll R (xs.drop (k + 1)) (ds.drop (k + 1)) post
 | [],_,_,k,d,_,e=>by simp at e
 | d0 :: ds,_,_,0,d,h,e=>by
  obtain⟨v,r,f,g,rfl,rfl,h1,h2⟩:=h.cons_inv;have:d0=d:=by simpa using e
  subst this;exact⟨v,f,[],g,rfl,h1,rfl,o8,h2⟩
 | d0 :: ds,_,_,k + 1,d,h,e=>by
  obtain⟨v,r,f,g,rfl,rfl,h1,h2⟩:=h.cons_inv;obtain⟨u,f',pre,post,e1,e2,e3,e4,e5⟩:=ListAll.at_ (k:=k) h2 (by simpa using e);subst e3;exact⟨u,f',f ++ pre,post,by simpa using e1,e2,by rw [aP],m7 h1 e4,e5⟩
end
section
variable {K:af}{H H':Hp}{F F':List av}
theorem ListAll.den(hR:∀v d f,R v d f->Den K H v d):∀{ds:List a_} {xs:List V} {fp:List av},ListAll R xs ds fp->DenAll K H xs ds
 | [],_,_,h=>by rw [h.nil_inv.1];exact denAll_nil
 | d :: ds,_,_,h=>by
  obtain⟨v,r,f,g,rfl,_,h1,h2⟩:=h.cons_inv;exact denAll_cons (hR _ _ _ h1) (ListAll.den hR h2)
mutual
theorem Own.den:∀(u:Ty) {v:V} {d:a_} {fp:List av},Own K H F u v d fp->Den K H v d
 | .i,_,_,_,h=>by simp only [Own] at h;exact h.2.2.up i4
 | .f,_,_,_,h=>by simp only [Own] at h;exact h.2.up i4
 | .l u,_,_,_,h=>by
  simp only [Own] at h;rcases h with⟨_,_,h⟩|⟨a,xs,ds,fs,rfl,h1,rfl,_,h2⟩
  ·exact h.up i4
  ·exact den_list (.inl (.inl h1)) (ListAll.den (fun v d f q=>Own.den u q) h2)
 | .tp us,_,_,_,h=>by
  simp only [Own] at h;obtain⟨a,xs,ds,rfl,h1,_,rfl,h2⟩:=h;exact den_tup (SqT.of h1) (OwnTs.den us h2)
 | .d kt u,_,_,_,h=>by
  simp only [Own] at h;obtain⟨a,es,ds,fs,rfl,h1,rfl,_,h3,h2⟩:=h;exact a3R h1 (fun e he=>(h3.2 e he).2.up i4) (ListAll.den (fun v d f q=>Own.den u q) h2)
theorem OwnTs.den:∀(us:List Ty) {xs:List V} {ds:List a_} {fp:List av},OwnTs K H F us xs ds fp->DenAll K H xs ds
 | [],_,_,_,h=>by simp only [OwnTs] at h;obtain⟨rfl,rfl,_⟩:=h;exact denAll_nil
 | u :: us,_,_,_,h=>by
  simp only [OwnTs] at h;obtain⟨v,r,d,e,f,g,rfl,rfl,_,h1,h2⟩:=h;exact denAll_cons (Own.den u h1) (OwnTs.den us h2)
end
mutual
theorem Own.frame(e:Same (cut H F) (cut H' F')):∀(u:Ty) {v:V} {d:a_} {fp:List av},Own K H F u v d fp->(∀a∈fp,H' a=H a)->Own K H' F' u v d fp
 | .i,_,_,_,h,_=>by simp only [Own] at h ⊢;exact⟨h.1,h.2.1,h.2.2.up e⟩
 | .f,_,_,_,h,_=>by simp only [Own] at h ⊢;exact⟨h.1,h.2.up e⟩
 | .l u,_,_,_,h,k=>by
  simp only [Own] at h ⊢;rcases h with⟨h1,h2,h⟩|⟨a,xs,ds,fs,rfl,h1,rfl,rfl,h2⟩
  ·exact .inl ⟨h1,h2,h.up e⟩
  ·exact .inr ⟨a,xs,ds,fs,rfl,(k a ah).trans h1,rfl,rfl,h2.imp fun v d f hf _ q=>Own.frame e u q fun b hb=>k b (ao _ (hf b hb))⟩
 | .tp us,_,_,_,h,k=>by
  simp only [Own] at h ⊢;obtain⟨a,xs,ds,rfl,h1,h0,rfl,h2⟩:=h;obtain⟨h3,h4⟩:=n0 (e a _ (i7 h0 h1));exact⟨a,xs,ds,rfl,h4,h3,rfl,OwnTs.frame e us h2 k⟩
 | .d kt u,_,_,_,h,k=>by
  simp only [Own] at h ⊢;obtain⟨a,es,ds,fs,rfl,h1,rfl,rfl,h3,h2⟩:=h;exact⟨a,es,ds,fs,rfl,(k a ah).trans h1,rfl,rfl,⟨h3.1,fun x hx=>⟨(h3.2 x hx).1,(h3.2 x hx).2.up e⟩⟩,h2.imp fun v d f hf _ q=>Own.frame e u q fun b hb=>k b (ao _ (hf b hb))⟩
theorem OwnTs.frame(e:Same (cut H F) (cut H' F')):∀(us:List Ty) {xs:List V} {ds:List a_} {fp:List av},OwnTs K H F us xs ds fp->(∀a∈fp,H' a=H a)->OwnTs K H' F' us xs ds fp
 | [],_,_,_,h,_=>by simpa only [OwnTs] using h
 | u :: us,_,_,_,h,k=>by
  simp only [OwnTs] at h ⊢;obtain⟨v,r,d,e',f,g,rfl,rfl,rfl,h1,h2⟩:=h;exact⟨v,r,d,e',f,g,rfl,rfl,rfl,Own.frame e u h1 fun a ha=>k a (aq _ ha),OwnTs.frame e us h2 fun a ha=>k a (aj _ ha)⟩
end
theorem ListAll.lst{u:Ty}{R:V->a_->List av->Prop}(hR:∀v d f,R v d f->∀a∈f,∃ys:MuO,H a=some ys.1):∀{ds:List a_} {xs:List V} {fp:List av},ListAll R xs ds fp->∀a∈fp,∃ys:MuO,H a=some ys.1
 | [],_,_,h,a,ha=>by rw [h.nil_inv.2] at ha;cases ha
 | d :: ds,_,_,h,a,ha=>by
  obtain⟨v,r,f,g,rfl,rfl,h1,h2⟩:=h.cons_inv;rcases ay.mp ha with z|z
  ·exact hR _ _ _ h1 a z
  ·exact ListAll.lst (u:=u) hR h2 a z
mutual
theorem Own.lst:∀(u:Ty) {v:V} {d:a_} {fp:List av},Own K H F u v d fp->∀a∈fp,∃ys:MuO,H a=some ys.1
 | .i,_,_,_,h,a,ha=>by simp only [Own] at h;rw [h.1] at ha;cases ha
 | .f,_,_,_,h,a,ha=>by simp only [Own] at h;rw [h.1] at ha;cases ha
 | .l u,_,_,_,h,b,hb=>by
  simp only [Own] at h;rcases h with⟨h1,_⟩|⟨a,xs,ds,fs,rfl,h1,rfl,rfl,h2⟩
  ·rw [h1] at hb;cases hb
  ·rcases aH.mp hb with z|z
   ·subst z;exact⟨⟨.lst xs,trivial⟩,h1⟩
   ·exact ListAll.lst (u:=u) (fun v d f q=>Own.lst u q) h2 b z
 | .tp us,_,_,_,h,b,hb=>by
  simp only [Own] at h;obtain⟨a,xs,ds,rfl,h1,_,rfl,h2⟩:=h;exact OwnTs.lst us h2 b hb
 | .d kt u,_,_,_,h,b,hb=>by
  simp only [Own] at h;obtain⟨a,es,ds,fs,rfl,h1,rfl,rfl,h3,h2⟩:=h;rcases aH.mp hb with z|z
  ·subst z;exact⟨⟨f8 b es,trivial⟩,h1⟩
  ·exact ListAll.lst (u:=u) (fun v d f q=>Own.lst u q) h2 b z
theorem OwnTs.lst:∀(us:List Ty) {xs:List V} {ds:List a_} {fp:List av},OwnTs K H F us xs ds fp->∀a∈fp,∃ys:MuO,H a=some ys.1
 | [],_,_,_,h,a,ha=>by simp only [OwnTs] at h;rw [h.2.2] at ha;cases ha
 | u :: us,_,_,_,h,b,hb=>by
  simp only [OwnTs] at h;obtain⟨v,r,d,e,f,g,rfl,rfl,rfl,h1,h2⟩:=h;rcases ay.mp hb with z|z
  ·exact Own.lst u h1 b z
  ·exact OwnTs.lst us h2 b z
end
theorem b3Z(h:SqT K H a xs)(hF:∀a∈F,∃ys:MuO,H a=some ys.1):SqT K (cut H F) a xs:=by
 rcases h with (h|⟨o,h⟩)|h
 ·refine .inl (.inl (i7 (fun q=>?_) h));obtain⟨⟨ys,my⟩,e⟩:=hF a q;rw [h] at e;have e':=aD e;rw [show ys=_ from e'.symm] at my;exact my
 ·refine .inl (.inr ⟨o,i7 (fun q=>?_) h⟩);obtain⟨⟨ys,my⟩,e⟩:=hF a q;rw [h] at e;have e':=aD e;rw [show ys=_ from e'.symm] at my;exact my
 ·exact .inr h
mutual
theorem Den.imm_out(hF:∀a∈F,∃ys:MuO,H a=some ys.1):∀(d:a_) {v:V},imm d=true->Den K H v d->Den K (cut H F) v d
 | .none,_,_,h=>by simpa only [Den] using h
 | .bool _,_,_,h=>by simpa only [Den] using h
 | .int _,_,_,h=>by simpa only [Den] using h
 | .str _,_,_,h=>by simpa only [Den] using h
 | .list ds,_,q,_=>by simp only [imm] at q;cases q
 | .tuple ds,_,q,h=>by
  simp only [imm] at q;obtain⟨a,xs,rfl,h1,h2⟩:=h.tup_inv;exact den_tup (b3Z h1 hF) (DenAll.imm_out hF ds q h2)
 | .dict _,_,q,_=>by simp only [imm] at q;cases q
theorem DenAll.imm_out(hF:∀a∈F,∃ys:MuO,H a=some ys.1):∀(ds:List a_) {xs:List V},e6 ds=true->DenAll K H xs ds->DenAll K (cut H F) xs ds
 | [],_,_,h=>by simpa only [DenAll] using h
 | d :: ds,_,q,h=>by
  simp only [e6,az] at q;obtain⟨v,r,rfl,h1,h2⟩:=h.cons_inv;exact denAll_cons (Den.imm_out hF d q.1 h1) (DenAll.imm_out hF ds q.2 h2)
end
mutual
theorem Own.shut_out(hF:∀a∈F',∃ys:MuO,H a=some ys.1):∀(u:Ty) {v:V} {d:a_} {fp:List av},u.shut=true->Own K H F u v d fp->Own K H F' u v d fp
 | .i,_,_,_,_,h=>by simp only [Own] at h ⊢;exact⟨h.1,h.2.1,(h.2.2.up i4).imm_out hF _ h.2.1⟩
 | .f,_,_,_,q,h=>by simp only [Ty.shut] at q;cases q
 | .l u,_,_,_,q,h=>by
  simp only [Ty.shut] at q;simp only [Own] at h ⊢;rcases h with⟨h1,h2,h⟩|⟨a,xs,ds,fs,rfl,h1,rfl,rfl,h2⟩
  ·exact .inl ⟨h1,h2,(h.up i4).imm_out hF _ h2⟩
  ·exact .inr ⟨a,xs,ds,fs,rfl,h1,rfl,rfl,h2.imp fun v d f _ _ z=>Own.shut_out hF u q z⟩
 | .tp us,_,_,_,q,h=>by
  simp only [Ty.shut] at q;simp only [Own] at h ⊢;obtain⟨a,xs,ds,rfl,h1,h0,rfl,h2⟩:=h;refine⟨a,xs,ds,rfl,h1,fun z=>?_,rfl,OwnTs.shut_out hF us q h2⟩;obtain⟨⟨ys,my⟩,e⟩:=hF a z;rw [h1] at e;have e':=aD e;rw [show ys=_ from e'.symm] at my;exact my
 | .d kt u,_,_,_,q,h=>by
  simp only [Ty.shut] at q;simp only [Own] at h ⊢;obtain⟨a,es,ds,fs,rfl,h1,rfl,rfl,h3,h2⟩:=h;exact⟨a,es,ds,fs,rfl,h1,rfl,rfl,⟨h3.1,fun x hx=>⟨(h3.2 x hx).1,((h3.2 x hx).2.up i4).imm_out hF _ (T3 _ (h3.2 x hx).1.1)⟩⟩,h2.imp fun v d f _ _ z=>Own.shut_out hF u q z⟩
theorem OwnTs.shut_out(hF:∀a∈F',∃ys:MuO,H a=some ys.1):∀(us:List Ty) {xs:List V} {ds:List a_} {fp:List av},Ty.shutAll us=true->OwnTs K H F us xs ds fp->OwnTs K H F' us xs ds fp
 | [],_,_,_,_,h=>by simpa only [OwnTs] using h
 | u :: us,_,_,_,q,h=>by
  simp only [Ty.shutAll,az] at q;simp only [OwnTs] at h ⊢;obtain⟨v,r,d,e,f,g,rfl,rfl,rfl,h1,h2⟩:=h;exact⟨v,r,d,e,f,g,rfl,rfl,rfl,Own.shut_out hF u q.1 h1,OwnTs.shut_out hF us q.2 h2⟩
end
end
end VS
namespace VS
open PySem PySem.Spec L2
open SeqAt in
theorem items_eqAt{A:bx}{s:ak}{us ws:Array ai}(ra:iU s.heap us.toList xs as)(rb:iU s.heap ws.toList ys bs)(ha:bg xs=true)(hb:bg ys=true)
  (hu:A.in1.units + min (bQ xs) (bQ ys) < cH):∀(k:Nat) (k1:k < us.size) (k2:k < ws.size),EqAt A.in1 s us[k] ws[k] (pairEq xs ys k):=fun k k1 k2=>
 eqAt_readsAll xs ys A.in1 s us.toList ws.toList as bs ra rb ha hb hu k k1 k2
open SeqAt in
theorem a7e{A:bx}{s:ak}(ra:Reads s.heap a da as)(rb:Reads s.heap b db bs)(ha:da.canLay0=true)(hb:db.canLay0=true)
  (hu:A.units + min da.depth db.depth < cH):RcNeAt A s a b (!aI da db):=by
 have u0:=room_here hu;cases ra with
 | dict=>exact nomatch ha
 | none=>cases rb with
  | dict=>exact nomatch hb
  | none=>exact RcNeAt.none_none
  | bool y=>exact RcNeAt.none_bool y
  | int y v=>exact RcNeAt.none_int y v
  | str y v=>exact RcNeAt.none_str y v
  | list c1 c2 c3 c4=>exact RcNeAt.none_list ⟨_,c1,c2,_,c3⟩ u0
  | tuple c1 c2 c3 c4=>exact RcNeAt.none_tuple ⟨_,c1,c2,_,c3⟩ u0
 | bool x=>cases rb with
  | dict=>exact nomatch hb
  | none=>exact RcNeAt.bool_none x
  | bool y=>exact RcNeAt.bool_bool x y
  | int y v=>exact RcNeAt.bool_int x y v
  | str y v=>exact RcNeAt.bool_str x y v
  | list c1 c2 c3 c4=>exact RcNeAt.bool_list x ⟨_,c1,c2,_,c3⟩ u0
  | tuple c1 c2 c3 c4=>exact RcNeAt.bool_tuple x ⟨_,c1,c2,_,c3⟩ u0
 | int x t=>cases rb with
  | dict=>exact nomatch hb
  | none=>exact RcNeAt.int_none x t
  | bool y=>exact RcNeAt.int_bool x t y
  | int y v=>exact RcNeAt.int_int x t y v
  | str y v=>exact RcNeAt.int_str x t y v
  | list c1 c2 c3 c4=>exact RcNeAt.int_list x t ⟨_,c1,c2,_,c3⟩ u0
  | tuple c1 c2 c3 c4=>exact RcNeAt.int_tuple x t ⟨_,c1,c2,_,c3⟩ u0
 | str x t=>cases rb with
  | dict=>exact nomatch hb
  | none=>exact RcNeAt.str_none x t
  | bool y=>exact RcNeAt.str_bool x t y
  | int y v=>exact RcNeAt.str_int x t y v
  | str y v=>exact RcNeAt.str_str x t y v
  | list c1 c2 c3 c4=>exact RcNeAt.str_list x t ⟨_,c1,c2,_,c3⟩ u0
  | tuple c1 c2 c3 c4=>exact RcNeAt.str_tuple x t ⟨_,c1,c2,_,c3⟩ u0
 | @list la oa us na xs fa c1 c2 c3 c4=>
  have sa:s.heap.IsList la us:=⟨oa,c1,c2,na,c3⟩;cases rb with
  | dict=>exact nomatch hb
  | none=>exact RcNeAt.list_none sa u0
  | bool y=>exact RcNeAt.list_bool y sa u0
  | int y v=>exact RcNeAt.list_int y v sa u0
  | str y v=>exact RcNeAt.list_str y v sa u0
  | tuple e1 e2 e3 e4=>exact RcNeAt.list_tuple sa ⟨_,e1,e2,_,e3⟩ u0
  | @list lb ob ws nb ys fb e1 e2 e3 e4=>
   have sb:s.heap.IsList lb ws:=⟨ob,e1,e2,nb,e3⟩;have z1:us.size=xs.length:=by simpa using eZ xs _ _ c4
   have z2:ws.size=ys.length:=by simpa using eZ ys _ _ e4
   have pr:=items_eqAt c4 e4 ha hb (Dz hu);show RcNeAt A s (.ref la) (.ref lb) (!cq xs ys);by_cases z:us.size=ws.size
   ·rw [<-eqvAll_same_length (show xs.length=ys.length by lia),<-z1];exact RcNeAt.lists sa sb z u0 pr
   ·rw [eqvAll_other_length (show xs.length≠ys.length by lia)];exact RcNeAt.lists_lengths sa sb (bne_iff_ne.mpr z) u0
 | @tuple la oa us na xs fa c1 c2 c3 c4=>
  have sa:s.heap.IsTuple la us:=⟨oa,c1,c2,na,c3⟩;cases rb with
  | dict=>exact nomatch hb
  | none=>exact RcNeAt.tuple_none sa u0
  | bool y=>exact RcNeAt.tuple_bool y sa u0
  | int y v=>exact RcNeAt.tuple_int y v sa u0
  | str y v=>exact RcNeAt.tuple_str y v sa u0
  | list e1 e2 e3 e4=>exact RcNeAt.tuple_list sa ⟨_,e1,e2,_,e3⟩ u0
  | @tuple lb ob ws nb ys fb e1 e2 e3 e4=>
   have sb:s.heap.IsTuple lb ws:=⟨ob,e1,e2,nb,e3⟩;have z1:us.size=xs.length:=by simpa using eZ xs _ _ c4
   have z2:ws.size=ys.length:=by simpa using eZ ys _ _ e4
   have pr:=items_eqAt c4 e4 ha hb (Dz hu);show RcNeAt A s (.ref la) (.ref lb) (!cq xs ys);rw [<-eqvAll_eq xs ys,<-z1,<-z2];exact RcNeAt.tuples sa sb u0 pr
mutual
theorem Den.reads{X:Cx}{pins:List (av × eD)}{σ:St}{H:Hp}{s:ak}(I:Inv X pins σ H s):∀(d:a_) {v:V} {u:ai},d.canLay0=true->Den X.K H v d->RelV v u->∃as,Reads s.heap u d as
 | .none,v,u,_,q,r=>by
  cases q.none_inv
  cases (show u=cD from r)
  exact⟨_,.none⟩
 | .bool b,v,u,_,q,r=>by
  cases q.bool_inv
  cases (show u=iM b from r)
  exact⟨_,.bool b⟩
 | .int i,v,u,_,q,r=>by
  cases q.int_inv
  obtain⟨t,rfl⟩:=r;exact⟨_,.int i t⟩
 | .str x,v,u,_,q,r=>by
  cases q.str_inv
  obtain⟨t,rfl⟩:=r;exact⟨_,.str x t⟩
 | .list ds,v,u,hl,q,r=>by
  obtain⟨a,xs,rfl,h1,h2⟩:=q.list_inv;cases (show u=be a from r)
  obtain⟨z,bU,n,rv,e⟩:=h1.ok I;obtain⟨as,ra⟩:=DenAll.reads I ds hl h2 rv;exact⟨_,.list e rfl rfl (by simpa using ra)⟩
 | .tuple ds,v,u,hl,q,r=>by
  obtain⟨a,xs,rfl,h1,h2⟩:=q.tup_inv;cases (show u=be a from r)
  obtain⟨bU,rv,⟨o,e,c,n,d⟩,_⟩:=I.tuple h1;obtain⟨as,ra⟩:=DenAll.reads I ds hl h2 rv;exact⟨_,.tuple e c d (by simpa using ra)⟩
 | .dict _,_,_,hl,_,_=>nomatch hl
theorem DenAll.reads{X:Cx}{pins:List (av × eD)}{σ:St}{H:Hp}{s:ak}(I:Inv X pins σ H s):∀(ds:List a_) {xs:List V} {us:List ai},bg ds=true->DenAll X.K H xs ds->Vals xs us->∃as,iU s.heap us ds as
 | [],xs,us,_,q,r=>by
  cases q.nil_inv
  cases r
  exact⟨_,.nil⟩
 | d :: ds,xs,us,hl,q,r=>by
  have qD:d.canLay0=true/\bg ds=true:=by simpa [bg] using hl
  obtain⟨v,rs,rfl,h1,h2⟩:=q.cons_inv;cases r with
  | cons r1 r2=>
   obtain⟨as,ra⟩:=Den.reads I d qD.1 h1 r1;obtain⟨bs,rb⟩:=DenAll.reads I ds qD.2 h2 r2;exact⟨_,.cons ra rb⟩
end
def OpS(X:Cx)(f:ai->ai->Sem ai)(g:D->D->Option D):Prop:=
 ∃r,OpR X f r/\∀(x y:V) (H:Hp) (a b d:D) (Q:VK),Den X.K H x a->Den X.K H y b->g a b=some d->(∀v,imm d=true->(∀H',Den X.K H' v d)->Q v H)->r x y H Q
def a8w(X:Cx)(f:ai)(g:List D->Option D):Prop:=
 ∃r,CallR X f r/\∀(xs:List V) (H:Hp) (ds:List D) (d:D) (Q:VK),DenAll X.K H xs ds->g ds=some d->(∀v,imm d=true->(∀H',Den X.K H' v d)->Q v H)->r xs H Q
def d2I(p:Int->Int->Bool)(g:Int->Int->D):D->D->Option D
 | .int a,.int b=>if p a b then some (g a b) else none
 | _,_=>none
theorem a2j(h:d2I p g a b=some d):∃i j,a=.int i/\b=.int j/\p i j=true/\d=g i j:=by
 cases a with
 | int i=>
  cases b with
  | int j=>
   have h':(if p i j=true then some (g i j) else none)=some d:=h;by_cases c:p i j=true
   ·rw [aE c] at h';exact⟨i,j,rfl,rfl,c,(aD h').symm⟩
   ·rw [aO c] at h';cases h'
  | _=>cases h
 | _=>cases h
def pT:Int->Int->Bool:=fun _ _=>true
abbrev n5:D->D->Option D:=d2I pT fun a b=>.int (a + b)
abbrev x9:D->D->Option D:=d2I pT fun a b=>.int (a - b)
def a9I(a b:Int):Bool:=decide (a.natAbs < 2 ^ 64) || decide (b.natAbs < 2 ^ 64)
abbrev A3:D->D->Option D:=d2I a9I fun a b=>.int (a * b)
def b6F(_ b:Int):Bool:=decide (0 < b)
abbrev n4:D->D->Option D:=d2I b6F fun a b=>.int (a % b)
def b4a(_ b:Int):Bool:=decide (0 < b) && decide (b < 1073741824)
abbrev C2:D->D->Option D:=d2I b4a fun a b=>.int (a / b)
def b4b(a b:Int):Bool:=decide (0<=b) && decide (b<=1000000) && decide (a.natAbs < 2 ^ 64)
abbrev X2:D->D->Option D:=d2I b4b fun a b=>.int (a ^ b.toNat)
abbrev dLt:D->D->Option D:=d2I pT fun a b=>.bool (decide (a < b))
abbrev dLe:D->D->Option D:=d2I pT fun a b=>.bool (decide (a<=b))
abbrev dGt:D->D->Option D:=d2I pT fun a b=>.bool (decide (b < a))
abbrev dGe:D->D->Option D:=d2I pT fun a b=>.bool (decide (b<=a))
def a9J(neg:Bool)(a b:D):Option D:=if a.canLay0 && b.canLay0 && decide (a.depth<=60) then some (.bool (neg != aI a b)) else none
abbrev dEq:D->D->Option D:=a9J false
abbrev dNe:D->D->Option D:=a9J true
def isN:D->Bool
 | .none=>true
 | _=>false
def O9(neg:Bool)(a b:D):Option D:=if isN b then some (.bool (neg != isN a)) else none
def c1c(neg:Bool):D->D->Option D
 | .bool a,.bool b=>some (.bool (neg != (a == b)))
 | _,_=>none
section
variable {X:Cx}
theorem b4c{f:ai->ai->Sem ai}{C:Int->Int->Prop}{p:Int->Int->Bool}{g:Int->Int->Int}(ho:OpR X f (rI C fun i j=>.int (g i j)))(hp:∀i j,p i j=true->C i j):OpS X f (d2I p fun a b=>.int (g a b)):=by
 refine⟨_,ho,fun x y H a b d Q ha hb hg q=>?_⟩;obtain⟨i,j,rfl,rfl,c,rfl⟩:=a2j hg;exact⟨i,j,ha.int_inv,hb.int_inv,hp i j c,q _ (by simp only [imm]) fun _=>den_int⟩
theorem b5A{f:ai->ai->Sem ai}{g:Int->Int->Int}(ho:OpR X f (rI0 fun i j=>.int (g i j))):OpS X f (d2I pT fun a b=>.int (g a b)):=by
 refine⟨_,ho,fun x y H a b d Q ha hb hg q=>?_⟩;obtain⟨i,j,rfl,rfl,c,rfl⟩:=a2j hg;exact⟨i,j,ha.int_inv,hb.int_inv,q _ (by simp only [imm]) fun _=>den_int⟩
theorem b1s{f:ai->ai->Sem ai}{g:Int->Int->Bool}(ho:OpR X f (rI0 fun i j=>.bl (g i j))):OpS X f (d2I pT fun a b=>.bool (g a b)):=by
 refine⟨_,ho,fun x y H a b d Q ha hb hg q=>?_⟩;obtain⟨i,j,rfl,rfl,c,rfl⟩:=a2j hg;exact⟨i,j,ha.int_inv,hb.int_inv,q _ (by simp only [imm]) fun _=>den_bool⟩
theorem o5:OpS X (fg .Add) n5:=b5A b6s
theorem Y4:OpS X (fg .Sub) x9:=b5A b6t
theorem D1:OpS X (fg .Mult) A3:=b4c b6u fun i j h=>by
 unfold a9I at h;rw [nI] at h;rcases h with h|h
 ·have:=bC h;exact .inl ⟨by lia,by lia⟩
 ·have:=bC h;exact .inr ⟨by lia,by lia⟩
theorem l0:OpS X (fg .Mod) n4:=b4c b6v fun i j h=>bC h
theorem E6:OpS X (fg .FloorDiv) C2:=b4c b3L fun i j h=>by
 unfold b4a at h;rw [az] at h;exact⟨bC h.1,bC h.2⟩
theorem a7f:OpS X (fg .Pow) X2:=b4c b6w fun i j h=>by
 unfold b4b at h;rw [az,az] at h;exact⟨bC h.1.1,bC h.1.2,bC h.2⟩
theorem a2k:OpS X (bp .Lt) dLt:=b1s b8Z
theorem a5u:OpS X (bp .LtE) dLe:=b1s b9a
theorem a5v:OpS X (bp .Gt) dGt:=b1s b9b
def b6G(K:af)(neg:Bool):R2:=fun x y H Q=>∃d e,Den K H x d/\Den K H y e/\d.canLay0=true/\e.canLay0=true/\d.depth<=60/\Q (.bl (neg != aI d e)) H
theorem b1t(hu:X.A.units + 64 < cH):OpR X (bp .Eq) (b6G X.K false):=by
 intro pins s σ H x y v u Q I rx ry h;obtain⟨d,e,h1,h2,c1,c2,hd,q⟩:=h;obtain⟨as,ra⟩:=Den.reads I d c1 h1 rx;obtain⟨bs,rb⟩:=Den.reads I e c2 h2 ry;refine SeqAt.compareEq_reads ra rb c1 c2 (by have:=iB d.depth e.depth;lia) ?_;exact⟨.bl _,H,I,rfl,by simpa using q⟩
theorem b1u(hu:X.A.units + 64 < cH):OpR X (bp .NotEq) (b6G X.K true):=by
 intro pins s σ H x y v u Q I rx ry h;obtain⟨d,e,h1,h2,c1,c2,hd,q⟩:=h;obtain⟨as,ra⟩:=Den.reads I d c1 h1 rx;obtain⟨bs,rb⟩:=Den.reads I e c2 h2 ry;refine a7e ra rb c1 c2 (by have:=iB d.depth e.depth;lia) _ _ _ _ ?_;exact⟨.bl _,H,I,rfl,by simpa using q⟩
theorem b1v(ho:OpR X f (b6G X.K neg)):OpS X f (a9J neg):=by
 refine⟨_,ho,fun x y H a b d Q ha hb hg q=>?_⟩;unfold a9J at hg;by_cases c:(a.canLay0 && b.canLay0 && decide (a.depth<=60))=true
 ·rw [aE c] at hg;cases hg
  rw [az,az] at c;exact⟨a,b,ha,hb,c.1.1,c.1.2,bC c.2,q _ (by simp only [imm]) fun _=>den_bool⟩
 ·rw [aO c] at hg;cases hg
theorem os_eq(hu:X.A.units + 64 < cH):OpS X (bp .Eq) dEq:=b1v (b1t hu)
theorem b9i(hu:X.A.units + 64 < cH):OpS X (bp .NotEq) dNe:=b1v (b1u hu)
theorem a4K(h:Den K H x a):decide (x=V.non)=isN a:=by
 cases a with
 | none=>rw [h.none_inv];rfl
 | bool b=>rw [h.bool_inv];rfl
 | int b=>rw [h.int_inv];rfl
 | str b=>rw [h.str_inv];rfl
 | list ds=>obtain⟨a,xs,rfl,_⟩:=h.list_inv;rfl
 | tuple ds=>obtain⟨a,xs,rfl,_⟩:=h.tup_inv;rfl
 | dict kvs=>
  obtain⟨a,es,rfl,_⟩:=h.dict_inv;rfl
theorem a0K:OpS X (bp .Is) (O9 false):=by
 refine⟨_,b6x,fun x y H a b d Q ha hb hg q=>?_⟩;unfold O9 at hg;by_cases c:isN b=true
 ·rw [aE c] at hg;cases hg
  have e:=a4K hb;rw [c] at e;refine⟨bC e,?_⟩;rw [a4K ha];have:=q (.bl (false != isN a)) (by simp only [imm]) fun _=>den_bool
  simpa using this
 ·rw [aO c] at hg;cases hg
theorem a1Q:OpS X (bp .IsNot) (O9 true):=by
 refine⟨_,b3M,fun x y H a b d Q ha hb hg q=>?_⟩;unfold O9 at hg;by_cases c:isN b=true
 ·rw [aE c] at hg;cases hg
  have e:=a4K hb;rw [c] at e;refine⟨bC e,?_⟩;rw [a4K ha];have:=q (.bl (true != isN a)) (by simp only [imm]) fun _=>den_bool
  simpa using this
 ·rw [aO c] at hg;cases hg
end
end VS
namespace VS
open PySem PySem.Spec L2
inductive Md where
 | dead|own (u:Ty)|exc|keys (kt:Bool)|pin (v:V)|fn (Φ:Hp->V->Prop)
def ExcAt(a C:av):HO:=.ext fun h=>∃o,h.get? a=some o/\o.cls=.ref C
def SlotR(K:af)(H:Hp)(F:List av)(m:Md)(o:Option V)(d:D)(f:List av):Prop:=
 match m with
 | .dead=>f=[]
 | .own u=>∃v,o=some v/\Own K H F u v d f
 | .exc=>f=[]/\∃v,o=some v/\((v=.non/\d=.none)∨∃a C n,v=.ref a/\d=.str n/\cut H F a=some (ExcAt a C)/\bH K aV n=some (some (.ref C)))
 | .keys kt=>f=[]/\∃a es kvs,o=some (.ref a)/\d=.dict kvs/\cut H F a=some (f8 a es)/\es.map (·.1)=kvs.map (·.1)/\∀e∈es,keyOk kt e.1/\Den K (cut H F) e.2.1 e.1
 | .pin v=>f=[]/\o=some v
 | .fn Φ=>f=[]/\∃v,o=some v/\∀H',Same (cut H F) H'->Φ H' v
def StAll(K:af)(H:Hp)(F:List av):List Md->List D->L2.St->List av->Prop
 | [],Z,σ,fp=>Z=[]/\σ=[]/\fp=[]
 | m :: M,Z,σ,fp=>∃d Z' o σ' f g,Z=d :: Z'/\σ=o :: σ'/\fp=f ++ g/\SlotR K H F m o d f/\StAll K H F M Z' σ' g
section
variable {K:af}{H H':Hp}{F F':List av}
theorem SlotR.frame(h:SlotR K H F m o d f)(e:Same (cut H F) (cut H' F'))(k:∀a∈f,H' a=H a):SlotR K H' F' m o d f:=by
 cases m with
 | dead=>exact h
 | own u=>
  obtain⟨v,rfl,h⟩:=h;exact⟨v,rfl,h.frame e u k⟩
 | exc=>
  obtain⟨h0,v,h1,h2⟩:=h;refine⟨h0,v,h1,h2.imp (fun z=>z) fun⟨a,C,n,z1,z2,z3,z4⟩=>⟨a,C,n,z1,z2,e _ _ z3,z4⟩⟩
 | keys kt=>
  obtain⟨h0,a,es,kvs,h1,h2,h3,h4,h5⟩:=h;exact⟨h0,a,es,kvs,h1,h2,e _ _ h3,h4,fun x hx=>⟨(h5 x hx).1,(h5 x hx).2.up e⟩⟩
 | pin v=>exact h
 | fn Φ=>obtain⟨h0,v,h1,h2⟩:=h;exact⟨h0,v,h1,fun H2 e2=>h2 H2 (e.trans e2)⟩
theorem j8{Z:List D}(h:SlotR K H F m o d f)(q:StAll K H F M Z σ g):StAll K H F (m :: M) (d :: Z) (o :: σ) (f ++ g):=by
 simp only [StAll];exact⟨d,Z,o,σ,f,g,rfl,rfl,rfl,h,q⟩
theorem K2:StAll K H F [] [] [] []:=by simp only [StAll];exact⟨trivial,trivial,trivial⟩
theorem StAll.frame:∀{M:List Md} {Z:List D} {σ:L2.St} {fp:List av},StAll K H F M Z σ fp->Same (cut H F) (cut H' F')->(∀a∈fp,H' a=H a)->StAll K H' F' M Z σ fp
 | [],_,_,_,h,_,_=>by simpa only [StAll] using h
 | m :: M,_,_,_,h,e,k=>by
  simp only [StAll] at h;obtain⟨d,Z,o,σ,f,g,rfl,rfl,rfl,h1,h2⟩:=h;exact j8 (h1.frame e fun a ha=>k a (aq _ ha)) (StAll.frame h2 e fun a ha=>k a (aj _ ha))
theorem StAll.len:∀{M:List Md} {Z:List D} {σ:L2.St} {fp:List av},StAll K H F M Z σ fp->Z.length=M.length/\σ.length=M.length
 | [],_,_,_,h=>by simp only [StAll] at h;obtain⟨rfl,rfl,_⟩:=h;exact⟨rfl,rfl⟩
 | m :: M,_,_,_,h=>by
  simp only [StAll] at h;obtain⟨d,Z,o,σ,f,g,rfl,rfl,rfl,_,h2⟩:=h;obtain⟨a,b⟩:=StAll.len h2;exact⟨by rw [ba,ba,a],by rw [ba,ba,b]⟩
theorem StAll.at_:∀{M:List Md} {Z:List D} {σ:L2.St} {fp:List av} {i:Nat} {m:Md},StAll K H F M Z σ fp->M[i]?=some m->
  ∃d o f pre post,Z[i]?=some d/\σ[i]?=some o/\SlotR K H F m o d f/\fp=pre ++ (f ++ post)/\
   ∀(H':Hp) (F':List av) (m':Md) (d':D) (o':Option V) (f':List av),(∀a∈pre ++ post,H' a=H a)->Same (cut H F) (cut H' F')->SlotR K H' F' m' o' d' f'->
    StAll K H' F' (M.set i m') (Z.set i d') (σ.set i o') (pre ++ (f' ++ post))
 | [],_,_,_,i,m,_,e=>by simp at e
 | m0 :: M,_,_,_,0,m,h,e=>by
  simp only [StAll] at h;obtain⟨d,Z,o,σ,f,g,rfl,rfl,rfl,h1,h2⟩:=h;have:m0=m:=by simpa using e
  subst this;refine⟨d,o,f,[],g,rfl,rfl,h1,rfl,fun H' F' m' d' o' f' k e' s=>?_⟩;show StAll K H' F' (m' :: M) (d' :: Z) (o' :: σ) (f' ++ g);exact j8 s (h2.frame e' k)
 | m0 :: M,_,_,_,i + 1,m,h,e=>by
  simp only [StAll] at h;obtain⟨d,Z,o,σ,f,g,rfl,rfl,rfl,h1,h2⟩:=h;obtain⟨d1,o1,f1,pre,post,e1,e2,e3,e4,e5⟩:=StAll.at_ (i:=i) h2 (by simpa using e);subst e4;refine⟨d1,o1,f1,f ++ pre,post,by simpa using e1,by simpa using e2,e3,by rw [aP],fun H' F' m' d' o' f' k e' s=>?_⟩;rw [aP];refine j8 (h1.frame e' fun a ha=>k a ?_) (e5 H' F' m' d' o' f' (fun a ha=>k a ?_) e' s)
  ·rw [aP];exact aq _ ha
  ·rw [aP];exact aj _ ha
end
structure StE (K:af) (M:List Md) (Z:List D) (σ:L2.St) (H P:Hp) (F:List av):Prop where
 all:∃G,StAll K H F M Z σ G/\∀a∈G,a∈F
 lst:∀a∈F,∃ys:MuO,H a=some ys.1
 prot:Same P (cut H F)
structure StR (K:af) (M:List Md) (Z:List D) (σ:L2.St) (H P:Hp) (F:List av):Prop where
 all:∃G,StAll K H F M Z σ G/\G.Nodup/\∀a∈G,a∈F
 lst:∀a∈F,∃ys:MuO,H a=some ys.1
 prot:Same P (cut H F)
section
variable {K:af}{M:List Md}{Z:List D}{σ:L2.St}{H H' P:Hp}{F:List av}
theorem StR.toE(h:StR K M Z σ H P F):StE K M Z σ H P F:=⟨let⟨G,a,_,b⟩:=h.all;⟨G,a,b⟩,h.lst,h.prot⟩
theorem StE.keep(h:StE K M Z σ H P F)(e:Same H H'):∀a∈F,H' a=H a:=fun a ha=>by
 obtain⟨ys,q⟩:=h.lst a ha;rw [q,e _ _ q]
theorem StE.lst'(h:StE K M Z σ H P F)(e:Same H H'):∀a∈F,∃ys:MuO,H' a=some ys.1:=fun a ha=>by
 obtain⟨ys,q⟩:=h.lst a ha;exact⟨ys,e _ _ q⟩
theorem a0m(e:Same H H')(hf:∀a∈fp,H a=none):Same (cut H F) (cut H' (fp ++ F)):=G5 e fun a o ha jK=>by
 rcases ay.mp jK with z|z
 ·rw [hf a z] at ha;cases ha
 ·exact z
theorem StE.more(h:StE K M Z σ H P F)(e:Same H H')(hf:∀a∈fp,H a=none)(hl:∀a∈fp,∃ys:MuO,H' a=some ys.1):StE K M Z σ H' P (fp ++ F):=by
 obtain⟨G,h1,h3⟩:=h.all;have hc:Same (cut H F) (cut H' (fp ++ F)):=a0m e hf;refine⟨⟨G,h1.frame hc fun a ha=>h.keep e a (h3 a ha),fun a ha=>aj _ (h3 a ha)⟩,fun a ha=>?_,h.prot.trans hc⟩;rcases ay.mp ha with z|z
 ·exact hl a z
 ·exact h.lst' e a z
theorem StE.grow(h:StE K M Z σ H P F)(e:Same H H'):StE K M Z σ H' P F:=h.more (fp:=[]) e (fun a ha=>(nomatch ha)) fun a ha=>(nomatch ha)
theorem StR.more(h:StR K M Z σ H P F)(e:Same H H')(hf:∀a∈fp,H a=none)(hl:∀a∈fp,∃ys:MuO,H' a=some ys.1):StR K M Z σ H' P (fp ++ F):=by
 obtain⟨G,h1,h2,h3⟩:=h.all;have S:=h.toE.more e hf hl;exact⟨⟨G,h1.frame (a0m e hf) fun a ha=>h.toE.keep e a (h3 a ha),h2,fun a ha=>aj _ (h3 a ha)⟩,S.lst,S.prot⟩
theorem StR.grow(h:StR K M Z σ H P F)(e:Same H H'):StR K M Z σ H' P F:=h.more (fp:=[]) e (fun a ha=>(nomatch ha)) fun a ha=>(nomatch ha)
theorem y9(h:Z[i]?=some d):Z.getD i x=d:=by rw [aX,h];rfl
theorem StE.get(h:StE K M Z σ H P F)(hm:M[i]?=some (.own u)):∃v f,σ[i]?=some (some v)/\Own K H F u v (Z.getD i .none) f/\∀a∈f,a∈F:=by
 obtain⟨G,h1,h3⟩:=h.all;obtain⟨d,o,f,pre,post,e1,e2,⟨v,rfl,q⟩,e4,_⟩:=h1.at_ hm;refine⟨v,f,e2,by rw [y9 e1];exact q,fun a ha=>h3 a ?_⟩;rw [e4];exact aj _ (aq _ ha)
theorem StAll.pick(h:StAll K H F M Z σ G)(hG:∀a∈G,a∈F):∀js:List Nat,∃G',StAll K H F (js.map fun j=>M.getD j .dead) (js.map fun j=>Z.getD j .none) (js.map fun j=>(σ[j]?).getD none) G'/\∀a∈G',a∈F
 | []=>⟨[],K2,fun a ha=>(nomatch ha)⟩
 | j :: js=>by
  obtain⟨G',q,hq⟩:=StAll.pick h hG js;cases e:M[j]? with
  | none=>
   refine⟨[] ++ G',?_,fun a ha=>hq a (by simpa using ha)⟩;have:M.getD j .dead=.dead:=by rw [aX,e];rfl
   rw [aA,aA,aA,this];exact j8 rfl q
  | some m=>
   obtain⟨d,o,f,pre,post,e1,e2,e3,e4,_⟩:=h.at_ e;refine⟨f ++ G',?_,fun a ha=>?_⟩
   ·rw [aA,aA,aA,show M.getD j .dead=m by rw [aX,e];rfl,y9 e1,e2];exact j8 e3 q
   ·rcases ay.mp ha with z|z
    ·exact hG a (by rw [e4];exact aj _ (aq _ z))
    ·exact hq a z
theorem E7{pre f post:List av}(h:(pre ++ (f ++ post)).Nodup):(pre ++ post).Nodup:=
 h.sublist (vY (gS _) (pf _ _))
theorem mem_mid{pre f post:List av}{a:av}(h:a∈pre ++ post):a∈pre ++ (f ++ post):=by
 rcases ay.mp h with h|h
 ·exact aq _ h
 ·exact aj _ (aj _ h)
theorem V4{pre f post:List av}(h:(pre ++ post).Nodup)(hf:f.Nodup)(d:∀a∈f,a∉pre ++ post):(pre ++ (f ++ post)).Nodup:=by
 rw [bu] at h ⊢;obtain⟨h1,h2,h3⟩:=h;refine⟨h1,?_,fun a ha b hb=>?_⟩
 ·rw [bu];exact⟨hf,h2,fun a ha b hb e=>d a ha (e ▸ aj _ hb)⟩
 ·rcases ay.mp hb with z|z
  ·intro e;exact d b z (e ▸ aq _ ha)
  ·exact h3 a ha b z
theorem a1R{pre f post:List av}{a:av}(h:a∈pre ++ (f ++ post)):a∈f∨a∈pre ++ post:=by
 rcases ay.mp h with h|h
 ·exact .inr (aq _ h)
 ·rcases ay.mp h with h|h
  ·exact .inl h
  ·exact .inr (aj _ h)
theorem a0L{pre f post:List av}(h:(pre ++ (f ++ post)).Nodup):∀a∈f,a∉pre ++ post:=fun a ha z=>by
 rw [bu,bu] at h;rcases ay.mp z with z|z
 ·exact h.2.2 a z a (aq _ ha) rfl
 ·exact h.2.1.2.2 a ha a z rfl
theorem StR.set{H1:Hp}{i:Nat}{m:Md}{u:Ty}{v:V}{d:D}{fp:List av}(h:StR K M Z σ H P F)(hm:M[i]?=some m)(e:Same H H1)(hv:Own K H1 (fp ++ F) u v d fp)(hn:fp.Nodup)(hf:∀a∈fp,H a=none) :
  StR K (M.set i (.own u)) (Z.set i d) (σ.set i (some v)) H1 P (fp ++ F):=by
 obtain⟨G,h1,h2,h3⟩:=h.all;have S:=h.more e hf (hv.lst u);obtain⟨d0,o,f,pre,post,e1,e2,e3,e4,e5⟩:=h1.at_ hm;have ka:=h2;rw [e4] at ka;have hG:∀a∈pre ++ post,a∈F:=fun a ha=>h3 a (by rw [e4];exact mem_mid ha)
 have hc:Same (cut H F) (cut H1 (fp ++ F)):=G5 e fun a o ha jK=>by
  rcases ay.mp jK with z|z
  ·rw [hf a z] at ha;cases ha
  ·exact z
 refine⟨⟨pre ++ (fp ++ post),e5 H1 _ (.own u) d (some v) fp (fun a ha=>h.toE.keep e a (hG a ha)) hc ⟨v,rfl,hv⟩,V4 (E7 ka) hn fun a ha z=>?_,fun a ha=>?_⟩,S.lst,S.prot⟩
 ·obtain⟨ys,q⟩:=h.lst a (hG a z);rw [hf a ha] at q;cases q
 ·rcases a1R ha with z|z
  ·exact aq _ z
  ·exact aj _ (hG a z)
theorem StR.kill{i:Nat}{m:Md}(h:StR K M Z σ H P F)(hm:M[i]?=some m)(d:D)(o:Option V):StR K (M.set i .dead) (Z.set i d) (σ.set i o) H P F:=by
 obtain⟨G,h1,h2,h3⟩:=h.all;obtain⟨d0,o0,f,pre,post,e1,e2,e3,e4,e5⟩:=h1.at_ hm;rw [e4] at h2;exact⟨⟨pre ++ ([] ++ post),e5 H F .dead d o [] (fun _ _=>rfl) (Same.refl _) rfl,E7 h2,fun a ha=>h3 a (by rw [e4];exact mem_mid ha)⟩,h.lst,h.prot⟩
theorem set_same{α:Type}{l:List α}{i:Nat}{x:α}(h:l[i]?=some x):l.set i x=l:=mw fun j=>by
 rw [List.getElem?_set]
 split
 ·next hj=>
  subst hj
  split
  ·exact h.symm
  ·next hh=>exact (fB (by lia)).symm
 ·rfl
theorem StR.dead{i:Nat}{m:Md}(h:StR K M Z σ H P F)(hm:M[i]?=some m):StR K (M.set i .dead) Z σ H P F:=by
 obtain⟨G,h1,_⟩:=h.all;obtain⟨d0,o0,f,pre,post,e1,e2,_⟩:=h1.at_ hm;have:=h.kill hm d0 o0
 rwa [set_same e1,set_same e2] at this
theorem Own.freeze(h:Own K H F u v d fp)(hs:∀a∈F',a∈F)(hd:∀a∈fp,a∉F'):Own K H F' .f v d []:=by
 have key:∀(u:Ty) {v:V} {d:D} {fp:List av},Own K H F u v d fp->(∀a∈fp,a∉F')->Den K (cut H F') v d:=by
  intro u;refine Ty.rec (motive_1:=fun u=>∀{v:V} {d:D} {fp:List av},Own K H F u v d fp->(∀a∈fp,a∉F')->Den K (cut H F') v d)
   (motive_2:=fun us=>∀{xs:List V} {ds:List D} {fp:List av},OwnTs K H F us xs ds fp->(∀a∈fp,a∉F')->DenAll K (cut H F') xs ds) ?_ ?_ ?_ ?_ ?_ ?_ ?_ u
  ·intro v d fp h _;simp only [Own] at h;exact h.2.2.up (B3 hs)
  ·intro v d fp h _;simp only [Own] at h;exact h.2.up (B3 hs)
  ·intro u ih v d fp h hd;simp only [Own] at h;rcases h with⟨_,_,h⟩|⟨a,xs,ds,fs,rfl,h1,rfl,rfl,h2⟩
   ·exact h.up (B3 hs)
   ·refine den_list (.inl (.inl (i7 (hd a ah) h1))) (ListAll.den (R:=fun v d f=>Own K H F u v d f/\∀a∈f,a∉F') (fun v d f q=>ih q.1 q.2) (h2.imp fun v d f hf _ q=>⟨q,fun b hb=>hd b (ao _ (hf b hb))⟩))
  ·intro us ih v d fp h hd;simp only [Own] at h;obtain⟨a,xs,ds,rfl,h1,h0,rfl,h2⟩:=h;exact den_tup (SqT.of (i7 (fun z=>h0 (hs a z)) h1)) (ih h2 hd)
  ·intro kt u ih v d fp h hd;simp only [Own] at h;obtain⟨a,es,ds,fs,rfl,h1,rfl,rfl,h3,h2⟩:=h;exact a3R (i7 (hd a ah) h1) (fun e he=>(h3.2 e he).2.up (B3 hs)) (ListAll.den (R:=fun v d f=>Own K H F u v d f/\∀a∈f,a∉F') (fun v d f q=>ih q.1 q.2) (h2.imp fun v d f hf _ q=>⟨q,fun b hb=>hd b (ao _ (hf b hb))⟩))
  ·intro xs ds fp h _;simp only [OwnTs] at h;obtain⟨rfl,rfl,_⟩:=h;exact denAll_nil
  ·intro u us AK AJ xs ds fp h hd;simp only [OwnTs] at h;obtain⟨v,r,d,e,f,g,rfl,rfl,rfl,h1,h2⟩:=h;exact denAll_cons (AK h1 fun a ha=>hd a (aq _ ha)) (AJ h2 fun a ha=>hd a (aj _ ha))
 simp only [Own];exact⟨trivial,key u h hd⟩
theorem StR.freeze{i:Nat}{u:Ty}(h:StR K M Z σ H P F)(hm:M[i]?=some (.own u)):∃F',StR K (M.set i (.own .f)) Z σ H P F':=by
 obtain⟨G,h1,h2,h3⟩:=h.all;obtain⟨d,o,f,pre,post,e1,e2,⟨v,rfl,e3⟩,e4,e5⟩:=h1.at_ hm;rw [e4] at h2;have iA:∀a∈F.filter (fun a=>decide (a∉f)),a∈F:=fun a ha=>(dc.mp ha).1
 have rA:∀a∈f,a∉F.filter (fun a=>decide (a∉f)):=fun a ha z=>absurd ha (bC (dc.mp z).2)
 have hc:Same (cut H F) (cut H (F.filter (fun a=>decide (a∉f)))):=B3 iA;have q:=e5 H _ (.own .f) d (some v) [] (fun _ _=>rfl) hc ⟨v,rfl,e3.freeze iA rA⟩;rw [set_same e1,set_same e2] at q;refine⟨_,⟨_,q,E7 h2,fun a ha=>dc.mpr ⟨h3 a (by rw [e4];exact mem_mid ha),aL fun z=>a0L h2 a z ha⟩⟩,fun a ha=>h.lst a (iA a ha),h.prot.trans hc⟩
end
end VS
namespace VS
open PySem PySem.Spec L2
inductive Cat where
 | new (u:Ty)|bor (u:Ty)|tmp
def ResR(K:af)(c:Cat)(H H':Hp)(F:List av)(v:V)(d:D):Prop:=
 match c with
 | .new u=>∃fp,Own K H' (fp ++ F) u v d fp/\fp.Nodup/\∀a∈fp,H a=none
 | .bor u=>∃fp,Own K H' F u v d fp/\∀a∈fp,a∈F
 | .tmp=>Den K H' v d
section
variable {K:af}{c:Cat}{H H0 H' H1 H2:Hp}{F:List av}{v:V}{d:D}
theorem ResR.den(r:ResR K c H H' F v d):Den K H' v d:=by
 cases c with
 | new u=>obtain⟨fp,h,_⟩:=r;exact h.den u
 | bor u=>obtain⟨fp,h,_⟩:=r;exact h.den u
 | tmp=>exact r
theorem Own.grow(h:Own K H1 F u v d fp)(e:Same H1 H2):Own K H2 F u v d fp:=
 h.frame (K6 e) u fun a ha=>by obtain⟨ys,q⟩:=h.lst u a ha;rw [q,e _ _ q]
theorem ResR.up(r:ResR K c H H1 F v d)(e:Same H1 H2):ResR K c H H2 F v d:=by
 cases c with
 | new u=>obtain⟨fp,h,q⟩:=r;exact⟨fp,h.grow e,q⟩
 | bor u=>obtain⟨fp,h,q⟩:=r;exact⟨fp,h.grow e,q⟩
 | tmp=>exact Den.up r e
theorem ResR.early(r:ResR K c H H1 F v d)(e:Same H0 H):ResR K c H0 H1 F v d:=by
 cases c with
 | new u=>obtain⟨fp,h,n,q⟩:=r;exact⟨fp,h,n,fun a ha=>e.free (q a ha)⟩
 | bor u=>exact r
 | tmp=>exact r
theorem K7(hi:imm d=true)(hd:Den K H' v d)(hF:∀a∈F,∃ys:MuO,H' a=some ys.1):ResR K (.new .i) H H' F v d:=by
 refine⟨[],?_,br,fun a ha=>(nomatch ha)⟩;simp only [Own,bT];exact⟨trivial,hi,hd.imm_out hF d hi⟩
theorem a1n(h:Own K H F .i v d fp):fp=[]/\imm d=true/\Den K (cut H F) v d:=by simpa only [Own] using h
theorem b1w(h:Own K H F .f v d fp):fp=[]/\Den K (cut H F) v d:=by simpa only [Own] using h
end
abbrev EvE:=List D->Option D
abbrev EvT:=List D->Option Bool
def spE(K:af)(M:List Md)(f:EvE)(c:Cat):TE:=fun σ H Q=>∃(Z:List D) (P:Hp) (F:List av) (d:D),StE K M Z σ H P F/\f Z=some d/\∀v H',Same H H'->ResR K c H H' F v d->Q v H'
def PX(X:Cx)(M:List Md)(e:Expr)(f:EvE)(c:Cat):Prop:=PE X e (spE X.K M f c)
theorem PX.out{X:Cx}{M:List Md}{e:Expr}{f:EvE}{c:Cat}(h:PX X M e f c) :
  ∃t,PE X e t/\∀(Z:List D) (σ:L2.St) (H P:Hp) (F:List av) (d:D) (Q:VK),StE X.K M Z σ H P F->f Z=some d->(∀v H',Same H H'->ResR X.K c H H' F v d->Q v H')->t σ H Q:=
 ⟨_,h,fun Z _ _ P F d _ S hf q=>⟨Z,P,F,d,S,hf,q⟩⟩
theorem PX.mk{X:Cx}{M:List Md}{e:Expr}{f:EvE}{c:Cat}
  (h:∃t,PE X e t/\∀(Z:List D) (σ:L2.St) (H P:Hp) (F:List av) (d:D) (Q:VK),StE X.K M Z σ H P F->f Z=some d->(∀v H',Same H H'->ResR X.K c H H' F v d->Q v H')->t σ H Q):PX X M e f c:=by
 obtain⟨t,p,q⟩:=h;exact fun pins s σ H Q I ⟨Z,P,F,d,S,hf,z⟩=>p pins s σ H Q I (q Z σ H P F d Q S hf z)
def spT(K:af)(M:List Md)(g:EvT):TT:=fun σ H Q=>∃(Z:List D) (P:Hp) (F:List av) (b:Bool),StE K M Z σ H P F/\g Z=some b/\∀H',Same H H'->Q b H'
def PTX(X:Cx)(M:List Md)(e:Expr)(g:EvT):Prop:=PT X e (spT X.K M g)
theorem PTX.out{X:Cx}{M:List Md}{e:Expr}{g:EvT}(h:PTX X M e g) :
  ∃t,PT X e t/\∀(Z:List D) (σ:L2.St) (H P:Hp) (F:List av) (b:Bool) (Q:Bool->Hp->Prop),StE X.K M Z σ H P F->g Z=some b->(∀H',Same H H'->Q b H')->t σ H Q:=
 ⟨_,h,fun Z _ _ P F b _ S hf q=>⟨Z,P,F,b,S,hf,q⟩⟩
theorem PTX.mk{X:Cx}{M:List Md}{e:Expr}{g:EvT}
  (h:∃t,PT X e t/\∀(Z:List D) (σ:L2.St) (H P:Hp) (F:List av) (b:Bool) (Q:Bool->Hp->Prop),StE X.K M Z σ H P F->g Z=some b->(∀H',Same H H'->Q b H')->t σ H Q):PTX X M e g:=by
 obtain⟨t,p,q⟩:=h;exact fun pins s σ H Q I ⟨Z,P,F,d,S,hf,z⟩=>p pins s σ H Q I (q Z σ H P F d Q S hf z)
def PWX(X:Cx)(M:List Md)(e:Expr)(g:EvT):Prop:=PW X e (spT X.K M g)
theorem PWX.out{X:Cx}{M:List Md}{e:Expr}{g:EvT}(h:PWX X M e g) :
  ∃t,PW X e t/\∀(Z:List D) (σ:L2.St) (H P:Hp) (F:List av) (b:Bool) (Q:Bool->Hp->Prop),StE X.K M Z σ H P F->g Z=some b->(∀H',Same H H'->Q b H')->t σ H Q:=
 ⟨_,h,fun Z _ _ P F b _ S hf q=>⟨Z,P,F,b,S,hf,q⟩⟩
theorem PWX.mk{X:Cx}{M:List Md}{e:Expr}{g:EvT}
  (h:∃t,PW X e t/\∀(Z:List D) (σ:L2.St) (H P:Hp) (F:List av) (b:Bool) (Q:Bool->Hp->Prop),StE X.K M Z σ H P F->g Z=some b->(∀H',Same H H'->Q b H')->t σ H Q):PWX X M e g:=by
 obtain⟨t,p,q⟩:=h;exact fun whole pins s σ H Q I ⟨Z,P,F,d,S,hf,z⟩=>p whole pins s σ H Q I (q Z σ H P F d Q S hf z)
abbrev EvA:=List D->Option (List D)
def PAX(X:Cx)(M:List Md)(es:List Expr)(f:EvA):Prop:=
 ∃t,PA X es t/\∀(Z:List D) (σ:L2.St) (H P:Hp) (F:List av) (ds:List D) (Q:List V->Hp->Prop),StE X.K M Z σ H P F->f Z=some ds->(∀vs H',Same H H'->DenAll X.K H' vs ds->Q vs H')->t σ H Q
def PAN(X:Cx)(M:List Md)(es:List Expr)(f:EvA)(us:List Ty):Prop:=
 ∃t,PA X es t/\∀(Z:List D) (σ:L2.St) (H P:Hp) (F:List av) (ds:List D) (Q:List V->Hp->Prop),StE X.K M Z σ H P F->f Z=some ds->
  (∀vs H' fp,Same H H'->OwnTs X.K H' (fp ++ F) us vs ds fp->fp.Nodup->(∀a∈fp,H a=none)->Q vs H')->t σ H Q
def a4(i:Nat):EvE:=fun Z=>some (Z.getD i .none)
def eC(d:D):EvE:=fun _=>some d
def e1(g:D->Option D)(a:EvE):EvE:=fun Z=>(a Z).bind g
def e2(g:D->D->Option D)(a b:EvE):EvE:=fun Z=>(a Z).bind fun x=>(b Z).bind fun y=>g x y
def asB:D->Option Bool
 | .bool b=>some b
 | _=>none
def a3z(a b:EvE):EvE:=fun Z=>(a Z).bind fun x=>(asB x).bind fun k=>if k then b Z else some (.bool false)
def eOr(a b:EvE):EvE:=fun Z=>(a Z).bind fun x=>(asB x).bind fun k=>if k then some (.bool true) else b Z
def a9K(a:EvE):EvE:=fun Z=>(a Z).bind fun x=>(asB x).bind fun k=>some (.bool !k)
def eIf(c:EvT)(a b:EvE):EvE:=fun Z=>(c Z).bind fun k=>if k then a Z else b Z
def eCh(g g':D->D->Option D)(a b c:EvE):EvE:=fun Z=>(a Z).bind fun x=>(b Z).bind fun y=>(g x y).bind fun z=>(asB z).bind fun k=>if k then (c Z).bind fun w=>g' y w else some (.bool false)
def tr:D->Option Bool
 | .none=>some false
 | .bool b=>some b
 | .int i=>some (i != 0)
 | .str x=>if x.length<=aS then some ((x.length:Int) != 0) else none
 | .list ds=>some !ds.isEmpty
 | .tuple ds=>some !ds.isEmpty
 | .dict _=>none
def tV(a:EvE):EvT:=fun Z=>(a Z).bind tr
def tB(a:EvE):EvT:=fun Z=>(a Z).bind asB
def tNo(a:EvT):EvT:=fun Z=>(a Z).bind fun k=>some !k
def tAn(a b:EvT):EvT:=fun Z=>(a Z).bind fun k=>if k then b Z else some false
def O1(a b:EvT):EvT:=fun Z=>(a Z).bind fun k=>if k then some true else b Z
def b8:List D->Option (List D):=fun _=>some []
def a5(a:EvE)(r:List D->Option (List D)):List D->Option (List D):=fun Z=>(a Z).bind fun x=>(r Z).bind fun xs=>some (x :: xs)
theorem v9(h:asB d=some k):d=.bool k:=by
 cases d with
 | bool b=>cases h;rfl
 | _=>cases h
theorem bnd{α β:Type}{o:Option α}{f:α->Option β}{b:β}(h:o.bind f=some b):∃a,o=some a/\f a=some b:=qT.mp h
section
variable {X:Cx}{M:List Md}{a b e e':Expr}{es rest:List Expr}{f g fa fb fc:EvE}{ga gb:EvT}{c ca cb cc:Cat}{u:Ty}{us:List Ty}{pos:ek}
theorem PX.imp(h:PX X M e f c)(k:∀(K:af) (H H':Hp) (F:List av) (v:V) (d:D),(∀a∈F,∃ys:MuO,H a=some ys.1)->Same H H'->ResR K c H H' F v d->ResR K c' H H' F v d):PX X M e f c':=by
 obtain⟨t,p,q⟩:=h.out;exact .mk ⟨t,p,fun Z σ H P F d Q S hf z=>q Z σ H P F d Q S hf fun v H' e r=>z v H' e (k _ _ _ _ _ _ S.lst e r)⟩
theorem PX.newf(h:PX X M e f (.bor .f)):PX X M e f (.new .f):=h.imp fun K H H' F v d _ _ ⟨fp,o,_⟩=>by
 obtain⟨rfl,_⟩:=b1w o;exact⟨[],o,br,fun a ha=>(nomatch ha)⟩
theorem PX.newi(h:PX X M e f (.bor .i)):PX X M e f (.new .i):=h.imp fun K H H' F v d _ _ ⟨fp,o,_⟩=>by
 obtain⟨rfl,_⟩:=a1n o;exact⟨[],o,br,fun a ha=>(nomatch ha)⟩
theorem PX.itof(h:PX X M e f (.new .i)):PX X M e f (.new .f):=h.imp fun K H H' F v d _ _ ⟨fp,o,n,z⟩=>by
 obtain⟨rfl,_,q⟩:=a1n o;refine⟨[],?_,n,z⟩;simp only [Own];exact⟨trivial,q⟩
theorem PX.itol(h:PX X M e f (.new .i)):PX X M e f (.new (.l u)):=h.imp fun K H H' F v d _ _ ⟨fp,o,n,z⟩=>by
 obtain⟨rfl,w,q⟩:=a1n o;refine⟨[],?_,n,z⟩;simp only [Own];exact .inl ⟨trivial,w,q⟩
theorem PX.frz(h:PX X M e f (.new u)):PX X M e f (.new .f):=h.imp fun K H H' F v d hF _ ⟨fp,o,n,z⟩=>by
 refine⟨[],o.freeze (fun a ha=>aj _ (by simpa using ha)) (fun a ha sQ=>?_),br,fun a ha=>(nomatch ha)⟩;obtain⟨ys,q⟩:=hF a (by simpa using sQ);rw [z a ha] at q;cases q
theorem O2(i:Nat)(hN:X.N[i]?=some x:=by rfl)(hv:Vis X.env.scope x:=by first|exact cf rfl|exact bR (cf rfl)|exact bR (bR rfl))(hd:(x == ("__debug__":bc))=false:=by decide)
  (gJ:(x == ("__classdict__":bc))=false:=by decide) (hm:M[i]?=some (.own u):=by rfl):PX X M (.Name x pos) (a4 i) (.bor u):=by
 refine .mk ⟨_,C8 hN hv hd gJ,fun Z σ H P F d Q S hf q=>?_⟩;cases hf
 obtain⟨v,fp,e,o,sub⟩:=S.get hm;exact⟨v,e,q v H (Same.refl _) ⟨fp,o,sub⟩⟩
theorem a0n(h:PE X e (tC v))(hi:imm d=true)(hd:∀H,Den X.K H v d):PX X M e (eC d) (.new .i):=by
 refine .mk ⟨_,h,fun Z σ H P F d' Q S hf q=>?_⟩;cases hf
 exact q v H (Same.refl _) (K7 hi (hd H) S.lst)
theorem a8{i j}:PX X M (.Constant (.int i) j pos) (eC (.int i)) (.new .i):=a0n b0X (by simp only [imm]) fun _=>den_int
theorem D2{k j}:PX X M (.Constant (.bool k) j pos) (eC (.bool k)) (.new .i):=a0n b8M (by simp only [imm]) fun _=>den_bool
theorem D3{j}:PX X M (.Constant .none j pos) (eC .none) (.new .i):=a0n b6b (by simp only [imm]) fun _=>den_none
theorem a8x(hm:∃t,X.mg x=some (.int i t))(hg:Gl X x:=by rfl)(hd:(x == ("__debug__":bc))=false:=by decide):PX X M (.Name x pos) (eC (.int i)) (.new .i):=by
 obtain⟨t,hm⟩:=hm;exact a0n (a8q (v:=.int i) hg hm ⟨_,rfl⟩ hd) (by simp only [imm]) fun _=>den_int
theorem A4{g:D->D->Option D}{Z:List D}{d:D}(h:e2 g fa fb Z=some d):∃x y,fa Z=some x/\fb Z=some y/\g x y=some d:=by
 obtain⟨x,h1,h⟩:=bnd h;obtain⟨y,h2,h⟩:=bnd h;exact⟨x,y,h1,h2,h⟩
theorem c8{g:D->D->Option D}(ho:OpS X (fg op) g)(ha:PX X M a fa ca)(hb:PX X M b fb cb):PX X M (.BinOp a op b pos) (e2 g fa fb) (.new .i):=by
 obtain⟨r,hr,hs⟩:=ho;obtain⟨ta,pa,qa⟩:=ha.out;obtain⟨tb,pb,qb⟩:=hb.out;refine .mk ⟨_,b5y hr pa pb,fun Z σ H P F d Q S hf q=>?_⟩;obtain⟨x,y,h1,h2,h3⟩:=A4 hf;exact qa Z σ H P F x _ S h1 fun v H1 e1 r1=>qb Z σ H1 P F y _ (S.grow e1) h2 fun w H2 e2 r2=>hs v w H2 x y d Q (r1.den.up e2) r2.den h3 fun z hi hd=>q z H2 (e1.trans e2) (K7 hi (hd H2) (S.lst' (e1.trans e2)))
theorem T6{g:D->D->Option D}(ho:OpS X (bp op) g)(ha:PX X M a fa ca)(hb:PX X M b fb cb)(hm:eR op b=false:=by first|exact a2f _|with_unfolding_all rfl):PX X M (.Compare a [op] [b] pos) (e2 g fa fb) (.new .i):=by
 obtain⟨r,hr,hs⟩:=ho;obtain⟨ta,pa,qa⟩:=ha.out;obtain⟨tb,pb,qb⟩:=hb.out;refine .mk ⟨_,b3N hr pa pb hm,fun Z σ H P F d Q S hf q=>?_⟩;obtain⟨x,y,h1,h2,h3⟩:=A4 hf;exact qa Z σ H P F x _ S h1 fun v H1 e1 r1=>qb Z σ H1 P F y _ (S.grow e1) h2 fun w H2 e2 r2=>hs v w H2 x y d Q (r1.den.up e2) r2.den h3 fun z hi hd=>q z H2 (e1.trans e2) (K7 hi (hd H2) (S.lst' (e1.trans e2)))
theorem i8{op:va}{g:D->D->Option D}(ho:OpS X (bp op) g)(ha:PX X M a fa ca)(hb:PX X M b fb cb)(hm:eR op b=false:=by first|exact a2f _|with_unfolding_all rfl):PTX X M (.Compare a [op] [b] pos) (tB (e2 g fa fb)):=by
 obtain⟨r,hr,hs⟩:=ho;obtain⟨ta,pa,qa⟩:=ha.out;obtain⟨tb,pb,qb⟩:=hb.out;refine .mk ⟨_,a1O hr pa pb hm,fun Z σ H P F k Q S hf q=>?_⟩;obtain⟨d,hf,hk⟩:=bnd hf;cases v9 hk
 obtain⟨x,y,h1,h2,h3⟩:=A4 hf;exact qa Z σ H P F x _ S h1 fun v H1 e1 r1=>qb Z σ H1 P F y _ (S.grow e1) h2 fun w H2 e2 r2=>hs v w H2 x y _ _ (r1.den.up e2) r2.den h3 fun z hi hd=>⟨k,(hd H2).bool_inv,q H2 (e1.trans e2)⟩
theorem a5w{op lF:va}{g g':D->D->Option D}{c0:Expr}(ho:OpS X (bp op) g)(kO:OpS X (bp lF) g')(ha:PX X M a fa ca)(hb:PX X M b fb cb)(hc:PX X M c0 fc cc)(hm:mC [op,lF] [b,c0]=false:=by with_unfolding_all rfl) :
  PX X M (.Compare a [op,lF] [b,c0] pos) (eCh g g' fa fb fc) (.new .i):=by
 obtain⟨r,hr,hs⟩:=ho;obtain⟨r',rq,pJ⟩:=kO;obtain⟨ta,pa,qa⟩:=ha.out;obtain⟨tb,pb,qb⟩:=hb.out;obtain⟨tc,pc,qc⟩:=hc.out;refine .mk ⟨_,b1j hr rq pa pb pc hm,fun Z σ H P F d Q S hf q=>?_⟩;obtain⟨x,h1,hf⟩:=bnd hf;obtain⟨y,h2,hf⟩:=bnd hf;obtain⟨z,h3,hf⟩:=bnd hf;obtain⟨k,h4,hf⟩:=bnd hf;cases v9 h4
 refine qa Z σ H P F x _ S h1 fun v H1 e1 r1=>qb Z σ H1 P F y _ (S.grow e1) h2 fun w H2 e2 r2=>hs v w H2 x y _ _ (r1.den.up e2) r2.den h3 fun z hi hd=>⟨k,(hd H2).bool_inv,?_⟩
 cases k with
 | false=>
  have kJ:d=.bool false:=(aD hf).symm;subst kJ;exact a1K (q _ H2 (e1.trans e2) (K7 (by simp only [imm]) den_bool (S.lst' (e1.trans e2))))
 | true=>
  obtain⟨w',h5,hf⟩:=bnd (show (fc Z).bind (fun w=>g' y w)=some d from hf);exact a1L (qc Z σ H2 P F w' _ (S.grow (e1.trans e2)) h5 fun w3 H3 e3 r3=>pJ w w3 H3 y w' d Q (r2.den.up e3) r3.den hf fun z hi hd=>q z H3 ((e1.trans e2).trans e3) (K7 hi (hd H3) (S.lst' ((e1.trans e2).trans e3))))
theorem a9L{op lF:va}{g g':D->D->Option D}{c0:Expr}(ho:OpS X (bp op) g)(kO:OpS X (bp lF) g')(ha:PX X M a fa ca)(hb:PX X M b fb cb)(hc:PX X M c0 fc cc)(hm:mC [op,lF] [b,c0]=false:=by with_unfolding_all rfl) :
  PTX X M (.Compare a [op,lF] [b,c0] pos) (tB (eCh g g' fa fb fc)):=by
 obtain⟨r,hr,hs⟩:=ho;obtain⟨r',rq,pJ⟩:=kO;obtain⟨ta,pa,qa⟩:=ha.out;obtain⟨tb,pb,qb⟩:=hb.out;obtain⟨tc,pc,qc⟩:=hc.out;refine .mk ⟨_,b1k hr rq pa pb pc hm,fun Z σ H P F k0 Q S hf q=>?_⟩;obtain⟨d,hf,hk⟩:=bnd hf;cases v9 hk
 obtain⟨x,h1,hf⟩:=bnd hf;obtain⟨y,h2,hf⟩:=bnd hf;obtain⟨z,h3,hf⟩:=bnd hf;obtain⟨k,h4,hf⟩:=bnd hf;cases v9 h4
 refine qa Z σ H P F x _ S h1 fun v H1 e1 r1=>qb Z σ H1 P F y _ (S.grow e1) h2 fun w H2 e2 r2=>hs v w H2 x y _ _ (r1.den.up e2) r2.den h3 fun z hi hd=>⟨k,(hd H2).bool_inv,?_⟩
 cases k with
 | false=>
  have kJ:k0=false:=by injection (aD hf).symm
  subst kJ;exact a1K ⟨false,rfl,q H2 (e1.trans e2)⟩
 | true=>
  obtain⟨w',h5,hf⟩:=bnd (show (fc Z).bind (fun w=>g' y w)=some (.bool k0) from hf);exact a1L (qc Z σ H2 P F w' _ (S.grow (e1.trans e2)) h5 fun w3 H3 e3 r3=>pJ w w3 H3 y w' _ _ (r2.den.up e3) r3.den hf fun z hi hd=>⟨k0,(hd H3).bool_inv,q H3 ((e1.trans e2).trans e3)⟩)
theorem a0M(h:PX X M a f c):PX X M (.BoolOp op [a] pos) f c:=by
 obtain⟨t,p,q⟩:=h.out;exact .mk ⟨t,b6g p,q⟩
theorem Y5(ha:PX X M a fa ca)(hb:PX X M (.BoolOp .And (b :: rest) pos) fb (.new .i)):PX X M (.BoolOp .And (a :: b :: rest) pos) (a3z fa fb) (.new .i):=by
 obtain⟨ta,pa,qa⟩:=ha.out;obtain⟨tb,pb,qb⟩:=hb.out;refine .mk ⟨_,b6h pa pb,fun Z σ H P F d Q S hf q=>?_⟩;obtain⟨x,h1,hf⟩:=bnd hf;obtain⟨k,h2,hf⟩:=bnd hf;cases v9 h2
 refine qa Z σ H P F _ _ S h1 fun v H1 e1 r1=>⟨k,r1.den.bool_inv,?_⟩
 cases k with
 | false=>
  have kJ:d=.bool false:=(aD hf).symm;subst kJ;exact a1K (q _ H1 e1 (K7 (by simp only [imm]) den_bool (S.lst' e1)))
 | true=>exact a1L (qb Z σ H1 P F d Q (S.grow e1) hf fun w H2 e2 r2=>q w H2 (e1.trans e2) (r2.early e1))
theorem a7g(ha:PX X M a fa ca):PX X M (.UnaryOp .Not a pos) (a9K fa) (.new .i):=by
 obtain⟨ta,pa,qa⟩:=ha.out;refine .mk ⟨_,b6i pa,fun Z σ H P F d Q S hf q=>?_⟩;obtain⟨x,h1,hf⟩:=bnd hf;obtain⟨k,h2,hf⟩:=bnd hf;cases v9 h2
 cases hf
 exact qa Z σ H P F _ _ S h1 fun v H1 e1 r1=>⟨k,r1.den.bool_inv,q _ H1 e1 (K7 (by simp only [imm]) den_bool (S.lst' e1))⟩
theorem b6H(h:Den K H v d)(ht:tr d=some k):b6y K v H k:=by
 cases d with
 | none=>cases h.none_inv;cases ht;exact rfl
 | bool b=>cases h.bool_inv;cases ht;exact rfl
 | int i=>cases h.int_inv;cases ht;exact rfl
 | str x=>
  cases h.str_inv
  replace ht:(if x.length<=aS then some ((x.length:Int) != 0) else none)=some k:=ht
  by_cases z:x.length<=aS
  ·rw [aE z] at ht;cases ht
   exact⟨z,rfl⟩
  ·rw [aO z] at ht;cases ht
 | list ds=>
  obtain⟨a,xs,rfl,h1,h2⟩:=h.list_inv;cases ht
  refine .inl ⟨xs,h1.l,?_⟩;have:=h2.length;cases xs <;> cases ds <;> simp_all
 | tuple ds=>
  obtain⟨a,xs,rfl,h1,h2⟩:=h.tup_inv;cases ht
  refine .inr (.inl ⟨xs,h1,?_⟩);have:=h2.length;cases xs <;> cases ds <;> simp_all
 | dict kvs=>cases ht
theorem s9(ha:PX X M a fa ca)(he:∀whole,pF a X.env whole=(do let v <-whole;sj a.pos;il [v] (tu v)):=by intro _;rfl):PTX X M a (tV fa):=by
 obtain⟨ta,pa,qa⟩:=ha.out;refine .mk ⟨_,b1l pa he,fun Z σ H P F k Q S hf q=>?_⟩;obtain⟨x,h1,hf⟩:=bnd hf;exact qa Z σ H P F _ _ S h1 fun v H1 e1 r1=>⟨k,b6H r1.den hf,q H1 e1⟩
theorem u9(h:PTX X M a ga):PTX X M (.UnaryOp .Not a pos) (tNo ga):=by
 obtain⟨ta,pa,qa⟩:=h.out;refine .mk ⟨_,b6f pa,fun Z σ H P F k Q S hf q=>?_⟩;obtain⟨x,h1,hf⟩:=bnd hf;cases hf
 exact qa Z σ H P F _ _ S h1 fun H1 e1=>q H1 e1
theorem PWX.pt(h:PWX X M e ga):PTX X M e ga:=by
 obtain⟨t,p,q⟩:=h.out;exact .mk ⟨t,p.pt,q⟩
theorem P1(h:PTX X M a ga):PWX X M (.BoolOp .And [a] pos) ga:=by
 obtain⟨t,p,q⟩:=h.out;exact .mk ⟨t,b3I p,q⟩
theorem M7(h:PTX X M a ga):PWX X M (.BoolOp .Or [a] pos) ga:=by
 obtain⟨t,p,q⟩:=h.out;exact .mk ⟨t,b6d p,q⟩
theorem V5(ha:PTX X M a ga)(hb:PWX X M (.BoolOp .And (b :: rest) pos) gb):PWX X M (.BoolOp .And (a :: b :: rest) pos) (tAn ga gb):=by
 obtain⟨ta,pa,qa⟩:=ha.out;obtain⟨tb,pb,qb⟩:=hb.out;refine .mk ⟨_,b6e pa pb,fun Z σ H P F k Q S hf q=>?_⟩;obtain⟨x,h1,hf⟩:=bnd hf;refine qa Z σ H P F _ _ S h1 fun H1 e1=>?_
 cases x with
 | false=>cases hf;exact a1K (q H1 e1)
 | true=>exact a1L (qb Z σ H1 P F k Q (S.grow e1) hf fun H2 e2=>q H2 (e1.trans e2))
theorem K8(ha:PTX X M a ga)(hb:PWX X M (.BoolOp .Or (b :: rest) pos) gb):PWX X M (.BoolOp .Or (a :: b :: rest) pos) (O1 ga gb):=by
 obtain⟨ta,pa,qa⟩:=ha.out;obtain⟨tb,pb,qb⟩:=hb.out;refine .mk ⟨_,b8N pa pb,fun Z σ H P F k Q S hf q=>?_⟩;obtain⟨x,h1,hf⟩:=bnd hf;refine qa Z σ H P F _ _ S h1 fun H1 e1=>?_
 cases x with
 | true=>cases hf;exact a1L (q H1 e1)
 | false=>exact a1K (qb Z σ H1 P F k Q (S.grow e1) hf fun H2 e2=>q H2 (e1.trans e2))
theorem b1x{c0:Expr}(hc:PTX X M c0 ga)(ha:PX X M a fa c)(hb:PX X M b fb c):PX X M (.IfExp c0 a b pos) (eIf ga fa fb) c:=by
 obtain⟨tc,pc,qc⟩:=hc.out;obtain⟨ta,pa,qa⟩:=ha.out;obtain⟨tb,pb,qb⟩:=hb.out;refine .mk ⟨_,b0Y pc pa pb,fun Z σ H P F d Q S hf q=>?_⟩;obtain⟨k,h1,hf⟩:=bnd hf;refine qc Z σ H P F _ _ S h1 fun H1 e1=>?_
 cases k with
 | true=>exact a1L (qa Z σ H1 P F d Q (S.grow e1) hf fun v H2 e2 r2=>q v H2 (e1.trans e2) (r2.early e1))
 | false=>exact a1K (qb Z σ H1 P F d Q (S.grow e1) hf fun v H2 e2 r2=>q v H2 (e1.trans e2) (r2.early e1))
theorem f9:PAX X M [] b8:=⟨_,o7,fun Z σ H P F ds Q S hf q=>by cases hf;exact q [] H (Same.refl _) denAll_nil⟩
theorem a6{fr:List D->Option (List D)}(ha:PX X M a fa ca)(hr:PAX X M es fr)(hs:au (a :: es) X.env=(false,bW a X.env) :: au es X.env:=by rfl):PAX X M (a :: es) (a5 fa fr):=by
 obtain⟨ta,pa,qa⟩:=ha.out;obtain⟨tr,pr,qr⟩:=hr;refine⟨_,k9 pa pr hs,fun Z σ H P F ds Q S hf q=>?_⟩;obtain⟨x,h1,hf⟩:=bnd hf;obtain⟨xs,h2,hf⟩:=bnd hf;cases hf
 exact qa Z σ H P F _ _ S h1 fun v H1 e1 r1=>qr Z σ H1 P F _ _ (S.grow e1) h2 fun vs H2 e2 r2=>q (v :: vs) H2 (e1.trans e2) (denAll_cons (r1.den.up e2) r2)
theorem l6:PAN X M [] b8 []:=⟨_,o7,fun Z σ H P F ds Q S hf q=>by
 cases hf
 refine q [] H [] (Same.refl _) ?_ br fun a ha=>(nomatch ha)
 simp only [OwnTs];exact⟨trivial,trivial,trivial⟩⟩
theorem j6{fr:List D->Option (List D)}(ha:PX X M a fa (.new u))(hr:PAN X M es fr us)(hs:au (a :: es) X.env=(false,bW a X.env) :: au es X.env:=by rfl):PAN X M (a :: es) (a5 fa fr) (u :: us):=by
 obtain⟨ta,pa,qa⟩:=ha.out;obtain⟨tr,pr,qr⟩:=hr;refine⟨_,k9 pa pr hs,fun Z σ H P F ds Q S hf q=>?_⟩;obtain⟨x,h1,hf⟩:=bnd hf;obtain⟨xs,h2,hf⟩:=bnd hf;cases hf
 refine qa Z σ H P F _ _ S h1 fun v H1 e1 ⟨fp,o,n,fr⟩=>qr Z σ H1 P (fp ++ F) _ _ (S.more e1 fr (o.lst u)) h2 fun vs H2 gp e2 o2 n2 xU=>?_
 have hl:=o.lst u;have hc:Same (cut H1 (fp ++ F)) (cut H2 (fp ++ gp ++ F)):=G5 e2 fun a o' ha jK=>by
  rw [aP] at jK;rcases ay.mp jK with z|z
  ·exact aq _ z
  ·rcases ay.mp z with z|z
   ·rw [xU a z] at ha;cases ha
   ·exact aj _ z
 have hd:∀a∈gp,a∉fp:=fun a ha z=>by
  obtain⟨ys,q⟩:=hl a z;rw [xU a ha] at q;cases q
 refine q (v :: vs) H2 (fp ++ gp) (e1.trans e2) ?_ ?_ fun a ha=>?_
 ·simp only [OwnTs];refine⟨v,vs,x,xs,fp,gp,rfl,rfl,rfl,o.frame hc u fun a ha=>?_,o2.frame (H:=H2) (B3 fun a ha=>?_) us fun _ _=>rfl⟩
  ·obtain⟨ys,q⟩:=hl a ha;rw [q,e2 _ _ q]
  ·simp only [ay] at ha ⊢;rcases ha with (z|z)|z
   ·exact .inr (.inl z)
   ·exact .inl z
   ·exact .inr (.inr z)
 ·rw [bu];exact⟨n,n2,fun a ha b hb e=>hd b hb (e ▸ ha)⟩
 ·rcases ay.mp ha with z|z
  ·exact fr a z
  ·exact e1.free (xU a z)
end
end VS
namespace VS
open PySem PySem.Spec L2
section
variable {K:af}{H H0 H1:Hp}{F fp:List av}{vs:List V}{ds:List D}{p:av}{u:Ty}{us:List Ty}
theorem b4d(hp:H p=none):Same (cut H (fp ++ F)) (cut (upd H p o) (p :: fp ++ F)):=G5 (j9 hp o) fun a u ha jK=>by
 rw [bO] at jK;rcases aH.mp jK with z|z
 ·subst z;rw [hp] at ha;cases ha
 ·exact z
theorem a3S:∀{n:Nat} {vs:List V} {ds:List D} {fp:List av},OwnTs K H F (aC n u) vs ds fp->ListAll (Own K H F u) vs ds fp
 | 0,_,_,_,h=>by
  simp only [gg,OwnTs] at h;obtain⟨rfl,rfl,rfl⟩:=h;exact o8
 | n + 1,_,_,_,h=>by
  simp only [iG,OwnTs] at h;obtain⟨v,r,d,e,f,g,rfl,rfl,rfl,h1,h2⟩:=h;exact m7 h1 (a3S h2)
theorem OwnTs.len:∀{us:List Ty} {vs:List V} {ds:List D} {fp:List av},OwnTs K H F us vs ds fp->vs.length=us.length/\ds.length=us.length
 | [],_,_,_,h=>by simp only [OwnTs] at h;obtain⟨rfl,rfl,_⟩:=h;exact⟨rfl,rfl⟩
 | u :: us,_,_,_,h=>by
  simp only [OwnTs] at h;obtain⟨v,r,d,e,f,g,rfl,rfl,rfl,_,h2⟩:=h;obtain⟨a,b⟩:=OwnTs.len h2;exact⟨by rw [ba,ba,a],by rw [ba,ba,b]⟩
theorem p6(e:Same (cut H F) (cut H1 F'))(h:ListAll (Own K H F u) vs ds fp)(k:∀a∈fp,H1 a=H a):ListAll (Own K H1 F' u) vs ds fp:=
 h.imp fun v d f hf _ q=>q.frame e u fun a ha=>k a (hf a ha)
theorem a5x(h:ListAll (Own K H1 (fp ++ F) u) vs ds fp)(hn:fp.Nodup)(hf:∀a∈fp,H a=none)(e:Same H H1)(hp:H1 p=none)(hl:∀a∈fp,∃ys:MuO,H1 a=some ys.1):ResR K (.new (.l u)) H (upd H1 p (.lst vs)) F (.ref p) (.list ds):=by
 have t_:p∉fp:=fun z=>by obtain⟨ys,q⟩:=hl p z;rw [hp] at q;cases q
 refine⟨p :: fp,?_,bA.mpr ⟨t_,hn⟩,fun a ha=>?_⟩
 ·simp only [Own];refine .inr ⟨p,vs,ds,fp,rfl,i0,rfl,rfl,p6 (b4d hp) h fun a ha=>?_⟩;exact c9 fun z=>t_ (z ▸ ha)
 ·rcases aH.mp ha with z|z
  ·subst z;exact e.free hp
  ·exact hf a z
theorem ListAll.of_den:∀{vs:List V} {ds:List D},DenAll K H vs ds->(∀v d,d∈ds->Den K H v d->R v d [])->ListAll R vs ds []
 | _,[],h,_=>by rw [h.nil_inv];exact o8
 | _,d :: ds,h,k=>by
  obtain⟨v,r,rfl,h1,h2⟩:=h.cons_inv;have:=m7 (f:=[]) (k v d ah h1) (ListAll.of_den h2 fun v d hd=>k v d (ao _ hd));exact this
theorem E8:∀{ds:List D} {d:D},e6 ds=true->d∈ds->imm d=true
 | [],d,_,h=>nomatch h
 | d0 :: ds,d,q,h=>by
  simp only [e6,az] at q;rcases aH.mp h with z|z
  ·rw [z];exact q.1
  ·exact E8 q.2 z
theorem a0N(h:DenAll K H1 vs ds)(hi:e6 ds=true)(e:Same H H1)(hp:H1 p=none)(hF:∀a∈F,∃ys:MuO,H1 a=some ys.1):ResR K (.new (.l .i)) H (upd H1 p (.lst vs)) F (.ref p) (.list ds):=
 a5x (fp:=[]) (ListAll.of_den h fun v d hd q=>by
  simp only [Own,bT];exact⟨trivial,E8 hi hd,q.imm_out hF d (E8 hi hd)⟩) br (fun a ha=>(nomatch ha)) e hp fun a ha=>(nomatch ha)
theorem a2l(h:DenAll K H1 vs ds)(hp:H1 p=none):Den K (upd H1 p (.tup vs)) (.ref p) (.tuple ds):=den_tup (SqT.of i0) (h.up (j9 hp _))
theorem b4e(h:e6 ds=true):imm (.tuple ds)=true:=by simpa only [imm] using h
end
def t8(f:EvA):EvE:=fun Z=>(f Z).bind fun ds=>some (.list ds)
def C7(f:EvA):EvE:=fun Z=>(f Z).bind fun ds=>some (.tuple ds)
def a4L(d:D):Option D:=if imm d then some d else none
theorem a3T(h:a4L d=some e):e=d/\imm d=true:=by
 unfold a4L at h;by_cases c:imm d=true
 ·rw [aE c] at h;exact⟨(aD h).symm,c⟩
 ·rw [aO c] at h;cases h
def b1y(d:D):Option D:=match d with
 | .list ds=>if e6 ds then some d else none
 | _=>none
theorem a7h(h:b1y d=some e):∃ds,d=.list ds/\e=.list ds/\e6 ds=true:=by
 cases d with
 | list ds=>
  have h':(if e6 ds=true then some (dy ds) else none)=some e:=h;by_cases c:e6 ds=true
  ·rw [aE c] at h';exact⟨ds,rfl,(aD h').symm,c⟩
  ·rw [aO c] at h';cases h'
 | _=>cases h
section
variable {X:Cx}{M:List Md}{a b e:Expr}{es:List Expr}{fa fb:EvE}{f:EvA}{c ca cb:Cat}{u:Ty}{us:List Ty}{pos:ek}
theorem y7(h:PAN X M es f (aC n u))(hn:n<=1000:=by decide):PX X M (.List es pos) (t8 f) (.new (.l u)):=by
 obtain⟨t,p,q⟩:=h;refine .mk ⟨_,b6A p,fun Z σ H P F d Q S hf k=>?_⟩;obtain⟨ds,h1,hf⟩:=bnd hf;cases hf
 refine q Z σ H P F ds _ S h1 fun vs H1 fp e o nd fr=>⟨?_,fun x hx=>k (.ref x) _ (e.trans (j9 hx _)) (a5x (a3S o) nd fr e hx (o.lst _))⟩
 rw [o.len.1,fy];exact dA (O5 hn)
theorem a2m(h:PAN X M es f us)(hn:us.length<=1000:=by decide):PX X M (.Tuple es j pos) (C7 f) (.new (.tp us)):=by
 obtain⟨t,p,q⟩:=h;refine .mk ⟨_,a4C p,fun Z σ H P F d Q S hf k=>?_⟩;obtain⟨ds,h1,hf⟩:=bnd hf;cases hf
 refine q Z σ H P F ds _ S h1 fun vs H1 fp e o nd fr=>⟨?_,fun x hx=>k (.ref x) _ (e.trans (j9 hx _)) ⟨fp,?_,nd,fr⟩⟩
 ·rw [o.len.1];exact dA (O5 hn)
 ·have yG:x∉fp ++ F:=fun z=>by
   rcases ay.mp z with z|z
   ·obtain⟨ys,q⟩:=o.lst _ x z;rw [hx] at q;cases q
   ·obtain⟨ys,q⟩:=S.lst' e x z;rw [hx] at q;cases q
  simp only [Own];refine⟨x,vs,ds,rfl,i0,yG,rfl,o.frame (K6 (j9 hx _)) us fun a ha=>?_⟩;exact c9 fun z=>yG (z ▸ aq _ ha)
theorem a5y:∀{n:Nat} {vs:List V} {ds:List D} {fp:List av},OwnTs K H F (aC n .i) vs ds fp->e6 ds=true
 | 0,_,_,_,h=>by
  simp only [gg,OwnTs] at h;obtain⟨rfl,rfl,rfl⟩:=h;simp only [e6]
 | n + 1,_,_,_,h=>by
  simp only [iG,OwnTs] at h;obtain⟨v,r,d,e,f,g,rfl,rfl,rfl,h1,h2⟩:=h;simp only [e6,az];exact⟨(a1n h1).2.1,a5y h2⟩
theorem V6{j}(h:PAN X M es f (aC n .i))(hn:n<=1000:=by decide):PX X M (.Tuple es j pos) (C7 f) (.new .i):=by
 obtain⟨t,p,q⟩:=h;refine .mk ⟨_,a4C p,fun Z σ H P F d Q S hf k=>?_⟩;obtain⟨ds,h1,hf⟩:=bnd hf;cases hf
 refine q Z σ H P F ds _ S h1 fun vs H1 fp e o nd fr=>⟨?_,fun x hx=>k (.ref x) _ (e.trans (j9 hx _)) (K7 (b4e (a5y o)) (a2l (o.den _) hx) (S.lst' (e.trans (j9 hx _))))⟩
 rw [o.len.1,fy];exact dA (O5 hn)
theorem b4f{j}(h:PAX X M es f)(hn:es.length<=1000:=by decide)(hl:∀Z ds,f Z=some ds->ds.length=es.length):PX X M (.Tuple es j pos) (C7 f) .tmp:=by
 obtain⟨t,p,q⟩:=h;refine .mk ⟨_,a4C p,fun Z σ H P F d Q S hf k=>?_⟩;obtain⟨ds,h1,hf⟩:=bnd hf;cases hf
 refine q Z σ H P F ds _ S h1 fun vs H1 e o=>⟨?_,fun x hx=>k (.ref x) _ (e.trans (j9 hx _)) (a2l o hx)⟩
 rw [o.length,hl Z ds h1];exact dA (O5 hn)
theorem a9M{Z:List D}(hr:∀Z ds,r Z=some ds->ds.length=n)(h:a5 fa r Z=some ds):ds.length=n + 1:=by
 obtain⟨x,_,h⟩:=bnd h;obtain⟨xs,h2,h⟩:=bnd h;cases h
 rw [ba,hr Z xs h2]
def dIx:D->D->Option D
 | .list ds,.int k=>atI ds k
 | .tuple ds,.int k=>atI ds k
 | _,_=>none
def A5:D->D->Option D
 | .list ds,.int k=>atI ds k
 | _,_=>none
def j7(a b:D):Option D:=(dIx a b).bind a4L
theorem DenAll.atI(h:DenAll K H vs ds)(e:L2.atI ds k=some d):∃v j,L2.atI vs k=some v/\ixN ds.length k=some j/\vs[j]?=some v/\ds[j]?=some d/\Den K H v d:=by
 unfold L2.atI at e ⊢;obtain⟨j,e1,e2⟩:=bnd e;obtain⟨v,h1,h2⟩:=h.get e2;exact⟨v,j,by rw [h.length,e1];exact h1,e1,h1,e2,h2⟩
def b9j(K:af):R2:=fun x y H Q=>b9e K x y H Q∨b9f K x y H Q
theorem a4M:IxR X (b9j X.K):=b3T.or b6C
theorem a8y(h:dIx x y=some d):∃ds k,(x=.list ds∨x=.tuple ds)/\y=.int k/\L2.atI ds k=some d:=by
 cases x with
 | list ds=>cases y with
  | int k=>exact⟨ds,k,.inl rfl,rfl,h⟩
  | _=>cases h
 | tuple ds=>cases y with
  | int k=>exact⟨ds,k,.inr rfl,rfl,h⟩
  | _=>cases h
 | _=>cases h
theorem b9k(hx:Den K H v x)(hy:Den K H w y)(h:dIx x y=some d)(q:∀z,Den K H z d->Q z H):b9j K v w H Q:=by
 obtain⟨ds,k,e,rfl,h⟩:=a8y h;cases hy.int_inv
 rcases e with rfl|rfl
 ·obtain⟨a,xs,rfl,h1,h2⟩:=hx.list_inv;obtain⟨z,j,z1,z2,z3,z4,z5⟩:=h2.atI h;exact .inl ⟨a,xs,k,z,rfl,rfl,h1.l,z1,q z z5⟩
 ·obtain⟨a,xs,rfl,h1,h2⟩:=hx.tup_inv;obtain⟨z,j,z1,z2,z3,z4,z5⟩:=h2.atI h;exact .inr ⟨a,xs,k,z,rfl,rfl,h1,z1,q z z5⟩
theorem m9(ha:PX X M a fa ca)(hb:PX X M b fb cb)(hs:a1P b:=by exact fun _ _=>rfl):PX X M (.Subscript a b pos) (e2 j7 fa fb) (.new .i):=by
 obtain⟨ta,pa,qa⟩:=ha.out;obtain⟨tb,pb,qb⟩:=hb.out;refine .mk ⟨_,a8v a4M pa pb hs,fun Z σ H P F d Q S hf q=>?_⟩;obtain⟨x,y,h1,h2,h3⟩:=A4 hf;obtain⟨d',h3,h4⟩:=bnd h3;obtain⟨rfl,hi⟩:=a3T h4;exact qa Z σ H P F x _ S h1 fun v H1 e1 r1=>qb Z σ H1 P F y _ (S.grow e1) h2 fun w H2 e2 r2=>b9k (r1.den.up e2) r2.den h3 fun z hz=>q z H2 (e1.trans e2) (K7 hi hz (S.lst' (e1.trans e2)))
theorem Y6(ha:PX X M a fa (.new .f))(hb:PX X M b fb cb)(hs:a1P b:=by exact fun _ _=>rfl):PX X M (.Subscript a b pos) (e2 dIx fa fb) (.new .f):=by
 obtain⟨ta,pa,qa⟩:=ha.out;obtain⟨tb,pb,qb⟩:=hb.out;refine .mk ⟨_,a8v a4M pa pb hs,fun Z σ H P F d Q S hf q=>?_⟩;obtain⟨x,y,h1,h2,h3⟩:=A4 hf;refine qa Z σ H P F x _ S h1 fun v H1 e1 ⟨fp,o,_,_⟩=>qb Z σ H1 P F y _ (S.grow e1) h2 fun w H2 e2 r2=>?_
 obtain⟨rfl,o⟩:=b1w o;have o2:Den X.K (cut H2 F) v x:=o.up (K6 e2);obtain⟨ds,k,e,rfl,h⟩:=a8y h3;have fin:∀z,Den X.K (cut H2 F) z d->Q z H2:=fun z hz=>q z H2 (e1.trans e2) ⟨[],by simp only [Own,bT];exact⟨trivial,hz⟩,br,fun a ha=>(nomatch ha)⟩
 have ey:=r2.den.int_inv;rcases e with rfl|rfl
 ·obtain⟨a,xs,rfl,h1,h2⟩:=o2.list_inv;obtain⟨z,j,z1,z2,z3,z4,z5⟩:=h2.atI h;exact .inl ⟨a,xs,k,z,rfl,ey,(T4 h1 i4).l,z1,fin z z5⟩
 ·obtain⟨a,xs,rfl,h1,h2⟩:=o2.tup_inv;obtain⟨z,j,z1,z2,z3,z4,z5⟩:=h2.atI h;exact .inr ⟨a,xs,k,z,rfl,ey,a0J h1 i4,z1,fin z z5⟩
theorem A8(ha:PX X M a fa (.bor (.l u)))(hb:PX X M b fb cb)(hs:a1P b:=by exact fun _ _=>rfl):PX X M (.Subscript a b pos) (e2 A5 fa fb) (.bor u):=by
 obtain⟨ta,pa,qa⟩:=ha.out;obtain⟨tb,pb,qb⟩:=hb.out;refine .mk ⟨_,a8v a4M pa pb hs,fun Z σ H P F d Q S hf q=>?_⟩;obtain⟨x,y,h1,h2,h3⟩:=A4 hf;refine qa Z σ H P F x _ S h1 fun v H1 e1 ⟨fp,o,sub⟩=>qb Z σ H1 P F y _ (S.grow e1) h2 fun w H2 e2 r2=>?_
 have o2:=o.grow e2;cases x with
 | list ds=>
  cases y with
  | int k=>
   simp only [Own] at o2;rcases o2 with⟨_,hi,_⟩|⟨p,xs,jy,fs,rfl,p1,p2,rfl,p3⟩
   ·simp only [imm] at hi;cases hi
   ·cases p2
    have qO:(ixN ds.length k).bind (fun j=>ds[j]?)=some d:=h3;obtain⟨j,j1,j2⟩:=bnd qO;obtain⟨z,f,pre,post,z1,z2,z3,_,_⟩:=p3.at_ j2;refine .inl ⟨p,xs,k,z,rfl,r2.den.int_inv,.inl (.inl p1),?_,q z H2 (e1.trans e2) ⟨f,z2,fun a ha=>sub a ?_⟩⟩
    ·unfold L2.atI;rw [p3.length,j1];exact z1
    ·rw [z3];exact ao _ (aj _ (aq _ ha))
  | _=>cases h3
 | _=>cases h3
end
end VS
namespace VS
open PySem PySem.Spec L2
def eCl(g:List D->Option D)(f:EvA):EvE:=fun Z=>(f Z).bind g
section
variable {X:Cx}{M:List Md}{a b e e0:Expr}{es:List Expr}{fa fb:EvE}{f:EvA}{c ca cb:Cat}{u:Ty}{us:List Ty}{pos p:ek}{x:bc}
theorem a7i{id:String}{g:List D->Option D}(hc:a8w X (.builtin id) g)(hm:X.mg x=none)(hv:gz x=some (.builtin id))(h:PAX X M (e0 :: es) f)(hg:Gl X x:=by rfl)(hn:x≠"__name__":=by decide)(jM:(x == ("__debug__":bc))=false:=by decide)
  (he:au (e0 :: es) X.env=(false,bW e0 X.env) :: au es X.env:=by rfl) (fD:(b_ pos (au es X.env)).any (·.1)=false:=by rfl):PX X M (.Call (.Name x p) (e0 :: es) [] pos) (eCl g f) (.new .i):=by
 obtain⟨r,hr,hs⟩:=hc;obtain⟨t,pa,qa⟩:=h;refine .mk ⟨_,T0 hr hg hm hv pa hn jM he fD,fun Z σ H P F d Q S hf q=>?_⟩;obtain⟨ds,h1,hf⟩:=bnd hf;exact qa Z σ H P F ds _ S h1 fun vs H1 e1 r1=>hs vs H1 ds d Q r1 hf fun z hi hd=>q z H1 e1 (K7 hi (hd H1) (S.lst' e1))
theorem a0o(h:DenAll K H xs [d]):∃v,xs=[v]/\Den K H v d:=by
 obtain⟨v,r,rfl,h1,h2⟩:=h.cons_inv;cases h2.nil_inv
 exact⟨v,rfl,h1⟩
theorem a8z{K:af}{H:Hp}{xs:List V}{d e:D}(h:DenAll K H xs [d,e]):∃v w,xs=[v,w]/\Den K H v d/\Den K H w e:=by
 obtain⟨v,r,rfl,h1,h2⟩:=h.cons_inv;obtain⟨w,rfl,h3⟩:=a0o h2;exact⟨v,w,rfl,h1,h3⟩
def o3:List D->Option D
 | [.list ds]=>some (.int ds.length)
 | [.tuple ds]=>some (.int ds.length)
 | [.str x]=>if x.length<=aS then some (.int x.length) else none
 | _=>none
theorem b6I:a8w X (.builtin "len") o3:=by
 refine⟨_,a4F.or a4G,fun xs H ds d Q hd hg q=>?_⟩
 match ds,hg with
 | [.list es],hg=>
  cases hg
  obtain⟨v,rfl,h⟩:=a0o hd;obtain⟨a,ys,rfl,h1,h2⟩:=h.list_inv;refine .inl ⟨a,ys,rfl,.inl h1.l,?_⟩;rw [h2.length];exact q _ (by simp only [imm]) fun _=>den_int
 | [.tuple es],hg=>
  cases hg
  obtain⟨v,rfl,h⟩:=a0o hd;obtain⟨a,ys,rfl,h1,h2⟩:=h.tup_inv;refine .inl ⟨a,ys,rfl,.inr h1,?_⟩;rw [h2.length];exact q _ (by simp only [imm]) fun _=>den_int
 | [.str x],hg=>
  have nL:(if x.length<=aS then some (bt x.length) else none)=some d:=hg;by_cases z:x.length<=aS
  ·rw [aE z] at nL;cases nL
   obtain⟨v,rfl,h⟩:=a0o hd;cases h.str_inv
   exact .inr ⟨x,rfl,z,q _ (by simp only [imm]) fun _=>den_int⟩
  ·rw [aO z] at nL;cases nL
 | [.none],hg|[.bool _],hg|[.int _],hg|[.dict _],hg=>cases hg
 | [],hg=>cases hg
 | d1 :: _ :: _,hg=>cases d1 <;> cases hg
def a1S(mx:Bool):List D->Option D
 | [.int i,.int j]=>some (.int (if mx then (if j > i then j else i) else (if j < i then j else i)))
 | _=>none
theorem b6J(h:a1S mx ds=some d):∃i j,ds=[.int i,.int j]/\d=.int (if mx then (if j > i then j else i) else (if j < i then j else i)):=by
 match ds,h with
 | [.int i,.int j],h=>cases h;exact⟨i,j,rfl,rfl⟩
theorem b6K(hc:X.calm=true):a8w X (.builtin "min") (a1S false):=by
 refine⟨_,a9B hc,fun xs H ds d Q hd hg q=>?_⟩;obtain⟨i,j,rfl,rfl⟩:=b6J hg;obtain⟨v,w,rfl,h1,h2⟩:=a8z hd;cases h1.int_inv
 cases h2.int_inv
 exact⟨i,j,rfl,q _ (by simp only [imm]) fun _=>den_int⟩
def a1o:List D->Option (List Bool)
 | []=>some []
 | .bool b :: r=>(a1o r).map (b :: ·)
 | _=>none
theorem a2n:∀{ds:List D} {bs:List Bool} {xs:List V},a1o ds=some bs->DenAll K H xs ds->xs=bs.map V.bl
 | [],bs,xs,h,q=>by cases h;rw [q.nil_inv];rfl
 | .bool b :: r,bs,xs,h,q=>by
  have h':(a1o r).map (b :: ·)=some bs:=h;obtain⟨cs,h1,rfl⟩:=bY.mp h';obtain⟨v,rs,rfl,h2,h3⟩:=q.cons_inv;cases h2.bool_inv
  rw [a2n h1 h3];rfl
 | .none :: r,bs,xs,h,q|.int _ :: r,bs,xs,h,q|.str _ :: r,bs,xs,h,q|.list _ :: r,bs,xs,h,q|.tuple _ :: r,bs,xs,h,q|.dict _ :: r,bs,xs,h,q=>by cases h
def b6L:List D->Option D
 | [.list ds]=>(a1o ds).map fun bs=>.bool (bs.all id)
 | _=>none
open PyProof.Rows in
theorem a9N(hc:X.calm=true):CallR X (.builtin "all") (fun xs H Q=>∃(p:av) (bs:List Bool),xs=[.ref p]/\SqX X.K H p (bs.map V.bl)/\Q (.bl (bs.all id)) H):=by
 intro pins s σ H xs us Q I r h;obtain⟨p,bs,rfl,hp,q⟩:=h;obtain⟨u,rfl,rx⟩:=vals1 r;cases (show u=be p from rx)
 obtain⟨hz,bU,n,rv,ho⟩:=hp.ok I;have hl:s.heap.IsList p bU.toArray:=⟨_,ho,rfl,_,rfl⟩;have hlen:bs.length=bU.length:=by have:=rv.length;simpa using this
 refine call_all_walk (nT hl ?_);have gy:p≠s.heap.objs.size:=bj (aN ho);refine⟨s.heap.objs.size,[s.heap.objs.size,p],[s.heap.objs.size],_,_,_,fun i=>(bs.getD i false),rfl,Walks.list (A:=X.A.in1) (by simpa using I.ok.hd hc) s.heap.objs.size p gy bU.toArray,⟨⟨_,aR _ rfl,rfl,rfl⟩,hl.at fun o e=>aw _ e⟩,?_,?_⟩
 ·intro i v s' Q' E' hP hQ;have hv:bU[i]?=some v:=by simpa using hP
  have hi:i < bs.length:=by rw [hlen];exact (aY.mp hv).1
  obtain⟨u,hu,ru⟩:=rv.get (i:=i) (x:=.bl bs[i]) (by simp [hi]);rw [hv] at hu;cases hu
  cases (show v=iM bs[i] from ru)
  refine cg ?_;have e:bs.getD i false=bs[i]:=by simp [hi]
  have zl:Q' (bs.getD i false) s':=hQ;rw [e] at zl;exact zl
 ·intro h' tk hk;have e:(aJ bU.toArray.size).all (fun i=>bs.getD i false)=bs.all id:=by
   rw [aT,<-hlen,Bool.eq_iff_iff,bP,bP]
   constructor
   ·intro z b hb;obtain⟨i,hi,rfl⟩:=iy.mp hb;have:=z i (bo.mpr hi);simpa [hi] using this
   ·intro z i hi;have kc:=bo.mp hi;have:=z bs[i] (cQ kc);simpa [kc] using this
  rw [e];refine⟨.bl _,H,?_,rfl,q⟩;exact I.kept (t':=tk) fun b o e=>hk b o (fun z=>by
   have z':=ax.mp z;rw [z'] at e;exact absurd (aN e) (cE _)) (aw _ e)
theorem b6M(hc:X.calm=true):a8w X (.builtin "all") b6L:=by
 refine⟨_,a9N hc,fun xs H ds d Q hd hg q=>?_⟩
 match ds,hg with
 | [.list es],hg=>
  have nL:(a1o es).map (fun bs=>cm (bs.all id))=some d:=hg;obtain⟨bs,h1,rfl⟩:=bY.mp nL;obtain⟨v,rfl,h⟩:=a0o hd;obtain⟨a,ys,rfl,h2,h3⟩:=h.list_inv;rw [a2n h1 h3] at h2;exact⟨a,bs,rfl,h2,q _ (by simp only [imm]) fun _=>den_bool⟩
 | [.none],hg|[.bool _],hg|[.str _],hg|[.dict _],hg|[.int _],hg|[.tuple _],hg=>cases hg
 | [],hg=>cases hg
 | d1 :: _ :: _,hg=>cases d1 <;> cases hg
def tyD:D->String
 | .int _=>"int"
 | .bool _=>"bool"
 | .list _=>"list"
 | .tuple _=>"tuple"
 | .none=>"NoneType"
 | .str _=>"str"
 | .dict _=>"dict"
theorem Den.ty{K:af}{H:Hp}{v:V}:∀{d:D},Den K H v d->(∀ds,d≠.tuple ds)->(∀ds,d≠.list ds)->(∀ds,d≠.dict ds)->TyOf K H v (.type (tyD d))
 | .none,h,_,_,_=>by cases h.none_inv;exact .non
 | .bool _,h,_,_,_=>by cases h.bool_inv;exact .bl _
 | .int _,h,_,_,_=>by cases h.int_inv;exact .int _
 | .str _,h,_,_,_=>by cases h.str_inv;exact .str _
 | .list ds,h,_,q,_=>absurd rfl (q ds)
 | .tuple ds,h,q,_,_=>absurd rfl (q ds)
 | .dict ds,h,_,_,q=>absurd rfl (q ds)
def b9l(K:af)(T:String)(g:D->Bool):List V->Hp->VK->Prop:=fun xs H Q=>∃x d,xs=[x,.ty T]/\Den K H x d/\Q (.bl (g d)) H
theorem a7j{pins:List (av × eD)}{σ:L2.St}{H:Hp}{s:ak}{A:bx}{E:ai->ak->Prop}{Q:ai->ak->Prop}{cv:ai}{k:Bool}{a:av}{xs:List V}(I:Inv X pins σ H s)(h:SqT X.K H a xs)(e:cN X.K (.type "tuple") cv=some k)(hq:∀tk,Q (.bool k) {s with toks:=tk}) :
  aM (aU X.prog X.w) A (call (.builtin "isinstance") [.ref a,cv]) Q E s:=by
 obtain⟨bU,_,⟨o,h1,h2,_⟩,_⟩:=I.tuple h;exact bX yf I.kIn ⟨o,h1,h2⟩ e (fun z=>nomatch z) hq
theorem a7k{pins:List (av × eD)}{σ:L2.St}{H:Hp}{s:ak}{A:bx}{E:ai->ak->Prop}{Q:ai->ak->Prop}{cv:ai}{k:Bool}{a:av}{xs:List V}(I:Inv X pins σ H s)(h:SqX X.K H a xs)(e:cN X.K (.type "list") cv=some k)(hq:∀tk,Q (.bool k) {s with toks:=tk}) :
  aM (aU X.prog X.w) A (call (.builtin "isinstance") [.ref a,cv]) Q E s:=by
 obtain⟨_,bU,n,_,h1⟩:=h.ok I;exact bX mo I.kIn ⟨_,h1,rfl⟩ e (fun z=>nomatch z) hq
theorem a7l{pins:List (av × eD)}{σ:L2.St}{H:Hp}{s:ak}{A:bx}{E:ai->ak->Prop}{Q:ai->ak->Prop}{cv:ai}{k:Bool}{a:av}{es:List (D × V × V)}(I:Inv X pins σ H s)(h:H a=some (f8 a es))(e:cN X.K (.type "dict") cv=some k)(hq:∀tk,Q (.bool k) {s with toks:=tk}) :
  aM (aU X.prog X.w) A (call (.builtin "isinstance") [.ref a,cv]) Q E s:=by
 obtain⟨⟨_,_,_,o,ents,_,h1,h2,_⟩,_⟩:=(show ObjOk X.prog X.w H s.heap a (f8 a es) from I.hok a _ h);exact bX mq I.kIn ⟨o,h1,h2.1⟩ e (fun z=>nomatch z) hq
theorem a9O{T:String}{g:D->Bool}(hf:∀(K:af) (d:D),cN K (.type (tyD d)) (.type T)=some (g d)):CallR X (.builtin "isinstance") (b9l X.K T g):=by
 intro pins s σ H xs us Q I r h;obtain⟨x,d,rfl,hd,q⟩:=h;obtain⟨u,w',rfl,rx,ry⟩:=vals2 r;cases (show w'=eU T from ry)
 by_cases ht:(∀ds,d≠.tuple ds)/\(∀ds,d≠.list ds)/\(∀ds,d≠.dict ds)
 ·exact a3G I rx (hd.ty ht.1 ht.2.1 ht.2.2) (hf X.K d) fun tk=>⟨.bl _,H,I.tok tk,rfl,q⟩
 ·cases d with
  | list ds=>
   obtain⟨a,ys,rfl,h1,_⟩:=hd.list_inv;cases (show u=be a from rx)
   exact a7k I h1 (hf X.K (.list ds)) fun tk=>⟨.bl _,H,I.tok tk,rfl,q⟩
  | tuple ds=>
   obtain⟨a,ys,rfl,h1,_⟩:=hd.tup_inv;cases (show u=be a from rx)
   exact a7j I h1 (hf X.K (.tuple ds)) fun tk=>⟨.bl _,H,I.tok tk,rfl,q⟩
  | dict ds=>
   simp only [Den] at hd;obtain⟨a,es,rfl,h1,_⟩:=hd;cases (show u=be a from rx)
   exact a7l I h1 (hf X.K (.dict ds)) fun tk=>⟨.bl _,H,I.tok tk,rfl,q⟩
  | _=>exact absurd ⟨(fun ds z=>by cases z),(fun ds z=>by cases z),(fun ds z=>by cases z)⟩ ht
def isInt:D->Bool
 | .int _=>true
 | .bool _=>true
 | _=>false
def isBool:D->Bool
 | .bool _=>true
 | _=>false
def isList:D->Bool
 | .list _=>true
 | _=>false
def M8:D->Bool
 | .tuple _=>true
 | _=>false
theorem T7{g:D->Bool}(hf:∀(K:af) (d:D),cN K (.type (tyD d)) (.type T)=some (g d))(hm:X.mg "isinstance"=none)(hy:X.mg y=none)(hb:gz y=some (.type T))(h:PX X M a fa ca)
  (hg:Gl X "isinstance":=by rfl) (xq:Gl X y:=by rfl) (Br:y≠"__name__":=by decide) (xD:(y == ("__debug__":bc))=false:=by decide)
  (he:au [a,.Name y py] X.env=(false,bW a X.env) :: au [.Name y py] X.env:=by rfl) (lj:au [.Name y py] X.env=(false,bW (.Name y py) X.env) :: au [] X.env:=by rfl) (fD:(b_ pos (au [.Name y py] X.env)).any (·.1)=false:=by rfl) :
  PX X M (.Call (.Name "isinstance" p) [a,.Name y py] [] pos) (e1 (fun d=>some (.bool (g d))) fa) (.new .i):=by
 obtain⟨ta,pa,qa⟩:=h.out;refine .mk ⟨_,T0 (a9O hf) hg hm PyProof.Rows.Boot.«isinstance» (k9 pa (k9 (b3H (v:=.ty T) xq hy hb rfl Br xD) o7 lj) he) (by decide) (by decide) he fD,fun Z σ H P F d Q S kJ q=>?_⟩;obtain⟨x,h1,kJ⟩:=bnd kJ;cases kJ
 exact qa Z σ H P F x _ S h1 fun v H1 e1 r1=>⟨v,x,rfl,r1.den,q _ H1 e1 (K7 (by simp only [imm]) den_bool (S.lst' e1))⟩
theorem a8A(K:af)(d:D):cN K (.type (tyD d)) (.type "int")=some (isInt d):=by cases d <;> rfl
theorem a5z(K:af)(d:D):cN K (.type (tyD d)) (.type "bool")=some (isBool d):=by cases d <;> rfl
theorem a2o(K:af)(d:D):cN K (.type (tyD d)) (.type "list")=some (isList d):=by cases d <;> rfl
theorem a9P(K:af)(d:D):cN K (.type (tyD d)) (.type "tuple")=some (M8 d):=by cases d <;> rfl
end
end VS
namespace VS
open PySem PySem.Spec L2
def cutD(ds:List D)(lo hi:Option Int):List D:=(ds.drop (HT.sIx ds.length 0 lo)).take (HT.sIx ds.length ds.length hi - HT.sIx ds.length 0 lo)
abbrev EvO:=List D->Option (Option Int)
def oNo:EvO:=fun _=>some none
def asI:D->Option Int
 | .int i=>some i
 | _=>none
def oSo(a:EvE):EvO:=fun Z=>(a Z).bind fun d=>(asI d).bind fun i=>some (some i)
theorem P2(h:asI d=some i):d=.int i:=by
 cases d with
 | int j=>cases h;rfl
 | _=>cases h
def asL:D->Option (List D)
 | .list ds=>some ds
 | _=>none
theorem K9(h:asL d=some ds):d=.list ds:=by
 cases d with
 | list j=>cases h;rfl
 | _=>cases h
def asS:D->Option (List D)
 | .list ds=>some ds
 | .tuple ds=>some ds
 | _=>none
def POX(X:Cx)(M:List Md)(e:Option Expr)(f:EvO):Prop:=
 ∃t,PO X e t/\∀(Z:List D) (σ:L2.St) (H P:Hp) (F:List av) (o:Option Int) (Q:Option Int->Hp->Prop),StE X.K M Z σ H P F->f Z=some o->(∀H',Same H H'->Q o H')->t σ H Q
def eSl(a:EvE)(lo hi:EvO):EvE:=fun Z=>(a Z).bind fun x=>(asL x).bind fun ds=>(lo Z).bind fun l=>(hi Z).bind fun h=>some (.list (cutD ds l h))
def eI(a:EvE):EvE:=fun Z=>(a Z).bind b1y
section
variable {X:Cx}{M:List Md}{a b e e0:Expr}{lo hi:Option Expr}{es:List Expr}{fa fb:EvE}{fl fh:EvO}{f:EvA}{c ca cb:Cat}{u:Ty}{us:List Ty}{pos p p2:ek}{x:bc}
theorem G6:POX X M none oNo:=⟨_,b3R,fun Z σ H P F o Q S hf q=>by cases hf;exact q H (Same.refl _)⟩
theorem G7(h:PX X M a fa ca):POX X M (some a) (oSo fa):=by
 obtain⟨t,p,q⟩:=h.out;refine⟨_,b3S p,fun Z σ H P F o Q S hf k=>?_⟩;obtain⟨d,h1,pV⟩:=bnd hf;obtain⟨i,h2,pU⟩:=bnd pV;cases P2 h2
 cases pU
 exact q Z σ H P F _ _ S h1 fun v H1 e1 r1=>⟨i,r1.den.int_inv,k H1 e1⟩
structure MkL (X:Cx) (M:List Md) (e:Expr) (f:EvE) (A:Prop):Prop where
 run:∃t,PE X e t/\∀(Z:List D) (σ:L2.St) (H P:Hp) (F:List av) (d:D) (Q:VK),StE X.K M Z σ H P F->f Z=some d->
  (∀vs ds H1 l,Same H H1->d=.list ds->DenAll X.K H1 vs ds->(A->DenAll X.K (cut H1 F) vs ds)->H1 l=none->Q (.ref l) (upd H1 l (.lst vs)))->t σ H Q
theorem MkL.i{f:EvE}{A:Prop}(h:MkL X M e f A):PX X M e (eI f) (.new (.l .i)):=by
 obtain⟨t,p,q⟩:=h.run;refine .mk ⟨t,p,fun Z σ H P F d Q S hf k=>?_⟩;obtain⟨d',g1,hc⟩:=bnd hf;clear hf;obtain⟨es,rfl,rfl,hi⟩:=a7h hc;refine q Z σ H P F _ Q S g1 fun vs ds H1 l e1 ed h1 _ hl=>?_
 cases ed
 exact k _ _ (e1.trans (j9 hl _)) (a0N h1 hi e1 hl (S.lst' e1))
def frozen:Cat->Prop
 | .new .f=>True
 | .new .i=>True
 | _=>False
theorem J6(hc:frozen c)(r:ResR K c H H1 F v d):Den K (cut H1 F) v d:=by
 match c,hc with
 | .new .f,_=>
  obtain⟨fp,o,_⟩:=r;obtain⟨rfl,o⟩:=b1w o;exact o
 | .new .i,_=>
  obtain⟨fp,o,_⟩:=r;obtain⟨rfl,_,o⟩:=a1n o;exact o
theorem J7(r:ResR K c H H1 F v (.list ds)):∃a xs,v=.ref a/\SqX K H1 a xs/\DenAll K H1 xs ds/\(frozen c->DenAll K (cut H1 F) xs ds):=by
 by_cases hc:frozen c
 ·obtain⟨a,xs,rfl,k1,k2⟩:=(J6 hc r).list_inv;exact⟨a,xs,rfl,T4 k1 i4,k2.up i4,fun _=>k2⟩
 ·obtain⟨a,xs,rfl,k1,k2⟩:=r.den.list_inv;exact⟨a,xs,rfl,k1,k2,fun h=>absurd h hc⟩
theorem b1z:SlR X (fun x lo hi H Q=>∃a xs,x=.ref a/\SqX X.K H a xs/\∀p,H p=none->Q (.ref p) (upd H p (.lst (a7a xs lo hi)))):=by
 intro pins s σ H x v vl vu lo hi sl Q I rx hs pl pu ⟨a,xs,e,h,q⟩;exact b3U pins s σ H x v vl vu lo hi sl Q I rx hs pl pu ⟨a,xs,e,h.l,q⟩
theorem a8B(h:DenAll K H vs ds)(lo hi:Option Int):DenAll K H (a7a vs lo hi) (cutD ds lo hi):=by
 unfold a7a cutD;rw [h.length];exact (h.drop _).take _
theorem G8(ha:PX X M a fa ca)(hl:POX X M lo fl)(hh:POX X M hi fh):MkL X M (.Subscript a (.Slice lo hi none p2) pos) (eSl fa fl fh) (frozen ca):=by
 obtain⟨ta,pa,qa⟩:=ha.out;obtain⟨tl,pl,ql⟩:=hl;obtain⟨th,ph,qh⟩:=hh;refine⟨_,b1n b1z pa pl ph,fun Z σ H P F d Q S hf q=>?_⟩;obtain⟨x,h1,pV⟩:=bnd hf;obtain⟨ds,h2,pU⟩:=bnd pV;cases K9 h2
 obtain⟨l,h3,xS⟩:=bnd pU;obtain⟨h,h4,sS⟩:=bnd xS;cases sS
 refine qa Z σ H P F _ _ S h1 fun v H1 e1 r1=>ql Z σ H1 P F l _ (S.grow e1) h3 fun H2 e2=>qh Z σ H2 P F h _ (S.grow (e1.trans e2)) h4 fun H3 e3=>?_
 obtain⟨pp,xs,rfl,k1,k2,k3⟩:=J7 (r1.up (e2.trans e3));exact⟨pp,xs,rfl,k1,fun z hz=>q _ _ H3 z ((e1.trans e2).trans e3) rfl (a8B k2 l h) (fun hc=>a8B (k3 hc) l h) hz⟩
def a2p(a:EvE):EvE:=fun Z=>(a Z).bind fun d=>(asS d).bind fun ds=>some (.list ds)
theorem a8C(hm:X.mg "list"=none)(ha:PX X M a fa ca)(hg:Gl X "list":=by rfl)(he:au [a] X.env=(false,bW a X.env) :: au [] X.env:=by rfl)(fD:(b_ pos (au [] X.env)).any (·.1)=false:=by rfl) :
  MkL X M (.Call (.Name "list" p) [a] [] pos) (a2p fa) (frozen ca):=by
 obtain⟨ta,pa,qa⟩:=ha.out;refine⟨_,E5 a4H hg hm PyProof.Rows.Boot.«list» (k9 pa o7 he) (by decide) (by decide) he fD,fun Z σ H P F d Q S hf q=>?_⟩;obtain⟨x,h1,pV⟩:=bnd hf;obtain⟨ds,h2,pU⟩:=bnd pV;cases pU
 refine qa Z σ H P F _ _ S h1 fun v H1 e1 r1=>?_
 cases x with
 | list es=>
  cases h2
  obtain⟨pp,xs,rfl,k1,k2,k3⟩:=J7 r1;exact⟨pp,xs,rfl,.inl k1.l,fun z hz=>q _ _ H1 z e1 rfl k2 k3 hz⟩
 | tuple es=>
  cases h2
  by_cases hc:frozen ca
  ·obtain⟨pp,xs,rfl,k1,k2⟩:=(J6 hc r1).tup_inv;exact⟨pp,xs,rfl,.inr (a0J k1 i4),fun z hz=>q _ _ H1 z e1 rfl (k2.up i4) (fun _=>k2) hz⟩
  ·obtain⟨pp,xs,rfl,k1,k2⟩:=r1.den.tup_inv;exact⟨pp,xs,rfl,.inr k1,fun z hz=>q _ _ H1 z e1 rfl k2 (fun h=>absurd h hc) hz⟩
 | _=>cases h2
def a5A(a:EvE):EvE:=fun Z=>(a Z).bind fun d=>(asS d).bind fun ds=>a4L (.tuple ds)
theorem a5B(hm:X.mg "tuple"=none)(ha:PX X M a fa ca)(hg:Gl X "tuple":=by rfl)(he:au [a] X.env=(false,bW a X.env) :: au [] X.env:=by rfl)(fD:(b_ pos (au [] X.env)).any (·.1)=false:=by rfl) :
  PX X M (.Call (.Name "tuple" p) [a] [] pos) (a5A fa) (.new .i):=by
 obtain⟨ta,pa,qa⟩:=ha.out;refine .mk ⟨_,E5 a3x hg hm PyProof.Rows.Boot.«tuple» (k9 pa o7 he) (by decide) (by decide) he fD,fun Z σ H P F d Q S hf q=>?_⟩;obtain⟨x,h1,pV⟩:=bnd hf;obtain⟨ds,h2,pU⟩:=bnd pV;obtain⟨rfl,hi⟩:=a3T pU;refine qa Z σ H P F _ _ S h1 fun v H1 e1 r1=>?_
 cases x with
 | list es=>
  cases h2
  obtain⟨pp,xs,rfl,k1,k2⟩:=r1.den.list_inv;exact⟨pp,xs,rfl,.inl ⟨k1.l,fun z hz=>q _ _ (e1.trans (j9 hz _)) (K7 hi (a2l k2 hz) (S.lst' (e1.trans (j9 hz _))))⟩⟩
 | tuple es=>
  cases h2
  obtain⟨pp,xs,rfl,k1,k2⟩:=r1.den.tup_inv;exact⟨pp,xs,rfl,.inr ⟨k1,q _ _ e1 (K7 hi (den_tup k1 k2) (S.lst' e1))⟩⟩
 | _=>cases h2
theorem b4g:OpR X (fg .Add) (fun x y H Q=>∃l b xs zs,x=.ref l/\y=.ref b/\SqX X.K H l xs/\SqX X.K H b zs/\xs.length + zs.length<=aS/\∀p,H p=none->Q (.ref p) (upd H p (.lst (xs ++ zs)))):=by
 intro pins s σ H x y v u Q I rx ry h;obtain⟨l,b,xs,zs,rfl,rfl,hH,hB,hz,q⟩:=h;cases rx
 cases ry
 obtain⟨z,bU,n,r,e⟩:=hH.ok I;obtain⟨z2,j_,n2,r2,e2⟩:=hB.ok I;have hl:=r.length;have vB:=r2.length;refine PySem.P.add_list e e2 ?_ (by rw [aT,aT];lia);have ea:bU.toArray ++ j_.toArray=(bU ++ j_).toArray:=by simp
 rw [ea];exact⟨.ref _,_,I.lnew (t':=s.toks) (r.append r2) (by rw [aK];lia),rfl,q _ I.fresh⟩
def q9(a b:EvE):EvE:=fun Z=>(a Z).bind fun x=>(asL x).bind fun ds=>(b Z).bind fun y=>(asL y).bind fun es=>if ds.length + es.length<=aS then some (.list (ds ++ es)) else none
theorem a0O(ha:PX X M a fa ca)(hb:PX X M b fb cb):MkL X M (.BinOp a .Add b pos) (q9 fa fb) (frozen ca/\frozen cb):=by
 obtain⟨ta,pa,qa⟩:=ha.out;obtain⟨tb,pb,qb⟩:=hb.out;refine⟨_,b5y b4g pa pb,fun Z σ H P F d Q S hf q=>?_⟩;obtain⟨x,h1,pV⟩:=bnd hf;obtain⟨ds,h2,pU⟩:=bnd pV;cases K9 h2
 obtain⟨y,h3,xS⟩:=bnd pU;obtain⟨es,h4,sS⟩:=bnd xS;cases K9 h4
 by_cases hz:ds.length + es.length<=aS
 ·rw [aE hz] at sS;cases sS
  refine qa Z σ H P F _ _ S h1 fun v H1 e1 r1=>qb Z σ H1 P F _ _ (S.grow e1) h3 fun w H2 e2 r2=>?_
  obtain⟨pp,xs,rfl,k1,k2,k3⟩:=J7 (r1.up e2);obtain⟨qq,ys,rfl,j1,j2,j3⟩:=J7 r2;exact⟨pp,qq,xs,ys,rfl,rfl,k1,j1,by rw [k2.length,j2.length];exact hz,fun z hz=>q _ _ H2 z (e1.trans e2) rfl (k2.append j2) (fun hc=>(k3 hc.1).append (j3 hc.2)) hz⟩
 ·rw [aO hz] at sS;cases sS
def b9m(a b:EvE):EvE:=fun Z=>(a Z).bind fun x=>(asL x).bind fun ds=>(b Z).bind fun y=>(asI y).bind fun k=>if -(2 ^ 63)<=k/\k < 2 ^ 63/\ds.length * k.toNat<=aS then some (.list (aC k.toNat ds).flatten) else none
def spD(K:af)(n:Nat)(m:List D->Option D)(u:Ty):Sp:=fun vs H Q _=>∃ds d,vs.length=n/\DenAll K H vs ds/\m ds=some d/\∀v H' fp,Same H H'->Own K H' fp u v d fp->fp.Nodup->(∀a∈fp,H a=none)->Q v H'
theorem b4h(W:Has X.prog X.w X.K X.mg X.base x k ps (spD X.K n m u))(hr:Room k X.A)(h:PAX X M (e0 :: es) f)(hu:u.shut=true:=by rfl)(hl:(e0 :: es).length=n:=by rfl)(hfl:∀Z ds,f Z=some ds->ds.length=(e0 :: es).length)
  (hg:Gl X x:=by rfl) (jM:(x == ("__debug__":bc))=false:=by decide) (he:au (e0 :: es) X.env=(false,bW e0 X.env) :: au es X.env:=by rfl) (fD:(b_ pos (au es X.env)).any (·.1)=false:=by rfl) :
  PX X M (.Call (.Name x p) (e0 :: es) [] pos) (eCl m f) (.new u):=by
 obtain⟨t,pa,qa⟩:=h;refine .mk ⟨_,a7c W hr pa hg jM he fD,fun Z σ H P F d Q S hf q=>?_⟩;obtain⟨ds,h1,hf⟩:=bnd hf;refine qa Z σ H P F ds _ S h1 fun vs H1 e1 r1=>?_
 show spD X.K n m u (vs ++ []) H1 Q E0;rw [aZ];refine⟨ds,d,by rw [r1.length,hfl Z ds h1,hl],r1,hf,fun v H' fp e o nd fr=>q v H' (e1.trans e) ⟨fp,o.shut_out (fun a ha=>?_) u hu,nd,fun a ha=>e1.free (fr a ha)⟩⟩;rcases ay.mp ha with z|z
 ·exact o.lst u a z
 ·exact S.lst' (e1.trans e) a z
end
end VS
namespace VS
open PySem PySem.Spec L2
structure Walks (J:It) (Pr:Hp->Prop) (xs:List V):Prop where
 go:∀i H,Pr H->i < xs.length->J.go i H
 stop:∀i H,Pr H->xs.length<=i->J.stop i H
 yld:∀i H x H',Pr H->i < xs.length->J.yld i H x H'->H'=H/\xs[i]?=some x
theorem a7m:Walks (Itl K a) (fun H=>SqL K H a xs) xs where
 go:=fun i H h hi=>⟨xs,xs[i],h,by simp [hi]⟩
 stop:=fun i H h hi=>⟨xs,h,hi⟩
 yld:=fun i H x H' h _ y=>⟨y.1,y.2 xs h⟩
theorem a9Q:Walks (Itt K a) (fun H=>SqT K H a xs) xs where
 go:=fun i H h hi=>⟨xs,xs[i],h,by simp [hi]⟩
 stop:=fun i H h hi=>⟨xs,h,hi⟩
 yld:=fun i H x H' h _ y=>⟨y.1,y.2 xs h⟩
theorem a1p:Walks (Itr lo n) (fun _=>True) ((aJ n).map fun (k:Nat)=>V.int (lo + k)) where
 go:=fun i H h hi=>by show i < n;simpa using hi
 stop:=fun i H h hi=>by show n<=i;simpa using hi
 yld:=fun i H x H' h hi y=>by
  obtain⟨e,y⟩:=y;refine⟨e,?_⟩;have kc:i < n:=by simpa using hi
  rw [y];simp [kc]
def PIX(X:Cx)(M:List Md)(tg iter:Expr)(f:EvA):Prop:=
 ∃wi,PI X tg iter wi/\∀(Z:List D) (σ:L2.St) (H P:Hp) (F:List av) (ds:List D) (R:It->Hp->Prop),StE X.K M Z σ H P F->f Z=some ds->
  (∀J xs Pr H1,Same H H1->Walks J Pr xs->(∀H2,Same (cut H1 F) H2->Pr H2)->DenAll X.K (cut H1 F) xs ds->R J H1)->wi σ H R
def iL(a:EvE):EvA:=fun Z=>(a Z).bind asL
def iT(a:EvE):EvA:=fun Z=>(a Z).bind fun d=>match d with
 | .tuple ds=>some ds
 | _=>none
def v6(lo:Int)(n:Nat):List D:=(aJ n).map fun (k:Nat)=>.int (lo + k)
def iR(a:EvE):EvA:=fun Z=>(a Z).bind fun d=>(asI d).bind fun n=>if -(2 ^ 62)<=n/\n < 2 ^ 62 then some (v6 0 n.toNat) else none
def iR2(a b:EvE):EvA:=fun Z=>(a Z).bind fun d=>(asI d).bind fun m=>(b Z).bind fun e=>(asI e).bind fun n=>if (-(2 ^ 62)<=m/\m < 2 ^ 62)/\-(2 ^ 62)<=n/\n < 2 ^ 62 then some (v6 m (n - m).toNat) else none
def iI(f:EvA):EvA:=fun Z=>(f Z).bind fun ds=>if e6 ds then some ds else none
section
variable {X:Cx}{M:List Md}{a b e tg iter:Expr}{fa fb:EvE}{f:EvA}{ca cb:Cat}{pos p:ek}
theorem w6(h:PX X M a fa ca)(hc:frozen ca:=by trivial):PIX X M tg a (iL fa):=by
 obtain⟨t,p,q⟩:=h.out;refine⟨_,b3K p,fun Z σ H P F ds R S hf k=>?_⟩;obtain⟨d,h1,h2⟩:=bnd hf;cases K9 h2
 refine q Z σ H P F _ _ S h1 fun v H1 e1 r1=>?_
 obtain⟨aa,xs,rfl,k1,k2⟩:=(J6 hc r1).list_inv;exact⟨aa,rfl,⟨xs,(T4 k1 i4).l⟩,k _ xs _ H1 e1 a7m (fun H2 e2=>(T4 k1 e2).l) k2⟩
theorem b4i(h:PX X M a fa ca)(hc:frozen ca:=by trivial):PIX X M tg a (iT fa):=by
 obtain⟨t,p,q⟩:=h.out;refine⟨_,b6p p,fun Z σ H P F ds R S hf k=>?_⟩;obtain⟨d,h1,h2⟩:=bnd hf;cases d with
 | tuple es=>
  cases h2
  refine q Z σ H P F _ _ S h1 fun v H1 e1 r1=>?_
  obtain⟨aa,xs,rfl,k1,k2⟩:=(J6 hc r1).tup_inv;exact⟨aa,rfl,⟨xs,a0J k1 i4⟩,k _ xs _ H1 e1 a9Q (fun H2 e2=>a0J k1 e2) k2⟩
 | _=>cases h2
theorem a0P:DenAll K H ((aJ n).map fun (k:Nat)=>V.int (lo + k)) (v6 lo n):=by
 have:∀l:List Nat,DenAll K H (l.map fun (k:Nat)=>V.int (lo + k)) (l.map fun (k:Nat)=>bt (lo + k)):=by
  intro l
  induction l with
  | nil=>exact denAll_nil
  | cons x l ih=>exact denAll_cons den_int ih
 exact this _
theorem t6(hm:X.mg "range"=none)(h:PX X M a fa ca)(hg:Gl X "range":=by rfl)(he:au [a] X.env=[(false,bW a X.env)]:=by rfl)(lj:au [a] X.env=(false,bW a X.env) :: au [] X.env:=by rfl) :
  PIX X M tg (.Call (.Name "range" p) [a] [] pos) (iR fa):=by
 obtain⟨t,p,q⟩:=h.out;refine⟨_,a9y hg hm (k9 p o7 lj) he,fun Z σ H P F ds R S hf k=>?_⟩;obtain⟨d,h1,g1⟩:=bnd hf;obtain⟨n,h2,g2⟩:=bnd g1;cases P2 h2
 by_cases c:-(2 ^ 62)<=n/\n < 2 ^ 62
 ·rw [aE c] at g2;cases g2
  exact q Z σ H P F _ _ S h1 fun v H1 e1 r1=>⟨n,by rw [r1.den.int_inv],c.1,c.2,k _ _ _ H1 e1 a1p (fun _ _=>trivial) a0P⟩
 ·rw [aO c] at g2;cases g2
theorem a7n(hm:X.mg "range"=none)(ha:PX X M a fa ca)(hb:PX X M b fb cb)(hg:Gl X "range":=by rfl)(he:au [a,b] X.env=[(false,bW a X.env),(false,bW b X.env)]:=by rfl)(sD:au [b] X.env=[(false,bW b X.env)]:=by rfl)
  (xC:au [a,b] X.env=(false,bW a X.env) :: au [b] X.env:=by rfl) (lj:au [b] X.env=(false,bW b X.env) :: au [] X.env:=by rfl) :
  PIX X M tg (.Call (.Name "range" p) [a,b] [] pos) (iR2 fa fb):=by
 obtain⟨ta,pa,qa⟩:=ha.out;obtain⟨tb,pb,qb⟩:=hb.out;refine⟨_,a9z hg hm (k9 pa (k9 pb o7 lj) xC) he sD,fun Z σ H P F ds R S hf k=>?_⟩;obtain⟨d,h1,g1⟩:=bnd hf;obtain⟨m,h2,g2⟩:=bnd g1;cases P2 h2
 obtain⟨e,h3,g3⟩:=bnd g2;obtain⟨n,h4,g4⟩:=bnd g3;cases P2 h4
 by_cases c:(-(2 ^ 62)<=m/\m < 2 ^ 62)/\-(2 ^ 62)<=n/\n < 2 ^ 62
 ·rw [aE c] at g4;cases g4
  exact qa Z σ H P F _ _ S h1 fun v H1 e1 r1=>qb Z σ H1 P F _ _ (S.grow e1) h3 fun w H2 e2 r2=>⟨m,n,by rw [r1.den.int_inv,r2.den.int_inv],⟨c.1.1,c.1.2,c.2.1,c.2.2⟩,k _ _ _ H2 (e1.trans e2) a1p (fun _ _=>trivial) a0P⟩
 ·rw [aO c] at g4;cases g4
theorem PIX.i(h:PIX X M tg iter f):PIX X M tg iter (iI f):=by
 obtain⟨wi,p,q⟩:=h;refine⟨wi,p,fun Z σ H P F ds R S hf k=>?_⟩;obtain⟨es,h1,g1⟩:=bnd hf;by_cases c:e6 es=true
 ·rw [aE c] at g1;cases g1
  exact q Z σ H P F _ R S h1 k
 ·rw [aO c] at g1;cases g1
end
def TgR(K:af)(g:TG)(n:Nat)(pt:D->Option (List D)):Prop:=
 ∀(H Hc:Hp) (x:V) (d:D) (ds:List D) (σ:L2.St) (Q:L2.St->Hp->Prop),Same Hc H->Den K Hc x d->pt d=some ds->n<=σ.length->(∀vs,DenAll K Hc vs ds->vs.length=n->Q (vs.map some ++ σ.drop n) H)->g x σ H Q
def pt1(d:D):Option (List D):=some [d]
def pt2:D->Option (List D)
 | .tuple [a,b]=>some [a,b]
 | _=>none
theorem F8:TgR K (a0j 0) 1 pt1:=by
 intro H Hc x d ds σ Q e hd hp hn k;cases hp
 cases σ with
 | nil=>simp at hn
 | cons o σ=>exact k [x] (denAll_cons hd denAll_nil) rfl
def M9(pt:D->Option (List D))(t:EvT)(g:EvE)(cs:List D):List D->Option (List D)
 | []=>some []
 | d :: ds=>(pt d).bind fun bs=>(t (bs ++ cs)).bind fun k=>if k then (g (bs ++ cs)).bind fun y=>(M9 pt t g cs ds).bind fun ys=>some (y :: ys) else M9 pt t g cs ds
def t9(fi:EvA)(js:List Nat)(pt:D->Option (List D))(t:EvT)(g:EvE):EvE:=fun Z=>(fi Z).bind fun ds=>if ds.length<=1000000 then (M9 pt t g (js.map fun j=>Z.getD j .none) ds).bind fun ys=>some (.list ys) else none
def tT:EvT:=fun _=>some true
def T8(m:Md)(n:Nat)(M:List Md)(js:List Nat):List Md:=aC n m ++ js.map fun j=>M.getD j .dead
section
variable {K:af}{J:It}{Pr:Hp->Prop}{xs:List V}{Dl:av}{g:TG}{tt:TT}{te:TE}{σ:L2.St}{H:Hp}{R:Hp->Prop}
theorem a9R(hw:Walks J Pr xs)(Pv:Nat->List V->L2.St->Hp->Prop)(h0:Pv 0 [] σ (upd H Dl (.lst [])))(hp:∀i ys σ H,Pv i ys σ H->Pr H)
  (hs:∀i x ys σ H,xs[i]?=some x->Pv i ys σ H->g x σ H fun σ3 H3=>tt σ3 H3 fun b H4=>if b=true then te σ3 H4 fun y H5=>H5 Dl=some (.lst ys)/\ys.length < aS/\Pv (i + 1) (ys ++ [y]) σ3 (upd H5 Dl (.lst (ys ++ [y]))) else Pv (i + 1) ys σ3 H4)
  (hd:∀ys σ H,Pv xs.length ys σ H->R H) :
  ∃W:Nat->Nat->List V->L2.St->Hp->Prop,(∃m,W 0 m [] σ (upd H Dl (.lst [])))/\∀i m ys σ' H',W i m ys σ' H'->(J.stop i H'/\R H')∨
   (J.go i H'/\∃(N:V->L2.St->Hp->Prop) (NO:L2.St->Hp->Prop),(∀y σ3 H4,N y σ3 H4->H4 Dl=some (.lst ys)/\ys.length < aS/\∃m',m' < m/\W (i + 1) m' (ys ++ [y]) σ3 (upd H4 Dl (.lst (ys ++ [y]))))/\
    (∀σ3 H4,NO σ3 H4->∃m',m' < m/\W (i + 1) m' ys σ3 H4)/\∀x H2,J.yld i H' x H2->g x σ' H2 fun σ3 H3=>tt σ3 H3 fun b H4=>if b=true then te σ3 H4 fun y H5=>N y σ3 H5 else NO σ3 H4):=by
 refine⟨fun i m ys σ H=>m=xs.length - i/\i<=xs.length/\Pv i ys σ H,⟨xs.length,by simp,dq _,h0⟩,?_⟩;rintro i m ys σ H ⟨rfl,hi,p⟩;have q:=hp i ys σ H p;by_cases fL:i < xs.length
 ·refine .inr ⟨hw.go i H q fL,fun y σ3 H4=>H4 Dl=some (.lst ys)/\ys.length < aS/\Pv (i + 1) (ys ++ [y]) σ3 (upd H4 Dl (.lst (ys ++ [y]))),fun σ3 H4=>Pv (i + 1) ys σ3 H4,fun y σ3 H4 ⟨r1,r2,r3⟩=>⟨r1,r2,xs.length - (i + 1),by lia,rfl,fL,r3⟩,fun σ3 H4 r3=>⟨xs.length - (i + 1),by lia,rfl,fL,r3⟩,fun x H' y=>?_⟩;obtain⟨e,yy⟩:=hw.yld i H x H' q fL y;subst e;exact hs i x ys σ _ yy p
 ·have e:i=xs.length:=by lia
  subst e;exact .inl ⟨hw.stop _ H q (aF _),hd ys σ H p⟩
end
theorem b1A{Z:List D}{js:List Nat}(S:StE K M Z σ H P F)(hm:m=.i∨m=.f)(hv:DenAll K (cut H F) vs bs)(hi:m=.i->e6 bs=true)(hn:vs.length=n)
  (hσ:σb=vs.map some ++ js.map fun j=>(σ[j]?).getD none):StE K (T8 (.own m) n M js) (bs ++ js.map fun j=>Z.getD j .none) σb H P F:=by
 obtain⟨G,h1,h3⟩:=S.all;obtain⟨G',q,hq⟩:=h1.pick h3 js;refine⟨⟨G',?_,hq⟩,S.lst,S.prot⟩;subst hσ hn;unfold T8;have key:∀{vs:List V} {bs:List D},DenAll K (cut H F) vs bs->(m=.i->e6 bs=true)->StAll K H F (aC vs.length (.own m) ++ js.map fun j=>M.getD j .dead) (bs ++ js.map fun j=>Z.getD j .none) (vs.map some ++ js.map fun j=>(σ[j]?).getD none) G':=by
  intro vs
  induction vs with
  | nil=>
   intro bs h _;have hl:=h.length;have:bs=[]:=gF.mp (by simpa using hl.symm);subst this;exact q
  | cons v vs ih=>
   intro bs h hi;cases bs with
   | nil=>have:=h.length;simp at this
   | cons b bs=>
    obtain⟨v',r,e,h4,h5⟩:=h.cons_inv;cases e
    have:=j8 (K:=K) (H:=H) (F:=F) (m:=.own m) (d:=b) (o:=some v) (f:=[]) ⟨v,rfl,by
     rcases hm with rfl|rfl
     ·have:=hi rfl;simp only [e6,az] at this;simp only [Own];exact⟨trivial,this.1,h4⟩
     ·simp only [Own];exact⟨trivial,h4⟩⟩ (ih h5 fun e=>by have:=hi e;simp only [e6,az] at this;exact this.2)
    simpa [iG] using this
 exact key hv hi
theorem a7o(h:M9 pt t g cs (d :: ds)=some rs) :
  ∃bs k,pt d=some bs/\t (bs ++ cs)=some k/\((k=true/\∃y ys,g (bs ++ cs)=some y/\M9 pt t g cs ds=some ys/\rs=y :: ys)∨(k=false/\M9 pt t g cs ds=some rs)):=by
 simp only [M9] at h;obtain⟨bs,h1,g1⟩:=bnd h;obtain⟨k,h2,g2⟩:=bnd g1;refine⟨bs,k,h1,h2,?_⟩;cases k with
 | true=>
  rw [aE rfl] at g2;obtain⟨y,h3,g3⟩:=bnd g2;obtain⟨ys,h4,g4⟩:=bnd g3;cases g4
  exact .inl ⟨rfl,y,ys,h3,h4,rfl⟩
 | false=>
  rw [aO bB] at g2;exact .inr ⟨rfl,g2⟩
section
variable {X:Cx}{M:List Md}{tn ys:List bc}{js:List Nat}{scope:fE}{elt tg iter:Expr}{ifs:List Expr}{pos:ek}{g:TG}{n:Nat}{pt:D->Option (List D)}{fi:EvA}{ft:EvT}{fe:EvE}{u m:Ty}
theorem a3U(hi:∀(Z:List D) (σ:L2.St) (H P:Hp) (F:List av) (ds:List D) (R:It->Hp->Prop),StE X.K M Z σ H P F->fi Z=some ds->
   (∀J xs Pr H1,Same H H1->Walks J Pr xs->(∀H2,Same (cut H1 F) H2->Pr H2)->DenAll X.K (cut H1 F) xs ds->R J H1)->wi σ H R)
  (hg:TgR X.K g n pt) (hm:m=.i∨m=.f) (qA:m=.i->∀Z ds,fi Z=some ds->∀d∈ds,∀bs,pt d=some bs->e6 bs=true) (tU:tn.length=n)
  {Z:List D} (S:StE X.K M Z σ H P F) (hf:t9 fi js pt ft fe Z=some d) (q:∀v H',Same H H'->ResR X.K (.new (.l u)) H H' F v d->Q v H') :
  a4J wi g (spT X.K (T8 (.own m) n M js) ft) (spE X.K (T8 (.own m) n M js) fe (.new u)) (a0I tn js) σ H Q:=by
 obtain⟨ds,h1,g1⟩:=bnd hf;by_cases hz:ds.length<=1000000
 ·rw [aE hz] at g1;obtain⟨res,h2,g2⟩:=bnd g1;cases g2
  refine hi Z σ H P F ds _ S h1 fun J xs Pr H1 e1 hw sE hx Dl hD=>?_
  have rd:=hx.length;have Eb:Dl∉F:=fun z=>by obtain⟨zs,w⟩:=S.lst' e1 Dl z;rw [hD] at w;cases w
  refine a9R hw (fun i ys σ' H'=>(∃os:L2.St,os.length=n/\σ'=os ++ js.map fun j=>(σ[j]?).getD none)/\H' Dl=some (.lst ys)/\Same H1 H'/\∃(fp:List av) (zs rs:List D),ListAll (Own X.K H' (Dl :: fp ++ F) u) ys zs fp/\fp.Nodup/\(∀a∈fp,H1 a=none)/\Dl∉fp/\
    M9 pt ft fe (js.map fun j=>Z.getD j .none) (ds.drop i)=some rs/\res=zs ++ rs/\ys.length<=i) ?_ ?_ ?_ ?_
  ·exact⟨⟨_,by rw [fy];exact tU,rfl⟩,i0,j9 hD _,[],[],res,o8,br,fun a ha=>(nomatch ha),fun h=>(nomatch h),h2,rfl,aF _⟩
  ·rintro i ys σ' H' ⟨_,_,e,_⟩;exact sE H' (i4.trans e)
  ·rintro i x ys σ' H' qz ⟨⟨os,ho,rfl⟩,sR,e2,fp,zs,rs,kr,ka,mD,oG,hc,nZ,AN⟩;obtain⟨d,ox,_⟩:=hx.getV qz;have mV:i < ds.length:=(aY.mp ox).1;have lZ:ds.drop i=d :: ds.drop (i + 1):=by
    rw [cU mV]
    congr 1;exact (aY.mp ox).2
   rw [lZ] at hc;obtain⟨bs,k,yR,vt,Bi⟩:=a7o hc;have hfl:∀a∈Dl :: fp,∃zs:MuO,H' a=some zs.1:=fun a ha=>by
    rcases aH.mp ha with z|z
    ·subst z;exact⟨⟨.lst ys,trivial⟩,sR⟩
    ·exact kr.lst (u:=u) (fun v d f q=>q.lst u) a z
   have lY:∀a∈Dl :: fp,H1 a=none:=fun a ha=>by
    rcases aH.mp ha with z|z
    ·subst z;exact hD
    ·exact mD a z
   have S1:StE X.K M Z σ H' P (Dl :: fp ++ F):=(S.grow e1).more (fp:=Dl :: fp) e2 lY hfl;have xH:DenAll X.K (cut H' (Dl :: fp ++ F)) xs ds:=hx.up (a0m (fp:=Dl :: fp) e2 lY);obtain⟨d',uA,uz⟩:=xH.getV qz;rw [ox] at uA;cases uA
   refine hg H' _ x d bs _ _ i4 uz yR (by rw [aK,ho];lia) fun vs sA wK=>?_
   rw [nc (by lia),eX (by lia),bT];have SB:StE X.K (T8 (.own m) n M js) (bs ++ js.map fun j=>Z.getD j .none) (vs.map some ++ js.map fun j=>(σ[j]?).getD none) H' P (Dl :: fp ++ F):=
    b1A S1 hm sA (fun e=>qA e Z ds h1 d (bD ox) bs yR) wK rfl
   refine⟨_,P,_,k,SB,vt,fun H3 e3=>?_⟩;rcases Bi with⟨rfl,y,rest,Bh,wX,rfl⟩|⟨rfl,wX⟩
   ·refine a1L ⟨_,P,_,y,SB.grow e3,Bh,fun v H4 e4 ⟨gp,o,nd,fr⟩=>?_⟩;have vR:=e3.trans e4;have zd:Dl∉gp:=fun z=>by have w:=fr Dl z;rw [e3 _ _ sR] at w;cases w
    have BR:∀a∈gp,a∉fp:=fun a ha z=>by
     obtain⟨zs,w⟩:=hfl a (ao _ z);have w2:=fr a ha;rw [e3 _ _ w] at w2;cases w2
    have iA:∀a,a∈Dl :: (fp ++ gp) ++ F->a∈gp ++ (Dl :: fp ++ F):=fun a ha=>by
     simp only [bO,aH,ay] at ha ⊢;rcases ha with z|(z|z)|z
     ·exact .inr (.inl z)
     ·exact .inr (.inr (.inl z))
     ·exact .inl z
     ·exact .inr (.inr (.inr z))
    have uG:Same (cut H' (Dl :: fp ++ F)) (cut (upd H4 Dl (.lst (ys ++ [v]))) (Dl :: (fp ++ gp) ++ F)):=fun a o' ha=>by
     obtain⟨n1,n2⟩:=n0 ha;have gy:a≠Dl:=fun z=>n1 (by rw [z];exact aq _ ah)
     refine i7 (fun z=>?_) (by rw [c9 gy];exact vR _ _ n2);rcases ay.mp (iA a z) with w|w
     ·have:=fr a w;rw [e3 _ _ n2] at this;cases this
     ·exact n1 w
    have Cg:Same (cut H4 (gp ++ (Dl :: fp ++ F))) (cut (upd H4 Dl (.lst (ys ++ [v]))) (Dl :: (fp ++ gp) ++ F)):=fun a o' ha=>by
     obtain⟨n1,n2⟩:=n0 ha;have gy:a≠Dl:=fun z=>n1 (by rw [z];exact aj _ (aq _ ah))
     exact i7 (fun z=>n1 (iA a z)) (by rw [c9 gy];exact n2)
    refine⟨vR _ _ sR,?_,⟨_,by rw [ar];exact wK,rfl⟩,i0,?_,fp ++ gp,zs ++ [y],rest,?_,?_,?_,?_,wX,by rw [nZ,aP];rfl,by rw [aK];simp;lia⟩
    ·exact lM (cI AN (cI (dA mV) hz)) (by rw [dv];decide)
    ·exact b1p (e2.trans vR) hD _
    ·refine (p6 uG kr fun a ha=>?_).append ?_
     ·rw [c9 (show a≠Dl from fun z=>oG (z ▸ ha))];obtain⟨zs,w⟩:=hfl a (ao _ ha);rw [w,vR _ _ w]
     ·have:=m7 (R:=Own X.K (upd H4 Dl (.lst (ys ++ [v]))) (Dl :: (fp ++ gp) ++ F) u) (o.frame Cg u fun a ha=>c9 (fun z=>zd (z ▸ ha))) o8
      rwa [aZ] at this
    ·rw [bu];exact⟨ka,nd,fun a ha b hb e=>BR b hb (e ▸ ha)⟩
    ·intro a ha;rcases ay.mp ha with z|z
     ·exact mD a z
     ·exact (e2.trans e3).free (fr a z)
    ·intro z;rcases ay.mp z with w|w
     ·exact oG w
     ·exact zd w
   ·refine a1K ?_;have uG:Same (cut H' (Dl :: fp ++ F)) (cut H3 (Dl :: fp ++ F)):=K6 e3;refine⟨⟨_,by rw [ar];exact wK,rfl⟩,e3 _ _ sR,e2.trans e3,fp,zs,rs,p6 uG kr fun a ha=>?_,ka,mD,oG,wX,nZ,by lia⟩;obtain⟨zs,w⟩:=hfl a (ao _ ha);rw [w,e3 _ _ w]
  ·rintro ys σ' H' ⟨_,sR,e2,fp,zs,rs,kr,ka,mD,oG,hc,nZ,_⟩;rw [rd,jI] at hc;cases hc
   rw [aZ] at nZ;subst nZ;refine q (.ref Dl) H' (e1.trans e2) ⟨Dl :: fp,?_,bA.mpr ⟨oG,ka⟩,fun a ha=>?_⟩
   ·simp only [Own];exact .inr ⟨Dl,ys,res,fp,rfl,sR,rfl,rfl,kr⟩
   ·rcases aH.mp ha with z|z
    ·subst z;exact e1.free hD
    ·exact e1.free (mD a z)
 ·rw [aO hz] at g1;cases g1
theorem V7(hc:X.calm=true)(hi:PIX X M tg iter fi)(C:V2 scope X.env.kindOf ys js X.N=true)(hg:∀cl Cl s H fp,PG (M5 X (tn ++ ys) scope cl Cl s H fp) tg g)(ur:TgR X.K g n pt)(hm:m=.i∨m=.f)
  (qA:m=.i->∀Z ds,fi Z=some ds->∀d∈ds,∀bs,pt d=some bs->e6 bs=true) (tU:tn.length=n)
  (ht:∀cl Cl s H fp,PTs (M5 X (tn ++ ys) scope cl Cl s H fp) ifs (spT X.K (T8 (.own m) n M js) ft)) (he:∀cl Cl s H fp,PX (M5 X (tn ++ ys) scope cl Cl s H fp) (T8 (.own m) n M js) elt fe (.new u))
  (hs:∀x,eF iter X.env x=pure x:=by intro _;rfl):PX X M (.ListComp elt [⟨tg,iter,ifs,0⟩] scope pos) (t9 fi js pt ft fe) (.new (.l u)):=by
 obtain⟨wi,pi,qi⟩:=hi;exact .mk ⟨_,b1q (te:=spE X.K (T8 (.own m) n M js) fe (.new u)) hc pi C hg ht he hs,fun Z σ H P F d Q S hf q=>a3U qi ur hm qA tU S hf q⟩
theorem Q0:∀{X':Cx} {M':List Md},PTs X' [] (spT X'.K M' tT):=fun {X' M'} pins s σ H Q I ⟨Z,P,F,b,S,hb,q⟩=>by
 cases hb
 exact b3X pins s σ H Q I (q H (Same.refl _))
theorem a7p(h:PTX X' M' c f):PTs X' [c] (spT X'.K M' f):=b3Y h
theorem b9n:(Ty.f=Ty.i)->∀(Z ds:List D),fi Z=some ds->∀d∈ds,∀bs,pt d=some bs->e6 bs=true:=fun h=>nomatch h
theorem a3V:(Ty.i=Ty.i)->∀(Z ds:List D),iI fi Z=some ds->∀d∈ds,∀bs,pt1 d=some bs->e6 bs=true:=fun _ Z ds h d hd bs hb=>by
 obtain⟨es,_,g1⟩:=bnd h;by_cases c:e6 es=true
 ·rw [aE c] at g1;cases g1
  cases hb
  simp only [e6,gq];exact E8 c hd
 ·rw [aO c] at g1;cases g1
theorem Q1(lo:Int)(n:Nat):e6 (v6 lo n)=true:=by
 have:∀l:List Nat,e6 (l.map fun (k:Nat)=>bt (lo + k))=true:=by
  intro l
  induction l with
  | nil=>simp only [cA,e6]
  | cons x l ih=>simp only [aA,e6,imm,ih,eA]
 exact this _
theorem a8D:(Ty.i=Ty.i)->∀(Z ds:List D),iR fa Z=some ds->∀d∈ds,∀bs,pt1 d=some bs->e6 bs=true:=fun _ Z ds h d hd bs hb=>by
 obtain⟨x,h1,g1⟩:=bnd h;obtain⟨k,h2,g2⟩:=bnd g1
 split at g2
 ·cases g2
  cases hb
  simp only [e6,gq];exact E8 (Q1 _ _) hd
 ·cases g2
theorem b6N:(Ty.i=Ty.i)->∀(Z ds:List D),iR2 fa fb Z=some ds->∀d∈ds,∀bs,pt1 d=some bs->e6 bs=true:=fun _ Z ds h d hd bs hb=>by
 obtain⟨x,h1,g1⟩:=bnd h;obtain⟨k,h2,g2⟩:=bnd g1;obtain⟨y,h3,g3⟩:=bnd g2;obtain⟨k',h4,g4⟩:=bnd g3
 split at g4
 ·cases g4
  cases hb
  simp only [e6,gq];exact E8 (Q1 _ _) hd
 ·cases g4
end
end VS
namespace VS
open PySem PySem.Spec L2
section
variable {K:af}{H H' P:Hp}{F F':List av}
theorem StAll.split:∀{A B:List Md} {Z:List D} {σ:L2.St} {G:List av},StAll K H F (A ++ B) Z σ G->∃Z1 Z2 σ1 σ2 G1 G2,Z=Z1 ++ Z2/\σ=σ1 ++ σ2/\G=G1 ++ G2/\StAll K H F A Z1 σ1 G1/\StAll K H F B Z2 σ2 G2
 | [],B,Z,σ,G,h=>⟨[],Z,[],σ,[],G,rfl,rfl,rfl,K2,h⟩
 | m :: A,B,_,_,_,h=>by
  simp only [bO,StAll] at h;obtain⟨d,Z,o,σ,f,g,rfl,rfl,rfl,h1,h2⟩:=h;obtain⟨Z1,Z2,σ1,σ2,G1,G2,rfl,rfl,rfl,h3,h4⟩:=StAll.split h2;exact⟨d :: Z1,Z2,o :: σ1,σ2,f ++ G1,G2,rfl,rfl,by rw [aP],j8 h1 h3,h4⟩
theorem StAll.join:∀{A B:List Md} {Z1 Z2:List D} {σ1 σ2:L2.St} {G1 G2:List av},StAll K H F A Z1 σ1 G1->StAll K H F B Z2 σ2 G2->StAll K H F (A ++ B) (Z1 ++ Z2) (σ1 ++ σ2) (G1 ++ G2)
 | [],B,_,_,_,_,_,_,h,q=>by
  simp only [StAll] at h;obtain⟨rfl,rfl,rfl⟩:=h;exact q
 | m :: A,B,_,_,_,_,_,_,h,q=>by
  simp only [StAll] at h;obtain⟨d,Z,o,σ,f,g,rfl,rfl,rfl,h1,h2⟩:=h;rw [aP];exact j8 h1 (StAll.join h2 q)
theorem a5C{α:Type}{a b c d:List α}(h:a ++ b=c ++ d)(hl:a.length=c.length):a=c/\b=d:=List.append_inj h hl
theorem StAll.splitAt{A B:List Md}{Z1 Z2:List D}{σ1 σ2:L2.St}(h:StAll K H F (A ++ B) (Z1 ++ Z2) (σ1 ++ σ2) G)(hZ:Z1.length=A.length)(hσ:σ1.length=A.length):∃G1 G2,G=G1 ++ G2/\StAll K H F A Z1 σ1 G1/\StAll K H F B Z2 σ2 G2:=by
 obtain⟨r1,r2,s1,s2,G1,G2,e1,e2,e3,h1,h2⟩:=h.split;obtain⟨l1,l2⟩:=h1.len;obtain⟨rfl,rfl⟩:=a5C e1 (by lia);obtain⟨rfl,rfl⟩:=a5C e2 (by lia);exact⟨G1,G2,e3,h1,h2⟩
theorem a0p:∀{us:List Ty} {vs:List V} {ds:List D} {G:List av},StAll K H F (us.map Md.own) ds (vs.map some) G->OwnTs K H F us vs ds G
 | [],vs,ds,G,h=>by
  simp only [cA,StAll] at h;obtain⟨rfl,e,rfl⟩:=h;have:vs=[]:=by simpa using e
  subst this;simp only [OwnTs];exact⟨trivial,trivial,trivial⟩
 | u :: us,vs,ds,G,h=>by
  simp only [aA,StAll] at h;obtain⟨d,Z,o,σ,f,g,rfl,e,rfl,⟨v,rfl,h1⟩,h2⟩:=h;cases vs with
  | nil=>simp at e
  | cons v' vs=>
   simp only [aA,nH,er] at e;obtain⟨rfl,rfl⟩:=e;simp only [OwnTs];exact⟨v',vs,d,Z,f,g,rfl,rfl,rfl,h1,a0p h2⟩
end
def Pend(K:af)(Mp:List Md)(Zp:List D)(σp:L2.St)(M:List Md)(Z:List D)(σ:L2.St)(H P:Hp)(F:List av):Prop:=
 Zp.length=Mp.length/\σp.length=Mp.length/\StR K (Mp ++ M) (Zp ++ Z) (σp ++ σ) H P F
section
variable {K:af}{Mp M:List Md}{Zp Z:List D}{σp σ:L2.St}{H H' P:Hp}{F:List av}
theorem Pend.e(h:Pend K Mp Zp σp M Z σ H P F):StE K M Z σ H P F:=by
 obtain⟨l1,l2,S⟩:=h;obtain⟨G,h1,h2,h3⟩:=S.all;obtain⟨G1,G2,rfl,_,h4⟩:=h1.splitAt l1 l2;exact⟨⟨G2,h4,fun a ha=>h3 a (aj _ ha)⟩,S.lst,S.prot⟩
theorem Pend.grow(h:Pend K Mp Zp σp M Z σ H P F)(e:Same H H'):Pend K Mp Zp σp M Z σ H' P F:=⟨h.1,h.2.1,h.2.2.grow e⟩
theorem Pend.new(h:Pend K Mp Zp σp M Z σ H P F)(e:Same H H')(o:Own K H' (fp ++ F) u v d fp)(nd:fp.Nodup)(fr:∀a∈fp,H a=none):Pend K (Mp ++ [.own u]) (Zp ++ [d]) (σp ++ [some v]) M Z σ H' P (fp ++ F):=by
 obtain⟨l1,l2,S⟩:=h;refine⟨by simp [l1],by simp [l2],?_⟩;have S1:=S.more e fr (o.lst u);obtain⟨G,h1,h2,h3⟩:=S.all;obtain⟨G1,G2,rfl,h4,h5⟩:=h1.splitAt l1 l2;have hc:Same (cut H F) (cut H' (fp ++ F)):=a0m e fr;have k:∀a∈G1 ++ G2,H' a=H a:=fun a ha=>S.toE.keep e a (h3 a ha)
 have q:=(h4.frame hc fun a ha=>k a (aq _ ha)).join ((j8 (m:=.own u) (d:=d) (o:=some v) (f:=fp) ⟨v,rfl,o⟩ (h5.frame hc fun a ha=>k a (aj _ ha))));refine⟨⟨G1 ++ (fp ++ G2),by simpa using q,V4 h2 nd fun a ha z=>?_,fun a ha=>?_⟩,S1.lst,S1.prot⟩
 ·obtain⟨ys,w⟩:=S.lst a (h3 a z);rw [fr a ha] at w;cases w
 ·rcases a1R ha with z|z
  ·exact aq _ z
  ·exact aj _ (h3 a z)
theorem Pend.move(h:Pend K Mp Zp σp M Z σ H P F)(hm:M[i]?=some (.own u)):∃v,σ[i]?=some (some v)/\Pend K (Mp ++ [.own u]) (Zp ++ [Z.getD i .none]) (σp ++ [some v]) (M.set i .dead) Z σ H P F:=by
 obtain⟨l1,l2,S⟩:=h;obtain⟨G,h1,h2,h3⟩:=S.all;obtain⟨G1,G2,rfl,h4,h5⟩:=h1.splitAt l1 l2;obtain⟨d,o,f,pre,post,e1,e2,⟨v,rfl,e3⟩,rfl,e5⟩:=h5.at_ hm;have q:=e5 H F .dead d (some v) [] (fun _ _=>rfl) (Same.refl _) rfl;rw [set_same e1,set_same e2] at q;refine⟨v,e2,by simp [l1],by simp [l2],⟨⟨G1 ++ (f ++ (pre ++ ([] ++ post))),?_,?_,fun a ha=>h3 a ?_⟩,S.lst,S.prot⟩⟩
 ·have:=h4.join (j8 (m:=.own u) (d:=d) (o:=some v) (f:=f) ⟨v,rfl,e3⟩ q);rw [y9 e1];simpa using this
 ·rw [bT];refine (List.Perm.nodup_iff ?_).mp h2;refine sX G1 ?_;exact List.perm_append_comm_assoc pre f post
 ·simp only [ay,bT] at ha ⊢;rcases ha with z|z|z|z
  ·exact .inl z
  ·exact .inr (.inr (.inl z))
  ·exact .inr (.inl z)
  ·exact .inr (.inr (.inr z))
end
def PMX(X:Cx)(M:List Md)(e:Expr)(f:EvE)(u:Ty)(M1:List Md):Prop:=
 ∃t,PE X e t/\∀(Mp:List Md) (Zp:List D) (σp:L2.St) (Z:List D) (σ:L2.St) (H P:Hp) (F:List av) (d:D) (Q:VK),Pend X.K Mp Zp σp M Z σ H P F->f Z=some d->
  (∀v H' F',Same H H'->Pend X.K (Mp ++ [.own u]) (Zp ++ [d]) (σp ++ [some v]) M1 Z σ H' P F'->Q v H')->t σ H Q
def PMA(X:Cx)(M:List Md)(es:List Expr)(f:EvA)(us:List Ty)(M1:List Md):Prop:=
 ∃t,PA X es t/\∀(Mp:List Md) (Zp:List D) (σp:L2.St) (Z:List D) (σ:L2.St) (H P:Hp) (F:List av) (ds:List D) (Q:List V->Hp->Prop),Pend X.K Mp Zp σp M Z σ H P F->f Z=some ds->
  (∀vs H' F',vs.length=us.length->ds.length=us.length->Same H H'->Pend X.K (Mp ++ us.map .own) (Zp ++ ds) (σp ++ vs.map some) M1 Z σ H' P F'->Q vs H')->t σ H Q
section
variable {X:Cx}{M M1 M2:List Md}{e:Expr}{es:List Expr}{f:EvE}{fa:EvA}{u:Ty}{us:List Ty}{pos:ek}
theorem a7(h:PX X M e f (.new u)):PMX X M e f u M:=by
 obtain⟨t,p,q⟩:=h.out;refine⟨t,p,fun Mp Zp σp Z σ H P F d Q S hf k=>q Z σ H P F d Q S.e hf fun v H' e ⟨fp,o,nd,fr⟩=>k v H' _ e (S.new e o nd fr)⟩
theorem D4(i:Nat)(hN:X.N[i]?=some x:=by rfl)(hv:Vis X.env.scope x:=by first|exact cf rfl|exact bR (cf rfl)|exact bR (bR rfl))(hd:(x == ("__debug__":bc))=false:=by decide)
  (gJ:(x == ("__classdict__":bc))=false:=by decide) (hm:M[i]?=some (.own u):=by rfl):PMX X M (.Name x pos) (a4 i) u (M.set i .dead):=by
 refine⟨_,C8 hN hv hd gJ,fun Mp Zp σp Z σ H P F d Q S hf k=>?_⟩;cases hf
 obtain⟨v,e,S'⟩:=S.move hm;exact⟨v,e,k v H F (Same.refl _) S'⟩
theorem b4j:PMA X M [] b8 [] M:=⟨_,o7,fun Mp Zp σp Z σ H P F ds Q S hf k=>by
 cases hf
 exact k [] H F rfl rfl (Same.refl _) (by simpa using S)⟩
theorem a5D(h:PMX X M e f u M1)(hr:PMA X M1 es fa us M2)(hs:au (e :: es) X.env=(false,bW e X.env) :: au es X.env:=by rfl):PMA X M (e :: es) (a5 f fa) (u :: us) M2:=by
 obtain⟨t,p,q⟩:=h;obtain⟨tr,pr,qr⟩:=hr;refine⟨_,k9 p pr hs,fun Mp Zp σp Z σ H P F ds Q S hf k=>?_⟩;obtain⟨x,h1,g1⟩:=bnd hf;obtain⟨xs,h2,g2⟩:=bnd g1;cases g2
 refine q Mp Zp σp Z σ H P F x _ S h1 fun v H1 F1 e1 S1=>qr _ _ _ Z σ H1 P F1 xs _ S1 h2 fun vs H2 F2 l1 l2 e2 S2=>k (v :: vs) H2 F2 (by simp [l1]) (by simp [l2]) (e1.trans e2) ?_
 simpa using S2
theorem Pend.pack{Zp Z:List D}{us:List Ty}{vs:List V}(h:Pend K (Mp ++ us.map .own) (Zp ++ ds) (σp ++ vs.map some) M Z σ H P F)
  (lp:Zp.length=Mp.length) (lq:σp.length=Mp.length) (l1:vs.length=us.length) (l2:ds.length=us.length) (hp:H p=none)
  (mk:∀G,OwnTs K H F us vs ds G->G.Nodup->(∀a∈G,a∈F)->∃qP F',(∀a,a∈F'↔a∈qP∨a∈F)/\(∀a∈qP,a=p∨a∈G)/\qP.Nodup/\Own K (upd H p o) F' u (.ref p) d qP/\(p∈qP->∃ys,o=.lst ys)) :
  ∃F',Pend K (Mp ++ [.own u]) (Zp ++ [d]) (σp ++ [some (.ref p)]) M Z σ (upd H p o) P F':=by
 obtain⟨_,_,S⟩:=h;obtain⟨G,h1,h2,h3⟩:=S.all;obtain⟨G1,G2,rfl,h4,h5⟩:=h1.splitAt (by simp [lp,l2]) (by simp [lq,l1]);obtain⟨G3,G4,rfl,h6,h7⟩:=h4.splitAt lp lq;have Bv:G4.Nodup:=by rw [bu] at h2;exact (bu.mp h2.1).2.1
 obtain⟨qP,F',sQ,qG,ka,own,fD⟩:=mk G4 (a0p h7) Bv fun a ha=>h3 a (aq _ (aj _ ha))
 have ua:p∉F:=fun z=>by obtain⟨ys,w⟩:=S.lst p z;rw [hp] at w;cases w
 have hc:Same (cut H F) (cut (upd H p o) F'):=fun a o' ha=>by
  obtain⟨n1,n2⟩:=n0 ha;have gy:a≠p:=fun z=>by rw [z,hp] at n2;cases n2
  refine i7 (fun z=>?_) (by rw [c9 gy];exact n2);rcases (sQ a).mp z with w|w
  ·rcases qG a w with y|y
   ·exact gy y
   ·exact n1 (h3 a (aq _ (aj _ y)))
  ·exact n1 w
 have k:∀a∈F,upd H p o a=H a:=fun a ha=>c9 fun z=>ua (z ▸ ha)
 have q:=(h6.frame hc fun a ha=>k a (h3 a (aq _ (aq _ ha)))).join (j8 (m:=.own u) (d:=d) (o:=some (.ref p)) (f:=qP) ⟨_,rfl,own⟩ (h5.frame hc fun a ha=>k a (h3 a (aj _ ha))));refine⟨F',by simp [lp],by simp [lq],⟨⟨G3 ++ (qP ++ G2),by simpa using q,V4 ?_ ka fun a ha z=>?_,fun a ha=>?_⟩,fun a ha=>?_,S.prot.trans hc⟩⟩
 ·rw [aP] at h2;exact E7 h2
 ·rcases qG a ha with w|w
  ·subst w;exact ua (h3 a (by
    rcases ay.mp z with y|y
    ·exact aq _ (aq _ y)
    ·exact aj _ y))
  ·rw [aP] at h2;exact a0L h2 a w z
 ·rcases a1R ha with z|z
  ·exact (sQ a).mpr (.inl z)
  ·refine (sQ a).mpr (.inr (h3 a ?_));rcases ay.mp z with y|y
   ·exact aq _ (aq _ y)
   ·exact aj _ y
 ·rcases (sQ a).mp ha with z|z
  ·rcases qG a z with w|w
   ·subst w;obtain⟨ys,rfl⟩:=fD z;exact⟨⟨.lst ys,trivial⟩,i0⟩
   ·have jK:=h3 a (aq _ (aj _ w));obtain⟨ys,y⟩:=S.lst a jK;exact⟨ys,by rw [k a jK];exact y⟩
  ·obtain⟨ys,y⟩:=S.lst a z;exact⟨ys,by rw [k a z];exact y⟩
theorem b4k{j}(h:PMA X M es fa us M1)(hn:us.length<=1000:=by decide):PMX X M (.Tuple es j pos) (C7 fa) (.tp us) M1:=by
 obtain⟨t,p,q⟩:=h;refine⟨_,a4C p,fun Mp Zp σp Z σ H P F d Q S hf k=>?_⟩;obtain⟨ds,h1,g1⟩:=bnd hf;cases g1
 refine q Mp Zp σp Z σ H P F ds _ S h1 fun vs H1 F1 l1 l2 e1 S1=>⟨by rw [l1];exact dA (O5 hn),fun x hx=>?_⟩
 have wI:x∉F1:=fun z=>by obtain⟨ys,w⟩:=S1.2.2.lst x z;rw [hx] at w;cases w
 obtain⟨F2,S2⟩:=S1.pack (o:=.tup vs) (u:=.tp us) (d:=.tuple ds) S.1 S.2.1 l1 l2 hx fun G o nd sub=>by
  refine⟨G,F1,fun a=>⟨fun z=>.inr z,fun z=>z.elim (sub a) id⟩,fun a ha=>.inr ha,nd,?_,fun z=>absurd (sub x z) wI⟩;simp only [Own];refine⟨x,vs,ds,rfl,i0,wI,rfl,o.frame (K6 (j9 hx _)) us fun a ha=>c9 fun z=>wI (z ▸ sub a ha)⟩
 exact k _ _ F2 (e1.trans (j9 hx _)) S2
end
end VS
namespace VS
open PySem PySem.Spec L2
def dAt:Ty->D->List Nat->Option (Ty × D)
 | u,d,[]=>some (u,d)
 | .l u,.list ds,j :: p=>(ds[j]?).bind fun d=>dAt u d p
 | .tp us,.tuple ds,j :: p=>(us[j]?).bind fun u=>(ds[j]?).bind fun d=>dAt u d p
 | _,_,_=>none
def a1M:D->List Nat->D->D
 | _,[],e=>e
 | .list ds,j :: p,e=>.list (ds.set j (a1M (ds.getD j .none) p e))
 | .tuple ds,j :: p,e=>.tuple (ds.set j (a1M (ds.getD j .none) p e))
 | d,_,_=>d
def wk(H:Hp):V->List Nat->V->Prop
 | v,[],w=>w=v
 | v,j :: p,w=>∃a xs v1,v=.ref a/\(H a=some (.lst xs)∨H a=some (.tup xs))/\xs[j]?=some v1/\wk H v1 p w
theorem b1B(e:Same H H'):∀{p:List Nat} {v w:V},wk H v p w->wk H' v p w
 | [],_,_,h=>h
 | j :: p,_,_,h=>by
  obtain⟨a,xs,v1,h1,h2,h3,h4⟩:=h;exact⟨a,xs,v1,h1,h2.imp (e _ _) (e _ _),h3,b1B e h4⟩
section
variable {K:af}{H H':Hp}{F F':List av}
theorem ListAll.zip:∀{ds:List D} {xs:List V} {fp:List av} {j:Nat} {d:D},ListAll (Own K H F u) xs ds fp->ds[j]?=some d->
  ∃v f pre post,xs[j]?=some v/\Own K H F u v d f/\fp=pre ++ (f ++ post)/\
   ∀(H':Hp) (F':List av) (v':V) (d':D) (f':List av),(∀a∈pre ++ post,H' a=H a)->Same (cut H F) (cut H' F')->Own K H' F' u v' d' f'->ListAll (Own K H' F' u) (xs.set j v') (ds.set j d') (pre ++ (f' ++ post))
 | [],_,_,j,d,_,e=>by simp at e
 | d0 :: ds,_,_,0,d,h,e=>by
  obtain⟨v,r,f,g,rfl,rfl,h1,h2⟩:=h.cons_inv;have:d0=d:=by simpa using e
  subst this;refine⟨v,f,[],g,rfl,h1,rfl,fun H' F' v' d' f' k e' o=>?_⟩;show ListAll (Own K H' F' u) (v' :: r) (d' :: ds) (f' ++ g);exact m7 o (p6 e' h2 k)
 | d0 :: ds,_,_,j + 1,d,h,e=>by
  obtain⟨v,r,f,g,rfl,rfl,h1,h2⟩:=h.cons_inv;obtain⟨w,f',pre,post,e1,e2,e3,e4⟩:=ListAll.zip (j:=j) h2 (by simpa using e);subst e3;refine⟨w,f',f ++ pre,post,by simpa using e1,e2,by rw [aP],fun H' F' v' d' g' k e' o=>?_⟩;rw [aP];refine m7 (h1.frame e' u fun a ha=>k a ?_) (e4 H' F' v' d' g' (fun a ha=>k a ?_) e' o)
  ·rw [aP];exact aq _ ha
  ·rw [aP];exact aj _ ha
theorem OwnTs.zip:∀{us:List Ty} {ds:List D} {xs:List V} {fp:List av} {j:Nat} {u:Ty} {d:D},OwnTs K H F us xs ds fp->us[j]?=some u->ds[j]?=some d->
  ∃v f pre post,xs[j]?=some v/\Own K H F u v d f/\fp=pre ++ (f ++ post)/\
   ∀(H':Hp) (F':List av) (d':D) (f':List av),(∀a∈pre ++ post,H' a=H a)->Same (cut H F) (cut H' F')->Own K H' F' u v d' f'->OwnTs K H' F' us xs (ds.set j d') (pre ++ (f' ++ post))
 | [],_,_,_,j,u,d,_,e,_=>by simp at e
 | u0 :: us,_,_,_,0,u,d,h,e,e'=>by
  simp only [OwnTs] at h;obtain⟨v,r,d0,ds,f,g,rfl,rfl,rfl,h1,h2⟩:=h;have:u0=u:=by simpa using e
  subst this;have:d0=d:=by simpa using e'
  subst this;refine⟨v,f,[],g,rfl,h1,rfl,fun H' F' d' f' k e' o=>?_⟩;show OwnTs K H' F' (u0 :: us) (v :: r) (d' :: ds) (f' ++ g);simp only [OwnTs];exact⟨v,r,d',ds,f',g,rfl,rfl,rfl,o,h2.frame e' us k⟩
 | u0 :: us,_,_,_,j + 1,u,d,h,e,e'=>by
  simp only [OwnTs] at h;obtain⟨v,r,d0,ds,f,g,rfl,rfl,rfl,h1,h2⟩:=h;obtain⟨w,f',pre,post,e1,e2,e3,e4⟩:=OwnTs.zip (j:=j) h2 (by simpa using e) (by simpa using e');subst e3;refine⟨w,f',f ++ pre,post,by simpa using e1,e2,by rw [aP],fun H' F' d' g' k e' o=>?_⟩;rw [aP];show OwnTs K H' F' (u0 :: us) (v :: r) (d0 :: ds.set j d') (f ++ (pre ++ (g' ++ post)));simp only [OwnTs];refine⟨v,r,d0,_,f,_,rfl,rfl,rfl,h1.frame e' u0 fun a ha=>k a ?_,e4 H' F' d' g' (fun a ha=>k a ?_) e' o⟩
  ·rw [aP];exact aq _ ha
  ·rw [aP];exact aj _ ha
theorem Own.path:∀(p:List Nat) {u t:Ty} {v w:V} {d:D} {fp:List av} {ds:List D},Own K H F u v d fp->dAt u d p=some (.l t,.list ds)->wk H v p w->
  ∃b xs fs pre post,w=.ref b/\H b=some (.lst xs)/\fp=pre ++ ((b :: fs) ++ post)/\ListAll (Own K H F t) xs ds fs/\
   ∀(H':Hp) (F':List av) (kX:List V) (jy:List D) (kL:List av),(∀a∈pre ++ post,H' a=H a)->Same (cut H F) (cut H' F')->H' b=some (.lst kX)->ListAll (Own K H' F' t) kX jy kL->
    Own K H' F' u v (a1M d p (.list jy)) (pre ++ ((b :: kL) ++ post))
 | [],u,t,v,w,d,fp,ds,h,hd,hw=>by
  have jU:some (u,d)=some (.l t,.list ds):=hd;cases jU
  have AS:w=v:=hw;subst AS;simp only [Own] at h;rcases h with⟨_,hi,_⟩|⟨a,xs,jy,fs,rfl,h1,h2,rfl,h3⟩
  ·simp only [imm] at hi;cases hi
  ·cases h2
   refine⟨a,xs,fs,[],[],rfl,h1,by simp,h3,fun H' F' kX jy kL _ _ k o=>?_⟩;simp only [Own,a1M,bT,aZ];exact .inr ⟨a,kX,jy,kL,rfl,k,rfl,rfl,o⟩
 | j :: p,u,t,v,w,d,fp,ds,h,hd,hw=>by
  obtain⟨a0,mz,v1,rfl,vn,xm,hw⟩:=hw;cases u with
  | l u=>
   cases d with
   | list es=>
    have jU:(es[j]?).bind (fun d=>dAt u d p)=some (.l t,.list ds):=hd;obtain⟨d1,g1,g2⟩:=bnd jU;simp only [Own] at h;rcases h with⟨_,hi,_⟩|⟨a,xs,gr,fs,e0,h1,h2,rfl,h3⟩
    ·simp only [imm] at hi;cases hi
    ·cases h2
     cases e0
     have wH:mz=xs:=by rcases vn with z|z <;> rw [h1] at z <;> cases z;rfl
     subst wH;obtain⟨v2,f,pre,post,z1,z2,rfl,z4⟩:=h3.zip g1;rw [xm] at z1;cases z1
     obtain⟨b,ys,kL,lE,jA,rfl,q2,rfl,q4,q5⟩:=Own.path p z2 g2 hw;refine⟨b,ys,kL,a0 :: (pre ++ lE),jA ++ post,rfl,q2,by simp,q4,fun H' F' kX jy xR k e' hb o=>?_⟩;have k1:∀a∈pre ++ post,H' a=H a:=fun a ha=>k a (by simp only [ay,aH] at ha ⊢;rcases ha with z|z;exact .inl (.inr (.inl z));exact .inr (.inr z))
     have k2:∀a∈lE ++ jA,H' a=H a:=fun a ha=>k a (by simp only [ay,aH] at ha ⊢;rcases ha with z|z;exact .inl (.inr (.inr z));exact .inr (.inl z))
     have o1:=q5 H' F' kX jy xR k2 e' hb o;have o2:=z4 H' F' _ _ _ k1 e' o1;rw [set_same xm] at o2;show Own K H' F' (.l u) (.ref a0) (.list (es.set j (a1M (es.getD j .none) p (.list jy)))) _;rw [y9 g1];simp only [Own];refine .inr ⟨a0,mz,_,_,rfl,(k a0 (by simp)).trans h1,rfl,?_,o2⟩;simp
   | _=>cases hd
  | tp us=>
   cases d with
   | tuple es=>
    have jU:(us[j]?).bind (fun u=>(es[j]?).bind fun d=>dAt u d p)=some (.l t,.list ds):=hd;obtain⟨u1,g0,CK⟩:=bnd jU;obtain⟨d1,g1,g2⟩:=bnd CK;simp only [Own] at h;obtain⟨a,xs,gr,e0,h1,h0,h2,h3⟩:=h;cases h2
    cases e0
    have wH:mz=xs:=by rcases vn with z|z <;> rw [h1] at z <;> cases z;rfl
    subst wH;obtain⟨v2,f,pre,post,z1,z2,rfl,z4⟩:=h3.zip g0 g1;rw [xm] at z1;cases z1
    obtain⟨b,ys,kL,lE,jA,rfl,q2,rfl,q4,q5⟩:=Own.path p z2 g2 hw;refine⟨b,ys,kL,pre ++ lE,jA ++ post,rfl,q2,by simp,q4,fun H' F' kX jy xR k e' hb o=>?_⟩;have k1:∀a∈pre ++ post,H' a=H a:=fun a ha=>k a (by simp only [ay] at ha ⊢;rcases ha with z|z;exact .inl (.inl z);exact .inr (.inr z))
    have k2:∀a∈lE ++ jA,H' a=H a:=fun a ha=>k a (by simp only [ay] at ha ⊢;rcases ha with z|z;exact .inl (.inr z);exact .inr (.inl z))
    have o1:=q5 H' F' kX jy xR k2 e' hb o;have o2:=z4 H' F' _ _ k1 e' o1;show Own K H' F' (.tp us) (.ref a0) (.tuple (es.set j (a1M (es.getD j .none) p (.list jy)))) _;rw [y9 g1];obtain⟨n1,n2⟩:=n0 (e' a0 _ (i7 h0 h1));simp only [Own];refine⟨a0,mz,_,rfl,n2,n1,rfl,?_⟩;simpa using o2
   | _=>cases hd
  | i=>cases hd
  | f=>cases hd
  | d kt u=>cases hd
theorem a2q{N O:List av}(h:O.Nodup)(k:∀a,N.count a<=O.count a):N.Nodup:=iw.mpr fun a=>cI (k a) (iw.mp h a)
theorem Pend.put{Z:List D}(h:Pend K ([] ++ [.own t]) ([] ++ [d]) ([] ++ [some v]) M Z σ H P F)(hm:M[i]?=some (.own u))(h0:σ[i]?=some (some v0))(hd:dAt u (Z.getD i .none) p=some (.l t,.list ds))(hw:wk H v0 p w) :
  ∃b xs,w=.ref b/\H b=some (.lst xs)/\xs.length=ds.length/\StR K M (Z.set i (a1M (Z.getD i .none) p (.list (ds ++ [d])))) σ (upd H b (.lst (xs ++ [v]))) P F/\
   ∀j,j < ds.length->StR K M (Z.set i (a1M (Z.getD i .none) p (.list (ds.set j d)))) σ (upd H b (.lst (xs.set j v))) P F:=by
 obtain⟨_,_,S⟩:=h;obtain⟨G,h1,h2,h3⟩:=S.all;have nN:StAll K H F (.own t :: M) (d :: Z) (some v :: σ) G:=by simpa using h1
 simp only [StAll] at nN;obtain⟨d',Z',o',σ',fv,G2,e1,e2,rfl,⟨v',e3,ov⟩,h5⟩:=nN;cases e1
 cases e2
 cases e3
 obtain⟨dd,oo,f,pre,post,q1,q2,⟨v2,rfl,q3⟩,rfl,q5⟩:=h5.at_ hm;rw [h0] at q2;cases q2
 rw [y9 q1] at hd;obtain⟨b,xs,fs,lE,jA,rfl,r2,rfl,r4,r5⟩:=q3.path p hd hw;have rN:b∈F:=h3 b (by simp);have jl:∀o,Same (cut H F) (cut (upd H b o) F):=fun o a o' ha=>by
  obtain⟨n1,n2⟩:=n0 ha;exact i7 n1 (by rw [c9 (show a≠b from fun z=>n1 (z ▸ rN))];exact n2)
 have gZ:∀a,a≠b∨(pre ++ post).count a=0/\(lE ++ jA).count a=0/\fs.count a=0/\fv.count a=0:=fun a=>by
  by_cases e:a=b
  ·subst e;have:=iw.mp h2 a;simp only [bZ,bO,u_] at this ⊢;exact .inr ⟨by lia,by lia,by lia,by lia⟩
  ·exact .inl e
 have kk:∀(l:List av) (o:HO),(∀a,a=b->l.count a=0)->∀a∈l,upd H b o a=H a:=fun l o hc a ha=>c9 fun z=>by
  have:=hc a z;rw [yi] at this;exact this ha
 have c1:∀a,a=b->(pre ++ post).count a=0:=fun a e=>((gZ a).resolve_left (fun n=>n e)).1
 have c2:∀a,a=b->(lE ++ jA).count a=0:=fun a e=>((gZ a).resolve_left (fun n=>n e)).2.1
 have c3:∀a,a=b->fs.count a=0:=fun a e=>((gZ a).resolve_left (fun n=>n e)).2.2.1
 have c4:∀a,a=b->fv.count a=0:=fun a e=>((gZ a).resolve_left (fun n=>n e)).2.2.2
 have fin:∀(kX:List V) (jy:List D) (kL:List av),ListAll (Own K (upd H b (.lst kX)) F t) kX jy kL->(∀a,kL.count a<=fs.count a + fv.count a)->StR K M (Z.set i (a1M dd p (.list jy))) σ (upd H b (.lst kX)) P F:=fun kX jy kL ha oz=>by
  have o1:=r5 (upd H b (.lst kX)) F kX jy kL (kk _ _ c2) (jl _) i0 ha;have q:=q5 (upd H b (.lst kX)) F (.own u) (a1M dd p (.list jy)) (some v0) _ (kk _ _ c1) (jl _) ⟨v0,rfl,o1⟩;rw [set_same (l:=σ) h0,set_same (l:=M) hm] at q;refine⟨⟨_,q,a2q h2 fun a=>?_,fun a ha=>?_⟩,fun a ha=>?_,S.prot.trans (jl _)⟩
  ·have:=oz a;simp only [bZ,bO,jY];lia
  ·have hc:0 < (fv ++ (pre ++ (lE ++ (b :: fs ++ jA) ++ post))).count a:=by
    have h0:=iY.mpr ha;have:=oz a;simp only [bZ,bO,jY] at h0 ⊢;lia
   exact h3 a (iY.mp hc)
  ·by_cases e:a=b
   ·subst e;exact⟨⟨.lst kX,trivial⟩,i0⟩
   ·obtain⟨ys,y⟩:=S.lst a ha;exact⟨ys,by rw [c9 e];exact y⟩
 rw [y9 q1];refine⟨b,xs,rfl,r2,r4.length,fin (xs ++ [v]) (ds ++ [d]) (fs ++ fv) ?_ fun a=>by rw [bZ];exact aF _,fun j hj=>?_⟩
 ·refine (p6 (jl _) r4 (kk _ _ c3)).append ?_;have:=m7 (R:=Own K (upd H b (.lst (xs ++ [v]))) F t) (ov.frame (jl _) t (kk _ _ c4)) o8
  rwa [aZ] at this
 ·obtain⟨v3,f3,a1,a2,s1,s2,rfl,s4⟩:=r4.zip (aB hj);have c5:∀a,a=b->(a1 ++ a2).count a=0:=fun a e=>by have:=c3 a e;simp only [bZ] at this ⊢;lia
  refine fin (xs.set j v) (ds.set j d) (a1 ++ (fv ++ a2)) (s4 _ F v d fv (kk _ _ c5) (jl _) (ov.frame (jl _) t (kk _ _ c4))) fun a=>?_
  simp only [bZ];lia
end
end VS
namespace VS
open PySem PySem.Spec L2
inductive Out where
 | nx (Z:List D)|rt (d:D)|bk (Z:List D)|ct (Z:List D)
abbrev EvS:=List D->Option Out
def EndsOk(K:af)(P:Hp)(u:Ty)(ML M:List Md)(D:Ends)(o:Out):Prop:=
 match o with
 | .nx Z=>∀σ H F,StR K M Z σ H P F->D.nx σ H
 | .rt d=>∀v H fp,Own K H fp u v d fp->fp.Nodup->(∀a∈fp,P a=none)->Same P H->D.rt v H
 | .bk Z=>∀σ H F,StR K ML Z σ H P F->D.bk σ H
 | .ct Z=>∀σ H F,StR K ML Z σ H P F->D.ct σ H
def spS(K:af)(u:Ty)(ML M:List Md)(g:EvS)(M':List Md):TS:=fun D σ H=>∃(Z:List VS.D) (P:Hp) (F:List av) (o:Out),StR K M Z σ H P F/\g Z=some o/\EndsOk K P u ML M' D o
def PSX(X:Cx)(u:Ty)(ML M:List Md)(st:fT)(g:EvS)(M':List Md):Prop:=PS X st (spS X.K u ML M g M')
def PSsX(X:Cx)(u:Ty)(ML M:List Md)(mB:List fT)(g:EvS)(M':List Md):Prop:=PSs X mB (spS X.K u ML M g M')
section
variable {X:Cx}{u:Ty}{ML M M':List Md}{st:fT}{mB:List fT}{g:EvS}
theorem PSX.mk(h:∃t,PS X st t/\∀(D:Ends) (Z:List VS.D) (σ:L2.St) (H P:Hp) (F:List av) (o:Out),StR X.K M Z σ H P F->g Z=some o->EndsOk X.K P u ML M' D o->t D σ H):PSX X u ML M st g M':=by
 obtain⟨t,p,q⟩:=h;exact fun pins s σ H D I ⟨Z,P,F,o,S,hg,k⟩=>p pins s σ H D I (q D Z σ H P F o S hg k)
theorem PSX.out(h:PSX X u ML M st g M'):∃t,PS X st t/\∀(D:Ends) (Z:List VS.D) (σ:L2.St) (H P:Hp) (F:List av) (o:Out),StR X.K M Z σ H P F->g Z=some o->EndsOk X.K P u ML M' D o->t D σ H:=
 ⟨_,h,fun _ Z _ _ P F o S hg k=>⟨Z,P,F,o,S,hg,k⟩⟩
theorem PSsX.mk(h:∃t,PSs X mB t/\∀(D:Ends) (Z:List VS.D) (σ:L2.St) (H P:Hp) (F:List av) (o:Out),StR X.K M Z σ H P F->g Z=some o->EndsOk X.K P u ML M' D o->t D σ H):PSsX X u ML M mB g M':=by
 obtain⟨t,p,q⟩:=h;exact fun pins s σ H D I ⟨Z,P,F,o,S,hg,k⟩=>p pins s σ H D I (q D Z σ H P F o S hg k)
theorem PSsX.out(h:PSsX X u ML M mB g M'):∃t,PSs X mB t/\∀(D:Ends) (Z:List VS.D) (σ:L2.St) (H P:Hp) (F:List av) (o:Out),StR X.K M Z σ H P F->g Z=some o->EndsOk X.K P u ML M' D o->t D σ H:=
 ⟨_,h,fun _ Z _ _ P F o S hg k=>⟨Z,P,F,o,S,hg,k⟩⟩
end
def Wk(M M1:List Md):Prop:=∀(K:af) (Z:List D) (σ:L2.St) (H P:Hp) (F:List av),StR K M Z σ H P F->∃F',StR K M1 Z σ H P F'
theorem l8:Wk M M:=fun _ _ _ _ _ F S=>⟨F,S⟩
theorem Wk.trans(a:Wk M M1)(b:Wk M1 M2):Wk M M2:=fun K Z σ H P F S=>by
 obtain⟨F1,S1⟩:=a K Z σ H P F S;exact b K Z σ H P F1 S1
theorem l9{M:List Md}(i:Nat)(h:M[i]?=some m:=by rfl):Wk M (M.set i .dead):=fun K Z σ H P F S=>⟨F,S.dead h⟩
theorem T9{M:List Md}(i:Nat)(h:M[i]?=some (.own u):=by rfl):Wk M (M.set i (.own .f)):=fun K Z σ H P F S=>S.freeze h
def k6:EvS:=fun Z=>some (.nx Z)
def c7(a b:EvS):EvS:=fun Z=>(a Z).bind fun o=>match o with
 | .nx Z'=>b Z'
 | o=>some o
def i6(i:Nat)(f:EvE):EvS:=fun Z=>(f Z).bind fun d=>some (.nx (Z.set i d))
def asP:D->Option (D × D)
 | .tuple [a,b]=>some (a,b)
 | _=>none
def b5B(i j:Nat)(f:EvE):EvS:=fun Z=>(f Z).bind fun d=>(asP d).bind fun p=>some (.nx ((Z.set i p.1).set j p.2))
def i9(f:EvE):EvS:=fun Z=>(f Z).bind fun d=>some (.rt d)
def sEx(f:EvE):EvS:=fun Z=>(f Z).bind fun _=>some (.nx Z)
def sIf(c:EvT)(a b:EvS):EvS:=fun Z=>(c Z).bind fun k=>if k then a Z else b Z
def sNo:EvS:=fun _=>none
def Q2(set:List D->D->Option (List D))(g:EvS):List D->List D->Option Out
 | [],Z=>some (.nx Z)
 | d :: ds,Z=>(set Z d).bind fun Z1=>(g Z1).bind fun o=>match o with
  | .nx Z'=>Q2 set g ds Z'
  | .ct Z'=>Q2 set g ds Z'
  | .bk Z'=>some (.nx Z')
  | .rt d=>some (.rt d)
def t5(i:Nat):List D->D->Option (List D):=fun Z d=>some (Z.set i d)
def a4N(i j:Nat):List D->D->Option (List D):=fun Z d=>(asP d).bind fun p=>some ((Z.set i p.1).set j p.2)
def B4(fi:EvA)(set:List D->D->Option (List D))(g:EvS):EvS:=fun Z=>(fi Z).bind fun ds=>Q2 set g ds Z
def whL(c:EvT)(g:EvS):Nat->List D->Option Out
 | 0,_=>none
 | n + 1,Z=>(c Z).bind fun k=>if k then (g Z).bind fun o=>match o with
  | .nx Z'=>whL c g n Z'
  | .ct Z'=>whL c g n Z'
  | .bk Z'=>some (.nx Z')
  | .rt d=>some (.rt d)
  else some (.nx Z)
def sWh(n:List D->Nat)(c:EvT)(g:EvS):EvS:=fun Z=>whL c g (n Z) Z
section
variable {K:af}{M M1:List Md}{Z:List D}{σ:L2.St}{H P:Hp}{F:List av}
theorem StR.pend(S:StR K M Z σ H P F):Pend K [] [] [] M Z σ H P F:=⟨rfl,rfl,S⟩
theorem Pend.store{Zp:List D}(h:Pend K (Mp ++ [.own u]) (Zp ++ [d]) (σp ++ [some v]) M Z σ H P F)(lp:Zp.length=Mp.length)(lq:σp.length=Mp.length)(hm:M[i]?=some m) :
  Pend K Mp Zp σp (M.set i (.own u)) (Z.set i d) (σ.set i (some v)) H P F:=by
 obtain⟨_,_,S⟩:=h;obtain⟨G,h1,h2,h3⟩:=S.all;obtain⟨G1,G2,rfl,h4,h5⟩:=h1.splitAt (by simp [lp]) (by simp [lq]);obtain⟨G3,G4,rfl,h6,h7⟩:=h4.splitAt lp lq;have h8:OwnTs K H F [u] [v] [d] G4:=a0p (us:=[u]) (vs:=[v]) h7;simp only [OwnTs] at h8;obtain⟨v',r,d',e,f,g,e1,e2,rfl,o,rfl,rfl,rfl⟩:=h8;cases e1
 cases e2
 obtain⟨d0,o0,f0,pre,post,q1,q2,q3,rfl,q5⟩:=h5.at_ hm;have q:=h6.join (q5 H F (.own u) d (some v) f (fun _ _=>rfl) (Same.refl _) ⟨v,rfl,o⟩);refine⟨lp,lq,⟨⟨_,q,a2q h2 fun a=>?_,fun a ha=>h3 a ?_⟩,S.lst,S.prot⟩⟩
 ·simp only [bZ];lia
 ·simp only [ay,aZ] at ha ⊢;rcases ha with z|z|z|z
  ·exact .inl (.inl z)
  ·exact .inr (.inl z)
  ·exact .inl (.inr z)
  ·exact .inr (.inr (.inr z))
theorem Pend.st(h:Pend K [] [] [] M Z σ H P F):StR K M Z σ H P F:=h.2.2
theorem Pend.one(h:Pend K ([] ++ [.own u]) ([] ++ [d]) ([] ++ [some v]) M Z σ H P F):∃fp,Own K H F u v d fp/\fp.Nodup/\∀a∈fp,a∈F:=by
 obtain⟨_,_,S⟩:=h;obtain⟨G,h1,h2,h3⟩:=S.all;obtain⟨G1,G2,rfl,h4,h5⟩:=h1.splitAt (A:=[] ++ [.own u]) (Z1:=[] ++ [d]) (σ1:=[] ++ [some v]) rfl rfl;have h8:OwnTs K H F [u] [v] [d] G1:=a0p (us:=[u]) (vs:=[v]) h4;simp only [OwnTs] at h8;obtain⟨v',r,d',e,f,g,e1,e2,rfl,o,rfl,rfl,rfl⟩:=h8;cases e1
 cases e2
 rw [aZ] at h2 h3;exact⟨f,o,(bu.mp h2).1,fun a ha=>h3 a (aq _ ha)⟩
end
section
variable {X:Cx}{u t:Ty}{ML M M1 M2 M':List Md}{st:fT}{mB body zC:List fT}{g g1 g2:EvS}{e tg iter:Expr}{f:EvE}{fc:EvT}{fi:EvA}{c:Cat}{pos:ek}
theorem EndsOk.pre{K:af}{P:Hp}{D:Ends}{o:Out}(h:EndsOk K P u ML M' D o)(hw:Wk M M'):EndsOk K P u ML M D o:=by
 cases o with
 | nx Z=>exact fun σ H F S=>by obtain⟨F',S'⟩:=hw K Z σ H P F S;exact h σ H F' S'
 | rt d=>exact h
 | bk Z=>exact h
 | ct Z=>exact h
theorem PSsX.weak(h:PSsX X u ML M1 mB g M2)(a:Wk M M1)(b:Wk M2 M'):PSsX X u ML M mB g M':=by
 obtain⟨t,p,q⟩:=h.out;refine .mk ⟨t,p,fun D Z σ H P F o S hg k=>?_⟩;obtain⟨F1,S1⟩:=a _ Z σ H P F S;exact q D Z σ H P F1 o S1 hg (k.pre b)
theorem PSX.weak(h:PSX X u ML M1 st g M2)(a:Wk M M1)(b:Wk M2 M'):PSX X u ML M st g M':=by
 obtain⟨t,p,q⟩:=h.out;refine .mk ⟨t,p,fun D Z σ H P F o S hg k=>?_⟩;obtain⟨F1,S1⟩:=a _ Z σ H P F S;exact q D Z σ H P F1 o S1 hg (k.pre b)
theorem k8:PSsX X u ML M [] k6 M:=.mk ⟨_,b3J,fun D Z σ H P F o S hg k=>by cases hg;exact k σ H F S⟩
theorem a9(h1:PSX X u ML M st g1 M1)(h2:PSsX X u ML M1 mB g2 M'):PSsX X u ML M (st :: mB) (c7 g1 g2) M':=by
 obtain⟨t1,p1,q1⟩:=h1.out;obtain⟨t2,p2,q2⟩:=h2.out;refine .mk ⟨_,a5n p1 p2,fun D Z σ H P F o S hg k=>?_⟩;obtain⟨o1,h1,g1⟩:=bnd hg;refine q1 {D with nx:=t2 D} Z σ H P F o1 S h1 ?_;cases o1 with
 | nx Z'=>exact fun σ' H' F' S'=>q2 D Z' σ' H' P F' o S' g1 k
 | rt d=>cases g1;exact k
 | bk Z'=>cases g1;exact k
 | ct Z'=>cases g1;exact k
theorem c6(h1:PSX X u ML M st g M1):PSsX X u ML M [st] g M1:=by
 obtain⟨t1,p1,q1⟩:=h1.out;exact .mk ⟨_,a8r p1,q1⟩
theorem i5(i:Nat)(hN:X.N.Nodup)(he:PMX X M e f t M1)(hi:X.N[i]?=some x:=by rfl)(hx:Loc X.env.scope x:=by first|exact cf rfl|exact bR rfl)(hm:M1[i]?=some m:=by rfl)
  (hs:ff e (some (.Name x px)) pos.line X.env=pure false:=by rfl) (hf:X.fn x=true∨X.env.scope.names.lookup x=some .local:=by first|exact .inl rfl|exact .inr rfl):PSX X u ML M (.Assign [.Name x px] e pos) (i6 i f) (M1.set i (.own t)):=by
 obtain⟨te,pe,qe⟩:=he;refine .mk ⟨_,b6n hN hi hx pe hs hf,fun D Z σ H P F o S hg k=>?_⟩;obtain⟨d,h1,g1⟩:=bnd hg;cases g1
 exact qe [] [] [] Z σ H P F d _ S.pend h1 fun v H' F' e S'=>k _ _ F' (S'.store rfl rfl hm).st
theorem g9(he:PMX X M e f u M1):PSX X u ML M (.Return (some e) pos) (i9 f) M':=by
 obtain⟨te,pe,qe⟩:=he;refine .mk ⟨_,b0Z pe,fun D Z σ H P F o S hg k=>?_⟩;obtain⟨d,h1,g1⟩:=bnd hg;cases g1
 refine qe [] [] [] Z σ H P F d _ S.pend h1 fun v H' F' e S'=>?_
 obtain⟨fp,o,nd,sub⟩:=S'.one;refine k v H' fp (o.frame (B3 sub) u fun _ _=>rfl) nd (fun a ha=>?_) (S'.2.2.prot.trans i4);cases hP:P a with
 | none=>rfl
 | some o'=>
  have:=S'.2.2.prot _ _ hP;rw [T5 (sub a ha)] at this;cases this
theorem a1T(he:PX X M e f c)(hs:ff e none pos.line X.env=pure false:=by rfl):PSX X u ML M (.Expr e pos) (sEx f) M:=by
 obtain⟨te,pe,qe⟩:=he.out;refine .mk ⟨_,V1 pe hs,fun D Z σ H P F o S hg k=>?_⟩;obtain⟨d,h1,g1⟩:=bnd hg;cases g1
 exact qe Z σ H P F d _ S.toE h1 fun v H' e _=>k σ H' F (S.grow e)
theorem n6(hc:PTX X M c0 fc)(ha:PSsX X u ML M body g1 M')(hb:PSsX X u ML M zC g2 M'):PSX X u ML M (.If c0 body zC pos) (sIf fc g1 g2) M':=by
 obtain⟨tc,pc,qc⟩:=hc.out;obtain⟨ta,pa,qa⟩:=ha.out;obtain⟨tb,pb,qb⟩:=hb.out;refine .mk ⟨_,b5x pc pa pb,fun D Z σ H P F o S hg k=>?_⟩;obtain⟨b,h1,g1⟩:=bnd hg;refine qc Z σ H P F b _ S.toE h1 fun H1 e1=>?_
 cases b with
 | true=>exact a1L (qa D Z σ H1 P F o (S.grow e1) g1 k)
 | false=>exact a1K (qb D Z σ H1 P F o (S.grow e1) g1 k)
theorem b5C:PSX X u ML M st sNo M':=.mk ⟨_,b1a,fun D Z σ H P F o S hg k=>by cases hg⟩
def b1C(K:af)(M MB:List Md)(g:TG)(set:List D->D->Option (List D))(m:D->Prop):Prop:=
 ∀(Z:List D) (σ:L2.St) (H P:Hp) (F:List av) (x:V) (d:D) (Z':List D) (Q:L2.St->Hp->Prop),StR K M Z σ H P F->Den K (cut H F) x d->m d->set Z d=some Z'->(∀σ' F',StR K MB Z' σ' H P F'->Q σ' H)->g x σ H Q
def mI(d:D):Prop:=imm d=true
def mF(_:D):Prop:=True
theorem b6O(hm:M[i]?=some m:=by rfl):b1C K M (M.set i (.own .f)) (a0j i) (t5 i) mF:=by
 intro Z σ H P F x d Z' Q S hd _ hs q;cases hs
 exact q _ _ (S.set (u:=.f) (fp:=[]) hm (Same.refl _) (by simp only [Own,bT];exact⟨trivial,hd⟩) br fun a ha=>(nomatch ha))
theorem C3(hm:M[i]?=some m:=by rfl):b1C K M (M.set i (.own .i)) (a0j i) (t5 i) mI:=by
 intro Z σ H P F x d Z' Q S hd hi hs q;cases hs
 exact q _ _ (S.set (u:=.i) (fp:=[]) hm (Same.refl _) (by simp only [Own,bT];exact⟨trivial,hi,hd⟩) br fun a ha=>(nomatch ha))
theorem b1D(hw:w=.f∨w=.i)(pP:i≠j:=by decide)(sG:M[i]?=some m1:=by rfl)(BA:M[j]?=some m2:=by rfl):b1C K M ((M.set i (.own w)).set j (.own w)) (b8U K 2 (b1b (a0j i) (b1b (a0j j) b8T))) (a4N i j) (fun d=>w=.i->imm d=true):=by
 intro Z σ H P F x d Z' Q S hd hi hs q;obtain⟨⟨d1,d2⟩,h2,g2⟩:=bnd hs;cases g2
 have xF:d=.tuple [d1,d2]:=by
  match d,h2 with
  | .tuple [a,b],h2=>cases h2;rfl
 subst xF;obtain⟨a,xs,rfl,k1,k2⟩:=hd.tup_inv;obtain⟨v1,v2,rfl,k3,k4⟩:=a8z k2;refine⟨a,_,rfl,a0J k1 i4,rfl,v1,[v2],rfl,v2,[],rfl,rfl,?_⟩;have o1:Own K H ([] ++ F) w v1 d1 []:=by
  rcases hw with rfl|rfl
  ·simp only [Own,bT];exact⟨trivial,k3⟩
  ·have:=hi rfl;simp only [imm,e6,az] at this;simp only [Own,bT];exact⟨trivial,this.1,k3⟩
 have o2:Own K H ([] ++ ([] ++ F)) w v2 d2 []:=by
  rcases hw with rfl|rfl
  ·simp only [Own,bT];exact⟨trivial,k4⟩
  ·have:=hi rfl;simp only [imm,e6,az] at this;simp only [Own,bT];exact⟨trivial,this.2.1,k4⟩
 have S1:=S.set sG (Same.refl _) o1 br fun a ha=>(nomatch ha)
 exact q _ _ (S1.set (i:=j) (m:=m2) (by rw [dD pP];exact BA) (Same.refl _) o2 br fun a ha=>(nomatch ha))
theorem A9{set:List D->D->Option (List D)}{m:D->Prop}(hc:X.calm=true)(hp:qm (aU X.prog X.w) X.A X.env X.xe)(hi:PIX X M tg iter fi)(hg:PG X tg gt)(hs:b1C X.K M MB gt set m)(hm:∀Z ds,fi Z=some ds->∀d∈ds,m d)(hb:PSsX X u M MB body g M)
  (hf:∀x,eF iter X.env x=pure x:=by intro _;rfl):PSX X u ML M (.For tg iter body [] pos) (B4 fi set g) M:=by
 obtain⟨wi,pi,qi⟩:=hi;obtain⟨tb,pb,qb⟩:=hb.out;refine .mk ⟨_,b1f hp hc pi hg pb hf,fun D Z σ H P F o S oq k=>?_⟩;obtain⟨ds,h1,g1⟩:=bnd oq;refine qi Z σ H P F ds _ S.toE h1 fun J xs Pr H1 e1 hw sE hx=>?_
 have S1:=S.grow e1;have rd:=hx.length;refine⟨fun i n σ' H'=>n=xs.length - i/\i<=xs.length/\∃Z' F',StR X.K M Z' σ' H' (cut H1 F) F'/\Q2 set g (ds.drop i) Z'=some o,⟨xs.length,by simp,dq _,Z,F,⟨S1.all,S1.lst,Same.refl _⟩,g1⟩,?_⟩;rintro i n σ' H' ⟨rfl,hi,Z',F',S',hfl⟩;have lV:Same (cut H1 F) (cut H' F'):=S'.prot;have q:=sE H' (lV.trans i4);by_cases fL:i < xs.length
 ·refine .inr ⟨hw.go i H' q fL,fun σ2 H2=>∃Z2 F2,StR X.K M Z2 σ2 H2 (cut H1 F) F2/\Q2 set g (ds.drop (i + 1)) Z2=some o,fun σ2 H2 ⟨Z2,F2,S2,h2⟩=>⟨xs.length - (i + 1),by lia,rfl,fL,Z2,F2,S2,h2⟩,fun x H2 hy=>?_⟩;obtain⟨rfl,qz⟩:=hw.yld i H' x H2 q fL hy;have mV:i < ds.length:=by lia
  have lZ:ds.drop i=ds[i] :: ds.drop (i + 1):=cU mV;rw [lZ] at hfl;obtain⟨Z1,vq,g2⟩:=bnd (show (set Z' ds[i]).bind _=some o from hfl);obtain⟨o1,uu,g3⟩:=bnd g2;obtain⟨d',ox,uz⟩:=(hx.up lV).getV qz;have jU:d'=ds[i]:=by rw [aB mV] at ox;exact (aD ox).symm
  subst jU;refine hs Z' σ' H2 (cut H1 F) F' x _ Z1 _ S' uz (hm Z ds h1 _ (cQ mV)) vq fun σ3 F3 S3=>qb _ Z1 σ3 H2 (cut H1 F) F3 o1 S3 uu ?_
  cases o1 with
  | nx Z2=>exact fun σ4 H4 F4 S4=>⟨Z2,F4,S4,g3⟩
  | ct Z2=>exact fun σ4 H4 F4 S4=>⟨Z2,F4,S4,g3⟩
  | bk Z2=>
   have:o=.nx Z2:=(aD g3).symm;subst this;exact fun σ4 H4 F4 S4=>k σ4 H4 F4 ⟨S4.all,S4.lst,S1.prot.trans S4.prot⟩
  | rt d=>
   have:o=.rt d:=(aD g3).symm;subst this;refine fun v H4 fp o nd fr e=>k v H4 fp o nd (fun a ha=>?_) (S1.prot.trans e)
   exact S1.prot.free (fr a ha)
 ·have e:i=xs.length:=by lia
  subst e;rw [rd,jI] at hfl;have:o=.nx Z':=(aD hfl).symm;subst this;exact .inl ⟨hw.stop _ H' q (aF _),k σ' H' F' ⟨S'.all,S'.lst,S1.prot.trans S'.prot⟩⟩
theorem a2r(n:List D->Nat)(hp:qm (aU X.prog X.w) X.A X.env X.xe)(hc:PTX X M c0 fc)(hb:PSsX X u M M body g M):PSX X u ML M (.While c0 body [] pos) (sWh n fc g) M:=by
 obtain⟨tc,pc,qc⟩:=hc.out;obtain⟨tb,pb,qb⟩:=hb.out;refine .mk ⟨_,b1e hp pc pb,fun D Z σ H P F o S oq k=>?_⟩;refine⟨fun n σ' H'=>∃Z' F',StR X.K M Z' σ' H' P F'/\whL fc g n Z'=some o,⟨n Z,Z,F,S,oq⟩,?_⟩;rintro n σ' H' ⟨Z',F',S',hw⟩;cases n with
 | zero=>cases hw
 | succ n=>
  obtain⟨b,h1,g1⟩:=bnd (show (fc Z').bind _=some o from hw);refine qc Z' σ' H' P F' b _ S'.toE h1 fun H1 e1=>?_
  cases b with
  | true=>
   refine a1L ⟨fun σ2 H2=>∃Z2 F2,StR X.K M Z2 σ2 H2 P F2/\whL fc g n Z2=some o,fun σ2 H2 z=>⟨n,jF _,z⟩,?_⟩;obtain⟨o1,uu,g3⟩:=bnd (show (g Z').bind _=some o from g1);refine qb _ Z' σ' H1 P F' o1 (S'.grow e1) uu ?_;cases o1 with
   | nx Z2=>exact fun σ4 H4 F4 S4=>⟨Z2,F4,S4,g3⟩
   | ct Z2=>exact fun σ4 H4 F4 S4=>⟨Z2,F4,S4,g3⟩
   | bk Z2=>
    have:o=.nx Z2:=(aD g3).symm;subst this;exact fun σ4 H4 F4 S4=>k σ4 H4 F4 S4
   | rt d=>
    have:o=.rt d:=(aD g3).symm;subst this;exact k
  | false=>
   have:o=.nx Z':=(aD g1).symm;subst this;exact a1K (k σ' H1 F' (S'.grow e1))
end
end VS
namespace VS
open PySem PySem.Spec L2
abbrev EvP:=List D->Option (List Nat)
def PPX(X:Cx)(M:List Md)(e:Expr)(i:Nat)(f:EvP):Prop:=
 ∃t,PE X e t/\∀(Z:List D) (σ:L2.St) (H P:Hp) (F:List av) (p:List Nat) (Q:VK),StE X.K M Z σ H P F->f Z=some p->(∀v v0 H',Same H H'->σ[i]?=some (some v0)->wk H' v0 p v->Q v H')->t σ H Q
def u8:EvP:=fun _=>some []
def a4O(u:Ty)(d:D)(p:List Nat):Option (List D):=(dAt u d p).bind fun td=>match td with
 | (.l _,.list ds)=>some ds
 | (.tp _,.tuple ds)=>some ds
 | _=>none
section
variable {X:Cx}{u t w:Ty}{ML M M1 M':List Md}{e b pl:Expr}{f fb:EvE}{fp:EvP}{cb:Cat}{pos apos cL:ek}
theorem N0(i:Nat)(hN:X.N[i]?=some x:=by rfl)(hv:Vis X.env.scope x:=by first|exact cf rfl|exact bR (cf rfl)|exact bR (bR rfl))(hd:(x == ("__debug__":bc))=false:=by decide)
  (gJ:(x == ("__classdict__":bc))=false:=by decide) (hm:M[i]?=some (.own u):=by rfl):PPX X M (.Name x pos) i u8:=by
 refine⟨_,C8 hN hv hd gJ,fun Z σ H P F p Q S hf k=>?_⟩;cases hf
 obtain⟨v,f,e,_⟩:=S.get hm;exact⟨v,e,k v v H (Same.refl _) e rfl⟩
def J8(i:Nat)(u:Ty)(fp:EvP)(fe:EvE):EvS:=fun Z=>(fp Z).bind fun p=>(a4O u (Z.getD i .none) p).bind fun ds=>(fe Z).bind fun d=>if ds.length < 1000000 then some (.nx (Z.set i (a1M (Z.getD i .none) p (.list (ds ++ [d]))))) else none
def b4l(i:Nat)(u:Ty)(fp:EvP)(fj fe:EvE):EvS:=fun Z=>(fe Z).bind fun d=>(fp Z).bind fun p=>(a4O u (Z.getD i .none) p).bind fun ds=>(fj Z).bind fun y=>(asI y).bind fun k=>(ixN ds.length k).bind fun j=>some (.nx (Z.set i (a1M (Z.getD i .none) p (.list (ds.set j d)))))
def b6P(u:Ty)(fp:EvP)(t:Ty):Prop:=∀Z p d td,fp Z=some p->dAt u d p=some td->td.1=.l t
theorem a1q:b6P (.l t) u8 t:=fun Z p d td h1 h2=>by
 cases h1
 have lr:some (Ty.l t,d)=some td:=h2;cases lr
 rfl
theorem a8E(ht:∀td,dAt u d p=some td->td.1=.l t)(hi:a4O u d p=some ds):dAt u d p=some (.l t,.list ds):=by
 obtain⟨⟨t',d'⟩,h1,h2⟩:=bnd hi;have e:t'=.l t:=ht _ h1;subst e;cases d' with
 | list es=>cases h2;exact h1
 | _=>cases h2
theorem Y7(i:Nat)(hp:PPX X M pl i fp)(he:PMX X M e f t M1)(ht:b6P u fp t)(hm:M[i]?=some (.own u):=by rfl)(sG:M1[i]?=some (.own u):=by rfl)
  (iq:gM pl "append" X.env (bW pl X.env)=bW pl X.env:=by rfl)
  (jL:((b_ cL (au [e] X.env)).all (fun x=>!x.1) && (mf cL (iO [] X.env)).all (fun x=>x.1.isSome)
   && decide ([e].length + ([]:List gC).length + (if ([]:List gC).isEmpty then 0 else 1) < 30))=true:=by rfl)
  (ip:(apos.endLine == cL.line)=true:=by rfl) (hs:au [e] X.env=(false,bW e X.env) :: au [] X.env:=by rfl) (fZ:(b_ cL (au [] X.env)).any (·.1)=false:=by rfl)
  (nY:ff (.Call (.Attribute pl "append" apos) [e] [] cL) none pos.line X.env=pure false:=by rfl) :
  PSX X w ML M (.Expr (.Call (.Attribute pl "append" apos) [e] [] cL) pos) (J8 i u fp f) M1:=by
 obtain⟨tp,pp,qp⟩:=hp;obtain⟨te,pe,qe⟩:=he;refine .mk ⟨_,V1 (b1o jC PySem.F.slot_list_append PySem.F.type_list_append a3L pp (k9 pe o7 hs) iq jL ip hs fZ) nY,fun D Z σ H P F o S hg k=>?_⟩;obtain⟨p,h1,g1⟩:=bnd hg;obtain⟨ds,h2,g2⟩:=bnd g1;obtain⟨d,h3,g3⟩:=bnd g2;by_cases hz:ds.length < 1000000
 ·rw [aE hz] at g3;cases g3
  refine qp Z σ H P F p _ S.toE h1 fun v v0 H1 e1 vp hw=>?_
  have S1:=S.grow e1;obtain⟨v',f',e',o,_⟩:=S1.toE.get hm;rw [vp] at e';cases e'
  have sL:=a8E (fun td z=>ht Z p _ td h1 z) h2;obtain⟨b,xs,fs,pre,post,rfl,r2,_,_,_⟩:=o.path p sL hw;refine⟨.inl ⟨rfl,xs,SqL.of r2⟩,qe [] [] [] Z σ H1 P F d _ S1.pend h3 fun v1 H2 F2 e2 S2=>?_⟩;obtain⟨b',kX,e',Aq,hl,S3,_⟩:=S2.put sG vp sL (b1B e2 hw);cases e'
  refine⟨b,kX,v1,rfl,rfl,Aq,?_,k σ _ F2 S3⟩;rw [hl];exact jR hz (by rw [dv];decide)
 ·rw [aO hz] at g3;cases g3
theorem b6Q(i:Nat)(hp:PPX X M1 pl i fp)(hj:PX X M1 j fj cj)(he:PMX X M e f t M1)(ht:b6P u fp t)(sG:M1[i]?=some (.own u):=by rfl)
  (ha:∀v,kg (.Subscript pl j ik) X.env v=(do
   let ov <-il [v] (bW pl X.env)
   let iv <-il [v,ov] (bW j X.env)
   sj ik
   il [v,ov,iv] (Al ov iv v)
   release [v,ov,iv] []):=by intro _;rfl)
  (hs:wc [.Subscript pl j ik] e pos.line X.env=pure false:=by rfl) (hw:we [.Subscript pl j ik] e X.env=pure none:=by rfl)
  (h1:(iK [.Subscript pl j ik] X.env).map (·.2)=[kg (.Subscript pl j ik) X.env]:=by rfl) :
  PSX X w ML M (.Assign [.Subscript pl j ik] e pos) (b4l i u fp fj f) M1:=by
 obtain⟨tp,pp,qp⟩:=hp;obtain⟨tj,pj,qj⟩:=hj.out;obtain⟨te,pe,qe⟩:=he;refine .mk ⟨_,b1d pe (b6l pp pj set_list ha) hs hw h1,fun D Z σ H P F o S hg k=>?_⟩;obtain⟨d,h3,g3⟩:=bnd hg;obtain⟨p,h1,g1⟩:=bnd g3;obtain⟨ds,h2,g2⟩:=bnd g1;obtain⟨y,h4,g4⟩:=bnd g2;obtain⟨kk,h5,g5⟩:=bnd g4;cases P2 h5
 obtain⟨jj,h6,g6⟩:=bnd g5;cases g6
 refine qe [] [] [] Z σ H P F d _ S.pend h3 fun v1 H1 F1 e1 S1=>qp Z σ H1 P F1 p _ S1.e h1 fun v v0 H2 e2 vp wJ=>qj Z σ H2 P F1 _ _ (S1.e.grow e2) h4 fun vj H3 e3 r3=>?_
 have S2:=(S1.grow (e2.trans e3));have sL:=a8E (fun td z=>ht Z p _ td h1 z) h2;obtain⟨b,xs,rfl,r2,hl,_,S3⟩:=S2.put sG vp sL (b1B e3 wJ);have fL:jj < ds.length:=(a4D h6).2.1;exact⟨b,xs,kk,jj,rfl,r3.den.int_inv,r2,by rw [hl];exact h6,k σ _ F1 (S3 jj fL)⟩
theorem Q3(i:Nat)(hN:X.N.Nodup)(hc:X.calm=true)
  (hi:PIX X M tg iter fi) (C:V2 scope X.env.kindOf ys js X.N=true) (hg:∀cl Cl s H fp,PG (M5 X (tn ++ ys) scope cl Cl s H fp) tg g) (ur:TgR X.K g n pt) (yT:mm=.i∨mm=.f)
  (qA:mm=.i->∀Z ds,fi Z=some ds->∀d∈ds,∀bs,pt d=some bs->e6 bs=true) (tU:tn.length=n)
  (ht:∀cl Cl s H fp,PTs (M5 X (tn ++ ys) scope cl Cl s H fp) ifs (spT X.K (T8 (.own mm) n M js) ft)) (he:∀cl Cl s H fp,PX (M5 X (tn ++ ys) scope cl Cl s H fp) (T8 (.own mm) n M js) elt fe (.new t))
  (qz:X.N[i]?=some x:=by rfl) (hx:Loc X.env.scope x:=by first|exact cf rfl|exact bR rfl) (hm:M[i]?=some m:=by rfl)
  (nY:ff (.ListComp elt [⟨tg,iter,ifs,0⟩] scope cps) (some (.Name x px)) pos.line X.env=pure true:=by rfl) (hs:∀x,eF iter X.env x=pure x:=by intro _;rfl)
  (hf:X.fn x=true∨X.env.scope.names.lookup x=some .local:=by first|exact .inl rfl|exact .inr rfl) :
  PSX X w ML M (.Assign [.Name x px] (.ListComp elt [⟨tg,iter,ifs,0⟩] scope cps) pos) (i6 i (t9 fi js pt ft fe)) (M.set i (.own (.l t))):=by
 obtain⟨wi,pi,qi⟩:=hi;refine .mk ⟨_,a5s (te:=spE X.K (T8 (.own mm) n M js) fe (.new t)) hc hN qz hx pi C hg ht he nY hs hf,fun D Z σ H P F o S nL k=>?_⟩;obtain⟨d,h1,g1⟩:=bnd nL;cases g1
 exact a3U qi ur yT qA tU S.toE h1 fun v H' e ⟨fp,o,nd,fr⟩=>k _ _ _ (S.set hm e o nd fr)
end
def argsOk:List Ty->List D->Bool
 | [],[]=>true
 | .i :: us,d :: ds=>imm d && argsOk us ds
 | .f :: us,_ :: ds=>argsOk us ds
 | _,_=>false
def fnD(us:List Ty)(n:Nat)(g:EvS):List D->Option D:=fun ds=>if argsOk us ds then (g (ds ++ aC n .none)).bind fun o=>match o with
 | .rt d=>some d
 | _=>none
 else none
theorem N1:∀{us:List Ty} {vs:List V} {ds:List D},argsOk us ds=true->DenAll K H vs ds->∀n,StAll K H [] (us.map .own ++ aC n .dead) (ds ++ aC n .none) (vs.map some ++ aC n none) []
 | [],vs,[],_,hd,n=>by
  rw [hd.nil_inv]
  induction n with
  | zero=>exact K2
  | succ n ih=>exact j8 (K:=K) (H:=H) (F:=[]) (m:=.dead) (f:=[]) rfl ih
 | .i :: us,vs,d :: ds,h,hd,n=>by
  have h':imm d=true/\argsOk us ds=true:=by simpa [argsOk] using h
  obtain⟨v,r,rfl,h1,h2⟩:=hd.cons_inv;refine j8 (K:=K) (H:=H) (F:=[]) (m:=.own .i) (f:=[]) ⟨v,rfl,?_⟩ (N1 h'.2 h2 n);simp only [Own,F7];exact⟨trivial,h'.1,h1⟩
 | .f :: us,vs,d :: ds,h,hd,n=>by
  have h':argsOk us ds=true:=by simpa [argsOk] using h
  obtain⟨v,r,rfl,h1,h2⟩:=hd.cons_inv;refine j8 (K:=K) (H:=H) (F:=[]) (m:=.own .f) (f:=[]) ⟨v,rfl,?_⟩ (N1 h' h2 n);simp only [Own,F7];exact⟨trivial,h1⟩
 | .l _ :: us,vs,d :: ds,h,_,_=>by simp [argsOk] at h
 | .tp _ :: us,vs,d :: ds,h,_,_=>by simp [argsOk] at h
 | .d _ _ :: us,vs,d :: ds,h,_,_=>by simp [argsOk] at h
 | [],vs,d :: ds,h,_,_=>by simp [argsOk] at h
 | .i :: us,vs,[],h,_,_=>by simp [argsOk] at h
 | .f :: us,vs,[],h,_,_=>by simp [argsOk] at h
 | .l _ :: us,vs,[],h,_,_=>by simp [argsOk] at h
 | .tp _ :: us,vs,[],h,_,_=>by simp [argsOk] at h
 | .d _ _ :: us,vs,[],h,_,_=>by simp [argsOk] at h
open PyProof.Rows in
theorem b4m{P:bh}{w:bE}{K:af}{mg:bc->Option ai}{base:bL}{x:bc}{st:fT}{f:av}{fd:cV}{N ps:List bc}{k n:Nat}{us:List Ty}{u:Ty}{g:EvS}{M':List Md}(F:Fun K x x st f fd)(S:FnScope N ps (g8 st))(k_:us.length=ps.length)(hn:N.length=ps.length + n)
  (hb:∀(eQ:ai) (A:bx) (outer:List lQ) (s:ak) (H:Hp) (E:XK),Room k (A.deeper (iE x (g8 st) s.heap.objs.size f eQ))->PSsX (S9 CX0 P w K mg base N x (g8 st) f eQ A outer s H E).nox u [] (us.map .own ++ aC n .dead) (r9 st) g M') :
  FnOk P w K mg base CX0 (k + 1) f fd ps (spD K ps.length (fnD us n g) u):=by
 refine F.ok S (fun vs H Q E h=>?_) (fun eQ A outer s H vs Q E hr h=>?_)
 ·obtain⟨ds,d,hl,_⟩:=h;exact hl
 obtain⟨ds,d,hl,hd,hm,q⟩:=h;obtain⟨t,p,r⟩:=(hb eQ A outer s H E hr).out;refine⟨t,p,?_⟩;unfold fnD at hm;by_cases ha:argsOk us ds=true
 ·rw [aE ha] at hm;obtain⟨o,h1,h2⟩:=bnd hm;cases o with
  | rt d'=>
   have lr:some d'=some d:=h2;cases lr
   have e:L2.start N vs=vs.map some ++ aC n none:=by
    unfold L2.start;rw [show N.length - vs.length=n by lia]
   rw [e];refine r _ (ds ++ aC n fG) _ H H [] (.rt d) ⟨⟨[],N1 ha hd n,br,fun a ha=>(nomatch ha)⟩,fun a ha=>(nomatch ha),by rw [F7];exact Same.refl H⟩ h1 ?_;exact fun v H' fp o nd fr e=>q v H' fp e o nd fr
  | _=>cases h2
 ·rw [aO ha] at hm;cases hm
end VS
namespace VS
open PySem PySem.Spec L2 PyProof.Rows
def D5(K:af):List (bc × av):=K5.filterMap fun x=>(x8 K x).map fun p=>(x,p)
def a0Q:List av->Bool
 | []=>true
 | a :: r=>!r.contains a && a0Q r
def a2s(K:af)(names:List bc):Bool:=a0Q ((D5 K).map (·.2)) && (D5 K).all fun t=>(K.lookup t.2).isNone && names.contains t.1
theorem a2t:∀{l:List (bc × av)} {x y:bc} {p:av},a0Q (l.map (·.2))=true->(x,p)∈l->(y,p)∈l->x=y
 | [],_,_,_,_,h,_=>(nomatch h)
 | (z,q) :: l,x,y,p,h,h1,h2=>by
  have h':((l.map (·.2)).contains q=false)/\a0Q (l.map (·.2))=true:=by simpa [a0Q] using h
  have yA:∀w,(w,q)∉l:=fun w hw=>by
   have:(l.map (·.2)).contains q=true:=by
    rw [sW];exact aG.mpr ⟨(w,q),hw,rfl⟩
   rw [h'.1] at this;cases this
  rcases aH.mp h1 with e1|e1
  ·rcases aH.mp h2 with e2|e2
   ·cases e1;cases e2;rfl
   ·cases e1;exact absurd e2 (yA y)
  ·rcases aH.mp h2 with e2|e2
   ·cases e2;exact absurd e1 (yA x)
   ·exact a2t h'.2 e1 e2
theorem a1r{K:af}{x:bc}{p:av}(hx:x∈K5)(h:x8 K x=some p):(x,p)∈D5 K:=
 de.mpr ⟨x,hx,by rw [h];rfl⟩
theorem C4{K:af}{x:bc}{p:av}(h:(x,p)∈D5 K):x∈K5/\x8 K x=some p:=by
 obtain⟨y,hy,e⟩:=de.mp h;cases q:x8 K y with
 | none=>rw [q] at e;cases e
 | some r=>
  rw [q] at e;have e':(y,r)=(x,p):=aD e;cases e'
  exact⟨hy,q⟩
theorem a7q{K:af}(e:a4A K cd=some p)(X:K.In h):∃c,cd=.ref c/\fQ h c p:=by
 unfold a4A at e
 split at e
 ·rename_i c
  split at e
  ·rename_i n dd vs sl hc
   split at e
   ·rename_i hn
    split at e
    ·rename_i P' file tf flags tg sv text tt zx CI h7 h9 CJ
     split at e
     ·rename_i gy
      cases e
      have en:n="code":=by simpa using hn
      subst en;refine⟨c,rfl,_,vs,file,tf,flags,tg,sv,text,tt,X _ _ hc,rfl,rfl,zx,?_,?_,?_,?_,?_,bne_iff_ne.mp gy⟩
      ·simp [dW,zx]
      ·simp [dW,CI]
      ·simp [dW,h7]
      ·simp [dW,h9]
      ·simp [dW,CJ]
     ·cases e
    ·cases e
   ·cases e
  ·cases e
 ·cases e
theorem a3W{K:af}{h:bL}(e:x8 K x=some p)(X:K.In h)(G:h.Ns aV mg) :
  ∃f oc od fd sl c,mg x=some (.ref f)/\K.lookup f=some ⟨oc,od,.func fd,sl⟩/\fd.code=.ref c/\fQ h c p:=by
 unfold x8 at e
 split at e
 ·rename_i f hf
  split at e
  ·rename_i oc od fd sl hl
   obtain⟨c,hc,hd⟩:=a7q e X;exact⟨f,oc,od,fd,sl,c,fw X G hf,hl,hc,hd⟩
  ·cases e
 ·cases e
def Tab0(K:af)(h:bL):Prop:=∀x∈K5,∀p,x8 K x=some p->isCodeTable h p/\h.get? p=some {cls:=.none,data:=.fields #[]}
theorem b4n{q:bh}{loose:List bc}{wz:ExcName->Option ai}{mg mb:bc->Option ai}{h:bL}{K:af}(T:Top q loose wz mg mb h)(X:K.In h)(ok:a2s K ((recsOf q).map (·.name))=true):Tab0 K h:=fun x hx p e=>by
 have hm:=a1r hx e;have hn:((K.lookup p).isNone && ((recsOf q).map (·.name)).contains x)=true:=by
  unfold a2s at ok;rw [az] at ok;exact bP.mp ok.2 _ hm
 rw [az,sW] at hn;obtain⟨d,hd,rfl⟩:=aG.mp hn.2;obtain⟨f,oc,od,fd,sl,c,h1,h2,h3,h4⟩:=a3W e X T.g;obtain⟨a,o,zz,c',P',z1,z2,z3,z4,z5,z6⟩:=T.tab d hd;rw [h1] at z1;cases z1
 rw [X _ _ h2] at z2;cases z2
 have zY:Data.func fd=Data.func zz:=z3;cases zY
 rw [h3] at z4;cases z4
 obtain⟨ob,vs,file,tf,flags,tg,sv,text,tt,y1,y2,y3,y4,_⟩:=h4;obtain⟨⟨DG,Dx,w1,w2,w3,w4⟩,w5⟩:=id z6;rw [y1] at w1;cases w1
 rw [y3] at w3;cases w3
 rw [y4] at w4;cases w4
 exact⟨z6.isCodeTable,w5⟩
def M6(K:af)(H:Hp):Hp:=fun b=>match (D5 K).find? fun t=>t.2 == b with
 | some t=>some (.tbl #[.str (S8 t.1) 0])
 | none=>H b
theorem a9S{K:af}{s₁:ak}{vs:List ai} 
  (KX:K.In s₁.heap) (nr:s₁.heap.Ns aV mg) (hb:s₁.heap.Ns jB mb) (Cm:∀x:bc,x≠"__name__"->mb x=gz x) (xi:s₁.heap.NoLimit) (hg:s₁.gens=#[])
  (Ck:∃bm ob,mg "__builtins__"=some (.ref bm)/\bm≠jB/\s₁.heap.get? bm=some ob/\ob.cls=.type "module"/\ob.dict=some jB/\ob.data=.plain)
  (pH:Tab0 K s₁.heap) (nq:a2s K names=true)
  (ha:s₁.heap.get? a=some {cls:=.type "list",data:=.seq vs.toArray}) (hi:IntsAre vs ns) (hl:ns.length<=aS) (hr:Room k mE)
  (F:∀base:bL,K.In base->base.Ns aV mg->FnOk P w K mg base CX k fa fd [x] sp) (ko:∀(s:ak) (u:ai),mG s fd ⟨[u],[]⟩ [(x,u)])
  (nj:∀H:Hp,SqX K H a (ns.map V.int)->sp [.ref a] H (fun v _=>v=.bl true) fun _ _ _=>False)
  (xQ:∀H e s',CX [] H s₁ (fun _ _ _=>False) e s'->False) :
  ir (aU P w) mE (.call (.ref fa) ⟨[.ref a],[]⟩) (fun r s'=>r=.ok (.ret (.bool true))/\OldK s₁.heap s'.heap/\s'.os=s₁.os/\i_ s'.gens) s₁:=by
 have rv:=vals_ints hi;have wC:=hi.length;have Az:a0Q ((D5 K).map (·.2))=true:=by unfold a2s at nq;rw [az] at nq;exact nq.1
 have Ay:∀t∈D5 K,K.lookup t.2=none:=fun t ht=>by
  unfold a2s at nq;rw [az] at nq;have:=bP.mp nq.2 t ht;rw [az] at this;exact o_.mp this.1
 have core:∀H0:Hp,SqX K H0 a (ns.map V.int)->HOk P w H0 s₁.heap->(∀b u,H0 b=some u->b=a/\∃o xs,u=.frz o (.lst xs))->(H0 a≠none->K.lookup a=none)->
   ir (aU P w) mE (.call (.ref fa) ⟨[.ref a],[]⟩) (fun r s'=>r=.ok (.ret (.bool true))/\OldK s₁.heap s'.heap/\s'.os=s₁.os/\i_ s'.gens) s₁:=by
  intro H0 hS hok hA hK;have jN:∀b u,M6 K H0 b=some u->(∃x,(x,b)∈D5 K/\u=.tbl #[.str (S8 x) 0])∨((∀x,(x,b)∉D5 K)/\H0 b=some u):=fun b u e=>by
   unfold M6 at e
   split at e
   ·rename_i t ht
    cases e
    have h1:=fX ht;have h2:t.2=b:=fM.mp (Es (p:=fun t:bc × av=>t.2 == b) ht);refine .inl ⟨t.1,?_,rfl⟩;rw [<-h2];exact h1
   ·rename_i ht
    refine .inr ⟨fun x hx=>?_,e⟩;have:=gB.mp ht _ hx;simp at this
  have tabAt:∀x p,(x,p)∈D5 K->M6 K H0 p=some (.tbl #[.str (S8 x) 0]):=fun x p hm=>by
   cases e:M6 K H0 p with
   | none=>
    unfold M6 at e
    split at e
    ·cases e
    ·rename_i ht
     have:=gB.mp ht _ hm;simp at this
   | some u=>
    rcases jN p u e with⟨y,hy,rfl⟩|⟨hn,_⟩
    ·rw [a2t Az hm hy]
    ·exact absurd hm (hn x)
  have nA:∀x,(x,a)∉D5 K:=fun x hx=>by
   have:=(pH x (C4 hx).1 a (C4 hx).2).2;rw [ha] at this;cases this
  have zM:M6 K H0 a=H0 a:=by
   cases e:M6 K H0 a with
   | none=>
    unfold M6 at e
    split at e
    ·cases e
    ·exact e.symm
   | some u=>
    rcases jN a u e with⟨y,hy,_⟩|⟨_,h⟩
    ·exact absurd hy (nA y)
    ·exact h.symm
  have nM:SqX K (M6 K H0) a (ns.map V.int):=by
   rcases hS with (h|⟨o,h⟩)|h
   ·exact .inl (.inl (zM.trans h))
   ·exact .inl (.inr ⟨o,zM.trans h⟩)
   ·exact .inr h
  have oe:HOk P w (M6 K H0) s₁.heap:=fun b u e=>by
   rcases jN b u e with⟨x,hx,rfl⟩|⟨hn,h⟩
   ·obtain⟨h1,h2⟩:=C4 hx;exact⟨#[],(pH x h1 b h2).2,trivial,fun pos cv z=>by cases z⟩
   ·obtain⟨rfl,o,xs,rfl⟩:=hA b u h;obtain⟨h1,h2⟩:=hok _ _ h;obtain⟨z,bU,n,r,e'⟩:=h2;exact⟨h1,z,bU,n,r,e'⟩
  have lI:∀{b:av} {o:eD},s₁.heap.get? b=some o->M6 K H0 b=none->(a4z s₁.heap (M6 K H0)).get? b=some o:=fun e n=>b0W e n
  have yx:∀{b:av} {o:eD},s₁.heap.get? b=some o->(∀ps,o.data≠.fields ps)->(∀bU n,o.data≠.seq bU n)->M6 K H0 b=none:=fun {b o} e d1 d2=>by
   cases q:M6 K H0 b with
   | none=>rfl
   | some u=>
    rcases jN b u q with⟨x,hx,rfl⟩|⟨hn,h⟩
    ·have:=(pH x (C4 hx).1 b (C4 hx).2).2;rw [e] at this;cases this
     exact absurd rfl (d1 _)
    ·obtain⟨rfl,_⟩:=hA b u h;rw [ha] at e;cases e
     exact absurd rfl (d2 _ _)
  have vh:∀{b:av} {m:bc->Option ai},s₁.heap.Ns b m->(a4z s₁.heap (M6 K H0)).Ns b m:=fun {b m} ⟨o,es,ep,e,d,r⟩=>⟨o,es,ep,lI e (yx e (fun ps z=>by rw [d] at z;cases z) fun bU n z=>by rw [d] at z;cases z),d,r⟩
  have zp:K.In (a4z s₁.heap (M6 K H0)):=fun b o e=>lI (KX b o e) (by
   cases q:M6 K H0 b with
   | none=>rfl
   | some u=>
    rcases jN b u q with⟨x,hx,rfl⟩|⟨hn,h⟩
    ·rw [Ay _ hx] at e;cases e
    ·obtain⟨rfl,_⟩:=hA b u h;rw [hK (by rw [h];simp)] at e;cases e)
  have hM:Mod K mg (a4z s₁.heap (M6 K H0)):=⟨zp,vh nr,⟨mb,vh hb,Cm⟩,let⟨mc,h1,h2⟩:=xi;⟨mc,vh h1,h2⟩,
   let⟨bm,ob,b1,b2,b3,b4,b5,b6⟩:=Ck;⟨bm,ob,b1,b2,lI b3 (yx b3 (fun ps z=>by rw [b6] at z;cases z) fun bU n z=>by rw [b6] at z;cases z),b4,b5,b6⟩⟩
  have e0:Env0 P w K mg (a4z s₁.heap (M6 K H0)) mE [] s₁ (M6 K H0):=⟨rfl,hM,fun b o e=>b3F e,Nat.le_of_eq (a9v _ _),trivial,fun b hb=>absurd (show b∈([]:List av) from hb) (by simp),oe,.of_eq hg,
   fun x hx p e=>⟨_,0,tabAt x p (a1r hx e),rfl⟩⟩
  refine eH ((F _ zp (vh nr)).run mE [] s₁ (M6 K H0) ⟨[.ref a],[]⟩ [.ref a] [.ref a] _ _ hr e0 (ko s₁ (.ref a)) (.cons rfl .nil) (nj _ nM)) fun r s' h=>?_
  cases r with
  | error e=>exact (xQ _ e s' h).elim
  | ok fl=>
   cases fl with
   | next=>exact bS h
   | brk=>exact bS h
   | cont=>exact bS h
   | ret u=>
    obtain⟨v,H',os,bare,un,nk,r',q⟩:=h;have q':v=.bl true:=q;subst q';obtain rfl:u=iM true:=r';refine⟨rfl,⟨fun b o e=>?_,fun b o e=>un.there b o e (by simp)⟩,os,bare⟩;cases q:M6 K H0 b with
    | none=>exact .inl (un.keep b o e q (by intro z;exact absurd (show b∈([]:List av) from z) (by simp)) (by simp))
    | some u=>
     rcases jN b u q with⟨x,hx,rfl⟩|⟨hn,h⟩
     ·obtain⟨t1,t2⟩:=pH x (C4 hx).1 b (C4 hx).2;rw [e] at t2;cases t2
      obtain⟨more,e2⟩:=un.tbls b _ q;obtain⟨ps,e3,_⟩:=(show a3F H' s'.heap b _ from nk b _ e2);exact .inr (.inl ⟨t1,rfl,#[],ps,rfl,by simpa using e3⟩)
     ·obtain⟨rfl,ob,xs,rfl⟩:=hA b u h;have z2:=un.frzs b ob _ q;obtain⟨e1,_⟩:=oe b _ q;obtain⟨e2,_⟩:=nk b _ z2;rw [e] at e1;cases e1;exact .inl e2
 cases hk:K.lookup a with
 | some o=>
  have e:=KX a o hk;rw [ha] at e;cases e
  refine core (fun _=>none) (.inr ⟨vs,_,hk,by rw [wC];exact hl,rv⟩) (fun b u z=>by have z':(none:Option HO)=some u:=z;cases z') (fun b u z=>by have z':(none:Option HO)=some u:=z;cases z') fun z=>absurd rfl z
 | none=>
  refine core (fun b=>if b=a then some (.frz {cls:=.type "list",data:=.seq vs.toArray} (.lst (ns.map V.int))) else none) (.inl (.inr ⟨{cls:=.type "list",data:=.seq vs.toArray},aE rfl⟩)) (fun b u z=>?_) (fun b u z=>?_) fun _=>hk
  ·by_cases hb:b=a
   ·have z':=(aE hb).symm.trans z;cases z'
    subst hb;exact⟨ha,by rw [ar];exact hl,vs,_,rv,ha⟩
   ·have z':=(aO hb).symm.trans z;cases z'
  ·by_cases hb:b=a
   ·have z':=(aE hb).symm.trans z;cases z'
    exact⟨hb,_,_,rfl⟩
   ·have z':=(aO hb).symm.trans z;cases z'
theorem b1E{l:Ek}{XP:(bc->Option ai)->bL->Prop}{YP:bE->bL->Prop}{d:DefRec}{K:Params->af}{CX:bE->CXT}{sp:bE->Sp} 
  (hn:l.most=some n) (Bw:n<=aS) (uB:d.params.defaults=[]) (hr:Room k mE)
  (hY:∀(w:bE) (h:bL),YP w h->(K w.params).In h) (hT:∀w:bE,a2s (K w.params) ((recsOf q).map (·.name))=true)
  (F:∀(w:bE) (mg:bc->Option ai) (fa:av) (h:bL),(K w.params).In h->h.Ns aV mg->mg d.name=some (.ref fa)->
   ∃fd:cV,(∀(s:ak) (u:ai),mG s fd ⟨[u],[]⟩ [(x,u)])/\
    ∀base:bL,(K w.params).In base->base.Ns aV mg->FnOk l.prog w (K w.params) mg base (CX w) k fa fd [x] (sp w))
  (nj:∀(w:bE) (H:Hp) (a:av) (ns:List Int),ns.length<=n->SqX (K w.params) H a (ns.map V.int)->sp w [.ref a] H (fun v _=>v=.bl true) fun _ _ _=>False)
  (xQ:∀(w:bE) (H:Hp) (s:ak) (e:ai) (s':ak),CX w [] H s (fun _ _ _=>False) e s'->False) :
  PySem.W.WalkO q loose XP YP l.row.toRowW d [] (fun f vs=>yd f vs):=by
 refine Att.attach_call hn uB fun w s₀ s₁ mg mb fa o pm cd doc a vs ns G Y ho hd gJ uh rE hints hlen hg=>?_
 have KX:=hY w _ Y;obtain⟨fd,hb,hF⟩:=F w mg fa _ KX G.T.g uh;exact a9S KX G.T.g G.T.b G.T.builtins G.T.nolimit hg G.T.bmain (b4n G.T KX (hT w)) (hT w) rE hints (cI hlen Bw) hr hF hb (fun H hS=>nj w H a ns hlen hS) fun H e s'=>xQ w H s₁ e s'
theorem a9T{l:Ek}{XP:(bc->Option ai)->bL->Prop}{YP:bE->bL->Prop}{d:DefRec}{K:Params->af}{m:List a_->Option a_}(hn:l.most=some 63)(uB:d.params.defaults=[])(hr:Room k mE)
  (hY:∀(w:bE) (h:bL),YP w h->(K w.params).In h) (hT:∀w:bE,a2s (K w.params) ((recsOf q).map (·.name))=true)
  (F:∀(w:bE) (mg:bc->Option ai) (fa:av) (h:bL),(K w.params).In h->h.Ns aV mg->mg d.name=some (.ref fa)->
   ∃fd:cV,(∀(s:ak) (u:ai),mG s fd ⟨[u],[]⟩ [(x,u)])/\
    ∀base:bL,(K w.params).In base->base.Ns aV mg->FnOk l.prog w (K w.params) mg base CX0 k fa fd [x] (spD (K w.params) 1 m .i))
  (hm:∀ns:List Int,ns.length<=63->m [.list (ns.map .int)]=some (.bool true)) :
  PySem.W.WalkO q loose XP YP l.row.toRowW d [] (fun f vs=>yd f vs):=
 b1E (n:=63) (k:=k) (x:=x) (CX:=fun _=>CX0) (sp:=fun w=>spD (K w.params) 1 m .i) hn (by decide) uB hr hY hT F
  (fun w H a ns hl hS=>⟨_,_,rfl,denAll_cons (den_list hS (DenAll.ints ns)) denAll_nil,hm ns hl,fun v H' fp _ o _ _=>(a1n o).2.2.bool_inv⟩) fun _ _ _ _ _ z=>z
end VS
namespace VS
open PySem PySem.Spec L2
theorem y8:∀(Z ds:List D),b8 Z=some ds->ds.length=0:=fun _ _ h=>by cases h;rfl
theorem j5(hr:∀(Z ds:List D),r Z=some ds->ds.length=n):∀(Z ds:List D),a5 f r Z=some ds->ds.length=n + 1:=fun _ _ h=>a9M hr h
theorem a5E:∀(Z ds:List D),iI fi Z=some ds->∀d∈ds,mI d:=fun Z ds h d hd=>by
 have:=a3V rfl Z ds h d hd [d] rfl;show imm d=true;simpa only [e6,gq] using this
theorem a4P:∀(Z ds:List D),iR fa Z=some ds->∀d∈ds,mI d:=fun Z ds h d hd=>by
 have:=a8D rfl Z ds h d hd [d] rfl;show imm d=true;simpa only [e6,gq] using this
theorem a9U(h:bL)(hb:dF < h.objs.size):ObjOk P w H (h.push {cls:=.type "dict",data:=.dict #[]}) h.objs.size (f8 h.objs.size []):=
 ⟨⟨eB.mpr (eE (bj hb)),dq _,br,_,#[],0,aR _ rfl,⟨rfl,rfl,rfl⟩,rfl,.nil,fun _=>rfl⟩,⟨_,aR _ rfl⟩,fun x1 x2 ⟨a1,a2,a3,o',mY,nQ,b1,b2⟩ hk=>⟨a1,a2,a3,o',mY,nQ,hk _ b1,b2⟩⟩
end VS
namespace VS
open PySem L2
section
variable {a b c:EvE}{Z Z':List D}{d x y:D}
def l1(g:D->Option D):Option D->Option D
 | some x=>g x
 | none=>none
def l2(g:D->D->Option D):Option D->Option D->Option D
 | some x,some y=>g x y
 | _,_=>none
def lc(m:List D->Option D):Option (List D)->Option D
 | some xs=>m xs
 | none=>none
def b5D:Option D->Option (List D)->Option (List D)
 | some x,some xs=>some (x :: xs)
 | _,_=>none
def lB:Option D->Option Bool
 | some d=>asB d
 | none=>none
def lT:Option D->Option Bool
 | some d=>tr d
 | none=>none
def b9o:Option Bool->Option Bool
 | some b=>some !b
 | none=>none
def b6R:Option Bool->EvT->List D->Option Bool
 | some true,b,Z=>b Z
 | some false,_,_=>some false
 | none,_,_=>none
def orT:Option Bool->EvT->List D->Option Bool
 | some true,_,_=>some true
 | some false,b,Z=>b Z
 | none,_,_=>none
def b6S:Option D->EvE->List D->Option D
 | some (.bool true),b,Z=>b Z
 | some (.bool false),_,_=>some (.bool false)
 | _,_,_=>none
def orE:Option D->EvE->List D->Option D
 | some (.bool true),_,_=>some (.bool true)
 | some (.bool false),b,Z=>b Z
 | _,_,_=>none
def b9p:Option D->Option D
 | some (.bool b)=>some (.bool !b)
 | _=>none
def b6T:Option Bool->EvE->EvE->List D->Option D
 | some true,a,_,Z=>a Z
 | some false,_,b,Z=>b Z
 | none,_,_,_=>none
def b6U:Option Bool->EvS->EvS->List D->Option Out
 | some true,a,_,Z=>a Z
 | some false,_,b,Z=>b Z
 | none,_,_,_=>none
def thn:Option Out->EvS->Option Out
 | some (.nx Z),b=>b Z
 | some (.rt d),_=>some (.rt d)
 | some (.bk Z),_=>some (.bk Z)
 | some (.ct Z),_=>some (.ct Z)
 | none,_=>none
def b9q(i:Nat):Option D->List D->Option Out
 | some d,Z=>some (.nx (Z.set i d))
 | none,_=>none
def retS:Option D->Option Out
 | some d=>some (.rt d)
 | none=>none
def exS:Option D->List D->Option Out
 | some _,Z=>some (.nx Z)
 | none,_=>none
def b1F(i j:Nat):Option D->List D->Option Out
 | some (.tuple [x,y]),Z=>some (.nx ((Z.set i x).set j y))
 | _,_=>none
def b9r(set:List D->D->Option (List D))(g:EvS):Option (List D)->List D->Option Out
 | some ds,Z=>Q2 set g ds Z
 | none,_=>none
def a4Q:Option Out->Option D
 | some (.rt d)=>some d
 | _=>none
def listE:Option (List D)->Option D
 | some ds=>some (.list ds)
 | none=>none
def b9s:Option (List D)->Option D
 | some ds=>some (.tuple ds)
 | none=>none
theorem c1d:l1 g (some x)=g x:=rfl
theorem c1e:l2 g (some x) (some y)=g x y:=rfl
theorem c1f:lc m (some xs)=m xs:=rfl
theorem b4o:b5D (some x) (some xs)=some (x :: xs):=rfl
theorem c1g:lB (some (.bool k))=some k:=rfl
theorem c1h:lT (some d)=tr d:=rfl
theorem b6V:b9o (some k)=some !k:=rfl
theorem b6W:b6R (some true) t Z=t Z:=rfl
theorem b6X:b6R (some false) t Z=some false:=rfl
theorem b9t:orT (some true) t Z=some true:=rfl
theorem b9u:orT (some false) t Z=t Z:=rfl
theorem b6Y:b6S (some (.bool true)) b Z=b Z:=rfl
theorem b6Z:b6S (some (.bool false)) b Z=some (.bool false):=rfl
theorem b9v:orE (some (.bool true)) b Z=some (.bool true):=rfl
theorem b9w:orE (some (.bool false)) b Z=b Z:=rfl
theorem b7a:b9p (some (.bool k))=some (.bool !k):=rfl
theorem b7b:b6T (some true) a b Z=a Z:=rfl
theorem b7c:b6T (some false) a b Z=b Z:=rfl
theorem b7d:b6U (some true) s t Z=s Z:=rfl
theorem b7e:b6U (some false) s t Z=t Z:=rfl
theorem a7r:thn (some (.nx Z)) s=s Z:=rfl
theorem b7f:thn (some (.rt d)) s=some (.rt d):=rfl
theorem b7g:thn (some (.bk Z)) s=some (.bk Z):=rfl
theorem b7h:thn (some (.ct Z)) s=some (.ct Z):=rfl
theorem b1G:b9q i (some d) Z=some (.nx (Z.set i d)):=rfl
theorem b7i:retS (some d)=some (.rt d):=rfl
theorem b9x:exS (some d) Z=some (.nx Z):=rfl
theorem b4p:b1F i j (some (.tuple [x,y])) Z=some (.nx ((Z.set i x).set j y)):=rfl
theorem b7j{set:List D->D->Option (List D)}:b9r set g (some ds) Z=Q2 set g ds Z:=rfl
theorem b7k:a4Q (some (.rt d))=some d:=rfl
theorem a8F:listE (some ds)=some (.list ds):=rfl
theorem b7l:b9s (some ds)=some (.tuple ds):=rfl
theorem v_var:a4 i Z=some (Z.getD i .none):=rfl
theorem v_c:eC d Z=some d:=rfl
theorem v_1:e1 g a Z=l1 g (a Z):=by unfold e1;cases a Z <;> rfl
theorem v_2:e2 g a b Z=l2 g (a Z) (b Z):=by unfold e2;cases a Z <;> cases b Z <;> rfl
theorem c1i:eCl m f Z=lc m (f Z):=by unfold eCl;cases f Z <;> rfl
theorem b7m:a5 a r Z=b5D (a Z) (r Z):=by unfold a5;cases a Z <;> cases r Z <;> rfl
theorem b5E:b8 Z=some []:=rfl
theorem b9y:tB a Z=lB (a Z):=by unfold tB;cases a Z <;> rfl
theorem b7n:tV a Z=lT (a Z):=by unfold tV;cases a Z <;> rfl
theorem b9z:tNo t Z=b9o (t Z):=by unfold tNo;cases t Z <;> rfl
theorem b9A:tAn s t Z=b6R (s Z) t Z:=by
 unfold tAn;cases s Z with
 | none=>rfl
 | some k=>cases k <;> rfl
theorem b9B:O1 s t Z=orT (s Z) t Z:=by
 unfold O1;cases s Z with
 | none=>rfl
 | some k=>cases k <;> rfl
theorem v_and:a3z a b Z=b6S (a Z) b Z:=by
 unfold a3z;cases h:a Z with
 | none=>rfl
 | some d=>cases d with
  | bool k=>cases k <;> rfl
  | _=>rfl
theorem v_or:eOr a b Z=orE (a Z) b Z:=by
 unfold eOr;cases h:a Z with
 | none=>rfl
 | some d=>cases d with
  | bool k=>cases k <;> rfl
  | _=>rfl
theorem v_not:a9K a Z=b9p (a Z):=by
 unfold a9K;cases h:a Z with
 | none=>rfl
 | some d=>cases d <;> rfl
theorem c1j:eIf t a b Z=b6T (t Z) a b Z:=by
 unfold eIf;cases t Z with
 | none=>rfl
 | some k=>cases k <;> rfl
theorem b5F:t8 f Z=listE (f Z):=by unfold t8;cases f Z <;> rfl
theorem b9C:C7 f Z=b9s (f Z):=by unfold C7;cases f Z <;> rfl
theorem X6:c7 s t Z=thn (s Z) t:=by
 unfold c7;cases s Z with
 | none=>rfl
 | some o=>cases o <;> rfl
theorem b5G:i6 i a Z=b9q i (a Z) Z:=by unfold i6;cases a Z <;> rfl
theorem b9D:i9 a Z=retS (a Z):=by unfold i9;cases a Z <;> rfl
theorem c1k:sEx a Z=exS (a Z) Z:=by unfold sEx;cases a Z <;> rfl
theorem b7o:k6 Z=some (.nx Z):=rfl
theorem b9E:sIf t s s' Z=b6U (t Z) s s' Z:=by
 unfold sIf;cases t Z with
 | none=>rfl
 | some k=>cases k <;> rfl
theorem b9F{set:List D->D->Option (List D)}:B4 fi set g Z=b9r set g (fi Z) Z:=by unfold B4;cases fi Z <;> rfl
theorem b7p:b5B i j a Z=b1F i j (a Z) Z:=by
 unfold b5B;cases h:a Z with
 | none=>rfl
 | some d=>
  match d with
  | .tuple [x,y]=>rfl
  | .tuple []=>rfl
  | .tuple [_]=>rfl
  | .tuple (_ :: _ :: _ :: _)=>rfl
  | .none=>rfl
  | .bool _=>rfl
  | .int _=>rfl
  | .str _=>rfl
  | .list _=>rfl
  | .dict _=>rfl
theorem B5(h:argsOk us ds=true):fnD us n g ds=a4Q (g (ds ++ aC n .none)):=by
 unfold fnD;rw [aE h];cases g (ds ++ aC n .none) with
 | none=>rfl
 | some o=>cases o <;> rfl
theorem v_add:n5 (.int i) (.int j)=some (.int (i + j)):=rfl
theorem v_sub:x9 (.int i) (.int j)=some (.int (i - j)):=rfl
theorem v_lt:dLt (.int i) (.int j)=some (.bool (decide (i < j))):=rfl
theorem b9G:dLe (.int i) (.int j)=some (.bool (decide (i<=j))):=rfl
theorem c1l:dGt (.int i) (.int j)=some (.bool (decide (j < i))):=rfl
theorem c1m:dGe (.int i) (.int j)=some (.bool (decide (j<=i))):=rfl
theorem v_mod(h:0 < j):n4 (.int i) (.int j)=some (.int (i % j)):=by
 show (if b6F i j=true then _ else _)=_;rw [aE (show b6F i j=true from aL h)]
theorem v_div(h:0 < j)(h':j < 1073741824):C2 (.int i) (.int j)=some (.int (i / j)):=by
 show (if b4a i j=true then _ else _)=_;rw [aE (by unfold b4a;rw [aL h,aL h'];rfl)]
theorem Q4{i j:Int}(h:i.natAbs < 2 ^ 64):A3 (.int i) (.int j)=some (.int (i * j)):=by
 show (if a9I i j=true then _ else _)=_;rw [aE (by unfold a9I;rw [aL h];rfl)]
theorem Q5{i j:Int}(h:j.natAbs < 2 ^ 64):A3 (.int i) (.int j)=some (.int (i * j)):=by
 show (if a9I i j=true then _ else _)=_;rw [aE (by unfold a9I;rw [aL h,Bool.or_true])]
theorem v_pow(h:b4b i j=true):X2 (.int i) (.int j)=some (.int (i ^ j.toNat)):=by
 show (if b4b i j=true then _ else _)=_;rw [aE h]
theorem b9H:dEq (.int i) (.int j)=some (.bool (decide (i=j))):=by
 show some (cm (false != aI (.int i) (.int j)))=_;have:aI (.int i) (.int j)=decide (i=j):=by
  show (i == j)=decide (i=j);exact hU i j
 rw [this];simp
theorem b9I:dNe (.int i) (.int j)=some (.bool (!decide (i=j))):=by
 show some (cm (true != aI (.int i) (.int j)))=_;have:aI (.int i) (.int j)=decide (i=j):=by
  show (i == j)=decide (i=j);exact hU i j
 rw [this];simp
theorem b7q:o3 [.list ds]=some (.int ds.length):=rfl
theorem b1H:o3 [.tuple ds]=some (.int ds.length):=rfl
theorem b9J:dIx (.list ds) (.int k)=atI ds k:=rfl
theorem b9K:dIx (.tuple ds) (.int k)=atI ds k:=rfl
theorem b9L:A5 (.list ds) (.int k)=atI ds k:=rfl
theorem b9M:j7 x y=l1 a4L (dIx x y):=by unfold j7;cases dIx x y <;> rfl
theorem b1I(h:imm d=true):a4L d=some d:=by unfold a4L;rw [aE h]
theorem b9N:c1c k (.bool i) (.bool j)=some (.bool (k != (i == j))):=rfl
theorem N2:imm (.int i)=true:=by simp only [imm]
theorem N3(ns:List Int):e6 (ns.map .int)=true:=by
 induction ns with
 | nil=>simp only [cA,e6]
 | cons n ns ih=>simp only [aA,e6,imm,ih,eA]
theorem a4R{α:Type}{xs:List α}(h0:0<=k)(h:k < (xs.length:Int)):atI xs k=some (xs[k.toNat]'(by lia)):=by
 unfold L2.atI ixN;rw [aE h0,aE h];exact aB (by lia)
def b1J(i:Nat):D->Option D->List D->Option Out
 | .list ds,some d,Z=>if ds.length < 1000000 then some (.nx (Z.set i (.list (ds ++ [d])))) else none
 | _,_,_=>none
theorem b9O:J8 i (.l t) u8 a Z=b1J i (Z.getD i .none) (a Z) Z:=by
 unfold J8 u8
 dsimp only [ib]
 cases h:Z.getD i .none with
 | list ds=>
  cases a Z with
  | none=>rfl
  | some d=>rfl
 | _=>cases a Z <;> rfl
theorem b1K{ds:List D}(h:ds.length < 1000000):b1J i (.list ds) (some d) Z=some (.nx (Z.set i (.list (ds ++ [d])))):=by
 show (if ds.length < 1000000 then some (Out.nx (Z.set i (.list (ds ++ [d])))) else none)=_;rw [aE h]
theorem a2u(h:a Z=some (.int n))(h0:0<=n)(h1:n < 2 ^ 62):iR a Z=some (v6 0 n.toNat):=by
 unfold iR;rw [h];show (if -(2 ^ 62)<=n/\n < 2 ^ 62 then some (v6 0 n.toNat) else none)=_;rw [aE ⟨by lia,h1⟩]
theorem a2v:(v6 lo n).length=n:=by unfold v6;simp
end
end VS
namespace VS
open PySem PySem.Spec L2
mutual
def L3(f:Int->Int->Bool):D->D->Option Bool
 | .int a,d=>match d with
  | .int b=>some (f a b)
  | _=>none
 | .list xs,d=>match d with
  | .list ys=>q8 f xs ys
  | _=>none
 | .tuple xs,d=>match d with
  | .tuple ys=>q8 f xs ys
  | _=>none
 | .none,_|.bool _,_|.str _,_|.dict _,_=>none
def q8(f:Int->Int->Bool):List D->List D->Option Bool
 | [],ys=>match ys with
  | []=>some (f 0 0)
  | _ :: _=>some (f 0 1)
 | x :: xs,ys=>match ys with
  | []=>some (f 1 0)
  | y :: ys=>if aI x y then q8 f xs ys else L3 f x y
end
def a1s(f:Int->Int->Bool)(a b:D):Option D:=if a.canLay0 && b.canLay0 && decide (a.depth<=60) then (L3 f a b).map .bool else none
def fLt(a b:Int):Bool:=decide (a < b)
def fGt(a b:Int):Bool:=decide (b < a)
abbrev b4q:D->D->Option D:=a1s fLt
abbrev b1L:D->D->Option D:=a1s fGt
def fnN(us:List Ty)(n:Nat)(g:EvS):List D->Option D:=fun ds=>if argsOk us ds then (g (ds ++ aC n .none)).bind fun o=>match o with
 | .rt d=>some d
 | .nx _=>some .none
 | _=>none
 else none
--- yg
def b7r(op:va)(A:bx)(s:ak)(a b:ai)(k:Bool):Prop:=
 ∀(prog:bh) (w:bE) (E:ai->ak->Prop) (Q:ai->ak->Prop),Q (.bool k) s->aM (aU prog w) A (richCompare op a b) Q E s
theorem V8{xs:List D}(h:i < xs.length):xs.drop i=xs.getD i .none :: xs.drop (i + 1):=by
 rw [cU h,aX,aB h];rfl
section
open PySem.SeqAt
open PySem.AutoSeq1 (wpAny_loadPart')
open PySem.MeetsSeq PySem.MeetsSeq2 PySem.MeetsSeq3
inductive OpIs:Int->va->(Int->Int->Bool)->(Nat->Nat->Bool)->Builtin->Builtin->Prop
 | lt:OpIs 0 .Lt fLt (fun a b=>decide (a < b)) Builtin.«list.__lt__» Builtin.«tuple.__lt__»
 | gt:OpIs 4 .Gt fGt (fun a b=>decide (a > b)) Builtin.«list.__gt__» Builtin.«tuple.__gt__»
structure OpF (op:va) (T:String) (B:Builtin):Prop where
 ex:∃id,Slot T (cmpInfo op).2.1 id/\entryFor table id=some B/\∀a b:ai,PySem.argsOk id ⟨[a,b],[]⟩
section
variable {c0:Int}{op:va}{f:Int->Int->Bool}{sz:Nat->Nat->Bool}{BL BT:Builtin}(O:OpIs c0 op f sz BL BT)
theorem OpIs.fl(O:OpIs c0 op f sz BL BT):OpF op "list" BL:=by
 cases O
 ·exact⟨_,F.slot_list_lt,F.entry_list_lt,F.args_list_lt_2⟩
 ·exact⟨_,F.slot_list_gt,F.entry_list_gt,F.args_list_gt_2⟩
theorem OpIs.ft(O:OpIs c0 op f sz BL BT):OpF op "tuple" BT:=by
 cases O
 ·exact⟨_,F.slot_tuple_lt,F.entry_tuple_lt,F.args_tuple_lt_2⟩
 ·exact⟨_,F.slot_tuple_gt,F.entry_tuple_gt,F.args_tuple_gt_2⟩
theorem OpIs.int(O:OpIs c0 op f sz BL BT)(h:Q (.bool (f i j)) s):aM (aU prog w) A (richCompare op (.int i t) (.int j u)) Q E s:=by
 cases O
 ·exact (PyProof.Rows.lt_int h:aM (aU prog w) A (bp .Lt (.int i t) (.int j u)) Q E s)
 ·exact (PyProof.Rows.gt_int h:aM (aU prog w) A (bp .Gt (.int i t) (.int j u)) Q E s)
theorem OpIs.o1(O:OpIs c0 op f sz BL BT):bp op=richCompare op:=by
 cases O
 ·rfl
 ·rfl
theorem OpIs.o2(O:OpIs c0 op f sz BL BT)(h1:a < b↔n < m)(h2:b < a↔m < n):f a b=sz n m:=by
 cases O
 ·exact mM.mpr h1
 ·exact mM.mpr h2
theorem a5F{xs ys:List D}(h1:i < xs.length)(h2:i < ys.length)(hc:q8 f (xs.drop i) (ys.drop i)=some v):pairEq xs ys i=true/\q8 f (xs.drop (i + 1)) (ys.drop (i + 1))=some v∨pairEq xs ys i=false/\L3 f (xs.getD i .none) (ys.getD i .none)=some v:=by
 rw [V8 h1,V8 h2] at hc;simp only [q8] at hc;cases hy:pairEq xs ys i with
 | true=>
  rw [aE hy] at hc;exact .inl ⟨rfl,hc⟩
 | false=>
  rw [aO (fun z=>by rw [show aI (xs.getD i .none) (ys.getD i .none)=false from hy] at z;cases z)] at hc;exact .inr ⟨rfl,hc⟩
theorem a8G(O:OpIs c0 op f sz BL BT){xs ys:List D}(z1:n=xs.length)(z2:m=ys.length)(h1:i<=n)(h2:i<=m)(hn:¬ (i < n/\i < m))(hc:q8 f (xs.drop i) (ys.drop i)=some v):v=sz n m:=by
 by_cases a1:i < n
 ·rw [V8 (by lia),eX (show ys.length<=i by lia)] at hc;simp only [q8,er] at hc;rw [<-hc];exact O.o2 (by lia) (by lia)
 ·rw [eX (show xs.length<=i by lia)] at hc;by_cases a2:i < m
  ·rw [V8 (by lia)] at hc;simp only [q8,er] at hc;rw [<-hc];exact O.o2 (by lia) (by lia)
  ·rw [eX (by lia)] at hc;simp only [q8,er] at hc;rw [<-hc];exact O.o2 (by lia) (by lia)
def CP(T:String)(op:va)(f:Int->Int->Bool)(l b:av)(items cu:Array ai)(n n2:Nat)(dd ny:Option av)(sl mQ:Array (Option ai))(xs ys:List D)(v:Bool)(A:bx)(R:Di->ak->Prop)(s:ak):Prop:=
 s.heap.get? l=some {cls:=.type T,dict:=dd,data:=.seq items n,slots:=sl}/\s.heap.get? b=some {cls:=.type T,dict:=ny,data:=.seq cu n2,slots:=mQ}/\
 (∀j (h1:j < items.size) (h2:j < cu.size),EqAt A.in1 s items[j] cu[j] (pairEq xs ys j))/\
 (∀j (h1:j < items.size) (h2:j < cu.size) c,L3 f (xs.getD j .none) (ys.getD j .none)=some c->b7r op A.in1 s items[j] cu[j] c)/\R (.ok (.ret (.bool v))) s
theorem b4r(O:OpIs c0 op f sz BL BT)(l b:av)(items cu:Array ai)(n n2:Nat)(dd ny:Option av)(sl mQ:Array (Option ai))(xs ys:List D)(z1:items.size=xs.length)(z2:cu.size=ys.length)(v:Bool)(k:Nat) :
  ∀i:Nat,items.size - i=k->i<=items.size->i<=cu.size->q8 f (xs.drop i) (ys.drop i)=some v->Meets (Builtin.«list.__eq__.loop» ⟨[.ref l,.ref b,cR i,cR c0],[]⟩) (CP "list" op f l b items cu n n2 dd ny sl mQ xs ys v):=by
 have done:∀i:Nat,i<=items.size->i<=cu.size->¬ (i < items.size/\i < cu.size)->q8 f (xs.drop i) (ys.drop i)=some v->Meets (Builtin.«list.__eq__.loop» ⟨[.ref l,.ref b,cR i,cR c0],[]⟩) (CP "list" op f l b items cu n n2 dd ny sl mQ xs ys v):=by
  intro i h1 h2 hn hc prog w A R s h;obtain⟨hp,g,d,tk,os⟩:=s;obtain⟨hl,hb,he,ho,h⟩:=h;rw [a8G O z1 z2 h1 h2 hn hc] at h;cases O
  all_goals
   wp_walk using wpAny_loadPart' hl,wpAny_loadPart' hb
   by_cases a1:i < items.size
   ·have sI:items[((i:Nat):Int).toNat]?=some items[i]:=by simp [a1]
    have vF:cu[((i:Nat):Int).toNat]?=none:=by simp;lia
    rw [sI,vF]
    wp_walk using wpAny_loadPart' hl,wpAny_loadPart' hb
    exact h
   ·have sI:items[((i:Nat):Int).toNat]?=none:=by simp;lia
    rw [sI]
    wp_walk using wpAny_loadPart' hl,wpAny_loadPart' hb
    exact h
 induction k with
 | zero=>
  intro i hk h1 h2 hc;exact done i h1 h2 (by lia) hc
 | succ k ih=>
  intro i hk h1 h2 hc;by_cases rF:i < cu.size
  ·have fL:i < items.size:=by lia
   have hs:=a5F (by lia) (by lia) hc;intro prog w A R s h;obtain⟨hp,g,d,tk,os⟩:=s;obtain⟨hl,hb,he,ho,h⟩:=h;have sI:items[((i:Nat):Int).toNat]?=some items[i]:=by simp [fL]
   have vF:cu[((i:Nat):Int).toNat]?=some cu[i]:=by simp [rF]
   have sN:((i:Int) + 1)=((i + 1:Nat):Int):=by push_cast;rfl
   cases O
   all_goals
    wp_walk using wpAny_loadPart' hl,wpAny_loadPart' hb
    rw [sI,vF];refine ae (he i fL rF prog w _ _ ?_);rcases hs with⟨e,hc⟩|⟨e,hc⟩
    ·rw [e]
     wp_walk
     rw [sN];exact⟨gL vg _,dw entry_eq_loop (by
      rw [dm vg _];exact ih (i + 1) (by lia) (by lia) (by lia) hc prog w A R _ ⟨hl,hb,he,ho,h⟩)⟩
    ·rw [e];have rl:=ho i fL rF v hc prog w
     wp_walk using wpAny_loadPart' hl,wpAny_loadPart' hb
     rw [sI,vF]
     wp_walk using rl
     exact h
  ·exact done i h1 h2 (by lia) hc
theorem b4s(O:OpIs c0 op f sz BL BT)(l b:av)(items cu:Array ai)(n n2:Nat)(dd ny:Option av)(sl mQ:Array (Option ai))(xs ys:List D)(z1:items.size=xs.length)(z2:cu.size=ys.length)(v:Bool)(hc:q8 f xs ys=some v):Meets (BL ⟨[.ref l,.ref b],[]⟩) (CP "list" op f l b items cu n n2 dd ny sl mQ xs ys v):=by
 have go:=b4r O l b items cu n n2 dd ny sl mQ xs ys z1 z2 v _ 0 rfl (by lia) (by lia) (by simpa using hc);intro prog w A R s h;have g2:=go prog w A R s h;obtain⟨hp,g,d,tk,os⟩:=s;obtain⟨hl,hb,he,ho,h⟩:=h;have f3:=AutoSeq1.sub_list_list;cases O
 all_goals
  wp_walk using wpAny_loadPart' hl,wpAny_loadPart' hb
  exact⟨gL vg _,dw entry_eq_loop (by
   rw [dm vg _];exact g2)⟩
theorem b1M(O:OpIs c0 op f sz BL BT)(l b:av)(items cu:Array ai)(n n2:Nat)(dd ny:Option av)(sl mQ:Array (Option ai))(xs ys:List D)(z1:items.size=xs.length)(z2:cu.size=ys.length)(v:Bool)(hc:q8 f xs ys=some v):Meets (BT ⟨[.ref l,.ref b],[]⟩) (CP "tuple" op f l b items cu n n2 dd ny sl mQ xs ys v):=
 .of_wp fun prog w A R s h=>by
  obtain⟨hp,g,d,tk,os⟩:=s;obtain⟨hl,hb,he,ho,h⟩:=h;have f2:=AutoSeq1.sub_tuple_tuple;have hZ:(items.toList.zip cu.toList).length=min items.size cu.size:=by simp
  obtain⟨C,c1,c2,c3⟩:∃C:Nat->Prop,C 0/\(∀i,i < items.size->i < cu.size->C i->pairEq xs ys i=true/\C (i + 1)∨pairEq xs ys i=false/\L3 f (xs.getD i .none) (ys.getD i .none)=some v)/\∀i,i<=items.size->i<=cu.size->¬ (i < items.size/\i < cu.size)->C i->v=sz items.size cu.size:=⟨fun i=>q8 f (xs.drop i) (ys.drop i)=some v,by simpa using hc,fun i h1 h2=>a5F (z1 ▸ h1) (z2 ▸ h2),fun i=>a8G O z1 z2⟩;clear hc;cases O
  all_goals
   wp_walk using wpAny_loadPart' hl,wpAny_loadPart' hb,pq _ (fun rest b s'=>b.1=none/\s'=⟨hp,g,d,tk,os⟩/\∃i,i<=items.size/\i<=cu.size/\rest=(items.toList.zip cu.toList).drop i/\C i) _
   case turn=>
    rintro⟨y,x⟩ rest b s' ⟨kq,rfl,i,i1,i2,hz,hc⟩;have fL:i < (items.toList.zip cu.toList).length:=by
     rcases et i (items.toList.zip cu.toList).length with h'|h'
     ·exact h'
     ·rw [eX h'] at hz;cases hz
    have hm:i < min items.size cu.size:=hZ ▸ fL;have h1:i < items.size:=aW hm (iB _ _);have h2:i < cu.size:=aW hm (Nat.min_le_right _ _);rw [cU fL] at hz
    injection hz with sx iP
    have hy:y=items[i]:=by have:=dC Prod.fst sx;simpa using this
    have hx:x=cu[i]:=by have:=dC Prod.snd sx;simpa using this
    subst hy hx;refine ae (he i h1 h2 prog w _ _ ?_);rcases c2 i h1 h2 hc with⟨e,hc⟩|⟨e,hc⟩
    ·rw [e]
     wp_walk
     exact⟨rfl,rfl,i + 1,h1,h2,iP,hc⟩
    ·rw [e];have rl:=ho i h1 h2 v hc prog w
     wp_walk using rl
     exact⟨_,rfl,by simpa using h⟩
   case fin=>
    rintro⟨b1,b2⟩ s' ⟨kq,rfl,i,i1,i2,hz,hc⟩;simp only at kq;subst kq;have vG:min items.size cu.size<=i:=by
     rcases et i (items.toList.zip cu.toList).length with h'|h'
     ·rw [cU h'] at hz;cases hz
     ·exact hZ ▸ h'
    have hv:=c3 i i1 i2 (by lia) hc
    wp_walk
    rw [hv] at h;exact⟨_,rfl,by simpa [Builtin.Tuple.tupleCompareSizes] using h⟩
   case h=>
    exact⟨rfl,rfl,0,by lia,by lia,rfl,c1⟩
mutual
theorem b5H(O:OpIs c0 op f sz BL BT):∀(da db:D) {A:bx} {s:ak} {a b:ai} {as bs:List av} {v:Bool},Reads s.heap a da as->Reads s.heap b db bs->da.canLay0=true->db.canLay0=true->A.units + min da.depth db.depth < cH->L3 f da db=some v->b7r op A s a b v
 | .int i,db,A,s,a,b,as,bs,v,ra,rb,ha,hb,hu,hc=>by
  cases db with
  | int j=>
   simp only [L3,er] at hc;subst hc;cases ra
   cases rb
   intro prog w E Q h;exact O.int h
  | _=>simp only [L3] at hc;cases hc
 | .list xs,db,A,s,a,b,as,bs,v,ra,rb,ha,hb,hu,hc=>by
  cases db with
  | list ys=>
   simp only [L3] at hc;cases ra with
   | @list la oa us na _ fa c1 c2 c3 c4=>
    cases rb with
    | @list lb ob ws nb _ fb e1 e2 e3 e4=>
     have z1:us.size=xs.length:=by simpa using eZ xs _ _ c4
     have z2:ws.size=ys.length:=by simpa using eZ ys _ _ e4
     obtain⟨cls,dd,data,sl⟩:=oa;obtain⟨ya,ny,data2,mQ⟩:=ob;simp only at c2 c3 e2 e3;subst c2 c3 e2 e3;intro prog w E Q h;obtain⟨id,q1,q2,q3⟩:=O.fl;exact Ao ⟨_,c1,rfl⟩ ⟨_,e1,rfl⟩ q1 q2 (q3 _ _) (b4s O la lb us ws na nb dd ny sl mQ xs ys z1 z2 v hc)
      ⟨c1,e1,items_eqAt c4 e4 ha hb (Dz hu),fun j j1 j2 c hc=>a2w O xs ys c4 e4 ha hb (Dz hu) j j1 j2 c hc,show iM v≠ai.notImplemented/\Q (.bool v) s from⟨(fun x=>nomatch x),h⟩⟩ (room_here hu)
  | _=>simp only [L3] at hc;cases hc
 | .tuple xs,db,A,s,a,b,as,bs,v,ra,rb,ha,hb,hu,hc=>by
  cases db with
  | tuple ys=>
   simp only [L3] at hc;cases ra with
   | @tuple la oa us na _ fa c1 c2 c3 c4=>
    cases rb with
    | @tuple lb ob ws nb _ fb e1 e2 e3 e4=>
     have z1:us.size=xs.length:=by simpa using eZ xs _ _ c4
     have z2:ws.size=ys.length:=by simpa using eZ ys _ _ e4
     obtain⟨cls,dd,data,sl⟩:=oa;obtain⟨ya,ny,data2,mQ⟩:=ob;simp only at c2 c3 e2 e3;subst c2 c3 e2 e3;intro prog w E Q h;obtain⟨id,q1,q2,q3⟩:=O.ft;exact Ao ⟨_,c1,rfl⟩ ⟨_,e1,rfl⟩ q1 q2 (q3 _ _) (b1M O la lb us ws na nb dd ny sl mQ xs ys z1 z2 v hc)
      ⟨c1,e1,items_eqAt c4 e4 ha hb (Dz hu),fun j j1 j2 c hc=>a2w O xs ys c4 e4 ha hb (Dz hu) j j1 j2 c hc,show iM v≠ai.notImplemented/\Q (.bool v) s from⟨(fun x=>nomatch x),h⟩⟩ (room_here hu)
  | _=>simp only [L3] at hc;cases hc
 | .none,db,_,_,_,_,_,_,_,_,_,_,_,_,hc=>by simp only [L3] at hc;cases hc
 | .bool _,db,_,_,_,_,_,_,_,_,_,_,_,_,hc=>by simp only [L3] at hc;cases hc
 | .str _,db,_,_,_,_,_,_,_,_,_,_,_,_,hc=>by simp only [L3] at hc;cases hc
 | .dict _,db,_,_,_,_,_,_,_,_,_,_,_,_,hc=>by simp only [L3] at hc;cases hc
theorem a2w(O:OpIs c0 op f sz BL BT):∀(xs ys:List D) {A:bx} {s:ak} {us ws:List ai} {as bs:List av},iU s.heap us xs as->iU s.heap ws ys bs->bg xs=true->bg ys=true->A.units + min (bQ xs) (bQ ys) < cH->
  ∀j (h1:j < us.length) (h2:j < ws.length) c,L3 f (xs.getD j .none) (ys.getD j .none)=some c->b7r op A s us[j] ws[j] c
 | [],ys,A,s,us,ws,as,bs,ra,rb,ha,hb,hu,j,h1,h2,c,hc=>by cases ra;simp at h1
 | x :: xs,[],A,s,us,ws,as,bs,ra,rb,ha,hb,hu,j,h1,h2,c,hc=>by cases rb;simp at h2
 | x :: xs,y :: ys,A,s,us,ws,as,bs,ra,rb,ha,hb,hu,j,h1,h2,c,hc=>by
  have oV:x.canLay0=true/\bg xs=true:=by simpa [bg] using ha
  have kq:y.canLay0=true/\bg ys=true:=by simpa [bg] using hb
  simp only [bQ] at hu;cases ra with
  | cons r1 r2=>
   cases rb with
   | cons q1 q2=>
    cases j with
    | zero=>exact b5H O x y r1 q1 oV.1 kq.1 (by lia) hc
    | succ j=>exact a2w O xs ys r2 q2 oV.2 kq.2 (by lia) j (by simpa using h1) (by simpa using h2) c hc
end
end
end
section
variable {X:Cx}
def b4t(K:af)(f:Int->Int->Bool):R2:=fun x y H Q=>∃d e v,Den K H x d/\Den K H y e/\d.canLay0=true/\e.canLay0=true/\d.depth<=60/\L3 f d e=some v/\Q (.bl v) H
theorem b1N(ho:OpR X g (b4t X.K f)):OpS X g (a1s f):=by
 refine⟨_,ho,fun x y H a b d Q ha hb hg q=>?_⟩;unfold a1s at hg;by_cases c:(a.canLay0 && b.canLay0 && decide (a.depth<=60))=true
 ·rw [aE c] at hg;obtain⟨v,hv,rfl⟩:=bY.mp hg;rw [az,az] at c;exact⟨a,b,v,ha,hb,c.1.1,c.1.2,bC c.2,hv,q _ (by simp only [imm]) fun _=>den_bool⟩
 ·rw [aO c] at hg;cases hg
theorem b5I(O:OpIs c0 op f sz BL BT)(hu:X.A.units + 64 < cH):OpR X (bp op) (b4t X.K f):=by
 rw [O.o1];intro pins s σ H x y v u Q I rx ry h;obtain⟨d,e,k,h1,h2,c1,c2,hd,hc,q⟩:=h;obtain⟨as,ra⟩:=Den.reads I d c1 h1 rx;obtain⟨bs,rb⟩:=Den.reads I e c2 h2 ry;exact b5H O d e ra rb c1 c2 (by have:=iB d.depth e.depth;lia) hc _ _ _ _ ⟨.bl k,H,I,rfl,q⟩
theorem b7s(hu:X.A.units + 64 < cH):OpR X (bp .Lt) (b4t X.K fLt):=b5I .lt hu
theorem b7t(hu:X.A.units + 64 < cH):OpR X (bp .Gt) (b4t X.K fGt):=b5I .gt hu
theorem b7u(hu:X.A.units + 64 < cH):OpS X (bp .Lt) (a1s fLt):=b1N (b7s hu)
theorem b1O(hu:X.A.units + 64 < cH):OpS X (bp .Gt) (a1s fGt):=b1N (b7t hu)
end
end VS
namespace VS
open PySem PySem.Spec L2
section
variable {X:Cx}{M:List Md}{a:Expr}{fa:EvE}{us:List Ty}{u:Ty}{pos p2:ek}
theorem b7v(ha:PX X M a fa (.new (.tp us)))(hu:us[j]?=some u:=by rfl):PX X M (.Subscript a (.Constant (.int (j:Nat)) c p2) pos) (e2 dIx fa (eC (.int (j:Nat)))) (.new u):=by
 obtain⟨ta,pa,qa⟩:=ha.out;refine .mk ⟨_,a8v a4M pa b0X (fun _ _=>rfl),fun Z σ H P F d Q S hf q=>?_⟩;obtain⟨x,y,h1,h2,h3⟩:=A4 hf;cases h2
 refine qa Z σ H P F x _ S h1 fun v H1 e1 ⟨fp,o,n,fr⟩=>?_
 simp only [Own] at o;obtain⟨p,xs,ds,rfl,hp,ua,rfl,ot⟩:=o;have qO:L2.atI ds (j:Int)=some d:=h3;unfold L2.atI at qO;obtain⟨k,k1,k2⟩:=bnd qO;have hk:k=j:=by
  unfold ixN at k1;rw [aE (by lia)] at k1;by_cases c:(j:Int) < ds.length
  ·rw [aE c] at k1;have:=aD k1;lia
  ·rw [aO c] at k1;cases k1
 subst hk;obtain⟨v1,f,pre,post,z1,z2,z3,_⟩:=ot.zip hu k2;subst z3;have hlen:xs.length=ds.length:=by rw [ot.len.1,ot.len.2]
 refine .inr ⟨p,xs,(k:Int),v1,rfl,rfl,SqT.of hp,?_,q v1 H1 e1 ⟨f,z2.frame (B3 fun a ha=>?_) u fun _ _=>rfl,?_,fun a ha=>fr a ?_⟩⟩
 ·unfold L2.atI;rw [hlen,k1];exact z1
 ·rcases ay.mp ha with z|z
  ·exact aq _ (aj _ (aq _ z))
  ·exact aj _ z
 ·exact n.sublist ((jv f post).trans (pf pre _))
 ·exact aj _ (aq _ ha)
end
open PyProof.Rows in
theorem b1P{P:bh}{w:bE}{K:af}{mg:bc->Option ai}{base:bL}{x:bc}{st:fT}{f:av}{fd:cV}{N ps:List bc}{k n:Nat}{us:List Ty}{u:Ty}{g:EvS}{M':List Md}(F:Fun K x x st f fd)(S:FnScope N ps (g8 st))(k_:us.length=ps.length)(hn:N.length=ps.length + n)
  (hb:∀(eQ:ai) (A:bx) (outer:List lQ) (s:ak) (H:Hp) (E:XK),Room k (A.deeper (iE x (g8 st) s.heap.objs.size f eQ))->PSsX (S9 CX0 P w K mg base N x (g8 st) f eQ A outer s H E).nox .i [] (us.map .own ++ aC n .dead) (r9 st) g M') (hu:u=.i:=by rfl) :
  FnOk P w K mg base CX0 (k + 1) f fd ps (spD K ps.length (fnN us n g) u):=by
 subst hu;refine F.ok S (fun vs H Q E h=>?_) (fun eQ A outer s H vs Q E hr h=>?_)
 ·obtain⟨ds,d,hl,_⟩:=h;exact hl
 obtain⟨ds,d,hl,hd,hm,q⟩:=h;obtain⟨t,p,r⟩:=(hb eQ A outer s H E hr).out;refine⟨t,p,?_⟩;unfold fnN at hm;by_cases ha:argsOk us ds=true
 ·rw [aE ha] at hm;obtain⟨o,h1,h2⟩:=bnd hm;have e:L2.start N vs=vs.map some ++ aC n none:=by
   unfold L2.start;rw [show N.length - vs.length=n by lia]
  have S0:StR K (us.map .own ++ aC n .dead) (ds ++ aC n fG) (vs.map some ++ aC n none) H H []:=⟨⟨[],N1 ha hd n,br,fun a ha=>(nomatch ha)⟩,fun a ha=>(nomatch ha),by rw [F7];exact Same.refl H⟩;cases o with
  | rt d'=>
   have lr:some d'=some d:=h2;cases lr
   rw [e];exact r _ (ds ++ aC n fG) _ H H [] (.rt d) S0 h1 fun v H' fp o nd fr e=>q v H' fp e o nd fr
  | nx Z=>
   have lr:some fG=some d:=h2;cases lr
   rw [e];refine r _ (ds ++ aC n fG) _ H H [] (.nx Z) S0 h1 fun σ' H' F' S'=>?_
   refine q .non H' [] (S'.prot.trans i4) ?_ br fun a ha=>(nomatch ha)
   simp only [Own];exact⟨trivial,by simp only [imm],den_none⟩
  | _=>cases h2
 ·rw [aO ha] at hm;cases hm
end VS
namespace VS
open PySem PySem.Spec L2
theorem Y8:∀{l:List α} {l':List β},fq R l l'->∀{j:Nat} {x:α},l[j]?=some x->∃y,l'[j]?=some y/\R x y:=by
 intro l l' h
 induction h with
 | nil=>intro j x e;simp at e
 | cons r _ ih=>
  intro j x e;cases j with
  | zero=>cases e;exact⟨_,rfl,r⟩
  | succ j=>exact ih (by simpa using e)
theorem a5G:∀{l:List α} {l':List β},fq R l l'->∀{j:Nat} {y:β},l'[j]?=some y->∃x,l[j]?=some x/\R x y:=by
 intro l l' h
 induction h with
 | nil=>intro j x e;simp at e
 | cons r _ ih=>
  intro j x e;cases j with
  | zero=>cases e;exact⟨_,rfl,r⟩
  | succ j=>exact ih (by simpa using e)
section
variable {X:Cx}{pins:List (av × eD)}{σ:L2.St}{H:Hp}{s:ak}{A:bx}{E:ai->ak->Prop}{a:av}{es:List (D × V × V)}{o:eD}{ents:Array dY}{ep:Nat}{kt:Bool}{k:D}{kv:V}{key:ai}
theorem a0R(I:Inv X pins σ H s)(kk:keyOk kt k)(dk:Den X.K H kv k)(rk:RelV kv key):∃as,Reads s.heap key k as:=Den.reads I k (T2 _ kk.1) dk rk
theorem a3X(I:Inv X pins σ H s)(hu:A.units + 10 < cH)(kk:keyOk kt k)(dk:Den X.K H kv k)(rk:RelV kv key)(h:Q (hashD k) {s with toks:=s.toks + A7 k}):aM (aU X.prog X.w) A (pyHash key) Q E s:=by
 obtain⟨as,r⟩:=a0R I kk dk rk;exact a2i k kk.1 (by have:=kk.2.1;lia) r h
theorem a0S(I:Inv X pins σ H s)(hu:A.units + 10 < cH)(ho:s.heap.get? a=some o)(hd:o.data=.dict ents ep)(hp:fq O8 es ents.toList)(hn:(es.map (·.1)).Nodup)(hk:∀e∈es,keyOk kt e.1/\Den X.K H e.2.1 e.1)
  (kk:keyOk kt k) (dk:Den X.K H kv k) (rk:RelV kv key) (lh:(∀e∈es,e.1≠k)->Q none s) (lg:∀j e,es[j]?=some e->e.1=k->Q (some j) s) :
  aM (aU X.prog X.w) A (dictFind a key (hashD k)) Q E s:=by
 cases kt with
 | false=>
  obtain⟨i,rfl⟩:=kk.2.2.2 rfl;cases dk.int_inv
  obtain⟨t,rfl⟩:=rk;have ent:∀(j:Nat) (x:dY),ents.toList[j]?=some x->∃e n u,es[j]?=some e/\e.1=.int n/\x.key=.int n u/\x.hash=jm n:=fun j x hx=>by
   obtain⟨e,he,h1,h2,_⟩:=a5G hp hx;obtain⟨k1,k2⟩:=hk e (bD he);obtain⟨n,en⟩:=k1.2.2.2 rfl;rw [en] at k2 h1;have e2:=k2.int_inv;rw [e2] at h2;obtain⟨u,wL⟩:=h2;exact⟨e,n,u,he,en,wL,by simpa [hashD] using h1⟩
  show aM (aU X.prog X.w) A (dictFind a (.int i t) ((fW X.prog X.w).hash i)) Q E s;refine wpAny_dictFind_of (knd:=fW X.prog X.w) (k:=i) (by simp [fW,mh]) ho hd (fun x hx=>?_) ?_
  ·obtain⟨j,hj⟩:=cG.mp (dE.mpr hx);obtain⟨e,n,u,_,_,h3,h4⟩:=ent j x hj;exact⟨n,by rw [h3];simp [fW,mh],h4⟩
  ·cases hf:ents.findIdx? fun e=>(fW X.prog X.w).is i e.key with
   | none=>
    refine lh fun e he fS=>?_
    obtain⟨j,hj⟩:=cG.mp he;obtain⟨x,hx,_⟩:=Y8 hp hj;obtain⟨e',n,u,h1,h2,h3,_⟩:=ent j x hx;rw [hj] at h1;cases h1
    rw [fS] at h2;cases h2
    have:=Array.findIdx?_eq_none_iff.mp hf x (dE.mp (bD hx));rw [h3] at this;simp [fW,mh] at this
   | some j=>
    obtain⟨fL,tO,_⟩:=Array.findIdx?_eq_some_iff_getElem.mp hf;have hx:ents.toList[j]?=some ents[j]:=by simp [fL]
    obtain⟨e,n,u,h1,h2,h3,_⟩:=ent j _ hx;have qC:n=i:=by
     rw [h3] at tO;simpa [fW,mh] using tO
    subst qC;exact lg j e h1 h2
 | true=>
  obtain⟨ds,rfl⟩:=kk.2.2.1 rfl;obtain⟨p,mz,rfl,_,_⟩:=dk.tup_inv;cases (show key=be p from rk)
  obtain⟨as,Ap⟩:=a0R I kk (dk) (show RelV (.ref p) (.ref p) from rfl);have build:∀{es:List (D × V × V)} {l:List dY},fq O8 es l->(∀e∈es,keyOk true e.1/\Den X.K H e.2.1 e.1)->∃xs:List (D × av × ai),l=xs.map (fun x=>(⟨hashD x.1,.ref x.2.1,x.2.2⟩:dY))/\xs.map (·.1)=es.map (·.1)/\∀x∈xs,C9 x.1=true/\x.1.depth<=7/\∃as,Reads s.heap (.ref x.2.1) x.1 as:=by
   intro es l hp
   induction hp with
   | nil=>exact fun _=>⟨[],rfl,rfl,fun x hx=>(nomatch hx)⟩
   | @cons e x es l r _ ih=>
    intro hk;obtain⟨xs,i1,i2,i3⟩:=ih fun e he=>hk e (ao _ he)
    obtain⟨k1,k2⟩:=hk e ah;obtain⟨as,rr⟩:=a0R I k1 k2 r.2.1;obtain⟨ds,ed⟩:=k1.2.2.1 rfl;have:∃q,x.key=.ref q:=by
     rw [ed] at rr;cases AR:x.key with
     | ref q=>exact⟨q,rfl⟩
     | _=>rw [AR] at rr;cases rr
    obtain⟨q,hq⟩:=this;refine⟨(e.1,q,x.val) :: xs,?_,by rw [aA,aA,i2],fun y hy=>?_⟩
    ·rw [aA,<-i1]
     congr 1;obtain⟨xh,xk,xv⟩:=x;simp only at hq;rw [show xh=hashD e.1 from r.1,hq]
    ·rcases aH.mp hy with z|z
     ·subst z;exact⟨k1.1,k1.2.1,as,by rw [hq] at rr;exact rr⟩
     ·exact i3 y z
  obtain⟨xs,x1,x2,x3⟩:=build hp hk;have idx:∀(j:Nat) (kk:D),(∃p,xs[j]?=some (kk,p))↔∃e,es[j]?=some e/\e.1=kk:=fun j kk=>by
   have:(xs.map (·.1))[j]?=(es.map (·.1))[j]?:=by rw [x2]
   rw [bz,bz] at this
   constructor
   ·rintro⟨q,hq⟩;rw [hq] at this;cases he:es[j]? with
    | none=>rw [he] at this;cases this
    | some e=>rw [he] at this;exact⟨e,rfl,(aD this).symm⟩
   ·rintro⟨e,he,hk⟩;rw [he] at this;cases hx:xs[j]? with
    | none=>rw [hx] at this;cases this
    | some x=>
     rw [hx] at this;have e1:x.1=e.1:=aD this;exact⟨x.2,by rw [<-hk,<-e1]⟩
  refine @wpAny_dictFind_heap X.prog X.w D a9H (b1r X.prog X.w) A E s a p o ents ep xs (.tuple ds) Q (by show A.units + 8 < cH;lia) ⟨kk.1,kk.2.1,as,Ap⟩ ho hd x1 x3 (by rw [x2];exact hn) (fun h=>lh fun e he fS=>?_) (fun j q hj=>?_)
  ·obtain⟨j,hj⟩:=cG.mp he;obtain⟨q,hq⟩:=(idx j (.tuple ds)).mpr ⟨e,hj,fS⟩;exact h j q hq
  ·obtain⟨e,he,fS⟩:=(idx j (.tuple ds)).mp ⟨q,hj⟩;exact lg j e he fS
end
end VS
namespace VS
open PySem PySem.Spec L2
def A6(es:List (D × V × V))(k:D):Bool:=es.any fun e=>aI e.1 k
def a0T(es:List (D × V × V))(k:D)(kv v:V):List (D × V × V):=if A6 es k then es.map fun e=>if aI e.1 k then (e.1,e.2.1,v) else e else es ++ [(k,kv,v)]
section
variable {X:Cx}{pins:List (av × eD)}{σ:L2.St}{H:Hp}{s:ak}{A:bx}{E:ai->ak->Prop}{a:av}{es:List (D × V × V)}{kt:Bool}{k:D}{kv v:V}{key val:ai}
theorem a7s(h:C1 (ks ++ [x])=false):C1 ks=false:=by
 cases ks with
 | nil=>rfl
 | cons e ks=>
  unfold C1 at h ⊢
  split at h
  ·cases h
  ·rename_i hn
   split
   ·rename_i heq
    cases heq
    exact absurd rfl (hn _)
   ·rfl
theorem a7t{x:D × V × V}(h:D0 (es ++ [x])=false):D0 es=false:=by
 rw [D0,bb] at h;exact a7s h
theorem a3Y(I:Inv X pins σ H s)(h:H a=some (f8 a es)):(a == dF)=false/\es.length<=aS/\(es.map (·.1)).Nodup/\∃o ents ep,s.heap.get? a=some o/\o.ExactDict/\o.data=.dict ents ep/\fq O8 es ents.toList/\(D0 es=false->ep=es.length):=
 (show ObjOk X.prog X.w H s.heap a (f8 a es) from I.hok a _ h).1
theorem V9(I:Inv X pins σ H s)(h:H a=some (f8 a es))(hL:D0 es=false):(a == dF)=false/\es.length<=aS/\(es.map (·.1)).Nodup/\∃o ents,s.heap.get? a=some o/\o.ExactDict/\o.data=.dict ents es.length/\fq O8 es ents.toList:=
 let⟨a1,a2,a3,o,ents,_,r1,r2,r3,r4,r5⟩:=a3Y I h;⟨a1,a2,a3,o,ents,r1,r2,r5 hL ▸ r3,r4⟩
theorem u4(I:Inv X pins σ H s)(h:H a=some (f8 a es)):(a == dF)=false/\es.length<=aS/\(es.map (·.1)).Nodup/\∃o ents ep,s.heap.get? a=some o/\o.ExactDict/\o.data=.dict ents ep/\fq O8 es ents.toList:=
 let⟨a1,a2,a3,o,ents,ep,r1,r2,r3,r4,_⟩:=a3Y I h;⟨a1,a2,a3,o,ents,ep,r1,r2,r3,r4⟩
theorem a5H(I:Inv X pins σ H s)(h:H a=some (f8 a es)){o:eD}{ents:Array dY}{ep:Nat}(h1:s.heap.get? a=some o)(h3:o.data=.dict ents ep)(hL:D0 es=false):ep=es.length:=by
 obtain⟨_,_,_,o',mY,g1,_,g3,_⟩:=V9 I h hL;rw [h1] at g1;cases g1
 rw [h3] at g3
 injection g3
theorem n8(I:Inv X pins σ H s)(h:H a=some (f8 a es)):s.TypeIs (.ref a) "dict":=by
 obtain⟨_,_,_,o,ents,ep,h1,h2,_⟩:=u4 I h;exact⟨o,h1,h2.1⟩
theorem a4S(I:Inv X pins σ H s)(h:H a=some (f8 a es)):∀b,be a=.ref b->∃ob,s.heap.get? b=some ob/\ob.dict=none:=fun b q=>by
 cases q
 obtain⟨_,_,_,o,ents,ep,h1,h2,_⟩:=u4 I h;exact⟨o,h1,h2.2.1⟩
theorem W1{P:bh}{w:bE}{H':Hp}{h':bL}(hs:(a == dF)=false)(hl:es.length<=aS)(hn:(es.map (·.1)).Nodup){o:eD}{ents:Array dY}{ep:Nat}(h1:h'.get? a=some o)(h2:o.ExactDict)(h3:o.data=.dict ents ep)(he:D0 es=false->ep=es.length)(h4:fq O8 es ents.toList):ObjOk P w H' h' a (f8 a es):=
 ⟨⟨hs,hl,hn,o,ents,ep,h1,h2,h3,h4,he⟩,⟨o,h1⟩,fun x1 x2 ⟨a1,a2,a3,o',mY,nQ,b1,b2⟩ hk=>⟨a1,a2,a3,o',mY,nQ,hk _ b1,b2⟩⟩
structure KeysAt (X:Cx) (H:Hp) (kt:Bool) (es:List (D × V × V)) (k:D) (kv:V):Prop where
 keys:∀e∈es,keyOk kt e.1/\Den X.K H e.2.1 e.1
 key:keyOk kt k
 den:Den X.K H kv k
theorem KeysAt.eqv(K:KeysAt X H kt es k kv){e:D × V × V}(he:e∈es):aI e.1 k=true↔e.1=k:=O7 e.1 k (K.keys e he).1.1 K.key.1
theorem get_dict(I:Inv X pins σ H s)(hu:A.units + 10 < cH)(h:H a=some (f8 a es))(K:KeysAt X H kt es k kv)(rk:RelV kv key) 
  (lh:A6 es k=false->∀s',Inv X pins σ H s'->Q none s') (lg:∀e∈es,e.1=k->∀x s',Inv X pins σ H s'->RelV e.2.2 x->Q (some x) s') :
  aM (aU X.prog X.w) A (De a key) Q E s:=by
 obtain⟨_,_,hn,o,ents,ep,h1,h2,h3,h4⟩:=u4 I h;unfold De
 try with_reducible refine bI ?_
 refine ae (a3X I hu K.key K.den rk (ae (a0S (s:={s with toks:=s.toks + A7 k}) (I.tok (s.toks + A7 k)) hu h1 h3 h4 hn K.keys K.key K.den rk ?_ ?_)))
 ·intro og;refine ag (lh ?_ _ (I.tok _));unfold A6;rw [dG];exact fun e he hq=>og e he ((K.eqv he).mp hq)
 ·intro j e he fS;obtain⟨x,hx,r⟩:=Y8 h4 he;refine ae (cB (s:={s with toks:=s.toks + A7 k}) h1 h3 ?_);have:ents[j]?=some x:=by rw [<-cZ];exact hx
  rw [this];exact ag (lg e (bD he) fS _ _ (I.tok _) r.2.2)
theorem a5I(hf:A6 es k=false):a0T es k kv v=es ++ [(k,kv,v)]:=by unfold a0T;rw [hf];rfl
theorem a7u{α β:Type}{R:α->β->Prop}{l:List α}{l':List β}(h:fq R l l'){x:α}{y:β}(r:R x y):fq R (l ++ [x]) (l' ++ [y]):=by
 induction h with
 | nil=>exact .cons r .nil
 | cons q _ ih=>exact .cons q ih
theorem a9V(K:KeysAt X H kt es k kv)(hn:(es.map (·.1)).Nodup)(hf:A6 es k=false):((es ++ [(k,kv,v)]).map (·.1)).Nodup:=by
 rw [bb,bu];refine⟨hn,by simp,fun x hx y hy e=>?_⟩;simp only [aA,cA,ax] at hy;subst hy;subst e;obtain⟨e,he,rfl⟩:=aG.mp hx;unfold A6 at hf;rw [dG] at hf;exact hf e he ((K.eqv he).mpr rfl)
theorem a3Z(I:Inv X pins σ H s)(h:H a=some (f8 a es))(K:KeysAt X H kt es k kv)(rk:RelV kv key)(rv:RelV v val)(hl:es.length < aS)(hf:A6 es k=false){t':Nat}{o:eD}{ents:Array dY}{ep:Nat}(h1:s.heap.get? a=some o)(h2:o.ExactDict)(h3:o.data=.dict ents ep)(h4:fq O8 es ents.toList) :
  Inv X pins σ (upd H a (f8 a (es ++ [(k,kv,v)]))) {s with heap:=s.heap.update a (·.mapDictKeys (·.push ⟨hashD k,key,val⟩)),toks:=t'}:=by
 obtain⟨hs,_,hn,_⟩:=u4 I h;refine I.write (x:=a) (e:=a) (by rw [h];exact iS) (.inl rfl) (fun b q hb z=>((bN ..).2 b hb).trans z) ⟨_,bV _ h1 (gI (gn h3 _))⟩ ?_;refine W1 hs (by simp;lia) (a9V K hn hf) (bV _ h1 (gI (gn h3 _))) (h2.mapDictKeys _) (gn h3 _) (fun hL=>by rw [a5H I h h1 h3 (a7t hL),aK];rfl) ?_;have:=a7u h4 (x:=(k,kv,v)) (y:=⟨hashD k,key,val⟩) ⟨rfl,rk,rv⟩;obtain⟨l⟩:=ents;simpa using this
theorem a7v(hp:fq O8 es l)(hn:(es.map (·.1)).Nodup)(hk:∀e∈es,aI e.1 k=true↔e.1=k)(rv:RelV v val):∀{j:Nat} {e:D × V × V},es[j]?=some e->e.1=k->
  fq O8 (es.map fun e=>if aI e.1 k then (e.1,e.2.1,v) else e) (l.modify j fun x=>{x with val:=val}):=by
 induction hp with
 | nil=>intro j e he;simp at he
 | @cons e0 x es l r hp ih=>
  intro j e he fS;rw [aA,bA] at hn;have rG:∀e∈es,aI e.1 k=true↔e.1=k:=fun e he=>hk e (ao _ he)
  cases j with
  | zero=>
   cases he
   have h0:aI e0.1 k=true:=(hk _ ah).mpr fS;have iP:es.map (fun e=>if aI e.1 k then (e.1,e.2.1,v) else e)=es:=by
    have:∀e'∈es,(if aI e'.1 k then (e'.1,e'.2.1,v) else e')=e':=fun e' kK=>by
     rw [aO];intro q;exact hn.1 (by rw [fS,<-(rG e' kK).mp q];exact cW kK)
    rw [cF this,sd]
   rw [aA,aE h0,iP];exact .cons ⟨r.1,r.2.1,rv⟩ hp
  | succ j=>
   have kK:es[j]?=some e:=by simpa using he
   have gy:¬ aI e0.1 k=true:=fun q=>hn.1 (by rw [(hk _ ah).mp q,<-fS];exact cW (bD kK))
   rw [aA,aO gy];exact .cons r (ih hn.2 rG kK fS)
theorem a2x{es:List (D × V × V)}:(es.map fun e=>if aI e.1 k then (e.1,e.2.1,v) else e).map (·.1)=es.map (·.1):=by
 rw [cP];refine cF fun e _=>?_
 show (if aI e.1 k then (e.1,e.2.1,v) else e).1=e.1
 split <;> rfl
theorem set_dict(I:Inv X pins σ H s)(hu:A.units + 10 < cH)(h:H a=some (f8 a es))(K:KeysAt X H kt es k kv)(rk:RelV kv key)(rv:RelV v val)(hl:es.length < aS){Q:Unit->ak->Prop}
  (hQ:∀s',Inv X pins σ (upd H a (f8 a (a0T es k kv v))) s'->Q () s'):aM (aU X.prog X.w) A (dictSet a key val) Q E s:=by
 obtain⟨hs,_,hn,o,ents,ep,h1,h2,h3,h4⟩:=u4 I h;have je:ents.size<=aS:=by
  have:=dJ h4;have e2:ents.toList.length=ents.size:=by simp
  lia
 unfold dictSet
 try with_reducible refine bI ?_
 refine ae (a3X I hu K.key K.den rk ?_);unfold ke
 try with_reducible refine bI ?_
 refine ae (a0S (s:={s with toks:=s.toks + A7 k}) (I.tok (s.toks + A7 k)) hu h1 h3 h4 hn K.keys K.key K.den rk ?_ ?_)
 ·intro og;have hf:A6 es k=false:=by
   unfold A6;rw [dG];exact fun e he hq=>og e he ((K.eqv he).mp hq)
  rw [a5I hf] at hQ;exact ae (gX (wpAny_updateDictKeys (hz:=je) (s:={s with toks:=s.toks + A7 k}) h1 h3 (hQ _ (a3Z (t':=s.toks + A7 k) I h K rk rv hl hf h1 h2 h3 h4))))
 ·intro j e he fS;have hf:A6 es k=true:=by
   unfold A6;rw [eO];exact⟨e,bD he,(K.eqv (bD he)).mpr fS⟩
  have nQ:a0T es k kv v=es.map fun e=>if aI e.1 k then (e.1,e.2.1,v) else e:=by unfold a0T;rw [hf];rfl
  rw [nQ] at hQ;refine ae (gX (ae (wpAny_updateDict (s:={s with toks:=s.toks + A7 k}) h1 h3 (wpAny_point (hQ _ ?_)))));refine I.write (x:=a) (e:=a) (t':=s.toks + A7 k) (by rw [h];exact iS) (.inl rfl) (fun b q hb z=>((bN ..).2 b hb).trans z) ⟨_,bV _ h1 (gI (qo h3 _))⟩ ?_;refine W1 hs (by rw [ar];lia) (by rw [a2x];exact hn) (bV _ h1 (gI (qo h3 _))) (h2.mapDict _) (qo h3 _) (fun hL=>by rw [D0,a2x] at hL;rw [a5H I h h1 h3 hL,ar]) ?_;have:=a7v h4 hn (fun e he=>K.eqv he) rv he fS;obtain⟨l⟩:=ents;simpa using this
end
end VS
namespace VS
open PySem PySem.Spec L2
def a5J(i:Expr):Prop:=∀ov iv,qy i false ov iv=operate [ov,iv] (oI ov iv)
open PyProof.Rows in
theorem b9P{prog:bh}{w:bE}{A:bx}{E:ai->ak->Prop}{s:ak}{env:lQ}{value slice:Expr}{pos:ek}{T id:String}{Q:ai->ak->Prop}
  (hl:typeLookup (.type T) "__getitem__"=pure (some (.builtin id))) (hs:a5J slice)
  (h:aM (aU prog w) A (bW value env) (fun o s₁=>aM (aU prog w) A (bW slice env) (fun i s₂=>s₂.TypeIs o T/\aM (aU prog w) A (oI o i) Q E s₂) E s₁) E s) :
  aM (aU prog w) A (bW (.Subscript value slice pos) env) Q E s:=by
 refine PyProof.Rows.Subscript_ (cC h (fun o s₁ h₁=>cC h₁ (fun i s₂ h₂=>?_) fun _ _ x=>x) fun _ _ x=>x);obtain⟨hT,h₂⟩:=h₂;unfold subscriptTail;refine ae ?_;rw [getitemInPython_of_ne hT.not_modules];refine ae (dh hT hl ?_);have fin:aM (aU prog w) A (qy slice false o i) (fun r s₃=>aM (aU prog w) A (letTemporaryGo value o r >>= fun _=>pure r) Q E s₃) E s₂:=by
  rw [hs o i];exact wpAny_operating (cC h₂ (fun r s₃ h₃=>ae (wpAny_letTemporaryGo (ag h₃))) fun _ _ x=>x)
 first
  | exact ag (ae fin)
  | exact ae (ag (ae fin))
  | exact ae fin
section
variable {X:Cx}{pins:List (av × eD)}{σ:L2.St}{H:Hp}{s:ak}{A:bx}{E:ai->ak->Prop}{a:av}{es:List (D × V × V)}{kt:Bool}{k:D}{kv v:V}{key val:ai}
theorem a2y(hu:A.units + 12 < cH)(I:Inv X pins σ H s)(h:H a=some (f8 a es))(K:KeysAt X H kt es k kv)(rk:RelV kv key)(hh:A6 es k=true)
  (hQ:∀e∈es,e.1=k->∀x s',Inv X pins σ H s'->RelV e.2.2 x->Q x s'):aM (aU X.prog X.w) A (oI (.ref a) key) Q E s:=by
 have hT:=n8 I h;unfold oI
 try with_reducible refine bI ?_
 refine ae (wpAny_sequenceKey hT (by decide) ?_);refine ae (cx (name:=cM "__getitem__") hT slot_dict_getitem (bM slot_dict_getitem hT entry_dict_getitem ?_ (args_dict_getitem _ _)));show aM _ _ (De a key >>= _) _ _ s;refine ae (get_dict (A:=A.in1) I (by show A.units + 1 + 10 < cH;lia) h K rk (fun hf=>by rw [hh] at hf;cases hf) fun e he fS x s' I' r=>?_);exact ag ⟨x,rfl,ag (hQ e he fS x s' I' r)⟩
theorem a1t(hu:A.units + 12 < cH)(I:Inv X pins σ H s)(h:H a=some (f8 a es))(K:KeysAt X H kt es k kv)(rk:RelV kv key)
  (hQ:∀s',Inv X pins σ H s'->Q (A6 es k) s'):aM (aU X.prog X.w) A (contains (.ref a) key) Q E s:=by
 have hT:=n8 I h;obtain⟨hd,_⟩:=u4 I h;unfold contains
 try with_reducible refine bI ?_
 refine ae (dh hT slot_dict_contains.lookup ?_);show aM _ _ (if (some (ai.builtin "dict.__contains__") == some cD)=true then _ else _) _ E s;rw [aO (by rw [beq_builtin_none];exact bB)];refine ae (wpAny_callSpecialUnlessNone?_slot (name:=cM "__contains__") hT slot_dict_contains (bM slot_dict_contains hT entry_dict_contains ?_ (args_dict_contains _ _)));show aM _ _ (De a key >>= _) _ _ s;refine ae (get_dict (A:=A.in1) I (by show A.units + 1 + 10 < cH;lia) h K rk (fun hf s' I'=>?_) fun e he fS x s' I' r=>?_)
 ·rw [hf] at hQ;show aM _ _ (Builtin.Dict.pendingKey? a key >>= _) _ _ _;exact ae (wpAny_pendingKey_other hd (ag ⟨_,rfl,cg (hQ s' I')⟩))
 ·have hf:A6 es k=true:=by
   unfold A6;rw [eO];exact⟨e,he,(K.eqv he).mpr fS⟩
  rw [hf] at hQ;show aM _ _ (ret (.bool true)) _ _ _;exact ag ⟨_,rfl,cg (hQ s' I')⟩
theorem b9Q(hu:A.units + 12 < cH)(I:Inv X pins σ H s)(h:H a=some (f8 a es))(K:KeysAt X H kt es k kv)(rk:RelV kv key)
  (hQ:∀s',Inv X pins σ H s'->Q (.bool (A6 es k)) s'):aM (aU X.prog X.w) A (bp .In key (.ref a)) Q E s:=by
 show aM _ _ (do return .bool (<-contains (.ref a) key)) Q E s;exact ae (a1t hu I h K rk fun s' I'=>ag (hQ s' I'))
theorem b1Q(hu:A.units + 12 < cH)(I:Inv X pins σ H s)(h:H a=some (f8 a es))(K:KeysAt X H kt es k kv)(rk:RelV kv key)
  (hQ:∀s',Inv X pins σ H s'->Q (.bool (!A6 es k)) s'):aM (aU X.prog X.w) A (bp .NotIn key (.ref a)) Q E s:=by
 show aM _ _ (do return .bool (!(<-contains (.ref a) key))) Q E s;exact ae (a1t hu I h K rk fun s' I'=>ag (hQ s' I'))
theorem a7w(hu:A.units + 12 < cH)(I:Inv X pins σ H s)(h:H a=some (f8 a es))(K:KeysAt X H kt es k kv)(rk:RelV kv key)(rv:RelV v val)(hl:es.length < aS)
  (hQ:∀s',Inv X pins σ (upd H a (f8 a (a0T es k kv v))) s'->Q () s'):aM (aU X.prog X.w) A (Al (.ref a) key val) Q E s:=by
 have hT:=n8 I h;unfold Al
 try with_reducible refine bI ?_
 refine ae (wpAny_sequenceKey hT (by decide) ?_);refine ae (cx (name:=cM "__setitem__") hT slot_dict_setitem (bM slot_dict_setitem hT entry_dict_setitem ?_ (args_dict_setitem _ _ _)));show aM _ _ (Builtin.Dict.notOrdered "__setitem__" ⟨[.ref a,key,val],[]⟩ >>= _) _ _ s;refine ae (iD hT ?_);show aM _ _ (dictSet a key val >>= _) _ _ s;exact ae (set_dict (A:=A.in1) I (by show A.units + 1 + 10 < cH;lia) h K rk rv hl fun s' I'=>ag ⟨.none,rfl,ag (hQ s' I')⟩)
theorem b7w(hu:A.units + 12 < cH)(I:Inv X pins σ H s)(h:H a=some (f8 a es))(K:KeysAt X H kt es k kv)(rk:RelV kv key)
  (lh:A6 es k=false->∀s',Inv X pins σ H s'->Q .none s') (lg:∀e∈es,e.1=k->∀x s',Inv X pins σ H s'->RelV e.2.2 x->Q x s'):aM (aU X.prog X.w) A (call (.builtin "dict.get") [.ref a,key]) Q E s:=by
 have hT:=n8 I h;obtain⟨hd,_⟩:=u4 I h;refine bM F.slot_dict_get hT F.entry_dict_get ?_ (F.args_dict_get_2 _ _);show aM _ _ (De a key >>= _) _ _ s;refine ae (get_dict (A:=A.in1) I (by show A.units + 1 + 10 < cH;lia) h K rk (fun hf s' I'=>?_) fun e he fS x s' I' r=>?_)
 ·show aM _ _ (Builtin.Dict.missed a key >>= _) _ _ _;exact ae (wpAny_missed_other hd (ag ⟨.none,rfl,lh hf s' I'⟩))
 ·exact ag ⟨x,rfl,lg e he fS x s' I' r⟩
end
end VS
namespace VS
open PySem PySem.Spec L2
def C5(kvs:List (D × D))(k:D):Bool:=kvs.any fun p=>aI p.1 k
def G9(kvs:List (D × D))(k:D):Option D:=(kvs.find? fun p=>aI p.1 k).map (·.2)
def R7(kvs:List (D × D))(k d:D):List (D × D):=if C5 kvs k then kvs.map fun p=>if aI p.1 k then (p.1,d) else p else kvs ++ [(k,d)]
def u6(kt:Bool)(k:D):Bool:=C9 k && decide (k.depth<=7) && match k with
 | .tuple _=>kt
 | .int _=>!kt
 | _=>false
theorem F9(h:u6 kt k=true):keyOk kt k:=by
 unfold u6 at h;rw [az,az] at h;refine⟨h.1.1,bC h.1.2,fun e=>?_,fun e=>?_⟩
 ·subst e;cases k with
  | tuple ds=>exact⟨ds,rfl⟩
  | int i=>have:=h.2;simp at this
  | _=>have:=h.2;simp at this
 ·subst e;cases k with
  | int i=>exact⟨i,rfl⟩
  | tuple ds=>have:=h.2;simp at this
  | _=>have:=h.2;simp at this
def dIn(neg kt:Bool):D->D->Option D
 | k,.dict kvs=>if u6 kt k then some (.bool (neg != C5 kvs k)) else none
 | _,_=>none
def a4T(kt:Bool):D->D->Option D
 | .dict kvs,k=>if u6 kt k then G9 kvs k else none
 | _,_=>none
theorem P3:∀{es:List (D × V × V)} {ds:List D},ds.length=es.length->C5 ((es.map (·.1)).zip ds) k=A6 es k
 | [],ds,_=>by simp [C5,A6]
 | e :: es,[],h=>by simp at h
 | e :: es,d :: ds,h=>by
  have ih:=P3 (k:=k) (es:=es) (ds:=ds) (by simpa using h);unfold C5 A6 at ih ⊢;simp only [aA,ef,List.any_cons,ih]
theorem a2z:∀{es:List (D × V × V)} {ds:List D} {j:Nat} {e:D × V × V} {d:D},ds.length=es.length->(∀e∈es,aI e.1 k=true↔e.1=k)->(es.map (·.1)).Nodup->es[j]?=some e->e.1=k->ds[j]?=some d->G9 ((es.map (·.1)).zip ds) k=some d
 | [],ds,j,e,d,_,_,_,he,_,_=>by simp at he
 | e0 :: es,[],j,e,d,h,_,_,_,_,_=>by simp at h
 | e0 :: es,d0 :: ds,0,e,d,h,hk,_,he,fS,hd=>by
  cases he
  cases hd
  have:aI e0.1 k=true:=(hk _ ah).mpr fS;simp [G9,this]
 | e0 :: es,d0 :: ds,j + 1,e,d,h,hk,hn,he,fS,hd=>by
  rw [aA,bA] at hn;have kK:es[j]?=some e:=by simpa using he
  have jU:ds[j]?=some d:=by simpa using hd
  have ih:=a2z (k:=k) (by simpa using h) (fun e he=>hk e (ao _ he)) hn.2 kK fS jU;have gy:aI e0.1 k=false:=by
   cases q:aI e0.1 k with
   | false=>rfl
   | true=>exact absurd (by rw [(hk _ ah).mp q,<-fS];exact cW (bD kK)) hn.1
  unfold G9 at ih ⊢;simp only [aA,ef,fu,gy];exact ih
theorem a4a(h:C5 kvs k=false):G9 kvs k=none:=by
 unfold C5 at h;rw [dG] at h;unfold G9;rw [gB.mpr fun p hp=>by simpa using h p hp];rfl
theorem a5K(h:G9 kvs k=some d):C5 kvs k=true:=by
 cases q:C5 kvs k with
 | true=>rfl
 | false=>rw [a4a q] at h;cases h
theorem a9W(h:C5 kvs k=false):R7 kvs k d=kvs ++ [(k,d)]:=by unfold R7;rw [h];rfl
theorem a5L{es:List (D × V × V)}{ds:List D}{k d:D}{kv v:V}(hl:ds.length=es.length):((es ++ [(k,kv,v)]).map (·.1)).zip (ds ++ [d])=(es.map (·.1)).zip ds ++ [(k,d)]:=by
 rw [bb,En (by rw [ar];exact hl.symm)];rfl
theorem a1u{v:V}:∀{es:List (D × V × V)} {ds:List D} {j:Nat} {e:D × V × V},ds.length=es.length->(∀e∈es,aI e.1 k=true↔e.1=k)->(es.map (·.1)).Nodup->es[j]?=some e->e.1=k->
  ((es.map (·.1)).zip ds).map (fun p=>if aI p.1 k then (p.1,d) else p)=(es.map (·.1)).zip (ds.set j d)
 | [],ds,j,e,_,_,_,he,_=>by simp at he
 | e0 :: es,[],j,e,h,_,_,_,_=>by simp at h
 | e0 :: es,d0 :: ds,0,e,h,hk,hn,he,fS=>by
  cases he
  rw [aA,bA] at hn;have h0:aI e0.1 k=true:=(hk _ ah).mpr fS;have iP:((es.map (·.1)).zip ds).map (fun p=>if aI p.1 k then (p.1,d) else p)=(es.map (·.1)).zip ds:=by
   have:∀p∈(es.map (·.1)).zip ds,(if aI p.1 k then (p.1,d) else p)=p:=fun p hp=>by
    rw [aO];intro q;have hm:=(iC hp).1;obtain⟨e',kK,hq⟩:=aG.mp hm;have wV:e'.1=p.1:=hq;rw [<-wV] at q;exact hn.1 (by rw [fS,<-(hk e' (ao _ kK)).mp q];exact cW kK)
   rw [cF this,sd]
  simp only [aA,ef,lN,aE h0,iP]
 | e0 :: es,d0 :: ds,j + 1,e,h,hk,hn,he,fS=>by
  rw [aA,bA] at hn;have kK:es[j]?=some e:=by simpa using he
  have ih:=a1u (k:=k) (d:=d) (v:=v) (ds:=ds) (by simpa using h) (fun e he=>hk e (ao _ he)) hn.2 kK fS;have gy:¬ aI e0.1 k=true:=fun q=>hn.1 (by rw [(hk _ ah).mp q,<-fS];exact cW (bD kK))
  simp only [aA,ef,iW,aO gy,ih]
section
variable {K:af}{H:Hp}{F:List av}
theorem Own.dict(h:Own K H F (.d kt u) v d fp):∃a es ds fs,v=.ref a/\H a=some (f8 a es)/\d=.dict ((es.map (·.1)).zip ds)/\fp=a :: fs/\(∀e∈es,keyOk kt e.1/\Den K (cut H F) e.2.1 e.1)/\ListAll (Own K H F u) (es.map (·.2.2)) ds fs/\ds.length=es.length/\(es.map (·.1)).Nodup:=by
 simp only [Own] at h;obtain⟨a,es,ds,fs,h1,h2,h3,h4,h5,h6⟩:=h;exact⟨a,es,ds,fs,h1,h2,h3,h4,h5.2,h6,by have:=h6.length;rw [ar] at this;exact this.symm,h5.1⟩
end
section
variable {X:Cx}{M:List Md}{a b e:Expr}{fa fb:EvE}{ca cb:Cat}{kt:Bool}{u:Ty}{pos:ek}
theorem keysAt(h:∀e∈es,keyOk kt e.1/\Den X.K (cut H F) e.2.1 e.1)(hk:u6 kt k=true)(hd:Den X.K H kv k):KeysAt X H kt es k kv:=
 ⟨fun e he=>⟨(h e he).1,(h e he).2.up i4⟩,F9 hk,hd⟩
def a5M(X:Cx)(neg:Bool):R2:=fun x y H Q=>∃a es kt k,y=.ref a/\H a=some (f8 a es)/\KeysAt X H kt es k x/\Q (.bl (neg != A6 es k)) H
theorem b7x(hu:X.A.units + 64 < cH):OpR X (bp .In) (a5M X false):=by
 intro pins s σ H x y v w Q I rx ry h;obtain⟨a,es,kt,k,rfl,hH,K,q⟩:=h;cases (show w=be a from ry)
 exact b9Q (by lia) I hH K rx fun s' I'=>⟨.bl _,H,I',rfl,by simpa using q⟩
theorem a0U(hu:X.A.units + 64 < cH):OpR X (bp .NotIn) (a5M X true):=by
 intro pins s σ H x y v w Q I rx ry h;obtain⟨a,es,kt,k,rfl,hH,K,q⟩:=h;cases (show w=be a from ry)
 exact b1Q (by lia) I hH K rx fun s' I'=>⟨.bl _,H,I',rfl,by simpa using q⟩
theorem a5N(h:dIn neg kt k d=some r):∃kvs,d=.dict kvs/\u6 kt k=true/\r=.bool (neg != C5 kvs k):=by
 cases d with
 | dict kvs=>
  have h':(if u6 kt k then some (cm (neg != C5 kvs k)) else none)=some r:=h;by_cases c:u6 kt k=true
  ·rw [aE c] at h';exact⟨kvs,rfl,c,(aD h').symm⟩
  ·rw [aO c] at h';cases h'
 | _=>cases h
theorem b4u(ho:OpR X (bp op) (a5M X neg))(ha:PX X M a fa ca)(hb:PX X M b fb (.bor (.d kt u))){Z:List D}(S:StE X.K M Z σ H P F)(e1:Same H H1)(e2:Same H1 H2)
  (r1:ResR X.K ca H H1 F v k) (r2:ResR X.K (.bor (.d kt u)) H1 H2 F w d) (hr:dIn neg kt k d=some r) (q:Q (.bl (match r with|.bool b=>b|_=>false)) H2):a5M X neg v w H2 Q:=by
 obtain⟨kvs,rfl,hk,rfl⟩:=a5N hr;obtain⟨fp,o,_⟩:=r2;obtain⟨p,es,ds,fs,rfl,hH,hd,_,h5,_,hl,_⟩:=o.dict;cases hd
 refine⟨p,es,kt,k,rfl,hH,keysAt h5 hk (r1.den.up e2),?_⟩;rw [<-P3 hl];exact q
theorem b7y(ho:OpR X (bp op) (a5M X neg))(ha:PX X M a fa ca)(hb:PX X M b fb (.bor (.d kt u)))(hm:eR op b=false:=by first|exact a2f _|with_unfolding_all rfl):PTX X M (.Compare a [op] [b] pos) (tB (e2 (dIn neg kt) fa fb)):=by
 obtain⟨ta,pa,qa⟩:=ha.out;obtain⟨tb,pb,qb⟩:=hb.out;refine .mk ⟨_,a1O ho pa pb hm,fun Z σ H P F k Q S hf q=>?_⟩;obtain⟨d,hf,hk⟩:=bnd hf;cases v9 hk
 obtain⟨x,y,h1,h2,h3⟩:=A4 hf;exact qa Z σ H P F x _ S h1 fun v H1 e1 r1=>qb Z σ H1 P F y _ (S.grow e1) h2 fun w H2 e2 r2=>b4u ho ha hb S e1 e2 r1 r2 h3 ⟨k,rfl,q H2 (e1.trans e2)⟩
def c1n(X:Cx)(td ty:TE):TE:=fun σ H Q=>td σ H fun x H1=>ty σ H1 fun y H2=>∃a es kt k,x=.ref a/\H2 a=some (f8 a es)/\KeysAt X H2 kt es k y/\A6 es k=true/\∀e∈es,e.1=k->Q e.2.2 H2
theorem b7z(hu:X.A.units + 64 < cH)(ho:PE X a td)(hi:PE X b ty)(hs:a5J b):PE X (.Subscript a b pos) (c1n X td ty):=by
 intro pins s σ H Q I h;refine b9P oY.lookup hs (L2.thn (ho pins s σ H _ I h) fun u s1 ⟨x,H1,I1,rx,q1⟩=>L2.thn (hi pins s1 σ H1 _ I1 q1) fun iv s2 ⟨y,H2,I2,ry,p,es,kt,k,ex,hH,K,hh,q2⟩=>?_);subst ex;obtain rfl:u=be p:=rx;exact⟨n8 I2 hH,a2y (by lia) I2 hH K ry hh fun e he fS x s3 I3 r3=>⟨e.2.2,H2,I3,r3,q2 e he fS⟩⟩
theorem a9X(h:a4T kt d k=some r):∃kvs,d=.dict kvs/\u6 kt k=true/\G9 kvs k=some r:=by
 cases d with
 | dict kvs=>
  have h':(if u6 kt k then G9 kvs k else none)=some r:=h;by_cases c:u6 kt k=true
  ·rw [aE c] at h';exact⟨kvs,rfl,c,h'⟩
  ·rw [aO c] at h';cases h'
 | _=>cases h
theorem b7A{es:List (D × V × V)}{ds:List D}{e:D × V × V}(h6:ListAll (Own X.K H F u) (es.map (·.2.2)) ds fs)(hl:ds.length=es.length)(hn:(es.map (·.1)).Nodup)(K:KeysAt X H kt es k kv)(he:e∈es)(fS:e.1=k) :
  ∃(j:Nat) (d:D) (f:List av),es[j]?=some e/\ds[j]?=some d/\G9 ((es.map (·.1)).zip ds) k=some d/\Own X.K H F u e.2.2 d f/\∀x∈f,x∈fs:=by
 obtain⟨j,hj⟩:=cG.mp he;have fL:j < ds.length:=by rw [hl];exact (aY.mp hj).1
 obtain⟨w,f,pre,post,z1,z2,z3,_⟩:=h6.at_ (aB fL);rw [bz,hj] at z1;cases z1
 refine⟨j,ds[j],f,hj,aB fL,a2z hl (fun e he=>K.eqv he) hn hj fS (aB fL),z2,fun x hx=>?_⟩;rw [z3];exact aj _ (aq _ hx)
end
end VS
namespace VS
open PySem PySem.Spec L2
section
variable {X:Cx}{M:List Md}{a b e o:Expr}{es:List Expr}{fa fb:EvE}{ca cb:Cat}{kt:Bool}{u:Ty}{pos apos cL:ek}{to:TE}{t:TA}{name:bc}{id:String}{r:V->List V->Hp->VK->Prop}
theorem b7B(hu:X.A.units + 64 < cH)(ha:PX X M a fa (.bor (.d kt u)))(hb:PX X M b fb cb)(hs:a5J b:=by exact fun _ _=>rfl):PX X M (.Subscript a b pos) (e2 (a4T kt) fa fb) (.bor u):=by
 obtain⟨ta,pa,qa⟩:=ha.out;obtain⟨tb,pb,qb⟩:=hb.out;refine .mk ⟨_,b7z hu pa pb hs,fun Z σ H P F d Q S hf q=>?_⟩;obtain⟨x,y,h1,h2,h3⟩:=A4 hf;obtain⟨kvs,rfl,hk,hg⟩:=a9X h3;refine qa Z σ H P F _ _ S h1 fun v H1 e1 ⟨fp,o,sub⟩=>qb Z σ H1 P F y _ (S.grow e1) h2 fun w H2 e2 r2=>?_
 obtain⟨p,es,ds,fs,rfl,hH,hd,rfl,h5,h6,hl,hn⟩:=(o.grow e2).dict;cases hd
 have K:=keysAt (X:=X) h5 hk r2.den;refine⟨p,es,kt,y,rfl,hH,K,by rw [<-P3 hl];exact a5K hg,fun e he fS=>?_⟩;obtain⟨j,d',f,_,_,g',o',s'⟩:=b7A h6 hl hn K he fS;rw [hg] at g';cases g'
 exact q _ H2 (e1.trans e2) ⟨f,o',fun x hx=>sub x (ao _ (s' x hx))⟩
def c1o(r:V->List V->Hp->VK->Prop)(to:TE)(t:TA):TE:=fun σ H Q=>to σ H fun x H1=>(∃p es,x=.ref p/\H1 p=some (f8 p es))/\t σ H1 fun xs H2=>r x xs H2 Q
theorem b1R(slot:Slot "dict" name id)(wM:typeOf (.builtin id)=pure (.type "method_descriptor"))(hm:MtR X id r)(ho:PE X o to)(ha:PA X (e :: es) t)
  (iq:gM o name X.env (bW o X.env)=bW o X.env:=by rfl)
  (jL:((b_ cL (au (e :: es) X.env)).all (fun x=>!x.1) && (mf cL (iO [] X.env)).all (fun x=>x.1.isSome)
   && decide ((e :: es).length + ([]:List gC).length + (if ([]:List gC).isEmpty then 0 else 1) < 30))=true:=by rfl)
  (ip:(apos.endLine == cL.line)=true:=by rfl) (hs:au (e :: es) X.env=(false,bW e X.env) :: au es X.env:=by rfl) (fZ:(b_ cL (au es X.env)).any (·.1)=false:=by rfl) :
  PE X (.Call (.Attribute o name apos) (e :: es) [] cL) (c1o r to t):=by
 intro pins s σ H Q I h;refine z_ iq jL ip rfl (L2.thn (ho pins s σ H _ I h) fun v s1 ⟨x,H1,I1,r1,⟨p,Ef,ex,hH⟩,q1⟩=>?_);subst ex;obtain rfl:v=be p:=r1;refine⟨"dict",id,PySem.F.plainAttrs_dict,slot,wM,n8 I1 hH,a4S I1 hH,?_⟩;have hA:=ha cL pins s1 σ H1 _ I1 q1;rw [hs] at hA ⊢;refine Dv (by show (false || (b_ cL (au es X.env)).any (·.1))=false;rw [fZ] <;> rfl) (iZ ?_);exact L2.thn hA fun us s2 ⟨vs,H2,I2,r2,q2⟩=>hm pins s2 σ H2 (.ref p) vs (.ref p) us Q I2 rfl r2 q2
theorem a5O(h:bL)(hb:dF < h.objs.size):ObjOk P w H (h.push {cls:=.type "dict",data:=.dict #[]}) h.objs.size (f8 h.objs.size []):=
 W1 (eB.mpr (eE (bj hb))) (dq _) br (aR _ rfl) ⟨rfl,rfl,rfl⟩ rfl (fun _=>rfl) .nil
theorem b1S:PE X (.Dict [] [] pos) (fun _ H Q=>∀p,H p=none->Q (.ref p) (upd H p (f8 p []))):=fun pins s σ H Q I h=>
 wpAny_Dict_empty ⟨.ref s.heap.objs.size,_,I.laid (a:=s.heap.objs.size) (o:=f8 s.heap.objs.size []) (t':=s.toks) (fun _ _ q=>aw _ q) (aF _) (a5O s.heap I.sysBelow),rfl,h _ (I.hok.fresh (aF _))⟩
theorem a5P(kt:Bool)(u:Ty):PX X M (.Dict [] [] pos) (eC (.dict [])) (.new (.d kt u)):=by
 refine .mk ⟨_,b1S,fun Z σ H P F d Q S hf q=>?_⟩;cases hf
 intro p hp;refine q _ _ (j9 hp _) ⟨[p],?_,by simp,fun a ha=>by rw [ax.mp ha];exact hp⟩;simp only [Own];exact⟨p,[],[],[],rfl,i0,rfl,rfl,⟨br,fun e he=>(nomatch he)⟩,o8⟩
end
end VS
namespace VS
open PySem PySem.Spec L2
section
variable {K:af}{H:Hp}{F:List av}
theorem StE.dict{Z:List D}(S:StE K M Z σ H P F)(hm:M[i]?=some (.own (.d kt u))) :
  ∃a es ds fs,σ[i]?=some (some (.ref a))/\H a=some (f8 a es)/\Z.getD i .none=.dict ((es.map (·.1)).zip ds)/\(∀e∈es,keyOk kt e.1/\Den K (cut H F) e.2.1 e.1)/\ListAll (Own K H F u) (es.map (·.2.2)) ds fs/\ds.length=es.length/\(es.map (·.1)).Nodup:=by
 obtain⟨v,f,h1,o,_⟩:=S.get hm;obtain⟨a,es,ds,fs,rfl,h2,h3,_,h5,h6,h7,h8⟩:=o.dict;exact⟨a,es,ds,fs,h1,h2,h3,h5,h6,h7,h8⟩
theorem a5Q:∀{es:List (D × V × V)} {j:Nat} {e:D × V × V},(es.map (·.1)).Nodup->(∀e∈es,aI e.1 k=true↔e.1=k)->es[j]?=some e->e.1=k->(es.map fun e=>if aI e.1 k then (e.1,e.2.1,v) else e).map (·.2.2)=(es.map (·.2.2)).set j v
 | [],j,e,_,_,hj,_=>by simp at hj
 | e0 :: es,0,e,hn,kP,hj,fS=>by
  rw [aA,bA] at hn;cases hj
  have iP:es.map (fun e=>if aI e.1 k then (e.1,e.2.1,v) else e)=es:=by
   have:∀e'∈es,(if aI e'.1 k then (e'.1,e'.2.1,v) else e')=e':=fun e' kK=>by
    rw [aO];intro q;exact hn.1 (by rw [fS,<-(kP e' (ao _ kK)).mp q];exact cW kK)
   rw [cF this,sd]
  rw [aA,aE ((kP _ ah).mpr fS),iP];rfl
 | e0 :: es,j + 1,e,hn,kP,hj,fS=>by
  rw [aA,bA] at hn;have zb:es[j]?=some e:=by simpa using hj
  have gy:¬ aI e0.1 k=true:=fun q=>hn.1 (by rw [(kP _ ah).mp q,<-fS];exact cW (bD zb))
  rw [aA,aO gy,aA,aA,iW,a5Q hn.2 (fun e he=>kP e (ao _ he)) zb fS]
theorem Pend.dput{Z:List D}(h:Pend K ([] ++ [.own u]) ([] ++ [d]) ([] ++ [some v]) M Z σ H P F)(hm:M[i]?=some (.own (.d kt u)))(hk:keyOk kt k)(BH:Den K H kv k) :
  ∃a es ds fs,σ[i]?=some (some (.ref a))/\H a=some (f8 a es)/\Z.getD i .none=.dict ((es.map (·.1)).zip ds)/\(∀e∈es,keyOk kt e.1/\Den K (cut H F) e.2.1 e.1)/\ListAll (Own K H F u) (es.map (·.2.2)) ds fs/\ds.length=es.length/\(es.map (·.1)).Nodup/\
   StR K M (Z.set i (.dict (R7 ((es.map (·.1)).zip ds) k d))) σ (upd H a (f8 a (a0T es k kv v))) P F:=by
 obtain⟨_,_,S⟩:=h;obtain⟨G,h1,h2,h3⟩:=S.all;have nN:StAll K H F (.own u :: M) (d :: Z) (some v :: σ) G:=by simpa using h1
 simp only [StAll] at nN;obtain⟨d',Z',o',σ',fv,G2,e1,e2,rfl,⟨v',e3,ov⟩,h5⟩:=nN;cases e1
 cases e2
 cases e3
 obtain⟨dd,oo,f,pre,post,q1,q2,⟨v2,rfl,q3⟩,rfl,q5⟩:=h5.at_ hm;obtain⟨a,es,ds,fs,rfl,r2,r3,rfl,r5,r6,hl,hn⟩:=q3.dict;have sO:a∈F:=h3 a (by simp);have jl:∀o,Same (cut H F) (cut (upd H a o) F):=fun o b o' hb=>by
  obtain⟨n1,n2⟩:=n0 hb;exact i7 n1 (by rw [c9 (show b≠a from fun z=>n1 (z ▸ sO))];exact n2)
 have cnt:∀b,b=a->(pre ++ post).count b=0/\fs.count b=0/\fv.count b=0:=fun b e=>by
  subst e;have:=iw.mp h2 b;simp only [bZ,bO,u_] at this ⊢;exact⟨by lia,by lia,by lia⟩
 have kk:∀(l:List av) (o:HO),(∀b,b=a->l.count b=0)->∀b∈l,upd H a o b=H b:=fun l o hc b hb=>c9 fun z=>by
  have:=hc b z;rw [yi] at this;exact this hb
 have BI:Den K (cut H F) kv k:=BH.imm_out S.lst k (T3 _ hk.1);have kP:∀e∈es,aI e.1 k=true↔e.1=k:=fun e he=>O7 e.1 k (r5 e he).1.1 hk.1
 have fin:∀(gr:List (D × V × V)) (jy:List D) (kL:List av),(gr.map (·.1)).Nodup->(∀e∈gr,keyOk kt e.1/\Den K (cut H F) e.2.1 e.1)->ListAll (Own K (upd H a (f8 a gr)) F u) (gr.map (·.2.2)) jy kL->(∀b,kL.count b<=fs.count b + fv.count b)->
   StR K M (Z.set i (.dict ((gr.map (·.1)).zip jy))) σ (upd H a (f8 a gr)) P F:=fun gr jy kL qC rG ha oz=>by
  have o1:Own K (upd H a (f8 a gr)) F (.d kt u) (.ref a) (.dict ((gr.map (·.1)).zip jy)) (a :: kL):=by
   simp only [Own];exact⟨a,gr,jy,kL,rfl,i0,rfl,rfl,⟨qC,fun e he=>⟨(rG e he).1,(rG e he).2.up (jl _)⟩⟩,ha⟩
  have q:=q5 (upd H a (f8 a gr)) F (.own (.d kt u)) (.dict ((gr.map (·.1)).zip jy)) (some (.ref a)) _ (kk _ _ fun b e=>(cnt b e).1) (jl _) ⟨_,rfl,o1⟩;rw [set_same (l:=σ) q2,set_same (l:=M) hm] at q;refine⟨⟨_,q,a2q h2 fun b=>?_,fun b hb=>?_⟩,fun b hb=>?_,S.prot.trans (jl _)⟩
  ·have:=oz b;simp only [bZ,bO,jY];lia
  ·have hc:0 < (fv ++ (pre ++ (a :: fs ++ post))).count b:=by
    have h0:=iY.mpr hb;have:=oz b;simp only [bZ,bO,jY] at h0 ⊢;lia
   exact h3 b (iY.mp hc)
  ·by_cases e:b=a
   ·subst e;exact⟨⟨f8 b gr,trivial⟩,i0⟩
   ·obtain⟨ys,y⟩:=S.lst b hb;exact⟨ys,by rw [c9 e];exact y⟩
 refine⟨a,es,ds,fs,q2,r2,by rw [y9 q1];exact r3,r5,r6,hl,hn,?_⟩;cases hf:A6 es k with
 | false=>
  rw [a5I hf,a9W (by rw [P3 hl];exact hf),<-a5L (kv:=kv) (v:=v) hl];refine fin (es ++ [(k,kv,v)]) (ds ++ [d]) (fs ++ fv) ?_ ?_ ?_ fun b=>by rw [bZ];exact aF _
  ·rw [bb,bu];refine⟨hn,by simp,fun x hx y hy e=>?_⟩;simp only [aA,cA,ax] at hy;subst hy;subst e;obtain⟨e,he,rfl⟩:=aG.mp hx;unfold A6 at hf;rw [dG] at hf;exact hf e he ((kP e he).mpr rfl)
  ·intro e he;rcases ay.mp he with z|z
   ·exact r5 e z
   ·rw [ax.mp z];exact⟨hk,BI⟩
  ·rw [bb];refine (p6 (jl _) r6 (kk _ _ fun b e=>(cnt b e).2.1)).append ?_;have:=m7 (R:=Own K (upd H a (f8 a (es ++ [(k,kv,v)]))) F u) (ov.frame (jl _) u (kk _ _ fun b e=>(cnt b e).2.2)) o8
   rwa [aZ] at this
 | true=>
  have hh:=hf;unfold A6 at hf;rw [eO] at hf;obtain⟨e,he,fS⟩:=hf;have uy:=(kP e he).mp fS;obtain⟨j,hj⟩:=cG.mp he;have BM:j < ds.length:=by rw [hl];exact (aY.mp hj).1
  have rz:a0T es k kv v=es.map fun e=>if aI e.1 k then (e.1,e.2.1,v) else e:=by unfold a0T;rw [hh];rfl
  have tY:R7 ((es.map (·.1)).zip ds) k d=(es.map (·.1)).zip (ds.set j d):=by
   unfold R7;rw [P3 hl,hh];exact a1u (v:=v) hl kP hn hj uy
  have qE:(a0T es k kv v).map (·.1)=es.map (·.1):=by rw [rz];exact a2x
  rw [tY,<-qE];obtain⟨w3,f3,a1,a2,s1,s2,zG,s4⟩:=r6.zip (aB BM);have tS:(a0T es k kv v).map (·.2.2)=(es.map (·.2.2)).set j v:=by
   rw [rz];exact a5Q hn kP hj uy
  refine fin (a0T es k kv v) (ds.set j d) (a1 ++ (fv ++ a2)) (by rw [qE];exact hn) ?_ ?_ fun b=>by rw [zG];simp only [bZ];lia
  ·intro e' kK;rw [rz] at kK;obtain⟨e0,zh,rfl⟩:=aG.mp kK
   split
   ·exact r5 e0 zh
   ·exact r5 e0 zh
  ·rw [tS];have c5:∀b,b=a->(a1 ++ a2).count b=0:=fun b e=>by have:=(cnt b e).2.1;rw [zG] at this;simp only [bZ] at this ⊢;lia
   exact s4 _ F v d fv (kk _ _ c5) (jl _) (ov.frame (jl _) u (kk _ _ fun b e=>(cnt b e).2.2))
end
end VS
namespace VS
open PySem PySem.Spec L2
def J3(i:Nat)(kt:Bool)(fk fv:EvE):EvS:=fun Z=>(fv Z).bind fun d=>(fk Z).bind fun k=>match Z.getD i .none with
 | .dict kvs=>if u6 kt k && decide (kvs.length < 1000000) then some (.nx (Z.set i (.dict (R7 kvs k d)))) else none
 | _=>none
abbrev EvX:=List D->Option (D × List D)
section
variable {X:Cx}{M M1 ML:List Md}{e k v:Expr}{fk fe fv:EvE}{f:EvX}{ck:Cat}{kt:Bool}{u w:Ty}{pos apos cL ik:ek}
def b9R(X:Cx)(td ty tv:TE):TS:=fun D σ H=>tv σ H fun v H1=>td σ H1 fun x H2=>ty σ H2 fun y H3=>∃a es kt k,x=.ref a/\H3 a=some (f8 a es)/\KeysAt X H3 kt es k y/\es.length < aS/\D.nx σ (upd H3 a (f8 a (a0T es k y v)))
theorem b4v(hu:X.A.units + 64 < cH)(ho:PE X o td)(hi:PE X k ty)(hv:PE X v tv)(hs:ff v (some (.Subscript o k ik)) pos.line X.env=pure false) :
  PS X (.Assign [.Subscript o k ik] v pos) (b9R X td ty tv):=by
 intro pins s σ H D I h;refine wpAny_Assign_Subscript (L2.thn (hv pins s σ H _ I h) fun r s1 ⟨v,H1,I1,rv,q1⟩=>L2.thn (ho pins s1 σ H1 _ I1 q1) fun u s2 ⟨x,H2,I2,rx,q2⟩=>L2.thn (hi pins s2 σ H2 _ I2 q2) fun iv s3 ⟨y,H3,I3,ry,a,es,kt,k,ex,hH,K,hl,q3⟩=>?_) hs;subst ex;obtain rfl:u=be a:=rx;exact a7w (by lia) I3 hH K ry rv hl fun s4 I4=>⟨σ,_,I4,q3⟩
theorem a4U(i:Nat)(hu:X.A.units + 64 < cH)(hk:PX X M1 k fk ck)(hv:PMX X M v fv u M1)(hN:X.N[i]?=some x:=by rfl)(sA:Vis X.env.scope x:=by first|exact cf rfl|exact bR (cf rfl)|exact bR (bR rfl))(hd:(x == ("__debug__":bc))=false:=by decide)
  (gJ:(x == ("__classdict__":bc))=false:=by decide) (hm:M1[i]?=some (.own (.d kt u)):=by rfl) (hs:ff v (some (.Subscript (.Name x px) k ik)) pos.line X.env=pure false:=by rfl) :
  PSX X w ML M (.Assign [.Subscript (.Name x px) k ik] v pos) (J3 i kt fk fv) M1:=by
 obtain⟨tv,pv,qv⟩:=hv;obtain⟨tk,pk,qk⟩:=hk.out;refine .mk ⟨_,b4v hu (C8 hN sA hd gJ) pk pv hs,fun D Z σ H P F o S hg kk=>?_⟩;obtain⟨d,h1,g1⟩:=bnd hg;obtain⟨y,h2,g2⟩:=bnd g1;refine qv [] [] [] Z σ H P F d _ S.pend h1 fun v1 H1 F1 e1 S1=>?_
 obtain⟨a,es,ds,fs,ha,hH,hZ,_⟩:=S1.e.dict hm;rw [hZ] at g2;have vP:(if (u6 kt y && decide (((es.map (·.1)).zip ds).length < 1000000))=true then some (Out.nx (Z.set i (.dict (R7 ((es.map (·.1)).zip ds) y d)))) else none)=some o:=g2;by_cases c:(u6 kt y && decide (((es.map (·.1)).zip ds).length < 1000000))=true
 ·rw [aE c] at vP;cases vP
  rw [az] at c;refine⟨_,ha,qk Z σ H1 P F1 y _ S1.e h2 fun kv H2 e2 r2=>?_⟩;obtain⟨a',gr,jy,kL,oV,CF,uL,hK,_,qD,_,S3⟩:=(S1.grow e2).dput hm (F9 c.1) r2.den;rw [ha] at oV;cases oV
  rw [hZ] at uL
  injection uL with uL
  refine⟨a,gr,kt,y,rfl,CF,keysAt hK c.1 r2.den,?_,kk σ _ F1 (by rw [uL];exact S3)⟩;have hlen:((gr.map (·.1)).zip jy).length=gr.length:=by rw [nG,ar,qD,rY]
  rw [<-hlen,<-uL];exact jR (bC c.2) (by rw [dv];decide)
 ·rw [aO c] at vP;cases vP
end
end VS
namespace VS
open PySem PySem.Spec L2
def intsOf:List D->Option (List Int)
 | []=>some []
 | .int i :: r=>(intsOf r).map (i :: ·)
 | _=>none
theorem U0:∀{ds:List D} {is:List Int},intsOf ds=some is->ds=is.map .int
 | [],is,h=>by cases h;rfl
 | .int i :: r,is,h=>by
  obtain⟨js,h1,rfl⟩:=bY.mp (show (intsOf r).map (i :: ·)=some is from h);rw [aA,<-U0 h1]
 | .none :: _,_,h|.bool _ :: _,_,h|.str _ :: _,_,h|.list _ :: _,_,h|.tuple _ :: _,_,h|.dict _ :: _,_,h=>nomatch h
theorem a2A(is:List Int):intsOf (is.map .int)=some is:=by
 induction is with
 | nil=>rfl
 | cons i is ih=>show (intsOf (is.map .int)).map (i :: ·)=_;rw [ih];rfl
end VS
namespace VS
open PySem PySem.Spec L2
theorem b4w{X:Cx}{pins:List (av × eD)}{σ:L2.St}{H:Hp}{s:ak}{h':bL}{t':Nat}{ch:List av}{T:av}{xs:List V}(I:Inv X pins σ H s)(k:∀b o,b∉ch->s.heap.get? b=some o->h'.get? b=some o)
  (hf:∀b∈ch,a3v X pins H b) (hT:s.heap.objs.size<=T) (new:ObjOk X.prog X.w (upd H T (.tup xs)) h' T (.tup xs)):Inv X pins σ (upd H T (.tup xs)) {s with heap:=h',toks:=t'}:=by
 have hn:H T=none:=I.hok.fresh hT;have neT:∀b o,s.heap.get? b=some o->b≠T:=fun b o e z=>absurd (aW (aN e) (by rw [z];exact hT)) (cE _)
 have nX:∀b u,H b=some u->b∉ch:=fun b u e hb=>by rw [(hf b hb).1] at e;cases e
 refine I.step (g':=s.gens) (d':=s.drawn) (ch:=ch) (fun b hb=>⟨(hf b hb).2.2.2.1,(hf b hb).2.1,(hf b hb).2.2.2.2.1,(hf b hb).2.2.2.2.2⟩) (fun b o _ _ hc e _=>k b o hc e) (fun b o _ _ hc e _=>⟨o.slots,k b o hc e⟩) (fun b o _ e n=>by rw [c9 (neT b o e)];exact n)
  (fun b o hc e=>⟨o,k b o hc e⟩) (fun b ys e=>by rw [c9 (m8 e hn)];exact e) (fun b o u e=>by rw [c9 (m8 e hn)];exact e) (fun b ps e=>⟨#[],by rw [c9 (m8 e hn),e];simp⟩) (fun m hm=>?_) (fun b u e=>?_) I.bare
 ·obtain⟨o,es,ep,ho,r⟩:=hm;exact⟨o,es,ep,k _ o (fun hb=>(hf _ hb).2.1 rfl) ho,r⟩
 ·by_cases hb:b=T
  ·subst hb;rw [i0] at e;cases e;exact new
  ·rw [c9 hb] at e;refine (I.hok b u e).stay (fun c v hc q=>k c v ?_ q) (fun c q=>by rw [c9 (m8 q hn)];exact q) fun c ys q=>by rw [c9 (m8 q hn)];exact q
   rcases hc with z|z
   ·rw [z];exact nX b u e
   ·exact nX c _ z
theorem b4x{X:Cx}{pins:List (av × eD)}{σ:L2.St}{H:Hp}{s:ak}{h':bL}{t':Nat}{ch:List av}(I:Inv X pins σ H s)(k:∀b o,b∉ch->s.heap.get? b=some o->h'.get? b=some o)
  (hf:∀b∈ch,a3v X pins H b):Inv X pins σ H {s with heap:=h',toks:=t'}:=by
 have nX:∀b u,H b=some u->b∉ch:=fun b u e hb=>by rw [(hf b hb).1] at e;cases e
 refine I.step (g':=s.gens) (d':=s.drawn) (ch:=ch) (fun b hb=>⟨(hf b hb).2.2.2.1,(hf b hb).2.1,(hf b hb).2.2.2.2.1,(hf b hb).2.2.2.2.2⟩) (fun b o _ _ hc e _=>k b o hc e) (fun b o _ _ hc e _=>⟨o.slots,k b o hc e⟩) (fun b o _ e n=>n)
  (fun b o hc e=>⟨o,k b o hc e⟩) (fun b ys e=>e) (fun b o u e=>e) (fun b ps e=>⟨#[],by rw [e];simp⟩) (fun m hm=>?_) (fun b u e=>?_) I.bare
 ·obtain⟨o,es,ep,ho,r⟩:=hm;exact⟨o,es,ep,k _ o (fun hb=>(hf _ hb).2.1 rfl) ho,r⟩
 ·refine (I.hok b u e).stay (fun c v hc q=>k c v ?_ q) (fun c q=>q) fun c ys q=>q
  rcases hc with z|z
  ·rw [z];exact nX b u e
  ·exact nX c _ z
def Ite(K:af)(a:av):It:=
 ⟨fun i H=>∃xs x,SqL K H a xs/\xs[i]?=some x,fun i H x H'=>∃T y,H T=none/\H'=upd H T (.tup [.int i,y])/\x=.ref T/\∀xs,SqL K H a xs->xs[i]?=some y,fun i H=>∃xs,SqL K H a xs/\xs.length<=i⟩
theorem a9Y{P:bh}{w:bE}{K:af}{elts:List Expr}{kk:Nat}{ik:ek}(a e it:av)(BW:e≠it):Turn P w K (.Tuple elts kk ik) (Ite K a) [e,it] e (fun i h=>(∃old,IsEnum h e it i old)/\h.IsListIter it a i) where
 mem:=by simp
 obj:=fun i h st b hb=>by
  obtain⟨⟨old,he⟩,o,eo,c,d⟩:=st;rcases aH.mp hb with rfl|hb
  ·exact⟨_,he,fun v z=>by cases z⟩
  ·cases ax.mp hb
   exact⟨o,eo,fun v z=>by rw [d] at z;cases z⟩
 keep:=fun i h h' st k=>by
  obtain⟨⟨old,he⟩,hit⟩:=st;exact⟨⟨old,k e (by simp) _ he⟩,hit.at fun o x=>k it (by simp) o x⟩
 item:=by
  intro X hP hw hK hc i pins s σ H E I hf st hg;subst hP hw hK;obtain⟨xs,x,hq,hx⟩:=hg;obtain⟨bU,rv,p,hz⟩:=I.list hq;obtain⟨u,hu,ru⟩:=rv.get hx;obtain⟨⟨old,he⟩,hit⟩:=st;have hle:a≠e:=fun z=>by
   obtain⟨o,eo,c,_⟩:=p.isList;rw [z,he] at eo;cases eo
   exact absurd (show eU "enumerate"=eU "list" from c) (by decide)
  have vA:a≠it:=fun z=>by
   obtain⟨o,eo,c,_⟩:=p.isList;obtain⟨o2,CT,c2,_⟩:=hit;rw [z,CT] at eo;cases eo
   rw [c2] at c;exact absurd c (by decide)
  have W:=WalksT.enumerate (prog:=X.prog) (w:=X.w) (A:=X.A) (I.ok.hd hc) e it a BW hle vA bU.toArray;have mV:i < bU.toArray.size:=by
   have:=(aY.mp hu).1;simpa using this
  refine W.item i s _ E mV ⟨⟨old,he⟩,hit,p.isList⟩ fun T vals h' tk hP hT wN uQ hk=>⟨.ref T,rfl,W.go elts kk ik i T {s with heap:=h',toks:=tk} _ E uQ fun h2 tW y_=>?_⟩
  obtain⟨t,y,hy,rfl⟩:=hP;have ey:y=u:=by
   have h1:bU[i]?=some y:=by simpa using hy
   rw [hu] at h1;exact (aD h1).symm
  subst ey;have uM:=W.apart i T h' uQ;obtain⟨oT,eT,cT⟩:=wN;have hn:H T=none:=I.hok.fresh hT;have new:ObjOk X.prog X.w (upd H T (.tup [.int i,x])) h2 T (.tup [.int i,x]):=by
   refine⟨by rw [dv];show 2<=_;decide,[.int i t,y],?_,oT,y_ T oT uM eT,cT⟩;exact .cons ⟨t,rfl⟩ (.cons ru .nil)
  refine⟨.ref T,upd H T (.tup [.int i,x]),b4w (s:=s) (t':=tk) I (fun b o hb q=>y_ b o hb (hk b o hb q)) hf hT new,rfl,⟨T,x,hn,rfl,rfl,fun ys AM=>by rw [I.list_inj AM hq];exact hx⟩,⟨tW.1,tW.2.1⟩,fun b hb=>?_⟩;rw [c9 (fun z=>uM (by rw [<-z];exact hb))];exact (hf b hb).1
 done:=by
  intro X hP hw hK hc i pins s σ H E I hf st hg;subst hP hw hK;obtain⟨xs,hq,hx⟩:=hg;obtain⟨bU,rv,p,hz⟩:=I.list hq;have hl:=rv.length;obtain⟨⟨old,he⟩,hit⟩:=st;exact wpAny_pyNext_enum_end (I.ok.hd hc) he hit p.isList (dU (by simp;lia)) fun h' hx=>⟨rfl,b4x (t':=s.toks) I (fun b o hb y=>hx b o (fun z=>hb (by simp [z])) y) hf⟩
 self:=fun _ _ _ _ _ st h=>by
  obtain⟨⟨old,he⟩,_⟩:=st;exact wpAny_pyIter_enum he h
end VS
namespace VS
open PySem PySem.Spec L2
def E9:List D->Nat->List D
 | [],_=>[]
 | d :: ds,k=>.tuple [.int k,d] :: E9 ds (k + 1)
def iEn(a:EvE):EvA:=fun Z=>(a Z).bind fun d=>(asL d).bind fun ds=>some (E9 ds 0)
theorem a2B:∀(ds:List D) (k:Nat),(E9 ds k).length=ds.length
 | [],_=>rfl
 | d :: ds,k=>by show (E9 ds (k + 1)).length + 1=_;rw [a2B ds];rfl
theorem a2C:∀(ds:List D) (k i:Nat) (d:D),ds[i]?=some d->(E9 ds k)[i]?=some (.tuple [.int ((k + i:Nat):Int),d])
 | [],_,i,d,h=>by simp at h
 | d0 :: ds,k,0,d,h=>by
  have:d0=d:=by simpa using h
  subst this;rfl
 | d0 :: ds,k,i + 1,d,h=>by
  have:=a2C ds (k + 1) i d (by simpa using h);show (E9 ds (k + 1))[i]?=_;rw [this,ig,rZ 1]
section
variable {X:Cx}{M ML:List Md}{a e iter:Expr}{elts:List Expr}{kk:Nat}{ik pos p:ek}{fa:EvE}{ca:Cat}{u:Ty}{body:List fT}{g:EvS}
def c1p(K:af)(ta:TA):TI:=fun σ H R=>ta σ H fun vs H1=>∃a xs,vs=[.ref a]/\SqL K H1 a xs/\R (Ite K a) H1
open PyProof.Rows in
theorem b4y(hg:Gl X "enumerate")(hm:X.mg "enumerate"=none)(ha:PA X [a] ta)(hs:au [a] X.env=[(false,bW a X.env)]:=by rfl):PI X (.Tuple elts kk ik) (.Call (.Name "enumerate" p) [a] [] pos) (c1p X.K ta):=by
 intro pins s σ H R I h;refine Call_ (a0G I hg hm PyProof.Rows.Boot.«enumerate» (fF (L2.thn (ha pos pins s σ H _ I h) fun us s1 ⟨vs,H1,I1,r1,q1⟩=>?_) hs rfl));obtain⟨l,xs,e,hq,q⟩:=q1;subst e;cases r1 with
 | cons r rr=>
  cases rr
  cases (show _=be l from r)
  obtain⟨bU,rv,pl,hz⟩:=I1.list hq;refine call_enumerate_list pl.isList fun h' he hit je hk=>?_
  refine wpAny_pyIter_enum he ?_;refine⟨s1.heap.objs.size + 1,[s1.heap.objs.size + 1,s1.heap.objs.size],_,_,H1,rfl,I1.kept (t':=s1.toks) hk,a9Y l _ _ (Nat.succ_ne_self _),⟨⟨_,he⟩,hit⟩,fun b hb=>?_,q⟩;have kq:s1.heap.objs.size<=b:=by
   rcases aH.mp hb with z|z
   ·rw [z];exact gE _
   ·rw [ax.mp z];exact aF _
  exact I1.fpOk kq (I1.hok.fresh kq)
def b9S(X:Cx)(M:List Md)(tg iter:Expr)(f:EvE):Prop:=
 ∃wi,PI X tg iter wi/\∀(Z:List D) (σ:L2.St) (H P:Hp) (F:List av) (ds:List D) (R:It->Hp->Prop),StE X.K M Z σ H P F->f Z=some (.list ds)->
  (∀a xs H1,Same H H1->(∀H2,Same (cut H1 F) H2->SqL X.K H2 a xs)->DenAll X.K (cut H1 F) xs ds->R (Ite X.K a) H1)->wi σ H R
theorem b9T(hm:X.mg "enumerate"=none)(h:PX X M a fa ca)(hc:frozen ca:=by trivial)(hg:Gl X "enumerate":=by rfl)(he:au [a] X.env=[(false,bW a X.env)]:=by rfl)(lj:au [a] X.env=(false,bW a X.env) :: au [] X.env:=by rfl) :
  b9S X M (.Tuple elts kk ik) (.Call (.Name "enumerate" p) [a] [] pos) fa:=by
 obtain⟨t,p,q⟩:=h.out;refine⟨_,b4y hg hm (k9 p o7 lj) he,fun Z σ H P F ds R S hf k=>?_⟩;refine q Z σ H P F _ _ S hf fun v H1 e1 r1=>?_
 obtain⟨aa,xs,rfl,k1,k2⟩:=(J6 hc r1).list_inv;exact⟨aa,xs,rfl,(T4 k1 i4).l,k _ xs H1 e1 (fun H2 e2=>(T4 k1 e2).l) k2⟩
theorem b1T{Z ps:List D}(h:iI f Z=some ps):f Z=some ps:=by
 obtain⟨ds,h1,g1⟩:=bnd h;by_cases c:e6 ds=true
 ·have:(if e6 ds=true then some ds else none)=some ps:=g1;rw [aE c] at this;rw [h1,this]
 ·have:(if e6 ds=true then some ds else none)=some ps:=g1;rw [aO c] at this;cases this
theorem a8H{set:List D->D->Option (List D)}{m:D->Prop}(hc:X.calm=true)(hp:qm (aU X.prog X.w) X.A X.env X.xe)(hi:b9S X M tg iter fa)(hg:PG X tg gt)(hs:b1C X.K M MB gt set m)(hm:∀Z ds,fi Z=some ds->∀d∈ds,m d)(xx:∀{Z ps},fi Z=some ps->iEn fa Z=some ps)(hb:PSsX X u M MB body g M)
  (hf:∀x,eF iter X.env x=pure x:=by intro _;rfl):PSX X u ML M (.For tg iter body [] pos) (B4 fi set g) M:=by
 obtain⟨wi,pi,qi⟩:=hi;obtain⟨tb,pb,qb⟩:=hb.out;refine .mk ⟨_,b1f hp hc pi hg pb hf,fun D Z σ H P F o S oq k=>?_⟩;obtain⟨ps,h1,g1⟩:=bnd oq;obtain⟨d0,h2,g2⟩:=bnd (xx h1);obtain⟨ds,h3,g3⟩:=bnd g2;cases K9 h3
 have tZ:E9 ds 0=ps:=aD g3;refine qi Z σ H P F ds _ S.toE h2 fun a xs H1 e1 sE hx=>?_
 have S1:=S.grow e1;have rd:=hx.length;have fD:ps.length=ds.length:=by rw [<-tZ,a2B]
 refine⟨fun i n σ' H'=>n=xs.length - i/\i<=xs.length/\∃Z' F',StR X.K M Z' σ' H' (cut H1 F) F'/\Q2 set g (ps.drop i) Z'=some o,⟨xs.length,by simp,dq _,Z,F,⟨S1.all,S1.lst,Same.refl _⟩,g1⟩,?_⟩;rintro i n σ' H' ⟨rfl,hi,Z',F',S',hfl⟩;have lV:Same (cut H1 F) (cut H' F'):=S'.prot;have q:=sE H' (lV.trans i4);by_cases fL:i < xs.length
 ·refine .inr ⟨⟨xs,xs[i],q,aB fL⟩,fun σ2 H2=>∃Z2 F2,StR X.K M Z2 σ2 H2 (cut H1 F) F2/\Q2 set g (ps.drop (i + 1)) Z2=some o,fun σ2 H2 ⟨Z2,F2,S2,h2⟩=>⟨xs.length - (i + 1),by lia,rfl,fL,Z2,F2,S2,h2⟩,fun x H2 hy=>?_⟩;obtain⟨T,y,hT,rfl,rfl,sx⟩:=hy;have qz:=sx xs q;have mV:i < ps.length:=by lia
  have lZ:ps.drop i=ps[i] :: ps.drop (i + 1):=cU mV;rw [lZ] at hfl;obtain⟨Z1,vq,g4⟩:=bnd (show (set Z' ps[i]).bind _=some o from hfl);obtain⟨o1,uu,g5⟩:=bnd g4;obtain⟨d',ox,uz⟩:=(hx.up lV).getV qz;have qA:ps[i]=.tuple [.int (i:Nat),d']:=by
   have:=a2C ds 0 i d' ox;rw [tZ,aB mV,rW] at this;exact aD this
  have qM:Same H' (upd H' T (.tup [.int i,y])):=j9 hT _;have S2:=S'.grow qM;have Ct:T∉F':=fun z=>by
   obtain⟨ys,e⟩:=S'.lst T z;rw [hT] at e;cases e
  have nv:Den X.K (cut (upd H' T (.tup [.int i,y])) F') (.ref T) (.tuple [.int (i:Nat),d']):=by
   have oD:Same (cut H' F') (cut (upd H' T (.tup [.int i,y])) F'):=K6 qM;have hd2:=uz.up oD;have uI:cut (upd H' T (.tup [.int i,y])) F' T=some (.tup [.int i,y]):=i7 Ct i0;simp only [Den];exact⟨T,[.int i,y],rfl,SqT.of uI,denAll_cons den_int (denAll_cons hd2 denAll_nil)⟩
  rw [qA] at vq;refine hs Z' σ' _ (cut H1 F) F' (.ref T) _ Z1 _ S2 nv (hm Z ps h1 _ (by rw [<-qA];exact cQ mV)) vq fun σ3 F3 S3=>qb _ Z1 σ3 _ (cut H1 F) F3 o1 S3 uu ?_
  cases o1 with
  | nx Z2=>exact fun σ4 H4 F4 S4=>⟨Z2,F4,S4,g5⟩
  | ct Z2=>exact fun σ4 H4 F4 S4=>⟨Z2,F4,S4,g5⟩
  | bk Z2=>
   have:o=.nx Z2:=(aD g5).symm;subst this;exact fun σ4 H4 F4 S4=>k σ4 H4 F4 ⟨S4.all,S4.lst,S1.prot.trans S4.prot⟩
  | rt d=>
   have:o=.rt d:=(aD g5).symm;subst this;refine fun v H4 fp o nd fr e=>k v H4 fp o nd (fun a ha=>?_) (S1.prot.trans e)
   exact S1.prot.free (fr a ha)
 ·have e:i=xs.length:=by lia
  subst e;rw [rd,<-fD,jI] at hfl;have:o=.nx Z':=(aD hfl).symm;subst this;exact .inl ⟨⟨xs,q,aF _⟩,k σ' H' F' ⟨S'.all,S'.lst,S1.prot.trans S'.prot⟩⟩
end
end VS
namespace VS
open PySem PySem.Spec L2
def insI(n:Int):List Int->List Int
 | []=>[n]
 | m :: ms=>if n<=m then n :: m :: ms else m :: insI n ms
def srt:List Int->List Int
 | []=>[]
 | n :: ns=>insI n (srt ns)
theorem insI_perm(n:Int):∀ms,(insI n ms).Perm (n :: ms)
 | []=>gT _
 | m :: ms=>by
  unfold insI;by_cases c:n<=m
  ·rw [aE c]
  ·rw [aO c];exact ((insI_perm n ms).cons m).trans (List.Perm.swap n m ms)
theorem P4:∀ns,(srt ns).Perm ns
 | []=>gT _
 | n :: ns=>(insI_perm n (srt ns)).trans ((P4 ns).cons n)
theorem a1v(n:Int):∀ms:List Int,ms.Pairwise (·<=·)->(insI n ms).Pairwise (·<=·)
 | [],_=>eM ..
 | m :: ms,h=>by
  unfold insI;obtain⟨h1,h2⟩:=cy.mp h;by_cases c:n<=m
  ·rw [aE c];refine cy.mpr ⟨fun x hx=>?_,h⟩;rcases aH.mp hx with z|z
   ·rw [z];exact c
   ·have:=h1 x z;lia
  ·rw [aO c];refine cy.mpr ⟨fun x hx=>?_,a1v n ms h2⟩;rcases aH.mp ((insI_perm n ms).mem_iff.mp hx) with z|z
   ·lia
   ·exact h1 x z
theorem Y9:∀ns:List Int,(srt ns).Pairwise (·<=·)
 | []=>gU
 | n :: ns=>a1v n _ (Y9 ns)
theorem b1U{a b:List Int}(hp:a.Perm b)(ha:a.Pairwise (·<=·)):a=srt b:=
 List.Perm.eq_of_pairwise (fun x y _ _ h1 h2=>Int.le_antisymm h1 h2) ha (Y9 b) (hp.trans (P4 b).symm)
theorem vals_ints:∀{vs:List ai} {ns:List Int},uW vs ns->Vals (ns.map V.int) vs
 | _,_,.nil=>.nil
 | _,_,.cons n t r=>.cons ⟨t,rfl⟩ (vals_ints r)
theorem a0V:∀{ns:List Int} {vs:List ai},Vals (ns.map V.int) vs->uW vs ns
 | [],vs,h=>by
  have h':Vals [] vs:=h;cases h'
  exact .nil
 | n :: ns,vs,h=>by
  have h':Vals (V.int n :: ns.map V.int) vs:=h;cases h' with
  | cons r rr=>
   obtain⟨t,rfl⟩:=r;exact .cons n t (a0V rr)
theorem b9U:∀ns:List Int,e6 (ns.map bt)=true
 | []=>by simp only [cA,e6]
 | n :: ns=>by simp only [aA,e6,imm,b9U ns,eA]
end VS
namespace VS
open PySem PySem.Spec L2
def dis(ns:List Int):List Int:=kj (fun i=>ns.getD i 0) ns.length
section
variable {X:Cx}{M:List Md}{a:Expr}{fa:EvE}{ca:Cat}{pos jc p p2:ek}
theorem a9Z(hc:X.calm=true):CallR X (.type "set") (fun xs H Q=>∃(p:av) (ns:List Int),xs=[.ref p]/\SqX X.K H p (ns.map V.int)/\ns.length < 4000/\∀z S,H z=none->Q (.ref z) (upd H z (.set S (dis ns).length))):=by
 intro pins s σ H xs us Q I rv h;obtain⟨p,ns,rfl,hp,hn,q⟩:=h;obtain⟨u,rfl,rx⟩:=vals1 rv;cases (show u=be p from rx)
 obtain⟨_,bU,n,tE,ho⟩:=hp.ok I;have hl:s.heap.IsList p bU.toArray:=⟨_,ho,rfl,n,rfl⟩;have hlen:bU.length=ns.length:=by have:=tE.length;rw [ar] at this;exact this.symm
 refine call_set_list (ns:=ns) (I.ok.hd hc) hl (by simpa using a0V tE) (by rw [aT,hlen];unfold gx;lia) fun h' tk hS hk=>?_
 have mD:H s.heap.objs.size=none:=I.hok.fresh (aF _);have je:bU.toArray.size=ns.length:=by rw [aT];exact hlen
 rw [je] at hS;exact⟨.ref s.heap.objs.size,_,I.laid (a:=s.heap.objs.size) (o:=.set _ (dis ns).length) (t':=tk) (fun b u hb=>hk b u (aN hb) hb) (aF _) hS,rfl,q _ _ mD⟩
theorem b0a:CallR X (.builtin "len") (fun xs H Q=>∃p S n,xs=[V.ref p]/\H p=some (.set S n)/\Q (.int n) H):=by
 intro pins s σ H xs us Q I rv h;obtain⟨p,S,n,rfl,hH,q⟩:=h;obtain⟨w,rfl,tD⟩:=rv.one;cases (show w=be p from tD)
 obtain⟨o,es,ep,t,ho,hex,hd,_,_,hb,hf,hn⟩:=(show s.heap.SetOf (fW X.prog X.w) p S n from I.hok p _ hH);subst hn;exact call_len_set ho hex hd hf (by unfold gx at hb;lia) ⟨.int es.size,H,I.tok _,⟨_,rfl⟩,q⟩
def a1U(a:EvE):EvE:=fun Z=>(a Z).bind fun d=>(asL d).bind fun ds=>(intsOf ds).bind fun ns=>if ns.length < 4000 then some (.int (dis ns).length) else none
theorem b0b(hc:X.calm=true)(hm:X.mg "set"=none)(xf:X.mg "len"=none)(ha:PX X M a fa ca)(hg:Gl X "set":=by rfl)(xt:Gl X "len":=by rfl)(he:au [a] X.env=(false,bW a X.env) :: au [] X.env:=by rfl)(fD:(b_ jc (au [] X.env)).any (·.1)=false:=by rfl)
  (lj:au [.Call (.Name "set" p2) [a] [] jc] X.env=(false,bW (.Call (.Name "set" p2) [a] [] jc) X.env) :: au [] X.env:=by rfl) (n_:(b_ pos (au [] X.env)).any (·.1)=false:=by rfl) :
  PX X M (.Call (.Name "len" p) [.Call (.Name "set" p2) [a] [] jc] [] pos) (a1U fa) (.new .i):=by
 obtain⟨ta,pa,qa⟩:=ha.out;refine .mk ⟨_,T0 b0a xt xf PySem.boot_len (k9 (E5 (a9Z hc) hg hm PyProof.Rows.Boot.«set» (k9 pa o7 he) (by decide) (by decide) he fD) o7 lj) (by decide) (by decide) lj n_,fun Z σ H P F d Q S hf q=>?_⟩;obtain⟨x,h1,g1⟩:=bnd hf;obtain⟨ds,h2,g2⟩:=bnd g1;obtain⟨ns,h3,g3⟩:=bnd g2;cases K9 h2
 cases U0 h3
 by_cases c:ns.length < 4000
 ·rw [aE c] at g3;cases g3
  refine qa Z σ H P F _ _ S h1 fun v H1 e1 r1=>?_
  obtain⟨pp,xs,rfl,k1,k2⟩:=r1.den.list_inv;have tP:∀{ns:List Int} {xs:List V},DenAll X.K H1 xs (ns.map .int)->xs=ns.map V.int:=by
   intro ns
   induction ns with
   | nil=>intro xs h;exact h.nil_inv
   | cons n ns ih=>
    intro xs h;obtain⟨v,r,rfl,h1,h2⟩:=h.cons_inv;rw [h1.int_inv,ih h2];rfl
  cases tP k2
  refine⟨pp,ns,rfl,k1,c,fun z S' hz=>⟨z,S',_,rfl,i0,?_⟩⟩;exact q _ _ (e1.trans (j9 hz _)) (K7 (by simp only [imm]) den_int (S.lst' (e1.trans (j9 hz _))))
 ·rw [aO c] at g3;cases g3
end
end VS
namespace VS
open PySem PySem.Spec L2
def eD1(kt:Bool)(fk fv:EvE):EvE:=fun Z=>(fk Z).bind fun k=>(fv Z).bind fun d=>if u6 kt k then some (.dict [(k,d)]) else none
section
variable {X:Cx}{M:List Md}{k v:Expr}{fk fv:EvE}{ck:Cat}{kt:Bool}{u:Ty}{pos:ek}
theorem b0c(hu:X.A.units + 64 < cH)(hk:PE X k tk)(hv:PE X v tv):PE X (.Dict [some k] [v] pos) (fun σ H Q=>∀p,H p=none->tk σ (upd H p (f8 p [])) fun kv H1=>tv σ H1 fun vv H2=>∃kt kd,H2 p=some (f8 p [])/\KeysAt X H2 kt [] kd kv/\Q (.ref p) (upd H2 p (f8 p [(kd,kv,vv)]))):=by
 intro pins s σ H Q I h;have I1:=I.laid (a:=s.heap.objs.size) (o:=f8 s.heap.objs.size []) (t':=s.toks) (fun _ _ q=>aw _ q) (aF _) (a9U s.heap I.sysBelow);rw [arm_eval_Dict,zip_pairTrees [some k] [v] X.env pos rfl rfl,dictDisplay_pairs (pairTrees [some k] [v] X.env pos) (by simp [pairTrees]) (by rw [pairTrees_length _ _ _ _ rfl rfl];simp)];refine ae (mP (ae ?_));unfold subDict;refine ae (wpAny_alloc ?_);refine ae (bI ?_);rw [aE (by rw [pairTrees_length _ _ _ _ rfl rfl];simp)];refine ae ?_;refine pairTrees_cons_walk (L2.thn (hk pins _ σ _ _ I1 (h _ (I.hok.fresh (aF _)))) fun kv s2 ⟨x,H1,I2,rx,q⟩=>L2.thn (hv pins s2 σ H1 _ I2 q) fun vv s3 ⟨y,H2,I3,ry,kt,kd,e,K,q4⟩=>?_);refine pairTrees_nil_walk ?_;refine bI ?_;refine ae ?_;rw [jX];refine ae (ae (set_dict I3 (by lia) e K rx ry (by rw [dv];decide) fun s' I'=>ag ?_));show aM _ _ (forIn ([]:List (ai × ai)) iV _) _ _ _;rw [kF];exact ag (ag (ag (ag ⟨.ref _,_,I',rfl,q4⟩)))
theorem b1V(hu:X.A.units + 64 < cH)(hk:PX X M k fk ck)(hv:PX X M v fv (.new u)):PX X M (.Dict [some k] [v] pos) (eD1 kt fk fv) (.new (.d kt u)):=by
 obtain⟨tk,pk,qk⟩:=hk.out;obtain⟨tv,pv,qv⟩:=hv.out;refine .mk ⟨_,b0c hu pk pv,fun Z σ H P F d Q S hf q=>?_⟩;obtain⟨kd,h1,g1⟩:=bnd hf;obtain⟨vd,h2,g2⟩:=bnd g1;by_cases c:u6 kt kd=true
 ·rw [aE c] at g2;cases g2
  intro p hp;have s0:=j9 hp (f8 p []);have S0:StE X.K M Z σ (upd H p (f8 p [])) P ([p] ++ F):=S.more s0 (fun a ha=>by rw [ax.mp ha];exact hp) fun a ha=>by rw [ax.mp ha];exact⟨⟨f8 p [],trivial⟩,i0⟩
  refine qk Z σ _ P ([p] ++ F) kd _ S0 h1 fun kv H1 s1 r1=>qv Z σ H1 P ([p] ++ F) vd _ (S0.grow s1) h2 fun vv H2 s2 ⟨fp,o,hn,mD⟩=>?_
  have vt:H2 p=some (f8 p []):=(s1.trans s2) _ _ i0;have t_:∀a∈fp,a≠p:=fun a ha z=>by
   have:=mD a ha;rw [z,s1 _ _ i0] at this;cases this
  have hF:∀a∈(p :: fp) ++ F,∃ys:MuO,upd H2 p (f8 p [(kd,kv,vv)]) a=some ys.1:=fun a ha=>by
   by_cases e:a=p
   ·subst e;exact⟨⟨f8 a _,trivial⟩,i0⟩
   ·rw [c9 e];rcases ay.mp ha with z|z
    ·rcases aH.mp z with z|z
     ·exact absurd z e
     ·exact o.lst u a z
    ·exact ((S0.grow s1).grow s2).lst a (aj _ z)
  have hc:Same (cut H2 (fp ++ ([p] ++ F))) (cut (upd H2 p (f8 p [(kd,kv,vv)])) ((p :: fp) ++ F)):=fun a x hx=>by
   obtain⟨n1,n2⟩:=n0 hx;have vL:a≠p:=fun z=>n1 (by rw [z];simp)
   refine i7 (fun z=>n1 ?_) (by rw [c9 vL];exact n2);rcases ay.mp z with z|z
   ·rcases aH.mp z with z|z
    ·exact absurd z vL
    ·exact aq _ z
   ·exact aj _ (aj _ z)
  refine⟨kt,kd,vt,⟨(fun e he=>nomatch he),F9 c,r1.den.up s2⟩,q _ _ (fun a x hx=>?_) ⟨p :: fp,?_,?_,fun a ha=>?_⟩⟩
  ·rw [c9 (fun z=>by rw [z,hp] at hx;cases hx)];exact (s0.trans (s1.trans s2)) _ _ hx
  ·simp only [Own];refine⟨p,[(kd,kv,vv)],[vd],fp ++ [],rfl,i0,rfl,by rw [aZ],⟨by simp,fun e he=>?_⟩,m7 (o.frame hc u fun a ha=>c9 (t_ a ha)) o8⟩;rw [ax.mp he];refine⟨F9 c,Den.imm_out hF kd (T3 _ (F9 c).1) ?_⟩;have dk:=r1.den.up s2;exact (Den.imm_out (F:=[p]) (fun a ha=>by rw [ax.mp ha];exact⟨⟨f8 p [],trivial⟩,vt⟩) kd (T3 _ (F9 c).1) dk).up fun a x hx=>by
    obtain⟨n1,n2⟩:=n0 hx;rw [c9 (fun z=>n1 (by rw [z];simp))];exact n2
  ·exact bA.mpr ⟨fun z=>t_ p z rfl,hn⟩
  ·rcases aH.mp ha with z|z
   ·rw [z];exact hp
   ·exact s0.free (s1.free (mD a z))
 ·rw [aO c] at g2;cases g2
end
end VS
namespace VS
open PySem PySem.Spec L2
theorem a8I:∀{xs:List V} {us:List ai},xs.length=us.length->(∀(i:Nat) (x:V) (u:ai),xs[i]?=some x->us[i]?=some u->RelV x u)->Vals xs us
 | [],[],_,_=>.nil
 | [],_ :: _,h,_=>by simp at h
 | _ :: _,[],h,_=>by simp at h
 | x :: xs,u :: us,hl,h=>.cons (h 0 x u rfl rfl) (a8I (by simpa using hl) fun i x u h1 h2=>h (i + 1) x u (by simpa using h1) (by simpa using h2))
end VS
namespace VS
open PySem PySem.Spec L2
def keysOk(kt:Bool)(kvs:List (D × D)):Bool:=kvs.all fun p=>u6 kt p.1
def a0W(neg kt:Bool):D->D->Option D
 | k,.dict kvs=>if u6 kt k && keysOk kt kvs then some (.bool (neg != C5 kvs k)) else none
 | _,_=>none
def a1N(kt:Bool):D->D->Option D
 | .dict kvs,k=>if u6 kt k && keysOk kt kvs then G9 kvs k else none
 | _,_=>none
def a4b(kt:Bool):D->D->Option D
 | .dict kvs,k=>if u6 kt k && keysOk kt kvs then some ((G9 kvs k).getD .none) else none
 | _,_=>none
theorem W2{kvs:List (D × D)}{es:List (D × V × V)}(h:es.map (·.1)=kvs.map (·.1)):C5 kvs k=A6 es k:=by
 have e1:C5 kvs k=(kvs.map (·.1)).any fun x=>aI x k:=by unfold C5;rw [List.any_map];rfl
 have e2:A6 es k=(es.map (·.1)).any fun x=>aI x k:=by unfold A6;rw [List.any_map];rfl
 rw [e1,e2,h]
theorem b1W{X:Cx}(h:DenKV X.K H es kvs)(ho:keysOk kt kvs=true)(hk:u6 kt k=true)(hd:Den X.K H kv k):KeysAt X H kt es k kv:=by
 refine⟨fun e he=>⟨?_,h.kden e he⟩,F9 hk,hd⟩;have hm:e.1∈kvs.map (·.1):=by rw [<-h.keys];exact cW he
 obtain⟨p,hp,e1⟩:=aG.mp hm;rw [<-e1];exact F9 (bP.mp ho p hp)
section
variable {X:Cx}{M:List Md}{a b:Expr}{fa fb:EvE}{ca cb:Cat}{kt:Bool}{pos:ek}
theorem b0d(h:a0W neg kt k d=some r):∃kvs,d=.dict kvs/\u6 kt k=true/\keysOk kt kvs=true/\r=.bool (neg != C5 kvs k):=by
 cases d with
 | dict kvs=>
  have h':(if u6 kt k && keysOk kt kvs then some (cm (neg != C5 kvs k)) else none)=some r:=h;by_cases c:(u6 kt k && keysOk kt kvs)=true
  ·rw [aE c] at h';rw [az] at c;exact⟨kvs,rfl,c.1,c.2,(aD h').symm⟩
  ·rw [aO c] at h';cases h'
 | _=>cases h
theorem b1X(d1:Den X.K H2 v k)(d2:Den X.K H2 w d)(hr:a0W neg kt k d=some r)(q:Q (.bl (match r with|.bool b=>b|_=>false)) H2):a5M X neg v w H2 Q:=by
 obtain⟨kvs,rfl,hk,ho,rfl⟩:=b0d hr;obtain⟨p,es,rfl,hH,dk⟩:=d2.dict_inv;refine⟨p,es,kt,k,rfl,hH,b1W dk ho hk d1,?_⟩;rw [<-W2 dk.keys];exact q
theorem a8J(ho:OpR X (bp op) (a5M X neg))(ha:PX X M a fa ca)(hb:PX X M b fb cb)(hm:eR op b=false:=by first|exact a2f _|with_unfolding_all rfl):PTX X M (.Compare a [op] [b] pos) (tB (e2 (a0W neg kt) fa fb)):=by
 obtain⟨ta,pa,qa⟩:=ha.out;obtain⟨tb,pb,qb⟩:=hb.out;refine .mk ⟨_,a1O ho pa pb hm,fun Z σ H P F k Q S hf q=>?_⟩;obtain⟨d,hf,hk⟩:=bnd hf;cases v9 hk
 obtain⟨x,y,h1,h2,h3⟩:=A4 hf;exact qa Z σ H P F x _ S h1 fun v H1 e1 r1=>qb Z σ H1 P F y _ (S.grow e1) h2 fun w H2 e2 r2=>b1X (r1.den.up e2) r2.den h3 ⟨k,rfl,q H2 (e1.trans e2)⟩
theorem b1Y{es:List (D × V × V)}(hn:(es.map (·.1)).Nodup)(hk:∀e∈es,aI e.1 k=true↔e.1=k)(h:DenKV K H es kvs)(he:e∈es)(fS:e.1=k):∃d,G9 kvs k=some d/\Den K H e.2.2 d:=by
 obtain⟨j,hj⟩:=cG.mp he;have hl:kvs.length=es.length:=by have:=dC gG h.keys;simpa using this.symm
 have hz:kvs=(es.map (·.1)).zip (kvs.map (·.2)):=by
  rw [h.keys,List.zip_map',List.map_id'' (fun p=>rfl)]
 obtain⟨p,hp⟩:∃p,kvs[j]?=some p:=⟨_,aB (by rw [hl];exact (aY.mp hj).1)⟩;have hd:(kvs.map (·.2))[j]?=some p.2:=by rw [bz,hp];rfl
 refine⟨p.2,?_,?_⟩
 ·rw [hz];exact a2z (by rw [ar];exact hl) hk hn hj fS hd
 ·obtain⟨v,z1,z2⟩:=h.vals.get hd;rw [bz,hj] at z1;cases z1
  exact z2
def b9V(X:Cx)(td ty:TE):TE:=fun σ H Q=>td σ H fun x H1=>ty σ H1 fun y H2=>∃a es kt k,x=.ref a/\H2 a=some (f8 a es)/\KeysAt X H2 kt es k y/\A6 es k=true/\((es.map (·.1)).Nodup->∀e∈es,e.1=k->Q e.2.2 H2)
theorem b4z(hu:X.A.units + 64 < cH)(ho:PE X a td)(hi:PE X b ty)(hs:a5J b):PE X (.Subscript a b pos) (b9V X td ty):=by
 intro pins s σ H Q I h;refine b9P oY.lookup hs (L2.thn (ho pins s σ H _ I h) fun u s1 ⟨x,H1,I1,rx,q1⟩=>L2.thn (hi pins s1 σ H1 _ I1 q1) fun iv s2 ⟨y,H2,I2,ry,p,es,kt,k,ex,hH,K,hh,q2⟩=>?_);subst ex;obtain rfl:u=be p:=rx;have hn:=(u4 I2 hH).2.2.1;exact⟨n8 I2 hH,a2y (by lia) I2 hH K ry hh fun e he fS x s3 I3 r3=>⟨e.2.2,H2,I3,r3,q2 hn e he fS⟩⟩
theorem b0e(h:a1N kt d k=some r):∃kvs,d=.dict kvs/\u6 kt k=true/\keysOk kt kvs=true/\G9 kvs k=some r:=by
 cases d with
 | dict kvs=>
  have h':(if u6 kt k && keysOk kt kvs then G9 kvs k else none)=some r:=h;by_cases c:(u6 kt k && keysOk kt kvs)=true
  ·rw [aE c] at h';rw [az] at c;exact⟨kvs,rfl,c.1,c.2,h'⟩
  ·rw [aO c] at h';cases h'
 | _=>cases h
theorem a8K(hu:X.A.units + 64 < cH)(ha:PX X M a fa (.new .f))(hb:PX X M b fb cb)(hs:a5J b:=by exact fun _ _=>rfl):PX X M (.Subscript a b pos) (e2 (a1N kt) fa fb) (.new .f):=by
 obtain⟨ta,pa,qa⟩:=ha.out;obtain⟨tb,pb,qb⟩:=hb.out;refine .mk ⟨_,b4z hu pa pb hs,fun Z σ H P F d Q S hf q=>?_⟩;obtain⟨x,y,h1,h2,h3⟩:=A4 hf;obtain⟨kvs,rfl,hk,hok,hg⟩:=b0e h3;refine qa Z σ H P F _ _ S h1 fun v H1 e1 ⟨fp,o,nd,fr⟩=>qb Z σ H1 P F y _ (S.grow e1) h2 fun w H2 e2 r2=>?_
 simp only [Own] at o;obtain⟨rfl,o⟩:=o;have o2:Den X.K (cut H2 F) v (.dict kvs):=o.up (G5 e2 fun a o ha jK=>by simpa using jK);obtain⟨p,es,rfl,hH,dk⟩:=o2.dict_inv;have x_:DenKV X.K H2 es kvs:=DenKV.mono i4 kvs dk;have KK:=b1W x_ hok hk r2.den;refine⟨p,es,kt,y,rfl,i4 _ _ hH,KK,by rw [<-W2 dk.keys];exact a5K hg,fun hn e he fS=>?_⟩;obtain⟨d',g',dd⟩:=b1Y hn (fun e he=>KK.eqv he) dk he fS;rw [hg] at g';cases g'
 refine q _ H2 (e1.trans e2) ⟨[],?_,br,fun a ha=>(nomatch ha)⟩;simp only [Own];exact⟨trivial,dd⟩
def b7C(X:Cx):V->List V->Hp->VK->Prop:=fun x xs H Q=>∃p es kt k y,x=.ref p/\xs=[y]/\H p=some (f8 p es)/\KeysAt X H kt es k y/\(A6 es k=false->Q .non H)/\((es.map (·.1)).Nodup->∀e∈es,e.1=k->Q e.2.2 H)
theorem b4A(hu:X.A.units + 64 < cH):MtR X "dict.get" (b7C X):=by
 intro pins s σ H x xs v us Q I rx rv h;obtain⟨p,es,kt,k,y,rfl,rfl,hH,K,q1,q2⟩:=h;cases (show v=be p from rx)
 obtain⟨w,rfl,rw⟩:=rv.one;have hn:=(u4 I hH).2.2.1;exact b7w (by lia) I hH K rw (fun hf s' I'=>⟨.non,H,I',rfl,q1 hf⟩) fun e he fS x s' I' r'=>⟨e.2.2,H,I',r',q2 hn e he fS⟩
theorem a7x(h:a4b kt d k=some r):∃kvs,d=.dict kvs/\u6 kt k=true/\keysOk kt kvs=true/\r=(G9 kvs k).getD .none:=by
 cases d with
 | dict kvs=>
  have h':(if u6 kt k && keysOk kt kvs then some ((G9 kvs k).getD .none) else none)=some r:=h;by_cases c:(u6 kt k && keysOk kt kvs)=true
  ·rw [aE c] at h';rw [az] at c;exact⟨kvs,rfl,c.1,c.2,(aD h').symm⟩
  ·rw [aO c] at h';cases h'
 | _=>cases h
theorem b4B{apos cL:ek}(hu:X.A.units + 64 < cH)(ha:PX X M a fa (.new .f))(hb:PX X M b fb cb)(iq:gM a "get" X.env (bW a X.env)=bW a X.env:=by rfl)
  (jL:((b_ cL (au [b] X.env)).all (fun x=>!x.1) && (mf cL (iO [] X.env)).all (fun x=>x.1.isSome)
   && decide (([b]:List Expr).length + ([]:List gC).length + (if ([]:List gC).isEmpty then 0 else 1) < 30))=true:=by rfl)
  (ip:(apos.endLine == cL.line)=true:=by rfl) (hs:au [b] X.env=(false,bW b X.env) :: au [] X.env:=by rfl) (fZ:(b_ cL (au [] X.env)).any (·.1)=false:=by rfl) :
  PX X M (.Call (.Attribute a "get" apos) [b] [] cL) (e2 (a4b kt) fa fb) (.new .f):=by
 obtain⟨ta,pa,qa⟩:=ha.out;obtain⟨tb,pb,qb⟩:=hb.out;refine .mk ⟨_,b1R PySem.F.slot_dict_get PySem.F.type_dict_get (b4A hu) pa (k9 pb o7 hs) iq jL ip hs fZ,fun Z σ H P F d Q S hf q=>?_⟩;obtain⟨x,y,h1,h2,h3⟩:=A4 hf;obtain⟨kvs,rfl,hk,hok,rfl⟩:=a7x h3;refine qa Z σ H P F _ _ S h1 fun v H1 e1 ⟨fp,o,nd,fr⟩=>?_
 simp only [Own] at o;obtain⟨rfl,o⟩:=o;obtain⟨p,es,rfl,hH,dk⟩:=o.dict_inv;refine⟨⟨p,es,rfl,i4 _ _ hH⟩,qb Z σ H1 P F y _ (S.grow e1) h2 fun w H2 e2 r2=>?_⟩;have up:Same (cut H1 ([] ++ F)) (cut H2 F):=G5 e2 fun a o ha jK=>by simpa using jK
 have zJ:DenKV X.K (cut H2 F) es kvs:=DenKV.mono up kvs dk;have x_:DenKV X.K H2 es kvs:=DenKV.mono i4 kvs zJ;have KK:=b1W x_ hok hk r2.den;refine⟨p,es,kt,y,w,rfl,rfl,e2 _ _ (i4 _ _ hH),KK,fun hf=>?_,fun hn e he fS=>?_⟩
 ·have:G9 kvs y=none:=a4a (by rw [W2 dk.keys];exact hf);rw [this] at q;refine q .non H2 (e1.trans e2) ⟨[],?_,br,fun a ha=>(nomatch ha)⟩;simp only [Own];exact⟨trivial,den_none⟩
 ·obtain⟨d',g',dd⟩:=b1Y hn (fun e he=>KK.eqv he) zJ he fS;rw [g'] at q;refine q _ H2 (e1.trans e2) ⟨[],?_,br,fun a ha=>(nomatch ha)⟩;simp only [Own];exact⟨trivial,dd⟩
end
end VS
namespace VS
open PySem PySem.Spec L2 PyProof.Rows
section
variable {X:Cx}{pins:List (av × eD)}{σ:L2.St}{H:Hp}{s:ak}{A:bx}{E:ai->ak->Prop}{a:av}{es:List (D × V × V)}{kt:Bool}{k:D}{kv v:V}{key val:ai}
theorem a7y{Q:ai->ak->Prop}(I:Inv X pins σ H s)(h:H a=some (f8 a es))(hQ:∀t s',Inv X pins σ H s'->Q (.int es.length t) s'):aM (aU X.prog X.w) A (Builtin.«len» ⟨[.ref a],[]⟩) (fun fin s'=>∃r,fin=.done (.ret r)/\Q r s') E s:=by
 have hT:=n8 I h;obtain⟨hd,hl,_,o,ents,ep,h1,h2,h3,h4⟩:=u4 I h;have je:ents.size=es.length:=by
  have:=dJ h4;have e2:ents.toList.length=ents.size:=by simp
  lia
 have qD:(es.length:Int) < 2 ^ 63:=by
  have:aS < 2 ^ 62:=by decide
  lia
 unfold Builtin.«len»;refine ae (m:=oneArg "len" _) (ag ?_);refine ae (m:=callSpecial? (.ref a) (cM "__len__")) (cx (name:=cM "__len__") hT lC (bM lC hT F.entry_dict_len ?_ (F.args_dict_len_1 _)));show aM _ _ (dictSize a >>= _) _ _ s;unfold dictSize;refine ae (ae (cB h1 h3 (ag ?_)));show aM _ _ (Builtin.Dict.pendingCount a >>= _) _ _ s;refine ae (wpAny_pendingCount_other hd ?_);refine wpAny_ret_mkInt ?_;rw [Nat.add_zero,je];refine ae (bI (ag ?_));refine ae (wpAny_letGo ?_);show aM _ _ (if ((es.length:Nat):Int) < 0 then _ else _) _ _ _;rw [aO (by lia)];show aM _ _ (if ((es.length:Nat):Int)≥2 ^ 63 then _ else _) _ _ _;rw [aO (by lia)];exact ae (wpAny_mkInt (ag ⟨_,rfl,hQ _ _ (I.tok _)⟩))
theorem b0f{Q:Bool->ak->Prop}(I:Inv X pins σ H s)(h:H a=some (f8 a es))(hQ:∀s',Inv X pins σ H s'->Q (!es.isEmpty) s'):aM (aU X.prog X.w) A (tu (.ref a)) Q E s:=by
 have hT:=n8 I h;have gy:((es.length:Int) != 0)=!es.isEmpty:=by cases es <;> simp <;> lia
 have key:aM (aU X.prog X.w) A (runValue (.builtin "len" ⟨[.ref a],[]⟩)) (fun r s'=>(∃t,r=.int es.length t)/\Q (!es.isEmpty) s') E s:=by
  refine s_ (dw entry_len ?_);rw [dm plain_len _];exact cC (a7y (Q:=fun r s'=>(∃t,r=.int es.length t)/\Q (!es.isEmpty) s') I h fun t s' I'=>⟨⟨t,rfl⟩,hQ s' I'⟩)
   (fun fin s' h'=>by obtain⟨r,rfl,hq⟩:=h';exact hq) fun _ _ e=>e
 unfold tu
 first
  | refine ae (yq (name:=cM "__bool__") hT noBool_dict ?_)
  | refine ae (ag (ae (yq (name:=cM "__bool__") hT noBool_dict ?_)))
 first
  | refine ae (dh (name:=cM "__len__") hT lC.lookup ?_)
  | refine ae (ag (ae (dh (name:=cM "__len__") hT lC.lookup ?_)))
 first
  | exact ae (cC key (fun r s' h'=>by obtain⟨⟨t,rfl⟩,hq⟩:=h';exact ag (gy ▸ hq)) fun _ _ e=>e)
  | exact ae (ag (ae (cC key (fun r s' h'=>by obtain⟨⟨t,rfl⟩,hq⟩:=h';exact ag (gy ▸ hq)) fun _ _ e=>e)))
end
section
variable {X:Cx}{M:List Md}{a:Expr}{ta:TE}{fa:EvE}{ca:Cat}
theorem b4C(ha:PE X a ta)(he:∀whole,pF a X.env whole=(do let v <-whole;sj a.pos;il [v] (tu v))):PT X a (fun σ H Q=>ta σ H fun x H'=>∃p es,x=.ref p/\H' p=some (f8 p es)/\Q (!es.isEmpty) H'):=by
 intro pins s σ H Q I h;refine isTrue_plain (L2.thn (ha pins s σ H _ I h) fun v s1 ⟨x,H1,I1,r1,p,es,ex,hH,q1⟩=>?_) (he _);subst ex;obtain rfl:v=be p:=r1;exact b0f I1 hH fun s' I'=>⟨H1,I',q1⟩
def trD:D->Option Bool
 | .dict kvs=>some !kvs.isEmpty
 | _=>none
def tVD(a:EvE):EvT:=fun Z=>(a Z).bind trD
theorem b1Z(ha:PX X M a fa ca)(he:∀whole,pF a X.env whole=(do let v <-whole;sj a.pos;il [v] (tu v)):=by intro _;rfl):PTX X M a (tVD fa):=by
 obtain⟨ta,pa,qa⟩:=ha.out;refine .mk ⟨_,b4C pa he,fun Z σ H P F k Q S hf q=>?_⟩;obtain⟨x,h1,hf⟩:=bnd hf;refine qa Z σ H P F _ _ S h1 fun v H1 e1 r1=>?_
 cases x with
 | dict kvs=>
  have kJ:some (!kvs.isEmpty)=some k:=hf;cases kJ
  obtain⟨p,es,rfl,hH,dk⟩:=r1.den.dict_inv;refine⟨p,es,rfl,hH,?_⟩;have hl:es.isEmpty=kvs.isEmpty:=by
   have:=dC gG dk.keys;rw [ar,ar] at this;cases es <;> cases kvs <;> simp_all
  rw [hl];exact q H1 e1
 | _=>cases hf
end
end VS
namespace VS
open PySem PySem.Spec L2
section
variable {K:af}{M:List Md}{σ:L2.St}{P:Hp}{F:List av}{i:Nat}{b:av}
theorem StR.ext(hm:M[i]?=some (.own (.l .i)))(hs:σ[i]?=some (some (.ref b)))(hb:b∈F):∀(zs:List V) (es:List D) (Z:List D) (H:Hp) (ds:List D) (xs:List V),StR K M Z σ H P F->DenAll K (cut H F) zs es->e6 es=true->Z[i]?=some (.list ds)->H b=some (.lst xs)->xs.length=ds.length->
  StR K M (Z.set i (.list (ds ++ es))) σ (upd H b (.lst (xs ++ zs))) P F
 | zs,[],Z,H,ds,xs,S,hd,hi,hr,hH,hl=>by
  rw [hd.nil_inv,aZ,aZ,set_same hr];have e:upd H b (.lst xs)=H:=by
   funext c
   by_cases z:c=b
   ·rw [z,i0,hH]
   ·rw [c9 z]
  rw [e];exact S
 | zs,d :: es,Z,H,ds,xs,S,hd,hi,hr,hH,hl=>by
  obtain⟨v,r,rfl,h1,h2⟩:=hd.cons_inv;have kc:imm d=true/\e6 es=true:=by simpa only [e6,az] using hi
  have pd:Pend K ([] ++ [.own .i]) ([] ++ [d]) ([] ++ [some v]) M Z σ H P F:=by
   refine⟨rfl,rfl,?_⟩;obtain⟨G,g1,g2,g3⟩:=S.all;have sl:SlotR K H F (.own .i) (some v) d []:=⟨v,rfl,by simp only [Own];exact⟨trivial,kc.1,h1⟩⟩;exact⟨⟨[] ++ G,j8 sl g1,by simpa using g2,fun a ha=>g3 a (by simpa using ha)⟩,S.lst,S.prot⟩
  have sL:dAt (.l .i) (Z.getD i .none) []=some (.l .i,.list ds):=by rw [y9 hr];rfl
  obtain⟨b',kX,e1,e2,e3,S2,_⟩:=pd.put (p:=[]) (w:=.ref b) hm hs sL rfl;cases e1
  rw [hH] at e2;cases e2
  have mV:i < Z.length:=(aY.mp hr).1;have S3:StR K M (Z.set i (.list (ds ++ [d]))) σ (upd H b (.lst (xs ++ [v]))) P F:=S2;have hc:Same (cut H F) (cut (upd H b (.lst (xs ++ [v]))) F):=fun c o hc=>by
   obtain⟨q1,q2⟩:=n0 hc;have ne:c≠b:=fun z=>q1 (by rw [z];exact hb)
   exact i7 q1 (by rw [c9 ne];exact q2)
  have ih:=StR.ext hm hs hb r es _ _ (ds ++ [d]) (xs ++ [v]) S3 (h2.up hc) kc.2 (by rw [eW mV]) i0 (by rw [aK,aK,hl];rfl);rw [List.set_set,a8p,aP,aP] at ih;exact ih
end
def a3A(i:Nat)(f:EvE):EvS:=fun Z=>(f Z).bind fun d=>match d,Z.getD i .none with
 | .list es,.list ds=>if e6 es && decide (ds.length + es.length<=1000000) then some (.nx (Z.set i (.list (ds ++ es)))) else none
 | _,_=>none
section
variable {X:Cx}{u w:Ty}{ML M:List Md}{e:Expr}{f:EvE}{pos apos cL:ek}{x:bc}{px:ek}
theorem b7D(i:Nat)(he:PX X M e f (.new (.l .i)))(hm:M[i]?=some (.own (.l .i)):=by rfl)(hN:X.N[i]?=some x:=by rfl)(hv:Vis X.env.scope x:=by first|exact cf rfl|exact bR (cf rfl)|exact bR (bR rfl))(hd:(x == ("__debug__":bc))=false:=by decide)
  (gJ:(x == ("__classdict__":bc))=false:=by decide)
  (iq:gM (.Name x px) "extend" X.env (bW (.Name x px) X.env)=bW (.Name x px) X.env:=by rfl)
  (jL:((b_ cL (au [e] X.env)).all (fun x=>!x.1) && (mf cL (iO [] X.env)).all (fun x=>x.1.isSome)
   && decide ([e].length + ([]:List gC).length + (if ([]:List gC).isEmpty then 0 else 1) < 30))=true:=by rfl)
  (ip:(apos.endLine == cL.line)=true:=by rfl) (hs:au [e] X.env=(false,bW e X.env) :: au [] X.env:=by rfl) (fZ:(b_ cL (au [] X.env)).any (·.1)=false:=by rfl)
  (nY:ff (.Call (.Attribute (.Name x px) "extend" apos) [e] [] cL) none pos.line X.env=pure false:=by rfl) :
  PSX X w ML M (.Expr (.Call (.Attribute (.Name x px) "extend" apos) [e] [] cL) pos) (a3A i f) M:=by
 obtain⟨te,pe,qe⟩:=he.out;refine .mk ⟨_,V1 (b1o jC jt qf a9E (C8 hN hv hd gJ) (k9 pe o7 hs) iq jL ip hs fZ) nY,fun D Z σ H P F o S hg k=>?_⟩;obtain⟨d,h3,g3⟩:=bnd hg;obtain⟨v0,f0,e0,o0,qW⟩:=S.toE.get hm;cases d with
 | list es=>
  cases hr:Z.getD i fG with
  | list ds=>
   rw [hr] at g3 o0;have pW:(if e6 es && decide (ds.length + es.length<=1000000) then some (Out.nx (Z.set i (.list (ds ++ es)))) else none)=some o:=g3;by_cases c:(e6 es && decide (ds.length + es.length<=1000000))=true
   ·rw [aE c] at pW;cases pW
    rw [az] at c;have c2:=bC c.2;simp only [Own] at o0;rcases o0 with⟨_,hi,_⟩|⟨b,xs,jy,fs,rfl,hH,jU,rfl,hL⟩
    ·simp only [imm] at hi;cases hi
    cases jU
    have rN:b∈F:=qW b ah;refine⟨.ref b,e0,.inl ⟨rfl,xs,SqL.of hH⟩,qe Z σ H P F _ _ S.toE h3 fun v1 H1 e1 ⟨fp,o1,nd,fr⟩=>?_⟩;have S1:=S.more e1 fr (o1.lst _);simp only [Own] at o1;rcases o1 with⟨_,hi,_⟩|⟨b1,zs,gr,zy,rfl,CD,sM,rfl,zo⟩
    ·simp only [imm] at hi;cases hi
    cases sM
    have nv:DenAll X.K (cut H1 (b1 :: zy ++ F)) zs es:=ListAll.den (R:=fun v d f=>Own X.K H1 (b1 :: zy ++ F) .i v d f) (fun v d f q=>(a1n q).2.2) zo;have rl:Z[i]?=some (.list ds):=by
     rw [aX] at hr;cases q:Z[i]? with
     | none=>rw [q] at hr;cases hr
     | some x=>rw [q] at hr;exact dC some hr
    have lz:zs.length=es.length:=zo.length;have lx:xs.length=ds.length:=hL.length;have hz:aS=16777216:=dv;refine⟨b,b1,xs,zs,rfl,rfl,e1 _ _ hH,CD,by lia,?_⟩;exact k σ _ _ (StR.ext hm e0 (aj _ rN) zs es Z H1 ds xs S1 nv c.1 rl (e1 _ _ hH) lx)
   ·rw [aO c] at pW;cases pW
  | _=>rw [hr] at g3;cases g3
 | _=>cases g3
end
end VS
namespace VS
open PySem PySem.Spec L2
section
variable {X:Cx}{pins:List (av × eD)}{σ:L2.St}{H:Hp}{s:ak}{A:bx}{E:ai->ak->Prop}{a:av}{es fs:List (D × V × V)}{k:D}{kv v:V}{key val:ai}{kt:Bool}{F:List av}
theorem a1w:∀{l:List α} {m:List β},fq R l m->∀{i:Nat} {x:α},l[i]?=some x->∃y,m[i]?=some y/\R x y
 | _,_,.nil,i,x,h=>by simp at h
 | _,_,.cons r t,0,x,h=>by
  cases h
  exact⟨_,rfl,r⟩
 | _,_,.cons r t,i + 1,x,h=>by
  obtain⟨y,h1,h2⟩:=a1w t (i:=i) (x:=x) (by simpa using h);exact⟨y,by simpa using h1,h2⟩
theorem b2a(I:Inv X pins σ H s)(hu:A.units + 10 < cH)(h:H a=some (f8 a es))(K:KeysAt X H kt es k kv)(rk:RelV kv key)(rv:RelV v val)(hl:es.length < aS)(og:∀e∈es,e.1≠k) 
  (hQ:∀h',Inv X pins σ (upd H a (f8 a (es ++ [(k,kv,v)]))) {s with heap:=h'}->dN a s.heap h'->Q () {s with heap:=h'}):aM (aU X.prog X.w) A (ke a key (hashD k) val) Q E s:=by
 obtain⟨hs,_,hn,o,ents,ep,h1,h2,h3,h4⟩:=u4 I h;have je:ents.size<=aS:=by
  have:=dJ h4;have e2:ents.toList.length=ents.size:=by simp
  lia
 have hf:A6 es k=false:=by
  unfold A6;rw [dG];exact fun e he hq=>og e he ((K.eqv he).mp hq)
 unfold ke
 try with_reducible refine bI ?_
 refine ae (a0S I hu h1 h3 h4 hn K.keys K.key K.den rk ?_ ?_)
 ·intro _;exact ae (gX (wpAny_updateDictKeys (hz:=je) h1 h3 (hQ _ (a3Z (t':=s.toks) I h K rk rv hl hf h1 h2 h3 h4) (bN ..))))
 ·intro j e he fS;exact absurd fS (og e (bD he))
theorem b2b(I:Inv X pins σ H s)(hu:A.units + 10 < cH)(hd:H d=some (f8 d es))(ho:H o=some (f8 o fs))(qH:d≠o)(gy:es≠[])(xG:d∈F)
  (hk:∀e∈es ++ fs,keyOk kt e.1/\Den X.K (cut H F) e.2.1 e.1) (ka:((es ++ fs).map (·.1)).Nodup) (je:es.length + fs.length<=aS) (hQ:∀s',Inv X pins σ (upd H d (f8 d (es ++ fs))) s'->Q () s') :
  aM (aU X.prog X.w) A (iz nm d o) Q E s:=by
 obtain⟨DX,_,hn,od,CS,Eh,Bl,gJ,xF,Bg⟩:=u4 I hd;obtain⟨Bo,_,og,oo,ly,Eg,vx,DY,ou,yQ⟩:=u4 I ho;unfold iz;rw [aO (by simpa using qH)];unfold iJ;rw [aO (by rw [Bo];exact bB)];refine ae (ag ?_);refine ae (cB vx ou ?_);have hlen:fs.length=ly.size:=by rw [dJ yQ];simp
 have yJ:∀o',Same (cut H F) (cut (upd H d o') F):=fun o' c u hc=>by
  obtain⟨q1,q2⟩:=n0 hc;have ne:c≠d:=fun z=>q1 (by rw [z];exact xG)
  exact i7 q1 (by rw [c9 ne];exact q2)
 have loop:aM (aU X.prog X.w) A (do
   let uS <-dictEpoch o
   let l <-dictEntries o
   forIn [:l.size] iV fun i (_:PUnit)=>(do
     let l' <-dictEntries o
     match l'[i]? with
      | some e=>do
       il [e.key,e.val] (ke d e.key e.hash e.val)
       let nQ <-dictEpoch o
       if (nQ != uS)=true then do
         (qx (toString nm ++ toString ":source-changed-during-callback"):Sem PUnit)
         pure (dt iV)
        else pure (dt iV)
      | _=>do
       (qx "internal:dict-merge":Sem PUnit)
       pure (dt iV):Sem (ForInStep PUnit))
   pure ()) Q E s:=by
  refine ae (jb vx ou ?_);refine ae (cB vx ou ?_);refine ae ?_;rw [Std.Legacy.Range.forIn_eq_forIn_range'];simp only [Std.Legacy.Range.size,Nat.sub_zero,Nat.add_sub_cancel,Nat.div_one];have start:Inv X pins σ (upd H d (f8 d (es ++ fs.take 0))) s:=by
   have e:upd H d (f8 d (es ++ fs.take 0))=H:=by
    funext c
    by_cases z:c=d
    ·rw [z,i0,hd];simp
    ·rw [c9 z]
   rw [e];exact I
  refine pq _
   (fun rest _ s'=>∃i,rest=List.range' i (ly.size - i)/\i<=ly.size/\Inv X pins σ (upd H d (f8 d (es ++ fs.take i))) s'/\s'.heap.get? o=some oo)
   _ ?_ ?_ _ _ ⟨0,by simp,dq _,start,vx⟩
  ·rintro x rest b s' ⟨i,hr,hi,I',rB⟩;have fL:i < ly.size:=by
    rcases et i ly.size with h|h
    ·exact h
    ·rw [Nat.sub_eq_zero_of_le h] at hr;simp at hr
   obtain⟨rfl,iP⟩:x=i/\rest=List.range' (i + 1) (ly.size - (i + 1)):=by
    have e:ly.size - i=(ly.size - (i + 1)) + 1:=by lia
    rw [e,Dp] at hr
    injection hr with h1 h2
    exact⟨h1,h2⟩
   refine ae (cB rB ou ?_);rw [bG fL];obtain⟨f,hf⟩:∃f,fs[x]?=some f:=⟨fs[x]'(by rw [hlen];exact fL),aB _⟩;obtain⟨y,hy,hh,rk,rv⟩:=a1w yQ hf;have sx:ly[x]=y:=by
    have:ly.toList[x]?=some ly[x]:=by simp [fL]
    rw [hy] at this;exact (aD this).symm
   show aM _ _ (il [ly[x].key,ly[x].val] (ke d ly[x].key ly[x].hash ly[x].val) >>= _) _ _ _;rw [sx,hh];have ji:es ++ fs=(es ++ fs.take x) ++ f :: fs.drop (x + 1):=by
    have e1:fs=fs.take x ++ f :: fs.drop (x + 1):=by
     have rd:=(aY.mp hf);obtain⟨sy,tQ⟩:=rd;rw [<-tQ,<-cU sy,sU]
    rw [aP,<-e1]
   have KK:KeysAt X (upd H d (f8 d (es ++ fs.take x))) kt (es ++ fs.take x) f.1 f.2.1:=
    ⟨fun e he=>⟨(hk e (by rw [ji];exact aq _ he)).1,((hk e (by rw [ji];exact aq _ he)).2.up (yJ _)).up i4⟩,
     (hk f (by rw [ji];simp)).1,((hk f (by rw [ji];simp)).2.up (yJ _)).up i4⟩
   have xa:∀e∈es ++ fs.take x,e.1≠f.1:=fun e he z=>by
    rw [ji,bb,aA,bu] at ka;exact ka.2.2 e.1 (cW he) f.1 ah z
   have yW:(es ++ fs.take x).length < aS:=by
    rw [aK,du];lia
   refine ae (bI (b2a (v:=f.2.2) I' hu i0 KK rk rv yW xa fun nO zU sb=>?_));have qB:nO.get? o=some oo:=(sb.2 o (eE qH)).trans rB;refine ae (jb qB ou ?_);rw [aO (by simp)];refine ag ⟨x + 1,iP,fL,?_,qB⟩;rw [a8p,aP] at zU;have e2:fs.take (x + 1)=fs.take x ++ [(f.1,f.2.1,f.2.2)]:=by rw [List.take_add_one,hf];rfl
   rw [e2];exact zU
  ·rintro b s' ⟨i,hr,hi,I',rB⟩;have jK:i=ly.size:=by
    rcases et i ly.size with h|h
    ·have e:ly.size - i=(ly.size - (i + 1)) + 1:=by lia
     rw [e,Dp] at hr;exact nomatch hr
    ·exact Nat.le_antisymm hi h
   rw [jK,<-hlen,Dn] at I';exact ag (hQ s' I')
 dsimp only
 split
 ·refine ae (cB Bl xF ?_)
  split
  ·rename_i xB
   have h0:CS=#[]:=Array.isEmpty_iff.mp xB;have:=dJ Bg;rw [h0] at this;exact absurd (gF.mp (by simpa using this)) gy
  ·exact loop
 ·exact loop
theorem b0g(hu:A.units + 12 < cH)(I:Inv X pins σ H s)(hd:H d=some (f8 d es))(ho:H o=some (f8 o fs))(qH:d≠o)(gy:es≠[])(xG:d∈F)
  (hk:∀e∈es ++ fs,keyOk kt e.1/\Den X.K (cut H F) e.2.1 e.1) (ka:((es ++ fs).map (·.1)).Nodup) (je:es.length + fs.length<=aS) (hQ:∀s',Inv X pins σ (upd H d (f8 d (es ++ fs))) s'->Q .none s') :
  aM (aU X.prog X.w) A (call (.builtin "dict.update") [.ref d,.ref o]) Q E s:=by
 have hT:=n8 I hd;have rP:=n8 I ho;refine bM qg hT PySem.F.entry_dict_update ?_ (PySem.F.args_dict_update_2 _ _);unfold Builtin.«dict.update»;refine ae ?_;unfold yl;refine ae (iD hT ?_);show aM _ _ (pure (d,[be o])) _ _ s;refine ag ?_;show aM _ _ (hJ "dict.update" d (.ref o) [] .none) _ _ s;unfold hJ;refine ae (nR rP ?_);rw [aO (by decide)];refine ae ?_;unfold Builtin.Dict.merge;refine ae ?_;unfold v_;refine ae (gu rP isSubtype_dict_dict ?_);simp only [jx,df,fK];refine ae (dh rP PySem.F.slot_dict_iter.lookup (ag ?_));simp only [h_,ie];refine ae (ag ?_);refine b2b (A:=A.in1) I (by show A.units + 1 + 10 < cH;lia) hd ho qH gy xG hk ka je fun s' I'=>?_
 show aM _ _ (ym d [] >>= _) _ _ _;exact ae (ag (ag ⟨.none,rfl,hQ s' I'⟩))
end
end VS
namespace VS
open PySem PySem.Spec L2
section
variable {K:af}{M:List Md}{Z:List D}{σ:L2.St}{H P:Hp}{F:List av}{i j:Nat}{kt:Bool}{u:Ty}
theorem StR.update(pP:i≠j)(h:StR K M Z σ H P F)(hi:M[i]?=some (.own (.d kt u)))(hj:M[j]?=some (.own (.d kt u))) :
  ∃F' a b es fs ds gr,σ[i]?=some (some (.ref a))/\σ[j]?=some (some (.ref b))/\a≠b/\Z[i]?=some (.dict ((es.map (·.1)).zip ds))/\Z[j]?=some (.dict ((fs.map (·.1)).zip gr))/\H a=some (f8 a es)/\H b=some (f8 b fs)/\a∈F'/\
   (∀e∈es ++ fs,keyOk kt e.1/\Den K (cut H F') e.2.1 e.1)/\ds.length=es.length/\gr.length=fs.length/\(es.map (·.1)).Nodup/\(fs.map (·.1)).Nodup/\
   (((es ++ fs).map (·.1)).Nodup->StR K (M.set j (.keys kt)) (Z.set i (.dict (((es ++ fs).map (·.1)).zip (ds ++ gr)))) σ (upd H a (f8 a (es ++ fs))) P F'):=by
 obtain⟨G,h1,h2,h3⟩:=h.all;obtain⟨dj,oj,fj,nV,lU,zE,zD,⟨vj,rfl,Oj⟩,xZ,CU⟩:=h1.at_ hj;obtain⟨b,fs,gr,gs,rfl,vM,rfl,rfl,vD,CB,ui,xb⟩:=Oj.dict;rw [xZ] at h2;have iA:∀x∈F.filter (fun x=>decide (x≠b)),x∈F:=fun x hx=>(dc.mp hx).1
 have rN:b∉F.filter (fun x=>decide (x≠b)):=fun hx=>absurd rfl (bC (dc.mp hx).2)
 have hc:Same (cut H F) (cut H (F.filter (fun x=>decide (x≠b)))):=B3 iA;have tx:SlotR K H (F.filter (fun x=>decide (x≠b))) (.keys kt) (some (.ref b)) (.dict ((fs.map (·.1)).zip gr)) []:=
  ⟨rfl,b,fs,_,rfl,rfl,i7 rN vM,(List.map_fst_zip (by rw [ar,ui];exact aF _)).symm,fun e he=>⟨(vD e he).1,(vD e he).2.up hc⟩⟩
 have q1:=CU H _ (.keys kt) _ (some (.ref b)) [] (fun _ _=>rfl) hc tx;rw [set_same zE,set_same zD] at q1;have sH:(M.set j (.keys kt))[i]?=some (.own (.d kt u)):=by rw [dD (eE pP)];exact hi
 obtain⟨di,oi,f1,ng,kY,CY,zF,⟨vi,rfl,Oi⟩,CW,CV⟩:=q1.at_ sH;obtain⟨a,es,ds,fi,rfl,vN,rfl,rfl,BJ,CC,uj,xc⟩:=Oi.dict;have rR:nV ++ lU=ng ++ ((a :: fi) ++ kY):=by simpa using CW
 have apart:=a0L h2;have jk:∀x∈nV ++ lU,x∈F:=fun x hx=>h3 x (by rw [xZ];exact mem_mid hx)
 have rO:a∈nV ++ lU:=by rw [rR];simp
 have oU:a≠b:=fun z=>apart b ah (by rw [<-z];exact rO)
 have sv:∀x∈F,x≠b->x∈F.filter (fun x=>decide (x≠b)):=fun x hx hb=>dc.mpr ⟨hx,aL hb⟩
 have sO:a∈F.filter (fun x=>decide (x≠b)):=sv a (jk a rO) oU;have nu:∀e∈es ++ fs,keyOk kt e.1/\Den K (cut H (F.filter (fun x=>decide (x≠b)))) e.2.1 e.1:=fun e he=>by
  rcases ay.mp he with z|z
  ·exact BJ e z
  ·exact⟨(vD e z).1,(vD e z).2.up hc⟩
 refine⟨_,a,b,es,fs,ds,gr,zF,zD,oU,CY,zE,vN,vM,sO,nu,uj,ui,xc,xb,fun ka=>?_⟩;have oD:Same (cut H (F.filter (fun x=>decide (x≠b)))) (cut (upd H a (f8 a (es ++ fs))) (F.filter (fun x=>decide (x≠b)))):=fun c o' sN=>by
  obtain⟨r1,r2⟩:=n0 sN;have ne:c≠a:=fun z=>r1 (by rw [z];exact sO)
  exact i7 r1 (by rw [c9 ne];exact r2)
 have ue:(ng ++ ((a :: fi) ++ kY)).Nodup:=by rw [<-rR];exact E7 h2
 have uK:a∉fi ++ kY:=by
  have:=(bu.mp ue).2.1;rw [bO,bA] at this;exact this.1
 have uJ:a∉ng:=fun z=>(bu.mp ue).2.2 a z a (by simp) rfl
 have xJ:a∉gs:=fun z=>apart a (ao _ z) rO
 have own:Own K (upd H a (f8 a (es ++ fs))) (F.filter (fun x=>decide (x≠b))) (.d kt u) (.ref a) (.dict (((es ++ fs).map (·.1)).zip (ds ++ gr))) (a :: (fi ++ gs)):=by
  simp only [Own];refine⟨a,es ++ fs,ds ++ gr,fi ++ gs,rfl,i0,rfl,rfl,⟨ka,fun e he=>⟨(nu e he).1,(nu e he).2.up oD⟩⟩,?_⟩;rw [bb];refine ListAll.append (CC.imp fun v d f hf _ q=>q.frame oD u fun x hx=>?_) (CB.imp fun v d f hf _ q=>q.frame (hc.trans oD) u fun x hx=>?_)
  ·exact c9 fun z=>uK (aq _ (by rw [<-z];exact hf x hx))
  ·exact c9 fun z=>xJ (by rw [<-z];exact hf x hx)
 have q2:=CV _ _ (.own (.d kt u)) _ (some (.ref a)) (a :: (fi ++ gs)) (fun x hx=>c9 fun z=>by
  rcases ay.mp hx with y|y
  ·exact uJ (by rw [<-z];exact y)
  ·exact uK (aj _ (by rw [<-z];exact y))) oD ⟨_,rfl,own⟩
 rw [set_same sH,set_same zF] at q2;have uq:gs.Nodup:=by
  have:=(bu.mp h2).2.1;rw [bO,bA] at this;exact (bu.mp this.2).1
 have eG:ng ++ ((a :: (fi ++ gs)) ++ kY)=(ng ++ (a :: fi)) ++ (gs ++ kY):=by simp
 have eP:nV ++ lU=(ng ++ (a :: fi)) ++ kY:=by rw [rR];simp
 refine⟨⟨_,q2,?_,fun x hx=>?_⟩,fun x hx=>?_,h.prot.trans (hc.trans oD)⟩
 ·rw [eG];exact V4 (by rw [<-eP];exact E7 h2) uq fun x hx z=>apart x (ao _ hx) (by rw [eP];exact z)
 ·rw [eG] at hx;rcases a1R hx with z|z
  ·have kq:x≠b:=fun y=>by
    have:=(bu.mp h2).2.1;rw [bO,bA] at this;exact this.1 (aq _ (by rw [<-y];exact z))
   exact sv x (h3 x (by rw [xZ];exact aj _ (aq _ (ao _ z)))) kq
  ·have rg:x∈nV ++ lU:=by rw [eP];exact z
   exact sv x (jk x rg) fun y=>apart b ah (by rw [<-y];exact rg)
 ·by_cases z:x=a
  ·rw [z];exact⟨⟨f8 a (es ++ fs),trivial⟩,i0⟩
  ·rw [c9 z];exact h.lst x (iA x hx)
end
def b0h(i j:Nat):EvS:=fun Z=>match Z.getD i .none,Z.getD j .none with
 | .dict kvs,.dict more=>if !kvs.isEmpty && (more.all fun p=>!C5 kvs p.1) && decide (kvs.length + more.length<=1000000) then some (.nx (Z.set i (.dict (kvs ++ more)))) else none
 | _,_=>none
section
variable {X:Cx}{w u:Ty}{ML M:List Md}{kt:Bool}{pos apos cL px py:ek}{x y:bc}
def c1q(X:Cx):V->List V->Hp->VK->Prop:=fun z xs H Q=>∃p q es fs kt F,z=.ref p/\xs=[.ref q]/\H p=some (f8 p es)/\H q=some (f8 q fs)/\p≠q/\es≠[]/\p∈F/\(∀e∈es ++ fs,keyOk kt e.1/\Den X.K (cut H F) e.2.1 e.1)/\((es ++ fs).map (·.1)).Nodup/\es.length + fs.length<=aS/\Q .non (upd H p (f8 p (es ++ fs)))
theorem b7E(hu:X.A.units + 64 < cH):MtR X "dict.update" (c1q X):=by
 intro pins s σ H z xs v us Q I rx rv h;obtain⟨p,q,es,fs,kt,F,rfl,rfl,hp,hq,Bf,gy,ua,hk,ka,je,qq⟩:=h;cases (show v=be p from rx)
 obtain⟨w,rfl,rw⟩:=rv.one;cases (show w=be q from rw)
 exact b0g (by lia) I hp hq Bf gy ua hk ka je fun s' I'=>⟨.non,_,I',rfl,qq⟩
theorem b0i(i j:Nat)(pP:i≠j)(hu:X.A.units + 64 < cH)(hi:M[i]?=some (.own (.d kt u)):=by rfl)(hj:M[j]?=some (.own (.d kt u)):=by rfl)(CA:X.N[i]?=some x:=by rfl)(Cz:X.N[j]?=some y:=by rfl)
  (AW:Vis X.env.scope x:=by first|exact cf rfl|exact bR (cf rfl)|exact bR (bR rfl)) (AV:Vis X.env.scope y:=by first|exact cf rfl|exact bR (cf rfl)|exact bR (bR rfl))
  (ox:(x == ("__debug__":bc))=false:=by decide) (Ce:(x == ("__classdict__":bc))=false:=by decide) (BZ:(y == ("__debug__":bc))=false:=by decide) (Cd:(y == ("__classdict__":bc))=false:=by decide)
  (iq:gM (.Name x px) "update" X.env (bW (.Name x px) X.env)=bW (.Name x px) X.env:=by rfl)
  (jL:((b_ cL (au [.Name y py] X.env)).all (fun x=>!x.1) && (mf cL (iO [] X.env)).all (fun x=>x.1.isSome)
   && decide (([.Name y py]:List Expr).length + ([]:List gC).length + (if ([]:List gC).isEmpty then 0 else 1) < 30))=true:=by rfl)
  (ip:(apos.endLine == cL.line)=true:=by rfl) (hs:au [.Name y py] X.env=(false,bW (.Name y py) X.env) :: au [] X.env:=by rfl) (fZ:(b_ cL (au [] X.env)).any (·.1)=false:=by rfl)
  (nY:ff (.Call (.Attribute (.Name x px) "update" apos) [.Name y py] [] cL) none pos.line X.env=pure false:=by rfl) :
  PSX X w ML M (.Expr (.Call (.Attribute (.Name x px) "update" apos) [.Name y py] [] cL) pos) (b0h i j) (M.set j (.keys kt)):=by
 refine .mk ⟨_,V1 (b1R qg PySem.F.type_dict_update (b7E hu) (C8 CA AW ox Ce) (k9 (C8 Cz AV BZ Cd) o7 hs) iq jL ip hs fZ) nY,fun D Z σ H P F o S hg k=>?_⟩;obtain⟨F',a,b,es,fs,ds,gr,s1,s2,oU,r1,r2,vN,vM,sO,nu,uj,ui,xc,xb,S'⟩:=S.update pP hi hj;unfold b0h at hg;rw [y9 r1,y9 r2] at hg;have nL:(if !((es.map (·.1)).zip ds).isEmpty && (((fs.map (·.1)).zip gr).all fun p=>!C5 ((es.map (·.1)).zip ds) p.1) && decide (((es.map (·.1)).zip ds).length + ((fs.map (·.1)).zip gr).length<=1000000) then some (Out.nx (Z.set i (.dict ((es.map (·.1)).zip ds ++ (fs.map (·.1)).zip gr)))) else none)=some o:=hg
 split at nL
 ·next c=>
  cases nL
  rw [az,az] at c;obtain⟨⟨c1,c2⟩,c3⟩:=c;have l1:((es.map (·.1)).zip ds).length=es.length:=by rw [nG,ar,uj,rY]
  have l2:((fs.map (·.1)).zip gr).length=fs.length:=by rw [nG,ar,ui,rY]
  have yc:=bC c3;rw [l1,l2] at yc;have gy:es≠[]:=fun z=>by rw [z] at c1;simp at c1
  have ka:((es ++ fs).map (·.1)).Nodup:=by
   rw [bb,bu];refine⟨xc,xb,fun p hp q hq z=>?_⟩;obtain⟨e,he,rfl⟩:=aG.mp hp;obtain⟨f,hf,rfl⟩:=aG.mp hq;obtain⟨n,hn⟩:=cG.mp hf;have fL:n < gr.length:=by rw [ui];exact (aY.mp hn).1
   have hm:(f.1,gr[n])∈(fs.map (·.1)).zip gr:=by
    refine cG.mpr ⟨n,?_⟩;rw [jd];exact⟨by rw [bz,hn];rfl,aB fL⟩
   have og:=bP.mp c2 _ hm;have pL:C5 ((es.map (·.1)).zip ds) f.1=false:=by simpa using og
   rw [P3 uj] at pL;unfold A6 at pL;rw [dG] at pL;refine pL e he ?_;exact (O7 e.1 f.1 (nu e (aq _ he)).1.1 (nu f (aj _ hf)).1.1).mpr z
  have hz:aS=16777216:=dv;refine⟨.ref a,s1,⟨a,es,rfl,vN⟩,.ref b,s2,⟨a,b,es,fs,kt,F',rfl,rfl,vN,vM,oU,gy,sO,nu,ka,by lia,?_⟩⟩;have S2:=S' ka;rw [bb,En (by rw [ar];exact uj.symm)] at S2;exact k σ _ F' S2
 ·cases nL
end
end VS
namespace VS
open PySem PySem.Spec L2
theorem StE.getKeys{Z:List D}(h:StE K M Z σ H P F)(hm:M[j]?=some (.keys kt)) :
  ∃a es kvs,σ[j]?=some (some (.ref a))/\Z.getD j .none=.dict kvs/\H a=some (f8 a es)/\es.map (·.1)=kvs.map (·.1)/\∀e∈es,keyOk kt e.1/\Den K H e.2.1 e.1:=by
 obtain⟨G,h1,h3⟩:=h.all;obtain⟨d,o,f,pre,post,e1,e2,⟨_,a,es,kvs,rfl,rfl,z1,z2,z3⟩,e4,_⟩:=h1.at_ hm;exact⟨a,es,kvs,e2,y9 e1,i4 _ _ z1,z2,fun e he=>⟨(z3 e he).1,(z3 e he).2.up i4⟩⟩
section
variable {X:Cx}{M:List Md}{a:Expr}{fa:EvE}{ca:Cat}{kt:Bool}{pos py:ek}{y:bc}
theorem b4D(j:Nat)(ho:OpR X (bp op) (a5M X neg))(ha:PX X M a fa ca)(hj:M[j]?=some (.keys kt):=by rfl)(hN:X.N[j]?=some y:=by rfl)(hv:Vis X.env.scope y:=by first|exact cf rfl|exact bR (cf rfl)|exact bR (bR rfl))
  (hd:(y == ("__debug__":bc))=false:=by decide) (hc:(y == ("__classdict__":bc))=false:=by decide) (hm:eR op (.Name y py)=false:=by first|exact a2f _|with_unfolding_all rfl):PTX X M (.Compare a [op] [.Name y py] pos) (tB (e2 (dIn neg kt) fa (a4 j))):=by
 obtain⟨ta,pa,qa⟩:=ha.out;refine .mk ⟨_,a1O ho pa (C8 hN hv hd hc) hm,fun Z σ H P F k Q S hf q=>?_⟩;obtain⟨d,hf,BK⟩:=bnd hf;cases v9 BK
 obtain⟨x,z,h1,h2,h3⟩:=A4 hf;cases h2
 refine qa Z σ H P F x _ S h1 fun v H1 e1 r1=>?_
 obtain⟨p,es,kvs,s1,hr,hH,hk,nu⟩:=(S.grow e1).getKeys hj;rw [hr] at h3;obtain⟨AG,e3,BG,e4⟩:=a5N h3;cases e3
 refine⟨.ref p,s1,p,es,kt,x,rfl,hH,⟨nu,F9 BG,r1.den⟩,?_⟩;rw [<-W2 hk];cases e4
 exact⟨_,rfl,q H1 e1⟩
end
end VS
namespace VS
open PySem PySem.Spec L2
def b4E(r r' r2:R2)(ta tb tc td:TE):TE:=fun σ H Q=>ta σ H fun x H1=>tb σ H1 fun y H2=>r x y H2 fun z H3=>∃k,z=.bl k/\
 (if k=true then tc σ H3 fun w H4=>r' y w H4 fun z' H5=>∃k',z'=.bl k'/\(if k'=true then td σ H5 fun u H6=>r2 w u H6 Q else Q (.bl false) H5) else Q (.bl false) H3)
section
variable {X:Cx}{a b c d0:Expr}{ta tb tc td:TE}{pos:ek}
theorem b0j(ho:OpR X (bp op) r)(kO:OpR X (bp lF) r')(uc:OpR X (bp tF) r2)(ha:PE X a ta)(hb:PE X b tb)(hc:PE X c tc)(hd:PE X d0 td)
  (hm:mC [op,lF,tF] [b,c,d0]=false:=by with_unfolding_all rfl):PT X (.Compare a [op,lF,tF] [b,c,d0] pos) (b1h (b4E r r' r2 ta tb tc td)):=by
 intro pins s σ H Q I h;refine PyProof.Rows.isTrue_chain (L2.thn (ha pins s σ H _ I h) fun v s1 ⟨x,H1,I1,r1,q1⟩=>rU (L2.thn (hb pins s1 σ H1 _ I1 q1) fun u s2 ⟨y,H2,I2,r2,q2⟩=>
  L2.thn (ho pins s2 σ H2 x y v u _ I2 r1 r2 q2) fun d s3 ⟨z,H3,I3,r3,k,e,q3⟩=>?_)) hm
 subst e;cases r3
 refine cg ?_;cases k with
 | false=>
  obtain⟨k',e',q'⟩:=q3;cases e'
  exact vW ⟨H3,I3,q'⟩
 | true=>
  refine vV (rU (L2.thn (hc pins s3 σ H3 _ I3 q3) fun w' s4 ⟨z',H4,I4,r4,q4⟩=>L2.thn (kO pins s4 σ H4 y z' u w' _ I4 r2 r4 q4) fun d' s5 ⟨z2,H5,I5,r5,k2,e2,q5⟩=>?_));subst e2;cases r5
  refine cg ?_;cases k2 with
  | false=>
   obtain⟨k',e',q'⟩:=q5;cases e'
   exact vW ⟨H5,I5,q'⟩
  | true=>
   refine vV (PyProof.Rows.test_last (L2.thn (hd pins s5 σ H5 _ I5 q5) fun w2 s6 ⟨z6,H6,I6,r6,q6⟩=>L2.thn (uc pins s6 σ H6 z' z6 w' w2 _ I6 r4 r6 q6) fun d7 s7 ⟨z7,H7,I7,r7,k7,e7,q7⟩=>?_));subst e7;cases r7
   exact cg ⟨H7,I7,q7⟩
def b0k(g g' g2:D->D->Option D)(fa fb fc fd:EvE):EvE:=fun Z=>(fa Z).bind fun x=>(fb Z).bind fun y=>(g x y).bind fun z=>(asB z).bind fun k=>
 if k then (fc Z).bind fun w=>(g' y w).bind fun z'=>(asB z').bind fun k'=>if k' then (fd Z).bind fun u=>g2 w u else some (.bool false) else some (.bool false)
end
section
variable {X:Cx}{M:List Md}{a b c0 d0:Expr}{fa fb fc fd:EvE}{ca cb cc cd:Cat}{pos:ek}
theorem a7z(ho:OpS X (bp op) g)(kO:OpS X (bp lF) g')(uc:OpS X (bp tF) g2)(ha:PX X M a fa ca)(hb:PX X M b fb cb)(hc:PX X M c0 fc cc)(hd:PX X M d0 fd cd)(hm:mC [op,lF,tF] [b,c0,d0]=false:=by with_unfolding_all rfl) :
  PTX X M (.Compare a [op,lF,tF] [b,c0,d0] pos) (tB (b0k g g' g2 fa fb fc fd)):=by
 obtain⟨r,hr,hs⟩:=ho;obtain⟨r',rq,pJ⟩:=kO;obtain⟨r2,tX,sD⟩:=uc;obtain⟨ta,pa,qa⟩:=ha.out;obtain⟨tb,pb,qb⟩:=hb.out;obtain⟨tc,pc,qc⟩:=hc.out;obtain⟨td,pd,qd⟩:=hd.out;refine .mk ⟨_,b0j hr rq tX pa pb pc pd hm,fun Z σ H P F k0 Q S hf q=>?_⟩;obtain⟨d,hf,hk⟩:=bnd hf;cases v9 hk
 obtain⟨x,h1,hf⟩:=bnd hf;obtain⟨y,h2,hf⟩:=bnd hf;obtain⟨z,h3,hf⟩:=bnd hf;obtain⟨k,h4,hf⟩:=bnd hf;cases v9 h4
 refine qa Z σ H P F x _ S h1 fun v H1 e1 r1=>qb Z σ H1 P F y _ (S.grow e1) h2 fun w H2 e2 r2=>hs v w H2 x y _ _ (r1.den.up e2) r2.den h3 fun z hi hd=>⟨k,(hd H2).bool_inv,?_⟩
 cases k with
 | false=>
  have kJ:k0=false:=by injection (aD hf).symm
  subst kJ;exact a1K ⟨false,rfl,q H2 (e1.trans e2)⟩
 | true=>
  obtain⟨w',h5,hf⟩:=bnd (show ((fc Z).bind fun w=>(g' y w).bind fun z'=>(asB z').bind fun k'=>if k'=true then (fd Z).bind fun u=>g2 w u else some (cm false))=some (cm k0) from hf);obtain⟨z',h6,hf⟩:=bnd hf;obtain⟨k',h7,hf⟩:=bnd hf;cases v9 h7
  refine a1L (qc Z σ H2 P F w' _ (S.grow (e1.trans e2)) h5 fun w3 H3 e3 r3=>pJ w w3 H3 y w' _ _ (r2.den.up e3) r3.den h6 fun z hi hd=>⟨k',(hd H3).bool_inv,?_⟩);cases k' with
  | false=>
   have kJ:k0=false:=by injection (aD hf).symm
   subst kJ;exact a1K ⟨false,rfl,q H3 ((e1.trans e2).trans e3)⟩
  | true=>
   obtain⟨u',h8,hf⟩:=bnd (show ((fd Z).bind fun u=>g2 w' u)=some (cm k0) from hf);exact a1L (qd Z σ H3 P F u' _ (S.grow ((e1.trans e2).trans e3)) h8 fun w4 H4 e4 r4=>sD w3 w4 H4 w' u' _ _ (r3.den.up e4) r4.den hf fun z hi hd=>⟨k0,(hd H4).bool_inv,q H4 (((e1.trans e2).trans e3).trans e4)⟩)
end
end VS
namespace VS
open PySem PySem.Spec L2
def frz:Md->Md
 | .own .i=>.own .i
 | .own _=>.own .f
 | m=>m
theorem b2c(h:SlotR K H F m o d f):SlotR K H [] (frz m) o d []:=by
 have hc:Same (cut H F) (cut H []):=fun a x ha=>i7 (by simp) (i4 a x ha)
 have key:∀u:Ty,(∃v,o=some v/\Own K H F u v d f)->SlotR K H [] (.own .f) o d []:=fun u ⟨v,e,q⟩=>⟨v,e,by
  have hd:Den K H v d:=q.den;simp only [Own];exact⟨trivial,hd.up fun a x ha=>i7 (by simp) ha⟩⟩
 cases m with
 | dead=>rfl
 | own u=>
  cases u with
  | i=>
   obtain⟨v,e,q⟩:=h;refine⟨v,e,?_⟩;simp only [Own] at q ⊢;exact⟨trivial,q.2.1,q.2.2.up hc⟩
  | f=>exact key _ h
  | l u=>exact key _ h
  | tp us=>exact key _ h
  | d kt u=>exact key _ h
 | exc=>obtain⟨_,h2⟩:=h.frame (H':=H) (F':=[]) hc fun _ _=>rfl;exact⟨rfl,h2⟩
 | keys kt=>obtain⟨_,h2⟩:=h.frame (H':=H) (F':=[]) hc fun _ _=>rfl;exact⟨rfl,h2⟩
 | pin v=>exact⟨rfl,h.2⟩
 | fn Φ=>obtain⟨_,h2⟩:=h.frame (H':=H) (F':=[]) hc fun _ _=>rfl;exact⟨rfl,h2⟩
theorem a4c:∀{M:List Md} {Z:List D} {σ:L2.St} {G:List av},StAll K H F M Z σ G->StAll K H [] (M.map frz) Z σ []
 | [],_,_,_,h=>by simp only [StAll] at h;obtain⟨rfl,rfl,_⟩:=h;exact K2
 | m :: M,_,_,_,h=>by
  simp only [StAll] at h;obtain⟨d,Z,o,σ,f,g,rfl,rfl,rfl,h1,h2⟩:=h;exact j8 (f:=[]) (g:=[]) (b2c h1) (a4c h2)
end VS
namespace VS
open PySem PySem.Spec L2
section
variable {X:Cx}{M ML:List Md}{u:Ty}{e:Expr}{f:EvE}{pos:ek}
theorem StR.free{Z:List D}(S:StR K M Z σ H P F)(hM:M.map frz=M):StR K M Z σ H P []:=by
 obtain⟨G,h1,_,_⟩:=S.all;have:=a4c h1;rw [hM] at this;exact⟨⟨[],this,br,fun a ha=>(nomatch ha)⟩,fun a ha=>(nomatch ha),S.prot.trans fun a x ha=>i7 (by simp) (i4 a x ha)⟩
end
end VS
namespace PySem
open Sem (wp)
set_option maxRecDepth 100000
def Heap.RawDict(hp:bL)(d:av)(rows:Array dY)(ep:Nat):Prop:=∃u,hp.get? d=some u/\u.ExactDict/\u.data=.dict rows ep
section
variable {prog:bh}{w:bE}{A:bx}{E:ai->ak->Prop}{sh:ak}{d it:av}{rows:Array dY}{ep i:Nat}
theorem Heap.RawDict.at{h h':bL}(x:h.RawDict d rows ep)(e:∀o,h.get? d=some o->h'.get? d=some o):h'.RawDict d rows ep:=let⟨u,hu,r⟩:=x;⟨u,e _ hu,r⟩
theorem Heap.RawDict.typeIs(x:sh.heap.RawDict d rows ep):sh.TypeIs (.ref d) "dict":=let⟨u,hu,r,_⟩:=x;⟨u,hu,r.1⟩
theorem b2d(h0:(d == dF)=false)(hm:sh.heap.RawDict d rows ep)
  (q:Q (.ref sh.heap.objs.size) {sh with heap:=sh.heap.push {cls:=.type "dict_keyiterator",data:=.fields #[.ref d,.int 0 0,.int rows.size 0,.int ep 0]}}) :
  aM (aU prog w) A (pE (.ref d)) Q E sh:=by
 obtain⟨u,hu,hx,uE⟩:=id hm;refine nS hm.typeIs qu (bM qu hm.typeIs F.entry_dict_iter ?_ (F.args_dict_iter_1 _));unfold Builtin.«dict.__iter__»;refine ae ?_;unfold Builtin.Dict.dictSlotNone;refine ae (iD hm.typeIs ?_);show aM _ _ (pure (be d)) _ _ sh;refine ag ?_;show aM _ _ (iJ d >>= _) _ _ sh;unfold iJ;rw [aO (by rw [h0];exact bB)];refine ae (ag (ae (cB hu uE (ae (jb hu uE ?_)))));refine ae (dX (ag ⟨_,rfl,"dict_keyiterator",_,⟨_,aR _ rfl,rfl⟩,dZ.lookup,?_⟩));simpa [cR] using q
theorem b2e(hI:sh.heap.IsKeyIter it d i rows.size ep)(hm:sh.heap.RawDict d rows ep)(hi:i < rows.size)
  (q:∀h',h'.IsKeyIter it d (i + 1) rows.size ep->dN it sh.heap h'->Q (some rows[i].key) {sh with heap:=h'}):aM (aU prog w) A (gY (.ref it)) Q E sh:=by
 obtain⟨x,hx,pG,kI⟩:=id hI;obtain⟨u,hu,_,oP⟩:=id hm;unfold gY;refine ae (fR (cx (name:=cM "__next__") hI.typeIs dZ (bM dZ hI.typeIs qV ?_ (qw _))));refine ae (ag (ae (ae ?_)))
 first|refine ae (fC hI.typeIs (ag ?_))|refine ae (gK hI.typeIs (ag ?_))
 refine ae (ij hx kI ?_);simp only [show sg "dict_keyiterator"=false from by decide,df,fK];show aM _ _ (if (be d == cD)=true then _ else _) _ _ sh;rw [aO (show ¬ (be d == cD)=true from bB)];refine ae (ag (ae (cB hu oP ?_)));rw [aO (by simp)];refine ae (ag (ae (jb hu oP ?_)));rw [aO (by simp)];refine ag ?_;simp only [show ¬ (i:Int) < 0 from by lia,fK,bw,bG hi];refine ae ?_
 first|refine ae (fC hI.typeIs (ag ?_))|refine ae (gK hI.typeIs (ag ?_))
 refine ae (Dw hI.typeIs ?_);show aM _ _ (setField (.ref it) 1 (cR ((i:Int) + 1)) >>= _) _ _ sh;refine ae (e_ hx kI (by simp) ?_);have qN:(sh.heap.update it (yh (·.setIfInBounds 1 (cR ((i:Int) + 1))))).IsKeyIter it d (i + 1) rows.size ep:=
  ⟨_,bV _ hx (Em (jE kI _)),(eD.cls_mapFields ..).trans pG,by rw [jE kI];simp [cR]⟩
 refine ae (bI ?_);refine ae (Dw (s:={sh with heap:=sh.heap.update it (yh (·.setIfInBounds 1 (cR ((i:Int) + 1))))}) qN.typeIs ?_);show aM _ _ (pure rows[i].key) _ _ _;exact ag (ag ⟨_,rfl,ag (q _ qN (bN ..))⟩)
theorem b2f(hh:A.handled=none)(hI:sh.heap.IsKeyIter it d i rows.size ep)(hm:sh.heap.RawDict d rows ep)(hi:rows.size<=i)
  (q:∀h',bL.ExtBut it sh.heap h'->Q none {sh with heap:=h'}):aM (aU prog w) A (gY (.ref it)) Q E sh:=by
 obtain⟨x,hx,pG,kI⟩:=id hI;obtain⟨u,hu,_,oP⟩:=id hm;unfold gY;refine ae (fR (cx (name:=cM "__next__") hI.typeIs dZ (bM dZ hI.typeIs qV ?_ (qw _))));refine ae (ag (ae (ae ?_)))
 first|refine ae (fC hI.typeIs (ag ?_))|refine ae (gK hI.typeIs (ag ?_))
 refine ae (ij hx kI ?_);simp only [show sg "dict_keyiterator"=false from by decide,df,fK];show aM _ _ (if (be d == cD)=true then _ else _) _ _ sh;rw [aO (show ¬ (be d == cD)=true from bB)];refine ae (ag (ae (cB hu oP ?_)));rw [aO (by simp)];refine ae (ag (ae (jb hu oP ?_)));rw [aO (by simp)];refine ag ?_;simp only [show ¬ (i:Int) < 0 from by lia,fK,bw,dU hi];refine ae ?_
 first|refine ae (fC hI.typeIs (ag ?_))|refine ae (gK hI.typeIs (ag ?_))
 show aM _ _ (setField (.ref it) 0 .none >>= _) _ _ sh;refine ae (e_ hx kI (by simp) ?_);show aM _ _ (newExc (.type "StopIteration") [] >>= _) _ _ _;refine ae ?_;simp only [newExc,newTuple];refine ae (dX ?_ (by size_fits));refine ae (m:=l_ _ _) (wpAny_of_eq (a:=cD) (by first|rfl|(simp only [l_];rfl)) ?_);refine dX ?_ (by size_fits);simp only [raiseNew];refine ae (wpAny_handled ?_);rw [show A.in1.handled=none from hh];refine ae (ag (wpAny_throw ?_));refine ae (gu (b:=true) (T:="StopIteration") ⟨_,aR _ rfl,rfl⟩ isSubtype_stop ?_);exact ag (q _ (((bN ..).extBut.push _).push _))
end
end PySem
namespace VS
open PySem PySem.Spec L2
open PyProof.Rows (KeyOrd SortKind SortSt keyKind' keyLt' seqObj listItems_at listUpdate_at seqEpoch_at arrOf failedOf get?_update_seq list_sort_plain general' tuples' size_push' slot_list_sort entry_list_sort args_list_sort kind_sorted plain_sorted entry_sorted args_sorted1)
open PySem.W (kas_sort kas_ask kas_item kat_run kat_snds)
section
variable {prog:bh}{w:bE}{A:bx}{E:ai->ak->Prop}{sh:ak}{vs:List ai}{κ:oX}{O:KeyOrd}{key:Nat->O.α}
def Kept(h h':bL):Prop:=∀b o,h.get? b=some o->h'.get? b=some o
theorem Kept.push(x:Kept h h')(o:eD):Kept h (h'.push o):=fun b u e=>aw _ (x b u e)
structure Sortable (prog:bh) (w:bE) (A:bx) (h0:bL) (ks:List ai) (κ:oX) (O:KeyOrd) (key:Nat->O.α):Prop where
 kind:2<=ks.length->∀(s:ak) (E:ai->ak->Prop) (Q:oX->ak->Prop),Kept h0 s.heap->Q κ s->aM (aU prog w) A (keyKind' ks.toArray) Q E s
 lt:∀(s:ak) (i j:Nat) (C:Bool->ak->Prop),Kept h0 s.heap->i < ks.length->j < ks.length->C (O.blt (key i) (key j)) s->aM (aU prog w) A (keyLt' κ (ks.getD i cD) (ks.getD j cD)) C (fun _ _=>False) s
end
end VS
namespace VS
open PySem PySem.Spec L2
open PyProof.Rows (IntsAre seqObj)
theorem a5R:∀{ns:List Int} {xs:List V},DenAll K H xs (ns.map .int)->xs=ns.map V.int:=by
 intro ns
 induction ns with
 | nil=>intro xs h;exact h.nil_inv
 | cons n ns ih=>
  intro xs h;obtain⟨v,r,rfl,h1,h2⟩:=h.cons_inv;rw [h1.int_inv,ih h2];rfl
section
variable {X:Cx}{pins:List (av × eD)}{σ:L2.St}{H:Hp}{s:ak}
theorem a3B:∀{l:List α} {p:List Nat},p.Perm (aJ l.length)->(p.map fun i=>l.getD i d).Perm l:=by
 intro l p h;refine (h.map _).trans (List.Perm.of_eq ?_);refine mw fun i=>?_
 rw [bz];by_cases c:i < l.length
 ·rw [iH c,El,aB c,aX,aB c];rfl
 ·rw [fB (by simpa using c),fB (by simpa using c)];rfl
end
section
variable {X:Cx}{M:List Md}{a:Expr}{fa:EvE}{ca:Cat}{pos p:ek}
def b7F:D->Option (List D)
 | .dict kvs=>some (kvs.map (·.1))
 | _=>none
theorem a1x:∀{kvs:List (D × D)} {es:List (D × V × V)},DenKV K H es kvs->DenAll K H (es.map (·.2.1)) (kvs.map (·.1))
 | [],es,h=>by
  simp only [DenKV] at h;subst h;exact denAll_nil
 | (k,d) :: r,es,h=>by
  simp only [DenKV] at h;obtain⟨e,q,rfl,h2,h3,h4,h5⟩:=h;exact denAll_cons h3 (a1x h5)
end
end VS
namespace VS
open PySem PySem.Spec L2
def b2g(z:av)(j:Int):HO:=.ext fun h=>∃t u v,IsRange h z 0 j 1 t u v
section
variable {X:Cx}{M ML:List Md}{a:Expr}{fa:EvE}{ca:Cat}{w:Ty}{pos jc p p2:ek}
theorem a5S:CallR X (.type "range") (fun xs H Q=>∃j,xs=[.int j]/\∀z,H z=none->Q (.ref z) (upd H z (b2g z j))):=by
 intro pins s σ H xs us Q I rv h;obtain⟨j,rfl,q⟩:=h;obtain⟨u,rfl,rx⟩:=vals1 rv;obtain⟨t,rfl⟩:=rx;refine call_range_1 ⟨.ref s.heap.objs.size,_,I.laid (a:=s.heap.objs.size) (o:=b2g s.heap.objs.size j) (t':=s.toks + 1 + 1) (fun _ _ q=>aw _ q) (aF _) ?_,rfl,q _ (I.hok.fresh (aF _))⟩;exact⟨⟨_,_,_,IsRange.new ..⟩,⟨_,aR _ rfl⟩,fun x1 x2 ⟨t,u,v,ho⟩ hk=>⟨t,u,v,hk _ ho⟩⟩
theorem a7A(hc:X.calm=true):CallR X (.type "list") (fun xs H Q=>∃p j,xs=[.ref p]/\H p=some (b2g p j)/\-(2 ^ 62)<=j/\j<=1000000/\∀l,H l=none->Q (.ref l) (upd H l (.lst ((aJ j.toNat).map fun (k:Nat)=>V.int (0 + k))))):=by
 intro pins s σ H xs us Q I rv h;obtain⟨p,j,rfl,hH,h1,h2,q⟩:=h;obtain⟨u,rfl,rx⟩:=vals1 rv;cases (show u=be p from rx)
 obtain⟨t,u,v,hr⟩:=(show ObjOk X.prog X.w H s.heap p (b2g p j) from I.hok p _ hH).1;have hn:zV 0 j 1=j.toNat:=by rw [rangeSize_one];split <;> lia
 refine call_list_range (n:=j.toNat) (I.ok.hd hc) hr (small_one (by decide) (by decide) h1 (by lia)) hn (by lia) fun h' tk acc c hk ho lH=>?_
 have hz:aS=16777216:=dv;refine⟨.ref s.heap.objs.size,_,I.laid (t':=tk) hk (aF _) (show ObjOk X.prog X.w _ h' _ (.lst ((aJ j.toNat).map fun (k:Nat)=>V.int (0 + k))) from⟨by rw [ar,bJ];lia,acc.toList,c,?_,by rw [vc];exact ho⟩),rfl,q _ (I.hok.fresh (aF _))⟩;refine a8I (by rw [ar,bJ,cY];exact lH.1.symm) fun i x u g1 g2=>?_
 rw [cZ] at g2;obtain⟨t',rfl⟩:=lH.2 i u g2;rw [bz] at g1;have hi:i < j.toNat:=by have:=(Array.getElem?_eq_some_iff.mp g2).1;rw [lH.1] at this;exact this
 rw [iH hi] at g1;cases g1
 exact⟨t',by simp⟩
def a2D(a:EvE):EvE:=fun Z=>(a Z).bind fun d=>(asI d).bind fun n=>if -(2 ^ 62)<=n/\n<=1000000 then some (.list (v6 0 n.toNat)) else none
theorem a5T(hc:X.calm=true)(hm:X.mg "list"=none)(By:X.mg "range"=none)(ha:PX X M a fa ca)(hg:Gl X "list":=by rfl)(ur:Gl X "range":=by rfl)(he:au [a] X.env=(false,bW a X.env) :: au [] X.env:=by rfl)(fD:(b_ jc (au [] X.env)).any (·.1)=false:=by rfl)
  (lj:au [.Call (.Name "range" p2) [a] [] jc] X.env=(false,bW (.Call (.Name "range" p2) [a] [] jc) X.env) :: au [] X.env:=by rfl) (n_:(b_ pos (au [] X.env)).any (·.1)=false:=by rfl) :
  PX X M (.Call (.Name "list" p) [.Call (.Name "range" p2) [a] [] jc] [] pos) (a2D fa) (.new (.l .i)):=by
 obtain⟨ta,pa,qa⟩:=ha.out;refine .mk ⟨_,E5 (a7A hc) hg hm PyProof.Rows.Boot.«list» (k9 (E5 a5S ur By PyProof.Rows.boot_range (k9 pa o7 he) (by decide) (by decide) he fD) o7 lj) (by decide) (by decide) lj n_,fun Z σ H P F d Q S hf q=>?_⟩;obtain⟨x,h1,g1⟩:=bnd hf;obtain⟨n,h2,g2⟩:=bnd g1;cases P2 h2
 by_cases c:-(2 ^ 62)<=n/\n<=1000000
 ·rw [aE c] at g2;cases g2
  refine qa Z σ H P F _ _ S h1 fun v H1 e1 r1=>⟨n,by rw [r1.den.int_inv],fun z hz=>⟨z,n,rfl,i0,c.1,c.2,fun l hl=>?_⟩⟩
  have e2:=e1.trans (j9 hz (b2g z n));exact q _ _ (e2.trans (j9 hl _)) (a0N a0P (Q1 _ _) e2 hl (S.lst' e2))
 ·rw [aO c] at g2;cases g2
end
end VS
namespace VS
open PySem PySem.Spec L2
theorem b4F:∀{us:List α},us.length=1->∃a,us=[a]
 | [a],_=>⟨a,rfl⟩
theorem b2h:∀{us:List α},us.length=2->∃a b,us=[a,b]
 | [a,b],_=>⟨a,b,rfl⟩
theorem b7G:∀{us:List α},us.length=3->∃a b c,us=[a,b,c]
 | [a,b,c],_=>⟨a,b,c,rfl⟩
theorem b9W:∀{us:List α},us.length=4->∃a b c d,us=[a,b,c,d]
 | [a,b,c,d],_=>⟨a,b,c,d,rfl⟩
theorem c1r:∀{us:List α},us.length=5->∃a b c d e,us=[a,b,c,d,e]
 | [a,b,c,d,e],_=>⟨a,b,c,d,e,rfl⟩
theorem c1s:∀{us:List α},us.length=6->∃a b c d e f,us=[a,b,c,d,e,f]
 | [a,b,c,d,e,f],_=>⟨a,b,c,d,e,f,rfl⟩
end VS
namespace VS
open PySem PySem.Spec L2
open PyProof.Rows (KeyOrd SortKind SortSt keyKind' keyLt' seqObj listItems_at listUpdate_at seqEpoch_at arrOf failedOf get?_update_seq general' size_push' ksk_end ksk_tail)
open PySem.W (kas_sort kas_ask kas_item kat_run kat_snds)
section
variable {prog:bh}{w:bE}{A:bx}{E:ai->ak->Prop}{sh:ak}{vs ks:List ai}{κ:oX}{O:KeyOrd}{key:Nat->O.α}{R:bL->Prop}
structure SortableR (prog:bh) (w:bE) (A:bx) (R:bL->Prop) (ks:List ai) (κ:oX) (O:KeyOrd) (key:Nat->O.α):Prop where
 kind:2<=ks.length->∀(s:ak) (E:ai->ak->Prop) (Q:oX->ak->Prop),R s.heap->Q κ s->aM (aU prog w) A (keyKind' ks.toArray) Q E s
 lt:∀(s:ak) (i j:Nat) (C:Bool->ak->Prop),R s.heap->i < ks.length->j < ks.length->C (O.blt (key i) (key j)) s->aM (aU prog w) A (keyLt' κ (ks.getD i cD) (ks.getD j cD)) C (fun _ _=>False) s
end
end VS
namespace VS
open PySem PySem.Spec L2
def Itd(a:av)(es:List (D × V × V)):It:=
 ⟨fun i H=>H a=some (f8 a es)/\i < es.length,fun i H x H'=>H'=H/\∃e,es[i]?=some e/\x=e.2.1,fun i H=>H a=some (f8 a es)/\es.length<=i⟩
theorem b0l(a it:av)(es:List (D × V × V))(hL:D0 es=false):Turn P w K tg (Itd a es) [it] it (fun i h=>h.IsKeyIter it a i es.length es.length) where
 mem:=by simp
 obj:=fun i h st b hb=>by
  have e:b=it:=by simpa using hb
  subst e;obtain⟨o,e,c,d⟩:=st;exact⟨o,e,fun v z=>by rw [d] at z;cases z⟩
 keep:=fun i h h' st k=>st.at fun o e=>k it (by simp) o e
 item:=by
  intro X hP hw hK hc i pins s σ H E I hf st hg;subst hP hw hK;obtain⟨hH,hi⟩:=hg;obtain⟨h0,hl,hn,o,ents,g1,g2,g3,g4⟩:=V9 I hH hL;have je:ents.size=es.length:=by rw [dJ g4];exact cY.symm
  have kc:i < ents.size:=by lia
  have hx:es[i]?=some es[i]:=aB hi;obtain⟨y,hy,r⟩:=Y8 g4 hx;have AO:ents[i]=y:=by
   rw [cZ,bG kc] at hy;exact aD hy
  obtain⟨f0,f1,f2,f3,f4,f5⟩:=hf it (by simp);have pD:s.heap.IsKeyIter it a i ents.size es.length:=by rw [je];exact st
  refine b2e pD ⟨o,g1,g2,g3⟩ kc fun h' nK sb=>?_
  have I1:Inv X pins σ H {s with heap:=h'}:=I.turned (t':=s.toks) (fun b o hb e=>(sb.2 b hb).trans e) f0 f1 f3 f4 f5;rw [je] at nK;obtain⟨o,e,c,d⟩:=id nK;exact⟨ents[i].key,rfl,a8t (s:={s with heap:=h'}) e c d (by decide) ⟨es[i].2.1,H,I1,by rw [AO];exact r.2.1,⟨rfl,es[i],hx,rfl⟩,nK,fun b hb=>(hf b hb).1⟩⟩
 done:=by
  intro X hP hw hK hc i pins s σ H E I hf st hg;subst hP hw hK;obtain⟨hH,hi⟩:=hg;obtain⟨h0,hl,hn,o,ents,g1,g2,g3,g4⟩:=V9 I hH hL;have je:ents.size=es.length:=by rw [dJ g4];exact cY.symm
  obtain⟨f0,f1,f2,f3,f4,f5⟩:=hf it (by simp);have pD:s.heap.IsKeyIter it a i ents.size es.length:=by rw [je];exact st
  exact b2f (I.ok.hd hc) pD ⟨o,g1,g2,g3⟩ (by lia) fun h' eb=>⟨rfl,I.turned (t':=s.toks) (fun b o hb e=>eb b o hb e) f0 f1 f3 f4 f5⟩
 self:=fun _ _ _ _ _ st h=>wpAny_pyIter_keyiter st h
section
variable {X:Cx}{M:List Md}{tg a:Expr}{fa:EvE}{ca:Cat}
def b7H(ta:TE):TI:=fun σ H R=>ta σ H fun x H1=>∃p es,x=.ref p/\H1 p=some (f8 p es)/\D0 es=false/\R (Itd p es) H1
theorem b4G(hl:PE X a ta):PI X tg a (b7H ta):=by
 intro pins s σ H R I h;refine L2.thn (hl pins s σ H _ I h) fun v s1 ⟨x,H1,I1,r1,q1⟩=>?_
 obtain⟨p,es,e,hH,hL,q⟩:=q1;subst e;cases r1
 obtain⟨h0,hl,hn,o,ents,g1,g2,g3,g4⟩:=V9 I1 hH hL;have je:ents.size=es.length:=by rw [dJ g4];exact cY.symm
 refine b2d h0 ⟨o,g1,g2,g3⟩ ?_;refine⟨s1.heap.objs.size,[s1.heap.objs.size],_,_,H1,rfl,I1.kept (t':=s1.toks) fun b o e=>aw _ e,b0l p _ es hL,⟨_,aR _ rfl,rfl,by rw [je];rfl⟩,fun b hb=>?_,q⟩;have e:b=s1.heap.objs.size:=by simpa using hb
 subst e;exact I1.fpOk (aF _) (I1.hok.fresh (aF _))
theorem a7B:Walks (Itd p es) (fun H=>H p=some (f8 p es)) (es.map (·.2.1)) where
 go:=fun i H h hi=>⟨h,by simpa using hi⟩
 stop:=fun i H h hi=>⟨h,by simpa using hi⟩
 yld:=fun i H x H' h hi y=>by
  obtain⟨e,r,hr,rfl⟩:=y;exact⟨e,by rw [bz,hr];rfl⟩
def iDk(a:EvE):EvA:=fun Z=>(a Z).bind fun d=>(b7F d).bind fun ks=>if C1 ks then none else some ks
theorem b2i(h:PX X M a fa ca)(hc:frozen ca:=by trivial):PIX X M tg a (iDk fa):=by
 obtain⟨t,p,q⟩:=h.out;refine⟨_,b4G p,fun Z σ H P F ds R S hf k=>?_⟩;obtain⟨d,h1,h2⟩:=bnd hf;cases d with
 | dict kvs=>
  have lr:(if C1 (kvs.map (·.1)) then none else some (kvs.map (·.1)))=some ds:=h2;have hL:C1 (kvs.map (·.1))=false:=by
   cases c:C1 (kvs.map (·.1)) with
   | false=>rfl
   | true=>rw [c] at lr;cases lr
  rw [hL] at lr;cases lr
  refine q Z σ H P F _ _ S h1 fun v H1 e1 r1=>?_
  obtain⟨aa,es,rfl,k1,k2⟩:=(J6 hc r1).dict_inv;exact⟨aa,es,rfl,i4 _ _ k1,by rw [D0,k2.keys];exact hL,k _ _ _ H1 e1 a7B (fun H2 e2=>e2 _ _ k1) (a1x k2)⟩
 | _=>cases h2
end
end VS
namespace VS
open PySem PySem.Spec L2
def a5U(F:List av)(H H2:Hp):Hp:=fun a=>if a∈F then H a else H2 a
theorem a0q(h:a∈F):a5U F H H2 a=H a:=aE h
theorem o9(h:a∉F):a5U F H H2 a=H2 a:=aO h
def b7I(sp:Sp):Sp:=fun vs H Q E=>∃F:List av,(∀a∈F,∃ys:MuO,H a=some ys.1)/\sp vs (cut H F) (fun v H2=>(∀a∈F,H2 a=none)->Q v (a5U F H H2)) E
section
variable {P:bh}{w:bE}{K:af}{mg:bc->Option ai}{base:bL}{k:Nat}{f:av}{fd:cV}{ps:List bc}{sp:Sp}{H:Hp}{h:bL}{F:List av}
theorem a0X(hF:∀a∈F,∃ys:MuO,H a=some ys.1)(e:H b=some o)(n:¬ Mu o):b∉F:=fun z=>by
 obtain⟨ys,hy⟩:=hF b z;rw [e] at hy;cases hy
 exact n ys.2
theorem b7J(h:Pin a o):¬ Mu o:=by cases o <;> first|exact fun z=>z|exact fun _=>h
theorem b4H(hk:HOk P w H h)(hF:∀a∈F,∃ys:MuO,H a=some ys.1):HOk P w (cut H F) h:=fun a o e=>by
 obtain⟨_,e'⟩:=n0 e;exact (hk a o e').stay (fun b u _ q=>q) (fun b q=>i7 (a0X hF q (fun z=>z)) q) fun b xs q=>i7 (a0X hF q (b7J xs.2)) q
theorem w8(n:H a=none):cut H F a=none:=by
 by_cases q:a∈F
 ·exact T5 q
 ·rw [V3 q];exact n
theorem a7C(F0:FnOk P w K mg base CX0 k f fd ps sp):FnOk P w K mg base CX0 k f fd ps (b7I sp) where
 len:=fun vs H Q E ⟨F,_,hs⟩=>F0.len _ _ _ _ hs
 run:=fun A outer s H args us vs Q E hr he hb hv ⟨F,hF,hs⟩=>by
  have kK:Env0 P w K mg base A outer s (cut H F):=⟨he.frames,he.mod,fun b o e=>⟨(he.bs b o e).1,w8 (he.bs b o e).2⟩,he.bsz,he.funs,fun b hb=>w8 (he.frf b hb),b4H he.hok hF,he.bare,fun x hx p e=>let⟨qs,t,e1,e2⟩:=he.tabs x hx p e;⟨qs,t,i7 (a0X hF e1 (fun z=>z)) e1,e2⟩⟩;refine eH (F0.run A outer s (cut H F) args us vs _ E hr kK hb hv hs) fun r s' hq=>?_
  cases r with
  | error e=>exact hq
  | ok fl=>
   cases fl with
   | ret u=>
    obtain⟨v,H2,os,bare,un,nk,rv,q⟩:=(show CE outer P w (cut H F) s _ u s' from hq);have there:∀a∈F,∃o,s.heap.get? a=some o:=fun a ha=>by
     obtain⟨⟨ys,hm⟩,hy⟩:=hF a ha;have:=he.hok a _ hy;cases ys with
     | lst xs=>obtain⟨_,bU,n,r,e⟩:=this;exact⟨_,e⟩
     | dK kvs=>obtain⟨_,_,vs,_,ob,es,ep,e,_⟩:=this;exact⟨_,e⟩
     | ext φ=>obtain⟨_,e,_⟩:=this;exact e
     | _=>exact bS hm
    have zr:∀a∈F,H2 a=none:=fun a ha=>by
     obtain⟨o,ho⟩:=there a ha;exact un.free a o ho (T5 ha) (by simp)
    have Bu:∀{b:av},H b=none->b∉F:=fun {b} n z=>by
     obtain⟨ys,hy⟩:=hF b z;rw [n] at hy;cases hy
    refine (show CE outer P w H s Q u s' from⟨v,a5U F H H2,os,bare,?_,?_,rv,q zr⟩)
    ·refine⟨fun b o q n hb hx=>un.keep b o q (w8 n) hb hx,fun b o q n hb hx=>un.slot b o q (w8 n) hb hx,fun b o q n hx=>?_,un.there,fun b xs q=>?_,fun b o u q=>?_,fun b ps q=>?_⟩
     ·rw [o9 (Bu n)];exact un.free b o q (w8 n) hx
     ·have n:=a0X hF q (fun z=>z);rw [o9 n];exact un.tups b xs (i7 n q)
     ·have n:=a0X hF q (fun z=>z);rw [o9 n];exact un.frzs b o u (i7 n q)
     ·have n:=a0X hF q (fun z=>z);rw [o9 n];exact un.tbls b ps (i7 n q)
    ·intro a o e;by_cases ha:a∈F
     ·rw [a0q ha] at e;have hk:∀u,s.heap.get? a=some u->s'.heap.get? a=some u:=fun u q=>un.keep a u q (T5 ha) (fun z=>by rw [he.frf a z] at e;cases e) (by simp)
      obtain⟨⟨ys,hm⟩,hy⟩:=hF a ha;have ho:=he.hok a _ hy;have eo:o=ys:=aD (e.symm.trans hy);rw [eo];cases ys with
      | lst xs=>obtain⟨z,bU,n,r,e⟩:=ho;exact⟨z,bU,n,r,hk _ e⟩
      | dK kvs=>obtain⟨z,y,vs,r,ob,es,ep,e,c⟩:=ho;exact⟨z,y,vs,r,ob,es,ep,hk _ e,c⟩
      | ext φ=>obtain⟨h1,⟨ob,h2⟩,h3⟩:=ho;exact⟨h3 _ _ h1 hk,⟨ob,hk _ h2⟩,h3⟩
      | _=>exact bS hm
     ·rw [o9 ha] at e;have jK:∀{b:av} {o:HO},H2 b=some o->a5U F H H2 b=some o:=fun {b} {o} q=>by
       rw [o9 (fun z=>by rw [zr b z] at q;cases q)];exact q
      exact (nk a o e).stay (fun b u _ q=>q) (fun b q=>jK q) fun b xs q=>jK q
   | next=>exact bS hq
   | brk=>exact bS hq
   | cont=>exact bS hq
end
section
variable {X:Cx}{M:List Md}{a e0:Expr}{es:List Expr}{fa:EvE}{f:EvA}{ca:Cat}{u:Ty}{x:bc}{p pos:ek}
theorem b0m(W:Has X.prog X.w X.K X.mg X.base x k ps sp):Has X.prog X.w X.K X.mg X.base x k ps (b7I sp):=by
 obtain⟨f,fd,F,b⟩:=W.ex;exact⟨f,fd,a7C F,b⟩
def PAF(X:Cx)(M:List Md)(es:List Expr)(f:EvA):Prop:=
 ∃t,PA X es t/\∀(Z:List D) (σ:L2.St) (H P:Hp) (F:List av) (ds:List D) (Q:List V->Hp->Prop),StE X.K M Z σ H P F->f Z=some ds->(∀vs H',Same H H'->DenAll X.K (cut H' F) vs ds->Q vs H')->t σ H Q
theorem N4:PAF X M [] b8:=⟨_,o7,fun Z σ H P F ds Q S hf q=>by cases hf;exact q [] H (Same.refl _) denAll_nil⟩
theorem w9(ha:PX X M a fa ca)(hr:PAF X M es fr)(hc:frozen ca:=by trivial)(hs:au (a :: es) X.env=(false,bW a X.env) :: au es X.env:=by rfl):PAF X M (a :: es) (a5 fa fr):=by
 obtain⟨ta,pa,qa⟩:=ha.out;obtain⟨tr,pr,qr⟩:=hr;refine⟨_,k9 pa pr hs,fun Z σ H P F ds Q S hf q=>?_⟩;obtain⟨x,h1,hf⟩:=bnd hf;obtain⟨xs,h2,hf⟩:=bnd hf;cases hf
 exact qa Z σ H P F _ _ S h1 fun v H1 e1 r1=>qr Z σ H1 P F _ _ (S.grow e1) h2 fun vs H2 e2 r2=>q (v :: vs) H2 (e1.trans e2) (denAll_cons ((J6 hc r1).up (K6 e2)) r2)
theorem H9(W:Has X.prog X.w X.K X.mg X.base x k ps (spD X.K n m u))(hr:Room k X.A)(h:PAF X M (e0 :: es) f)(hl:(e0 :: es).length=n:=by rfl)(hfl:∀Z ds,f Z=some ds->ds.length=(e0 :: es).length)
  (hg:Gl X x:=by rfl) (jM:(x == ("__debug__":bc))=false:=by decide) (he:au (e0 :: es) X.env=(false,bW e0 X.env) :: au es X.env:=by rfl) (fD:(b_ pos (au es X.env)).any (·.1)=false:=by rfl) :
  PX X M (.Call (.Name x p) (e0 :: es) [] pos) (eCl m f) (.new u):=by
 obtain⟨t,pa,qa⟩:=h;refine .mk ⟨_,a7c (b0m W) hr pa hg jM he fD,fun Z σ H P F d Q S hf q=>?_⟩;obtain⟨ds,h1,hf⟩:=bnd hf;refine qa Z σ H P F ds _ S h1 fun vs H1 e1 r1=>?_
 show b7I (spD X.K n m u) (vs ++ []) H1 Q E0;rw [aZ];refine⟨F,S.lst' e1,ds,d,by rw [r1.length,hfl Z ds h1,hl],r1,hf,fun v H2 fp e o nd fr hz=>q v (a5U F H1 H2) ?_ ?_⟩
 ·intro b o' hb;have qK:=e1 b o' hb;by_cases c:b∈F
  ·rw [a0q c];exact qK
  ·rw [o9 c];exact e b o' (i7 c qK)
 ·have zf:∀a∈fp,a∉F:=fun a ha z=>by
   obtain⟨ys,hy⟩:=o.lst u a ha;rw [hz a z] at hy;cases hy
  refine⟨fp,Own.frame (fun b o' hb=>?_) u o (fun a ha=>o9 (zf a ha)),nd,fun a ha=>?_⟩
  ·obtain⟨n1,n2⟩:=n0 hb;have n3:b∉F:=fun z=>by rw [hz b z] at n2;cases n2
   exact i7 (fun z=>(ay.mp z).elim n1 n3) (by rw [o9 n3];exact n2)
  ·have:=fr a ha;rw [V3 (zf a ha)] at this;exact e1.free this
end
end VS
namespace VS
open PySem PySem.Spec L2
def Junk(H:Hp)(C:List av):Prop:=∀a∈C,∀u,H a=some u->∃o,u=.frz o (.own a)
section
variable {K:af}{H H':Hp}{C F:List av}
theorem Junk.cut(h:Junk H C):Junk (cut H F) C:=fun a ha u e=>h a ha u (n0 e).2
theorem Junk.out(h:Junk H C)(e:H a=some u)(n:∀o,u≠.frz o (.own a)):a∉C:=fun z=>by
 obtain⟨o,q⟩:=h a z u e;exact n o q
theorem b2j(h:Junk H C)(q:SqX K H a xs):SqX K (VS.cut H C) a xs:=by
 rcases q with (q|⟨o,q⟩)|q
 ·exact .inl (.inl (i7 (h.out q fun o z=>(nomatch z)) q))
 ·exact .inl (.inr ⟨o,i7 (h.out q fun o z=>by cases z) q⟩)
 ·exact .inr q
theorem b2k(h:Junk H C)(q:SqT K H a xs):SqT K (VS.cut H C) a xs:=by
 rcases q with (q|⟨o,q⟩)|q
 ·exact .inl (.inl (i7 (h.out q fun o z=>(nomatch z)) q))
 ·exact .inl (.inr ⟨o,i7 (h.out q fun o z=>by cases z) q⟩)
 ·exact .inr q
theorem a2E(h:Junk H C)(q:H a=some (f8 a es)):VS.cut H C a=some (f8 a es):=
 i7 (h.out q fun o z=>by unfold f8 at z;cases z) q
mutual
theorem Den.junk(h:Junk H C):∀(d:a_) {v:V},Den K H v d->Den K (VS.cut H C) v d
 | .none,_,q=>by simpa only [Den] using q
 | .bool _,_,q=>by simpa only [Den] using q
 | .int _,_,q=>by simpa only [Den] using q
 | .str _,_,q=>by simpa only [Den] using q
 | .list ds,_,q=>by
  obtain⟨a,xs,rfl,h1,h2⟩:=q.list_inv;exact den_list (b2j h h1) (DenAll.junk h ds h2)
 | .tuple ds,_,q=>by
  obtain⟨a,xs,rfl,h1,h2⟩:=q.tup_inv;exact den_tup (b2k h h1) (DenAll.junk h ds h2)
 | .dict kvs,_,q=>by
  obtain⟨a,es,rfl,h1,h2⟩:=q.dict_inv;simp only [Den];exact⟨a,es,rfl,a2E h h1,DenKV.junk h kvs h2⟩
theorem DenAll.junk(h:Junk H C):∀(ds:List a_) {xs:List V},DenAll K H xs ds->DenAll K (VS.cut H C) xs ds
 | [],_,q=>by simpa only [DenAll] using q
 | d :: ds,_,q=>by
  obtain⟨v,r,rfl,h1,h2⟩:=q.cons_inv;exact denAll_cons (Den.junk h d h1) (DenAll.junk h ds h2)
theorem DenKV.junk(h:Junk H C):∀(kvs:List (a_ × a_)) {es:List (a_ × V × V)},DenKV K H es kvs->DenKV K (VS.cut H C) es kvs
 | [],_,q=>by simpa only [DenKV] using q
 | (k,d) :: r,_,q=>by
  simp only [DenKV] at q ⊢;obtain⟨x,es,h1,h2,h3,h4,h5⟩:=q;exact⟨x,es,h1,h2,Den.junk h k h3,Den.junk h d h4,DenKV.junk h r h5⟩
end
theorem b2l(a:av):VS.cut (VS.cut H C) F a=VS.cut (VS.cut H F) C a:=by
 unfold VS.cut;by_cases h1:a∈F <;> by_cases h2:a∈C <;> simp [h1,h2]
theorem W3(h:Junk H C)(q:Den K (VS.cut H F) v d):Den K (VS.cut (VS.cut H C) F) v d:=
 (Den.junk h.cut d q).up fun a o e=>by rw [b2l];exact e
mutual
theorem Own.junk(h:Junk H C):∀(u:Ty) {v:V} {d:a_} {fp:List av},Own K H F u v d fp->Own K (VS.cut H C) F u v d fp
 | .i,_,_,_,q=>by simp only [Own] at q ⊢;exact⟨q.1,q.2.1,W3 h q.2.2⟩
 | .f,_,_,_,q=>by simp only [Own] at q ⊢;exact⟨q.1,W3 h q.2⟩
 | .l u,_,_,_,q=>by
  simp only [Own] at q ⊢;rcases q with⟨h1,h2,q⟩|⟨a,xs,ds,fs,rfl,h1,rfl,rfl,h2⟩
  ·exact .inl ⟨h1,h2,W3 h q⟩
  ·exact .inr ⟨a,xs,ds,fs,rfl,i7 (h.out h1 fun o z=>(nomatch z)) h1,rfl,rfl,h2.imp fun v d f _ _ z=>Own.junk h u z⟩
 | .tp us,_,_,_,q=>by
  simp only [Own] at q ⊢;obtain⟨a,xs,ds,rfl,h1,h0,rfl,h2⟩:=q;exact⟨a,xs,ds,rfl,i7 (h.out h1 fun o z=>(nomatch z)) h1,h0,rfl,OwnTs.junk h us h2⟩
 | .d kt u,_,_,_,q=>by
  simp only [Own] at q ⊢;obtain⟨a,es,ds,fs,rfl,h1,rfl,rfl,h3,h2⟩:=q;exact⟨a,es,ds,fs,rfl,a2E h h1,rfl,rfl,⟨h3.1,fun x hx=>⟨(h3.2 x hx).1,W3 h (h3.2 x hx).2⟩⟩,h2.imp fun v d f _ _ z=>Own.junk h u z⟩
theorem OwnTs.junk(h:Junk H C):∀(us:List Ty) {xs:List V} {ds:List a_} {fp:List av},OwnTs K H F us xs ds fp->OwnTs K (VS.cut H C) F us xs ds fp
 | [],_,_,_,q=>by simpa only [OwnTs] using q
 | u :: us,_,_,_,q=>by
  simp only [OwnTs] at q ⊢;obtain⟨v,r,d,e,f,g,rfl,rfl,rfl,h1,h2⟩:=q;exact⟨v,r,d,e,f,g,rfl,rfl,rfl,Own.junk h u h1,OwnTs.junk h us h2⟩
end
theorem a5V(k:HOk P w H h)(j:Junk H C):HOk P w (VS.cut H C) h:=fun a o e=>by
 obtain⟨na,e'⟩:=n0 e;refine (k a o e').stay (fun b u _ q=>q) (fun b q=>i7 (j.out q fun o z=>(nomatch z)) q) fun b u q=>i7 (fun hb=>?_) q
 obtain⟨u,hu⟩:=u;obtain⟨ob,z⟩:=j b hb u q;subst z;have wL:b=a:=hu;exact na (wL ▸ hb)
theorem b0n(t:TabsIn K H)(j:Junk H C):TabsIn K (VS.cut H C):=fun x hx p e=>by
 obtain⟨qs,t',e1,e2⟩:=t x hx p e;exact⟨qs,t',i7 (j.out e1 fun o z=>(nomatch z)) e1,e2⟩
end
end VS
namespace VS
open PySem PySem.Spec L2 PyProof.Rows
def FnV(P:bh)(w:bE)(K:af)(mg:bc->Option ai)(base:bL)(k n:Nat)(u:Ty)(m:List D->Option D)(H:Hp)(v:V):Prop:=
 ∃fa fo,v=.ref fa/\H fa=some (.frz fo (.own fa))/\(∃fd,fo.data=.func fd)/\
  ∀(A:bx) (outer:List lQ) (s:ak) (us:List ai) (vs:List V) (Q:VK) (E:XK),Room k A->Env0 P w K mg base A outer s H->Vals vs us->spD K n m u vs H Q E->
   ir (aU P w) A (.call (.ref fa) ⟨us,[]⟩) (CR CX0 outer P w H s Q E) s
section
variable {X:Cx}{M:List Md}{a e0:Expr}{es:List Expr}{fa:EvE}{f:EvA}{ca:Cat}{u:Ty}{x:bc}{p pos:ek}
def b7K(X:Cx)(i k n:Nat)(u:Ty)(m:List D->Option D)(t:TA):TE:=fun σ H Q=>∃v,σ[i]?=some (some v)/\t σ H fun vs H1=>FnV X.prog X.w X.K X.mg X.base k n u m H1 v/\spD X.K n m u vs H1 Q E0
theorem b2m(hr:Room k X.A)(ha:PA X (e0 :: es) t)(hN:X.N[i]?=some x)(hv:Vis X.env.scope x)(hd:(x == ("__debug__":bc))=false)(gJ:(x == ("__classdict__":bc))=false)
  (he:au (e0 :: es) X.env=(false,bW e0 X.env) :: au es X.env) (fD:(b_ pos (au es X.env)).any (·.1)=false):PE X (.Call (.Name x p) (e0 :: es) [] pos) (b7K X i k n u m t):=by
 intro pins s σ H Q I ⟨v,e,h⟩;refine fH (L2.thn (C8 hN hv hd gJ pins s σ H (fun v' H'=>v'=v/\H'=H) I ⟨v,e,rfl,rfl⟩) fun u1 s1 ⟨v',H',I1,r1,z1,z2⟩=>?_);subst z1;subst z2;rw [he];refine PySem.W.callWith_of (P:=fun h=>∃fa fo fd,u1=.ref fa/\h.get? fa=some fo/\fo.data=.func fd) (by show ((false || (b_ pos (au es X.env)).any (·.1)) || false)=false;rw [fD];rfl) (fun h ⟨fa,fo,fd,q1,q2,q3⟩=>?_) (iZ ?_)
 ·subst q1;obtain⟨cls,dict,data,slots⟩:=fo;have Au:data=.func fd:=q3;subst Au;exact⟨.frame,.inl rfl,(Dk (part:=none) q2).andThen .now⟩
 ·have oV:=ha pos pins s1 σ H' _ I1 h;rw [he] at oV;refine L2.thn oV fun us s2 ⟨vs,H2,I2,r2,⟨fa,fo,q1,q2,⟨fd,q3⟩,q4⟩,q5⟩=>⟨?_,?_⟩
  ·have wm:u1=.ref fa:=by rw [q1] at r1;exact r1
   exact⟨fa,fo,fd,wm,(I2.hok fa _ q2).1,q3⟩
  ·have wm:u1=.ref fa:=by rw [q1] at r1;exact r1
   subst wm;refine kM (eH (q4 X.A X.stack s2 us vs Q E0 hr I2.env0 r2 q5) fun r s' hq=>?_);cases r with
   | error e=>exact bS hq
   | ok fl=>
    cases fl with
    | ret u=>exact I2.after hq
    | next=>exact bS hq
    | brk=>exact bS hq
    | cont=>exact bS hq
theorem StE.getF{K:af}{Z:List D}{σ:L2.St}{H P:Hp}{F:List av}{Φ:Hp->V->Prop}(h:StE K M Z σ H P F){i:Nat}(hm:M[i]?=some (.fn Φ)):∃v,σ[i]?=some (some v)/\∀H',Same (cut H F) H'->Φ H' v:=by
 obtain⟨G,h1,h3⟩:=h.all;obtain⟨d,o,f,pre,post,e1,e2,⟨_,v,rfl,q⟩,e4,_⟩:=h1.at_ hm;exact⟨v,e2,q⟩
theorem a5W(i:Nat){k n:Nat}{m:List D->Option D}(hr:Room k X.A)(h:PAX X M (e0 :: es) f)(hm:M[i]?=some (.fn (FnV X.prog X.w X.K X.mg X.base k n u m)):=by rfl)(hu:u.shut=true:=by rfl)(hl:(e0 :: es).length=n:=by rfl)(hfl:∀Z ds,f Z=some ds->ds.length=(e0 :: es).length)
  (hN:X.N[i]?=some x:=by rfl) (hv:Vis X.env.scope x:=by first|exact cf rfl|exact bR (cf rfl)|exact bR (bR rfl)) (jM:(x == ("__debug__":bc))=false:=by decide) (gJ:(x == ("__classdict__":bc))=false:=by decide)
  (he:au (e0 :: es) X.env=(false,bW e0 X.env) :: au es X.env:=by rfl) (fD:(b_ pos (au es X.env)).any (·.1)=false:=by rfl) :
  PX X M (.Call (.Name x p) (e0 :: es) [] pos) (eCl m f) (.new u):=by
 obtain⟨t,pa,qa⟩:=h;refine .mk ⟨_,b2m (i:=i) (n:=n) (m:=m) (u:=u) hr pa hN hv jM gJ he fD,fun Z σ H P F d Q S hf q=>?_⟩;obtain⟨ds,h1,hf⟩:=bnd hf;obtain⟨v,AY,AX⟩:=S.getF hm;refine⟨v,AY,qa Z σ H P F ds _ S h1 fun vs H1 e1 r1=>⟨AX H1 (i4.trans e1),?_⟩⟩;refine⟨ds,d,by rw [r1.length,hfl Z ds h1,hl],r1,hf,fun v H' fp e o nd fr=>q v H' (e1.trans e) ⟨fp,o.shut_out (fun a ha=>?_) u hu,nd,fun a ha=>e1.free (fr a ha)⟩⟩;rcases ay.mp ha with z|z
 ·exact o.lst u a z
 ·exact S.lst' (e1.trans e) a z
end
def spL(K:af)(n:Nat)(Φ:(List D->Option D)->Hp->V->Prop)(m:(List D->Option D)->List D->Option D)(u:Ty):Sp:=fun vs H Q _=>∃rs v gm ds d,vs=rs ++ [v]/\rs.length=n/\DenAll K H rs ds/\(∀H',Same H H'->Φ gm H' v)/\m gm ds=some d/\
 ∀v H' fp,Same H H'->Own K H' fp u v d fp->fp.Nodup->(∀a∈fp,H a=none)->Q v H'
def fnL(us:List Ty)(n:Nat)(g:(List D->Option D)->EvS):(List D->Option D)->List D->Option D:=fun gm ds=>if argsOk us ds then (g gm (ds ++ (.none :: aC n .none))).bind fun o=>match o with
 | .rt d=>some d
 | _=>none
 else none
theorem StAll.app{K:af}{H:Hp}{F:List av}:∀{M1 M2:List Md} {Z1 Z2:List D} {σ1 σ2:L2.St} {f1 f2:List av},StAll K H F M1 Z1 σ1 f1->StAll K H F M2 Z2 σ2 f2->StAll K H F (M1 ++ M2) (Z1 ++ Z2) (σ1 ++ σ2) (f1 ++ f2)
 | [],_,_,_,_,_,_,_,h,q=>by simp only [StAll] at h;obtain⟨rfl,rfl,rfl⟩:=h;exact q
 | m :: M,_,_,_,_,_,_,_,h,q=>by
  simp only [StAll] at h;obtain⟨d,Z,o,σ,f,g,rfl,rfl,rfl,h1,h2⟩:=h;rw [aP];exact j8 h1 (StAll.app h2 q)
theorem a1y{K:af}{H:Hp}{F:List av}:∀n:Nat,StAll K H F (aC n .dead) (aC n .none) (aC n none) []
 | 0=>K2
 | n + 1=>j8 (f:=[]) (g:=[]) rfl (a1y n)
theorem b2n{P:bh}{w:bE}{K:af}{mg:bc->Option ai}{base:bL}{x:bc}{st:fT}{f:av}{fd:cV}{N ps:List bc}{k n:Nat}{us:List Ty}{u:Ty}{Φ:(List D->Option D)->Hp->V->Prop}{g:(List D->Option D)->EvS}{M':(List D->Option D)->List Md}(F:Fun K x x st f fd)(S:FnScope N ps (g8 st))(k_:us.length + 1=ps.length)(hn:N.length=ps.length + n)
  (hb:∀(gm:List D->Option D) (eQ:ai) (A:bx) (outer:List lQ) (s:ak) (H:Hp) (E:XK),Room k (A.deeper (iE x (g8 st) s.heap.objs.size f eQ))->PSsX (S9 CX0 P w K mg base N x (g8 st) f eQ A outer s H E).nox u [] (us.map .own ++ (.fn (Φ gm) :: aC n .dead)) (r9 st) (g gm) (M' gm)) :
  FnOk P w K mg base CX0 (k + 1) f fd ps (spL K us.length Φ (fnL us n g) u):=by
 refine F.ok S (fun vs H Q E h=>?_) (fun eQ A outer s H vs Q E hr h=>?_)
 ·obtain⟨rs,v,gm,ds,d,rfl,hl,_⟩:=h;rw [aK,hl];exact k_
 obtain⟨rs,v,gm,ds,d,rfl,hl,hd,hΦ,hm,q⟩:=h;obtain⟨t,p,r⟩:=(hb gm eQ A outer s H E hr).out;refine⟨t,p,?_⟩;unfold fnL at hm;by_cases ha:argsOk us ds=true
 ·rw [aE ha] at hm;obtain⟨o,h1,h2⟩:=bnd hm;cases o with
  | rt d'=>
   have lr:some d'=some d:=h2;cases lr
   have e:L2.start N (rs ++ [v])=rs.map some ++ (some v :: aC n none):=by
    unfold L2.start;rw [show N.length - (rs ++ [v]).length=n by rw [aK,hl];show N.length - (us.length + 1)=n;lia];simp
   rw [e];have h0:=N1 (K:=K) (H:=H) ha hd 0;simp only [gg,aZ] at h0;have jS:=h0.app (j8 (K:=K) (H:=H) (F:=[]) (m:=.fn (Φ gm)) (d:=fG) (o:=some v) (f:=[]) ⟨rfl,v,rfl,fun H' e'=>hΦ H' (by rw [F7] at e';exact e')⟩ (a1y n));refine r _ _ _ H H [] (.rt d) ⟨⟨_,jS,br,fun a ha=>(nomatch ha)⟩,fun a ha=>(nomatch ha),by rw [F7];exact Same.refl H⟩ h1 ?_;exact fun v H' fp o nd fr e=>q v H' fp e o nd fr
  | _=>cases h2
 ·rw [aO ha] at hm;cases hm
section
variable {X:Cx}{M:List Md}{e0:Expr}{es:List Expr}{f:EvA}{u:Ty}{x y:bc}{p pv pos:ek}
theorem a1V:∀(Z:List D) ds,b8 Z=some ds->ds.length=0:=fun Z ds h=>by cases h;rfl
theorem L4(h:∀Z ds,fr Z=some ds->ds.length=n):∀Z ds,a5 fa fr Z=some ds->ds.length=n + 1:=fun Z ds q=>by
 obtain⟨x,h1,q⟩:=bnd q;obtain⟨xs,h2,q⟩:=bnd q;cases q
 rw [ba,h Z xs h2]
def PAL(X:Cx)(M:List Md)(es:List Expr)(f:EvA)(Ψ:Hp->V->Prop):Prop:=
 ∃t,PA X es t/\∀(Z:List D) (σ:L2.St) (H P:Hp) (F:List av) (ds:List D) (Q:List V->Hp->Prop),StE X.K M Z σ H P F->f Z=some ds->
  (∀vs v H',Same H H'->DenAll X.K H' vs ds->Ψ H' v->Q (vs ++ [v]) H')->t σ H Q
theorem L5(ha:PX X M a fa ca)(hr:PAL X M es fr Ψ)(hs:au (a :: es) X.env=(false,bW a X.env) :: au es X.env:=by rfl):PAL X M (a :: es) (a5 fa fr) Ψ:=by
 obtain⟨ta,pa,qa⟩:=ha.out;obtain⟨tr,pr,qr⟩:=hr;refine⟨_,k9 pa pr hs,fun Z σ H P F ds Q S hf q=>?_⟩;obtain⟨x,h1,hf⟩:=bnd hf;obtain⟨xs,h2,hf⟩:=bnd hf;cases hf
 exact qa Z σ H P F _ _ S h1 fun v H1 e1 r1=>qr Z σ H1 P F _ _ (S.grow e1) h2 fun vs w H2 e2 r2 hw=>q (v :: vs) w H2 (e1.trans e2) (denAll_cons (r1.den.up e2) r2) hw
theorem a8L(i:Nat){Φ:Hp->V->Prop}(hm:M[i]?=some (.fn Φ):=by rfl)(hN:X.N[i]?=some y:=by rfl)(hv:Vis X.env.scope y:=by first|exact cf rfl|exact bR (cf rfl)|exact bR (bR rfl))(hd:(y == ("__debug__":bc))=false:=by decide)(gJ:(y == ("__classdict__":bc))=false:=by decide)
  (hs:au [.Name y pv] X.env=(false,bW (.Name y pv) X.env) :: au [] X.env:=by rfl):PAL X M [.Name y pv] b8 fun H v=>∀H',Same H H'->Φ H' v:=by
 refine⟨_,k9 (C8 hN hv hd gJ) o7 hs,fun Z σ H P F ds Q S hf q=>?_⟩;cases hf
 obtain⟨v,h1,h2⟩:=S.getF hm;exact⟨v,h1,q [] v H (Same.refl _) denAll_nil fun H' e=>h2 H' (i4.trans e)⟩
def b0o(m:(List D->Option D)->List D->Option D)(gm:List D->Option D)(f:EvA):EvE:=fun Z=>(f Z).bind (m gm)
theorem a4d(W:Has X.prog X.w X.K X.mg X.base x k ps (spL X.K n Φ m u))(hr:Room k X.A)(h:PAL X M (e0 :: es) f fun H v=>∀H',Same H H'->Φ gm H' v)(hfl:∀Z ds,f Z=some ds->ds.length=n)(hu:u.shut=true:=by rfl)
  (hg:Gl X x:=by rfl) (jM:(x == ("__debug__":bc))=false:=by decide) (he:au (e0 :: es) X.env=(false,bW e0 X.env) :: au es X.env:=by rfl) (fD:(b_ pos (au es X.env)).any (·.1)=false:=by rfl) :
  PX X M (.Call (.Name x p) (e0 :: es) [] pos) (b0o m gm f) (.new u):=by
 obtain⟨t,pa,qa⟩:=h;refine .mk ⟨_,a7c W hr pa hg jM he fD,fun Z σ H P F d Q S hf q=>?_⟩;obtain⟨ds,h1,hf⟩:=bnd hf;refine qa Z σ H P F ds _ S h1 fun vs v H1 e1 r1 hΦ=>?_
 show spL X.K n Φ m u ((vs ++ [v]) ++ []) H1 Q E0;rw [aZ];refine⟨vs,v,gm,ds,d,rfl,by rw [r1.length];exact hfl Z ds h1,r1,hΦ,hf,fun v H' fp e o nd fr=>q v H' (e1.trans e) ⟨fp,o.shut_out (fun a ha=>?_) u hu,nd,fun a ha=>e1.free (fr a ha)⟩⟩;rcases ay.mp ha with z|z
 ·exact o.lst u a z
 ·exact S.lst' (e1.trans e) a z
end
end VS
namespace VS
open PySem PySem.Spec L2 PyProof.Rows
theorem a5X:∀(l r:List ai),jz l->jz r->jz (l ++ r):=by
 intro l
 fun_induction jz l with
 | case1=>intro r _ h;exact h
 | case2 a t b u c rest ih=>intro r h1 h2;simp only [bO,jz];exact ih r h1 h2
 | case3=>intro r h;exact h.elim
theorem b0p:∀(l r:List ai),jz l->kz pos (l ++ r)=some cv->kz pos l=some cv∨kz pos r=some cv:=by
 intro l
 fun_induction jz l with
 | case1=>intro r _ h;exact .inr h
 | case2 a t b u c rest ih=>
  intro r h1 h2;simp only [bO,kz] at h2 ⊢
  split at h2
  ·rename_i hc
   rw [aE hc];exact .inl h2
  ·rename_i hc
   rw [aO hc];exact ih r h1 h2
 | case3=>intro r h;exact h.elim
def LamO(q:bc)(params:kH)(body:Expr)(scope:fE)(clos:List (bc × av))(H:Hp)(fa:av):Prop:=
 ∃pm c' ku oc vs t b,H fa=some (.frz (dH "<lambda>" q params body scope clos pm c' ku) (.own fa))/\H c'=some (.frz oc (.own b))/\oc.data=.fields vs/\vs[1]?=some (.str q t)
theorem LamO.up(h:LamO q params body scope clos H fa)(e:Same H H'):LamO q params body scope clos H' fa:=by
 obtain⟨pm,c',ku,oc,vs,t,b,h1,h2,h3⟩:=h;exact⟨pm,c',ku,oc,vs,t,b,e _ _ h1,e _ _ h2,h3⟩
def b9X(q:bc)(params:kH)(body:Expr)(scope:fE)(clos:List (bc × av)):TE:=fun _ H Q=>∀fa H',Same H H'->LamO q params body scope clos H' fa->Q (.ref fa) H'
theorem b0q{X:Cx}(hx:x∈K5)(hP:x8 X.K x=some P)(hc:X.env.code=.ref c)(hd:fQ X.base c P)(hq:X.env.qual ++ "<lambda>"=S8 x)
  (mW:nz scope X.env=pure clos) (rH:defaultsOf params X.env=([],[])):PE X (.Lambda params body scope jh) (b9X (S8 x) params body scope clos):=by
 intro pins s σ H Q I h;refine PySem.W.kla_eval rH ?_;rw [hq];obtain⟨qs,t0,e1,e2⟩:=I.tabs x hx P hP;obtain⟨ps,uP,ht,hf⟩:=(show a3F H s.heap P qs from I.hok P _ e1);have uq:s.heap.Ns aV X.mg:=I.mod.glob.keeps I.bk;obtain⟨bm,ob,b1,b2,b3,b4,b5,b6⟩:=I.mod.bmain;have BU:aV≠P:=fun q=>by
  obtain⟨o,es,ep,e,jU,_⟩:=uq;rw [q,uP] at e;cases e;cases jU
 have Cn:bm≠P:=fun q=>by
  have e:=I.bk _ _ b3;rw [q,uP] at e;cases e;cases b4
 have Co:bm≠aV:=fun q=>by
  obtain⟨o,es,ep,e,jU,_⟩:=I.mod.glob;rw [q,e] at b3;cases b3;rw [jU] at b6;cases b6
 have hB:s.heap.BuiltinsAt X.mg P:=⟨bm,ob,b1,b2,Co,Cn,I.bk _ _ b3,b4,b5,b6⟩;have hC:fQ s.heap c P:=hd.keeps I.bk;cases hn:kz jh ps.toList with
 | some cv=>
  obtain⟨c',oc,vs,q,t,t',rfl,z2,z3,z4,z5⟩:=hf jh cv hn;rw [e2] at z5;have zX:pY (S8 x) t0=pY q t':=aD z5;cases zX
  refine PySem.W.kla_makeFunctionHit (mg:=X.mg) mW I.ok.glob uq hc hC uP ht hn hB fun ku h' tk hk je=>?_
  have lY:H h'.objs.size=none:=I.hok.fresh je;have I':=I.laid (a:=h'.objs.size) (o:=.frz (dH "<lambda>" (S8 x) params body scope clos ((X.mg "__name__").getD .none) c' ku) (.own h'.objs.size)) (t':=tk) (h':=h'.push (dH "<lambda>" (S8 x) params body scope clos ((X.mg "__name__").getD .none) c' ku)) (fun b u e=>aw _ (hk b u e)) je ⟨aR _ rfl,_,aR _ rfl⟩;refine⟨.ref h'.objs.size,_,I',rfl,h _ _ (j9 lY _) ⟨_,c',ku,oc,vs,t,P,i0,?_,z3,z4⟩⟩;rw [c9 (m8 z2 lY)];exact z2
 | none=>
  refine PySem.W.kla_makeFunction (mg:=X.mg) mW I.ok.glob uq hc hC uP ht hn BU hB fun c' ku h' tk AQ vG fL wU yK=>?_
  obtain⟨c2,oc,vs,t,rc,ub,zi,sA⟩:=wU;cases rc
  have Cu:P < s.heap.objs.size:=aN uP;have Cb:H c'=none:=I.hok.fresh vG;have ze:s.heap.objs.size<=h'.objs.size:=dA (lM vG fL);have lY:H h'.objs.size=none:=I.hok.fresh ze;have gy:c'≠h'.objs.size:=bj fL;have low:∀b u,H b=some u->upd (upd H c' (.frz oc (.own P))) h'.objs.size (.frz (dH "<lambda>" (S8 x) params body scope clos ((X.mg "__name__").getD .none) c' ku) (.own h'.objs.size)) b=some u:=fun b u e=>by
   rw [c9 (m8 e lY),c9 (m8 e Cb)];exact e
  have wB:∀b,b < s.heap.objs.size->H b=none->upd (upd H c' (.frz oc (.own P))) h'.objs.size (.frz (dH "<lambda>" (S8 x) params body scope clos ((X.mg "__name__").getD .none) c' ku) (.own h'.objs.size)) b=none:=fun b hb e=>by
   rw [c9 (bj (aW hb ze)),c9 (bj (aW hb vG))];exact e
  have kp:∀b o,b≠P->s.heap.get? b=some o->(h'.push (dH "<lambda>" (S8 x) params body scope clos ((X.mg "__name__").getD .none) c' ku)).get? b=some o:=fun b o hb e=>aw _ (AQ b o hb e)
  have nP:∀b,H b=none->b≠P:=fun b e z=>by rw [z,e1] at e;cases e
  have I':=I.un (t':=tk) (h':=h'.push (dH "<lambda>" (S8 x) params body scope clos ((X.mg "__name__").getD .none) c' ku)) (H':=upd (upd H c' (.frz oc (.own P))) h'.objs.size (.frz (dH "<lambda>" (S8 x) params body scope clos ((X.mg "__name__").getD .none) c' ku) (.own h'.objs.size)))
   ⟨fun b o e n _ _=>kp b o (nP b n) e,fun b o e n _ _=>⟨o.slots,kp b o (nP b n) e⟩,fun b o e n _=>wB b (aN e) n,fun b o e _=>by
    by_cases hb:b=P
    ·exact⟨_,by rw [hb];exact aw _ yK⟩
    ·exact⟨o,kp b o hb e⟩,fun b xs e=>low b _ e,fun b o u e=>low b _ e,fun b DA e=>⟨#[],by rw [low b _ e];simp⟩⟩ (fun b u e=>by
    by_cases qK:b=h'.objs.size
    ·subst qK;rw [i0] at e;cases e
     exact⟨aR _ rfl,_,aR _ rfl⟩
    ·rw [c9 qK] at e;by_cases oS:b=c'
     ·subst oS;rw [i0] at e;cases e
      exact⟨aw _ ub,_,aw _ ub⟩
     ·rw [c9 oS] at e;by_cases vK:b=P
      ·subst vK;rw [e1] at e;cases e
       refine⟨_,aw _ yK,?_,fun pos cv z=>?_⟩
       ·have:(ps ++ #[cR jh.line,cR jh.col,be c']).toList=ps.toList ++ [cR jh.line,cR jh.col,be c']:=by simp
        rw [this];exact a5X _ _ ht trivial
       ·have:(ps ++ #[cR jh.line,cR jh.col,be c']).toList=ps.toList ++ [cR jh.line,cR jh.col,be c']:=by simp
        rw [this] at z;rcases b0p _ _ ht z with z|z
        ·obtain⟨c3,AA,Ab,q3,t3,t4,y1,y2,y3,y4,y5⟩:=hf pos cv z;exact⟨c3,AA,Ab,q3,t3,t4,y1,low _ _ y2,y3,y4,y5⟩
        ·have z':cv=.ref c':=by
          simp only [cR,kz] at z
          split at z
          ·exact (aD z).symm
          ·cases z
         refine⟨c',oc,vs,S8 x,t,t0,z',?_,zi,sA,e2⟩;rw [c9 gy,i0]
      ·refine (I.hok b u e).stay (fun d v jU q=>kp d v (fun z=>?_) q) (fun d q=>low _ _ q) fun d v q=>low _ _ q
       rcases jU with z'|z'
       ·exact vK (z'.symm.trans z)
       ·rw [z,e1] at z';cases z')
  refine⟨.ref h'.objs.size,_,I',rfl,h _ _ (fun b u e=>low b u e) ⟨_,c',ku,oc,vs,t,P,i0,?_,zi,sA⟩⟩;rw [c9 gy,i0]
end VS
namespace VS
open PySem PySem.Spec L2 PyProof.Rows
def a5Y(P:bh)(w:bE)(K:af)(mg:bc->Option ai)(base:bL)(N:List bc)(q:bc)(scope:fE)(f:av)(cd:ai)(cl:List (bc × av))(A:bx)(outer:List lQ)(s:ak)(H:Hp):Cx where
 prog:=P
 w:=w
 K:=K
 mg:=mg
 base:=base
 A:=A.deeper (gP q scope s.heap.objs.size f cd cl)
 N:=N
 s₀:=s
 H₀:=H
 env:=gP q scope s.heap.objs.size f cd cl
 outer:=outer
 stack:=gP q scope s.heap.objs.size f cd cl :: outer
 ex:=[]
 calm:=true
 fn:=fun _=>false
 pn:=[]
 xe:=fun _ _=>False
structure LamScope (N ps ys:List bc) (sc:fE) (cl:List (bc × av)):Prop where
 kind:sc.kind=.function
 co:sc.isCoroutine=false
 gen:sc.isGenerator=false
 nd:N.Nodup
 pre:N=ps ++ ys
 par:∀x∈ps,sc.names.lookup x=some .local
 fre:∀y∈ys,sc.names.lookup y=some .free
 ncell:∀x∈sc.names,x.2≠.cell
 has:(sc.names.all fun x=>x.2 != .free || (cl.lookup x.1).isSome)=true
def CellsIn(cl:List (bc × av))(H:Hp):List bc->List V->Prop
 | [],vs=>vs=[]
 | y :: ys,vs=>∃v r c ob uo,vs=v :: r/\cl.lookup y=some c/\H c=some (.frz ob (.own c))/\ob.data=.cell (some uo)/\RelV v uo/\CellsIn cl H ys r
section
variable {cl:List (bc × av)}{H H':Hp}
theorem CellsIn.up(e:Same H H'):∀{ys:List bc} {vs:List V},CellsIn cl H ys vs->CellsIn cl H' ys vs
 | [],_,h=>h
 | y :: ys,_,h=>by
  obtain⟨v,r,c,ob,uo,h1,h2,h3,h4,h5,h6⟩:=h;exact⟨v,r,c,ob,uo,h1,h2,e _ _ h3,h4,h5,CellsIn.up e h6⟩
theorem CellsIn.len:∀{ys:List bc} {vs:List V},CellsIn cl H ys vs->vs.length=ys.length
 | [],_,h=>by rw [show _=[] from h];rfl
 | y :: ys,_,h=>by
  obtain⟨v,r,c,ob,uo,rfl,h2,h3,h4,h5,h6⟩:=h;rw [ba,ba,CellsIn.len h6]
theorem CellsIn.get:∀{ys:List bc} {vs:List V} {i:Nat} {y:bc} {v:V},CellsIn cl H ys vs->ys[i]?=some y->vs[i]?=some v->∃c ob uo,cl.lookup y=some c/\H c=some (.frz ob (.own c))/\ob.data=.cell (some uo)/\RelV v uo
 | [],_,i,y,v,_,e,_=>by simp at e
 | y0 :: ys,_,0,y,v,h,e1,e2=>by
  obtain⟨v',r,c,ob,uo,rfl,h2,h3,h4,h5,h6⟩:=h;have Dc:y0=y:=by simpa using e1
  have C_:v'=v:=by simpa using e2
  subst Dc C_;exact⟨c,ob,uo,h2,h3,h4,h5⟩
 | y0 :: ys,_,i + 1,y,v,h,e1,e2=>by
  obtain⟨v',r,c,ob,uo,rfl,h2,h3,h4,h5,h6⟩:=h;exact CellsIn.get h6 (by simpa using e1) (by simpa using e2)
end
def b2o(cl:List (bc × av))(H:Hp):Prop:=∀y c,cl.lookup y=some c->∃ob uo,H c=some (.frz ob (.own c))/\ob.data=.cell uo
def fnE(us:List Ty)(oW:List D)(f:EvE):List D->Option D:=fun ds=>if argsOk us ds then f (ds ++ oW) else none
theorem b5J{K:af}{H:Hp}:∀{vs:List V} {ds:List D},DenAll K H vs ds->StAll K H [] (aC vs.length (.own .f)) ds (vs.map some) []
 | _,[],h=>by rw [h.nil_inv];exact K2
 | _,d :: ds,h=>by
  obtain⟨v,r,rfl,h1,h2⟩:=h.cons_inv;refine j8 (K:=K) (H:=H) (F:=[]) (m:=.own .f) (f:=[]) (g:=[]) ⟨v,rfl,?_⟩ (b5J h2);simp only [Own,F7];exact⟨trivial,h1⟩
theorem a1z:∀(ps:List α) (us:List β),((ps.zip us).map (·.1)).Sublist ps
 | [],_=>by rw [zQ];exact gS _
 | p :: ps,[]=>by rw [List.zip_nil_right];exact List.nil_sublist _
 | p :: ps,u :: us=>by rw [ef,aA];exact (a1z ps us).cons₂ p
theorem a2F{ps:List bc}{us:List ai}:∀{i:Nat} {y:bc} {v:ai},ps.Nodup->ps[i]?=some y->us[i]?=some v->(ps.zip us).reverse.lookup y=some v:=by
 intro i y v nd h1 h2;have hm:(y,v)∈(ps.zip us).reverse:=by
  rw [List.mem_reverse];exact bD (by rw [jd];exact⟨h1,h2⟩)
 have hk:(((ps.zip us).reverse).map (·.1)).Nodup:=by
  rw [List.map_reverse];have h0:((ps.zip us).map (·.1)).Nodup:=nd.sublist (a1z ps us);exact List.pairwise_reverse.mpr (h0.imp fun z=>eE z)
 have key:∀l:List (bc × ai),(l.map (·.1)).Nodup->(y,v)∈l->l.lookup y=some v:=by
  intro l
  induction l with
  | nil=>intro _ h;cases h
  | cons p l ih=>
   intro hn hm;rw [aA,bA] at hn;obtain⟨k,z⟩:=p;rcases aH.mp hm with e|e
   ·cases e;simp [List.lookup]
   ·have:(y == k)=false:=by
     rw [eB];intro q;exact hn.1 (q ▸ aG.mpr ⟨_,e,rfl⟩)
    rw [eN,this];exact ih hn.2 e
 exact key _ hk hm
theorem a8M{P:bh}{w:bE}{K:af}{mg:bc->Option ai}{base:bL}{k:Nat}{q:bc}{params:kH}{body:Expr}{scope:fE}{cl:List (bc × av)}{N ps ys:List bc}{us:List Ty}{u:Ty}{f:EvE}{jW:List V}{oW:List D}{H:Hp}{fa:av}
  (L:LamO q params body scope cl H fa) (S:LamScope N ps ys scope cl) (om:∀x y c,cl.lookup x=some c->cl.lookup y=some c->x=y) (hC:CellsIn cl H ys jW) (vO:b2o cl H) (hD:DenAll K H jW oW) (k_:us.length=ps.length)
  (ko:∀(pm:ai) (c:av) (ku:ai) (us:List ai),us.length=ps.length->me (oM "<lambda>" q params body scope cl pm (.ref c) ku) ⟨us,[]⟩=pure (ps.zip us))
  (hb:∀(c:av) (A:bx) (outer:List lQ) (s:ak) (H:Hp),Room k (A.deeper (gP q scope s.heap.objs.size fa (.ref c) cl))->PX (a5Y P w K mg base N q scope fa (.ref c) cl A outer s H) (us.map .own ++ aC ys.length (.own .f)) body f (.new u)) :
  FnV P w K mg base (k + 1) ps.length u (fnE us oW f) H (.ref fa):=by
 obtain⟨pm,c',ku,oc,Ac,t0,b0,l1,l2,l3,l4⟩:=L;refine⟨fa,_,rfl,l1,⟨_,rfl⟩,fun A outer s as vs Q E hr e0 rv ⟨ds,d,hl,hd,hm,hq⟩=>?_⟩;obtain⟨C,memC,tN⟩:∃C:List av,(∀c∈C,∃y,cl.lookup y=some c)/\∀y c,cl.lookup y=some c->c∈C:=
  ⟨(cl.map (·.1)).filterMap fun y=>cl.lookup y,fun c hc=>let⟨y,_,e⟩:=de.mp hc;⟨y,e⟩,fun y c e=>de.mpr ⟨y,aG.mpr ⟨(y,c),bK e,rfl⟩,e⟩⟩
 have J:Junk H C:=fun a ha u e=>by
  obtain⟨y,hy⟩:=memC a ha;obtain⟨ob,uo,h1,_⟩:=vO y a hy;rw [h1] at e;cases e
  exact⟨ob,rfl⟩
 have AH:∀a∈C,∃u,H a=some u:=fun a ha=>by
  obtain⟨y,hy⟩:=memC a ha;obtain⟨ob,uo,h1,_⟩:=vO y a hy;exact⟨_,h1⟩
 have lim:s.heap.NoLimit:=e0.mod.nolimit.keeps fun b o e=>(e0.bs b o e).1
 have ho:s.heap.get? fa=some (dH "<lambda>" q params body scope cl pm c' ku):=(e0.hok fa _ l1).1;have Ca:s.heap.CodeRec (.ref c') q:=⟨c',oc,Ac,t0,rfl,(e0.hok c' _ l2).1,l3,l4⟩;have Cr:as.length=ps.length:=by rw [<-rv.length];exact hl
 have AD:ps.Nodup:=by have:=S.nd;rw [S.pre] at this;exact this.sublist (jv _ _)
 refine PySem.W.kla_callFunE hr.depth ho rfl S.co S.gen rfl Ca ?_;rw [ko pm c' ku as Cr];refine ag (wpAny_newFunctionEnv S.ncell (fun y hy=>S.par _ (iC hy).1) (fun h₁ nr yL=>⟨lim.fresh _ yL,?_⟩) S.kind);show ir _ _ (.expr body (gP q scope s.heap.objs.size fa (.ref c') cl)) _ _;have mU:∀b o,s.heap.get? b=some o->h₁.get? b=some o:=fun b o e=>yL.extBut b o (bj (aN e)) (aw _ e)
 have q_:∀b:av,b∉(a5Y P w K mg base N q scope fa (.ref c') cl A outer s (VS.cut H C)).ex:=fun b z=>absurd (show b∈([]:List av) from z) (by simp)
 have BD:N.length=ps.length + ys.length:=by rw [S.pre,aK]
 have I:Inv (a5Y P w K mg base N q scope fa (.ref c') cl A outer s (VS.cut H C)) [] (vs.map some ++ jW.map some) (VS.cut H C) {s with heap:=h₁,toks:=s.toks + (ps.zip as).length}:=by
  refine⟨⟨e0.mod,S.kind,rfl,rfl,aF _,om,fun x hx=>?_,fun x c hx _=>(nomatch hx),fun _=>hr.hd,bx.frames_deeper e0.frames,.inr ⟨rfl,rfl⟩,fun b z=>absurd z (q_ b),fun b o e=>⟨(e0.bs b o e).1,w8 (e0.bs b o e).2⟩,e0.bsz,fun b _ _=>q_ b,fun b z=>absurd z (q_ b),e0.funs,fun b hb=>w8 (e0.frf b hb),b0n e0.tabs J⟩,
   rfl,e0.bare,Un.kept mU,⟨_,nr,fun i x v h1 h2 h3=>?_⟩,fun x c e=>?_,w8 (e0.hok.fresh (aF _)),fun x c e=>T5 (tN x c e),fun p hp=>absurd (show p∈([]:List (av × eD)) from hp) (by simp),(a5V e0.hok J).kept mU,?_⟩
  ·have rg:scope.names.lookup x=some .cell∨scope.names.lookup x=some .free:=hx;rcases rg with z|z
   ·exact absurd rfl (S.ncell _ (bK z))
   ·have w:=bP.mp S.has _ (bK z);rw [nI] at w;rcases w with w|w
    ·exact absurd (show (ej != ej)=true from w) (by decide)
    ·exact dz.mp w
  ·have nN:(ps ++ ys)[i]?=some x:=by rw [<-S.pre];exact h1
   by_cases hi:i < ps.length
   ·rw [fY hi] at nN;rw [fY (by rw [ar,hl];exact hi),bz] at h2;have lr:vs[i]?=some v:=by
     cases e:vs[i]? with
     | none=>rw [e] at h2;cases h2
     | some a=>rw [e] at h2;cases h2;rfl
    obtain⟨u',hu,r⟩:=rv.get lr;exact⟨u',r,.inl ⟨S.par x (bD nN),a2F AD nN hu⟩⟩
   ·rw [eh (by lia)] at nN;rw [eh (by rw [ar,hl];lia),ar,bz,hl] at h2;have lr:jW[i - ps.length]?=some v:=by
     cases e:jW[i - ps.length]? with
     | none=>rw [e] at h2;cases h2
     | some a=>rw [e] at h2;cases h2;rfl
    obtain⟨c,ob,uo,z1,z2,z3,z4⟩:=hC.get nN lr;exact⟨uo,z4,.inr ⟨.inr (S.fre x (bD nN)),c,z1,ob,mU c ob (e0.hok c _ z2).1,z3⟩⟩
  ·obtain⟨ob,uo,z1,z2⟩:=vO x c e;exact⟨uo,ob,mU c ob (e0.hok c _ z1).1,z2⟩
  ·show _=N.length;rw [aK,ar,ar,hl,hC.len,BD]
 obtain⟨t,pt,qt⟩:=(hb c' A outer s (VS.cut H C) (hr.deeper _)).out;unfold fnE at hm;by_cases ha:argsOk us ds=true
 ·rw [aE ha] at hm;have B_:DenAll K (VS.cut H C) vs ds:=DenAll.junk J ds hd;have Cf:DenAll K (VS.cut H C) jW oW:=DenAll.junk J oW hD;have h0:=N1 (K:=K) (H:=VS.cut H C) ha B_ 0;simp only [gg,aZ] at h0;have h1:=b5J Cf;rw [hC.len] at h1;have SE:StE K (us.map .own ++ aC ys.length (.own .f)) (ds ++ oW) (vs.map some ++ jW.map some) (VS.cut H C) (VS.cut H C) []:=⟨⟨_,h0.app h1,fun a ha=>(nomatch ha)⟩,fun a ha=>(nomatch ha),by rw [F7];exact Same.refl _⟩;refine PySem.W.kla_codeExpr (cC (pt [] _ _ (VS.cut H C) (fun v H'=>Same (VS.cut H C) H'/\ResR K (.new u) (VS.cut H C) H' [] v d) I (qt (ds ++ oW) _ (VS.cut H C) (VS.cut H C) [] d _ SE hm fun v H' e r=>⟨e,r⟩)) (fun v s' hs=>?_) fun e s' hs=>(show False from hs).elim);obtain⟨v',H',J',r',e',fp,o,nd,fr⟩:=hs;have nh:∀c∈C,H' c=none:=fun c hc=>by
   obtain⟨y,hy⟩:=memC c hc;exact J'.freeC y c hy
  have inn:∀{b:av} {o:HO},H' b=some o->a5U C H H' b=some o:=fun {b o} q=>by
   rw [o9 (fun z=>by rw [nh b z] at q;cases q)];exact q
  have nC:∀{b:av},H b=none->b∉C:=fun {b} n z=>by
   obtain⟨u,hu⟩:=AH b z;rw [n] at hu;cases hu
  have vQ:∀a∈fp,a∉C:=fun a ha z=>by
   obtain⟨ys,q⟩:=o.lst u a ha;rw [nh a z] at q;cases q
  refine (show CE outer P w H s Q v s' from⟨v',a5U C H H',J'.os,J'.bare,⟨fun b o q n hb hx=>J'.base.keep b o q (w8 n) hb hx,fun b o q n hb hx=>J'.base.slot b o q (w8 n) hb hx,fun b o q n hx=>?_,J'.base.there,fun b xs e=>?_,fun b o u e=>?_,fun b ps e=>?_⟩,fun b o e=>?_,r',hq v' _ fp (fun b o e=>?_) ?_ nd fun a ha=>?_⟩)
  ·rw [o9 (nC n)];exact J'.base.free b o q (w8 n) hx
  ·have nb:=J.out e fun o z=>(nomatch z)
   rw [o9 nb];exact J'.base.tups b xs (i7 nb e)
  ·by_cases hb:b∈C
   ·rw [a0q hb];exact e
   ·rw [o9 hb];exact J'.base.frzs b o u (i7 hb e)
  ·have nb:=J.out e fun o z=>(nomatch z)
   obtain⟨more,z⟩:=J'.base.tbls b ps (i7 nb e);exact⟨more,by rw [o9 nb];exact z⟩
  ·by_cases hb:b∈C
   ·rw [a0q hb] at e;obtain⟨ob,rfl⟩:=J b hb o e;have z:=(e0.hok b _ e).1;have z':=J'.base.keep b ob z (T5 hb) (fun y=>by rw [e0.frf b y] at e;cases e) (by intro y;exact absurd (show b∈([]:List av) from y) (by simp));exact⟨z',_,z'⟩
   ·rw [o9 hb] at e;exact (J'.hok b o e).stay (fun _ _ _ q=>q) (fun b q=>inn q) fun b u q=>inn q
  ·by_cases hb:b∈C
   ·rw [a0q hb];exact e
   ·rw [o9 hb];exact e' b o (i7 hb e)
  ·refine Own.frame (fun b o' hb=>?_) u o fun a ha=>o9 (vQ a ha)
   obtain⟨n1,n2⟩:=n0 hb;exact i7 (fun z=>n1 (aq _ z)) (inn n2)
  ·have:=fr a ha;rw [V3 (vQ a ha)] at this;exact this
 ·rw [aO ha] at hm;cases hm
end VS
namespace VS
open PySem PySem.Spec L2 PyProof.Rows
def a5Z(X:Cx)(cl:List (bc × av)):List bc->List Nat->Prop
 | [],js=>js=[]
 | y :: ys,js=>∃j r c,js=j :: r/\X.N[j]?=some y/\X.env.kindOf y=some .cell/\X.env.cells.lookup y=some c/\cl.lookup y=some c/\a5Z X cl ys r
def b9Y(X:Cx)(cl:List (bc × av)):Prop:=∀p∈cl,X.env.cells.lookup p.1=some p.2/\X.fn p.1=true
def b4I(σ:L2.St):List Nat->List V->Prop
 | [],vs=>vs=[]
 | j :: js,vs=>∃v r,vs=v :: r/\σ[j]?=some (some v)/\b4I σ js r
def b7L(X:Cx)(cl:List (bc × av))(ys:List bc)(js:List Nat)(sp:Sp)(t:TA):TE:=fun σ H Q=>t σ H fun vs H1=>∃jW,b4I σ js jW/\
 ∀(H2:Hp) (C:List av),(∀x y c,cl.lookup x=some c->cl.lookup y=some c->x=y)->Same H1 H2->CellsIn cl H2 ys jW->b2o cl H2->Junk H2 C->(∀b,b∉C->H2 b=H1 b)->(∀b∈C,H1 b=none)->sp vs H2 (fun v H'=>Junk H' C->Q v (VS.cut H' C)) E0
theorem a6a{cl:List (bc × av)}(I:Inv X pins σ H s)(h2:∀y c,cl.lookup y=some c->∀ob,s.heap.get? c=some ob->H2 c=some (.frz ob (.own c))) :
  ∀{ys:List bc} {js:List Nat} {jW:List V},a5Z X cl ys js->b4I σ js jW->CellsIn cl H2 ys jW
 | [],js,jW,h,q=>by
  rw [show js=[] from h] at q;exact q
 | y :: ys,_,jW,h,q=>by
  obtain⟨j,r,c,rfl,h1,h3,h4,h5,h6⟩:=h;obtain⟨v,rs,rfl,q1,q2⟩:=q;obtain⟨m,hn,hl⟩:=I.loc;obtain⟨u,ru,lk⟩:=hl j y v h1 q1 (.inr (.inl h3));rcases lk with⟨k,_⟩|⟨k,c',e',ob,z1,z2⟩
  ·rw [h3] at k;cases k
  ·rw [h4] at e';cases e'
   exact⟨v,rs,c,ob,u,rfl,h5,h2 y c h5 ob z1,z2,ru,a6a I h2 h6 q2⟩
section
variable {X:Cx}{k:Nat}{f:av}{fd:cV}{ps:List bc}{sp:Sp}{x:bc}{p pos:ek}{e:Expr}{es:List Expr}{t:TA}{cl:List (bc × av)}{ys:List bc}{js:List Nat}
theorem a6b(F:FnOk X.prog X.w X.K X.mg X.base CX0 k f fd ps sp)(hr:Room k X.A)(hg:Gl X x)(hm:X.mg x=some (.ref f))(hk:ee X.K (.ref f)=true)(hb:Binds X.K fd ps [])(ha:PA X (e :: es) t)(oA:a5Z X cl ys js)(iA:b9Y X cl)
  (jM:(x == ("__debug__":bc))=false) (he:au (e :: es) X.env=(false,bW e X.env) :: au es X.env) (fD:(b_ pos (au es X.env)).any (·.1)=false) :
  PE X (.Call (.Name x p) (e :: es) [] pos) (b7L X cl ys js sp t):=by
 intro pins s0 σ H0 Q I0 h;refine fH (V0 I0 hg hm ?_ jM);refine lK (h₀:=X.base) I0.ok.mod.kin hk (L2.thn (ha pos pins s0 σ H0 _ I0 h) fun us s ⟨vs,H,I,r,jW,uF,q⟩=>⟨I.kIn,?_⟩) he fD;obtain⟨C,memC,tN⟩:∃C:List av,(∀c∈C,∃y,cl.lookup y=some c)/\∀y c,cl.lookup y=some c->c∈C:=
  ⟨(cl.map (·.1)).filterMap fun y=>cl.lookup y,fun c hc=>let⟨y,_,e⟩:=de.mp hc;⟨y,e⟩,fun y c e=>de.mpr ⟨y,aG.mpr ⟨(y,c),bK e,rfl⟩,e⟩⟩
 have mZ:∀c∈C,∃y,X.env.cells.lookup y=some c/\X.fn y=true:=fun c hc=>by
  obtain⟨y,hy⟩:=memC c hc;exact⟨y,iA _ (bK hy)⟩
 have nh:∀c∈C,H c=none:=fun c hc=>by
  obtain⟨y,hy,_⟩:=mZ c hc;exact I.freeC y c hy
 have lD:∀c∈C,∃ob v,s.heap.get? c=some ob/\ob.data=.cell v:=fun c hc=>by
  obtain⟨y,hy,_⟩:=mZ c hc;obtain⟨v,ob,z1,z2⟩:=I.cell y c hy;exact⟨ob,v,z1,z2⟩
 have qF:∀c∈C,X.s₀.heap.objs.size<=c:=fun c hc=>by
  obtain⟨y,hy,hf⟩:=mZ c hc;exact I.ok.cab y c hf hy
 obtain⟨H2,oH,ll⟩:∃H2:Hp,(∀c∈C,∀ob,s.heap.get? c=some ob->H2 c=some (.frz ob (.own c)))/\∀b,b∉C->H2 b=H b:=
  ⟨fun b=>if b∈C then (s.heap.get? b).map (fun o=>HO.frz o (.own b)) else H b,fun c hc ob z=>by show (if c∈C then _ else _)=_;rw [aE hc,z];rfl,fun b hb=>aO hb⟩
 have kl:Same H H2:=fun b o e=>by
  rw [ll b (fun z=>by rw [nh b z] at e;cases e)];exact e
 have J2:Junk H2 C:=fun a hm u e=>by
  obtain⟨ob,v,z1,_⟩:=lD a hm;rw [oH a hm ob z1] at e;cases e
  exact⟨ob,rfl⟩
 have nk:HOk X.prog X.w H2 s.heap:=fun b o e=>by
  by_cases hb:b∈C
  ·obtain⟨ob,v,z1,_⟩:=lD b hb;rw [oH b hb ob z1] at e;cases e
   exact⟨z1,_,z1⟩
  ·rw [ll b hb] at e;exact (I.hok b o e).stay (fun _ _ _ q=>q) (fun b q=>kl _ _ q) fun b u q=>kl _ _ q
 have e0:Env0 X.prog X.w X.K X.mg X.base X.A X.stack s H2:=by
  have z:=I.env0;refine⟨z.frames,z.mod,fun b o e=>⟨(z.bs b o e).1,?_⟩,z.bsz,z.funs,fun b hb=>?_,nk,z.bare,fun x hx p e=>?_⟩
  ·rw [ll b fun hc=>absurd (aW (aN e) (cI I.ok.bsz (qF b hc))) (cE _)];exact (z.bs b o e).2
  ·rw [ll b fun hc=>?_]
   ·exact z.frf b hb
   ·rcases aH.mp (I.stkSub b hb) with e|e
    ·obtain⟨y,hy,_⟩:=mZ b hc;exact I.cne y b hy e
    ·obtain⟨_,o,ho,_⟩:=I.ok.funs.mem e;exact absurd (aW (aN ho) (qF b hc)) (cE _)
  ·obtain⟨qs,t',e1,e2⟩:=z.tabs x hx p e;exact⟨qs,t',kl _ _ e1,e2⟩
 have nj:=q H2 C (fun x y c z1 z2=>I.ok.inj x y c (iA _ (bK z1)).1 (iA _ (bK z2)).1) kl (a6a I (fun y c hy ob z=>oH c (tN y c hy) ob z) oA uF) (fun y c hy=>by
  obtain⟨ob,v,z1,z2⟩:=lD c (tN y c hy);exact⟨ob,v,oH c (tN y c hy) ob z1,z2⟩) J2 ll nh
 have r2:Vals vs (us ++ []):=by rw [aZ];exact r
 have hl:(us ++ []).length=ps.length:=by rw [<-r2.length];exact F.len _ _ _ _ nj
 refine kM (eH (F.run X.A X.stack s H2 ⟨us,[]⟩ (us ++ []) vs _ E0 hr e0 (hb s us I.kIn hl) r2 nj) fun r s' hq=>?_);cases r with
 | error e=>exact bS hq
 | ok fl=>
  cases fl with
  | next=>exact bS hq
  | brk=>exact bS hq
  | cont=>exact bS hq
  | ret u=>
   obtain⟨v,H',os,bare,un,oe,rv,qv⟩:=(show CE X.stack X.prog X.w H2 s _ u s' from hq);have fz:∀c∈C,∃ob,s.heap.get? c=some ob/\H' c=some (.frz ob (.own c))/\s'.heap.get? c=some ob:=fun c hc=>by
    obtain⟨ob,v,z1,_⟩:=lD c hc;have z2:=un.frzs c ob _ (oH c hc ob z1);exact⟨ob,z1,z2,(oe c _ z2).1⟩
   have J':Junk H' C:=fun a hm u e=>by
    obtain⟨ob,_,z,_⟩:=fz a hm;rw [z] at e;cases e
    exact⟨ob,rfl⟩
   have n2:∀b,H b=none->b∉C->H2 b=none:=fun b n hb=>by rw [ll b hb];exact n
   have oC:∀b u,H b=some u->b∉C:=fun b u e z=>by rw [nh b z] at e;cases e
   have Ag:Un (frs X.stack) [] H (VS.cut H' C) s.heap s'.heap:=by
    refine⟨fun b o e n hb hx=>?_,fun b o e n hb hx=>?_,fun b o e n hx=>?_,un.there,fun b xs e=>?_,fun b o u e=>?_,fun b ps e=>?_⟩
    ·by_cases hc:b∈C
     ·obtain⟨ob,z1,_,z3⟩:=fz b hc;rw [e] at z1;cases z1
      exact z3
     ·exact un.keep b o e (n2 b n hc) hb hx
    ·by_cases hc:b∈C
     ·obtain⟨ob,z1,_,z3⟩:=fz b hc;rw [e] at z1;cases z1
      exact⟨o.slots,z3⟩
     ·exact un.slot b o e (n2 b n hc) hb hx
    ·by_cases hc:b∈C
     ·exact T5 hc
     ·exact w8 (un.free b o e (n2 b n hc) hx)
    ·exact i7 (oC b _ e) (un.tups b xs (kl _ _ e))
    ·exact i7 (oC b _ e) (un.frzs b o u (kl _ _ e))
    ·obtain⟨more,z⟩:=un.tbls b ps (kl _ _ e);exact⟨more,i7 (oC b _ e) z⟩
   exact⟨v,VS.cut H' C,I.call' os Ag (a5V oe J') bare (fun b z=>absurd z (by simp)),rv,qv J'⟩
end
def B0(scope:fE)(env:lQ):List (bc × av):=scope.names.foldl (fun cs p=>if p.2 == .free then (match env.cells.lookup p.1 with|some c=>(p.1,c) :: cs|none=>cs) else cs) []
theorem a7D:∀p∈B0 scope env,env.cells.lookup p.1=some p.2:=by
 have key:∀(l:List (bc × iu)) (cs:List (bc × av)),(∀p∈cs,env.cells.lookup p.1=some p.2)->∀p∈l.foldl (fun cs p=>if p.2 == .free then (match env.cells.lookup p.1 with|some c=>(p.1,c) :: cs|none=>cs) else cs) cs,env.cells.lookup p.1=some p.2:=by
  intro l
  induction l with
  | nil=>intro cs h;exact h
  | cons a l ih=>
   intro cs h;rw [Er];refine ih _ fun p hp=>?_
   split at hp
   ·split at hp
    ·rename_i c hc
     rcases aH.mp hp with e|e
     ·rw [e];exact hc
     ·exact h p e
    ·exact h p hp
   ·exact h p hp
 exact key _ _ fun p hp=>(nomatch hp)
theorem a8N{X:Cx}(lY:∀x,X.fn x=true:=by exact fun _=>rfl):b9Y X (B0 scope X.env):=fun p hp=>⟨a7D p hp,lY _⟩
section
variable {X:Cx}{M:List Md}{e0:Expr}{es:List Expr}{f:EvA}{u uf:Ty}{x:bc}{p pos jh:ek}{params:kH}{body:Expr}{scope:fE}{ys:List bc}{js:List Nat}
theorem a8O(hx:y∈K5)(hP:x8 X.K y=some P)(hc:X.env.code=.ref c)(hd:fQ X.base c P)(hq:X.env.qual ++ "<lambda>"=S8 y)
  (mW:nz scope X.env=pure (B0 scope X.env):=by rfl) (rH:defaultsOf params X.env=([],[]):=by rfl) (hs:au [.Lambda params body scope jh] X.env=(false,bW (.Lambda params body scope jh) X.env) :: au [] X.env:=by rfl) :
  PAL X M [.Lambda params body scope jh] b8 fun H v=>∃fa,v=.ref fa/\LamO (S8 y) params body scope (B0 scope X.env) H fa:=by
 refine⟨_,k9 (b0q hx hP hc hd hq mW rH) o7 hs,fun Z σ H P F ds Q S hf q=>?_⟩;cases hf
 exact fun fa H' e L=>q [] (.ref fa) H' e denAll_nil ⟨fa,rfl,L⟩
def b4J(M:List Md):List Nat->Prop
 | []=>True
 | j :: js=>(∃w,M[j]?=some (.own w))/\b4J M js
theorem a4V{K:af}{Z:List D}{σ:L2.St}{H P:Hp}{F:List av}(S:StE K M Z σ H P F):∀{js:List Nat},b4J M js->∃jW,b4I σ js jW/\DenAll K H jW (js.map fun j=>Z.getD j .none)
 | [],_=>⟨[],rfl,denAll_nil⟩
 | j :: js,h=>by
  obtain⟨⟨w,hw⟩,h2⟩:=h;obtain⟨v,fp,e,o,_⟩:=S.get hw;obtain⟨jW,q1,q2⟩:=a4V S h2;exact⟨v :: jW,⟨v,jW,rfl,e,q1⟩,denAll_cons (o.den w) q2⟩
def b0r(m:(List D->Option D)->List D->Option D)(us:List Ty)(js:List Nat)(fb:EvE)(f:EvA):EvE:=fun Z=>(f Z).bind (m (fnE us (js.map fun j=>Z.getD j .none) fb))
theorem a7E{k kf n:Nat}{ps pl N:List bc}{q:bc}{us:List Ty}{fb:EvE}{m:(List D->Option D)->List D->Option D}
  (W:Has X.prog X.w X.K X.mg X.base x k ps (spL X.K n (fun gm=>FnV X.prog X.w X.K X.mg X.base (kf + 1) pl.length uf gm) m u)) (hr:Room k X.A) (h:PAL X M (e0 :: es) f fun H v=>∃fa,v=.ref fa/\LamO q params body scope (B0 scope X.env) H fa)
  (oA:a5Z X (B0 scope X.env) ys js) (hM:b4J M js) (S:LamScope N pl ys scope (B0 scope X.env)) (k_:us.length=pl.length)
  (ko:∀(pm:ai) (c:av) (ku:ai) (us:List ai),us.length=pl.length->me (oM "<lambda>" q params body scope (B0 scope X.env) pm (.ref c) ku) ⟨us,[]⟩=pure (pl.zip us))
  (hb:∀(fa c:av) (A:bx) (outer:List lQ) (s:ak) (H:Hp),Room kf (A.deeper (gP q scope s.heap.objs.size fa (.ref c) (B0 scope X.env)))->PX (a5Y X.prog X.w X.K X.mg X.base N q scope fa (.ref c) (B0 scope X.env) A outer s H) (us.map .own ++ aC ys.length (.own .f)) body fb (.new uf))
  (hfl:∀Z ds,f Z=some ds->ds.length=n) (hu:u.shut=true:=by rfl) (lY:∀x,X.fn x=true:=by exact fun _=>rfl)
  (hg:Gl X x:=by rfl) (jM:(x == ("__debug__":bc))=false:=by decide) (he:au (e0 :: es) X.env=(false,bW e0 X.env) :: au es X.env:=by rfl) (fD:(b_ pos (au es X.env)).any (·.1)=false:=by rfl) :
  PX X M (.Call (.Name x p) (e0 :: es) [] pos) (b0r m us js fb f) (.new u):=by
 obtain⟨t,pa,qa⟩:=h;obtain⟨CO,fd,F,b,kp,wy⟩:=W.ex;refine .mk ⟨_,a6b F hr hg wy kp b pa oA (a8N lY) jM he fD,fun Z σ H P F d Q S' hf q=>?_⟩;obtain⟨ds,h1,hf⟩:=bnd hf;refine qa Z σ H P F ds _ S' h1 fun vs v H1 e1 r1 ⟨fa,hv,L⟩=>?_
 subst hv;obtain⟨jW,c1,c2⟩:=a4V (S'.grow e1) hM;refine⟨jW,c1,fun H2 C om s2 ci yb J2 o2 n2=>?_⟩;refine⟨vs,.ref fa,_,ds,d,rfl,by rw [r1.length];exact hfl Z ds h1,r1.up s2,fun H' e'=>a8M (L.up (s2.trans e')) S om (ci.up e') (fun y c z=>let⟨ob,uo,w1,w2⟩:=yb y c z;⟨ob,uo,e' _ _ w1,w2⟩) (c2.up (s2.trans e')) k_ ko (hb fa),hf,fun v H' fp e o nd fr J'=>?_⟩;have vQ:∀a∈fp,a∉C:=fun a ha z=>by
  obtain⟨ys,w⟩:=o.lst u a ha;obtain⟨ob,w'⟩:=J' a z _ w;have:=ys.2;rw [w'] at this;exact this
 have sm:Same H1 (VS.cut H' C):=fun b o' hb=>i7 (fun z=>by rw [n2 b z] at hb;cases hb) (e _ _ (s2 _ _ hb))
 refine q v (VS.cut H' C) (e1.trans sm) ⟨fp,(o.junk J' u).shut_out (fun a ha=>?_) u hu,nd,fun a ha=>?_⟩
 ·rcases ay.mp ha with z|z
  ·exact (o.junk J' u).lst u a z
  ·exact S'.lst' (e1.trans sm) a z
 ·have:=fr a ha;rw [o2 a (vQ a ha)] at this;exact e1.free this
end
theorem b2p{P:bh}{w:bE}{K:af}{mg:bc->Option ai}{base:bL}{x:bc}{st:fT}{f:av}{fd:cV}{N ps:List bc}{k n:Nat}{us:List Ty}{u:Ty}{g:EvS}{M':List Md}(F:Fun K x x st f fd)(S:FnScope N ps (g8 st))(k_:us.length=ps.length)(hn:N.length=ps.length + n)
  (hb:∀(A:bx) (outer:List lQ) (s:ak) (H:Hp) (E:XK),Room k (A.deeper (iE x (g8 st) s.heap.objs.size f fd.code))->PSsX (S9 CX0 P w K mg base N x (g8 st) f fd.code A outer s H E).nox u [] (us.map .own ++ aC n .dead) (r9 st) g M') :
  FnOk P w K mg base CX0 (k + 1) f fd ps (spD K ps.length (fnD us n g) u):=by
 obtain⟨oc,od,kV,doc,pm,an,eQ,ct,mR,rfl,lk,gJ⟩:=F.ex;refine b1m lk gJ S (fun vs H Q E ⟨ds,d,hl,_⟩=>hl) fun A outer s H vs Q E hr ⟨ds,d,hl,hd,hm,q⟩=>?_
 obtain⟨t,p,r⟩:=(hb A outer s H E hr).out;refine⟨t,p.nox,?_⟩;unfold fnD at hm;by_cases ha:argsOk us ds=true
 ·rw [aE ha] at hm;obtain⟨o,h1,h2⟩:=bnd hm;cases o with
  | rt d'=>
   have lr:some d'=some d:=h2;cases lr
   have e:L2.start N vs=vs.map some ++ aC n none:=by
    unfold L2.start;rw [show N.length - vs.length=n by lia]
   rw [e];refine r _ (ds ++ aC n fG) _ H H [] (.rt d) ⟨⟨[],N1 ha hd n,br,fun a ha=>(nomatch ha)⟩,fun a ha=>(nomatch ha),by rw [F7];exact Same.refl H⟩ h1 ?_;exact fun v H' fp o nd fr e=>q v H' fp e o nd fr
  | _=>cases h2
 ·rw [aO ha] at hm;cases hm
theorem b2q{K:af}{base:bL}{fd:cV}(e:(x8 K x).isSome=true)(X:K.In base)(G:base.Ns aV mg)(a:bH K aV x=some (some (.ref f)))(l:K.lookup f=some ⟨oc,od,.func fd,sl⟩) :
  ∃c p,fd.code=.ref c/\x8 K x=some p/\fQ base c p:=by
 obtain⟨p,hp⟩:=dz.mp e;obtain⟨f',DF,DE,zz,sk,c,h1,h2,h3,h4⟩:=a3W hp X G;have h5:=fw X G a;rw [h1] at h5;cases h5
 rw [l] at h2;cases h2
 exact⟨c,p,h3,hp,h4⟩
end VS
namespace VS
open PySem
abbrev Up(xs:List Nat):Prop:=xs.Pairwise (· < ·)
def AtB(xs:List Nat)(j p:Nat):Prop:=p<=xs.length/\(∀i (h:i < xs.length),i < p->xs[i] < j)/\∀i (h:i < xs.length),p<=i->¬ xs[i] < j
theorem a4e(h:Up xs)(hk:k < xs.length)(hi:i < k):xs[i] < xs[k]:=List.pairwise_iff_getElem.mp h i k (by lia) hk hi
theorem AtB.uniq(a:AtB xs j p)(b:AtB xs j q):p=q:=by
 rcases zP p q with c|c|c
 ·exact absurd (b.2.1 p (by have:=b.1;lia) c) (a.2.2 p (by have:=b.1;lia) (aF _))
 ·exact c
 ·exact absurd (a.2.1 q (by have:=a.1;lia) c) (b.2.2 q (by have:=a.1;lia) (aF _))
theorem b2r{xs:Array Nat}(hs:Up xs.toList):∀(f lo hi:Nat),lo<=hi->hi<=xs.size->hi<=lo + f->(∀i (h:i < xs.toList.length),i < lo->xs.toList[i] < j)->(∀i (h:i < xs.toList.length),hi<=i->¬ xs.toList[i] < j)->
  AtB xs.toList j (oJ xs j f lo hi):=by
 intro f
 induction f with
 | zero=>
  intro lo hi h1 h2 h3 a b;have e:lo=hi:=by lia
  subst e;rw [oJ];exact⟨by simpa using h2,a,b⟩
 | succ f ih=>
  intro lo hi h1 h2 h3 a b;rw [oJ];by_cases c:lo < hi
  ·rw [aE c];have hm:(lo + hi) / 2 < xs.size:=by lia
   have sH:(lo + hi) / 2 < xs.toList.length:=by simpa using hm
   have eg:xs.getD ((lo + hi) / 2) j=xs.toList[(lo + hi) / 2]:=by simp [Array.getD,hm]
   simp only [eg];by_cases d:xs.toList[(lo + hi) / 2] < j
   ·rw [aE d];refine ih _ _ (by lia) h2 (by lia) (fun i kc hl=>?_) b;rcases et i ((lo + hi) / 2) with z|z
    ·exact jR (a4e hs sH z) d
    ·have:i=(lo + hi) / 2:=by lia
     subst this;exact d
   ·rw [aO d];refine ih _ _ (by lia) (by lia) (by lia) a (fun i kc hl=>?_);rcases et ((lo + hi) / 2) i with z|z
    ·have:=a4e hs kc z;lia
    ·have:i=(lo + hi) / 2:=by lia
     subst this;exact d
  ·rw [aO c];have e:lo=hi:=by lia
   subst e;exact⟨by simpa using h2,a,b⟩
theorem below_at{xs:Array Nat}(hs:Up xs.toList)(j:Nat):AtB xs.toList j (dQ xs j):=by
 unfold dQ;exact b2r hs _ _ _ (dq _) (aF _) (by lia) (fun i _ h=>by lia) (fun i h h'=>by simp at h;lia)
theorem a7F{xs:Array Nat}(hs:Up xs.toList):dQ xs 0=0:=(below_at hs 0).uniq ⟨dq _,fun _ _ h=>by lia,fun _ _ _=>by lia⟩
theorem a7G{xs:Array Nat}(hs:Up xs.toList)(hi:i < xs.toList.length):dQ xs (xs.toList[i] + 1)=i + 1:=by
 refine (below_at hs _).uniq ⟨hi,fun k hk h=>?_,fun k hk h=>?_⟩
 ·rcases et k i with z|z
  ·have:=a4e hs hi z;lia
  ·have:k=i:=by lia
   subst this;lia
 ·have:=a4e hs hk (show i < k by lia);lia
theorem b7M(hs:Up xs)(h:AtB xs j p)(hj:j∉xs):Up (xs.take p ++ j :: xs.drop p):=by
 have h1:∀x∈xs.take p,x < j:=fun x hx=>by
  obtain⟨i,hi,rfl⟩:=iy.mp hx;rw [du] at hi;rw [List.getElem_take];exact h.2.1 i (by lia) (by lia)
 have h2:∀x∈xs.drop p,j < x:=fun x hx=>by
  obtain⟨i,hi,rfl⟩:=iy.mp hx;rw [ic] at hi;have z:=h.2.2 (p + i) (by lia) (by lia);rw [List.getElem_drop];have:xs[p + i]'(by lia)≠j:=fun e=>hj (e ▸ cQ _)
  lia
 rw [Up,ez,cy];refine⟨hs.take,⟨h2,hs.drop⟩,fun a ha b hb=>?_⟩;rcases aH.mp hb with rfl|hb
 ·exact h1 a ha
 ·exact jR (h1 a ha) (h2 b hb)
theorem a6c{t:gk}(hs:Up t.place.toList)(h:∀i,t.slot j≠.live i):j∉t.place.toList:=fun hj=>by
 obtain⟨i,hi,e⟩:=iy.mp hj;have hb:dQ t.place j=i:=by
  refine (below_at hs j).uniq ⟨dA hi,fun k hk z=>?_,fun k hk z=>?_⟩
  ·have:=a4e hs hi z;lia
  ·rcases et i k with y|y
   ·have:=a4e hs hk y;lia
   ·have:k=i:=by lia
    subst this;lia
 apply h i;have kc:i < t.place.size:=by simpa using hi
 have:t.place[i]?=some j:=by rw [bG kc,<-e];simp
 simp only [gk.slot,hb,this,h_,ie]
theorem b2s{t:gk}:∀(f:Nat) (p:gk.Probe) (j:Nat) (d:Option Nat),(∀x,p.dummy=some x->t.slot x=.dummy)->gk.probe.go t hs h f p=some (.empty j d)->t.slot j=.empty/\∀x,d=some x->t.slot x=.dummy:=by
 intro f
 induction f with
 | zero=>intro p j d _ e;cases e
 | succ f ih=>
  intro p j d hd e;rw [gk.probe.go] at e;have zN:∀q:gk.Probe,(t.advance q).dummy=q.dummy:=fun q=>by unfold gk.advance;split <;> rfl
  split at e
  ·rename_i mJ
   cases e
   exact⟨mJ,hd⟩
  ·rename_i mJ
   exact ih _ j d (fun x hx=>by rw [zN] at hx;cases hx;exact mJ) e
  ·split at e
   ·cases e
   ·exact ih _ j d (fun x hx=>by rw [zN] at hx;exact hd x hx) e
theorem b2t{t:gk}(hs:Up t.place.toList)(e:t.freeSlot h=some (j,b)):j∉t.place.toList:=by
 unfold gk.freeSlot at e
 split at e
 ·rename_i j' d hp
  unfold gk.probe at hp;obtain⟨h1,h2⟩:=b2s _ _ _ _ (fun x hx=>by cases hx) hp;simp only [er,ju] at e;obtain⟨rfl,_⟩:=e;cases d with
  | none=>exact a6c hs fun i=>by rw [show t.slot ((none:Option Nat).getD j')=.empty from h1];simp
  | some x=>exact a6c hs fun i=>by rw [show t.slot ((some x:Option Nat).getD j')=.dummy from h2 x rfl];simp
 ·cases e
theorem b2u(n:Nat):Up (Array.range n).toList:=by rw [Array.toList_range];exact gR
theorem Q6(t:gk)(n:Nat):Up (t.standIn n).place.toList:=b2u n
theorem b0s{t:gk}(hs:Up t.place.toList)(es:Array (Int × ai))(h:Int)(x:ai):Up (layNew t es h x).2.1.place.toList/\(layNew t es h x).2.1.led=t.led:=by
 unfold layNew
 split
 ·rename_i slot wd e
  have hp:Up (t.put slot).1.place.toList:=by
   show Up (gk.insertAt t.place (dQ t.place slot) slot).toList;rw [gk.toList_insertAt];exact b7M hs (below_at hs slot) (b2t hs e)
  have hl:(t.put slot).1.led=t.led:=rfl
  dsimp only
  unfold gk.orStandIn
  split
  ·exact⟨hp,hl⟩
  ·exact⟨Q6 _ _,hl⟩
 ·exact⟨Q6 _ _,rfl⟩
theorem a4W(f:Nat->Option Nat):Up (((aJ n).filterMap fun j=>(f j).map (j,·)).map (·.1)):=by
 rw [Up,gQ,List.pairwise_filterMap];refine gR.imp fun {a b} oU x hx y hy=>?_
 obtain⟨_,_,rfl⟩:=bY.mp hx;obtain⟨_,_,rfl⟩:=bY.mp hy;exact oU
theorem b2v(t:gk)(es:Array (Int × ai))(n:Nat):(Up t.place.toList->Up (lS t es n).2.1.place.toList)/\(lS t es n).2.1.led=t.led:=by
 unfold lS
 split
 ·rename_i t' order e
  unfold gk.relaid gk.laid at e;obtain⟨ow,_,e2⟩:=qT.mp e;simp only [Option.pure_def,er,ju] at e2;obtain⟨rfl,_⟩:=e2
  dsimp only
  split
  ·refine⟨fun _=>?_,rfl⟩;rw [List.toList_toArray];exact a4W _
  ·exact⟨fun _=>Q6 _ _,rfl⟩
 ·exact⟨fun _=>Q6 _ _,rfl⟩
end VS
namespace VS
open PySem PySem.Spec L2
open PyProof.Rows (step_dedup firstMet firstMet_zero firstMet_succ firstMet_length_le step_length)
def iOf:ai->Int
 | .int n _=>n
 | _=>0
def EI(l:List (Int × ai))(ms:List Int):Prop:=(∀e∈l,∃n t,e.2=.int n t/\e.1=jm n)/\(l.map fun e=>iOf e.2).Perm ms
def B1(w:bE)(o:eD)(es:Array (Int × ai))(ep:Nat)(t:gk)(ms:List Int):Prop:=
 o.ExactSet/\o.data=.set es ep t/\t.fits es.size=true/\Up t.place.toList/\t.led=!w.params.followText "set-order"/\es.size < gx/\EI es.toList ms
def SetI(w:bE)(h:bL)(a:av)(ms:List Int):Prop:=∃o es ep t,h.get? a=some o/\B1 w o es ep t ms
theorem SetI.at{h h':bL}(x:SetI w h a ms)(k:∀o,h.get? a=some o->h'.get? a=some o):SetI w h' a ms:=let⟨o,es,ep,t,e,r⟩:=x;⟨o,es,ep,t,k _ e,r⟩
theorem EI.perm{l l':List (Int × ai)}(h:EI l ms)(p:l'.Perm l):EI l' ms:=⟨fun e he=>h.1 e (p.mem_iff.mp he),(p.map _).trans h.2⟩
theorem EI.push{l l':List (Int × ai)}(h:EI l ms)(p:l'.Perm (l ++ [(jm n,.int n tk)])):EI l' (ms ++ [n]):=by
 refine EI.perm (l:=l ++ [(jm n,.int n tk)]) ⟨fun e he=>?_,?_⟩ p
 ·rcases ay.mp he with z|z
  ·exact h.1 e z
  ·rw [ax] at z;subst z;exact⟨n,tk,rfl,rfl⟩
 ·rw [bb];exact h.2.append (gT _)
theorem EI.len(h:EI l ms):l.length=ms.length:=by have:=h.2.length_eq;simpa using this
section
variable {prog:bh}{w:bE}{A:bx}{E:ai->ak->Prop}{sh:ak}
theorem EI.elems(h:EI l ms):ElemsOf (fW prog w) l:=fun e he=>by
 obtain⟨n,t,e1,e2⟩:=h.1 e he;rw [e1];exact⟨⟨n,ni _ _ _ _,e2⟩,rfl⟩
theorem a4f{es gr:Array (Int × ai)}{t t':gk}(ho:sh.heap.get? a=some o)(r:B1 w o es ep t ms)(f:t'.fits gr.size=true)(u:Up t'.place.toList)(l:t'.led=t.led)(b:gr.size < gx)(e:EI gr.toList AF) :
  (sh.heap.update a (uX gr t')).get? a=some {o with data:=.set gr (ep + 1) t'}/\B1 w {o with data:=.set gr (ep + 1) t'} gr (ep + 1) t' AF:=by
 refine⟨?_,r.1,rfl,f,u,l.trans r.2.2.2.2.1,b,e⟩;have z:=bV (uX gr t') ho (by rw [putSet_of gr t' r.2.1];rfl)
 rwa [putSet_of gr t' r.2.1] at z
theorem add_int(hS:SetI w sh.heap a ms)(hr:ms.length + 1 < gx)
  (q:∀b h',dN a sh.heap h'->SetI w h' a (step_dedup ms n)->Q b {sh with heap:=h'}):aM (aU prog w) A (setAddHashed a (.int n tk) (jm n)) Q E sh:=by
 obtain⟨o,es,ep,t,ho,r⟩:=hS;obtain⟨_,hd,hf,hu,hl,hb,he⟩:=id r;have zg:ElemsOf (fW prog w) es.toList:=he.elems;have hlen:es.size=ms.length:=by have:=he.len;simpa using this
 unfold setAddHashed setAddHashedIn;refine bI (ae (fV ho hd hf ?_))
 dsimp only
 rw [byScan_of (knd:=fW prog w) (x:=.int n tk) rfl hb zg,aE rfl];unfold setAddByScan;refine ae (ae (gX (ae (wpAny_setScan_of (knd:=fW prog w) (k:=n) (ni _ _ _ _) ho hd hf zg ?_))));cases hj:es.toList.findIdx? fun e=>(fW prog w).is n e.2 with
 | some j=>
  dsimp only
  obtain⟨za,vE,_⟩:=List.findIdx?_eq_some_iff_getElem.mp hj;have jK:ms.any (· == n)=true:=by
   obtain⟨n',t',e1,_⟩:=he.1 _ (cQ za);rw [e1] at vE;have hn:n'=n:=(fW prog w).inj _ _ _ (ni prog w n' t') vE;refine eO.mpr ⟨n,he.2.mem_iff.mp (aG.mpr ⟨_,cQ za,?_⟩),h_ n⟩;rw [e1];exact hn
  refine ag (ag ?_);have z:=q false sh.heap (dN.refl a _) (by rw [step_dedup,aE jK];exact⟨o,es,ep,t,ho,r⟩);exact z
 | none=>
  dsimp only
  have w_:¬ ms.any (· == n)=true:=fun c=>by
   obtain⟨x,h1,h2⟩:=eO.mp c;obtain⟨e,g1,g2⟩:=aG.mp (he.2.mem_iff.mpr h1);obtain⟨n',t',e1,_⟩:=he.1 _ g1;have z:=List.findIdx?_eq_none_iff.mp hj e g1;rw [e1] at z g2;have:n'=n:=(show n'=x from g2).trans (fM.mp h2);subst this;rw [ni] at z;cases z
  have Bd:step_dedup ms n=ms ++ [n]:=by rw [step_dedup,aO w_]
  rw [Bd] at q;have p1:=layNew_perm t es (jm n) (.int n tk);have f1:=layNew_fits t es (jm n) (.int n tk);obtain⟨u1,l1⟩:=b0s hu es (jm n) (.int n tk);generalize layNew t es (jm n) (.int n tk)=L at p1 f1 u1 l1 ⊢;obtain⟨kQ,t1,wd,gv⟩:=L
  dsimp only at p1 f1 u1 l1 ⊢
  rw [zW] at p1;have e1:EI kQ.toList (ms ++ [n]):=he.push p1;have z1:kQ.size=ms.length + 1:=by have:=e1.len;simpa using this
  have b1:kQ.size < gx:=by lia
  have gw:∀(b:Bool) (s1:ak) (Q':Unit->ak->Prop),Q' () s1->aM (aU prog w) A (match b with|true=>rule "set.scan.the-table-gave-way" | false=>pure ()) Q' E s1:=fun b s1 Q' hq=>by
   cases b <;> first|exact ag hq|exact gX hq
  refine ae (gw _ _ _ ?_);have tail:∀(g:Bool->Sem Unit),(∀(b:Bool) (s1:ak) (Q':Unit->ak->Prop),Q' () s1->aM (aU prog w) A (g b) Q' E s1)->∀t2:gk,t2.fits kQ.size=true->Up t2.place.toList->t2.led=t.led->∀R:Option Bool->ak->Prop,
    (∀h',dN a sh.heap h'->SetI w h' a (ms ++ [n])->R (some true) {sh with heap:=h'})->
    aM (aU prog w) A (storeSet a kQ t2 >>= fun _=>if (!wd && t2.tooFull)=true then (g (lS t2 kQ (gj kQ.size)).2.2 >>= fun _=>storeSet a (lS t2 kQ (gj kQ.size)).1 (lS t2 kQ (gj kQ.size)).2.1 >>= fun _=>pure (some true)) else pure (some true)) R E sh:=by
   intro g hg t2 f2 u2 l2 R hR;refine ae (wpAny_storeSet_of ho hd ?_ (jV b1));obtain⟨o2,r2⟩:=a4f (sh:=sh) ho r f2 u2 l2 b1 e1;have sb:=bN sh.heap a (uX kQ t2)
   split
   ·have p3:=relayAll_perm t2 kQ (gj kQ.size);have f3:=relayAll_fits t2 kQ (gj kQ.size);obtain⟨u3,l3⟩:=b2v t2 kQ (gj kQ.size);generalize lS t2 kQ (gj kQ.size)=R3 at p3 f3 u3 l3 ⊢;obtain⟨zB,t3,g3⟩:=R3
    dsimp only at p3 f3 u3 l3 ⊢
    have e3:EI zB.toList (ms ++ [n]):=e1.perm p3;have b3:zB.size < gx:=by have:=e3.len;rw [aK,fx,cY] at this;lia
    refine ae (hg _ _ _ (ae (wpAny_storeSet_of o2 rfl ?_ (jV b3))));obtain⟨o4,r4⟩:=a4f (sh:={sh with heap:=sh.heap.update a (uX kQ t2)}) o2 r2 f3 (u3 u2) l3 b3 e3;exact ag (hR _ (sb.trans (bN _ a _)) ⟨_,_,_,_,o4,r4⟩)
   ·exact ag (hR _ sb ⟨_,_,_,_,o2,r2⟩)
  split
  ·refine ae ?_;rw [hashByValue_scannable 8 (x:=pZ n tk) rfl];refine ag ?_;refine tail _ ?_ _ ?_ ?_ ?_ _ fun h' sb nM=>ag (q true h' sb nM)
   ·intro b s1 Q' hq;cases b <;> first|exact ag hq|exact gX hq
   ·exact f1
   ·exact u1
   ·exact l1
  ·refine ae (ag ?_);rw [aE rfl];refine tail _ ?_ _ f1 u1 l1 _ fun h' sb nM=>ag (q true h' sb nM)
   intro b s1 Q' hq;cases b <;> first|exact ag hq|exact gX hq
end
end VS
namespace VS
open PySem PySem.Spec L2
open PyProof.Rows (firstMet firstMet_zero firstMet_succ firstMet_length_le IntsAre)
section
variable {prog:bh}{w:bE}{A:bx}{E:ai->ak->Prop}{sh:ak}{R:Di->ak->Prop}{I:av}{fp wr:List av}{G:Array GenState->Array GenState->Prop}{n:Nat}{P:Nat->ai->Prop}{St:Nat->ak->Prop}
theorem b2w(Wk:WalksS prog w A.in1 I fp wr G n P St)(z:av)(hz:z∉fp)(val:Nat->Int)(rj:∀i v,P i v->∃t,v=.int (val i) t)(hb:n + 1 < gx) :
  ∀(k i:Nat) (s:ak),n - i=k->i<=n->St i s->SetI w s.heap z (firstMet val i)->(∀s',Moved (z :: wr) G s s'->SetI w s'.heap z (firstMet val n)->R (.ok (.ret .none)) s')->
   ir (aU prog w) A (.builtin "set.update.loop" ⟨[.ref z,.ref I],[]⟩) R s:=by
 have hw:z∉wr:=fun h=>hz (Wk.sub _ h)
 have up:∀b∈wr,b∈z :: wr:=fun b h=>ao _ h
 intro k
 induction k with
 | zero=>
  intro i s hk hi st hS hR;obtain rfl:i=n:=by lia
  refine dw (by exact kT) ?_;rw [dm (by exact gf) _];show aM _ A.in1 (gY (be I) >>= _) _ _ s;refine ae (Wk.done s _ _ st fun s' m=>(show aM _ A.in1 (ret cD) _ _ s' from ag (hR s' (m.mono up) (hS.at fun o e=>m.heap z o hw e))))
 | succ k ih=>
  intro i s hk hi st hS hR;have lt:i < n:=by lia
  refine dw (by exact kT) ?_;rw [dm (by exact gf) _];show aM _ A.in1 (gY (be I) >>= _) _ _ s;refine ae (Wk.item i s _ _ lt st fun v s1 hP Ak m=>?_);obtain⟨t,rfl⟩:=rj i v hP;have uO:SetI w s1.heap z (firstMet val i):=hS.at fun o e=>m.heap z o hw e
  show aM _ A.in1 (il [pZ (val i) t] (setAdd z (.int (val i) t)) >>= fun _=>_) _ _ s1;refine ae (bI ?_);unfold setAdd;refine bI (ae ((fW prog w).pyHash (k:=val i) (by exact ni _ _ _ _) ?_));have rm:(firstMet val i).length + 1 < gx:=by have:=firstMet_length_le val i;lia
  refine add_int (sh:={s1 with toks:=s1.toks + 1}) (ms:=firstMet val i) uO rm fun b h' sb uN=>?_
  rw [<-firstMet_succ] at uN;refine ag ⟨gL (by exact gf) _,ih (i + 1) _ (by lia) lt (Wk.frame _ s1 _ _ Ak (gE _) fun c hc o e=>?_) uN fun s2 m2 xK=>?_⟩
  ·rw [sb.2 c (fun x:c=z=>hz (x ▸ hc))];exact e
  ·refine hR s2 (Moved.trans Wk.gtrans ((m.mono up).then_heap (gE _) fun c o hc e=>?_) m2) xK;rw [sb.2 c (fun x:c=z=>hc (x ▸ ah))];exact e
def a3C(w:bE):eD:={cls:=.type "set",dict:=none,data:=.set #[] 0 (.fresh 0 0 (!w.params.followText "set-order"))}
theorem b2x(w:bE):B1 w (a3C w) #[] 0 (.fresh 0 0 (!w.params.followText "set-order")) []:=⟨⟨rfl,rfl,rfl⟩,rfl,rfl,gU,rfl,by decide,fun e he=>by simp at he,gT _⟩
theorem b4K(a:ai)(h:Q (.ref sh.heap.objs.size) {sh with heap:=sh.heap.push (a3C w)}) :
  ir (aU prog w) A (.call (.builtin "set.__new__") ⟨[.type "set",a],[]⟩) (wants Q E) sh:=by
 refine codeAny_of_tree (show aM _ A.in1 (pX "set.__new__" ⟨[.type "set",a],[]⟩ >>= fun _=>again (.builtin "set.__new__" ⟨[.type "set",a],[]⟩)) _ _ sh from ?_);refine ae (wpAny_of_eq (by exact F.newCall_set_1 a) (ag ⟨gL (by exact F.plain_set_new) _,dw (by exact F.entry_set_new) ?_⟩));rw [dm (by exact F.plain_set_new) _];unfold Builtin.«set.__new__»;unfold Builtin.Frozenset.newClass;have iA:=@sub_set_self;obtain⟨hp,g,d,tk,os⟩:=sh
 dsimp only
 wp_walk
 refine pA (ag (by
  dsimp only
  simp only [newObj];exact ae (wpAny_alloc (ag (ag h)))))
end
end VS
namespace VS
open PySem PySem.Spec L2
open PyProof.Rows (firstMet IntsAre)
section
variable {prog:bh}{w:bE}{A:bx}{E:ai->ak->Prop}{sh:ak}
theorem b0t(hh:A.handled=none)(hl:sh.heap.IsList l items)(hi:IntsAre items.toList ns)(hb:items.size + 1 < gx)
  (h:∀(h':bL) (tk:Nat),SetI w h' sh.heap.objs.size (firstMet (fun i=>ns.getD i 0) items.size)->(∀b o,sh.heap.get? b=some o->h'.get? b=some o)->Q (.ref sh.heap.objs.size) {sh with heap:=h',toks:=tk}) :
  aM (aU prog w) A (call (.type "set") [.ref l]) Q E sh:=by
 obtain⟨cl,tl,Bx⟩:=(by exact gD.mro);have g1:=(by exact gD.made);have g2:=(by exact gD.sub);refine kM (codeAny_of_tree (show aM _ _ (callAny (.type "set") _) _ _ _ from ?_));refine ag ⟨Code.quiet_builtin _ (by decide +kernel),dw (by exact F.entry_type_call) ?_⟩;rw [bx.under_plain (by exact weight_type_call_type "set" [.ref l] []) rfl];have g3:=(by exact gD.notType);have g4:=(by exact gD.canCreate);have g5:=(by exact F.typeCall_set_1 (.ref l))
 repeat (any_goals first|assumption|wp_step)
 refine eH (b4K (.ref l) (E:=E) (Q:=fun v s1=>v=.ref sh.heap.objs.size/\s1={sh with heap:=sh.heap.push (a3C w)}) ⟨rfl,rfl⟩) fun r s1 hr=>?_
 cases r with
 | error e=>exact hr
 | ok fl=>
  cases fl with
  | ret v=>
   obtain⟨rfl,rfl⟩:=hr;have hS:(sh.heap.push (a3C w)).get? sh.heap.objs.size=some (a3C w):=aR _ rfl;have hT:m_ {sh with heap:=sh.heap.push (a3C w)} (.ref sh.heap.objs.size) "set":=⟨_,hS,rfl⟩;have g6:=(by exact gD.init.lookup);have g7:=(by exact gD.init.bind (.ref sh.heap.objs.size))
   repeat (any_goals first|assumption|wp_step)
   refine eH (ma (R:=wants (fun r s2=>r=.none/\∃h' tk,s2={sh with heap:=h',toks:=tk}/\SetI w h' sh.heap.objs.size (firstMet (fun i=>ns.getD i 0) items.size)/\(∀b o,sh.heap.get? b=some o->h'.get? b=some o)) E) (by exact gD.init.plain) (by exact F.entry_set_init) (check_set_init_1 hT ?_)) fun r2 s2 tX=>?_
   ·obtain⟨ol,vy,mW,nl,xE⟩:=hl;obtain⟨oc,od,DD,os⟩:=ol;simp only at mW xE;subst mW;subst xE;have rD:(sh.heap.push (a3C w)).get? l=some {cls:=.type "list",dict:=od,data:=.seq items nl,slots:=os}:=aw _ vy;have k1:=(by exact F.sub_list_set);have k2:=(by exact F.sub_list_frozenset);have k3:(eU "list" == eU "dict")=false:=by decide +kernel
    have vC:(sh.heap.push (a3C w)).IsList l items:=⟨_,rD,rfl,nl,rfl⟩;unfold Builtin.«set.__init__» noKeywords;unfold Builtin.Frozenset.updateFrom;generalize Cw:pE=PI
    wp_walk
    subst Cw;refine nT vC (ae (s_ ?_));have lt:l < sh.heap.objs.size:=aN vy;have BP:A.in1.in1.in1.handled=none:=by simp [hh]
    have ne:l≠(sh.heap.push (a3C w)).objs.size:=by rw [dR];exact bj (jf lt)
    have nf:sh.heap.objs.size∉[(sh.heap.push (a3C w)).objs.size,l]:=by
     rw [dR];simp only [aH,jG,or_false,not_or];exact⟨bj (jF _),rX lt⟩
    have hv:∀(i:Nat) (v:ai),items[i]?=some v->∃t,v=.int ((fun i=>ns.getD i 0) i) t:=fun i v e=>hi.int_at i v (by rw [cZ];exact e)
    refine b2w ((Walks.list BP _ l ne items).toS) sh.heap.objs.size nf (fun i=>ns.getD i 0) hv hb (items.size - 0) 0 _ rfl (dq _) ⟨⟨_,aR _ rfl,rfl,rfl⟩,vC.push _⟩ ⟨_,_,_,_,aw _ hS,b2x w⟩ fun s' m nM=>?_
    obtain⟨h',g',d',Ah,wo⟩:=s';have e1:g'=sh.gens:=m.gens;have e2:d'=sh.drawn:=m.drawn;have e3:wo=sh.os:=m.os;subst e1 e2 e3;show aM _ _ _ _ _ _;refine ag (show aM _ _ (ret cD) _ _ _ from ag ⟨rfl,h',Ah,rfl,nM,fun b o e=>?_⟩);have lb:=aN e;refine m.heap b o ?_ (aw _ (aw _ e));simp only [aH,jG,or_false,not_or,dR];exact⟨bj lb,bj (jf lb)⟩
   ·cases r2 with
    | error e=>exact tX
    | ok CM=>
     cases CM with
     | ret r=>
      obtain⟨rfl,h',tk,rfl,nM,rG⟩:=tX
      repeat (any_goals first|assumption|wp_step)
      exact h _ _ nM rG
     | _=>exact tX.elim
  | _=>exact hr.elim
end
end VS
namespace PySem.F
theorem entry_set_iterA:entryFor table "set.__iter__"=some Builtin.«frozenset.__iter__»:=entryFor_alias (id':="frozenset.__iter__") (by kernel_rfl) rfl (by decide +kernel) (by kernel_rfl)
theorem slot_sit_next:Slot "set_iterator" "__next__" "set_iterator.__next__":=Slot.of (owner:="set_iterator") (n:="__next__") (by rw [typeLookup_type,Ei];kernel_rfl) (by decide +kernel) (by decide +kernel) (by decide +kernel) (by first|exact .inl (by decide +kernel)|exact .inr (by decide +kernel)) (by rw [tL];kernel_rfl)
theorem entry_sit_next:entryFor table "set_iterator.__next__"=some Builtin.«set_iterator.__next__»:=entryFor_of_tree (by kernel_rfl)
theorem a4g:Manifest.owners.lookup (String.ofList ['r','o','t','a','r','e','t','i','_','t','e','s'].reverse)=some Manifest.sig_set_iterator:=by kernel_rfl
theorem args_sit_next(a:ai):argsOk "set_iterator.__next__" ⟨[a],[]⟩:=by
 unfold argsOk;rw [signature?_of (id:="set_iterator.__next__") (n:=['_','_','t','x','e','n','_','_']) (o:=['r','o','t','a','r','e','t','i','_','t','e','s']) (by kernel_rfl) (by exact a4g)];kernel_rfl
theorem slot_sit_iter:Slot "set_iterator" "__iter__" "set_iterator.__iter__":=Slot.of (owner:="set_iterator") (n:="__iter__") (by rw [typeLookup_type,Ei];kernel_rfl) (by decide +kernel) (by decide +kernel) (by decide +kernel) (by first|exact .inl (by decide +kernel)|exact .inr (by decide +kernel)) (by rw [tL];kernel_rfl)
theorem args_sit_iter(a:ai):argsOk "set_iterator.__iter__" ⟨[a],[]⟩:=by
 unfold argsOk;rw [signature?_of (id:="set_iterator.__iter__") (n:=['_','_','r','e','t','i','_','_']) (o:=['r','o','t','a','r','e','t','i','_','t','e','s']) (by kernel_rfl) (by exact a4g)];kernel_rfl
theorem entry_sit_iter:entryFor table "set_iterator.__iter__"=some Builtin.«dict_keyiterator.__iter__»:=entryFor_alias (id':="dict_keyiterator.__iter__") (by kernel_rfl) rfl (by decide +kernel) (by kernel_rfl)
end PySem.F
namespace VS
open PySem PySem.Spec L2
theorem Z0:∀{l:List α} {i:Nat} (h:i < l.length),(l[i] :: l.eraseIdx i).Perm l
 | a :: l,0,_=>by simp
 | a :: l,i + 1,h=>by
  have h':i < l.length:=by simpa using h
  simp only [List.getElem_cons_succ,List.eraseIdx_cons_succ];exact (List.Perm.swap a l[i] _).trans (List.Perm.cons a (Z0 h'))
section
variable {M:Model}{A:bx}{E:ai->ak->Prop}{sh:ak}
theorem a7H(hn:n≠0)(q:∀i d,i < n->Q i {sh with drawn:=d}):aM M A (choose src n) Q E sh:=fun Γ p hΓ=>by
 show Sem.wp M Γ (.choose src n .pure) _ _ p sh;rw [Sem.wp_choose];exact⟨hn,by simpa using q _ _ (Nat.mod_lt _ (Nat.pos_of_ne_zero hn))⟩
theorem b2y:∀(n:Nat) (xs:List α) (sh:ak) (Q:List α->ak->Prop),n=xs.length->(∀ys d,ys.Perm xs->Q ys {sh with drawn:=d})->aM M A (drawOrder n xs) Q E sh:=by
 intro n
 induction n with
 | zero=>
  intro xs sh Q e q;cases xs with
  | nil=>exact ag (q [] sh.drawn (gT _))
  | cons _ _=>cases e
 | succ n ih=>
  intro xs sh Q e q;cases xs with
  | nil=>cases e
  | cons x xs=>
   rw [drawOrder];refine ae (a7H (by simp) fun i d hi=>?_)
   ·rw [aB hi]
    dsimp only
    refine ae (ih _ _ _ (by rw [uZ,aE hi];simp only [ba] at e ⊢;lia) fun ys d' hp=>?_);exact ag (q _ _ (by
     refine (List.Perm.cons _ hp).trans ?_;exact Z0 hi))
   ·simp
theorem b4L(next:Nat->Nat):∀(f k:Nat) (left:List α) (out:Array α),f=left.length->(Ax next f k left out).toList.Perm (out.toList ++ left):=by
 intro f
 induction f with
 | zero=>
  intro k left out e;cases left with
  | nil=>simp [Ax]
  | cons _ _=>cases e
 | succ f ih=>
  intro k left out e;have h0:0 < left.length:=by lia
  have hm:next k % left.length < left.length:=Nat.mod_lt _ h0;rw [Ax,aB hm]
  dsimp only
  refine (ih _ _ _ (by rw [uZ,aE hm];lia)).trans ?_;rw [zW,aP];exact sX _ (Z0 hm)
theorem b0u(next:Nat->Nat)(xs:Array α):(km next xs).toList.Perm xs.toList:=by
 have:=b4L next xs.size 0 xs.toList #[] (by simp);simpa [km] using this
end
end VS
namespace VS
open PySem PySem.Spec L2
def SIt(h:bL)(it:av)(first:ai)(i:Nat)(z:av)(n ep:Nat):Prop:=∃o,h.get? it=some o/\o.cls=.type "set_iterator"/\o.data=.fields #[first,.int i 0,.ref z,.int n 0,.int ep 0]
section
variable {prog:bh}{w:bE}{A:bx}{E:ai->ak->Prop}{sh:ak}{it z:av}{first:ai}{i n ep:Nat}{o:eD}{es:Array (Int × ai)}{t:gk}{ms:List Int}
theorem SIt.at{h h':bL}(x:SIt h it first i z n ep)(k:∀o,h.get? it=some o->h'.get? it=some o):SIt h' it first i z n ep:=let⟨o,e,r⟩:=x;⟨o,k _ e,r⟩
theorem SIt.typ(x:SIt sh.heap it first i z n ep):sh.TypeIs (.ref it) "set_iterator":=let⟨o,e,r,_⟩:=x;⟨o,e,r⟩
theorem SIt.put{h:bL}(hx:∃o,h.get? it=some o/\o.cls=.type "set_iterator"/\o.data=.fields vs):∃o,(h.update it (yh (·.setIfInBounds j x))).get? it=some o/\o.cls=.type "set_iterator"/\o.data=.fields (vs.setIfInBounds j x):=
 let⟨o,e,c,d⟩:=hx;⟨_,bV _ e (Em (jE d _)),(eD.cls_mapFields ..).trans c,jE d _⟩
theorem Q7(q:Q (w.params.followText "set-order") sh):aM (aU prog w) A setsByText Q E sh:=by
 unfold setsByText;exact ae (pA (ag q))
theorem a6d(ho:sh.heap.get? z=some o)(r:B1 w o es ep t ms)(mL:w.params.followText "set-order"=false)(hp:t.plain=true∨es.size<=1)(mJ:dQ t.place sl=i)
  (q:(∀h:i < es.size,∀nx,dQ t.place nx=i + 1->Q (some (es[i].2,nx)) sh)/\(¬ i < es.size->Q none sh)):aM (aU prog w) A (sr z sl k nQ) Q E sh:=by
 obtain⟨_,hd,hf,hu,hl,hb,he⟩:=id r;unfold sr;refine ae (fV ho hd hf (ae (Q7 ?_)));rw [mL,aO bB];have vH:¬ (!t.plain && decide (es.size > 1))=true:=by
  rcases hp with c|c
  ·simp [c]
  ·simp;lia
 dsimp only
 refine fJ (fun c=>absurd c vH) fun _=>?_
 refine ae (show aM _ _ (if (!t.led && !es.isEmpty)=true then _ else _) _ _ _ from ?_);rw [aO (by rw [hl,mL];simp)];refine ag ?_;have tZ:t.place.size=es.size:=by simp only [gk.fits,az,fM] at hf;exact hf.1
 rw [mJ];by_cases c:i < es.size
 ·have c':i < t.place.size:=by lia
  rw [bG c,bG c'];refine ag (q.1 c _ ?_);have:=a7G hu (i:=i) (by simpa using c');simpa using this
 ·rw [dU (by lia)];exact ag (q.2 c)
theorem a8P(ho:sh.heap.get? z=some o)(r:B1 w o es ep t ms)(mL:w.params.followText "set-order"=true)
  (q:Q ((km (w.params.setOrder z ep) es)[k]?.map fun e=>(e.2,sl)) sh):aM (aU prog w) A (sr z sl k ep) Q E sh:=by
 obtain⟨_,hd,hf,_⟩:=id r;unfold sr;refine ae (fV ho hd hf (ae (Q7 ?_)));rw [mL,aE rfl];rw [aO (by simp)];refine ae ?_;unfold setWalk;refine ae (fV ho hd hf (ae (Q7 ?_)));rw [mL,aE rfl];exact ae (pA (ag (ag q)))
theorem a6e{v:ai}{Φ:Nat->Prop}{Q:Option ai->ak->Prop}(hI:SIt sh.heap it first i z es.size ep)(ho:sh.heap.get? z=some o)(r:B1 w o es ep t ms){sl:Nat}(xy:first=.int sl 0)
  (hn:∀(A':bx) (E':ai->ak->Prop) (Q':Option (ai × Nat)->ak->Prop),(∀nx,Φ nx->Q' (some (v,nx)) sh)->aM (aU prog w) A' (sr z sl i ep) Q' E' sh)
  (q:∀nx h',Φ nx->SIt h' it (.int nx 0) (i + 1) z es.size ep->dN it sh.heap h'->Q (some v) {sh with heap:=h'}):aM (aU prog w) A (gY (.ref it)) Q E sh:=by
 subst xy;obtain⟨x,hx,pG,kI⟩:=id hI;obtain⟨_,hd,hf,_⟩:=id r;unfold gY;refine ae (fR (cx (name:=cM "__next__") hI.typ F.slot_sit_next (bM F.slot_sit_next hI.typ F.entry_sit_next ?_ (F.args_sit_next _))));unfold Builtin.«set_iterator.__next__»;refine ae (m:=tz "__next__" 0 _) (ag ?_);refine ae (ij hx kI ?_)
 dsimp only
 refine ae (gH ho hd hf ?_);rw [aO (by simp)];simp only [bw];refine ae (hn _ _ _ fun nx e=>?_)
 dsimp only
 refine ae (e_ hx kI (by simp) ?_);obtain⟨x1,sy,uH,sM⟩:=SIt.put (it:=it) (x:=cR (nx:Nat)) (j:=0) ⟨x,hx,pG,kI⟩;refine ae (e_ sy sM (by simp) ?_);obtain⟨x2,tQ,oD,hd2⟩:=SIt.put (it:=it) (x:=cR ((i:Int) + 1)) (j:=1) ⟨x1,sy,uH,sM⟩;refine ag ⟨_,rfl,ag (q nx _ e ⟨x2,tQ,oD,?_⟩ ((bN ..).trans (bN ..)))⟩;rw [hd2];simp [cR]
theorem a6f(hh:A.handled=none)(q:∀h',(∀b o,sh.heap.get? b=some o->h'.get? b=some o)->Q none {sh with heap:=h'}) :
  aM (aU prog w) A.in1 (newExc (.type "StopIteration") [] >>= fun e=>(raiseNew e:Sem PySem.Fin)) (fun fin s'=>∃v,fin=Fin.done (Flow.ret v)/\aM (aU prog w) A (pure (some v)) Q E s') (fun e s'=>aM (aU prog w) A (tM e (eU "StopIteration") >>= fun b=>if b=true then pure none else throw e) Q E s') sh:=by
 refine ae ?_;simp only [newExc,newTuple];refine ae (dX ?_ (by size_fits));refine ae (m:=l_ _ _) (wpAny_of_eq (a:=cD) (by first|rfl|(simp only [l_];rfl)) ?_);refine dX ?_ (by size_fits);simp only [raiseNew];refine ae (wpAny_handled ?_);rw [show A.in1.handled=none from hh];refine ae (ag (wpAny_throw ?_));refine ae (gu (b:=true) (T:="StopIteration") ⟨_,aR _ rfl,rfl⟩ isSubtype_stop ?_);exact ag (q _ fun b o e=>aw _ (aw _ e))
theorem a8Q{Q:Option ai->ak->Prop}(hh:A.handled=none)(hI:SIt sh.heap it first i z es.size ep)(ho:sh.heap.get? z=some o)(r:B1 w o es ep t ms){sl:Nat}(xy:first=.int sl 0)
  (hn:∀(A':bx) (E':ai->ak->Prop) (Q':Option (ai × Nat)->ak->Prop),Q' none sh->aM (aU prog w) A' (sr z sl i ep) Q' E' sh)
  (q:∀h',bL.ExtBut it sh.heap h'->Q none {sh with heap:=h'}):aM (aU prog w) A (gY (.ref it)) Q E sh:=by
 subst xy;obtain⟨x,hx,pG,kI⟩:=id hI;obtain⟨_,hd,hf,_⟩:=id r;unfold gY;refine ae (fR (cx (name:=cM "__next__") hI.typ F.slot_sit_next (bM F.slot_sit_next hI.typ F.entry_sit_next ?_ (F.args_sit_next _))));unfold Builtin.«set_iterator.__next__»;refine ae (m:=tz "__next__" 0 _) (ag ?_);refine ae (ij hx kI ?_)
 dsimp only
 refine ae (gH ho hd hf ?_);rw [aO (by simp)];simp only [bw];refine ae (hn _ _ _ ?_)
 dsimp only
 refine ae (e_ hx kI (by simp) ?_);exact a6f hh fun h' k=>q h' fun b o hb e=>k b o ((bN ..).extBut b o hb e)
theorem b0v{ps:List Nat}(hI:SIt sh.heap it (.ref tp) i z es.size ep)(ho:sh.heap.get? z=some o)(r:B1 w o es ep t ms)(ht:sh.heap.get? tp=some {cls:=.type "tuple",data:=.seq (ps.map fun i=>cR (i:Nat)).toArray})(hp:ps[i]?=some p)(fL:p < es.size)
  (q:∀h',SIt h' it (.ref tp) (i + 1) z es.size ep->dN it sh.heap h'->Q (some es[p].2) {sh with heap:=h'}):aM (aU prog w) A (gY (.ref it)) Q E sh:=by
 obtain⟨x,hx,pG,kI⟩:=id hI;obtain⟨_,hd,hf,_⟩:=id r;unfold gY;refine ae (fR (cx (name:=cM "__next__") hI.typ F.slot_sit_next (bM F.slot_sit_next hI.typ F.entry_sit_next ?_ (F.args_sit_next _))));unfold Builtin.«set_iterator.__next__»;refine ae (m:=tz "__next__" 0 _) (ag ?_);refine ae (ij hx kI ?_)
 dsimp only
 refine ae (gH ho hd hf ?_);rw [aO (by simp)];simp only [bw];refine ae ?_;unfold seqItems?;refine ae (tm ht ?_);refine ag ?_;have e1:(ps.map fun i=>cR (i:Nat)).toArray[i]?=some (cR (p:Nat)):=by rw [sV,bz,hp];rfl
 dsimp only
 rw [e1];show aM _ _ (setNextDrawn z (p:Int).toNat ep >>= fun x=>setField (.ref it) 1 (cR ((i:Int) + 1)) >>= fun _=>ret x) _ _ _;refine ae ?_;unfold setNextDrawn;refine ae (fV ho hd hf ?_)
 dsimp only
 rw [aO (by simp),bw,bG fL];refine ae (ag (ag ?_));refine ae (e_ hx kI (by simp) ?_);obtain⟨x2,tQ,oD,hd2⟩:=SIt.put (it:=it) (x:=cR ((i:Int) + 1)) (j:=1) ⟨x,hx,pG,kI⟩;refine ag ⟨_,rfl,ag (q _ ⟨x2,tQ,oD,?_⟩ (bN ..))⟩;rw [hd2];simp [cR]
theorem a4X{ps:List Nat}(hh:A.handled=none)(hI:SIt sh.heap it (.ref tp) i z es.size ep)(ho:sh.heap.get? z=some o)(r:B1 w o es ep t ms)(ht:sh.heap.get? tp=some {cls:=.type "tuple",data:=.seq (ps.map fun i=>cR (i:Nat)).toArray})(hp:ps[i]?=none)
  (q:∀h',bL.ExtBut it sh.heap h'->Q none {sh with heap:=h'}):aM (aU prog w) A (gY (.ref it)) Q E sh:=by
 obtain⟨x,hx,pG,kI⟩:=id hI;obtain⟨_,hd,hf,_⟩:=id r;unfold gY;refine ae (fR (cx (name:=cM "__next__") hI.typ F.slot_sit_next (bM F.slot_sit_next hI.typ F.entry_sit_next ?_ (F.args_sit_next _))));unfold Builtin.«set_iterator.__next__»;refine ae (m:=tz "__next__" 0 _) (ag ?_);refine ae (ij hx kI ?_)
 dsimp only
 refine ae (gH ho hd hf ?_);rw [aO (by simp)];simp only [bw];refine ae ?_;unfold seqItems?;refine ae (tm ht (ag ?_));have e1:(ps.map fun i=>cR (i:Nat)).toArray[i]?=none:=by rw [sV,bz,hp];rfl
 dsimp only
 rw [e1]
 dsimp only
 refine ae (e_ hx kI (by simp) ?_);obtain⟨x1,sy,uH,sM⟩:=SIt.put (it:=it) (x:=cR 0) (j:=0) ⟨x,hx,pG,kI⟩;refine ae (e_ sy sM (by simp) ?_);exact a6f hh fun h' k=>q h' fun b o hb e=>k b o (((bN ..).trans (bN ..)).extBut b o hb e)
theorem a2G(hI:SIt sh.heap it first i z n ep)(q:Q (.ref it) sh):aM (aU prog w) A (pE (.ref it)) Q E sh:=
 nS hI.typ F.slot_sit_iter (bM F.slot_sit_iter hI.typ F.entry_sit_iter (show aM _ _ (ret (.ref it)) _ _ sh from ag ⟨_,rfl,"set_iterator",_,hI.typ,F.slot_sit_next.lookup,q⟩) (F.args_sit_iter _))
end
end VS
namespace VS
open PySem PySem.Spec L2
section
variable {prog:bh}{w:bE}{A:bx}{E:ai->ak->Prop}{sh:ak}{it z tp:av}{ep:Nat}{o:eD}{es:Array (Int × ai)}{t:gk}{ms:List Int}
theorem b2z(hh:A.handled=none)(r:B1 w o es ep t ms)(mL:w.params.followText "set-order"=false)(hp:t.plain=true∨es.size<=1)(ne:z≠it) :
  kD prog w A it [it,z] [it] (es.toList.map (·.2)).length (fun i v=>(es.toList.map (·.2))[i]?=some v) (fun i h=>(∃sl:Nat,SIt h it (.int sl 0) i z es.size ep/\dQ t.place sl=i)/\h.get? z=some o) where
 sub:=fun b hb=>aH.mpr (.inl (ax.mp hb))
 frame:=fun _ _ _ st k=>let⟨⟨sl,a,b⟩,c⟩:=st;⟨⟨sl,a.at fun o e=>k it ah o e,b⟩,k z (ao _ ah) _ c⟩
 item:=fun i s Q E hi st q=>by
  obtain⟨⟨sl,a,b⟩,c⟩:=st;have kc:i < es.size:=by simpa using hi
  exact a6e (Φ:=fun nx=>dQ t.place nx=i + 1) (v:=es[i].2) a c r rfl (fun A' E' Q' q'=>a6d c r mL hp b ⟨fun h nx ud=>q' nx ud,fun h=>absurd kc h⟩) fun nx h' ud qN sb=>
   q _ h' s.toks (by rw [bz,cZ,bG kc];rfl) ⟨⟨nx,qN,ud⟩,sb.extBut z o ne c⟩ fun b o hb e=>sb.extBut b o (fun y=>hb (by rw [y];exact ax.mpr rfl)) e
 done:=fun s Q E st q=>by
  obtain⟨⟨sl,a,b⟩,c⟩:=st;refine a8Q hh a c r rfl (fun A' E' Q' q'=>a6d c r mL hp b ⟨fun h=>absurd h (by simp),fun _=>q'⟩) fun h' he=>q h' s.toks fun b o hb e=>he b o (fun y=>hb (by rw [y];exact ax.mpr rfl)) e
 self:=fun _ _ _ _ st q=>let⟨⟨_,a,_⟩,_⟩:=st;a2G a q
theorem b4M(hh:A.handled=none)(r:B1 w o es ep t ms)(mL:w.params.followText "set-order"=true)(ne:z≠it) :
  kD prog w A it [it,z] [it] ((km (w.params.setOrder z ep) es).toList.map (·.2)).length (fun i v=>((km (w.params.setOrder z ep) es).toList.map (·.2))[i]?=some v) (fun i h=>SIt h it (.int (0:Nat) 0) i z es.size ep/\h.get? z=some o) where
 sub:=fun b hb=>aH.mpr (.inl (ax.mp hb))
 frame:=fun _ _ _ st k=>let⟨a,c⟩:=st;⟨a.at fun o e=>k it ah o e,k z (ao _ ah) _ c⟩
 item:=fun i s Q E hi st q=>by
  obtain⟨a,c⟩:=st;have kc:i < (km (w.params.setOrder z ep) es).size:=by simpa using hi
  exact a6e (Φ:=fun nx=>nx=0) (v:=(km (w.params.setOrder z ep) es)[i].2) a c r rfl (fun A' E' Q' q'=>a8P c r mL (by rw [bG kc];exact q' 0 rfl)) fun nx h' ud qN sb=>
   q _ h' s.toks (by rw [bz,cZ,bG kc];rfl) ⟨ud ▸ qN,sb.extBut z o ne c⟩ fun b o hb e=>sb.extBut b o (fun y=>hb (by rw [y];exact ax.mpr rfl)) e
 done:=fun s Q E st q=>by
  obtain⟨a,c⟩:=st;refine a8Q hh a c r rfl (fun A' E' Q' q'=>a8P c r mL (by rw [dU (by simp)];exact q')) fun h' he=>q h' s.toks fun b o hb e=>he b o (fun y=>hb (by rw [y];exact ax.mpr rfl)) e
 self:=fun _ _ _ _ st q=>a2G st.1 q
theorem b2A{ps:List Nat}(hh:A.handled=none)(r:B1 w o es ep t ms)(tZ:∀p∈ps,p < es.size)(ne:z≠it)(ne2:tp≠it) :
  kD prog w A it [it,z,tp] [it] (ps.map fun p=>(es.toList.map (·.2)).getD p .none).length (fun i v=>(ps.map fun p=>(es.toList.map (·.2)).getD p .none)[i]?=some v) (fun i h=>SIt h it (.ref tp) i z es.size ep/\h.get? z=some o/\h.get? tp=some {cls:=.type "tuple",data:=.seq (ps.map fun i=>cR (i:Nat)).toArray}) where
 sub:=fun b hb=>aH.mpr (.inl (ax.mp hb))
 frame:=fun _ _ _ st k=>let⟨a,c,d⟩:=st;⟨a.at fun o e=>k it ah o e,k z (ao _ ah) _ c,k tp (ao _ (ao _ ah)) _ d⟩
 item:=fun i s Q E hi st q=>by
  obtain⟨a,c,d⟩:=st;have kc:i < ps.length:=by simpa using hi
  have fL:=tZ _ (cQ kc);exact b0v (p:=ps[i]) a c r d (aB kc) fL fun h' qN sb=>
   q _ h' s.toks (by rw [bz,aB kc,El,aX,bz,cZ,bG fL];rfl) ⟨qN,sb.extBut z o ne c,sb.extBut tp _ ne2 d⟩ fun b o hb e=>sb.extBut b o (fun y=>hb (by rw [y];exact ax.mpr rfl)) e
 done:=fun s Q E st q=>by
  obtain⟨a,c,d⟩:=st;exact a4X hh a c r d (fB (by simp)) fun h' he=>q h' s.toks fun b o hb e=>he b o (fun y=>hb (by rw [y];exact ax.mpr rfl)) e
 self:=fun _ _ _ _ st q=>a2G st.1 q
theorem b2B(ho:sh.heap.get? z=some o)(r:B1 w o es ep t ms)
  (q:∀(it:av) (h':bL) (d:Drawn) (fp:List av) (St:Nat->bL->Prop) (ord:List ai),ord.Perm (es.toList.map (·.2))->(∀A':bx,A'.handled=none->kD prog w A' it fp [it] ord.length (fun i v=>ord[i]?=some v) St)->St 0 h'->sh.heap.objs.size<=it->(∀b∈fp,b=z∨sh.heap.objs.size<=b)->
   (∀b o,sh.heap.get? b=some o->h'.get? b=some o)->Q (.ref it) {sh with heap:=h',drawn:=d}):aM (aU prog w) A (pE (.ref z)) Q E sh:=by
 obtain⟨hex,hd,hf,hu,hl,hb,he⟩:=id r;have hT:sh.TypeIs (.ref z) "set":=⟨o,ho,hex.1⟩;have lz:=aN ho;refine nS hT F.slot_set_iter (bM F.slot_set_iter hT F.entry_set_iterA ?_ (F.args_set_iter_1 _));unfold Builtin.«frozenset.__iter__» Builtin.Frozenset.slot0;refine ae (m:=tz "__iter__" 0 _ >>= _) (ae (ag (show aM _ _ (pure z) _ _ _ from ag ?_)));unfold Builtin.Frozenset.sizeOf;refine ae (ae (gH ho hd hf (ag ?_)));unfold setDrawn;refine ae (ae (fV ho hd hf (ae (Q7 (ag ?_)))))
 dsimp only
 have tail:∀(first:ai) (so:ak),so.heap.get? z=some o->(∀o1:eD,o1={cls:=.type "set_iterator",data:=.fields #[first,.int (0:Nat) 0,.ref z,.int es.size 0,.int ep 0]}->Q (.ref so.heap.objs.size) {so with heap:=so.heap.push o1})->
   aM (aU prog w) A.in1 (setEpoch z >>= fun e=>newFields "set_iterator" [first,cR 0,.ref z,cR es.size,cR e] >>= fun v=>ret v) (fun fin s'=>∃v,fin=Fin.done (Flow.ret v)/\∃T' r,s'.TypeIs v T'/\typeLookup (eU T') (cM "__next__")=pure (some r)/\Q v s') E so:=fun first so h1 q1=>by
  refine ae (wpAny_setEpoch_of h1 hd hf ?_);unfold newFields;refine ae (dX (ag ⟨_,rfl,"set_iterator",_,⟨_,aR _ rfl,rfl⟩,F.slot_sit_next.lookup,?_⟩));exact q1 _ (by simp [cR])
 refine fJ (fun c=>?_) fun c=>?_
 ·rw [az] at c;refine ae (b2y _ _ _ _ (by simp) fun ps d hp=>?_);have jk:∀p∈ps,p < es.size:=fun p h=>bo.mp (hp.mem_iff.mp h)
  refine ae (wpAny_newTuple ?_ (by rw [ar,hp.length_eq,bJ];exact jV hb));refine tail _ _ (aw _ ho) fun o1 e1=>?_
  refine q _ _ d [(sh.heap.push {cls:=.type "tuple",data:=.seq (ps.map fun i=>cR (i:Nat)).toArray}).objs.size,z,sh.heap.objs.size] _ _ ?_ (fun A' hA=>b2A (ps:=ps) (tp:=sh.heap.objs.size) hA r jk ?_ ?_) ⟨⟨o1,aR _ (by rw [e1];rfl),by rw [e1],by rw [e1]⟩,aw _ (aw _ ho),aw _ (aR _ rfl)⟩ ?_ ?_ fun b o e=>aw _ (aw _ e)
  ·exact a3B (l:=es.toList.map (·.2)) (by simpa using hp)
  ·rw [dR];exact bj (jf lz)
  ·rw [dR];exact bj (jF _)
  ·rw [dR];exact gE _
  ·intro b kq;rw [dR] at kq;simp only [aH,jG,or_false] at kq;rcases kq with rfl|rfl|rfl
   ·exact .inr (gE _)
   ·exact .inl rfl
   ·exact .inr (aF _)
 ·refine ae (ag (tail _ _ ho fun o1 e1=>?_));have qG:∀b∈[sh.heap.objs.size,z],b=z∨sh.heap.objs.size<=b:=by
   intro b kq;simp only [aH,jG,or_false] at kq;rcases kq with rfl|rfl
   ·exact .inr (aF _)
   ·exact .inl rfl
  have hI:SIt (sh.heap.push o1) sh.heap.objs.size (.int (0:Nat) 0) 0 z es.size ep:=⟨o1,aR _ (by rw [e1];rfl),by rw [e1],by rw [e1];rfl⟩;have vm:(sh.heap.push o1).get? z=some o:=aw _ ho;cases mL:w.params.followText "set-order" with
  | true=>
   exact q _ _ sh.drawn [sh.heap.objs.size,z] _ _ ((b0u _ es).map _) (fun A' hA=>b4M hA r mL (bj lz)) ⟨hI,vm⟩ (aF _) qG fun b o e=>aw _ e
  | false=>
   have fD:t.plain=true∨es.size<=1:=by
    rw [mL] at c;have c':¬ (!t.plain && decide (es.size > 1))=true:=fun z=>c (show (!false && (!t.plain && decide (es.size > 1)))=true from by rw [z];rfl)
    cases h:t.plain with
    | true=>exact .inl rfl
    | false=>
     rw [h] at c';simp at c';exact .inr (by lia)
   exact q _ _ sh.drawn [sh.heap.objs.size,z] _ _ (gT _) (fun A' hA=>b2z hA r mL fD (bj lz)) ⟨⟨0,hI,a7F hu⟩,vm⟩ (aF _) qG fun b o e=>aw _ e
theorem b2C(hT:sh.TypeIs (.ref z) "set")(h:Q false sh):aM (aU prog w) A (sY (.ref z)) Q E sh:=by
 unfold sY;refine ae (dh hT (by exact PySem.F.slot_set_len.lookup) ?_);generalize zc:("set.__len__":String)=AL
 wp_delta
 rw [show splitId AL=some ("set","__len__") from by subst zc;decide +kernel];subst zc;refine ae (gu (T:="set") (b:=true) hT (by rw [tL];kernel_rfl) (fJ (fun y=>absurd y (by decide)) fun _=>fJ (fun _=>?_) fun y=>absurd (by decide +kernel) y));exact ae (nR hT (ag h))
end
end VS
namespace VS
open PySem PySem.Spec L2
open PyProof.Rows (KeyOrd SortKind seqObj size_push' slot_list_sort entry_list_sort args_list_sort kind_sorted plain_sorted entry_sorted args_sorted1)
section
variable {prog:bh}{w:bE}{A:bx}{E:ai->ak->Prop}{sh:ak}{z:av}{ep:Nat}{o:eD}{es:Array (Int × ai)}{t:gk}{ms:List Int}
theorem a6g(hh:A.handled=none)(ho:sh.heap.get? z=some o)(r:B1 w o es ep t ms)
  (q:∀(vs:List ai) (h':bL) (tk:Nat) (d:Drawn),vs.Perm (es.toList.map (·.2))->Kept sh.heap h'->sh.heap.objs.size<=h'.objs.size->Q vs {sh with heap:=h',toks:=tk,drawn:=d}):aM (aU prog w) A (collect (.ref z)) Q E sh:=by
 have lz:=aN ho
 let L:eD:={cls:=.type "list",data:=.seq #[]}
 have wG:(sh.heap.push L).get? z=some o:=aw _ ho;have Cs:m_ {sh with heap:=sh.heap.push L} (.ref z) "set":=⟨o,wG,r.1.1⟩;have Cj:es.size<=aS:=jV r.2.2.2.2.2.1
 let S:av:=sh.heap.objs.size
 have key:∀(it:av) (fp:List av) (St:Nat->bL->Prop) (ord:List ai) (d:Drawn) (W:∀A':bx,A'.handled=none->kD prog w A' it fp [it] ord.length (fun i v=>ord[i]?=some v) St),ord.Perm (es.toList.map (·.2))->S∉fp->sh.heap.objs.size<=it->
   ∀(h:bL) (c1 tk:Nat),St 0 h->(∀b o,b≠S->(sh.heap.push L).get? b=some o->h.get? b=some o)->h.get? S=some {cls:=.type "list",data:=.seq #[] c1}->
   ir (aU prog w) A (.builtin "list.extend.loop" ⟨[.ref S,.ref it,.ref S],[]⟩) (fun g s'=>∃(h':bL) (tk:Nat) (d:Drawn) (acc:Array ai) (c:Nat),g=.ok (.ret (.ref S))/\s'={sh with heap:=h',toks:=tk,drawn:=d}/\h'.get? S=some {cls:=.type "list",dict:=none,data:=.seq acc c,slots:=#[]}/\Q acc.toList {sh with heap:=h',toks:=tk,drawn:=d}) {sh with heap:=h,toks:=tk,drawn:=d}:=by
  intro it fp St ord d W hp nf hit h c1 tk st k hS;have hn:ord.length<=aS:=by rw [hp.length_eq];simpa using Cj
  refine PySem.codeAny_extend_loopS (W A.in1 (by simpa using hh)).toS hn S nf (.ref S) ord.length 0 _ #[] c1 rfl (dq _) st hS (ItemsOf.nil _) fun s' acc c' m nM lH=>?_
  rw [Moved.eq_with m];refine⟨s'.heap,s'.toks,d,acc,c',rfl,rfl,nM,?_⟩;have e:acc.toList=ord:=by
   refine mw fun i=>?_
   rw [cZ];by_cases c:i < ord.length
   ·obtain⟨x,hx⟩:∃x,acc[i]?=some x:=⟨_,bG (by rw [lH.1];exact c)⟩;rw [hx];exact (lH.2 i x hx).symm
   ·rw [dU (by rw [lH.1];lia),fB (by lia)]
  rw [e];refine q ord s'.heap s'.toks d hp (fun b o x=>m.heap b o (fun hm=>?_) (k b o (bj (aN x)) (aw _ x))) (dA (aN nM));have lb:=aN x;rcases aH.mp hm with e'|e'
  ·exact absurd (e' ▸ lb) (cE _)
  ·exact absurd lb (by rw [ax.mp e'];exact Nat.not_lt.mpr hit)
 unfold collect;refine ae (s_ (dw (by exact PyProof.Rows.entry_proto_collect') ?_));rw [dm (by exact PySem.F.plain_proto_collect) _];show aM _ A.in1 (newList [] >>= fun l=>again (.builtin "list.__iadd__" ⟨[l,.ref z],[]⟩)) _ _ sh;refine ae (dX (ag ⟨gL (by exact qR) _,dw (by exact PyProof.Rows.entry_list_iadd') ?_⟩));rw [dm (by exact qR) _];show aM _ A.in1 (sZ (.ref S) (.ref z) (.ref S)) _ _ {sh with heap:=sh.heap.push L};have zk:S≠z:=rX lz;unfold sZ;refine ae (nR (T:="set") Cs ?_);have h1:yk (.ref S) (.ref z)=false:=by simp [yk,zk]
 simp only [h1,show (eU "set" == eU "list")=false from by decide,show (eU "set" == eU "tuple")=false from by decide,Bool.or_false,df,fK];refine ae (b2B (sh:={sh with heap:=sh.heap.push L}) wG r fun it h' d fp St ord hp W st hit qG k=>?_);have xo:sh.heap.objs.size<=it:=cI (by show _<=(sh.heap.push L).objs.size;rw [dR];exact gE _) hit;have nf:S∉fp:=fun y=>by
  rcases qG S y with e|e
  ·exact zk e
  ·have e':(sh.heap.push L).objs.size<=S:=e;rw [dR] at e';exact absurd e' (Nat.not_succ_le_self _)
 have uO:h'.get? S=some {cls:=.type "list",data:=.seq #[] 0}:=k S _ (aR _ rfl);have vm:h'.get? z=some o:=k z _ wG;have last:∀(h2:bL) (c1:Nat),St 0 h2->(∀b o,b≠S->(sh.heap.push L).get? b=some o->h2.get? b=some o)->h2.get? S=some {cls:=.type "list",data:=.seq #[] c1}->_:=fun h2 c1 a b c=>eH (key it fp St ord d W hp nf xo h2 c1 sh.toks a b c) (R':=fun r s'=>match r with
       | Except.ok (Flow.ret v)=>aM (aU prog w) A (match v with|be a=>load a >>= fun u=>(match u.data with|Data.seq xs _=>pure xs.toList|_=>qx "internal:collect")|_=>qx "internal:collect") Q E s'
       | Except.ok _=>False
       | Except.error e=>E e s') fun g s2 y=>by
  obtain⟨h3,tk,d3,acc,c,rfl,rfl,e1,qq⟩:=y;show aM _ A (load S >>= _) _ _ _;exact ae (tm e1 (ag qq))
 refine ae (bI (b2C ⟨o,vm,r.1.1⟩ ?_));refine fJ (fun _=>?_) (fun _=>ag ⟨gL (by exact oZ) _,last h' 0 st (fun b o _ e=>k b o e) uO⟩);refine ae (gX (ae ?_));show aM _ _ (updateSeq S (·.push .none) >>= fun _=>updateSeq S (·.pop)) _ _ _;refine ae (wpAny_updateSeq uO rfl ?_);have uN:=bV (jD (·.push cD)) uO rfl;refine wpAny_updateSeq (hz:=by seq_fits) uN rfl ?_;have xK:=bV (jD (·.pop)) uN rfl;refine ag ⟨gL (by exact oZ) _,last _ _ ?_ (fun b o hb e=>?_) xK⟩
 ·exact (W A hh).frame 0 _ _ st fun b hb o e=>by
   have zj:S≠b:=fun y=>nf (by rw [y];exact hb)
   exact (ei _ _ zj).trans ((ei _ _ zj).trans e)
 ·exact (ei _ _ (eE hb)).trans ((ei _ _ (eE hb)).trans (k b o e))
end
end VS
namespace VS
open PySem PySem.Spec L2
open PyProof.Rows (KeyOrd SortKind seqObj size_push' slot_list_sort entry_list_sort args_list_sort kind_sorted plain_sorted entry_sorted args_sorted1 IntsAre firstMet)
section
variable {prog:bh}{w:bE}{A:bx}{E:ai->ak->Prop}{sh:ak}{z:av}{ep:Nat}{o:eD}{es:Array (Int × ai)}{t:gk}{ms:List Int}
theorem b4N(he:EI l ms){vs:List ai}(hp:vs.Perm (l.map (·.2))):(∀v∈vs,∃n tk,v=.int n tk)/\(vs.map iOf).Perm ms:=by
 refine⟨fun v hv=>?_,(hp.map iOf).trans ?_⟩
 ·obtain⟨e,h1,rfl⟩:=aG.mp (hp.mem_iff.mp hv);obtain⟨n,tk,h2,_⟩:=he.1 e h1;exact⟨n,tk,h2⟩
 ·rw [cP];exact he.2
theorem a8R:∀{vs:List ai},(∀v∈vs,∃n tk,v=.int n tk)->IntsAre vs (vs.map iOf)
 | [],_=>.nil
 | v :: vs,h=>by
  obtain⟨n,tk,rfl⟩:=h v ah;exact .cons n tk (a8R fun x hx=>h x (ao _ hx))
theorem a7I(hh:A.handled=none)(ho:sh.heap.get? z=some o)(r:B1 w o es ep t ms)(zw:ms.length < 64)
  (q:∀(vs:List ai) (h':bL) (tk e:Nat) (d:Drawn) (y:av),IntsAre vs (srt ms)->Kept sh.heap h'->sh.heap.objs.size<=y->h'.get? y=some (seqObj "list" vs.toArray e)->Q (.ref y) {sh with heap:=h',toks:=tk,drawn:=d}) :
  aM (aU prog w) A (call (.builtin "sorted") [.ref z]) Q E sh:=by
 refine Calls.call_function_entry kind_sorted plain_sorted entry_sorted (args_sorted1 _) ?_;unfold Builtin.«sorted»;refine ae (m:=checkCount "sorted" 1 1 _) (ag ?_);refine ae (a6g (A:=A.in1) (by simpa using hh) ho r fun vs h1 tk d hp k1 z1=>?_);obtain⟨i1,i2⟩:=b4N r.2.2.2.2.2.2 hp;have hl:vs.length < 64:=by have:=i2.length_eq;rw [ar] at this;lia
 refine ae (wpAny_newList ?_ (by rw [dv];lia));have oL:(h1.push (seqObj "list" vs.toArray 0)).get? h1.objs.size=some (seqObj "list" vs.toArray 0):=aR _ rfl;refine ae (bI (bM slot_list_sort ⟨_,oL,rfl⟩ entry_list_sort (PyProof.Rows.list_sort_tree (s:={sh with heap:=h1.push (seqObj "list" vs.toArray 0),toks:=tk,drawn:=d}) oL (a8R i1) hl fun out DH a1 a2 a3=>⟨_,rfl,?_⟩) (args_list_sort _)));obtain⟨e,uI⟩:=PyProof.Rows.sortedHeap_at (out:=out) oL;refine ag ⟨_,rfl,q out.toList _ tk e d h1.objs.size ?_ (fun b u hb=>?_) z1 (by rw [vc];exact uI)⟩
 ·rw [<-b1U (a2.trans i2) a3];exact a1
 ·have kq:=k1.push (seqObj "list" vs.toArray 0) b u hb;have:=aN hb;exact (PyProof.Rows.sortedHeap_old (bj (aW (aN hb) z1)) (aN kq)).trans kq
end
section
variable {X:Cx}{M:List Md}{a:Expr}{fa:EvE}{ca:Cat}{pos jc p p2:ek}{pins:List (av × eD)}{σ:L2.St}{H:Hp}{s:ak}
theorem b0w(I:Inv X pins σ H s)(d:Drawn):Inv X pins σ H {s with drawn:=d}:=⟨I.ok,I.os,I.bare,I.base,I.loc,I.cell,I.free,I.freeC,I.pin,I.hok,I.len⟩
theorem b0x(hc:X.calm=true):CallR X (.type "set") (fun xs H Q=>∃(p:av) (ns:List Int),xs=[.ref p]/\SqX X.K H p (ns.map V.int)/\ns.length < 4000/\∀z,H z=none->Q (.ref z) (upd H z (.ext fun h=>SetI X.w h z (dis ns)))):=by
 intro pins s σ H xs us Q I rv h;obtain⟨p,ns,rfl,hp,hn,q⟩:=h;obtain⟨u,rfl,rx⟩:=vals1 rv;cases (show u=be p from rx)
 obtain⟨_,bU,n,tE,ho⟩:=hp.ok I;have hl:s.heap.IsList p bU.toArray:=⟨_,ho,rfl,n,rfl⟩;have hlen:bU.length=ns.length:=by have:=tE.length;rw [ar] at this;exact this.symm
 refine b0t (ns:=ns) (I.ok.hd hc) hl (by simpa using a0V tE) (by rw [aT,hlen];unfold gx;lia) fun h' tk hS hk=>?_
 have mD:H s.heap.objs.size=none:=I.hok.fresh (aF _);have je:bU.toArray.size=ns.length:=by rw [aT];exact hlen
 rw [je] at hS;exact⟨.ref s.heap.objs.size,_,I.laid (a:=s.heap.objs.size) (o:=.ext fun h=>SetI X.w h s.heap.objs.size (dis ns)) (t':=tk) hk (aF _) ⟨hS,let⟨o,_,_,_,e,_⟩:=hS;⟨o,e⟩,fun _ _ x k=>x.at k⟩,rfl,q _ mD⟩
theorem a7J(hc:X.calm=true):CallR X (.builtin "sorted") (fun xs H Q=>∃p ms,xs=[V.ref p]/\H p=some (.ext fun h=>SetI X.w h p ms)/\ms.length < 64/\∀z,H z=none->Q (.ref z) (upd H z (.lst ((srt ms).map V.int)))):=by
 intro pins s σ H xs us Q I rv h;obtain⟨p,ms,rfl,hH,zw,q⟩:=h;obtain⟨u,rfl,rx⟩:=vals1 rv;cases (show u=be p from rx)
 obtain⟨⟨o,es,ep,t,ho,r⟩,_,_⟩:=(show (SetI X.w s.heap p ms)/\_/\_ from I.hok p _ hH);refine a7I (I.ok.hd hc) ho r zw fun vs h' tk e d y hi hk hy hl=>?_
 have hn:H y=none:=I.hok.fresh hy;have mJ:((srt ms).map V.int).length<=aS:=by rw [ar,(P4 ms).length_eq,dv];lia
 exact⟨.ref y,_,b0w (I.laid (a:=y) (o:=.lst ((srt ms).map V.int)) (t':=tk) hk hy ⟨mJ,vs,e,vals_ints hi,hl⟩) d,rfl,q _ hn⟩
def U1(a:EvE):EvE:=fun Z=>(a Z).bind fun d=>(asL d).bind fun ds=>(intsOf ds).bind fun ns=>if ns.length < 64 then some (.list ((srt (dis ns)).map .int)) else none
theorem b7N(ns:List Int):(dis ns).length<=ns.length:=PyProof.Rows.firstMet_length_le _ _
theorem a2H(hc:X.calm=true)(hm:X.mg "set"=none)(xf:X.mg "sorted"=none)(ha:PX X M a fa ca)(hg:Gl X "set":=by rfl)(xt:Gl X "sorted":=by rfl)(he:au [a] X.env=(false,bW a X.env) :: au [] X.env:=by rfl)(fD:(b_ jc (au [] X.env)).any (·.1)=false:=by rfl)
  (lj:au [.Call (.Name "set" p2) [a] [] jc] X.env=(false,bW (.Call (.Name "set" p2) [a] [] jc) X.env) :: au [] X.env:=by rfl) (n_:(b_ pos (au [] X.env)).any (·.1)=false:=by rfl) :
  PX X M (.Call (.Name "sorted" p) [.Call (.Name "set" p2) [a] [] jc] [] pos) (U1 fa) (.new (.l .i)):=by
 obtain⟨ta,pa,qa⟩:=ha.out;refine .mk ⟨_,T0 (a7J hc) xt xf PyProof.Rows.Boot.«sorted» (k9 (E5 (b0x hc) hg hm PyProof.Rows.Boot.«set» (k9 pa o7 he) (by decide) (by decide) he fD) o7 lj) (by decide) (by decide) lj n_,fun Z σ H P F d Q S hf q=>?_⟩;obtain⟨x,h1,g1⟩:=bnd hf;obtain⟨ds,h2,g2⟩:=bnd g1;obtain⟨ns,h3,g3⟩:=bnd g2;cases K9 h2
 cases U0 h3
 by_cases c:ns.length < 64
 ·rw [aE c] at g3;cases g3
  refine qa Z σ H P F _ _ S h1 fun v H1 e1 r1=>?_
  obtain⟨pp,xs,rfl,k1,k2⟩:=r1.den.list_inv;cases a5R k2
  refine⟨pp,ns,rfl,k1,by lia,fun z hz=>⟨z,_,rfl,i0,by have:=b7N ns;lia,fun y hy=>?_⟩⟩;have e2:=e1.trans (j9 hz (.ext fun h=>SetI X.w h z (dis ns)));refine q _ _ (e2.trans (j9 hy _)) (a0N ?_ (b9U _) e2 hy (S.lst' e2));have:∀(H':Hp) (ms:List Int),DenAll X.K H' (ms.map V.int) (ms.map bt):=by
   intro H' ms
   induction ms with
   | nil=>exact denAll_nil
   | cons n ms ih=>exact denAll_cons den_int ih
  exact this _ _
 ·rw [aO c] at g3;cases g3
end
end VS
namespace VS
open PySem PySem.Spec
section
variable {prog:bh}{w:bE}{A:bx}{E:ai->ak->Prop}{sh:ak}{o:av}{rows:Array dY}{ep:Nat}
theorem a4h:∀(l:List α),(∀e∈l,∀Q':ForInStep PUnit->ak->Prop,Q' (.yield ⟨⟩) sh->aM (aU prog w) A (f e ⟨⟩) Q' E sh)->∀Q:PUnit->ak->Prop,Q ⟨⟩ sh->aM (aU prog w) A (forIn l iV f) Q E sh
 | [],_,Q,q=>by rw [kF];exact ag q
 | e :: l,h,Q,q=>by
  rw [jX];exact ae (h e ah _ (a4h l (fun x hx=>h x (ao _ hx)) Q q))
theorem a6h{id:String}{u:eD}{Q:Array dY->ak->Prop}(hu:sh.heap.get? o=some u)(oP:u.data=.dict rows ep)(lX:∀e∈rows,∃b,e.key=.ref b/\sh.TypeIs (.ref b) "tuple")(hd:∀e∈rows,¬ (rows.filter (·.hash == e.hash)).size > 1)(q:Q rows sh) :
  aM (aU prog w) A (si id o) Q E sh:=by
 unfold si;refine ae (cB hu oP ?_);refine ae ?_;rw [<-lR];refine a4h rows.toList (fun e he Q' q'=>?_) _ (ag q);obtain⟨b,hb,hT⟩:=lX e (dE.mp he);rw [hb];unfold Builtin.Dict.quietEq
 dsimp only
 refine ae (ae (dh hT F.slot_tuple_eq.lookup (ag ?_)));refine fJ (fun _=>fJ (fun c=>absurd c (hd e (dE.mp he))) fun _=>ag q') fun _=>ag q'
theorem b0y(qH:d≠o)(h0:(o == dF)=false)(hm:sh.heap.RawDict o rows ep)(BY:sh.heap.RawDict d #[] 0)(gy:rows.size≠0)(lX:∀e∈rows,∃b,e.key=.ref b/\sh.TypeIs (.ref b) "tuple")(hd:∀e∈rows,¬ (rows.filter (·.hash == e.hash)).size > 1)(hz:rows.size<=aS)
  (q:∀h',h'.RawDict d rows 1->dN d sh.heap h'->Q () {sh with heap:=h'}):aM (aU prog w) A (iz nm d o) Q E sh:=by
 obtain⟨u,hu,DL,oP⟩:=id hm;obtain⟨v,hv,AU,vo⟩:=id BY;unfold iz;rw [aO (by simpa using qH)]
 dsimp only
 unfold iJ;rw [aO (by rw [h0];exact bB)];refine ae (ag (ae (cB hu oP ?_)));have CN:(decide (rows.size<=8) && rows.all fun e=>(keyPart e.key).isSome)=false:=by
  rw [Bool.and_eq_false_iff];refine .inr ?_;rw [Array.all_eq_false];obtain⟨b,hb,_⟩:=lX rows[0] (Array.getElem_mem _);exact⟨0,by lia,by rw [hb];simp [keyPart]⟩
 rw [CN,aE (show (!false)=true from rfl)];refine ae (cB hv vo ?_);rw [aE (show (#[]:Array dY).isEmpty=true from rfl)];refine ae (a6h hu oP lX hd ?_);rw [aE (by simpa [Array.isEmpty] using gy)];refine ae (wpAny_updateDictKeysTo hv vo (ag (q _ ⟨_,bV _ hv (gI (gn vo _)),AU.mapDictKeys _,gn vo _⟩ (bN ..))) (Nat.le_succ_of_le hz))
theorem a2I(h0:(o == dF)=false)(hm:sh.heap.RawDict o rows ep)(gy:rows.size≠0)(lX:∀e∈rows,∃b,e.key=.ref b/\sh.TypeIs (.ref b) "tuple")(hd:∀e∈rows,¬ (rows.filter (·.hash == e.hash)).size > 1)(hz:rows.size<=aS)
  (q:∀h',h'.RawDict sh.heap.objs.size rows 1->(∀b u,sh.heap.get? b=some u->h'.get? b=some u)->Q (.ref sh.heap.objs.size) {sh with heap:=h'}):aM (aU prog w) A (call (.type "dict") [.ref o]) Q E sh:=by
 refine callType_codes (Q₁:=fun v s1=>v=.ref sh.heap.objs.size/\s1={sh with heap:=sh.heap.push {cls:=.type "dict",data:=.dict #[]}}) F.kt_called_dict (F.kt_typeCall_dict_1 _) F.entry_dict_init (kt_code_dict_new _ ⟨rfl,rfl⟩) ?_;rintro v s1 ⟨rfl,rfl⟩;have hn:(sh.heap.push {cls:=.type "dict",data:=.dict #[]}).RawDict sh.heap.objs.size #[] 0:=⟨_,aR _ rfl,⟨rfl,rfl,rfl⟩,rfl⟩;have ho:(sh.heap.push {cls:=.type "dict",data:=.dict #[]}).RawDict o rows ep:=hm.at fun _ e=>aw _ e
 have uM:m_ {sh with heap:=sh.heap.push {cls:=.type "dict",data:=.dict #[]}} (.ref sh.heap.objs.size) "dict":=Heap.RawDict.typeIs (sh:={sh with heap:=sh.heap.push {cls:=.type "dict",data:=.dict #[]}}) hn;have rP:m_ {sh with heap:=sh.heap.push {cls:=.type "dict",data:=.dict #[]}} (.ref o) "dict":=Heap.RawDict.typeIs (sh:={sh with heap:=sh.heap.push {cls:=.type "dict",data:=.dict #[]}}) ho;have qH:sh.heap.objs.size≠o:=by
  obtain⟨_,hg,_⟩:=hm;exact fun e=>absurd (aN hg) (by rw [e];exact cE _)
 refine⟨uM,F.args_dict_init_2 _ _,?_⟩;unfold Builtin.«dict.__init__» yl;refine ae (ae (iD uM (show aM _ _ (pure (sh.heap.objs.size,[be o])) _ _ _ from ag ?_)));show aM _ _ (hJ "dict.__init__" sh.heap.objs.size (be o) [] cD) _ _ _;unfold hJ Builtin.Dict.merge v_;refine ae (nR rP ?_);rw [aO (by decide)];refine ae (ae (ae (gu rP isSubtype_dict_dict ?_)));simp only [jx,df,fK];refine ae (dh rP qu.lookup (ag ?_));simp only [h_,ie];refine ae (ag ?_);refine b0y qH h0 ho hn gy (fun e he=>let⟨b,hb,u,hu,hc⟩:=lX e he;⟨b,hb,u,aw _ hu,hc⟩) hd hz fun h' hr sb=>?_
 show aM _ _ (ym sh.heap.objs.size [] >>= fun _=>_) _ _ _;exact ae (ag (ag ⟨rfl,q h' hr fun b u e=>sb.extBut b u (bj (aN e)) (aw _ e)⟩))
end
end VS
namespace VS
open PySem PySem.Spec L2
theorem a4i{f:α->Int}:∀{l:List α},(l.map f).Nodup->∀e∈l,(l.filter fun x=>f x == f e).length<=1
 | a :: l,h,e,he=>by
  rw [aA,bA] at h;have none_of:∀y,y∉l.map f->(l.filter fun x=>f x == y)=[]:=fun y hy=>List.filter_eq_nil_iff.mpr fun x hx c=>hy (aG.mpr ⟨x,hx,fM.mp c⟩)
  rcases aH.mp he with z|z
  ·subst z;rw [Dr,none_of _ h.1]
   split <;> simp
  ·rw [Dr];have gy:(f a == f e)=false:=eB.mpr fun c=>h.1 (by rw [c];exact aG.mpr ⟨e,z,rfl⟩)
   rw [gy];exact a4i h.2 e z
section
variable {X:Cx}
theorem a6i:CallR X (.type "dict") (fun xs H Q=>∃p es,xs=[V.ref p]/\H p=some (f8 p es)/\es≠[]/\D0 es=true/\(∀e∈es,∃b ys,e.2.1=.ref b/\SqT X.K H b ys)/\(es.map fun e=>hashD e.1).Nodup/\∀z,H z=none->Q (.ref z) (upd H z (f8 z es))):=by
 intro pins s σ H xs us Q I rv h;obtain⟨p,es,rfl,hH,gy,hL,hk,hn,q⟩:=h;obtain⟨u,rfl,rx⟩:=vals1 rv;cases (show u=be p from rx)
 obtain⟨h0,hl,ka,o,ents,ep,g1,g2,g3,g4⟩:=u4 I hH;have je:ents.size=es.length:=by rw [dJ g4];exact cY.symm
 have jk:∀{es:List (D × V × V)} {l:List dY},fq O8 es l->∀x∈l,∃e∈es,O8 e x:=by
  intro es l h
  induction h with
  | nil=>intro x hx;cases hx
  | cons r _ ih=>
   intro x hx;rcases aH.mp hx with z|z
   ·subst z;exact⟨_,ah,r⟩
   ·obtain⟨e,he,r'⟩:=ih x z;exact⟨e,ao _ he,r'⟩
 have um:∀{es:List (D × V × V)} {l:List dY},fq O8 es l->l.map (·.hash)=es.map fun e=>hashD e.1:=by
  intro es l h
  induction h with
  | nil=>rfl
  | cons r _ ih=>rw [aA,aA,ih,r.1]
 refine a2I (rows:=ents) h0 ⟨o,g1,g2,g3⟩ (by rw [je];exact fun z=>gy (gF.mp z)) (fun x hx=>?_) (fun x hx=>?_) (by rw [je];exact hl) fun h' hr BF=>?_
 ·obtain⟨e,he,r⟩:=jk g4 x (dE.mpr hx);obtain⟨b,ys,e1,e2⟩:=hk e he;have r2:=r.2.1;rw [e1] at r2;obtain⟨bU,_,⟨ob,ho,hc,_⟩,_⟩:=I.tuple e2;exact⟨b,r2,ob,ho,hc⟩
 ·have z:=a4i (f:=fun x:dY=>x.hash) (l:=ents.toList) (by rw [um g4];exact hn) x (dE.mpr hx);rw [<-Array.toList_filter,cY] at z;lia
 ·obtain⟨o',b1,b2,b3⟩:=hr;have mD:H s.heap.objs.size=none:=I.hok.fresh (aF _);have Ba:(s.heap.objs.size == dF)=false:=eB.mpr (eE (bj I.sysBelow));exact⟨.ref s.heap.objs.size,_,I.laid (a:=s.heap.objs.size) (o:=f8 s.heap.objs.size es) (t':=s.toks) BF (aF _) (W1 Ba hl ka b1 b2 b3 (fun z=>by rw [hL] at z;cases z) g4),rfl,q _ mD⟩
end
end VS
namespace VS
open PySem PySem.Spec L2
def L6(kvs:List (D × D)):Bool:=keysOk true kvs && (!kvs.isEmpty && (C1 (kvs.map (·.1)) && decide (kvs.map fun p=>hashD p.1).Nodup))
def a1W(a:EvE):EvE:=fun Z=>(a Z).bind fun d=>match d with
 | .dict kvs=>if L6 kvs then some (.dict kvs) else none
 | _=>none
theorem a6j:∀l:List (α × β),(l.map (·.1)).zip (l.map (·.2))=l
 | []=>rfl
 | x :: l=>by rw [aA,aA,ef,a6j l]
section
variable {X:Cx}{M:List Md}{a:Expr}{fa:EvE}{ca:Cat}{pos p:ek}
theorem b0z(hm:X.mg "dict"=none)(ha:PX X M a fa ca)(hc:frozen ca:=by trivial)(hg:Gl X "dict":=by rfl)(he:au [a] X.env=(false,bW a X.env) :: au [] X.env:=by rfl)(fD:(b_ pos (au [] X.env)).any (·.1)=false:=by rfl) :
  PX X M (.Call (.Name "dict" p) [a] [] pos) (a1W fa) (.new (.d true .f)):=by
 obtain⟨ta,pa,qa⟩:=ha.out;refine .mk ⟨_,E5 a6i hg hm PyProof.Rows.Boot.«dict» (k9 pa o7 he) (by decide) (by decide) he fD,fun Z σ H P F d Q S hf q=>?_⟩;obtain⟨x,h1,g1⟩:=bnd hf;cases x with
 | dict kvs=>
  by_cases c:L6 kvs=true
  ·have g2:(if L6 kvs then some (a_.dict kvs) else none)=some d:=g1;rw [aE c] at g2;cases g2
   simp only [L6,az,decide_eq_true_eq] at c;obtain⟨c1,c2,c3,c4⟩:=c;refine qa Z σ H P F _ _ S h1 fun v H1 e1 r1=>?_
   obtain⟨aa,es,rfl,k1,k2⟩:=(J6 hc r1).dict_inv;have kk:=k2.keys;have kd:=k2.kden;have ky:∀e∈es,keyOk true e.1:=fun e he=>by
    have:e.1∈kvs.map (·.1):=by rw [<-kk];exact aG.mpr ⟨e,he,rfl⟩
    obtain⟨pp,hp,e2⟩:=aG.mp this;rw [<-e2];exact F9 (bP.mp c1 pp hp)
   refine⟨aa,es,rfl,i4 _ _ k1,fun z=>?_,by rw [D0,kk];exact c3,fun e he=>?_,?_,fun z hz=>?_⟩
   ·rw [z] at kk;cases kvs with
    | nil=>simp at c2
    | cons _ _=>cases kk
   ·obtain⟨ds,BX⟩:=(ky e he).2.2.1 rfl;have dd:=kd e he;rw [BX] at dd;obtain⟨b,xs,e2,e3,_⟩:=(dd.up i4).tup_inv;exact⟨b,xs,e2,e3⟩
   ·rw [show (es.map fun e=>hashD e.1)=kvs.map fun p=>hashD p.1 by
     have:=dC (List.map hashD) kk
     rwa [cP,cP] at this]
    exact c4
   ·have hs:Same (cut H1 F) (cut (upd H1 z (f8 z es)) ([z] ++ F)):=fun b y hy=>by
     obtain⟨n1,n2⟩:=n0 hy;have hb:b≠z:=fun w=>by rw [w,hz] at n2;cases n2
     refine i7 (fun w=>?_) (by rw [c9 hb];exact n2);rcases ay.mp w with w|w
     ·exact hb (ax.mp w)
     ·exact n1 w
    refine q _ _ (e1.trans (j9 hz _)) ⟨[z],?_,bA.mpr ⟨fun w=>(nomatch w),br⟩,fun b hb=>?_⟩
    ·simp only [Own];refine⟨z,es,kvs.map (·.2),[],rfl,i0,by rw [kk,a6j],rfl,⟨?_,fun e he=>⟨ky e he,(kd e he).up hs⟩⟩,ListAll.of_den (k2.vals.up hs) fun v d _ q=>⟨rfl,q⟩⟩;rw [kk];have c5:=c4;rw [List.Nodup,gQ] at c5 ⊢;exact c5.imp fun h e=>h (by rw [e])
    ·rw [ax.mp hb];cases hH:H z with
     | none=>rfl
     | some y=>rw [e1 _ _ hH] at hz;cases hz
  ·have g2:(if L6 kvs then some (a_.dict kvs) else none)=some d:=g1;rw [aO c] at g2;cases g2
 | _=>cases g1
end
end VS
namespace VS
open PySem PySem.Spec L2
section
variable {X:Cx}{M:List Md}{e:Expr}{f:EvE}{u:Ty}{kt:Bool}
theorem a8S(h:PX X M e f (.new (.d kt u))):PX X M e f (.new (.d kt .f)):=h.imp fun K H H' F v d hF _ ⟨fp,o,n,z⟩=>by
 simp only [Own] at o;obtain⟨a,es,ds,fs,rfl,ha,rfl,rfl,⟨k1,k2⟩,la⟩:=o;have iA:∀b∈[a] ++ F,b∈(a :: fs) ++ F:=fun b hb=>by
  rcases ay.mp hb with y|y
  ·rw [ax.mp y];simp
  ·exact aj _ y
 have rA:∀b∈fs,b∉[a] ++ F:=fun b hb y=>by
  rcases ay.mp y with y|y
  ·rw [ax.mp y] at hb;exact (bA.mp n).1 hb
  ·obtain⟨ys,q⟩:=hF b y;rw [z b (ao _ hb)] at q;cases q
 have key:∀{ds:List D} {xs:List V} {gs:List av},ListAll (Own K H' ((a :: fs) ++ F) u) xs ds gs->(∀b∈gs,b∈fs)->ListAll (Own K H' ([a] ++ F) .f) xs ds []:=by
  intro ds
  induction ds with
  | nil=>intro xs gs l _;obtain⟨rfl,rfl⟩:=l.nil_inv;exact o8
  | cons d ds ih=>
   intro xs gs l hs;obtain⟨v,r,f,g,rfl,rfl,l1,l2⟩:=l.cons_inv;exact m7 (f:=[]) (g:=[]) (l1.freeze iA fun b hb=>rA b (hs b (aq _ hb))) (ih l2 fun b hb=>hs b (aj _ hb))
 exact⟨[a],by simp only [Own];exact⟨a,es,ds,[],rfl,ha,rfl,rfl,⟨k1,fun e he=>⟨(k2 e he).1,(k2 e he).2.up (B3 iA)⟩⟩,key la fun _ y=>y⟩,by simp,fun b hb=>z b (by rw [ax.mp hb];exact ah)⟩
end
section
variable {X:Cx}{M ML M':List Md}{e:Expr}{f:EvE}{pos:ek}
theorem b4O(hM:M.map frz=M)(he:PX X M e f .tmp):PSX X .f ML M (.Return (some e) pos) (i9 f) M':=by
 obtain⟨te,pe,qe⟩:=he.out;refine .mk ⟨_,b0Z pe,fun D Z σ H P F o S hg k=>?_⟩;obtain⟨d,h1,g1⟩:=bnd hg;cases g1
 have S0:=S.free hM;refine qe Z σ H P [] d _ S0.toE h1 fun v H1 e1 hd=>?_
 refine k v H1 [] (by simp only [Own];exact⟨trivial,(show Den X.K H1 v d from hd).up fun a x ha=>i7 (by simp) ha⟩) br (fun a ha=>(nomatch ha)) ((S0.prot.trans i4).trans e1)
end
section
variable {X:Cx}{M:List Md}{e0:Expr}{es:List Expr}{f:EvA}{uf:Ty}{x:bc}{p pos jh:ek}{params:kH}{body:Expr}{scope:fE}{ys:List bc}{js:List Nat}
theorem a6k{ps pl N:List bc}{us:List Ty} 
  (W:Has X.prog X.w X.K X.mg X.base x k ps (spL X.K n (fun gm=>FnV X.prog X.w X.K X.mg X.base (kf + 1) pl.length uf gm) m .f)) (hr:Room k X.A) (h:PAL X M (e0 :: es) f fun H v=>∃fa,v=.ref fa/\LamO q params body scope (B0 scope X.env) H fa)
  (oA:a5Z X (B0 scope X.env) ys js) (hM:b4J M js) (S:LamScope N pl ys scope (B0 scope X.env)) (k_:us.length=pl.length)
  (ko:∀(pm:ai) (c:av) (ku:ai) (us:List ai),us.length=pl.length->me (oM "<lambda>" q params body scope (B0 scope X.env) pm (.ref c) ku) ⟨us,[]⟩=pure (pl.zip us))
  (hb:∀(fa c:av) (A:bx) (outer:List lQ) (s:ak) (H:Hp),Room kf (A.deeper (gP q scope s.heap.objs.size fa (.ref c) (B0 scope X.env)))->PX (a5Y X.prog X.w X.K X.mg X.base N q scope fa (.ref c) (B0 scope X.env) A outer s H) (us.map .own ++ aC ys.length (.own .f)) body fb (.new uf))
  (hfl:∀Z ds,f Z=some ds->ds.length=n) (lY:∀x,X.fn x=true:=by exact fun _=>rfl)
  (hg:Gl X x:=by rfl) (jM:(x == ("__debug__":bc))=false:=by decide) (he:au (e0 :: es) X.env=(false,bW e0 X.env) :: au es X.env:=by rfl) (fD:(b_ pos (au es X.env)).any (·.1)=false:=by rfl) :
  PX X M (.Call (.Name x p) (e0 :: es) [] pos) (b0r m us js fb f) .tmp:=by
 obtain⟨t,pa,qa⟩:=h;obtain⟨CO,fd,F,b,kp,wy⟩:=W.ex;refine .mk ⟨_,a6b F hr hg wy kp b pa oA (a8N lY) jM he fD,fun Z σ H P F d Q S' hf q=>?_⟩;obtain⟨ds,h1,hf⟩:=bnd hf;refine qa Z σ H P F ds _ S' h1 fun vs v H1 e1 r1 ⟨fa,hv,L⟩=>?_
 subst hv;obtain⟨jW,c1,c2⟩:=a4V (S'.grow e1) hM;refine⟨jW,c1,fun H2 C om s2 ci yb J2 o2 n2=>?_⟩;refine⟨vs,.ref fa,_,ds,d,rfl,by rw [r1.length];exact hfl Z ds h1,r1.up s2,fun H' e'=>a8M (L.up (s2.trans e')) S om (ci.up e') (fun y c z=>let⟨ob,uo,w1,w2⟩:=yb y c z;⟨ob,uo,e' _ _ w1,w2⟩) (c2.up (s2.trans e')) k_ ko (hb fa),hf,fun v H' fp e o nd fr J'=>?_⟩;have sm:Same H1 (VS.cut H' C):=fun b o' hb=>i7 (fun z=>by rw [n2 b z] at hb;cases hb) (e _ _ (s2 _ _ hb))
 exact q v (VS.cut H' C) (e1.trans sm) ((o.junk J' .f).den .f)
end
def b2D(K:af):V->List V->Hp->VK->Prop:=fun x vs H Q=>∃l b xs zs,x=.ref l/\vs=[.ref b]/\H l=some (.lst xs)/\SqX K H b zs/\xs.length + zs.length<=aS/\Q .non (upd H l (.lst (xs ++ zs)))
theorem a7K:MtM X "list.extend" (b2D X.K):=by
 intro pins s σ H x vs v us Q I rx rv h;obtain⟨l,b,xs,zs,rfl,rfl,hH,hB,hz,q⟩:=h;cases rx
 obtain⟨u,rfl,ru⟩:=rv.one;cases ru
 obtain⟨z,bU,n,r,hl,e⟩:=I.lstM hH;obtain⟨z2,j_,n2,r2,e2⟩:=hB.ok I;have vB:=r2.length;have je:bU.toArray.size + j_.toArray.size<=aS:=by rw [aT,aT];lia
 have oh:¬ (!bU.toArray.isEmpty && gW (bU.toArray.size + j_.toArray.size))=true:=by
  rw [a5r je,oN];exact bB
 refine call_meets jt ⟨_,e,rfl⟩ PySem.F.entry_list_extend (PySem.F.args_list_extend_2 _ _)
  (oO l bU.toArray n b j_.toArray n2 oh (by rw [aT];lia) (by lia)) ⟨e,e2,?_⟩
 refine⟨.non,_,I.lset (its':=bU ++ j_) hH e (by simp) (r.append r2) ?_,rfl,q⟩;rw [aK];lia
section
variable {X:Cx}{M ML:List Md}{w:Ty}{pos:ek}{ca:Cat}
theorem b4P(i:Nat){apos cL px:ek}(he:PX X M e f ca)(hc:frozen ca:=by trivial)(hm:M[i]?=some (.own (.l .i)):=by rfl)(hN:X.N[i]?=some x:=by rfl)(hv:Vis X.env.scope x:=by first|exact cf rfl|exact bR (cf rfl)|exact bR (bR rfl))(hd:(x == ("__debug__":bc))=false:=by decide)
  (gJ:(x == ("__classdict__":bc))=false:=by decide)
  (iq:gM (.Name x px) "extend" X.env (bW (.Name x px) X.env)=bW (.Name x px) X.env:=by rfl)
  (jL:((b_ cL (au [e] X.env)).all (fun x=>!x.1) && (mf cL (iO [] X.env)).all (fun x=>x.1.isSome)
   && decide ([e].length + ([]:List gC).length + (if ([]:List gC).isEmpty then 0 else 1) < 30))=true:=by rfl)
  (ip:(apos.endLine == cL.line)=true:=by rfl) (hs:au [e] X.env=(false,bW e X.env) :: au [] X.env:=by rfl) (fZ:(b_ cL (au [] X.env)).any (·.1)=false:=by rfl)
  (nY:ff (.Call (.Attribute (.Name x px) "extend" apos) [e] [] cL) none pos.line X.env=pure false:=by rfl) :
  PSX X w ML M (.Expr (.Call (.Attribute (.Name x px) "extend" apos) [e] [] cL) pos) (a3A i f) M:=by
 obtain⟨te,pe,qe⟩:=he.out;refine .mk ⟨_,V1 (b1o jC jt qf a7K (C8 hN hv hd gJ) (k9 pe o7 hs) iq jL ip hs fZ) nY,fun D Z σ H P F o S hg k=>?_⟩;obtain⟨d,h3,g3⟩:=bnd hg;obtain⟨v0,f0,e0,o0,qW⟩:=S.toE.get hm;cases d with
 | list es=>
  cases hr:Z.getD i fG with
  | list ds=>
   rw [hr] at g3 o0;have pW:(if e6 es && decide (ds.length + es.length<=1000000) then some (Out.nx (Z.set i (.list (ds ++ es)))) else none)=some o:=g3;by_cases c:(e6 es && decide (ds.length + es.length<=1000000))=true
   ·rw [aE c] at pW;cases pW
    rw [az] at c;have c2:=bC c.2;simp only [Own] at o0;rcases o0 with⟨_,hi,_⟩|⟨b,xs,jy,fs,rfl,hH,jU,rfl,hL⟩
    ·simp only [imm] at hi;cases hi
    cases jU
    have rN:b∈F:=qW b ah;refine⟨.ref b,e0,.inl ⟨rfl,xs,SqL.of hH⟩,qe Z σ H P F _ _ S.toE h3 fun v1 H1 e1 r1=>?_⟩;have S1:=S.grow e1;obtain⟨b1,zs,rfl,k1,nv⟩:=(J6 hc r1).list_inv;have rl:Z[i]?=some (.list ds):=by
     rw [aX] at hr;cases q:Z[i]? with
     | none=>rw [q] at hr;cases hr
     | some x=>rw [q] at hr;exact dC some hr
    have lz:zs.length=es.length:=nv.length;have lx:xs.length=ds.length:=hL.length;have hz:aS=16777216:=dv;refine⟨b,b1,xs,zs,rfl,rfl,e1 _ _ hH,T4 k1 i4,by lia,?_⟩;exact k σ _ _ (StR.ext hm e0 rN zs es Z H1 ds xs S1 nv c.1 rl (e1 _ _ hH) lx)
   ·rw [aO c] at pW;cases pW
  | _=>rw [hr] at g3;cases g3
 | _=>cases g3
end
end VS
namespace VS
open PySem PySem.Spec L2
def iSq(a:EvE):EvA:=fun Z=>(a Z).bind fun d=>match d with
 | .list ds=>some ds
 | .tuple ds=>some ds
 | _=>none
theorem b9Z(h1:PI X tg iter w1)(h2:PI X tg iter w2):PI X tg iter (fun σ H R=>w1 σ H R∨w2 σ H R):=by
 intro pins s σ H R I h;rcases h with h|h
 ·exact h1 pins s σ H R I h
 ·exact h2 pins s σ H R I h
section
variable {X:Cx}{M:List Md}{a tg:Expr}{fa:EvE}{ca:Cat}
theorem b4Q(h:PX X M a fa ca)(hc:frozen ca:=by trivial):PIX X M tg a (iSq fa):=by
 obtain⟨w1,p1,q1⟩:=w6 (tg:=tg) h hc;obtain⟨w2,p2,q2⟩:=b4i (tg:=tg) h hc;refine⟨_,b9Z p1 p2,fun Z σ H P F ds R S hf k=>?_⟩;obtain⟨d,h1,h2⟩:=bnd hf;cases d with
 | list es=>
  cases h2
  exact .inl (q1 Z σ H P F _ R S (by show (fa Z).bind asL=_;rw [h1];rfl) k)
 | tuple es=>
  cases h2
  exact .inr (q2 Z σ H P F _ R S (by unfold iT;rw [h1];rfl) k)
 | _=>cases h2
end
end VS
namespace VS
open PySem PySem.Spec L2 PyProof.Rows
theorem ObjOk.has(x:ObjOk P w H h a o):∃u,h.get? a=some u:=by
 cases o with
 | lst xs=>obtain⟨_,_,_,_,e⟩:=x;exact⟨_,e⟩
 | tup xs=>obtain⟨_,_,_,ob,e,_⟩:=x;exact⟨_,e⟩
 | dK kvs=>obtain⟨_,_,_,_,o,_,_,e,_⟩:=x;exact⟨_,e⟩
 | dT kvs=>obtain⟨_,_,_,_,o,_,_,e,_⟩:=x;exact⟨_,e⟩
 | set S n=>obtain⟨o,_,_,_,e,_⟩:=x;exact⟨_,e⟩
 | ins C dx fs=>obtain⟨_,_,_,e,_⟩:=x;exact⟨_,e⟩
 | own y=>exact x
 | xd fs=>obtain⟨_,⟨_,_,_,e,_⟩,_⟩:=x;exact⟨_,e⟩
 | rng lo hi=>obtain⟨_,_,_,e⟩:=x;exact⟨_,e⟩
 | frz ob u=>obtain⟨e,_⟩:=x;exact⟨_,e⟩
 | tbl ps=>obtain⟨_,e,_⟩:=(show a3F H h a ps from x);exact⟨_,e⟩
 | met f y=>exact⟨_,(show h.get? a=some _ from x)⟩
 | ext φ=>obtain⟨_,e,_⟩:=x;exact e
theorem a7L{h h':bL}(x:HOk P w H h)(k:∀b u v,H b=some v->h.get? b=some u->h'.get? b=some u):HOk P w H h':=fun a o e=>
 ObjOk.stay (x a o e) (fun b u hb q=>by
  rcases hb with rfl|hb
  ·exact k _ u _ e q
  ·exact k b u _ hb q) (fun _ q=>q) fun _ _ q=>q
structure Fly (P:bh) (w:bE) (outer:List lQ) (H:Hp) (s:ak) (a C t:av) (H':Hp) (B h':bL):Prop where
 un:Un (frs outer) [] H H' s.heap h'
 hok:HOk P w H' h'
 na:H' a=none
 new:s.heap.get? a=none
 fl:jw B outer a (.ref C) (.ref t) h'
 c1:∀b u,H' b=some u->∃o,B.get? b=some o
 c2:∀b o,s.heap.get? b=some o->H b=none->b∉frs outer->B.get? b=some o
 c3:∀b o,s.heap.get? b=some o->b∉frs outer->∃o',B.get? b=some o'
section
variable {P:bh}{w:bE}{outer:List lQ}{H H':Hp}{s:ak}{a C t:av}{B h' nO:bL}
theorem Fly.step(x:Fly P w outer H s a C t H' B h')(fl:jw B outer a (.ref C) (.ref t) nO)(up:h'.UpToSlots nO):Fly P w outer H s a C t H' B nO:=by
 have slot:∀b o,s.heap.get? b=some o->H b=none->b∈frs outer->∃sl,nO.get? b=some {o with slots:=sl}:=fun b o q n hb=>by
  obtain⟨sl,e1⟩:=x.un.slot b o q n hb (by simp);obtain⟨_,o',e2,hd⟩:=x.fl.2.2.1.mem hb;rw [e1] at e2;cases e2
  obtain⟨sk,e3⟩:=up b _ e1 hd;exact⟨sk,e3⟩
 refine⟨⟨fun b o q n hb _=>fl.1 b o (x.c2 b o q n hb),fun b o q n hb _=>slot b o q n hb,x.un.free,fun b o q _=>?_,x.un.tups,x.un.frzs,x.un.tbls⟩,a7L x.hok fun b u v hv q=>?_,x.na,x.new,fl,x.c1,x.c2,x.c3⟩
 ·by_cases hb:b∈frs outer
  ·obtain⟨_,o',e2,_⟩:=fl.2.2.1.mem hb;exact⟨o',e2⟩
  ·obtain⟨o',e⟩:=x.c3 b o q hb;exact⟨o',fl.1 b o' e⟩
 ·obtain⟨o,e⟩:=x.c1 b v hv;have:=x.fl.1 b o e;rw [q] at this;cases this
  exact fl.1 b u e
end
def CXR(P:bh)(w:bE):CXT:=fun outer H s E e s'=>∃(a C t:av) (H':Hp) (B:bL),e=.ref a/\s'.os=s.os/\i_ s'.gens/\Fly P w outer H s a C t H' B s'.heap/\E (.ref C) none H'
section
variable {X:Cx}{pins:List (av × eD)}{σ:L2.St}{H:Hp}{s:ak}
theorem b2E(I:Inv X pins σ H s)(jS:X.stack=X.env :: X.outer)(hex:X.ex=[])(mk:bL.MadeExcOf s.heap h1 a (.ref C) args)(hB:B=fm s.heap (frs X.stack))
  (fl:jw B X.outer a (.ref C) (.ref t) h2) (up:h1.UpToSlots h2):Fly X.prog X.w X.outer X.H₀ X.s₀ a C t H B h2:=by
 subst hB;have mS:∀b,b∉X.ex:=fun b hb=>by rw [hex] at hb;cases hb
 have sub:∀b,b∉frs X.outer->(∃o,X.s₀.heap.get? b=some o)->b∉frs X.stack:=fun b hb ⟨o,ho⟩ z=>by
  rcases aH.mp (I.stkSub b z) with e|e
  ·have:=aN ho;rw [e] at this;exact absurd (aW this I.ok.above) (cE _)
  ·exact hb e
 have inB:∀b o,s.heap.get? b=some o->b∉frs X.stack->(fm s.heap (frs X.stack)).get? b=some o:=fun b o e hb=>vU _ e hb
 have yB:∀b v,H b=some v->b∉frs X.stack:=fun b v e z=>by rw [I.stkFree b z] at e;cases e
 have c2:∀b o,X.s₀.heap.get? b=some o->X.H₀ b=none->b∉frs X.outer->(fm s.heap (frs X.stack)).get? b=some o:=fun b o q n hb=>
  inB b o (I.base.keep b o q n hb (mS b)) (sub b hb ⟨o,q⟩)
 have c3:∀b o,X.s₀.heap.get? b=some o->b∉frs X.outer->∃o',(fm s.heap (frs X.stack)).get? b=some o':=fun b o q hb=>by
  obtain⟨o',e⟩:=I.base.there b o q (mS b);exact⟨o',inB b o' e (sub b hb ⟨o,q⟩)⟩
 have c1:∀b u,H b=some u->∃o,(fm s.heap (frs X.stack)).get? b=some o:=fun b u e=>by
  obtain⟨o,ho⟩:=ObjOk.has (I.hok b u e);exact⟨o,inB b o ho (yB b u e)⟩
 have mem:∀b,b∈frs X.outer->b∈frs X.stack:=fun b hb=>by
  rw [jS];unfold frs;rw [gh]
  split
  ·exact hb
  ·exact ao _ hb
 refine⟨⟨fun b o q n hb _=>fl.1 b o (c2 b o q n hb),fun b o q n hb _=>?_,fun b o q n _=>I.base.free b o q n (mS b),fun b o q _=>?_,I.base.tups,I.base.frzs,I.base.tbls⟩,a7L I.hok fun b u v hv q=>?_,?_,?_,fl,c1,c2,c3⟩
 ·obtain⟨sl,e1⟩:=I.base.slot b o q n hb (mS b);obtain⟨_,o',e2,hd⟩:=I.stack.mem (mem b hb);rw [e1] at e2;cases e2
  obtain⟨wg,e4⟩:=up b _ (mk.keeps b _ e1) hd;exact⟨wg,e4⟩
 ·by_cases hb:b∈frs X.outer
  ·obtain⟨_,o',e2,_⟩:=fl.2.2.1.mem hb;exact⟨o',e2⟩
  ·obtain⟨o',e⟩:=c3 b o q hb;exact⟨o',fl.1 b o' e⟩
 ·exact fl.1 b u (inB b u q (yB b v hv))
 ·cases q:H a with
  | none=>rfl
  | some u=>
   obtain⟨o,ho⟩:=ObjOk.has (I.hok a u q);rw [mk.new] at ho;cases ho
 ·cases q:X.s₀.heap.get? a with
  | none=>rfl
  | some o=>
   obtain⟨o',e⟩:=I.base.there a o q (mS a);rw [mk.new] at e;cases e
theorem b7O(I:Inv X pins σ H s)(jS:X.stack=X.env :: X.outer)(hex:X.ex=[])(x:Fly X.prog X.w X.stack H s a C t H' B h1)
  (fl:jw B X.outer a (.ref C) (.ref t) h2) (up:h1.UpToSlots h2):Fly X.prog X.w X.outer X.H₀ X.s₀ a C t H' B h2:=by
 have mS:∀b,b∉X.ex:=fun b hb=>by rw [hex] at hb;cases hb
 have sub:∀b,b∉frs X.outer->(∃o,X.s₀.heap.get? b=some o)->b∉frs X.stack:=fun b hb ⟨o,ho⟩ z=>by
  rcases aH.mp (I.stkSub b z) with e|e
  ·have:=aN ho;rw [e] at this;exact absurd (aW this I.ok.above) (cE _)
  ·exact hb e
 have mem:∀b,b∈frs X.outer->b∈frs X.stack:=fun b hb=>by
  rw [jS];unfold frs;rw [gh]
  split
  ·exact hb
  ·exact ao _ hb
 have c2:∀b o,X.s₀.heap.get? b=some o->X.H₀ b=none->b∉frs X.outer->B.get? b=some o:=fun b o q n hb=>
  x.c2 b o (I.base.keep b o q n hb (mS b)) (I.base.free b o q n (mS b)) (sub b hb ⟨o,q⟩)
 have c3:∀b o,X.s₀.heap.get? b=some o->b∉frs X.outer->∃o',B.get? b=some o':=fun b o q hb=>by
  obtain⟨o',e⟩:=I.base.there b o q (mS b);exact x.c3 b o' e (sub b hb ⟨o,q⟩)
 refine⟨⟨fun b o q n hb _=>fl.1 b o (c2 b o q n hb),fun b o q n hb _=>?_,fun b o q n _=>?_,fun b o q _=>?_,fun b xs q=>x.un.tups b xs (I.base.tups b xs q),fun b o u q=>x.un.frzs b o u (I.base.frzs b o u q),fun b ps q=>?_⟩,a7L x.hok fun b u v hv q=>?_,x.na,?_,fl,x.c1,c2,c3⟩
 ·obtain⟨sl,e1⟩:=I.base.slot b o q n hb (mS b);obtain⟨mQ,e2⟩:=x.un.slot b _ e1 (I.base.free b o q n (mS b)) (mem b hb) (by simp);obtain⟨_,o',e3,hd⟩:=x.fl.2.2.1.mem (mem b hb);rw [e2] at e3;cases e3
  obtain⟨wg,e4⟩:=up b _ e2 hd;exact⟨wg,e4⟩
 ·obtain⟨o',e1⟩:=I.base.there b o q (mS b);exact x.un.free b o' e1 (I.base.free b o q n (mS b)) (by simp)
 ·by_cases hb:b∈frs X.outer
  ·obtain⟨_,o',e2,_⟩:=fl.2.2.1.mem hb;exact⟨o',e2⟩
  ·obtain⟨o',e⟩:=c3 b o q hb;exact⟨o',fl.1 b o' e⟩
 ·obtain⟨m1,e1⟩:=I.base.tbls b ps q;obtain⟨m2,e2⟩:=x.un.tbls b _ e1;exact⟨m1 ++ m2,by rw [e2,yo]⟩
 ·obtain⟨o,e⟩:=x.c1 b v hv;have:=x.fl.1 b o e;rw [q] at this;cases this
  exact fl.1 b u e
 ·cases q:X.s₀.heap.get? a with
  | none=>rfl
  | some o=>
   obtain⟨o',e⟩:=I.base.there a o q (mS a);rw [x.new] at e;cases e
end
end VS
namespace VS
open PySem PySem.Spec L2 PyProof.Rows
abbrev Wsh:=bc->L2.St->Hp->Prop
abbrev EvR:=List D->Option bc
def Tk(X:Cx)(W:Wsh):Prop:=∀(pins:List (av × eD)) (σ:L2.St) (H:Hp) (s:ak) (n:bc) (C a t:av) (H':Hp) (B:bL) (s':ak),Inv X pins σ H s->bH X.K aV n=some (some (.ref C))->
 s'.os=s.os->i_ s'.gens->Fly X.prog X.w X.stack H s a C t H' B s'.heap->Same H H'->W n σ H->X.xe (.ref a) s'
structure XeL (X:Cx) (E:XK):Prop where
 xe:X.xe=fun e s'=>aM (aU X.prog X.w) X.A (leaving X.env e) (fun _ qY=>CXR X.prog X.w X.outer X.H₀ X.s₀ E e qY) (fun e' qY=>CXR X.prog X.w X.outer X.H₀ X.s₀ E e' qY) s'
 stk:X.stack=X.env :: X.outer
 ex:X.ex=[]
 fr:X.env.frame=some X.env.locals
 calm:X.calm=true
def wE(K:af)(E:XK):Wsh:=fun n _ H=>∀C H',bH K aV n=some (some (.ref C))->Same H H'->E (.ref C) none H'
section
variable {X:Cx}{E:XK}
theorem b7P(h:XeL X E):Tk X (wE X.K E):=by
 intro pins σ H s n C a t H' B s' I hn ho hb x e q;rw [h.xe];have fr:=I.ok.frames;rw [h.stk] at fr;have x':=x;rw [h.stk] at x';refine wpAny_leaves_onW fr h.fr x'.fl fun h2 fl up=>?_
 exact⟨a,C,t,H',B,rfl,ho.trans I.os,hb,b7O I h.stk h.ex x fl up,q C H' hn e⟩
def b4R(K:af)(n:bc)(C:av):Prop:=bH K aV n=some (some (.ref C))/\p_ K C [.type "ValueError",.type "Exception",.type "BaseException",.type "object"] "ValueError.__new__"=true
theorem b2F{K:af}(X:K.In h)(e:b4R K n C):∃bm N nm q bs hdct sn sub ab col dd k0 k1 k2 k3 k5 mN,h.get? C=some (excClassObj nm q C N bs bm hdct sn sub ab col dd k0 k1 k2 k3 k5 "ValueError.__new__")/\h.Ns N mN/\mN "__init__"=none/\OwnTail h [.type "ValueError",.type "Exception",.type "BaseException",.type "object"] bm:=by
 have q:=e.2;unfold p_ at q
 split at q
 ·rename_i dd cd sl ho
  split at q
  ·rename_i C' bm k0 k1 k2 k3 n k5 hm hs
   simp only [az,fM,Bool.not_eq_true'] at q;obtain⟨⟨⟨⟨⟨rfl,rfl⟩,uC⟩,ht⟩,hok⟩,oQ⟩:=q;obtain⟨nm,bs,mro,ns,qn,hd,sn,sub,ab,col,del⟩:=cd
   dsimp only at hm uC hok oQ
   subst hm uC;have mJ:sl=#[k0,k1,k2,k3,some (.builtin "ValueError.__new__"),k5]:=by
    obtain⟨l⟩:=sl;simp only at hs;rw [hs]
   subst mJ;exact⟨bm,ns,nm,qn,bs,hd,sn,sub,ab,col,dd,k0,k1,k2,k3,k5,_,X _ _ ho,.of_isNs (PySem.W.isNs_of_in X hok),PySem.W.nsMap_none_of_in X hok oQ,PySem.W.tail_of_in X ht⟩
  ·cases q
 ·cases q
variable {W:Wsh}{M:List Md}{r r1 r2:EvR}
def tR(K:af)(W:Wsh)(M:List Md)(r:EvR)(σ:L2.St)(H:Hp):Prop:=∃(Z:List D) (P:Hp) (F:List av) (n:bc),StR K M Z σ H P F/\r Z=some n/\∀σ' H' F',StR K M Z σ' H' P F'->W n σ' H'
def PER(X:Cx)(W:Wsh)(M:List Md)(e:Expr)(r:EvR):Prop:=PE X e fun σ H _=>tR X.K W M r σ H
def PSR(X:Cx)(W:Wsh)(M:List Md)(st:fT)(r:EvR):Prop:=PS X st fun _ σ H=>tR X.K W M r σ H
def a7M(X:Cx)(W:Wsh)(M:List Md)(mB:List fT)(r:EvR):Prop:=PSs X mB fun _ σ H=>tR X.K W M r σ H
theorem tR.grow{K:af}{σ:L2.St}{H H1:Hp}{Z:List D}{P:Hp}{F:List av}{n:bc}(S:StR K M Z σ H P F)(h:r Z=some n)(q:∀σ' H' F',StR K M Z σ' H' P F'->W n σ' H')(e:Same H H1):tR K W M r σ H1:=
 ⟨Z,P,F,n,S.grow e,h,q⟩
theorem b2G{j np cp cL pos}(h:XeL X E)(hk:b4R X.K x C)(hg:Gl X x:=by rfl)(hd:(x == ("__debug__":bc))=false:=by decide)
  (he:au [.Constant (.str msg) j cp] X.env=(false,bW (.Constant (.str msg) j cp) X.env) :: au [] X.env:=by rfl) :
  PSR X (wE X.K E) M (.Raise (some (.Call (.Name x np) [.Constant (.str msg) j cp] [] cL)) none pos) (fun _=>some x):=by
 intro pins s σ H D I ⟨Z,P,F,n,S,hr,q⟩;cases hr
 have hm:X.mg x=some (.ref C):=fw I.mod.kin I.mod.glob hk.1;obtain⟨bm,N,nm,qn,bs,hdct,sn,sub,ab,col,dd,k0,k1,k2,k3,k5,mN,hC,hN,oQ,T⟩:=b2F I.mod.kin hk;refine wpAny_Raise_call_subT (C:=C) (nm:=nm) (q:=qn) (N:=N) (bs:=bs) (bm:=bm) (hdct:=hdct) (sn:=sn) (sub:=sub) (ab:=ab) (col:=col) (dd:=dd) (k0:=k0) (k1:=k1) (k2:=k2) (k3:=k3) (k5:=k5)
  PySem.F.excBase_ValueError (mN:=mN) (T.hasType (by decide)) (I.ok.hd h.calm) (by rw [he];rfl) oQ (V0 I hg hm ⟨rfl,?_⟩ hd)
 have pa:=k9 (X:=X) (b6c (x:=msg) (j:=j) (pos:=cp)) o7 he;have go:=pa cL pins s σ H (fun vs H'=>vs.length=1/\H'=H) I ⟨rfl,rfl⟩;rw [he] at go ⊢;refine iZ (cC go (fun us s2 ⟨vs,H2,I2,r2,hl,e2⟩=>?_) fun _ _ y=>y);subst e2;have lu:us.length=1:=by rw [<-r2.length];exact hl
 refine⟨rfl,by show us.length<=aS;rw [lu,dv];decide,I2.bk _ _ hC,hN.keeps I2.bk,T.keeps I2.bk,fun h' a mk=>?_⟩;rw [h.xe];have fr:=I2.ok.frames;rw [h.stk] at fr;have BV:=PySem.W.funFrames_hide (as:=frs X.stack) I2.stack fun env he b hb=>de.mpr ⟨env,he,hb⟩
 have uv:=BV;rw [h.stk] at uv;refine wpAny_leaves_madeW (base:=fm s2.heap (frs X.stack)) (h:=s2.heap) fr h.fr (fun b o z=>ye _ z) (by rw [h.stk];exact uv) mk fun h2 t fl _ _ up=>?_
 exact⟨a,C,t,H2,_,rfl,I2.os,I2.bare,b2E I2 h.stk h.ex mk rfl fl up,q σ H2 F S C H2 hk.1 (Same.refl H2)⟩
def rIf(fc:EvT)(r1 r2:EvR):EvR:=fun Z=>(fc Z).bind fun b=>if b then r1 Z else r2 Z
def rNo:EvR:=fun _=>none
theorem c0a:a7M X W M mB rNo:=fun _ _ _ _ _ _ ⟨_,_,_,_,_,h,_⟩=>nomatch h
theorem c0b{pos}(hc:PTX X M c0 fc)(ha:a7M X W M a r1)(hb:a7M X W M b r2):PSR X W M (.If c0 a b pos) (rIf fc r1 r2):=by
 obtain⟨tc,pc,qc⟩:=hc.out;intro pins s σ H D I ⟨Z,P,F,n,S,hr,q⟩;refine b5x pc ha hb pins s σ H D I ?_;obtain⟨k,h1,h2⟩:=bnd hr;refine qc Z σ H P F k _ S.toE h1 fun H1 e1=>?_
 cases k with
 | true=>exact a1L (tR.grow S h2 q e1)
 | false=>exact a1K (tR.grow S h2 q e1)
theorem a1X{st:fT}{rest:List fT}(h:PSR X W M st r):a7M X W M (st :: rest) r:=
 a5n (t:=fun _ σ H=>tR X.K W M r σ H) (u:=fun _ _ _=>False) h fun _ _ _ _ _ _ z=>z.elim
def spR(K:af)(n:Nat)(r:List D->Option bc):Sp:=fun vs H _ E=>∃ds x,vs.length=n/\DenAll K H vs ds/\r ds=some x/\wE K E x [] H
structure HasR (P:bh) (w:bE) (K:af) (mg:bc->Option ai) (base:bL) (x:bc) (k:Nat) (ps:List bc) (sp:Sp):Prop where
 ex:∃f fd,FnOk P w K mg base (CXR P w) k f fd ps sp/\Binds K fd ps []/\ee K (.ref f)=true/\mg x=some (.ref f)
theorem HasR.up{P:bh}{w:bE}{K:af}{mg:bc->Option ai}{base:bL}{x:bc}{j k:Nat}{ps:List bc}{sp:Sp}(h:HasR P w K mg base x j ps sp)(l:j<=k):HasR P w K mg base x k ps sp:=by
 obtain⟨f,fd,a,b⟩:=h.ex;exact⟨f,fd,a.mono l,b⟩
def rCl(rf:List D->Option bc)(f:EvA):EvR:=fun Z=>(f Z).bind rf
theorem a6l(hT:Tk X W)(h:HasR X.prog X.w X.K X.mg X.base x k ps (spR X.K n rf))(hr:Room k X.A)(ha:PAX X M (e0 :: es) f)(hl:(e0 :: es).length=n:=by rfl)(hfl:∀Z ds,f Z=some ds->ds.length=(e0 :: es).length)
  (hg:Gl X x:=by rfl) (jM:(x == ("__debug__":bc))=false:=by decide) (he:au (e0 :: es) X.env=(false,bW e0 X.env) :: au es X.env:=by rfl) (fD:(b_ pos (au es X.env)).any (·.1)=false:=by rfl) :
  PER X W M (.Call (.Name x p) (e0 :: es) [] pos) (rCl rf f):=by
 obtain⟨fa,fd,FF,b,kp,m⟩:=h.ex;obtain⟨t,pa,qa⟩:=ha;intro pins s σ H Q I ⟨Z,P,F,y,S,hf,q⟩;obtain⟨ds,h1,h2⟩:=bnd hf;refine fH (V0 I hg m ?_ jM);have go:=pa pos pins s σ H (fun vs H1=>DenAll X.K H1 vs ds/\Same H H1) I (qa Z σ H P F ds _ S.toE h1 fun vs H1 e1 r1=>⟨r1,e1⟩);refine lK (h₀:=X.base) I.ok.mod.kin kp (L2.thn go fun us s1 ⟨vs,H1,I1,r,r1,e1⟩=>⟨I1.kIn,?_⟩) he fD;have lv:vs.length=ps.length:=by
  have:=FF.len vs H1 (fun _ _=>True) (fun _ _ _=>True) ⟨ds,y,by rw [r1.length,hfl Z ds h1,hl],r1,h2,fun _ _ _ _=>trivial⟩;exact this
 have lu:(us ++ []).length=ps.length:=by rw [aZ,<-r.length];exact lv
 refine kM (eH (FF.run X.A X.stack s1 H1 ⟨us,[]⟩ us vs (fun _ _=>False) (fun c _ H'=>∃C,c=.ref C/\bH X.K aV y=some (some (.ref C))/\Same H1 H') hr I1.env0 (by have:=b s1 us I1.kIn lu;rwa [aZ] at this) r ⟨ds,y,by rw [r1.length,hfl Z ds h1,hl],r1,h2,fun C H' hn hs=>⟨C,rfl,hn,hs⟩⟩) fun rr s' hq=>?_);cases rr with
 | error e=>
  obtain⟨a,C,t,H',B,rfl,ho,hb,x,C',ec,hn,hs⟩:=hq;cases ec
  exact hT pins σ H1 s1 y C a t H' B s' I1 hn ho hb x hs (q σ H1 F (S.grow e1))
 | ok fl=>
  cases fl with
  | ret u=>
   obtain⟨_,_,_,_,_,_,_,z⟩:=hq;exact z.elim
  | next=>exact bS hq
  | brk=>exact bS hq
  | cont=>exact bS hq
theorem a8T{pos:ek}(h:PER X W M e r)(hs:ff e none pos.line X.env=pure false:=by rfl):PSR X W M (.Expr e pos) r:=V1 (te:=fun σ H _=>tR X.K W M r σ H) h hs
end
end VS
namespace VS
open PySem PySem.Spec L2 PyProof.Rows
def fnR(us:List Ty)(n:Nat)(r:EvR):List D->Option bc:=fun ds=>if argsOk us ds then r (ds ++ aC n .none) else none
theorem b2H{P:bh}{w:bE}{K:af}{mg:bc->Option ai}{base:bL}{x:bc}{st:fT}{f:av}{fd:cV}{N ps:List bc}{k n:Nat}{us:List Ty}{r:EvR}(F:Fun K x x st f fd)(S:FnScope N ps (g8 st))(k_:us.length=ps.length)(hn:N.length=ps.length + n)
  (hb:∀(X:Cx) (E:XK),XeL X E->X.K=K->(∃(eQ:ai) (A:bx) (outer:List lQ) (s:ak) (H:Hp),X=S9 (CXR P w) P w K mg base N x (g8 st) f eQ A outer s H E)->Room k X.A->a7M X (wE K E) (us.map .own ++ aC n .dead) (r9 st) r) :
  FnOk P w K mg base (CXR P w) (k + 1) f fd ps (spR K ps.length (fnR us n r)):=by
 obtain⟨oc,od,kV,doc,pm,an,eQ,ct,mR,rfl,lk,gJ⟩:=F.ex;refine b1m lk gJ S (fun vs H Q E h=>?_) fun A outer s H vs Q E hr nj=>?_
 ·obtain⟨ds,d,hl,_⟩:=h;exact hl
 obtain⟨ds,y,hl,hd,hm,q⟩:=nj;have L:XeL (S9 (CXR P w) P w K mg base N x (g8 st) f eQ A outer s H E) E:=⟨rfl,rfl,rfl,rfl,rfl⟩;refine⟨_,hb _ E L rfl ⟨eQ,A,outer,s,H,rfl⟩ hr,?_⟩;unfold fnR at hm;by_cases ha:argsOk us ds=true
 ·rw [aE ha] at hm;have e:L2.start N vs=vs.map some ++ aC n none:=by
   unfold L2.start;rw [show N.length - vs.length=n by lia]
  rw [e];refine⟨ds ++ aC n fG,H,[],y,⟨⟨[],N1 ha hd n,br,fun a ha=>(nomatch ha)⟩,fun a ha=>(nomatch ha),by rw [F7];exact Same.refl H⟩,hm,fun σ' H' F' S' C H2 hC e2=>q C H2 hC ((S'.prot.trans i4).trans e2)⟩
 ·rw [aO ha] at hm;cases hm
theorem Inv.unbound{h':bL}(I:Inv X pins σ H s)(hN:X.N.Nodup)(hi:X.N[j]?=some x)(hn:s.heap.Ns X.env.locals m)
  (hl:∀(i:Nat) (x:bc) (v:V),X.N[i]?=some x->σ[i]?=some (some v)->Vis X.env.scope x->∃u,RelV v u/\Look X.env s.heap m x u)
  (qC:h'.Ns X.env.locals (fun y=>if y=x then u else m y)) (hs:dN X.env.locals s.heap h'):Inv X pins (σ.set j none) H {s with heap:=h',toks:=tk}:=by
 have cne:=I.cne;have pO:j < σ.length:=by rw [I.len];exact (aY.mp hi).1
 have tracked:HOk X.prog X.w H h':=fun b ob e=>by
  refine (I.hok b ob e).stay (fun c w' hc q=>(hs.2 c ?_).trans q) (fun _ q=>q) fun _ _ q=>q
  rintro rfl;have jT:=I.free;rcases hc with rfl|hc
  ·rw [jT] at e;cases e
  ·rw [jT] at hc;cases hc
 refine⟨I.ok,I.os,I.bare,⟨fun b o e n hb hx=>?_,fun b o e n hb hx=>?_,I.base.free,fun b o e hx=>?_,I.base.tups,I.base.frzs,I.base.tbls⟩,⟨_,qC,fun i y v' e1 e2 e3=>?_⟩,fun y c e=>?_,I.free,I.freeC,fun p hp=>?_,tracked,by simpa using I.len⟩
 ·exact (hs.2 b (bj (aW (aN e) I.ok.above))).trans (I.base.keep b o e n hb hx)
 ·obtain⟨sl,e1⟩:=I.base.slot b o e n hb hx;exact⟨sl,(hs.2 b (bj (aW (aN e) I.ok.above))).trans e1⟩
 ·obtain⟨o',e1⟩:=I.base.there b o e hx;exact⟨o',(hs.2 b (bj (aW (aN e) I.ok.above))).trans e1⟩
 ·by_cases hj:i=j
  ·subst hj;rw [eW pO] at e2;cases e2
  ·rw [dD (eE hj)] at e2;obtain⟨u',r',q⟩:=hl i y v' e1 e2 e3;refine⟨u',r',?_⟩;rcases q with⟨k,e⟩|⟨k,c,e,z⟩
   ·refine .inl ⟨k,?_⟩;have:y≠x:=fun e=>hj (a2e hN e1 (e ▸ hi))
    simp [this,e]
   ·exact .inr ⟨k,c,e,z.sameBut hs (cne y c e)⟩
 ·obtain⟨w',z⟩:=I.cell y c e;exact⟨w',z.sameBut hs (cne y c e)⟩
 ·obtain⟨e,n,ne,nf,d⟩:=I.pin p hp;exact⟨(hs.2 p.1 ne).trans e,n,ne,nf,d⟩
abbrev Cx.hand(X:Cx)(a:av)(E:ai->ak->Prop):Cx:={X with A:=X.A.mark (some (.ref a)),calm:=false,xe:=E}
theorem Inv.hand(I:Inv X pins σ H s)(a:av)(E:ai->ak->Prop):Inv (Cx.hand X a E) pins σ H s:=
 let ok:=I.ok
 ⟨⟨ok.mod,ok.kind,ok.glob,ok.blt,ok.above,ok.inj,ok.has,ok.cab,fun z=>(nomatch z),ok.frames,ok.stk,ok.exf,ok.bs,ok.bsz,ok.noex,ok.exfs,ok.funs,ok.frf,ok.tabs⟩,I.os,I.bare,I.base,I.loc,I.cell,I.free,I.freeC,I.pin,I.hok,I.len⟩
theorem Inv.unhand{X:Cx}(ok:X.Ok)(I:Inv (Cx.hand X a E) pins σ H s):Inv X pins σ H s:=
 ⟨ok,I.os,I.bare,I.base,I.loc,I.cell,I.free,I.freeC,I.pin,I.hok,I.len⟩
abbrev Cx.trial(X:Cx)(pn:List (av × eD))(E:ai->ak->Prop):Cx:={X with pn:=pn,xe:=E}
theorem Inv.trial(I:Inv X pins σ H s)(E:ai->ak->Prop):Inv (Cx.trial X (X.pn ++ pins) E) [] σ H s:=
 let ok:=I.ok
 ⟨⟨ok.mod,ok.kind,ok.glob,ok.blt,ok.above,ok.inj,ok.has,ok.cab,ok.hd,ok.frames,ok.stk,ok.exf,ok.bs,ok.bsz,ok.noex,ok.exfs,ok.funs,ok.frf,ok.tabs⟩,I.os,I.bare,I.base,I.loc,I.cell,I.free,I.freeC,fun p hp=>I.pin p (by simpa using hp),I.hok,I.len⟩
theorem Inv.untrial{X:Cx}(ok:X.Ok)(I:Inv (Cx.trial X (X.pn ++ pins) E) nW σ H s):Inv X pins σ H s:=
 ⟨ok,I.os,I.bare,I.base,I.loc,I.cell,I.free,I.freeC,fun p hp=>I.pin p (aq _ hp),I.hok,I.len⟩
section
variable {K:af}{M:List Md}{Z:List D}{σ:L2.St}{H P:Hp}{F:List av}
theorem StR.setExc(h:StR K M Z σ H P F)(hm:M[i]?=some m)(hv:SlotR K H F .exc (some v) d []):StR K (M.set i .exc) (Z.set i d) (σ.set i (some v)) H P F:=by
 obtain⟨G,h1,h2,h3⟩:=h.all;obtain⟨d0,o0,f,pre,post,e1,e2,e3,e4,e5⟩:=h1.at_ hm;rw [e4] at h2;exact⟨⟨pre ++ ([] ++ post),e5 H F .exc d (some v) [] (fun _ _=>rfl) (Same.refl _) hv,E7 h2,fun a ha=>h3 a (by rw [e4];exact mem_mid ha)⟩,h.lst,h.prot⟩
end
def b2I(L:List bc)(i j:Nat)(g:EvS)(r:EvR):EvS:=fun Z=>match r Z with
 | some n=>if L.contains n then some (.nx ((Z.set j .none).set i (.str n))) else none
 | none=>(g Z).bind fun o=>match o with
  | .nx Z'=>(match Z'.getD i (.bool true) with|.none=>some (.nx Z')|_=>none)
  | _=>none
def a2J(K:af)(C0:av)(n:bc):Bool:=match bH K aV n with
 | some (some (.ref C))=>PySem.W.exmOne K (.ref C) (.ref C0) == some true
 | _=>false
end VS
namespace VS
open PySem PySem.Spec L2 PyProof.Rows
theorem a2K{s s':ak}(I:Inv X pins σ H s)(ho:s'.os=s.os)(hb:i_ s'.gens)(x:Fly X.prog X.w X.stack H s a C t H' B h6) :
  Inv X pins σ (upd H' a (ExcAt a C)) {s' with heap:=h6}:=by
 have nt:∀c u,H' c=some u->c≠a:=fun c u q z=>by rw [z,x.na] at q;cases q
 refine I.call' (s':={s' with heap:=h6}) ho ⟨x.un.keep,x.un.slot,fun b o q n hx=>?_,x.un.there,fun b xs q=>?_,fun b o u q=>?_,fun b ps q=>?_⟩ (fun b u q=>?_) hb fun b z=>(nomatch z)
 ·rw [c9 (fun z=>by rw [z,x.new] at q;cases q)];exact x.un.free b o q n hx
 ·have q':=x.un.tups b xs q;rw [c9 (nt b _ q')];exact q'
 ·have q':=x.un.frzs b o u q;rw [c9 (nt b _ q')];exact q'
 ·obtain⟨mm,q'⟩:=x.un.tbls b ps q;exact⟨mm,by rw [c9 (nt b _ q')];exact q'⟩
 ·by_cases qJ:b=a
  ·subst qJ;rw [i0] at q;cases q
   obtain⟨ob,h1,h2⟩:=x.fl.there;exact⟨⟨ob,h1,h2⟩,⟨ob,h1⟩,fun h1 h2 ⟨o,e1,e2⟩ k=>⟨o,k o e1,e2⟩⟩
  ·rw [c9 qJ] at q;exact (x.hok b u q).stay (fun _ _ _ z=>z) (fun c z=>by rw [c9 (nt c _ z)];exact z) fun c xs z=>by rw [c9 (nt c _ z)];exact z
theorem b7Q{X:Cx}{L:List bc}{np px py apos lW pos:ek}(i j:Nat)
  (jS:X.stack=X.env :: X.outer) (mD:X.env.frame=some X.env.locals) (hN:X.N.Nodup) (pP:i≠j)
  (hb:PSsX X.nox u ML M body g M) (hr:∀pn E W,Tk (Cx.trial X pn E) W->a7M (Cx.trial X pn E) W M body r)
  (vn:bH X.K aV x0=some (some (.ref C0))) (hL:L.all (a2J X.K C0)=true)
  (hi:X.N[i]?=some cn:=by rfl) (hj:X.N[j]?=some en:=by rfl) (vA:X.env.scope.names.lookup cn=some .local:=by rfl) (vz:X.env.scope.names.lookup en=some .local:=by rfl)
  (sF:M[i]?=some (.own .i):=by rfl) (yU:M[j]?=some mj:=by rfl)
  (hg:Gl X x0:=by rfl) (hd:(x0 == ("__debug__":bc))=false:=by decide) (uD:(en == ("__debug__":bc))=false:=by decide) (gJ:(en == ("__classdict__":bc))=false:=by decide)
  (hs:wc [.Name cn px] (.Name en py) apos.line X.env=pure false:=by rfl) (hw:we [.Name cn px] (.Name en py) X.env=pure none:=by rfl) (h1:(iK [.Name cn px] X.env).map (·.2)=[kg (.Name cn px) X.env]:=by rfl) :
  PSX X u ML M (.Try body [.ExceptHandler (some (.Name x0 np)) (some en) [.Assign [.Name cn px] (.Name en py) apos] lW] [] [] pos) (b2I L i j g r) ((M.set j .dead).set i .exc):=by
 intro pins s σ H D I ⟨Z,P,F,o,S,oq,k⟩;refine wpAny_Try_except ?_;unfold b2I at oq;cases wO:r Z with
 | none=>
  rw [wO] at oq;obtain⟨o1,h2,h3⟩:=bnd oq;cases o1 with
  | nx Z'=>
   have qO:(match Z'.getD i (.bool true) with|.none=>some (Out.nx Z')|_=>none)=some o:=h3
   split at qO
   ·next oQ=>
    cases qO
    have run:=hb pins s σ H {nx:=fun σ' H'=>∃F',StR X.K M Z' σ' H' P F',rt:=fun _ _=>False} (I.wish _) ⟨Z,P,F,.nx Z',S,h2,fun σ' H' F' S'=>⟨F',S'⟩⟩;refine cC run (fun f s1 h=>?_) fun _ _ z=>z.elim
    cases f with
    | next=>
     obtain⟨σ',H',I',F',S'⟩:=h;refine ja ⟨σ',H',I'.unwish,?_⟩;have S2:=S'.dead yU;have pN:(M.set j .dead)[i]?=some (.own .i):=by rw [dD (eE pP)];exact sF
     obtain⟨v,f,e1,o1,_⟩:=S2.toE.get pN;have hZ:Z'[i]?=some .none:=by
      rw [aX] at oQ;cases q:Z'[i]? with
      | none=>rw [q] at oQ;cases oQ
      | some d=>rw [q] at oQ;exact dC some oQ
     rw [y9 hZ] at o1;have o2:Own X.K H' F' .i v .none f:=o1;have hv:v=.non:=((a1n o2).2.2).none_inv;subst hv;have S3:=S2.setExc pN (v:=.non) (d:=.none) ⟨rfl,.non,rfl,.inl ⟨rfl,rfl⟩⟩;rw [set_same hZ,set_same e1] at S3;exact k σ' H' F' S3
    | brk=>obtain⟨_,_,_,z⟩:=h;exact z.elim
    | cont=>obtain⟨_,_,_,z⟩:=h;exact z.elim
    | ret w=>obtain⟨_,_,_,_,_,z⟩:=h;exact z.elim
   ·cases qO
  | rt d=>cases h3
  | bk Z'=>cases h3
  | ct Z'=>cases h3
 | some n=>
  rw [wO] at oq;have pQ:(if L.contains n=true then some (Out.nx ((Z.set j .none).set i (.str n))) else none)=some o:=oq;by_cases hc:L.contains n=true
  ·rw [aE hc] at pQ;cases pQ
   have jk:n∈L:=by simpa using hc
   have hex:∃C,bH X.K aV n=some (some (.ref C))/\PySem.W.exmOne X.K (.ref C) (.ref C0)=some true:=by
    have:=bP.mp hL n jk;unfold a2J at this
    split at this
    ·next C hC=>exact⟨C,hC,fM.mp this⟩
    ·cases this
   let E1:ai->ak->Prop:=fun e s1=>∃(σ1:L2.St) (H1:Hp) (s0:ak) (C a t:av) (H2:Hp) (B:bL) (F1:List av),e=.ref a/\Inv X pins σ1 H1 s0/\bH X.K aV n=some (some (.ref C))/\s1.os=s0.os/\i_ s1.gens/\Fly X.prog X.w X.stack H1 s0 a C t H2 B s1.heap/\Same H1 H2/\StR X.K M Z σ1 H1 P F1
   have tk:Tk (Cx.trial X (X.pn ++ pins) E1) (fun n' σ1 H1=>n'=n/\∃F1,StR X.K M Z σ1 H1 P F1):=fun nW σ1 H1 s0 n' C a t H2 B s1 I0 hn vw qJ x e ⟨Bt,F1,S1⟩=>by
    subst Bt;exact⟨σ1,H1,s0,C,a,t,H2,B,F1,rfl,Inv.untrial I.ok I0,hn,vw,qJ,x,e,S1⟩
   have run:=hr (X.pn ++ pins) E1 _ tk [] s σ H {nx:=fun _ _=>False,rt:=fun _ _=>False} (Inv.trial I E1) ⟨Z,P,F,n,S,wO,fun σ' H' F' S'=>⟨rfl,F',S'⟩⟩;refine cC run (fun f s1 h=>?_) fun e s1 h=>?_
   ·cases f with
    | next=>obtain⟨_,_,_,z⟩:=h;exact z.elim
    | brk=>obtain⟨_,_,_,z⟩:=h;exact z.elim
    | cont=>obtain⟨_,_,_,z⟩:=h;exact z.elim
    | ret w=>obtain⟨_,_,_,_,_,z⟩:=h;exact z.elim
   obtain⟨σ1,H1,s0,C,a,t,H2,B,F1,rfl,I0,hn,vw,qJ,x,zI,S1⟩:=h;obtain⟨C',zv,xA⟩:=hex;rw [hn] at zv;cases zv
   have fr:=I0.ok.frames;rw [jS] at fr;have x':=x;rw [jS] at x';refine wpAny_looks_onW fr mD x'.fl fun h4 held Af=>?_
   refine wpAny_landsW held fun h5 xY Ae=>?_
   have xX:jw B X.stack a (.ref C) (.ref t) h5:=by rw [jS];exact xY
   have x5:=x.step xX (Af.trans Ae);have I5:=a2K (s':=s1) I0 vw qJ x5;have Dt:Inv (Cx.hand X a (notedBy (aU X.prog X.w) (X.A.mark (some (.ref a))) X.env (cameBackBy (aU X.prog X.w) X.A X.env X.xe))) pins σ1 (upd H2 a (ExcAt a C)) {s1 with heap:=h5}:=Inv.hand I5 a _;have yV:X.mg x0=some (.ref C0):=fw I.mod.kin I.mod.glob vn;obtain⟨ob,Bm,wZ⟩:=xY.there;refine wpAny_handleBy_cons (codeAny_handlers_test (V0 Dt hg yV ?_ hd)) (by intro q;cases q);have LT:PySem.W.Looks (aU X.prog X.w) h5 (typeOf (.ref a)) (.ref C):=wZ ▸ (Dk Bm).andThen .now;refine (PySem.W.exm_one I5.kIn LT xA).here ?_;refine codeAny_handlers_suite_as ?_;refine lands_againW xY fun h6 CL Ad=>?_
   have xW:jw B X.stack a (.ref C) (.ref t) h6:=by rw [jS];exact CL
   have x6:=x5.step xW Ad;have I6:=a2K (s':=s1) I0 vw qJ x6;refine a0i I6 hN hj (.inl vz) (v:=.ref a) (u:=.ref a) rfl (fun s7 I7=>?_) (.inr vz);have wj:=a8r (X:=Cx.hand X a fun _ _=>False) (b1d (C8 (i:=j) hj (.inl vz) uD gJ) (B7 (i:=i) hN hi (.inl vA) (.inr vA)) hs hw h1) pins s7 (σ1.set j (some (.ref a))) (upd H2 a (ExcAt a C))
    {nx:=fun σ' H'=>σ'=(σ1.set j (some (.ref a))).set i (some (.ref a))/\H'=upd H2 a (ExcAt a C),rt:=fun _ _=>False} (Inv.hand I7 a _) ⟨.ref a,by
     rw [eW];rw [I0.len];exact (aY.mp hj).1,rfl,rfl⟩
   refine cC wj (fun f s8 h=>?_) fun _ _ z=>z.elim
   cases f with
   | next=>
    obtain⟨σ8,H8,I8,e8,e9⟩:=h;subst e8 e9;have zT:=Inv.unhand I0.ok I8;obtain⟨m,nr,BB⟩:=id zT.loc;have rJ:(X.env.scope.kind == .class || (X.env.scope.kind == .module && X.env.locals != X.env.globals))=false:=by rw [I0.ok.kind];rfl
    refine wpAny_nameGoes_keeps vz nr rJ fun h9 v AB sb=>?_
    have Cc:((σ1.set j (some (V.ref a))).set i (some (V.ref a))).set j none=(σ1.set j none).set i (some (V.ref a)):=by
     rw [List.set_comm _ _ pP,List.set_set]
    refine⟨_,_,Inv.unbound zT hN hj nr BB AB sb,?_⟩;rw [Cc];have eu:Same H2 (upd H2 a (ExcAt a C)):=fun b o q=>by
     rw [c9 (fun z=>by rw [z,x.na] at q;cases q)];exact q
    have nF:a∉F1:=fun z=>by
     obtain⟨ys,q⟩:=S1.lst a z;have:=zI _ _ q;rw [x.na] at this;cases this
    have S3:=(S1.grow (zI.trans eu)).kill yU .none none;have pN:(M.set j .dead)[i]?=some (.own .i):=by rw [dD (eE pP)];exact sF
    exact k _ _ _ (S3.setExc pN (v:=.ref a) (d:=.str n) ⟨rfl,.ref a,rfl,.inr ⟨a,C,n,rfl,rfl,i7 nF i0,hn⟩⟩)
   | brk=>obtain⟨_,_,_,z⟩:=h;exact z.elim
   | cont=>obtain⟨_,_,_,z⟩:=h;exact z.elim
   | ret w=>obtain⟨_,_,_,_,_,z⟩:=h;exact z.elim
  ·rw [aO hc] at pQ;cases pQ
end VS
namespace PySem.W
open PySem PySem.Spec PySem.Calls PyProof.Rows Builtin Builtin.ObjectAttr Builtin.Getset_descriptor
section
variable {prog:bh}{w:bE}{A:bx}{E:ai->ak->Prop}{s:ak}{K:Frag}{a C:av}{o:eD}
theorem U2{h:bL}(hx:h.get? a=some o)(hc:o.cls=.ref C):Looks M h (typeOf (.ref a)) (.ref C):=hc ▸ (Looks.ld hx).andThen .now
theorem a3D(X:K.In s.heap)(hx:s.heap.get? a=some o)(hc:o.cls=.ref C)(hm:mroIn K C (.type "object")=some true)
  (h:R (.ok (.ret (.ref C))) s):ir (aU prog w) A (.call (.builtin "getset_descriptor.__get__") ⟨[.builtin "object.__class__",.ref a,tp],[]⟩) R s:=by
 obtain⟨hh,g,dr,t,os⟩:=s;have L0:=U2 (M:=aU prog w) hx hc;have L1:=looks_mroIn (M:=aU prog w) X hm;refine ma KF.slot_gs.plain KF.entry_gs (KF.slot_gs.check _ _ _ _ _ _ _ _ KF.type_class (KF.args_gs _ _ _) ?_);unfold Builtin.«getset_descriptor.__get__» descrGet;rw [dga_obj];refine ae (ag ?_);unfold descrGetter descrCheckInstance descrNameAndClass tM;simp only [KF.owner_class]
 repeat lk
 refine⟨Code.quiet_builtin _ (by decide +kernel),dw KF.entry_class ?_⟩;unfold Builtin.«object.__class__» shownTypeOf
 repeat lk
 exact h
theorem b0A(X:K.In s.heap)(hx:s.heap.get? a=some o)(hc:o.cls=.ref C)(hb:subIn K (.ref C) (.type "BaseException")=some true)(hq:Q () s) :
  aM M A (pX "BaseException.__getattribute__" ⟨[.ref a,tH],[]⟩) Q E s:=by
 obtain⟨hh,g,dr,t,os⟩:=s;have L0:=U2 (M:=M) hx hc;have L1:=looks_subIn (M:=M) X hb;have hk:builtinKind "BaseException.__getattribute__"=some .slot:=by decide +kernel
 have ji:splitId "BaseException.__getattribute__"=some ("BaseException","__getattribute__"):=by decide +kernel
 have ha:=F.args_bexc_ga (.ref a) tH;simp only [pX,hk,ji];refine ae ?_;unfold tM;refine ae (L0.at ?_);refine L1.at ?_
 repeat (any_goals (first|assumption|wp_step))
theorem b0B(X:K.In s.heap)(hx:s.heap.get? a=some o)(hc:o.cls=.ref C)(ha:findIn K (.ref C) "__class__"=some (some (.builtin "object.__class__")))
  (hm:mroIn K C (.type "object")=some true) (hq:Q (.done (.ret (.ref C))) s) :
  aM (aU prog w) A (Builtin.«object.__getattribute__» ⟨[.ref a,.str "__class__" tk],[]⟩) Q E s:=by
 obtain⟨hh,g,dr,t,os⟩:=s;have L0:=U2 (M:=aU prog w) hx hc;have L1:=looks_findIn (M:=aU prog w) X ha;have Ea:(⟨hh,g,dr,t,os⟩:ak).TypeIs (.builtin "object.__class__") "getset_descriptor":=Eu;have f5:=Eu;have f6:=F.slot_gs_get.lookup;have f7:=F.slot_gs_set.lookup
 repeat (any_goals (first|assumption|(with_reducible refine wpAny_loadPart_at hx ?_;rw [hc])|with_reducible refine Looks.at L1 ?_|wp_step))
 refine a3D X hx hc hm ?_
 repeat (any_goals (first|assumption|wp_step))
theorem a2L(X:K.In s.heap)(hx:s.heap.get? a=some o)(hc:o.cls=.ref C)(xu:findIn K (.ref C) "__getattribute__"=some (some (.builtin "BaseException.__getattribute__")))
  (xr:findIn K (.ref C) "__getattr__"=some none) (ha:findIn K (.ref C) "__class__"=some (some (.builtin "object.__class__"))) (hm:mroIn K C (.type "object")=some true) (hb:subIn K (.ref C) (.type "BaseException")=some true)
  (h:Q (some (.ref C)) {s with toks:=s.toks + 1}):aM (aU prog w) A (getAttr? (.ref a) "__class__") Q E s:=by
 obtain⟨hh,g,dr,t,os⟩:=s;have L0:=U2 (M:=aU prog w) hx hc;have L1:=looks_findIn (M:=aU prog w) X xu;have L2:=looks_findIn (M:=aU prog w) X xr;have f3:=qS.ga.bind (.ref a);unfold getAttr? getAttrBy? getAttrBy;refine ae (wpAny_mkText (ae (fR (bI (ae (L0.at (ae (L1.at ?_))))))));show aM _ _ (getAttrByItsOwn _ _ _ _ _ _) _ _ _;unfold getAttrByItsOwn hookBefore;refine ae (L2.at (ae (fR (bI ?_))));show aM _ _ (boundAndCalled _ _ _) _ _ _;unfold boundAndCalled;rw [f3];refine ae (ag ?_);refine kM (ma qS.ga.plain F.entry_bexc_ga (b0A X hx hc hb (b0B X hx hc ha hm ?_)));exact handed_on rfl (ag h)
theorem kitx_exc(mW:(clsIn K C).isSome=true)(xu:findIn K (.ref C) "__getattribute__"=some (some (.builtin "BaseException.__getattribute__")))
  (xr:findIn K (.ref C) "__getattr__"=some none) (ha:findIn K (.ref C) "__class__"=some (some (.builtin "object.__class__"))) (hm:mroIn K C (.type "object")=some true) (hb:subIn K (.ref C) (.type "BaseException")=some true) :
  KitX K (.ref a) (.ref C) (fun h=>∃o,h.get? a=some o/\o.cls=.ref C) where
 ty:=fun _ _ _ ⟨_,h1,h2⟩=>U2 h1 h2
 it:=fun _ _ X _=>by
  obtain⟨Df,rK⟩:=dz.mp mW;unfold clsIn at rK
  split at rK
  ·rename_i c' d' Dg sk ho
   intro A' Q' E' s' k q;unfold isType loadHead;exact ae (wpAny_loadPart (k _ _ (X _ _ ho)) (ag q))
  ·cases rK
 ne:=fun h tp dd bU n sl X AZ=>by
  obtain⟨Df,rK⟩:=dz.mp mW;refine Bool.eq_false_iff.mpr fun q=>?_
  have e:C=tp:=be.inj (fM.mp q);subst e;unfold clsIn at rK
  split at rK
  ·rename_i c' d' Dg sk ho
   have z:=(X _ _ ho).symm.trans AZ;cases z
  ·cases rK
 ca:=fun X ⟨_,h1,h2⟩ k=>a2L X h1 h2 xu xr ha hm hb k
end
end PySem.W
namespace VS
open PySem PySem.Spec L2 PyProof.Rows
def b4S(K:af)(n:bc):Bool:=match bH K aV n with
 | some (some (.ref C))=>(PySem.W.clsIn K C).isSome && eL K (.ref C) "__getattribute__" == some (some (.builtin "BaseException.__getattribute__")) && eL K (.ref C) "__getattr__" == some none
   && eL K (.ref C) "__class__" == some (some (.builtin "object.__class__")) && PySem.W.mroIn K C (.type "object") == some true && PySem.W.subIn K (.ref C) (.type "BaseException") == some true
 | _=>false
def b7R(K:af)(c:ai)(f:bc->Bool)(n:bc):Bool:=match bH K aV n with
 | some (some (.ref C))=>cN K (.ref C) c == some (f n)
 | _=>false
def b4T(L:List bc)(i:Nat)(f:bc->Bool):EvE:=fun Z=>match Z.getD i (.bool true) with
 | .none=>some (.bool false)
 | .str n=>if L.contains n then some (.bool (f n)) else none
 | _=>none
end VS
namespace VS
open PySem PySem.Spec L2 PyProof.Rows
theorem StE.getExc{K:af}{M:List Md}{Z:List D}{σ:L2.St}{H P:Hp}{F:List av}{i:Nat}(h:StE K M Z σ H P F)(hm:M[i]?=some .exc) :
  ∃v,σ[i]?=some (some v)/\((v=.non/\Z.getD i (.bool true)=.none)∨∃a C n,v=.ref a/\Z.getD i (.bool true)=.str n/\H a=some (ExcAt a C)/\bH K aV n=some (some (.ref C))):=by
 obtain⟨G,h1,h3⟩:=h.all;obtain⟨d,o,f,pre,post,e1,e2,⟨_,v,rfl,q⟩,e4,_⟩:=h1.at_ hm;refine⟨v,e2,?_⟩;rw [y9 e1];exact q.imp (fun z=>z) fun⟨a,C,n,z1,z2,z3,z4⟩=>⟨a,C,n,z1,z2,i4 _ _ z3,z4⟩
structure ExcN (K:af) (c:ai) (L:List bc) (f:bc->Bool):Prop where
 ok:L.all (fun n=>b4S K n && b7R K c f n)=true
 non:cN K (.type "NoneType") c=some false
def c1t(K:af)(L:List bc)(f:bc->Bool)(cv:V):List V->Hp->VK->Prop:=fun vs H Q=>∃x b,vs=[x,cv]/\((x=.non/\b=false)∨∃a C n,x=.ref a/\H a=some (ExcAt a C)/\bH K aV n=some (some (.ref C))/\n∈L/\b=f n)/\Q (.bl b) H
theorem b2J{X:Cx}(uF:∀u,RelV cv u->u=c)(hN:ExcN X.K c L f):CallR X (.builtin "isinstance") (c1t X.K L f cv):=by
 intro pins s σ H xs us Q I r ⟨x,b,e,hx,q⟩;subst e;cases r with
 | cons r1 r2=>
  cases r2 with
  | cons r2 r3=>
   cases r3
   cases uF _ r2
   rcases hx with⟨rfl,rfl⟩|⟨a,C,n,rfl,ha,hn,hm,rfl⟩
   ·exact a3G I r1 .non hN.non fun tk=>⟨.bl false,H,I.tok tk,rfl,q⟩
   ·have k:=bP.mp hN.ok n hm;rw [az] at k;have k1:=k.1;have k2:=k.2;unfold b4S at k1;unfold b7R at k2;rw [hn] at k1 k2;simp only [az,fM] at k1 k2;obtain⟨⟨⟨⟨⟨y1,y2⟩,y3⟩,y4⟩,y5⟩,y6⟩:=k1;cases (show _=be a from r1)
    exact bX (PySem.W.kitx_exc y1 y2 y3 y4 y5 y6) I.kIn (I.hok a _ ha).1 k2 (fun z=>nomatch z) fun tk=>⟨.bl (f n),H,I.tok tk,rfl,q⟩
section
variable {X:Cx}{M:List Md}{L:List bc}{f:bc->Bool}{x y:bc}{px py p pos:ek}
theorem a7N(i:Nat){cv:V}{c:ai}(uF:∀u,RelV cv u->u=c)(hN:ExcN X.K c L f)(hm:X.mg "isinstance"=none)(hc:PE X (.Name y py) (tC cv))
  (xN:X.N[i]?=some x) (hv:Vis X.env.scope x) (sF:M[i]?=some .exc) (hd:(x == ("__debug__":bc))=false) (gJ:(x == ("__classdict__":bc))=false)
  (hg:Gl X "isinstance") (he:au [.Name x px,.Name y py] X.env=(false,bW (.Name x px) X.env) :: au [.Name y py] X.env) (lj:au [.Name y py] X.env=(false,bW (.Name y py) X.env) :: au [] X.env) (fD:(b_ pos (au [.Name y py] X.env)).any (·.1)=false) :
  PX X M (.Call (.Name "isinstance" p) [.Name x px,.Name y py] [] pos) (b4T L i f) (.new .i):=by
 refine .mk ⟨_,T0 (b2J uF hN) hg hm PyProof.Rows.Boot.«isinstance» (k9 (C8 xN hv hd gJ) (k9 hc o7 lj) he) (by decide) (by decide) he fD,fun Z σ H P F d Q S kJ q=>?_⟩;obtain⟨v,e,hx⟩:=S.getExc sF;have fin:∀b,d=.bool b->Q (.bl b) H:=fun b hb=>by
  subst hb;exact q _ H (Same.refl H) (K7 (by simp only [imm]) den_bool (S.lst' (Same.refl H)))
 unfold b4T at kJ;rcases hx with⟨rfl,hZ⟩|⟨a,C,n,rfl,hZ,ha,hn⟩
 ·rw [hZ] at kJ;cases kJ
  exact⟨.non,e,⟨.non,false,rfl,.inl ⟨rfl,rfl⟩,fin false rfl⟩⟩
 ·rw [hZ] at kJ;by_cases hl:L.contains n=true
  ·have ux:(if L.contains n=true then some (cm (f n)) else none)=some d:=kJ;rw [aE hl] at ux;cases ux
   exact⟨.ref a,e,⟨.ref a,f n,rfl,.inr ⟨a,C,n,rfl,ha,hn,by simpa using hl,rfl⟩,fin _ rfl⟩⟩
  ·have ux:(if L.contains n=true then some (cm (f n)) else none)=some d:=kJ;rw [aO hl] at ux;cases ux
theorem b7S(i:Nat)(hN:ExcN X.K (.ref C) L f)(hm:X.mg "isinstance"=none)(hy:X.mg y=some (.ref C))(sF:M[i]?=some .exc:=by rfl)
  (xN:X.N[i]?=some x:=by rfl) (hv:Vis X.env.scope x:=by first|exact cf rfl|exact bR (cf rfl)|exact bR (bR rfl)) (hd:(x == ("__debug__":bc))=false:=by decide) (gJ:(x == ("__classdict__":bc))=false:=by decide)
  (hg:Gl X "isinstance":=by rfl) (xq:Gl X y:=by rfl) (xD:(y == ("__debug__":bc))=false:=by decide)
  (he:au [.Name x px,.Name y py] X.env=(false,bW (.Name x px) X.env) :: au [.Name y py] X.env:=by rfl) (lj:au [.Name y py] X.env=(false,bW (.Name y py) X.env) :: au [] X.env:=by rfl) (fD:(b_ pos (au [.Name y py] X.env)).any (·.1)=false:=by rfl) :
  PX X M (.Call (.Name "isinstance" p) [.Name x px,.Name y py] [] pos) (b4T L i f) (.new .i):=
 a7N i (cv:=.ref C) (fun u r=>r) hN hm (a8q xq hy rfl xD) xN hv sF hd gJ hg he lj fD
end
end VS
namespace VS
open PySem PySem.Spec L2 PyProof.Rows
def c1u(K:af)(cs:List av)(f:bc->Bool)(n:bc):Bool:=match bH K aV n with
 | some (some (.ref C))=>PySem.W.kitAny K (.ref C) (cs.map be) == some (f n)
 | _=>false
structure ExcT (K:af) (cs:List av) (L:List bc) (f:bc->Bool):Prop where
 ok:L.all (fun n=>b4S K n && c1u K cs f n)=true
 non:PySem.W.kitAny K (.type "NoneType") (cs.map be)=some false
end VS
namespace L2
open PySem
theorem Has.u(h:Has P w K mg base x i ps sp)(l:i<=j:=by decide):Has P w K mg base x j ps sp:=h.up l
end L2
namespace VS
open PySem PySem.Spec PyProof.Rows L2
structure DP (K:af) (mg:bc->Option ai) (x:bc) (st:fT):Prop where
 ex:∃f fd,Fun K x x st f fd/\bH K aV x=some (some (.ref f))/\mg x=some (.ref f)
section
variable {P:bh}{w:bE}{K:af}{mg:bc->Option ai}{base h:bL}{x:bc}{st:fT}{N ps:List bc}{k n:Nat}{us:List Ty}{u wt:Ty}{g:EvS}{sp:Sp}
theorem c0c{f:av}{oc:ai}{od an:Option av}{mR:Array (Option ai)}{kV doc pm eQ ct:ai}(X:K.In h)(G:h.Ns aV mg)(a:bH K aV x=some (some (.ref f)))(l:K.lookup f=some ⟨oc,od,.func (eV x x (P9 st) (r9 st) (g8 st) .none kV doc pm an eQ ct),mR⟩)
  (c:kE K eQ x=true) (k:ee K (.ref f)=true):DP K mg x st:=⟨_,_,b6E l c k,a,fw X G a⟩
theorem c1v(X:K.In h)(G:h.Ns aV mg)(a:bH K aV x=some (some (.int i t))):∃t,mg x=some (.int i t):=⟨t,fw X G a⟩
abbrev BBy(x:bc)(st:fT)(ps:List bc):Prop:=∀(kV doc pm:ai) (an:Option av) (eQ ct:ai) (us:List ai),us.length=ps.length->me (eV x x (P9 st) (r9 st) (g8 st) .none kV doc pm an eQ ct) ⟨us,[]⟩=pure (ps.zip us)
theorem m3(d:DP K mg x st)(h:∀f fd,Fun K x x st f fd->FnOk P w K mg base CX0 k f fd ps sp)(b:BBy x st ps:=by intro _ _ _ _ _ _ us hl;first|(obtain⟨_,rfl⟩:=b4F hl;rfl)|(obtain⟨_,_,rfl⟩:=b2h hl;rfl)|(obtain⟨_,_,_,rfl⟩:=b7G hl;rfl)|(obtain⟨_,_,_,_,rfl⟩:=b9W hl;rfl)|(obtain⟨_,_,_,_,_,rfl⟩:=c1r hl;rfl)|(obtain⟨_,_,_,_,_,_,rfl⟩:=c1s hl;rfl)):Has P w K mg base x k ps sp:=by
 obtain⟨f,fd,F,a,m⟩:=d.ex;exact⟨f,fd,h f fd F,F.binds b,F.kp,m⟩
theorem a8U(d:DP K mg x st)(h:∀f fd,Fun K x x st f fd->bH K aV x=some (some (.ref f))->FnOk P w K mg base CX0 k f fd ps sp)(b:BBy x st ps:=by intro _ _ _ _ _ _ us hl;first|(obtain⟨_,rfl⟩:=b4F hl;rfl)|(obtain⟨_,_,rfl⟩:=b2h hl;rfl)|(obtain⟨_,_,_,rfl⟩:=b7G hl;rfl)):Has P w K mg base x k ps sp:=by
 obtain⟨f,fd,F,a,m⟩:=d.ex;exact⟨f,fd,h f fd F a,F.binds b,F.kp,m⟩
theorem fnF(F:Fun K x x st f fd)(N:List bc)(hb:∀(S:FnScope N ps (g8 st)) (eQ:ai) (A:bx) (outer:List lQ) (s:ak) (H:Hp) (E:XK),Room k (A.deeper (iE x (g8 st) s.heap.objs.size f eQ))->PSsX (S9 CX0 P w K mg base N x (g8 st) f eQ A outer s H E).nox u [] (us.map .own ++ aC n .dead) (r9 st) g [])
  (S:FnScope N ps (g8 st):=by exact⟨rfl,rfl,rfl,by decide +kernel,rfl,by decide +kernel,by decide +kernel⟩) (k_:us.length=ps.length:=by rfl) (hn:N.length=ps.length + n:=by rfl):FnOk P w K mg base CX0 (k + 1) f fd ps (spD K ps.length (fnD us n g) u):=b4m F S k_ hn (hb S)
theorem c0d(F:Fun K x x st f fd)(N:List bc)(M':List Md)(hb:∀(S:FnScope N ps (g8 st)) (eQ:ai) (A:bx) (outer:List lQ) (s:ak) (H:Hp) (E:XK),Room k (A.deeper (iE x (g8 st) s.heap.objs.size f eQ))->PSsX (S9 CX0 P w K mg base N x (g8 st) f eQ A outer s H E).nox .i [] (us.map .own ++ aC n .dead) (r9 st) g M')
  (S:FnScope N ps (g8 st):=by exact⟨rfl,rfl,rfl,by decide +kernel,rfl,by decide +kernel,by decide +kernel⟩) (k_:us.length=ps.length:=by rfl) (hn:N.length=ps.length + n:=by rfl):FnOk P w K mg base CX0 (k + 1) f fd ps (spD K ps.length (fnN us n g) .i):=b1P F S k_ hn (hb S)
theorem b7T{Φ:(List D->Option D)->Hp->V->Prop}{g:(List D->Option D)->EvS}(F:Fun K x x st f fd)(N:List bc)(hb:∀(S:FnScope N ps (g8 st)) (gm:List D->Option D) (eQ:ai) (A:bx) (outer:List lQ) (s:ak) (H:Hp) (E:XK),Room k (A.deeper (iE x (g8 st) s.heap.objs.size f eQ))->PSsX (S9 CX0 P w K mg base N x (g8 st) f eQ A outer s H E).nox u [] (us.map .own ++ (.fn (Φ gm) :: aC n .dead)) (r9 st) (g gm) [])
  (S:FnScope N ps (g8 st):=by exact⟨rfl,rfl,rfl,by decide +kernel,rfl,by decide +kernel,by decide +kernel⟩) (k_:us.length + 1=ps.length:=by rfl) (hn:N.length=ps.length + n:=by rfl) (hj:j=us.length:=by rfl):FnOk P w K mg base CX0 (k + 1) f fd ps (spL K j Φ (fnL us n g) u):=hj ▸ b2n (M':=fun _=>[]) F S k_ hn (hb S)
theorem c0e(F:Fun K x x st f fd)(N:List bc)(lt:(x8 K x).isSome=true)(X:K.In base)(G:base.Ns aV mg)(a:bH K aV x=some (some (.ref f)))(hb:∀(S:FnScope N ps (g8 st)) (c:av) (p:av) (hc:fd.code=.ref c) (hp:x8 K x=some p) (hd:fQ base c p) (A:bx) (outer:List lQ) (s:ak) (H:Hp) (E:XK),Room k (A.deeper (iE x (g8 st) s.heap.objs.size f fd.code))->PSsX (S9 CX0 P w K mg base N x (g8 st) f fd.code A outer s H E).nox u [] (us.map .own ++ aC n .dead) (r9 st) g [])
  (S:FnScope N ps (g8 st):=by exact⟨rfl,rfl,rfl,by decide +kernel,rfl,by decide +kernel,by decide +kernel⟩) (k_:us.length=ps.length:=by rfl) (hn:N.length=ps.length + n:=by rfl):FnOk P w K mg base CX0 (k + 1) f fd ps (spD K ps.length (fnD us n g) u):=by
 obtain⟨oc,od,kV,doc,pm,an,eQ,ct,mR,e,lk,gJ⟩:=F.ex;obtain⟨c,p,h1,h2,h3⟩:=b2q lt X G a lk;exact b2p F S k_ hn (hb S c p h1 h2 h3)
theorem b7U(uw:mg x=some (.ref fa))(d:DP K mg x st)(h:∀base:bL,K.In base->base.Ns aV mg->∀fd,Fun K x x st fa fd->FnOk P w K mg base CX0 k fa fd [p] sp)(b:∀(kV doc pm:ai) (an:Option av) (eQ ct v:ai),me (eV x x (P9 st) (r9 st) (g8 st) .none kV doc pm an eQ ct) ⟨[v],[]⟩=pure [(p,v)]:=by intros;rfl) :
  ∃fd:cV,(∀(s:ak) (v:ai),mG s fd ⟨[v],[]⟩ [(p,v)])/\∀base:bL,K.In base->base.Ns aV mg->FnOk P w K mg base CX0 k fa fd [p] sp:=by
 obtain⟨f,fd,F,a,m⟩:=d.ex;rw [uw] at m;cases m
 refine⟨fd,fun s v=>?_,fun base X G=>h base X G fd F⟩;obtain⟨oc,od,kV,doc,pm,an,eQ,ct,mR,rfl,lk,gJ⟩:=F.ex;exact .of_eq (b kV doc pm an eQ ct v)
end
section
variable {X:Cx}{M:List Md}{e e0:Expr}{es:List Expr}{fe:EvE}{f:EvA}{c:Cat}{u:Ty}{pos p:ek}{x:bc}
abbrev mdF:Md:=.own .f
abbrev mdI:Md:=.own .i
abbrev mdL:Md:=.own (.l .i)
abbrev a7O:Md:=.own (.l (.l .i))
abbrev mdD:Md:=.dead
theorem b7(i:Nat)(hN:X.N[i]?=some x:=by rfl)(hv:Vis X.env.scope x:=by first|exact cf rfl|exact bR (cf rfl)|exact bR (bR rfl))(hd:(x == ("__debug__":bc))=false:=by decide)(gJ:(x == ("__classdict__":bc))=false:=by decide)(hm:M[i]?=some (.own .f):=by rfl):PX X M (.Name x pos) (a4 i) (.bor .f):=O2 i hN hv hd gJ hm
theorem b9(i:Nat)(hN:X.N[i]?=some x:=by rfl)(hv:Vis X.env.scope x:=by first|exact cf rfl|exact bR (cf rfl)|exact bR (bR rfl))(hd:(x == ("__debug__":bc))=false:=by decide)(gJ:(x == ("__classdict__":bc))=false:=by decide)(hm:M[i]?=some (.own .i):=by rfl):PX X M (.Name x pos) (a4 i) (.bor .i):=O2 i hN hv hd gJ hm
theorem m5(i:Nat)(hN:X.N[i]?=some x:=by rfl)(hv:Vis X.env.scope x:=by first|exact cf rfl|exact bR (cf rfl)|exact bR (bR rfl))(hd:(x == ("__debug__":bc))=false:=by decide)(gJ:(x == ("__classdict__":bc))=false:=by decide)(hm:M[i]?=some (.own (.l .i)):=by rfl):PX X M (.Name x pos) (a4 i) (.bor (.l .i)):=O2 i hN hv hd gJ hm
theorem C6(i:Nat)(hN:X.N.Nodup)(hi:X.N[i]?=some x:=by rfl)(hx:Loc X.env.scope x:=by first|exact cf rfl|exact bR rfl)(hf:X.fn x=true∨X.env.scope.names.lookup x=some .local:=by first|exact .inl rfl|exact .inr rfl|assumption):PG X (.Name x pos) (a0j i):=B7 hN hi hx hf
theorem m6(hm:X.mg "len"=none)(h:PX X M e fe c)(hg:Gl X "len":=by rfl)(he:au [e] X.env=(false,bW e X.env) :: au [] X.env:=by rfl)(fD:(b_ pos (au [] X.env)).any (·.1)=false:=by rfl):PX X M (.Call (.Name "len" p) [e] [] pos) (eCl o3 (a5 fe b8)) (.new .i):=a7i b6I hm PySem.boot_len (a6 h f9 he) hg (by decide) (by decide) he fD
theorem l7(W:Has X.prog X.w X.K X.mg X.base x k ps (spD X.K n m u))(hr:Room k X.A)(h:PAX X M (e0 :: es) f)(hu:u.shut=true:=by rfl)(hl:(e0 :: es).length=n:=by rfl)(hfl:∀Z ds,f Z=some ds->ds.length=(e0 :: es).length:=by first|exact j5 y8|exact j5 (j5 y8)|exact j5 (j5 (j5 y8))|exact j5 (j5 (j5 (j5 y8)))|exact j5 (j5 (j5 (j5 (j5 y8)))))
  (hg:Gl X x:=by rfl) (jM:(x == ("__debug__":bc))=false:=by decide) (he:au (e0 :: es) X.env=(false,bW e0 X.env) :: au es X.env:=by rfl) (fD:(b_ pos (au es X.env)).any (·.1)=false:=by rfl) :
  PX X M (.Call (.Name x p) (e0 :: es) [] pos) (eCl m f) (.new u):=b4h W hr h hu hl hfl hg jM he fD
theorem v7(hu:X.A.units + 64 < cH:=by exact Room.units (by assumption)):OpS X (bp .Eq) dEq:=os_eq hu
theorem Z3(hu:X.A.units + 64 < cH:=by exact Room.units (by assumption)):OpS X (bp .NotEq) dNe:=b9i hu
end
end VS
namespace VS
open PySem PySem.Spec PyProof.Rows L2
section
variable {P:bh}{w:bE}{K:af}{mg:bc->Option ai}{base h:bL}{x:bc}{st:fT}{N ps:List bc}{k n:Nat}{us:List Ty}{sp:Sp}
theorem HasR.u(h:HasR P w K mg base x i ps sp)(l:i<=j:=by decide):HasR P w K mg base x j ps sp:=h.up l
theorem c1w(a:bH K aV x=some (some (.ref C)))(b:p_ K C [.type "ValueError",.type "Exception",.type "BaseException",.type "object"] "ValueError.__new__"=true):∃C,b4R K x C:=⟨C,a,b⟩
theorem c1x{L:List bc}(a:bH K aV x=some (some (.ref C)))(b:L.all (a2J K C)=true):∃C,bH K aV x=some (some (.ref C))/\L.all (a2J K C)=true:=⟨C,a,b⟩
theorem c1y{L:List bc}(X:K.In h)(G:h.Ns aV mg)(a:bH K aV x=some (some (.ref C)))(b:L.all (fun n=>b4S K n && b7R K (.ref C) f n)=true)(c:cN K (.type "NoneType") (.ref C)=some false):∃C,mg x=some (.ref C)/\ExcN K (.ref C) L f:=⟨C,fw X G a,b,c⟩
theorem a8V(d:DP K mg x st)(h:∀f fd,Fun K x x st f fd->FnOk P w K mg base (CXR P w) k f fd ps sp)(b:BBy x st ps:=by intro _ _ _ _ _ _ us hl;first|(obtain⟨_,rfl⟩:=b4F hl;rfl)|(obtain⟨_,_,rfl⟩:=b2h hl;rfl)|(obtain⟨_,_,_,rfl⟩:=b7G hl;rfl)|(obtain⟨_,_,_,_,rfl⟩:=b9W hl;rfl)):HasR P w K mg base x k ps sp:=by
 obtain⟨f,fd,F,a,m⟩:=d.ex;exact⟨f,fd,h f fd F,F.binds b,F.kp,m⟩
theorem c0f(F:Fun K x x st f fd)(N:List bc)
  (hb:∀(S:FnScope N ps (g8 st)) (E:XK) (eQ:ai) (A:bx) (outer:List lQ) (s:ak) (H:Hp),let X:=S9 (CXR P w) P w K mg base N x (g8 st) f eQ A outer s H E;XeL X E->Room k X.A->a7M X (wE K E) (us.map .own ++ aC n .dead) (r9 st) r)
  (S:FnScope N ps (g8 st):=by exact⟨rfl,rfl,rfl,by decide +kernel,rfl,by decide +kernel,by decide +kernel⟩) (k_:us.length=ps.length:=by rfl) (hn:N.length=ps.length + n:=by rfl):FnOk P w K mg base (CXR P w) (k + 1) f fd ps (spR K ps.length (fnR us n r)):=by
 refine b2H F S k_ hn fun X E L hK hX hr=>?_
 obtain⟨eQ,A,outer,s,H,hX⟩:=hX;subst hX;exact hb S E eQ A outer s H L hr
end
end VS
namespace VS
open PySem L2
section
variable {a b c:EvE}{Z:List D}{d x y:D}
def chE(g':D->D->Option D):Option D->Option D->EvE->List D->Option D
 | some (.bool true),some y,c,Z=>l2 g' (some y) (c Z)
 | some (.bool false),some _,_,_=>some (.bool false)
 | _,_,_,_=>none
theorem c1z:eCh g g' a b c Z=chE g' (l2 g (a Z) (b Z)) (b Z) c Z:=by
 unfold eCh;cases a Z with
 | none=>rfl
 | some x=>
  cases b Z with
  | none=>rfl
  | some y=>
   show (g x y).bind _=chE g' (g x y) (some y) c Z;cases g x y with
   | none=>rfl
   | some z=>
    cases z with
    | bool k=>
     cases k with
     | false=>rfl
     | true=>cases h:c Z <;> simp [chE,asB,h,l2]
    | _=>rfl
theorem c0g:chE g' (some (.bool true)) (some y) c Z=l2 g' (some y) (c Z):=rfl
theorem c0h:chE g' (some (.bool false)) (some y) c Z=some (.bool false):=rfl
theorem c1A:(true == true)=true:=rfl
theorem c1B:(true == false)=false:=rfl
theorem c1C:(false == true)=false:=rfl
theorem c1D:(false == false)=true:=rfl
theorem c1E:(true != true)=false:=rfl
theorem c1F:(true != false)=true:=rfl
theorem c1G:(false != true)=true:=rfl
theorem c1H:(false != false)=false:=rfl
theorem trB:tr (.bool k)=some k:=rfl
theorem c0i:asB (.bool k)=some k:=rfl
theorem b2K:isN .none=true:=rfl
theorem b4U:isN (.int i)=false:=rfl
theorem b2L:isN (.bool i)=false:=rfl
theorem b2M:isN (.list ds)=false:=rfl
theorem b4V:isN (.tuple ds)=false:=rfl
theorem b7V:O9 k x .none=some (.bool (k != isN x)):=rfl
theorem b0C:isInt (.int i)=true:=rfl
theorem a7P:isInt (.bool i)=true:=rfl
theorem a7Q:isInt .none=false:=rfl
theorem a7R:isInt (.list ds)=false:=rfl
theorem b0D:isInt (.tuple ds)=false:=rfl
theorem b0E:isInt (.str s)=false:=rfl
theorem a7S:isInt (.dict s)=false:=rfl
theorem a7T:isBool (.int i)=false:=rfl
theorem a6m:isBool (.bool i)=true:=rfl
theorem a6n:isBool .none=false:=rfl
theorem a6o:isBool (.list ds)=false:=rfl
theorem a7U:isBool (.tuple ds)=false:=rfl
theorem a7V:isBool (.str s)=false:=rfl
theorem a6p:isBool (.dict s)=false:=rfl
theorem isList_list:isList (.list ds)=true:=rfl
theorem isList_int:isList (.int i)=false:=rfl
theorem a6q:isList .none=false:=rfl
theorem isList_bool:isList (.bool i)=false:=rfl
theorem a7W:isList (.tuple ds)=false:=rfl
theorem isList_str:isList (.str s)=false:=rfl
theorem isList_dict:isList (.dict s)=false:=rfl
theorem a6r:M8 (.tuple ds)=true:=rfl
theorem isTuple_list:M8 (.list ds)=false:=rfl
theorem isTuple_int:M8 (.int i)=false:=rfl
def lIs:Option D->Option D
 | some d=>b1y d
 | none=>none
theorem b2N:eI a Z=lIs (a Z):=by unfold eI;cases a Z <;> rfl
theorem a8W(h:e6 ds=true):lIs (some (.list ds))=some (.list ds):=by
 show (if e6 ds=true then some (dy ds) else none)=_;rw [aE h]
def b2O:Option D->Option D
 | some (.list ds)=>some (.list ds)
 | some (.tuple ds)=>some (.list ds)
 | _=>none
theorem a8X:a2p a Z=b2O (a Z):=by
 unfold a2p;cases a Z with
 | none=>rfl
 | some d=>cases d <;> rfl
theorem c0j:b2O (some (.list ds))=some (.list ds):=rfl
theorem c0k:b2O (some (.tuple ds))=some (.list ds):=rfl
def lL:Option D->Option (List D)
 | some d=>asL d
 | none=>none
theorem c0l:iL a Z=lL (a Z):=by unfold iL;cases a Z <;> rfl
theorem c0m:lL (some (.list ds))=some ds:=rfl
def lII:Option (List D)->Option (List D)
 | some ds=>if e6 ds then some ds else none
 | none=>none
theorem c0n:iI f Z=lII (f Z):=by unfold iI;cases f Z <;> rfl
theorem a0r(h:f Z=some ds)(hi:e6 ds=true):iI f Z=some ds:=by rw [c0n,h];show (if e6 ds=true then some ds else none)=_;rw [aE hi]
theorem Z4{ds:List D}(h:ds.length < 1000000):b1J i (.list ds) (some d) Z=some (.nx (Z.set i (.list (ds ++ [d])))):=b1K h
theorem b7W:t5 i Z d=some (Z.set i d):=rfl
theorem b7X:a4N i j Z (.tuple [x,y])=some ((Z.set i x).set j y):=rfl
theorem c0o:pt1 d=some [d]:=rfl
theorem c0p:pt2 (.tuple [x,y])=some [x,y]:=rfl
theorem c1I:tT Z=some true:=rfl
end
theorem z0(P:List D->Prop)(h1:∃Z,o=some (.nx Z)/\P Z)(h2:∀Z,P Z->a4Q (s Z)=R):a4Q (thn o s)=R:=by
 obtain⟨Z,rfl,h⟩:=h1;exact h2 Z h
theorem b2P(P:List D->Prop)(h1:∃Z,o=some (.nx Z)/\P Z)(h2:∀Z,P Z->s Z=R):thn o s=R:=by
 obtain⟨Z,rfl,h⟩:=h1;exact h2 Z h
theorem L7{R:Option D->Prop}(P:List D->Prop)(h1:∃Z,o=some (.nx Z)/\P Z)(h2:∀Z,P Z->R (a4Q (s Z))):R (a4Q (thn o s)):=by
 obtain⟨Z,rfl,h⟩:=h1;exact h2 Z h
theorem a6s(f:D->D):∀{ds:List D},(∀d∈ds,∃bs,pt d=some bs/\g (bs ++ cs)=some (f d))->M9 pt tT g cs ds=some (ds.map f)
 | [],_=>rfl
 | d :: ds,h=>by
  obtain⟨bs,h1,h2⟩:=h d ah;have ih:=a6s f (ds:=ds) fun e he=>h e (ao _ he)
  show (pt d).bind _=_;rw [h1];show (g (bs ++ cs)).bind _=_;rw [h2];show (M9 pt tT g cs ds).bind _=_;rw [ih];rfl
theorem b2Q{js:List Nat}{Z ds:List D}(f:D->D)(hf:fi Z=some ds)(hl:ds.length<=1000000)(h:∀d∈ds,∃bs,pt d=some bs/\g (bs ++ js.map fun j=>Z.getD j .none)=some (f d)) :
  t9 fi js pt tT g Z=some (.list (ds.map f)):=by
 unfold t9;rw [hf];show (if ds.length<=1000000 then _ else none)=_;rw [aE hl,a6s f h];rfl
theorem a8Y{js:List Nat}{Z:List D}(f:Nat->D)(ha:a Z=some (.int n))(h0:0<=n)(h1:n<=1000000)(h:∀k:Nat,(k:Int) < n->g (.int k :: js.map fun j=>Z.getD j .none)=some (f k)) :
  t9 (iR a) js pt1 tT g Z=some (.list ((aJ n.toNat).map f)):=by
 rw [b2Q (ds:=v6 0 n.toNat) (fun d=>match d with|.int i=>f i.toNat|_=>.none) (a2u ha h0 (by lia)) (by rw [a2v];lia)]
 ·unfold v6;rw [cP]
  congr 2;refine cF fun k _=>?_
  show f (0 + (k:Int)).toNat=f k
  congr 1;lia
 ·intro d hd;unfold v6 at hd;obtain⟨k,hk,rfl⟩:=aG.mp hd;have:=bo.mp hk;refine⟨_,rfl,?_⟩;have e:(0:Int) + (k:Int)=k:=by lia
  rw [e];exact h k (by lia)
theorem l5(f:α->D)(h:∀x,imm (f x)=true):∀xs:List α,e6 (xs.map f)=true
 | []=>by simp only [cA,e6]
 | x :: xs=>by simp only [aA,e6,h x,l5 f h xs,eA]
end VS
namespace VS
open PySem L2
mutual
theorem eqv_refl:∀d:D,d.canLay0=true->aI d d=true
 | .none,_=>by simp [aI]
 | .bool b,_=>by simp [aI]
 | .int i,_=>by simp [aI]
 | .str x,_=>by simp [aI]
 | .list xs,h=>by
  simp only [cS] at h;simp only [aI];exact eqvAll_refl xs h
 | .tuple xs,h=>by
  simp only [cS] at h;simp only [aI];exact eqvAll_refl xs h
 | .dict _,h=>by simp [cS] at h
theorem eqvAll_refl:∀xs:List D,bg xs=true->cq xs xs=true
 | [],_=>by simp only [cq]
 | x :: xs,h=>by
  simp only [bg,az] at h;simp only [cq,az];exact⟨eqv_refl x h.1,eqvAll_refl xs h.2⟩
end
theorem b5K{a b:D}(ha:a.canLay0=true)(hb:b.canLay0=true)(hd:a.depth<=60):dEq a b=some (.bool (aI a b)):=by
 unfold dEq a9J;rw [ha,hb,aL hd];simp
theorem b5L{a b:D}(ha:a.canLay0=true)(hb:b.canLay0=true)(hd:a.depth<=60):dNe a b=some (.bool (!aI a b)):=by
 unfold dNe a9J;rw [ha,hb,aL hd];simp
theorem c0q{a:D}(ha:a.canLay0=true)(hd:a.depth<=60):dEq a a=some (.bool true):=by rw [b5K ha ha hd,eqv_refl a ha]
theorem c0r{a:D}(ha:a.canLay0=true)(hd:a.depth<=60):dNe a a=some (.bool false):=by rw [b5L ha ha hd,eqv_refl a ha];rfl
theorem a0s(f:α->D)(h:∀x,(f x).canLay0=true):∀xs:List α,bg (xs.map f)=true
 | []=>by simp only [cA,bg]
 | x :: xs=>by simp only [aA,bg,h x,a0s f h xs,eA]
theorem K3(f:α->D)(n:Nat)(h:∀x,(f x).depth<=n):∀xs:List α,bQ (xs.map f)<=n
 | []=>by simp only [cA,bQ];exact dq _
 | x :: xs=>by
  simp only [aA,bQ];exact Nat.max_le.mpr ⟨h x,K3 f n h xs⟩
theorem b4W:(bt i).canLay0=true:=by simp only [cS]
theorem a4j:(bt i).depth=0:=by simp only [dI]
theorem lay_ints(ns:List Int):(dy (ns.map .int)).canLay0=true:=by
 simp only [cS];exact a0s _ (fun _=>b4W) ns
theorem Z5(ns:List Int):(dy (ns.map .int)).depth<=1:=by
 simp only [dI];have:=K3 bt 0 (fun x=>by rw [a4j];exact aF _) ns;lia
theorem U3:∀(xs ys:List Int),cq (xs.map bt) (ys.map bt)=decide (xs=ys)
 | [],[]=>by simp [cq]
 | [],_ :: _=>by simp [cq]
 | _ :: _,[]=>by simp [cq]
 | x :: xs,y :: ys=>by
  have:aI (.int x) (.int y)=decide (x=y):=by
   show (x == y)=decide (x=y);exact hU x y
  simp only [aA,cq,this,U3 xs ys,nH];by_cases h1:x=y <;> by_cases h2:xs=ys <;> simp [h1,h2]
theorem b2R{xs ys:List Int}:dEq (.list (xs.map .int)) (.list (ys.map .int))=some (.bool (decide (xs=ys))):=by
 rw [b5K (lay_ints _) (lay_ints _) (cI (Z5 _) (by decide))];simp only [aI,U3]
def b7Y:Option D->Option D->Option D
 | some (.list ds),some (.list es)=>if ds.length + es.length<=aS then some (.list (ds ++ es)) else none
 | _,_=>none
theorem a6t{Z:List D}:q9 a b Z=b7Y (a Z) (b Z):=by
 unfold q9;cases a Z with
 | none=>rfl
 | some x=>
  cases x with
  | list ds=>
   cases b Z with
   | none=>rfl
   | some y=>cases y <;> rfl
  | _=>cases b Z <;> rfl
theorem a7X{ds es:List D}(h:ds.length + es.length<=16777216):b7Y (some (.list ds)) (some (.list es))=some (.list (ds ++ es)):=by
 show (if ds.length + es.length<=aS then _ else _)=_;rw [aE (show ds.length + es.length<=aS from h)]
def c1J:Option D->Option D->Option D
 | some (.list ds),some (.int k)=>if -(2 ^ 63)<=k/\k < 2 ^ 63/\ds.length * k.toNat<=aS then some (.list (aC k.toNat ds).flatten) else none
 | _,_=>none
theorem b2S{Z:List D}:b9m a b Z=c1J (a Z) (b Z):=by
 unfold b9m;cases a Z with
 | none=>rfl
 | some x=>
  cases x with
  | list ds=>
   cases b Z with
   | none=>rfl
   | some y=>cases y <;> rfl
  | _=>cases b Z <;> rfl
def lSl:Option D->Option (Option Int)->Option (Option Int)->Option D
 | some (.list ds),some l,some h=>some (.list (cutD ds l h))
 | _,_,_=>none
theorem b0F{Z:List D}:eSl a lo hi Z=lSl (a Z) (lo Z) (hi Z):=by
 unfold eSl;cases a Z with
 | none=>rfl
 | some x=>
  cases x with
  | list ds=>
   cases lo Z with
   | none=>rfl
   | some y=>cases hi Z <;> rfl
  | _=>cases lo Z <;> cases hi Z <;> rfl
theorem b2T:lSl (some (.list ds)) (some l) (some h)=some (.list (cutD ds l h)):=rfl
theorem a4k{Z:List D}:oNo Z=some none:=rfl
def lO:Option D->Option (Option Int)
 | some (.int i)=>some (some i)
 | _=>none
theorem a4l{Z:List D}:oSo a Z=lO (a Z):=by
 unfold oSo;cases a Z with
 | none=>rfl
 | some x=>cases x <;> rfl
theorem b0G:lO (some (.int i))=some (some i):=rfl
theorem b7Z{ds:List D}{k:Int}(h0:0<=k)(h1:k<=ds.length):cutD ds none (some k)=ds.take k.toNat:=by
 unfold cutD HT.sIx
 dsimp only
 rw [aO (by lia),List.drop_zero,Nat.sub_zero,nD (by lia)]
theorem b8a{ds:List D}{k:Int}(h0:0<=k)(h1:k<=ds.length):cutD ds (some k) none=ds.drop k.toNat:=by
 unfold cutD HT.sIx;simp only [aO (show ¬ k < 0 by lia),nD (show k.toNat<=ds.length by lia)];exact List.take_of_length_le (by rw [ic];exact aF _)
theorem a4m(f:α->Bool):∀xs:List α,a1o (xs.map fun x=>cm (f x))=some (xs.map f)
 | []=>rfl
 | x :: xs=>by
  show (a1o (xs.map fun x=>cm (f x))).map (f x :: ·)=_;rw [a4m f xs];rfl
theorem v_all(f:α->Bool)(xs:List α):b6L [.list (xs.map fun x=>cm (f x))]=some (.bool (xs.all f)):=by
 show (a1o (xs.map fun x=>cm (f x))).map (fun bs=>cm (bs.all id))=_;rw [a4m];simp [List.all_map]
end VS
namespace VS
open PySem L2
theorem a0t{xs ys:List Int}(h:xs.length + ys.length<=16777216):b7Y (some (.list (xs.map .int))) (some (.list (ys.map .int)))=some (.list ((xs ++ ys).map .int)):=by
 rw [a7X (by simpa using h),bb]
theorem v4{xs:List Int}:lIs (some (.list (xs.map .int)))=some (.list (xs.map .int)):=a8W (N3 _)
theorem a8Z{xs:List Int}{k:Int}(h0:0<=k)(h1:k<=xs.length):lSl (some (.list (xs.map .int))) (some none) (some (some k))=some (.list ((xs.take k.toNat).map .int)):=by
 rw [b2T,b7Z h0 (by simpa using h1),List.map_take]
theorem c0s{xs:List Int}{k:Int}(h0:0<=k)(h1:k<=xs.length):lSl (some (.list (xs.map .int))) (some (some k)) (some none)=some (.list ((xs.drop k.toNat).map .int)):=by
 rw [b2T,b8a h0 (by simpa using h1),List.map_drop]
theorem ints1:(dy [.int i])=.list ([i].map .int):=rfl
end VS
namespace VS
open PySem L2
def P5(f:Int->Int->Bool):List Int->List Int->Bool
 | [],[]=>f 0 0
 | [],_ :: _=>f 0 1
 | _ :: _,[]=>f 1 0
 | x :: xs,y :: ys=>if x=y then P5 f xs ys else f x y
theorem W4:aI (.int x) (.int y)=decide (x=y):=by
 show (x == y)=decide (x=y);exact hU x y
theorem U4(f:Int->Int->Bool):∀xs ys:List Int,q8 f (xs.map bt) (ys.map bt)=some (P5 f xs ys)
 | [],[]=>by simp [q8,P5]
 | [],_ :: _=>by simp [q8,P5]
 | _ :: _,[]=>by simp [q8,P5]
 | x :: xs,y :: ys=>by
  simp only [aA,q8,W4,P5,U4 f xs ys];by_cases h:x=y
  ·simp [h]
  ·simp [h,L3]
theorem c0t:dNe (.bool a) (.bool b)=some (.bool (a != b)):=by
 show some (cm (true != aI (.bool a) (.bool b)))=_;cases a <;> cases b <;> rfl
end VS
namespace VS
open PySem L2
theorem at0{α:Type}{x:α}{xs:List α}:L2.atI (x :: xs) 0=some x:=by
 unfold L2.atI ixN;rw [aE (by decide),aE (by simp only [ba];lia)];rfl
theorem at1{α:Type}{x y:α}{xs:List α}:L2.atI (x :: y :: xs) 1=some y:=by
 unfold L2.atI ixN;rw [aE (by decide),aE (by simp only [ba];lia)];rfl
end VS
namespace VS
open PySem L2
theorem I9{enc:α->D}{set:List D->D->Option (List D)}{xs:List α}{Z:List D}(I:List α->List D->Prop)(h0:I [] Z)
  (step:∀pre x post,xs=pre ++ x :: post->∀Z,I pre Z->∃Z1 Z2,set Z (enc x)=some Z1/\g Z1=some (.nx Z2)/\I (pre ++ [x]) Z2) :
  ∃Z',Q2 set g (xs.map enc) Z=some (.nx Z')/\I xs Z':=by
 have key:∀(post pre:List α) (Z:List D),xs=pre ++ post->I pre Z->∃Z',Q2 set g (post.map enc) Z=some (.nx Z')/\I xs Z':=by
  intro post
  induction post with
  | nil=>
   intro pre Z e h;rw [aZ] at e;subst e;exact⟨Z,rfl,h⟩
  | cons x post ih=>
   intro pre Z e h;obtain⟨Z1,Z2,h1,h2,h3⟩:=step pre x post e Z h;obtain⟨Z',h4,h5⟩:=ih (pre ++ [x]) Z2 (by rw [e,aP];rfl) h3;refine⟨Z',?_,h5⟩;show (set Z (enc x)).bind _=_;rw [h1];show (g Z1).bind _=_;rw [h2];exact h4
 exact key xs [] Z rfl h0
theorem a0Y:v6 0 n=(aJ n).map fun (k:Nat)=>bt k:=by
 unfold v6;refine cF fun k _=>?_
 show bt (0 + (k:Int))=.int k;rw [Int.zero_add]
theorem N5(h:aJ n=pre ++ x :: post):x=pre.length/\x < n/\pre=aJ x:=by
 have hx:(aJ n)[pre.length]?=some x:=by rw [h];simp
 have fL:pre.length < n:=by have:=dC gG h;simp at this;lia
 rw [iH fL] at hx;have e:x=pre.length:=(aD hx).symm;refine⟨e,by lia,?_⟩;have:=dC (List.take pre.length) h;rw [List.take_append_of_le_length (aF _),Dn,List.take_range,nD (by lia)] at this;rw [e,this]
theorem v8{set:List D->D->Option (List D)}{Z:List D}(I:Nat->List D->Prop)(h0:I 0 Z)
  (step:∀k,k < n->∀Z,I k Z->∃Z1 Z2,set Z (.int k)=some Z1/\g Z1=some (.nx Z2)/\I (k + 1) Z2) :
  ∃Z',Q2 set g (v6 0 n) Z=some (.nx Z')/\I n Z':=by
 rw [a0Y];obtain⟨Z',h1,h2⟩:=I9 (enc:=fun (k:Nat)=>bt k) (set:=set) (g:=g) (xs:=aJ n) (Z:=Z) (fun pre Z=>I pre.length Z) h0 fun pre x post e Z h=>by
  obtain⟨e1,e2,_⟩:=N5 e;subst e1;obtain⟨Z1,Z2,a,b,c⟩:=step pre.length e2 Z h;exact⟨Z1,Z2,a,b,by rw [aK];exact c⟩
 rw [bJ] at h2;exact⟨Z',h1,h2⟩
def big:Int:=10 ^ 60
theorem b8b:1000 < big:=by decide
abbrev m4:=List (List (Int × Int))
def stD(p:Int × Int):D:=.tuple [.int p.1,.int p.2]
def rwD(r:List (Int × Int)):D:=.list (r.map stD)
def rowAt(m:m4)(s:Int):List (Int × Int):=m.getD s.toNat []
def stp(m:m4)(s a:Int):Int × Int:=(rowAt m s).getD a.toNat (0,0)
structure WF (m:m4) (k:Nat):Prop where
 pos:0 < m.length
 le:m.length<=30
 k1:1<=k
 k5:k<=5
 rows:∀r∈m,r.length=k
 next:∀r∈m,∀p∈r,0<=p.2/\p.2 < (m.length:Int)
theorem a4n{m:m4}{s:Int}(h0:0<=s)(h1:s < m.length):rowAt m s∈m:=by
 unfold rowAt;rw [aX,aB (by lia)];exact cQ _
theorem WF.row{m:m4}{k:Nat}(w:WF m k){s:Int}(h0:0<=s)(h1:s < m.length):(rowAt m s).length=k:=w.rows _ (a4n h0 h1)
theorem b4X{m:m4}{k:Nat}(w:WF m k){s a:Int}(h0:0<=s)(h1:s < m.length)(h2:0<=a)(h3:a < k):stp m s a∈rowAt m s:=by
 have:=w.row h0 h1;unfold stp;rw [aX,aB (by lia)];exact cQ _
theorem WF.nx{m:m4}{k:Nat}(w:WF m k){s a:Int}(h0:0<=s)(h1:s < m.length)(h2:0<=a)(h3:a < k):0<=(stp m s a).2/\(stp m s a).2 < (m.length:Int):=w.next _ (a4n h0 h1) _ (b4X w h0 h1 h2 h3)
theorem a6u{m:m4}{s:Int}(h0:0<=s)(h1:s < m.length):L2.atI (m.map rwD) s=some (rwD (rowAt m s)):=by
 rw [a4R h0 (by rw [ar];exact h1),jH];unfold rowAt;rw [aX,aB (by lia)];rfl
theorem b8c{r:List (Int × Int)}{a:Int}(h0:0<=a)(h1:a < r.length):dIx (rwD r) (.int a)=some (stD (r.getD a.toNat (0,0))):=by
 show L2.atI (r.map stD) a=_;rw [a4R h0 (by rw [ar];exact h1),jH,aX,aB (by lia)];rfl
theorem c0u:dIx (stD p) (.int 0)=some (.int p.1):=rfl
theorem c0v:dIx (stD p) (.int 1)=some (.int p.2):=rfl
theorem a4Y:imm (stD p)=true:=by unfold stD;simp only [imm,e6,eA]
theorem b8d:a4L (stD p)=some (stD p):=b1I a4Y
theorem b4Y:a4L (.int i)=some (.int i):=b1I N2
theorem c0w:o3 [rwD r]=some (.int r.length):=by
 show some (bt ((r.map stD).length:Nat))=_;rw [ar]
theorem b4Z{Z:List D}:b1F i j (some (stD p)) Z=some (.nx ((Z.set i (.int p.1)).set j (.int p.2))):=rfl
theorem b2U(p:Int × Int):(stD p).canLay0=true:=by unfold stD;simp [cS,bg]
theorem b8e(r:List (Int × Int)):(rwD r).canLay0=true:=by unfold rwD;simp only [cS];exact a0s _ b2U r
theorem a6v(m:m4):(dy (m.map rwD)).canLay0=true:=by simp only [cS];exact a0s _ b8e m
theorem a6w(p:Int × Int):(stD p).depth<=1:=by unfold stD;simp [dI,bQ]
theorem b2V(r:List (Int × Int)):(rwD r).depth<=2:=by
 unfold rwD;simp only [dI];have:=K3 stD 1 a6w r;lia
theorem a2M(m:m4):(dy (m.map rwD)).depth<=60:=by
 simp only [dI];have:=K3 rwD 2 b2V m;lia
theorem neM{m:m4}:dNe (.list (m.map rwD)) (.list (m.map rwD))=some (.bool false):=c0r (a6v m) (a2M m)
def j0(m:m4):Int->List Int->List Int × Int
 | s,[]=>([],s)
 | s,a :: p=>((stp m s a).1 :: (j0 m (stp m s a).2 p).1,(j0 m (stp m s a).2 p).2)
theorem W5(m:m4):∀(p q:List Int) (s:Int),j0 m s (p ++ q)=((j0 m s p).1 ++ (j0 m (j0 m s p).2 q).1,(j0 m (j0 m s p).2 q).2)
 | [],q,s=>rfl
 | a :: p,q,s=>by
  show ((stp m s a).1 :: (j0 m (stp m s a).2 (p ++ q)).1,(j0 m (stp m s a).2 (p ++ q)).2)=_;rw [W5 m p q];rfl
theorem a4o(m:m4):∀(p:List Int) (s:Int),(j0 m s p).1.length=p.length
 | [],s=>rfl
 | a :: p,s=>by
  show (j0 m (stp m s a).2 p).1.length + 1=_;rw [a4o m p];rfl
theorem W6{m:m4}{k:Nat}(w:WF m k):∀(p:List Int) (s:Int),0<=s->s < m.length->(∀a∈p,0<=a/\a < (k:Int))->0<=(j0 m s p).2/\(j0 m s p).2 < (m.length:Int)
 | [],s,h0,h1,_=>⟨h0,h1⟩
 | a :: p,s,h0,h1,h=>by
  have ha:=h a ah;have hn:=w.nx h0 h1 ha.1 ha.2;exact W6 w p _ hn.1 hn.2 fun b hb=>h b (ao _ hb)
theorem a2N(m:m4)(p:List Int)(a s:Int):j0 m s (p ++ [a])=((j0 m s p).1 ++ [(stp m (j0 m s p).2 a).1],(stp m (j0 m s p).2 a).2):=by
 rw [W5];rfl
end VS
namespace VS
open PySem L2
def b8f:Option Out->Option D
 | some (.rt d)=>some d
 | some (.nx _)=>some .none
 | _=>none
theorem b2W(h:argsOk us ds=true):fnN us n g ds=b8f (g (ds ++ aC n .none)):=by
 unfold fnN;rw [aE h];cases g (ds ++ aC n .none) with
 | none=>rfl
 | some o=>cases o <;> rfl
theorem a4Z{Z:List D}:b8f (some (.nx Z))=some .none:=rfl
theorem a5a:b8f (some (.rt d))=some d:=rfl
end VS
namespace VS
open PySem L2
section
variable {i:Nat}{t u2:Ty}{Z ds es:List D}{e d:D}{fe fj fa:EvE}{j a:Int}
theorem b8g{n:Nat}(h0:0<=j)(h1:j < n):ixN n j=some j.toNat:=by
 unfold ixN;rw [aE h0,aE h1]
theorem c1K(h:Z.getD i .none=.list ds)(hf:fe Z=some d)(hj:fj Z=some (.int j))(h0:0<=j)(h1:j < ds.length):b4l i (.l t) u8 fj fe Z=some (.nx (Z.set i (.list (ds.set j.toNat d)))):=by
 unfold b4l u8;rw [hf,h];show (fj Z).bind _=_;rw [hj];show (ixN ds.length j).bind _=_;rw [b8g h0 h1];rfl
end
theorem b8h:b2O (some (rwD r))=some (rwD r):=rfl
theorem c0x:lIs (some (rwD r))=some (rwD r):=a8W (l5 _ (fun _=>a4Y) r)
theorem b8i{m:m4}{Z:List D}(h:a Z=some (.list (m.map rwD)))(hl:m.length<=1000):t9 (iL a) [] pt1 tT (eI (a2p (a4 0))) Z=some (.list (m.map rwD)):=by
 rw [b2Q (ds:=m.map rwD) id]
 ·rw [List.map_id]
 ·rw [c0l,h];rfl
 ·rw [ar];lia
 ·intro d hd;obtain⟨r,_,rfl⟩:=aG.mp hd;refine⟨_,rfl,?_⟩;show eI (a2p (a4 0)) [rwD r]=some (rwD r);rw [b2N,a8X];show lIs (b2O (some (rwD r)))=_;rw [b8h,c0x]
end VS
namespace Prog
open PySem L2 VS
def top(i:Nat):fT:=PySem.Challenge.pw_probewell_k37_whole_gathering.main.body.getD i (.Pass ⟨0,0,0,0⟩)
def Lx:List bc:=["TooMuch"]
structure Bn (K:af) (mg:bc->Option ai):Prop where
 d0:DP K mg "_law_cell_at" (top 37)
 d1:DP K mg "_law_cells" (top 38)
 d2:DP K mg "_law_to" (top 40)
 d3:DP K mg "_law_machine" (top 41)
 d4:DP K mg "pair_of" (top 8)
 d5:DP K mg "first_joining" (top 6)
 d6:DP K mg "found_in_round" (top 2)
 d7:DP K mg "found_in_rounds" (top 1)
 d8:DP K mg "pairs_of" (top 7)
 d9:DP K mg "joins_by_pair" (top 5)
 d10:DP K mg "never" (top 4)
 d11:DP K mg "all_states" (top 26)
 d12:DP K mg "walked" (top 28)
 d13:DP K mg "led" (top 35)
 d14:DP K mg "by_pairs" (top 32)
 d15:DP K mg "need_few_states" (top 23)
 d16:DP K mg "asks_of" (top 19)
 d17:DP K mg "led_by_asks" (top 34)
 d18:DP K mg "ways_from" (top 10)
 d19:DP K mg "first_gathering" (top 33)
 d20:DP K mg "together" (top 30)
 d21:DP K mg "_law_set" (top 45)
 d22:DP K mg "is_list_up_to" (top 20)
 d23:DP K mg "is_whole" (top 16)
 d24:DP K mg "is_below" (top 17)
 d25:DP K mg "is_set" (top 25)
 d26:DP K mg "need_set" (top 24)
 d27:DP K mg "together_of" (top 31)
 d28:DP K mg "_law_too_much" (top 49)
 d29:DP K mg "_law_end" (top 43)
 d30:DP K mg "_law_to_one" (top 44)
 d31:DP K mg "_law_none_before" (top 47)
 d32:DP K mg "_law_whole" (top 39)
 d33:DP K mg "_law_probe_of" (top 42)
 d34:DP K mg "_law_first" (top 48)
 d35:DP K mg "_law_pairs_apart" (top 46)
 d36:DP K mg "law" (top 50)
 all_:mg "all"=none
 bool_:mg "bool"=none
 dict_:mg "dict"=none
 enumerate_:mg "enumerate"=none
 int_:mg "int"=none
 isinstance_:mg "isinstance"=none
 len_:mg "len"=none
 list_:mg "list"=none
 min_:mg "min"=none
 range_:mg "range"=none
 set_:mg "set"=none
 sorted_:mg "sorted"=none
 tuple_:mg "tuple"=none
 MOST_FOR_SETS_:∃t,mg "MOST_FOR_SETS"=some (.int 7 t)
 r_TooMuch:∃C,b4R K "TooMuch" C
 pe:∃C,bH K aV "ProbeError"=some (some (.ref C))/\Lx.all (a2J K C)=true
 i_TooMuch:∃C,mg "TooMuch"=some (.ref C)/\ExcN K (.ref C) Lx (fun n=>n == "TooMuch")
structure Bk (P:bh) (w:bE) (K:af) (mg:bc->Option ai) (base:bL):Prop extends Bn K mg
variable {P:bh}{w:bE}{K:af}{mg:bc->Option ai}{base:bL}
abbrev HB(_:Bk P w K mg base):=Has P w K mg base
abbrev HR(_:Bk P w K mg base):=HasR P w K mg base
theorem c1L:(["_law_t","_law_xs","_law_s"]:List bc).Nodup:=by decide +kernel
theorem c1M:(["thing","newer"]:List bc).Nodup:=by decide +kernel
theorem c1N:(["other","one"]:List bc).Nodup:=by decide +kernel
theorem c1O:(["pair","found"]:List bc).Nodup:=by decide +kernel
theorem c1P:(["state","machine","probe"]:List bc).Nodup:=by decide +kernel
theorem c1Q:(["ask","machine","states"]:List bc).Nodup:=by decide +kernel
theorem c1R:(["state","states"]:List bc).Nodup:=by decide +kernel
theorem c1S:(["_law_s","_law_table","_law_probe"]:List bc).Nodup:=by decide +kernel
theorem c1T:(["_law_k","_law_table","_law_xs"]:List bc).Nodup:=by decide +kernel
theorem c0y:(["_law_row"]:List bc).Nodup:=by decide +kernel
def b_law_cell_at:EvS:=(c7 (sIf (tB (e2 dLt (a4 1) (eCl o3 (a5 (a4 0) b8)))) (i9 (e2 j7 (a4 0) (a4 1))) k6) (i9 (eC (.int 0))))
def m_law_cell_at:=fnD [.f,.i] 0 b_law_cell_at
abbrev O3(B:Bk P w K mg base)(k:Nat):=HB B "_law_cell_at" k ["_law_script","_law_k"] (spD K 2 m_law_cell_at .i)
theorem ok_law_cell_at(B:Bk P w K mg base):O3 B 1:=
 m3 B.d0 fun _ _ F=>fnF F ["_law_script","_law_k"] fun _ _ _ _ _ _ _ _=>by exact a9 (n6 (M':=[mdF,mdI]) (i8 a2k (b9 1) (m6 B.len_ (b7 0))) (c6 (g9 (a7 (m9 (b7 0) (b9 1))))) k8) (c6 (g9 (a7 a8)))
def b_law_cells:EvS:=(c7 (i6 2 (t8 b8)) (c7 (i6 3 (eC (.int 48271))) (c7 (B4 (iR (a4 1)) (t5 4) (c7 (i6 5 (e2 n4 (eCl m_law_cell_at (a5 (a4 0) (a5 (a4 4) b8))) (e2 X2 (eC (.int 10)) (eC (.int 64))))) (c7 (i6 3 (e2 n4 (e2 n5 (e2 n5 (e2 n5 (e2 A3 (a4 3) (eC (.int 69621))) (e2 A3 (a4 5) (eC (.int 40014)))) (e2 A3 (a4 4) (a4 4))) (eC (.int 1))) (eC (.int 2147483563)))) (sIf (tB (e2 dLt (a4 4) (eCl o3 (a5 (a4 0) b8)))) (J8 2 (.l .i) u8 (a4 5)) (J8 2 (.l .i) u8 (a4 3)))))) (i9 (a4 2)))))
def m_law_cells:=fnD [.f,.i] 4 b_law_cells
abbrev U5(B:Bk P w K mg base)(k:Nat):=HB B "_law_cells" k ["_law_script","_law_many"] (spD K 2 m_law_cells (.l .i))
theorem ok_law_cells(B:Bk P w K mg base)(dS:O3 B 1):U5 B 2:=
 m3 B.d1 fun _ _ F=>fnF F ["_law_script","_law_many","_law_found","_law_number","_law_k","_law_cell"] fun sc _ _ _ _ _ _ hr=>by exact a9 (i5 2 (t:=(.l .i)) sc.nd (a7 (y7 (n:=0) (u:=.i) l6))) (a9 (i5 3 (t:=.i) sc.nd (a7 a8)) (a9 (A9 (M:=[mdF,mdI,mdL,mdI,mdD,mdD]) (MB:=[mdF,mdI,mdL,mdI,mdI,mdD]) rfl bF (t6 B.range_ (b9 1)) (C6 4 sc.nd) C3 a4P (PSsX.weak (M2:=[mdF,mdI,mdL,mdI,mdI,mdI]) (a9 (i5 5 (t:=.i) sc.nd (a7 (c8 l0 (l7 dS hr (a6 (b7 0) (a6 (b9 4) f9))) (c8 a7f a8 a8)))) (a9 (i5 3 (t:=.i) sc.nd (a7 (c8 l0 (c8 o5 (c8 o5 (c8 o5 (c8 D1 (b9 3) a8) (c8 D1 (b9 5) a8)) (c8 D1 (b9 4) (b9 4))) a8) a8))) (c6 (n6 (M':=[mdF,mdI,mdL,mdI,mdI,mdI]) (i8 a2k (b9 4) (m6 B.len_ (b7 0))) (c6 (Y7 2 (u:=(.l .i)) (t:=.i) (N0 2 (u:=(.l .i))) (a7 (PX.newi (b9 5))) a1q)) (c6 (Y7 2 (u:=(.l .i)) (t:=.i) (N0 2 (u:=(.l .i))) (a7 (PX.newi (b9 3))) a1q)))))) l8 ((l9 4).trans (l9 5)))) (c6 (g9 (D4 2 (u:=(.l .i)))))))
def b_law_to:EvS:=(c7 (sIf (tB (e2 dEq (e2 n4 (e2 j7 (a4 0) (eC (.int 2))) (eC (.int 4))) (eC (.int 1)))) (c7 (i6 5 (t9 (iR (a4 1)) [0,2] pt1 (tB (e2 dEq (e2 n4 (e2 j7 (a4 1) (e2 n5 (eC (.int 3)) (a4 0))) (eC (.int 2))) (e2 n4 (e2 j7 (a4 1) (e2 n5 (eC (.int 3)) (a4 2))) (eC (.int 2))))) (a4 0))) (i9 (e2 A5 (a4 5) (e2 n4 (a4 4) (eCl o3 (a5 (a4 5) b8)))))) k6) (c7 (sIf (tAn (tB (e2 dEq (e2 n4 (e2 j7 (a4 0) (eC (.int 2))) (eC (.int 4))) (eC (.int 2)))) (O1 (tB (e2 dNe (a4 2) (e2 n4 (e2 C2 (e2 j7 (a4 0) (eC (.int 2))) (eC (.int 4))) (a4 1)))) (tB (e2 dNe (e2 n4 (e2 C2 (e2 j7 (a4 0) (eC (.int 2))) (eC (.int 200))) (eC (.int 6))) (a4 3))))) (i9 (e2 n4 (e2 n5 (a4 2) (e2 j7 (a4 0) (e2 n5 (eC (.int 3)) (e2 n4 (a4 3) (a4 1))))) (a4 1))) k6) (c7 (sIf (tAn (tB (e2 dEq (e2 n4 (e2 j7 (a4 0) (eC (.int 2))) (eC (.int 4))) (eC (.int 3)))) (tB (e2 dEq (a4 3) (eC (.int 0))))) (i9 (e2 n4 (e2 n5 (e2 n5 (a4 2) (eC (.int 1))) (e2 n4 (e2 C2 (e2 j7 (a4 0) (eC (.int 2))) (eC (.int 4))) (a4 1))) (a4 1))) k6) (c7 (sIf (tAn (tB (e2 dEq (e2 n4 (e2 j7 (a4 0) (eC (.int 2))) (eC (.int 4))) (eC (.int 3)))) (tB (e2 dEq (a4 2) (e2 n4 (e2 j7 (a4 0) (e2 n5 (eC (.int 3)) (e2 n4 (a4 3) (a4 1)))) (a4 1))))) (i9 (e2 n4 (e2 n5 (e2 n5 (a4 2) (eC (.int 1))) (e2 n4 (e2 C2 (e2 j7 (a4 0) (eC (.int 2))) (eC (.int 4))) (a4 1))) (a4 1))) k6) (c7 (sIf (tB (e2 dEq (e2 n4 (e2 j7 (a4 0) (eC (.int 2))) (eC (.int 4))) (eC (.int 3)))) (i9 (a4 2)) k6) (i9 (e2 n4 (a4 4) (a4 1))))))))
def m_law_to:=fnD [.f,.i,.i,.i,.i] 1 b_law_to
abbrev a6x(B:Bk P w K mg base)(k:Nat):=HB B "_law_to" k ["_law_xs","_law_n","_law_s","_law_a","_law_cell"] (spD K 5 m_law_to .i)
theorem ok_law_to(B:Bk P w K mg base):a6x B 1:=
 m3 B.d2 fun _ _ F=>fnF F ["_law_xs","_law_n","_law_s","_law_a","_law_cell","_law_room"] fun sc _ _ _ _ _ _ hr=>by exact a9 (n6 (M':=[mdF,mdI,mdI,mdI,mdI,mdD]) (i8 v7 (c8 l0 (m9 (b7 0) a8) a8) a8) (a9 (Q3 5 (t:=.i) sc.nd rfl (tn:=["_law_t"]) (ys:=["_law_xs","_law_s"]) (js:=[0,2]) (mm:=.i) (t6 B.range_ (b9 1)) rfl (fun _ _ _ _ _=>B7 (i:=0) c1L rfl (cf rfl) (.inr rfl)) F8 (.inl rfl) a8D rfl (fun _ _ _ _ _=>a7p (i8 v7 (c8 l0 (m9 (b7 1) (c8 o5 a8 (b9 0))) a8) (c8 l0 (m9 (b7 1) (c8 o5 a8 (b9 2))) a8))) (fun _ _ _ _ _=>(PX.newi (b9 0)))) (c6 (g9 (a7 (PX.newi (A8 (m5 5) (c8 l0 (b9 4) (m6 B.len_ (m5 5))))))))) k8) (a9 (n6 (M':=[mdF,mdI,mdI,mdI,mdI,mdD]) (PWX.pt (V5 (i8 v7 (c8 l0 (m9 (b7 0) a8) a8) a8) (P1 (PWX.pt (K8 (i8 Z3 (b9 2) (c8 l0 (c8 E6 (m9 (b7 0) a8) a8) (b9 1))) (M7 (i8 Z3 (c8 l0 (c8 E6 (m9 (b7 0) a8) a8) a8) (b9 3)))))))) (c6 (g9 (a7 (c8 l0 (c8 o5 (b9 2) (m9 (b7 0) (c8 o5 a8 (c8 l0 (b9 3) (b9 1))))) (b9 1))))) k8) (a9 (n6 (M':=[mdF,mdI,mdI,mdI,mdI,mdD]) (PWX.pt (V5 (i8 v7 (c8 l0 (m9 (b7 0) a8) a8) a8) (P1 (i8 v7 (b9 3) a8)))) (c6 (g9 (a7 (c8 l0 (c8 o5 (c8 o5 (b9 2) a8) (c8 l0 (c8 E6 (m9 (b7 0) a8) a8) (b9 1))) (b9 1))))) k8) (a9 (n6 (M':=[mdF,mdI,mdI,mdI,mdI,mdD]) (PWX.pt (V5 (i8 v7 (c8 l0 (m9 (b7 0) a8) a8) a8) (P1 (i8 v7 (b9 2) (c8 l0 (m9 (b7 0) (c8 o5 a8 (c8 l0 (b9 3) (b9 1)))) (b9 1)))))) (c6 (g9 (a7 (c8 l0 (c8 o5 (c8 o5 (b9 2) a8) (c8 l0 (c8 E6 (m9 (b7 0) a8) a8) (b9 1))) (b9 1))))) k8) (a9 (n6 (M':=[mdF,mdI,mdI,mdI,mdI,mdD]) (i8 v7 (c8 l0 (m9 (b7 0) a8) a8) a8) (c6 (g9 (a7 (PX.newi (b9 2))))) k8) (c6 (g9 (a7 (c8 l0 (b9 4) (b9 1)))))))))
def b_law_machine:EvS:=(c7 (i6 3 (eCl m_law_cells (a5 (a4 0) (a5 (eC (.int 3)) b8)))) (c7 (i6 4 (e2 n5 (eC (.int 1)) (e2 n4 (e2 A5 (a4 3) (eC (.int 0))) (a4 1)))) (c7 (sIf (tB (e2 dEq (e2 n4 (e2 C2 (e2 A5 (a4 3) (eC (.int 0))) (a4 1)) (eC (.int 8))) (eC (.int 3)))) (i6 4 (e2 n5 (eC (.int 1)) (e2 n4 (e2 C2 (e2 A5 (a4 3) (eC (.int 0))) (e2 A3 (eC (.int 8)) (a4 1))) (a4 2)))) k6) (c7 (i6 5 (e2 n5 (eC (.int 1)) (e2 n4 (e2 A5 (a4 3) (eC (.int 1))) (eC (.int 5))))) (c7 (sIf (tB (e2 dEq (e2 n4 (e2 C2 (e2 A5 (a4 3) (eC (.int 0))) (a4 1)) (eC (.int 16))) (eC (.int 5)))) (c7 (i6 4 (e2 n5 (eC (.int 15)) (e2 n4 (e2 C2 (e2 A5 (a4 3) (eC (.int 0))) (e2 A3 (eC (.int 16)) (a4 1))) (eC (.int 16))))) (i6 5 (e2 n5 (eC (.int 1)) (e2 n4 (e2 A5 (a4 3) (eC (.int 1))) (eC (.int 2)))))) k6) (c7 (i6 6 (eCl m_law_cells (a5 (a4 0) (a5 (e2 n5 (e2 n5 (eC (.int 3)) (a4 4)) (e2 A3 (a4 4) (a4 5))) b8)))) (c7 (sIf (tB (e2 dGt (a4 4) (eC (.int 14)))) (b4l 6 (.l .i) u8 (eC (.int 2)) (e2 n5 (e2 A3 (e2 C2 (e2 A5 (a4 6) (eC (.int 2))) (eC (.int 4))) (eC (.int 4))) (e2 n4 (e2 A5 (a4 6) (eC (.int 2))) (eC (.int 2))))) k6) (c7 (i6 7 (t8 b8)) (c7 (B4 (iR (a4 4)) (t5 8) (c7 (i6 9 (t8 b8)) (c7 (B4 (iR (a4 5)) (t5 10) (c7 (i6 11 (e2 A5 (a4 6) (e2 n5 (e2 n5 (e2 n5 (eC (.int 3)) (a4 4)) (e2 A3 (a4 8) (a4 5))) (a4 10)))) (c7 (i6 12 (e2 n4 (e2 C2 (a4 11) (a4 4)) (eC (.int 2)))) (c7 (sIf (tB (e2 dEq (e2 n4 (e2 C2 (e2 A5 (a4 6) (eC (.int 1))) (eC (.int 5))) (eC (.int 3))) (eC (.int 1)))) (i6 12 (e2 x9 (e2 n4 (e2 C2 (a4 11) (a4 4)) (e2 x9 (e2 A3 (eC (.int 2)) (e2 X2 (eC (.int 10)) (eC (.int 60)))) (eC (.int 1)))) (e2 x9 (e2 X2 (eC (.int 10)) (eC (.int 60))) (eC (.int 1))))) k6) (J8 9 (.l .i) u8 (C7 (a5 (a4 12) (a5 (eCl m_law_to (a5 (a4 6) (a5 (a4 4) (a5 (a4 8) (a5 (a4 10) (a5 (a4 11) b8)))))) b8)))))))) (J8 7 (.l (.l .i)) u8 (a4 9))))) (i9 (a4 7)))))))))))
def m_law_machine:=fnD [.f,.i,.i] 10 b_law_machine
abbrev X7(B:Bk P w K mg base)(k:Nat):=HB B "_law_machine" k ["_law_script","_law_small","_law_large"] (spD K 3 m_law_machine (.l (.l .i)))
theorem ok_law_machine(B:Bk P w K mg base)(eK:U5 B 2)(kB:a6x B 2):X7 B 3:=
 m3 B.d3 fun _ _ F=>fnF F ["_law_script","_law_small","_law_large","_law_first_here","_law_n","_law_asks","_law_xs","_law_table","_law_s","_law_row","_law_a","_law_cell","_law_answer"] fun sc _ _ _ _ _ _ hr=>by exact a9 (i5 3 (t:=(.l .i)) sc.nd (a7 (l7 eK hr (a6 (b7 0) (a6 a8 f9))))) (a9 (i5 4 (t:=.i) sc.nd (a7 (c8 o5 a8 (c8 l0 (A8 (m5 3) a8) (b9 1))))) (a9 (n6 (M':=[mdF,mdI,mdI,mdL,mdI,mdD,mdD,mdD,mdD,mdD,mdD,mdD,mdD]) (i8 v7 (c8 l0 (c8 E6 (A8 (m5 3) a8) (b9 1)) a8) a8) (c6 (i5 4 (t:=.i) sc.nd (a7 (c8 o5 a8 (c8 l0 (c8 E6 (A8 (m5 3) a8) (c8 D1 a8 (b9 1))) (b9 2)))))) k8) (a9 (i5 5 (t:=.i) sc.nd (a7 (c8 o5 a8 (c8 l0 (A8 (m5 3) a8) a8)))) (a9 (n6 (M':=[mdF,mdI,mdI,mdL,mdI,mdI,mdD,mdD,mdD,mdD,mdD,mdD,mdD]) (i8 v7 (c8 l0 (c8 E6 (A8 (m5 3) a8) (b9 1)) a8) a8) (a9 (i5 4 (t:=.i) sc.nd (a7 (c8 o5 a8 (c8 l0 (c8 E6 (A8 (m5 3) a8) (c8 D1 a8 (b9 1))) a8)))) (c6 (i5 5 (t:=.i) sc.nd (a7 (c8 o5 a8 (c8 l0 (A8 (m5 3) a8) a8)))))) k8) (a9 (i5 6 (t:=(.l .i)) sc.nd (a7 (l7 eK hr (a6 (b7 0) (a6 (c8 o5 (c8 o5 a8 (b9 4)) (c8 D1 (b9 4) (b9 5))) f9))))) (a9 (n6 (M':=[mdF,mdI,mdI,mdL,mdI,mdI,mdL,mdD,mdD,mdD,mdD,mdD,mdD]) (i8 a5v (b9 4) a8) (c6 (b6Q 6 (u:=(.l .i)) (t:=.i) (N0 6 (u:=(.l .i))) a8 (a7 (c8 o5 (c8 D1 (c8 E6 (A8 (m5 6) a8) a8) a8) (c8 l0 (A8 (m5 6) a8) a8))) a1q)) k8) (a9 (i5 7 (t:=(.l (.l .i))) sc.nd (a7 (y7 (n:=0) (u:=(.l .i)) l6))) (a9 (A9 (M:=[mdF,mdI,mdI,mdL,mdI,mdI,mdL,a7O,mdD,mdD,mdD,mdD,mdD]) (MB:=[mdF,mdI,mdI,mdL,mdI,mdI,mdL,a7O,mdI,mdD,mdD,mdD,mdD]) rfl bF (t6 B.range_ (b9 4)) (C6 8 sc.nd) C3 a4P (PSsX.weak (M2:=[mdF,mdI,mdI,mdL,mdI,mdI,mdL,a7O,mdI,mdD,mdD,mdD,mdD]) (a9 (i5 9 (t:=(.l .i)) sc.nd (a7 (y7 (n:=0) (u:=.i) l6))) (a9 (A9 (M:=[mdF,mdI,mdI,mdL,mdI,mdI,mdL,a7O,mdI,mdL,mdD,mdD,mdD]) (MB:=[mdF,mdI,mdI,mdL,mdI,mdI,mdL,a7O,mdI,mdL,mdI,mdD,mdD]) rfl bF (t6 B.range_ (b9 5)) (C6 10 sc.nd) C3 a4P (PSsX.weak (M2:=[mdF,mdI,mdI,mdL,mdI,mdI,mdL,a7O,mdI,mdL,mdI,mdI,mdI]) (a9 (i5 11 (t:=.i) sc.nd (a7 (PX.newi (A8 (m5 6) (c8 o5 (c8 o5 (c8 o5 a8 (b9 4)) (c8 D1 (b9 8) (b9 5))) (b9 10)))))) (a9 (i5 12 (t:=.i) sc.nd (a7 (c8 l0 (c8 E6 (b9 11) (b9 4)) a8))) (a9 (n6 (M':=[mdF,mdI,mdI,mdL,mdI,mdI,mdL,a7O,mdI,mdL,mdI,mdI,mdI]) (i8 v7 (c8 l0 (c8 E6 (A8 (m5 6) a8) a8) a8) a8) (c6 (i5 12 (t:=.i) sc.nd (a7 (c8 Y4 (c8 l0 (c8 E6 (b9 11) (b9 4)) (c8 Y4 (c8 D1 a8 (c8 a7f a8 a8)) a8)) (c8 Y4 (c8 a7f a8 a8) a8))))) k8) (c6 (Y7 9 (u:=(.l .i)) (t:=.i) (N0 9 (u:=(.l .i))) (a7 (V6 (n:=2) (j6 (u:=.i) (PX.newi (b9 12)) (j6 (u:=.i) (l7 kB hr (a6 (m5 6) (a6 (b9 4) (a6 (b9 8) (a6 (b9 10) (a6 (b9 11) f9)))))) l6)))) a1q))))) l8 (((l9 10).trans (l9 11)).trans (l9 12)))) (c6 (Y7 7 (u:=(.l (.l .i))) (t:=(.l .i)) (N0 7 (u:=(.l (.l .i)))) (D4 9 (u:=(.l .i))) a1q)))) l8 (l9 8))) (c6 (g9 (D4 7 (u:=(.l (.l .i))))))))))))))
def a4p:EvS:=(i9 (eIf (tB (e2 dLt (a4 0) (a4 1))) (C7 (a5 (a4 0) (a5 (a4 1) b8))) (C7 (a5 (a4 1) (a5 (a4 0) b8)))))
def x4:=fnD [.i,.i] 0 a4p
abbrev a4q(B:Bk P w K mg base)(k:Nat):=HB B "pair_of" k ["one","other"] (spD K 2 x4 .i)
theorem a7Y(B:Bk P w K mg base):a4q B 1:=
 m3 B.d4 fun _ _ F=>fnF F ["one","other"] fun _ _ _ _ _ _ _ _=>by exact c6 (g9 (a7 (b1x (i8 a2k (b9 0) (b9 1)) (V6 (n:=2) (j6 (u:=.i) (PX.newi (b9 0)) (j6 (u:=.i) (PX.newi (b9 1)) l6))) (V6 (n:=2) (j6 (u:=.i) (PX.newi (b9 1)) (j6 (u:=.i) (PX.newi (b9 0)) l6))))))
def R8:EvS:=(c7 (i6 3 (e2 dIx (a4 0) (e2 j7 (a4 1) (eC (.int 1))))) (c7 (B4 (iI (iEn (e2 dIx (a4 0) (e2 j7 (a4 1) (eC (.int 0)))))) (a4N 4 5) (c7 (i6 6 (eCl x4 (a5 (e2 j7 (a4 5) (eC (.int 1))) (a5 (e2 j7 (e2 j7 (a4 3) (a4 4)) (eC (.int 1))) b8)))) (sIf (tB (e2 (a0W false true) (a4 6) (a4 2))) (i9 (eI (q9 (t8 (a5 (a4 4) b8)) (e2 (a1N true) (a4 2) (a4 6))))) k6))) (i9 (eC .none))))
def p8:=fnD [.f,.i,.f] 4 R8
abbrev R9(B:Bk P w K mg base)(k:Nat):=HB B "first_joining" k ["machine","pair","found"] (spD K 3 p8 (.l .i))
theorem a0Z(B:Bk P w K mg base)(jO:a4q B 1):R9 B 2:=
 m3 B.d5 fun _ _ F=>fnF F ["machine","pair","found","beside","ask","step","after"] fun sc _ _ _ _ _ _ hr=>by exact a9 (i5 3 (t:=.f) sc.nd (a7 (Y6 (PX.newf (b7 0)) (m9 (b9 1) a8)))) (a9 (a8H (fi:=(iI (iEn (e2 dIx (a4 0) (e2 j7 (a4 1) (eC (.int 0))))))) (M:=[mdF,mdI,mdF,mdF,mdD,mdD,mdD]) (MB:=[mdF,mdI,mdF,mdF,mdI,mdI,mdD]) rfl bF (b9T B.enumerate_ (Y6 (PX.newf (b7 0)) (m9 (b9 1) a8))) (b1c rfl (a0k (C6 4 sc.nd) (a0k (C6 5 sc.nd) a8s))) (b1D (w:=.i) (.inr rfl)) (fun Z ds h d hd _=>a5E Z ds h d hd) b1T (PSsX.weak (M2:=[mdF,mdI,mdF,mdF,mdI,mdI,mdI]) (a9 (i5 6 (t:=.i) sc.nd (a7 (l7 jO hr (a6 (m9 (b9 5) a8) (a6 (m9 (m9 (b7 3) (b9 4)) a8) f9))))) (c6 (n6 (M':=[mdF,mdI,mdF,mdF,mdI,mdI,mdI]) (a8J (kt:=true) (b7x (by exact hr.units)) (b9 6) (b7 2)) (c6 (g9 (a7 (MkL.i (a0O (y7 (n:=1) (u:=.i) (j6 (u:=.i) (PX.newi (b9 4)) l6)) (a8K (kt:=true) (by exact hr.units) (PX.newf (b7 2)) (b9 6))))))) k8))) l8 (((l9 4).trans (l9 5)).trans (l9 6)))) (c6 (g9 (a7 (PX.itol (u:=.i) D3)))))
def F5:(List D->Option D)->EvS:=fun gm=>(c7 (i6 3 (eC (.dict []))) (c7 (B4 (iI (iL (a4 1))) (t5 4) (c7 (i6 5 (eCl gm (a5 (a4 4) (a5 (a4 0) b8)))) (sIf (tB (e2 (O9 true) (a4 5) (eC .none))) (J3 3 true (a4 4) (a4 5)) k6))) (i9 (a4 3))))
def o6:=fnL [.f,.f] 3 F5
abbrev P6(B:Bk P w K mg base)(k:Nat):=HB B "found_in_round" k ["found","left","tell"] (spL K 2 (fun gm=>FnV P w K mg base 3 2 (.l .i) gm) o6 (.d true (.l .i)))
theorem a0u(B:Bk P w K mg base):P6 B 4:=
 m3 B.d6 fun _ _ F=>b7T F ["found","left","tell","newer","thing","told"] fun sc gm _ _ _ _ _ _ hr=>by exact a9 (i5 3 (t:=(.d true (.l .i))) sc.nd (a7 (a5P true (.l .i)))) (a9 (A9 (M:=[mdF,mdF,.fn (FnV P w K mg base 3 2 (.l .i) gm),.own (.d true (.l .i)),mdD,mdD]) (MB:=[mdF,mdF,.fn (FnV P w K mg base 3 2 (.l .i) gm),.own (.d true (.l .i)),mdI,mdD]) rfl bF (PIX.i (w6 (PX.newf (b7 1)))) (C6 4 sc.nd) C3 a5E (PSsX.weak (M2:=[mdF,mdF,.fn (FnV P w K mg base 3 2 (.l .i) gm),.own (.d true (.l .i)),mdI,mdD]) (a9 (i5 5 (t:=(.l .i)) sc.nd (a7 (a5W 2 (k:=3) (n:=2) (u:=(.l .i)) (m:=gm) (hr.mono (by decide)) (a6 (b9 4) (a6 (b7 0) f9)) (hfl:=(j5 (j5 y8)))))) (c6 (n6 (M':=[mdF,mdF,.fn (FnV P w K mg base 3 2 (.l .i) gm),.own (.d true (.l .i)),mdI,mdD]) (i8 a1Q (m5 5) D3) (c6 (a4U 3 (kt:=true) (u:=(.l .i)) (by exact hr.units) (b9 4) (D4 5 (u:=(.l .i))))) (PSsX.weak (M2:=[mdF,mdF,.fn (FnV P w K mg base 3 2 (.l .i) gm),.own (.d true (.l .i)),mdI,mdL]) k8 l8 (l9 5))))) l8 (l9 4))) (c6 (g9 (D4 3 (u:=(.d true (.l .i)))))))
def D6:(List D->Option D)->EvS:=fun gm=>(c7 (i6 3 (a1W (a4 0))) (c7 (i6 4 (b0o o6 gm (a5 (a4 3) (a5 (a4 1) b8)))) (c7 (sWh (fun _=>1000000) (tVD (a4 4)) (c7 (b0h 3 4) (c7 (i6 1 (t9 (iI (iL (a4 1))) [4] pt1 (tB (e2 (dIn true true) (a4 0) (a4 1))) (a4 0))) (i6 4 (b0o o6 gm (a5 (a4 3) (a5 (a4 1) b8))))))) (i9 (a4 3)))))
def p7:=fnL [.f,.f] 2 D6
abbrev N6(B:Bk P w K mg base)(k:Nat):=HB B "found_in_rounds" k ["outset","left","tell"] (spL K 2 (fun gm=>FnV P w K mg base 3 2 (.l .i) gm) p7 .f)
theorem Z6(B:Bk P w K mg base)(eS:P6 B 4):N6 B 5:=
 m3 B.d7 fun _ _ F=>b7T F ["outset","left","tell","found","newer"] fun sc gm _ _ _ _ _ _ hr=>by exact a9 (i5 3 (t:=(.d true .f)) sc.nd (a7 (b0z B.dict_ (PX.newf (b7 0))))) (a9 (i5 4 (t:=(.d true .f)) sc.nd (a7 (a8S (u:=(.l .i)) (a4d (u:=(.d true (.l .i))) (gm:=gm) eS hr (L5 (O2 3 (u:=(.d true .f))) (L5 (b7 1) (a8L 2))) (hfl:=(L4 (L4 a1V))))))) (a9 (a2r (M:=[mdF,mdF,.fn (FnV P w K mg base 3 2 (.l .i) gm),.own (.d true .f),.own (.d true .f)]) (fun _=>1000000) bF (b1Z (O2 4 (u:=(.d true .f)))) (PSsX.weak (M2:=[mdF,mdL,.fn (FnV P w K mg base 3 2 (.l .i) gm),.own (.d true .f),.own (.d true .f)]) (a9 (b0i 3 4 (kt:=true) (u:=.f) (by decide) (by exact hr.units)) (a9 (Q3 1 (t:=.i) sc.nd rfl (tn:=["thing"]) (ys:=["newer"]) (js:=[4]) (mm:=.i) (PIX.i (w6 (PX.newf (b7 1)))) rfl (fun _ _ _ _ _=>B7 (i:=0) c1M rfl (cf rfl) (.inr rfl)) F8 (.inl rfl) a3V rfl (fun _ _ _ _ _=>a7p (b4D 1 (kt:=true) (a0U (by exact hr.units)) (b9 0))) (fun _ _ _ _ _=>(PX.newi (b9 0)))) (c6 (i5 4 (t:=(.d true .f)) sc.nd (a7 (a8S (u:=(.l .i)) (a4d (u:=(.d true (.l .i))) (gm:=gm) eS hr (L5 (O2 3 (u:=(.d true .f))) (L5 (m5 1) (a8L 2))) (hfl:=(L4 (L4 a1V)))))))))) l8 (T9 1))) (c6 (PSX.weak (M1:=[mdF,mdF,.fn (FnV P w K mg base 3 2 (.l .i) gm),mdF,.own (.d true .f)]) (g9 (a7 (PX.newf (b7 3)))) (T9 3) l8))))
def a2O:EvS:=(c7 (i6 1 (t8 b8)) (c7 (B4 (iR (a4 0)) (t5 2) (a3A 1 (t9 (iR2 (e2 n5 (a4 2) (eC (.int 1))) (a4 0)) [2] pt1 tT (C7 (a5 (a4 1) (a5 (a4 0) b8)))))) (i9 (a4 1))))
def F6:=fnD [.i] 2 a2O
abbrev Z7(B:Bk P w K mg base)(k:Nat):=HB B "pairs_of" k ["states"] (spD K 1 F6 (.l .i))
theorem a6y(B:Bk P w K mg base):Z7 B 1:=
 m3 B.d8 fun _ _ F=>fnF F ["states","found","one"] fun sc _ _ _ _ _ _ _=>by exact a9 (i5 1 (t:=(.l .i)) sc.nd (a7 (y7 (n:=0) (u:=.i) l6))) (a9 (A9 (M:=[mdI,mdL,mdD]) (MB:=[mdI,mdL,mdI]) rfl bF (t6 B.range_ (b9 0)) (C6 2 sc.nd) C3 a4P (PSsX.weak (M2:=[mdI,mdL,mdI]) (c6 (b7D 1 (V7 rfl (tn:=["other"]) (ys:=["one"]) (js:=[2]) (m:=.i) (a7n B.range_ (c8 o5 (b9 2) a8) (b9 0)) rfl (fun _ _ _ _ _=>B7 (i:=0) c1N rfl (cf rfl) (.inr rfl)) F8 (.inl rfl) b6N rfl (fun _ _ _ _ _=>Q0) (fun _ _ _ _ _=>(V6 (n:=2) (j6 (u:=.i) (PX.newi (b9 1)) (j6 (u:=.i) (PX.newi (b9 0)) l6))))))) l8 (l9 2))) (c6 (g9 (D4 1 (u:=(.l .i))))))
def S5:EvS:=(c7 (i6 1 (eC (.dict []))) (c7 (B4 (iR (eCl o3 (a5 (a4 0) b8))) (t5 2) (J3 1 true (C7 (a5 (a4 2) (a5 (a4 2) b8))) (t8 b8))) (i9 (b0r p7 [.i,.f] [0] (eCl p8 (a5 (a4 2) (a5 (a4 0) (a5 (a4 1) b8)))) (a5 (a4 1) (a5 (eCl F6 (a5 (eCl o3 (a5 (a4 0) b8)) b8)) b8))))))
def p9:=fnD [.f] 2 S5
abbrev J1(B:Bk P w K mg base)(k:Nat):=HB B "joins_by_pair" k ["machine"] (spD K 1 p9 .f)
theorem a1a(B:Bk P w K mg base)(fP:N6 B 5)(gc:Z7 B 5)(ki:R9 B 2)(LT:(x8 K "joins_by_pair").isSome=true)(KB:K.In base)(GB:base.Ns aV mg):J1 B 6:=
 a8U B.d9 fun _ _ F a=>c0e F ["machine","outset","state"] LT KB GB a fun sc _ _ oB oF oy A outer s H _ hr=>by exact a9 (i5 1 (t:=(.d true (.l .i))) sc.nd (a7 (a5P true (.l .i)))) (a9 (A9 (M:=[mdF,.own (.d true (.l .i)),mdD]) (MB:=[mdF,.own (.d true (.l .i)),mdI]) rfl bF (t6 B.range_ (m6 B.len_ (b7 0))) (C6 2 sc.nd) C3 a4P (PSsX.weak (M2:=[mdF,.own (.d true (.l .i)),mdI]) (c6 (a4U 1 (kt:=true) (u:=(.l .i)) (by exact hr.units) (V6 (n:=2) (j6 (u:=.i) (PX.newi (b9 2)) (j6 (u:=.i) (PX.newi (b9 2)) l6))) (a7 (y7 (n:=0) (u:=.i) l6)))) l8 (l9 2))) (c6 (PSX.weak (M1:=[mdF,mdF,mdD]) (b4O (M:=[mdF,mdF,mdD]) rfl (by exact a6k (kf:=2) (uf:=(.l .i)) (N:=["pair","found","machine"]) (pl:=["pair","found"]) (ys:=["machine"]) (js:=[0]) (us:=[.i,.f]) fP hr (L5 (b7 1) (L5 (l7 gc hr (a6 (m6 B.len_ (b7 0)) f9)) (a8O (by decide) oF oB oy rfl))) ⟨_,_,_,rfl,rfl,rfl,rfl,rfl,rfl⟩ ⟨⟨_,rfl⟩,trivial⟩ (by exact⟨rfl,rfl,rfl,by decide +kernel,rfl,by decide +kernel,by decide +kernel,by decide +kernel,rfl⟩) rfl (fun _ _ _ us hl=>by obtain⟨_,_,rfl⟩:=VS.b2h hl;rfl) (fun fa c A outer s H hr=>l7 ki hr (a6 (b7 2) (a6 (b9 0) (a6 (b7 1) f9)))) (hfl:=(L4 (L4 a1V))))) (T9 1) l8)))
def a9a:EvS:=(c7 (i6 1 (eCl p9 (a5 (a4 0) b8))) (i9 (t9 (iI (iL (eCl F6 (a5 (eCl o3 (a5 (a4 0) b8)) b8)))) [1] pt1 (tB (e2 (a0W true true) (a4 0) (a4 1))) (a4 0))))
def a1Y:=fnD [.f] 1 a9a
abbrev a9b(B:Bk P w K mg base)(k:Nat):=HB B "never" k ["machine"] (spD K 1 a1Y (.l .i))
theorem b2X(B:Bk P w K mg base)(gc:Z7 B 6)(dO:J1 B 6):a9b B 7:=
 m3 B.d10 fun _ _ F=>fnF F ["machine","found"] fun sc _ _ _ _ _ _ hr=>by exact a9 (i5 1 (t:=.f) sc.nd (a7 (by exact H9 (u:=.f) dO hr (w9 (PX.newf (b7 0)) (N4)) (hfl:=(j5 y8))))) (c6 (g9 (a7 (V7 rfl (tn:=["pair"]) (ys:=["found"]) (js:=[1]) (m:=.i) (PIX.i (w6 (PX.frz (l7 gc hr (a6 (m6 B.len_ (b7 0)) f9))))) rfl (fun _ _ _ _ _=>B7 (i:=0) c1O rfl (cf rfl) (.inr rfl)) F8 (.inl rfl) a3V rfl (fun _ _ _ _ _=>a7p (a8J (kt:=true) (a0U (by exact hr.units)) (b9 0) (b7 1))) (fun _ _ _ _ _=>(PX.newi (b9 0)))))))
def a0v:EvS:=(i9 (a2D (eCl o3 (a5 (a4 0) b8))))
def D7:=fnD [.f] 0 a0v
abbrev J9(B:Bk P w K mg base)(k:Nat):=HB B "all_states" k ["machine"] (spD K 1 D7 (.l .i))
theorem a3E(B:Bk P w K mg base):J9 B 1:=
 m3 B.d11 fun _ _ F=>fnF F ["machine"] fun _ _ _ _ _ _ _ _=>by exact c6 (g9 (a7 (a5T rfl B.list_ B.range_ (m6 B.len_ (b7 0)))))
def a6z:EvS:=(c7 (i6 3 (t8 b8)) (c7 (B4 (iI (iL (a4 2))) (t5 4) (c7 (i6 5 (e2 j7 (e2 dIx (a4 0) (a4 1)) (a4 4))) (c7 (J8 3 (.l .i) u8 (e2 j7 (a4 5) (eC (.int 0)))) (i6 1 (e2 j7 (a4 5) (eC (.int 1))))))) (i9 (C7 (a5 (a4 3) (a5 (a4 1) b8))))))
def a0w:=fnD [.f,.i,.f] 3 a6z
abbrev a6A(B:Bk P w K mg base)(k:Nat):=HB B "walked" k ["machine","state","probe"] (spD K 3 a0w (.tp [(.l .i),.i]))
theorem b0H(B:Bk P w K mg base):a6A B 1:=
 m3 B.d12 fun _ _ F=>fnF F ["machine","state","probe","answers","ask","step"] fun sc _ _ _ _ _ _ _=>by exact a9 (i5 3 (t:=(.l .i)) sc.nd (a7 (y7 (n:=0) (u:=.i) l6))) (a9 (A9 (M:=[mdF,mdI,mdF,mdL,mdD,mdD]) (MB:=[mdF,mdI,mdF,mdL,mdI,mdD]) rfl bF (PIX.i (w6 (PX.newf (b7 2)))) (C6 4 sc.nd) C3 a5E (PSsX.weak (M2:=[mdF,mdI,mdF,mdL,mdI,mdI]) (a9 (i5 5 (t:=.i) sc.nd (a7 (m9 (Y6 (PX.newf (b7 0)) (b9 1)) (b9 4)))) (a9 (Y7 3 (u:=(.l .i)) (t:=.i) (N0 3 (u:=(.l .i))) (a7 (m9 (b9 5) a8)) a1q) (c6 (i5 1 (t:=.i) sc.nd (a7 (m9 (b9 5) a8)))))) l8 ((l9 4).trans (l9 5)))) (c6 (g9 (b4k (a5D (u:=(.l .i)) (D4 3 (u:=(.l .i))) (a5D (u:=.i) (a7 (PX.newi (b9 1))) (b4j)))))))
def b5M:EvS:=(i9 (U1 (t9 (iI (iSq (a4 1))) [0,2] pt1 tT (e2 dIx (eCl a0w (a5 (a4 1) (a5 (a4 0) (a5 (a4 2) b8)))) (eC (.int 1))))))
def a1A:=fnD [.f,.f,.f] 0 b5M
abbrev b2Y(B:Bk P w K mg base)(k:Nat):=HB B "led" k ["machine","states","probe"] (spD K 3 a1A (.l .i))
theorem b8j(B:Bk P w K mg base)(kA:a6A B 1):b2Y B 2:=
 m3 B.d13 fun _ _ F=>fnF F ["machine","states","probe"] fun _ _ _ _ _ _ _ hr=>by exact c6 (g9 (a7 (a2H rfl B.set_ B.sorted_ (V7 rfl (tn:=["state"]) (ys:=["machine","probe"]) (js:=[0,2]) (m:=.i) (PIX.i (b4Q (PX.newf (b7 1)))) rfl (fun _ _ _ _ _=>B7 (i:=0) c1P rfl (cf rfl) (.inr rfl)) F8 (.inl rfl) a3V rfl (fun _ _ _ _ _=>Q0) (fun _ _ _ _ _=>(b7v (us:=[(.l .i),.i]) (j:=1) (l7 kA hr (a6 (b7 1) (a6 (b9 0) (a6 (b7 2) f9))))))))))
def a2P:EvS:=(c7 (i6 1 (eCl p9 (a5 (a4 0) b8))) (c7 (i6 2 (t8 b8)) (c7 (i6 3 (eCl D7 (a5 (a4 0) b8))) (c7 (sWh (fun _=>1000000) (tB (e2 dGt (eCl o3 (a5 (a4 3) b8)) (eC (.int 1)))) (c7 (i6 4 (e2 (a4b true) (a4 1) (C7 (a5 (e2 A5 (a4 3) (eC (.int 0))) (a5 (e2 A5 (a4 3) (eC (.int 1))) b8))))) (c7 (sIf (tB (e2 (O9 false) (a4 4) (eC .none))) (i9 (eC .none)) k6) (c7 (a3A 2 (a4 4)) (i6 3 (eCl a1A (a5 (a4 0) (a5 (a4 3) (a5 (a4 4) b8))))))))) (i9 (a4 2))))))
def Q8:=fnD [.f] 4 a2P
abbrev a2Q(B:Bk P w K mg base)(k:Nat):=HB B "by_pairs" k ["machine"] (spD K 1 Q8 (.l .i))
theorem a6B(B:Bk P w K mg base)(dO:J1 B 6)(dP:J9 B 6)(lA:b2Y B 6):a2Q B 7:=
 m3 B.d14 fun _ _ F=>fnF F ["machine","joined","probe","marked","behind"] fun sc _ _ _ _ _ _ hr=>by exact a9 (i5 1 (t:=.f) sc.nd (a7 (by exact H9 (u:=.f) dO hr (w9 (PX.newf (b7 0)) (N4)) (hfl:=(j5 y8))))) (a9 (i5 2 (t:=(.l .i)) sc.nd (a7 (y7 (n:=0) (u:=.i) l6))) (a9 (i5 3 (t:=(.l .i)) sc.nd (a7 (l7 dP hr (a6 (b7 0) f9)))) (a9 (a2r (M:=[mdF,mdF,mdL,mdL,mdD]) (fun _=>1000000) bF (i8 a5v (m6 B.len_ (m5 3)) a8) (PSsX.weak (M2:=[mdF,mdF,mdL,mdL,mdF]) (a9 (i5 4 (t:=.f) sc.nd (a7 (b4B (kt:=true) (by exact hr.units) (PX.newf (b7 1)) (V6 (n:=2) (j6 (u:=.i) (PX.newi (A8 (m5 3) a8)) (j6 (u:=.i) (PX.newi (A8 (m5 3) a8)) l6)))))) (a9 (n6 (M':=[mdF,mdF,mdL,mdL,mdF]) (i8 a0K (b7 4) D3) (c6 (g9 (a7 (PX.itol (u:=.i) D3)))) k8) (a9 (b4P 2 (PX.newf (b7 4))) (c6 (i5 3 (t:=(.l .i)) sc.nd (a7 (l7 lA hr (a6 (b7 0) (a6 (m5 3) (a6 (b7 4) f9)))))))))) l8 (l9 4))) (c6 (g9 (D4 2 (u:=(.l .i))))))))
def D8:EvS:=(sIf (tB (e2 dGt (eCl o3 (a5 (a4 0) b8)) (eC (.int 7)))) sNo k6)
def n9:=fnN [.f] 0 D8
abbrev z8(B:Bk P w K mg base)(k:Nat):=HB B "need_few_states" k ["machine"] (spD K 1 n9 .i)
theorem Z8(B:Bk P w K mg base):z8 B 1:=
 m3 B.d15 fun _ _ F=>c0d F ["machine"] [.own .f] fun _ _ _ _ _ _ _ _=>by exact c6 (n6 (M':=[mdF]) (i8 a5v (m6 B.len_ (b7 0)) (a8x B.MOST_FOR_SETS_)) (c6 (b5C)) k8)
def L8:EvR:=(rIf (tB (e2 dGt (eCl o3 (a5 (a4 0) b8)) (eC (.int 7)))) (fun _=>some "TooMuch") rNo)
def D9:=fnR [.f] 0 L8
abbrev z9(B:Bk P w K mg base)(k:Nat):=HR B "need_few_states" k ["machine"] (spR K 1 D9)
theorem X3(B:Bk P w K mg base):z9 B 1:=
 a8V B.d15 fun _ _ F=>c0f F ["machine"] fun _ _ _ _ _ _ _ L _=>by
 obtain⟨_,mO⟩:=B.r_TooMuch;exact a1X (c0b (i8 a5v (m6 B.len_ (b7 0)) (a8x B.MOST_FOR_SETS_)) (a1X (b2G L mO)) (c0a))
def a4r:EvS:=(i9 (eCl o3 (a5 (e2 dIx (a4 0) (eC (.int 0))) b8)))
def W7:=fnD [.f] 0 a4r
abbrev a4s(B:Bk P w K mg base)(k:Nat):=HB B "asks_of" k ["machine"] (spD K 1 W7 .i)
theorem a7Z(B:Bk P w K mg base):a4s B 1:=
 m3 B.d16 fun _ _ F=>fnF F ["machine"] fun _ _ _ _ _ _ _ _=>by exact c6 (g9 (a7 (m6 B.len_ (Y6 (PX.newf (b7 0)) a8))))
def X8:EvS:=(i9 (t9 (iR (eCl W7 (a5 (a4 0) b8))) [0,1] pt1 tT (a5A (eCl a1A (a5 (a4 1) (a5 (a4 2) (a5 (t8 (a5 (a4 0) b8)) b8)))))))
def u7:=fnD [.f,.i] 0 X8
abbrev X9(B:Bk P w K mg base)(k:Nat):=HB B "led_by_asks" k ["machine","states"] (spD K 2 u7 (.l .i))
theorem a2R(B:Bk P w K mg base)(lA:b2Y B 2)(jQ:a4s B 2):X9 B 3:=
 m3 B.d17 fun _ _ F=>fnF F ["machine","states"] fun _ _ _ _ _ _ _ hr=>by exact c6 (g9 (a7 (V7 rfl (tn:=["ask"]) (ys:=["machine","states"]) (js:=[0,1]) (m:=.i) (t6 B.range_ (l7 jQ hr (a6 (b7 0) f9))) rfl (fun _ _ _ _ _=>B7 (i:=0) c1Q rfl (cf rfl) (.inr rfl)) F8 (.inl rfl) a8D rfl (fun _ _ _ _ _=>Q0) (fun _ _ _ _ _=>(a5B B.tuple_ (l7 lA hr (a6 (b7 1) (a6 (b9 2) (a6 (y7 (n:=1) (u:=.i) (j6 (u:=.i) (PX.newi (b9 0)) l6)) f9)))))))))
def a1B:(List D->Option D)->EvS:=fun gm=>(c7 (i6 2 (eD1 true (a4 0) (t8 b8))) (c7 (i6 3 (t8 (a5 (a4 0) b8))) (c7 (sWh (fun _=>1000000) (tV (a4 3)) (c7 (i6 4 (t8 b8)) (c7 (B4 (iI (iL (a4 3))) (t5 5) (B4 (iI (iEn (eCl gm (a5 (a4 5) b8)))) (a4N 6 7) (sIf (tB (e2 (dIn true true) (a4 7) (a4 2))) (c7 (J3 2 true (a4 7) (eI (q9 (e2 (a4T true) (a4 2) (a4 5)) (t8 (a5 (a4 6) b8))))) (J8 4 (.l .i) u8 (a4 7))) k6))) (i6 3 (a4 4))))) (i9 (a4 2)))))
def J0:=fnL [.i] 6 a1B
abbrev a1C(B:Bk P w K mg base)(k:Nat):=HB B "ways_from" k ["start","led_to"] (spL K 1 (fun gm=>FnV P w K mg base 4 1 (.l .i) gm) J0 (.d true (.l .i)))
theorem a5b(B:Bk P w K mg base):a1C B 5:=
 m3 B.d18 fun _ _ F=>b7T F ["start","led_to","found","newest","newer","place","ask","after"] fun sc gm _ _ _ _ _ _ hr=>by exact a9 (i5 2 (t:=(.d true (.l .i))) sc.nd (a7 (b1V (kt:=true) (u:=(.l .i)) (by exact hr.units) (b9 0) (y7 (n:=0) (u:=.i) l6)))) (a9 (i5 3 (t:=(.l .i)) sc.nd (a7 (y7 (n:=1) (u:=.i) (j6 (u:=.i) (PX.newi (b9 0)) l6)))) (a9 (a2r (M:=[mdI,.fn (FnV P w K mg base 4 1 (.l .i) gm),.own (.d true (.l .i)),mdL,mdD,mdD,mdD,mdD]) (fun _=>1000000) bF (s9 (m5 3)) (a9 (i5 4 (t:=(.l .i)) sc.nd (a7 (y7 (n:=0) (u:=.i) l6))) (a9 (PSX.weak (M1:=[mdI,.fn (FnV P w K mg base 4 1 (.l .i) gm),.own (.d true (.l .i)),mdF,mdL,mdD,mdD,mdD]) (A9 (M:=[mdI,.fn (FnV P w K mg base 4 1 (.l .i) gm),.own (.d true (.l .i)),mdF,mdL,mdD,mdD,mdD]) (MB:=[mdI,.fn (FnV P w K mg base 4 1 (.l .i) gm),.own (.d true (.l .i)),mdF,mdL,mdI,mdD,mdD]) rfl bF (PIX.i (w6 (PX.newf (b7 3)))) (C6 5 sc.nd) C3 a5E (PSsX.weak (M2:=[mdI,.fn (FnV P w K mg base 4 1 (.l .i) gm),.own (.d true (.l .i)),mdF,mdL,mdI,mdD,mdD]) (c6 (a8H (fi:=(iI (iEn (eCl gm (a5 (a4 5) b8))))) (M:=[mdI,.fn (FnV P w K mg base 4 1 (.l .i) gm),.own (.d true (.l .i)),mdF,mdL,mdI,mdD,mdD]) (MB:=[mdI,.fn (FnV P w K mg base 4 1 (.l .i) gm),.own (.d true (.l .i)),mdF,mdL,mdI,mdI,mdI]) rfl bF (b9T B.enumerate_ (PX.frz (a5W 1 (k:=4) (n:=1) (u:=(.l .i)) (m:=gm) (hr.mono (by decide)) (a6 (b9 5) f9) (hfl:=(j5 y8))))) (b1c rfl (a0k (C6 6 sc.nd) (a0k (C6 7 sc.nd) a8s))) (b1D (w:=.i) (.inr rfl)) (fun Z ds h d hd _=>a5E Z ds h d hd) b1T (PSsX.weak (M2:=[mdI,.fn (FnV P w K mg base 4 1 (.l .i) gm),.own (.d true (.l .i)),mdF,mdL,mdI,mdI,mdI]) (c6 (n6 (M':=[mdI,.fn (FnV P w K mg base 4 1 (.l .i) gm),.own (.d true (.l .i)),mdF,mdL,mdI,mdI,mdI]) (b7y (kt:=true) (u:=(.l .i)) (a0U (by exact hr.units)) (b9 7) (O2 2 (u:=(.d true (.l .i))))) (a9 (a4U 2 (kt:=true) (u:=(.l .i)) (by exact hr.units) (b9 7) (a7 (MkL.i (a0O (b7B (kt:=true) (u:=(.l .i)) (by exact hr.units) (O2 2 (u:=(.d true (.l .i)))) (b9 5)) (y7 (n:=1) (u:=.i) (j6 (u:=.i) (PX.newi (b9 6)) l6)))))) (c6 (Y7 4 (u:=(.l .i)) (t:=.i) (N0 4 (u:=(.l .i))) (a7 (PX.newi (b9 7))) a1q))) k8)) l8 ((l9 6).trans (l9 7))))) l8 (l9 5))) (T9 3) l8) (c6 (i5 3 (t:=(.l .i)) sc.nd (D4 4 (u:=(.l .i)))))))) (c6 (g9 (D4 2 (u:=(.d true (.l .i))))))))
def N7:EvS:=(c7 (i6 2 (b0r J0 [.i] [0] (eCl u7 (a5 (a4 1) (a5 (a4 0) b8))) (a5 (a5A (a4 1)) b8))) (c7 (B4 (iI (iDk (a4 2))) (t5 3) (sIf (tB (e2 dEq (eCl o3 (a5 (a4 3) b8)) (eC (.int 1)))) (i9 (e2 (a1N true) (a4 2) (a4 3))) k6)) (i9 (eC .none))))
def u5:=fnD [.f,.f] 2 N7
abbrev A0(B:Bk P w K mg base)(k:Nat):=HB B "first_gathering" k ["machine","states"] (spD K 2 u5 .f)
theorem Z9(B:Bk P w K mg base)(iQ:a1C B 5)(kS:X9 B 3)(LT:(x8 K "first_gathering").isSome=true)(KB:K.In base)(GB:base.Ns aV mg):A0 B 6:=
 a8U B.d19 fun _ _ F a=>c0e F ["machine","states","found","held"] LT KB GB a fun sc _ _ oB oF oy A outer s H _ hr=>by exact a9 (i5 2 (t:=(.d true (.l .i))) sc.nd (a7 (by exact a7E (kf:=3) (u:=(.d true (.l .i))) (uf:=(.l .i)) (N:=["held","machine"]) (pl:=["held"]) (ys:=["machine"]) (js:=[0]) (us:=[.i]) iQ hr (L5 (a5B B.tuple_ (b7 1)) (a8O (by decide) oF oB oy rfl)) ⟨_,_,_,rfl,rfl,rfl,rfl,rfl,rfl⟩ ⟨⟨_,rfl⟩,trivial⟩ (by exact⟨rfl,rfl,rfl,by decide +kernel,rfl,by decide +kernel,by decide +kernel,by decide +kernel,rfl⟩) rfl (fun _ _ _ us hl=>by obtain⟨_,rfl⟩:=VS.b4F hl;rfl) (fun fa c A outer s H hr=>l7 kS hr (a6 (b7 1) (a6 (b9 0) f9))) (hfl:=(L4 a1V))))) (a9 (PSX.weak (M1:=[mdF,mdF,mdF,mdD]) (A9 (M:=[mdF,mdF,mdF,mdD]) (MB:=[mdF,mdF,mdF,mdI]) rfl bF (PIX.i (b2i (PX.newf (b7 2)))) (C6 3 sc.nd) C3 a5E (PSsX.weak (M2:=[mdF,mdF,mdF,mdI]) (c6 (n6 (M':=[mdF,mdF,mdF,mdI]) (i8 v7 (m6 B.len_ (b9 3)) a8) (c6 (g9 (a7 (a8K (kt:=true) (by exact hr.units) (PX.newf (b7 2)) (b9 3))))) k8)) l8 (l9 3))) (T9 2) l8) (c6 (g9 (a7 (PX.itof D3)))))
def a2S:EvS:=(c7 (sEx (eCl n9 (a5 (a4 0) b8))) (i9 (eCl u5 (a5 (a4 0) (a5 (eCl D7 (a5 (a4 0) b8)) b8)))))
def L9:=fnD [.f] 0 a2S
abbrev a0a(B:Bk P w K mg base)(k:Nat):=HB B "together" k ["machine"] (spD K 1 L9 .f)
theorem a6C(B:Bk P w K mg base)(dP:J9 B 6)(cJ:z8 B 6)(cK:A0 B 6)(c_:z9 B 6):a0a B 7:=
 m3 B.d20 fun _ _ F=>fnF F ["machine"] fun _ _ _ _ _ _ _ hr=>by exact a9 (a1T (l7 cJ hr (a6 (b7 0) f9))) (c6 (g9 (a7 (by exact H9 (u:=.f) cK hr (w9 (PX.newf (b7 0)) (w9 (PX.frz (l7 dP hr (a6 (b7 0) f9))) (N4))) (hfl:=(j5 (j5 y8)))))))
def a1D:EvR:=(rCl D9 (a5 (a4 0) b8))
def Q9:=fnR [.f] 0 a1D
abbrev a0b(B:Bk P w K mg base)(k:Nat):=HR B "together" k ["machine"] (spR K 1 Q9)
theorem a5c(B:Bk P w K mg base)(dP:J9 B 6)(cJ:z8 B 6)(cK:A0 B 6)(c_:z9 B 6):a0b B 7:=
 a8V B.d20 fun _ _ F=>c0f F ["machine"] fun _ _ _ _ _ _ _ L hr=>by exact a1X (a8T (a6l (b7P L) c_ hr (a6 (b7 0) f9) (hfl:=(j5 y8))))
def b_law_set:EvS:=(c7 (i6 2 (t8 b8)) (c7 (B4 (iR (a4 1)) (t5 3) (c7 (sIf (tB (e2 dEq (e2 n4 (a4 0) (eC (.int 2))) (eC (.int 1)))) (J8 2 (.l .i) u8 (a4 3)) k6) (i6 0 (e2 C2 (a4 0) (eC (.int 2)))))) (c7 (sIf (tB (e2 dEq (a4 2) (t8 b8))) (i9 (t8 (a5 (e2 x9 (a4 1) (eC (.int 1))) b8))) k6) (i9 (a4 2)))))
def m_law_set:=fnD [.i,.i] 2 b_law_set
abbrev a4t(B:Bk P w K mg base)(k:Nat):=HB B "_law_set" k ["_law_cell","_law_n"] (spD K 2 m_law_set (.l .i))
theorem ok_law_set(B:Bk P w K mg base):a4t B 1:=
 m3 B.d21 fun _ _ F=>fnF F ["_law_cell","_law_n","_law_some","_law_s"] fun sc _ _ _ _ _ _ hr=>by exact a9 (i5 2 (t:=(.l .i)) sc.nd (a7 (y7 (n:=0) (u:=.i) l6))) (a9 (A9 (M:=[mdI,mdI,mdL,mdD]) (MB:=[mdI,mdI,mdL,mdI]) rfl bF (t6 B.range_ (b9 1)) (C6 3 sc.nd) C3 a4P (PSsX.weak (M2:=[mdI,mdI,mdL,mdI]) (a9 (n6 (M':=[mdI,mdI,mdL,mdI]) (i8 v7 (c8 l0 (b9 0) a8) a8) (c6 (Y7 2 (u:=(.l .i)) (t:=.i) (N0 2 (u:=(.l .i))) (a7 (PX.newi (b9 3))) a1q)) k8) (c6 (i5 0 (t:=.i) sc.nd (a7 (c8 E6 (b9 0) a8))))) l8 (l9 3))) (a9 (n6 (M':=[mdI,mdI,mdL,mdD]) (i8 v7 (m5 2) (y7 (n:=0) (u:=.i) l6)) (c6 (g9 (a7 (y7 (n:=1) (u:=.i) (j6 (u:=.i) (c8 Y4 (b9 1) a8) l6))))) k8) (c6 (g9 (D4 2 (u:=(.l .i)))))))
def S6:EvS:=(i9 (a3z (e1 (fun d=>some (.bool (isList d))) (a4 0)) (eCh dLe dLe (eC (.int 1)) (eCl o3 (a5 (a4 0) b8)) (a4 1))))
def B8:=fnD [.f,.i] 0 S6
abbrev S7(B:Bk P w K mg base)(k:Nat):=HB B "is_list_up_to" k ["thing","most"] (spD K 2 B8 .i)
theorem a1b(B:Bk P w K mg base):S7 B 1:=
 m3 B.d22 fun _ _ F=>fnF F ["thing","most"] fun _ _ _ _ _ _ _ _=>by exact c6 (g9 (a7 (Y5 (T7 a2o B.isinstance_ B.list_ PyProof.Rows.Boot.«list» (b7 0)) (a0M (a5w a5u a5u a8 (m6 B.len_ (b7 0)) (b9 1))))))
def a2T:EvS:=(i9 (a3z (e1 (fun d=>some (.bool (isInt d))) (a4 0)) (a9K (e1 (fun d=>some (.bool (isBool d))) (a4 0)))))
def R0:=fnD [.f] 0 a2T
abbrev a2U(B:Bk P w K mg base)(k:Nat):=HB B "is_whole" k ["thing"] (spD K 1 R0 .i)
theorem a6D(B:Bk P w K mg base):a2U B 1:=
 m3 B.d23 fun _ _ F=>fnF F ["thing"] fun _ _ _ _ _ _ _ _=>by exact c6 (g9 (a7 (Y5 (T7 a8A B.isinstance_ B.int_ PyProof.Rows.Boot.«int» (b7 0)) (a0M (a7g (T7 a5z B.isinstance_ B.bool_ PyProof.Rows.Boot.«bool» (b7 0)))))))
def a2V:EvS:=(i9 (a3z (eCl R0 (a5 (a4 0) b8)) (eCh dLe dLt (eC (.int 0)) (a4 0) (a4 1))))
def R1:=fnD [.f,.i] 0 a2V
abbrev a2W(B:Bk P w K mg base)(k:Nat):=HB B "is_below" k ["thing","bound"] (spD K 2 R1 .i)
theorem a6E(B:Bk P w K mg base)(jo:a2U B 1):a2W B 2:=
 m3 B.d24 fun _ _ F=>fnF F ["thing","bound"] fun _ _ _ _ _ _ _ hr=>by exact c6 (g9 (a7 (Y5 (l7 jo hr (a6 (b7 0) f9)) (a0M (a5w a5u a2k a8 (b7 0) (b9 1))))))
def a6F:EvS:=(i9 (a3z (eCl B8 (a5 (a4 0) (a5 (a4 1) b8))) (a3z (eCl b6L (a5 (t9 (iI (iL (a4 0))) [1] pt1 tT (eCl R1 (a5 (a4 0) (a5 (a4 1) b8)))) b8)) (e2 dEq (a4 0) (U1 (a4 0))))))
def a0x:=fnD [.f,.i] 0 a6F
abbrev a6G(B:Bk P w K mg base)(k:Nat):=HB B "is_set" k ["thing","states"] (spD K 2 a0x .i)
theorem b0I(B:Bk P w K mg base)(gA:S7 B 2)(jq:a2W B 2):a6G B 3:=
 m3 B.d25 fun _ _ F=>fnF F ["thing","states"] fun _ _ _ _ _ _ _ hr=>by exact c6 (g9 (a7 (Y5 (l7 gA hr (a6 (b7 0) (a6 (b9 1) f9))) (Y5 (a7i (b6M rfl) B.all_ PyProof.Rows.Boot.«all» (a6 (V7 rfl (tn:=["state"]) (ys:=["states"]) (js:=[1]) (m:=.i) (PIX.i (w6 (PX.newf (b7 0)))) rfl (fun _ _ _ _ _=>B7 (i:=0) c1R rfl (cf rfl) (.inr rfl)) F8 (.inl rfl) a3V rfl (fun _ _ _ _ _=>Q0) (fun _ _ _ _ _=>(l7 jq hr (a6 (b9 0) (a6 (b9 1) f9))))) f9)) (a0M (T6 v7 (b7 0) (a2H rfl B.set_ B.sorted_ (b7 0))))))))
def a2X:EvS:=(sIf (tNo (tV (eCl a0x (a5 (a4 1) (a5 (eCl o3 (a5 (a4 0) b8)) b8))))) sNo k6)
def R4:=fnN [.f,.f] 0 a2X
abbrev a2Y(B:Bk P w K mg base)(k:Nat):=HB B "need_set" k ["machine","thing"] (spD K 2 R4 .i)
theorem a6H(B:Bk P w K mg base)(kC:a6G B 3):a2Y B 4:=
 m3 B.d26 fun _ _ F=>c0d F ["machine","thing"] [.own .f,.own .f] fun _ _ _ _ _ _ _ hr=>by exact c6 (n6 (M':=[mdF,mdF]) (u9 (s9 (l7 kC hr (a6 (b7 1) (a6 (m6 B.len_ (b7 0)) f9))))) (c6 (b5C)) k8)
def Y0:EvS:=(c7 (sEx (eCl n9 (a5 (a4 0) b8))) (c7 (sEx (eCl R4 (a5 (a4 0) (a5 (a4 1) b8)))) (i9 (eCl u5 (a5 (a4 0) (a5 (a4 1) b8))))))
def B6:=fnD [.f,.f] 0 Y0
abbrev Y1(B:Bk P w K mg base)(k:Nat):=HB B "together_of" k ["machine","states"] (spD K 2 B6 .f)
theorem a2Z(B:Bk P w K mg base)(cJ:z8 B 6)(cK:A0 B 6)(jn:a2Y B 6)(c_:z9 B 6):Y1 B 7:=
 m3 B.d27 fun _ _ F=>fnF F ["machine","states"] fun _ _ _ _ _ _ _ hr=>by exact a9 (a1T (l7 cJ hr (a6 (b7 0) f9))) (a9 (a1T (l7 jn hr (a6 (b7 0) (a6 (b7 1) f9)))) (c6 (g9 (a7 (by exact H9 (u:=.f) cK hr (w9 (PX.newf (b7 0)) (w9 (PX.newf (b7 1)) (N4))) (hfl:=(j5 (j5 y8))))))))
def b_law_too_much:EvS:=(c7 (i6 1 (eC .none)) (c7 (b2I Lx 1 2 (sEx (eCl L9 (a5 (a4 0) b8))) (rCl Q9 (a5 (a4 0) b8))) (i9 (b4T Lx 1 fun n=>n == "TooMuch"))))
def m_law_too_much:=fnD [.f] 2 b_law_too_much
abbrev U6(B:Bk P w K mg base)(k:Nat):=HB B "_law_too_much" k ["_law_table"] (spD K 1 m_law_too_much .i)
theorem ok_law_too_much(B:Bk P w K mg base)(f_:a0a B 7)(gO:a0b B 7):U6 B 8:=
 m3 B.d28 fun _ _ F=>fnF F ["_law_table","_law_kept","e"] fun sc _ _ _ _ _ _ hr=>by
 obtain⟨C0,EP,ET⟩:=B.pe;obtain⟨_,kG⟩:=B.i_TooMuch;exact a9 (i5 1 (t:=.i) sc.nd (a7 D3)) (a9 (b7Q (M:=[mdF,mdI,mdD]) (L:=Lx) 1 2 rfl rfl sc.nd (by decide) (c6 (a1T (by exact H9 (u:=.f) f_ hr (w9 (PX.newf (b7 0)) (N4)) (hfl:=(j5 y8))))) (fun pn EE W T=>a1X (a8T (a6l T gO hr (a6 (b7 0) f9) (hfl:=(j5 y8))))) EP ET) (c6 (g9 (a7 (b7S 1 (f:=fun n=>n == "TooMuch") (L:=Lx) kG.2 B.isinstance_ kG.1)))))
def b_law_end:EvS:=(c7 (B4 (iI (iL (a4 2))) (t5 3) (i6 1 (e2 j7 (e2 j7 (e2 dIx (a4 0) (a4 1)) (a4 3)) (eC (.int 1))))) (i9 (a4 1)))
def m_law_end:=fnD [.f,.i,.f] 1 b_law_end
abbrev a1c(B:Bk P w K mg base)(k:Nat):=HB B "_law_end" k ["_law_table","_law_state","_law_probe"] (spD K 3 m_law_end .i)
theorem ok_law_end(B:Bk P w K mg base):a1c B 1:=
 m3 B.d29 fun _ _ F=>fnF F ["_law_table","_law_state","_law_probe","_law_ask"] fun sc _ _ _ _ _ _ _=>by exact a9 (A9 (M:=[mdF,mdI,mdF,mdD]) (MB:=[mdF,mdI,mdF,mdI]) rfl bF (PIX.i (w6 (PX.newf (b7 2)))) (C6 3 sc.nd) C3 a5E (PSsX.weak (M2:=[mdF,mdI,mdF,mdI]) (c6 (i5 1 (t:=.i) sc.nd (a7 (m9 (m9 (Y6 (PX.newf (b7 0)) (b9 1)) (b9 3)) a8)))) l8 (l9 3))) (c6 (g9 (a7 (PX.newi (b9 1)))))
def b_law_to_one:EvS:=(i9 (e2 dEq (a1U (t9 (iI (iL (a4 1))) [0,2] pt1 tT (eCl m_law_end (a5 (a4 1) (a5 (a4 0) (a5 (a4 2) b8)))))) (eC (.int 1))))
def m_law_to_one:=fnD [.f,.f,.f] 0 b_law_to_one
abbrev K0(B:Bk P w K mg base)(k:Nat):=HB B "_law_to_one" k ["_law_table","_law_some","_law_probe"] (spD K 3 m_law_to_one .i)
theorem ok_law_to_one(B:Bk P w K mg base)(gd:a1c B 1):K0 B 2:=
 m3 B.d30 fun _ _ F=>fnF F ["_law_table","_law_some","_law_probe"] fun _ _ _ _ _ _ _ hr=>by exact c6 (g9 (a7 (T6 v7 (b0b rfl B.set_ B.len_ (V7 rfl (tn:=["_law_s"]) (ys:=["_law_table","_law_probe"]) (js:=[0,2]) (m:=.i) (PIX.i (w6 (PX.newf (b7 1)))) rfl (fun _ _ _ _ _=>B7 (i:=0) c1S rfl (cf rfl) (.inr rfl)) F8 (.inl rfl) a3V rfl (fun _ _ _ _ _=>Q0) (fun _ _ _ _ _=>(l7 gd hr (a6 (b7 1) (a6 (b9 0) (a6 (b7 2) f9))))))) a8)))
def b_law_none_before:EvS:=(c7 (sIf (tAn (tV (eCl m_law_to_one (a5 (a4 0) (a5 (a4 1) (a5 (a4 3) b8))))) (tB (e2 b4q (C7 (a5 (eCl o3 (a5 (a4 3) b8)) (a5 (a4 3) b8))) (C7 (a5 (eCl o3 (a5 (a4 2) b8)) (a5 (a4 2) b8)))))) (i9 (eC (.bool false))) k6) (c7 (B4 (iR (eCl o3 (a5 (a4 2) b8))) (t5 4) (c7 (sIf (tV (eCl m_law_to_one (a5 (a4 0) (a5 (a4 1) (a5 (eI (q9 (eI (eSl (a4 2) oNo (oSo (a4 4)))) (eI (eSl (a4 2) (oSo (e2 n5 (a4 4) (eC (.int 1)))) oNo)))) b8))))) (i9 (eC (.bool false))) k6) (B4 (iR (e2 j7 (a4 2) (a4 4))) (t5 5) (c7 (i6 6 (eI (eSl (eI (q9 (a4 3) (a4 2))) oNo (oSo (e2 x9 (e2 x9 (eCl o3 (a5 (a4 2) b8)) (a4 4)) (eC (.int 1))))))) (sIf (tV (eCl m_law_to_one (a5 (a4 0) (a5 (a4 1) (a5 (eI (q9 (eI (q9 (eI (eSl (a4 2) oNo (oSo (a4 4)))) (t8 (a5 (a4 5) b8)))) (a4 6))) b8))))) (i9 (eC (.bool false))) k6))))) (i9 (eC (.bool true)))))
def m_law_none_before:=fnD [.f,.f,.f,.f] 3 b_law_none_before
abbrev N8(B:Bk P w K mg base)(k:Nat):=HB B "_law_none_before" k ["_law_table","_law_some","_law_found","_law_probe"] (spD K 4 m_law_none_before .i)
theorem ok_law_none_before(B:Bk P w K mg base)(cO:K0 B 2):N8 B 3:=
 m3 B.d31 fun _ _ F=>fnF F ["_law_table","_law_some","_law_found","_law_probe","_law_k","_law_a","_law_rest"] fun sc _ _ _ _ _ _ hr=>by exact a9 (n6 (M':=[mdF,mdF,mdF,mdF,mdD,mdD,mdD]) (PWX.pt (V5 (s9 (l7 cO hr (a6 (b7 0) (a6 (b7 1) (a6 (b7 3) f9))))) (P1 (i8 (b7u (by exact hr.units)) (a2m (us:=[.i,.f]) (j6 (u:=.i) (m6 B.len_ (b7 3)) (j6 (u:=.f) (PX.newf (b7 3)) l6))) (a2m (us:=[.i,.f]) (j6 (u:=.i) (m6 B.len_ (b7 2)) (j6 (u:=.f) (PX.newf (b7 2)) l6))))))) (c6 (g9 (a7 D2))) k8) (a9 (A9 (M:=[mdF,mdF,mdF,mdF,mdD,mdD,mdD]) (MB:=[mdF,mdF,mdF,mdF,mdI,mdD,mdD]) rfl bF (t6 B.range_ (m6 B.len_ (b7 2))) (C6 4 sc.nd) C3 a4P (PSsX.weak (M2:=[mdF,mdF,mdF,mdF,mdI,mdD,mdD]) (a9 (n6 (M':=[mdF,mdF,mdF,mdF,mdI,mdD,mdD]) (s9 (l7 cO hr (a6 (b7 0) (a6 (b7 1) (a6 (MkL.i (a0O (MkL.i (G8 (PX.newf (b7 2)) G6 (G7 (b9 4)))) (MkL.i (G8 (PX.newf (b7 2)) (G7 (c8 o5 (b9 4) a8)) G6)))) f9))))) (c6 (g9 (a7 D2))) k8) (c6 (A9 (M:=[mdF,mdF,mdF,mdF,mdI,mdD,mdD]) (MB:=[mdF,mdF,mdF,mdF,mdI,mdI,mdD]) rfl bF (t6 B.range_ (m9 (b7 2) (b9 4))) (C6 5 sc.nd) C3 a4P (PSsX.weak (M2:=[mdF,mdF,mdF,mdF,mdI,mdI,mdL]) (a9 (i5 6 (t:=(.l .i)) sc.nd (a7 (MkL.i (G8 (MkL.i (a0O (PX.newf (b7 3)) (PX.newf (b7 2)))) G6 (G7 (c8 Y4 (c8 Y4 (m6 B.len_ (b7 2)) (b9 4)) a8)))))) (c6 (n6 (M':=[mdF,mdF,mdF,mdF,mdI,mdI,mdL]) (s9 (l7 cO hr (a6 (b7 0) (a6 (b7 1) (a6 (MkL.i (a0O (MkL.i (a0O (MkL.i (G8 (PX.newf (b7 2)) G6 (G7 (b9 4)))) (y7 (n:=1) (u:=.i) (j6 (u:=.i) (PX.newi (b9 5)) l6)))) (m5 6))) f9))))) (c6 (g9 (a7 D2))) k8))) l8 ((l9 5).trans (l9 6)))))) l8 (l9 4))) (c6 (g9 (a7 D2))))
def b_law_whole:EvS:=(i9 (a3z (e1 (fun d=>some (.bool (isInt d))) (a4 0)) (a9K (e1 (fun d=>some (.bool (isBool d))) (a4 0)))))
def m_law_whole:=fnD [.f] 0 b_law_whole
abbrev U7(B:Bk P w K mg base)(k:Nat):=HB B "_law_whole" k ["_law_found"] (spD K 1 m_law_whole .i)
theorem ok_law_whole(B:Bk P w K mg base):U7 B 1:=
 m3 B.d32 fun _ _ F=>fnF F ["_law_found"] fun _ _ _ _ _ _ _ _=>by exact c6 (g9 (a7 (Y5 (T7 a8A B.isinstance_ B.int_ PyProof.Rows.Boot.«int» (b7 0)) (a0M (a7g (T7 a5z B.isinstance_ B.bool_ PyProof.Rows.Boot.«bool» (b7 0)))))))
def b_law_probe_of:EvS:=(c7 (sIf (tNo (tV (e1 (fun d=>some (.bool (isList d))) (a4 0)))) (i9 (eC (.bool false))) k6) (c7 (B4 (iL (a4 0)) (t5 2) (sIf (O1 (tNo (tV (eCl m_law_whole (a5 (a4 2) b8)))) (tNo (tB (eCh dLe dLt (eC (.int 0)) (a4 2) (a4 1))))) (i9 (eC (.bool false))) k6)) (i9 (eC (.bool true)))))
def m_law_probe_of:=fnD [.f,.i] 1 b_law_probe_of
abbrev M3(B:Bk P w K mg base)(k:Nat):=HB B "_law_probe_of" k ["_law_found","_law_asks"] (spD K 2 m_law_probe_of .i)
theorem ok_law_probe_of(B:Bk P w K mg base)(eJ:U7 B 1):M3 B 2:=
 m3 B.d33 fun _ _ F=>fnF F ["_law_found","_law_asks","_law_ask"] fun sc _ _ _ _ _ _ hr=>by exact a9 (n6 (M':=[mdF,mdI,mdD]) (u9 (s9 (T7 a2o B.isinstance_ B.list_ PyProof.Rows.Boot.«list» (b7 0)))) (c6 (g9 (a7 D2))) k8) (a9 (A9 (M:=[mdF,mdI,mdD]) (MB:=[mdF,mdI,mdF]) rfl bF (w6 (PX.newf (b7 0))) (C6 2 sc.nd) b6O (fun _ _ _ _ _=>trivial) (PSsX.weak (M2:=[mdF,mdI,mdF]) (c6 (n6 (M':=[mdF,mdI,mdF]) (PWX.pt (K8 (u9 (s9 (l7 eJ hr (a6 (b7 2) f9)))) (M7 (u9 (a9L a5u a2k a8 (b7 2) (b9 1)))))) (c6 (g9 (a7 D2))) k8)) l8 (l9 2))) (c6 (g9 (a7 D2))))
def b_law_first:EvS:=(c7 (sIf (tB (e2 (O9 false) (a4 2) (eC .none))) (i9 (a9K (eCl m_law_to_one (a5 (a4 0) (a5 (a4 1) (a5 (a4 3) b8)))))) k6) (c7 (sIf (O1 (tNo (tV (eCl m_law_probe_of (a5 (a4 2) (a5 (eCl o3 (a5 (e2 dIx (a4 0) (eC (.int 0))) b8)) b8))))) (tNo (tV (eCl m_law_to_one (a5 (a4 0) (a5 (a4 1) (a5 (a4 2) b8))))))) (i9 (eC (.bool false))) k6) (i9 (eCl m_law_none_before (a5 (a4 0) (a5 (a4 1) (a5 (a4 2) (a5 (a4 3) b8))))))))
def m_law_first:=fnD [.f,.f,.f,.f] 0 b_law_first
abbrev a1E(B:Bk P w K mg base)(k:Nat):=HB B "_law_first" k ["_law_table","_law_some","_law_found","_law_probe"] (spD K 4 m_law_first .i)
theorem ok_law_first(B:Bk P w K mg base)(cO:K0 B 3)(fO:N8 B 3)(d_:M3 B 3):a1E B 4:=
 m3 B.d34 fun _ _ F=>fnF F ["_law_table","_law_some","_law_found","_law_probe"] fun _ _ _ _ _ _ _ hr=>by exact a9 (n6 (M':=[mdF,mdF,mdF,mdF]) (i8 a0K (b7 2) D3) (c6 (g9 (a7 (a7g (l7 cO hr (a6 (b7 0) (a6 (b7 1) (a6 (b7 3) f9)))))))) k8) (a9 (n6 (M':=[mdF,mdF,mdF,mdF]) (PWX.pt (K8 (u9 (s9 (l7 d_ hr (a6 (b7 2) (a6 (m6 B.len_ (Y6 (PX.newf (b7 0)) a8)) f9))))) (M7 (u9 (s9 (l7 cO hr (a6 (b7 0) (a6 (b7 1) (a6 (b7 2) f9))))))))) (c6 (g9 (a7 D2))) k8) (c6 (g9 (a7 (l7 fO hr (a6 (b7 0) (a6 (b7 1) (a6 (b7 2) (a6 (b7 3) f9)))))))))
def b_law_pairs_apart:EvS:=(c7 (sIf (tNo (tV (e1 (fun d=>some (.bool (isList d))) (a4 1)))) (i9 (eC (.bool false))) k6) (c7 (B4 (iI (iL (a4 1))) (t5 3) (c7 (sIf (O1 (tNo (tV (e1 (fun d=>some (.bool (M8 d))) (a4 3)))) (tB (e2 dNe (eCl o3 (a5 (a4 3) b8)) (eC (.int 2))))) (i9 (eC (.bool false))) k6) (c7 (sIf (O1 (tNo (tV (eCl m_law_whole (a5 (e2 j7 (a4 3) (eC (.int 0))) b8)))) (O1 (tNo (tV (eCl m_law_whole (a5 (e2 j7 (a4 3) (eC (.int 1))) b8)))) (tNo (tB (b0k dLe dLt dLt (eC (.int 0)) (e2 j7 (a4 3) (eC (.int 0))) (e2 j7 (a4 3) (eC (.int 1))) (eCl o3 (a5 (a4 0) b8))))))) (i9 (eC (.bool false))) k6) (B4 (iR (e2 n5 (eCl o3 (a5 (a4 2) b8)) (eC (.int 1)))) (t5 4) (sIf (tB (e2 dEq (eCl m_law_end (a5 (a4 0) (a5 (e2 j7 (a4 3) (eC (.int 0))) (a5 (eI (eSl (a4 2) oNo (oSo (a4 4)))) b8)))) (eCl m_law_end (a5 (a4 0) (a5 (e2 j7 (a4 3) (eC (.int 1))) (a5 (eI (eSl (a4 2) oNo (oSo (a4 4)))) b8)))))) (i9 (eC (.bool false))) k6))))) (i9 (eC (.bool true)))))
def m_law_pairs_apart:=fnD [.f,.f,.f] 2 b_law_pairs_apart
abbrev N9(B:Bk P w K mg base)(k:Nat):=HB B "_law_pairs_apart" k ["_law_table","_law_shut","_law_probe"] (spD K 3 m_law_pairs_apart .i)
theorem ok_law_pairs_apart(B:Bk P w K mg base)(gd:a1c B 1)(eJ:U7 B 1):N9 B 2:=
 m3 B.d35 fun _ _ F=>fnF F ["_law_table","_law_shut","_law_probe","_law_pair","_law_k"] fun sc _ _ _ _ _ _ hr=>by exact a9 (n6 (M':=[mdF,mdF,mdF,mdD,mdD]) (u9 (s9 (T7 a2o B.isinstance_ B.list_ PyProof.Rows.Boot.«list» (b7 1)))) (c6 (g9 (a7 D2))) k8) (a9 (A9 (M:=[mdF,mdF,mdF,mdD,mdD]) (MB:=[mdF,mdF,mdF,mdI,mdD]) rfl bF (PIX.i (w6 (PX.newf (b7 1)))) (C6 3 sc.nd) C3 a5E (PSsX.weak (M2:=[mdF,mdF,mdF,mdI,mdD]) (a9 (n6 (M':=[mdF,mdF,mdF,mdI,mdD]) (PWX.pt (K8 (u9 (s9 (T7 a9P B.isinstance_ B.tuple_ PyProof.Rows.Boot.«tuple» (b9 3)))) (M7 (i8 Z3 (m6 B.len_ (b9 3)) a8)))) (c6 (g9 (a7 D2))) k8) (a9 (n6 (M':=[mdF,mdF,mdF,mdI,mdD]) (PWX.pt (K8 (u9 (s9 (l7 eJ hr (a6 (m9 (b9 3) a8) f9)))) (K8 (u9 (s9 (l7 eJ hr (a6 (m9 (b9 3) a8) f9)))) (M7 (u9 (a7z a5u a2k a2k a8 (m9 (b9 3) a8) (m9 (b9 3) a8) (m6 B.len_ (b7 0)))))))) (c6 (g9 (a7 D2))) k8) (c6 (A9 (M:=[mdF,mdF,mdF,mdI,mdD]) (MB:=[mdF,mdF,mdF,mdI,mdI]) rfl bF (t6 B.range_ (c8 o5 (m6 B.len_ (b7 2)) a8)) (C6 4 sc.nd) C3 a4P (PSsX.weak (M2:=[mdF,mdF,mdF,mdI,mdI]) (c6 (n6 (M':=[mdF,mdF,mdF,mdI,mdI]) (i8 v7 (l7 gd hr (a6 (b7 0) (a6 (m9 (b9 3) a8) (a6 (MkL.i (G8 (PX.newf (b7 2)) G6 (G7 (b9 4)))) f9)))) (l7 gd hr (a6 (b7 0) (a6 (m9 (b9 3) a8) (a6 (MkL.i (G8 (PX.newf (b7 2)) G6 (G7 (b9 4)))) f9))))) (c6 (g9 (a7 D2))) k8)) l8 (l9 4)))))) l8 (l9 3))) (c6 (g9 (a7 D2))))
def b_law:EvS:=(c7 (i6 1 (eCl m_law_machine (a5 (a4 0) (a5 (eC (.int 7)) (a5 (eC (.int 14)) b8))))) (c7 (i6 2 (eCl o3 (a5 (a4 1) b8))) (c7 (i6 3 (eCl m_law_cells (a5 (a4 0) (a5 (eCl (a1S false) (a5 (eCl o3 (a5 (a4 0) b8)) (a5 (eC (.int 63)) b8))) b8)))) (c7 (i6 4 (t9 (iR (eCl o3 (a5 (a4 3) b8))) [1,3] pt1 tT (e2 n4 (e2 n4 (e2 n5 (e2 A3 (e2 A5 (a4 2) (a4 0)) (eC (.int 16807))) (e2 A3 (e2 A3 (a4 0) (a4 0)) (eC (.int 48271)))) (eC (.int 1000003))) (eCl o3 (a5 (e2 A5 (a4 1) (eC (.int 0))) b8))))) (c7 (i6 4 (eI (eSl (a4 4) oNo (oSo (e2 x9 (eCl o3 (a5 (a4 4) b8)) (e2 A3 (e2 n4 (eCl m_law_cell_at (a5 (a4 0) (a5 (eC (.int 4)) b8))) (eC (.int 3))) (eC (.int 20)))))))) (c7 (i6 5 (t9 (iL (a4 1)) [] pt1 tT (eI (a2p (a4 0))))) (c7 (i6 6 (eCl a1Y (a5 (a4 5) b8))) (c7 (i6 7 (eCl Q8 (a5 (a4 5) b8))) (c7 (sIf (O1 (tB (e2 dNe (a4 5) (a4 1))) (O1 (tNo (tV (eCl m_law_pairs_apart (a5 (a4 1) (a5 (a4 6) (a5 (eI (eSl (a4 4) oNo (oSo (eC (.int 12))))) b8)))))) (tB (e2 dNe (e2 dNe (a4 6) (t8 b8)) (e2 (O9 false) (a4 7) (eC .none)))))) (i9 (eC (.bool false))) k6) (c7 (i6 8 (a2D (a4 2))) (c7 (sIf (tAn (tB (e2 (O9 true) (a4 7) (eC .none))) (tNo (tV (eCl m_law_probe_of (a5 (a4 7) (a5 (eCl o3 (a5 (e2 dIx (a4 1) (eC (.int 0))) b8)) b8)))))) (i9 (eC (.bool false))) k6) (c7 (sIf (tAn (tB (e2 (O9 true) (a4 7) (eC .none))) (tNo (tV (eCl m_law_to_one (a5 (a4 1) (a5 (a4 8) (a5 (a4 7) b8))))))) (i9 (eC (.bool false))) k6) (c7 (sIf (tB (e2 dGt (a4 2) (eC (.int 7)))) (i9 (eCl m_law_too_much (a5 (a4 5) b8))) k6) (c7 (i6 9 (eCl L9 (a5 (a4 5) b8))) (c7 (sIf (O1 (tB (e2 dNe (e2 (O9 false) (a4 9) (eC .none)) (e2 (O9 false) (a4 7) (eC .none)))) (tNo (tV (eCl m_law_first (a5 (a4 1) (a5 (a4 8) (a5 (a4 9) (a5 (a4 4) b8)))))))) (i9 (eC (.bool false))) k6) (c7 (i6 10 (eCl m_law_set (a5 (e2 n4 (e2 A3 (eCl m_law_cell_at (a5 (a4 0) (a5 (eC (.int 5)) b8))) (eC (.int 48271))) (eC (.int 1000000007))) (a5 (a4 2) b8)))) (c7 (i6 11 (eCl B6 (a5 (a4 5) (a5 (eI (a2p (a4 10))) b8)))) (c7 (sIf (tNo (tV (eCl m_law_first (a5 (a4 1) (a5 (a4 10) (a5 (a4 11) (a5 (a4 4) b8))))))) (i9 (eC (.bool false))) k6) (c7 (sIf (tB (e2 (O9 true) (a4 9) (eC .none))) (sIf (O1 (tB (e2 (O9 false) (a4 11) (eC .none))) (O1 (tB (e2 b1L (C7 (a5 (eCl o3 (a5 (a4 11) b8)) (a5 (a4 11) b8))) (C7 (a5 (eCl o3 (a5 (a4 9) b8)) (a5 (a4 9) b8))))) (tB (e2 b1L (C7 (a5 (eCl o3 (a5 (a4 9) b8)) (a5 (a4 9) b8))) (C7 (a5 (eCl o3 (a5 (a4 7) b8)) (a5 (a4 7) b8))))))) (i9 (eC (.bool false))) k6) k6) (i9 (a3z (e2 dEq (eCl B6 (a5 (a4 5) (a5 (a4 8) b8))) (a4 9)) (e2 dEq (a4 5) (a4 1)))))))))))))))))))))))
def m_law:=fnD [.f] 11 b_law
theorem ok_law(B:Bk P w K mg base)(dS:O3 B 8)(eK:U5 B 8)(ia:X7 B 8)(lJ:a9b B 8)(jr:a2Q B 8)(f_:a0a B 8)(jP:a4t B 8)(gi:Y1 B 8)(gN:U6 B 8)(cO:K0 B 8)(d_:M3 B 8)(g_:a1E B 8)(fN:N9 B 8)(gO:a0b B 8)(F:Fun K "law" "law" (top 50) f fd):FnOk P w K mg base CX0 9 f fd ["_law_script"] (spD K 1 m_law .i):=
 fnF F ["_law_script","_law_table","_law_n","_law_xs","_law_probe","_law_handed","_law_shut","_law_paired","_law_every","_law_found","_law_some","_law_part"] fun sc _ _ _ _ _ _ hr=>by exact a9 (i5 1 (t:=(.l (.l .i))) sc.nd (a7 (l7 ia hr (a6 (b7 0) (a6 a8 (a6 a8 f9)))))) (a9 (i5 2 (t:=.i) sc.nd (a7 (m6 B.len_ (O2 1 (u:=(.l (.l .i))))))) (a9 (i5 3 (t:=(.l .i)) sc.nd (a7 (l7 eK hr (a6 (b7 0) (a6 (a7i (b6K rfl) B.min_ PyProof.Rows.Boot.«min» (a6 (m6 B.len_ (b7 0)) (a6 a8 f9))) f9))))) (a9 (Q3 4 (t:=.i) sc.nd rfl (tn:=["_law_k"]) (ys:=["_law_table","_law_xs"]) (js:=[1,3]) (mm:=.i) (t6 B.range_ (m6 B.len_ (m5 3))) rfl (fun _ _ _ _ _=>B7 (i:=0) c1T rfl (cf rfl) (.inr rfl)) F8 (.inl rfl) a8D rfl (fun _ _ _ _ _=>Q0) (fun _ _ _ _ _=>(c8 l0 (c8 l0 (c8 o5 (c8 D1 (A8 (m5 2) (b9 0)) a8) (c8 D1 (c8 D1 (b9 0) (b9 0)) a8)) a8) (m6 B.len_ (A8 (O2 1 (u:=(.l (.l .i)))) a8))))) (a9 (i5 4 (t:=(.l .i)) sc.nd (a7 (MkL.i (G8 (m5 4) G6 (G7 (c8 Y4 (m6 B.len_ (m5 4)) (c8 D1 (c8 l0 (l7 dS hr (a6 (b7 0) (a6 a8 f9))) a8) a8))))))) (a9 (PSX.weak (M1:=[mdF,mdF,mdI,mdL,mdL,mdD,mdD,mdD,mdD,mdD,mdD,mdD]) (Q3 5 (t:=(.l .i)) sc.nd rfl (tn:=["_law_row"]) (ys:=[]) (js:=[]) (mm:=.f) (w6 (PX.newf (b7 1))) rfl (fun _ _ _ _ _=>B7 (i:=0) c0y rfl (cf rfl) (.inr rfl)) F8 (.inr rfl) b9n rfl (fun _ _ _ _ _=>Q0) (fun _ _ _ _ _=>(MkL.i (a8C B.list_ (PX.newf (b7 0)))))) (T9 1) l8) (a9 (PSX.weak (M1:=[mdF,mdF,mdI,mdL,mdL,mdF,mdD,mdD,mdD,mdD,mdD,mdD]) (i5 6 (t:=(.l .i)) sc.nd (a7 (l7 lJ hr (a6 (b7 5) f9)))) (T9 5) l8) (a9 (i5 7 (t:=(.l .i)) sc.nd (a7 (l7 jr hr (a6 (b7 5) f9)))) (a9 (n6 (M':=[mdF,mdF,mdI,mdL,mdL,mdF,mdL,mdL,mdD,mdD,mdD,mdD]) (PWX.pt (K8 (i8 Z3 (b7 5) (b7 1)) (K8 (u9 (s9 (l7 fN hr (a6 (b7 1) (a6 (m5 6) (a6 (MkL.i (G8 (m5 4) G6 (G7 a8))) f9)))))) (M7 (i8 Z3 (T6 Z3 (m5 6) (y7 (n:=0) (u:=.i) l6)) (T6 a0K (m5 7) D3)))))) (c6 (g9 (a7 D2))) k8) (a9 (i5 8 (t:=(.l .i)) sc.nd (a7 (a5T rfl B.list_ B.range_ (b9 2)))) (a9 (n6 (M':=[mdF,mdF,mdI,mdL,mdL,mdF,mdL,mdL,mdL,mdD,mdD,mdD]) (PWX.pt (V5 (i8 a1Q (m5 7) D3) (P1 (u9 (s9 (l7 d_ hr (a6 (m5 7) (a6 (m6 B.len_ (Y6 (PX.newf (b7 1)) a8)) f9)))))))) (c6 (g9 (a7 D2))) k8) (a9 (n6 (M':=[mdF,mdF,mdI,mdL,mdL,mdF,mdL,mdL,mdL,mdD,mdD,mdD]) (PWX.pt (V5 (i8 a1Q (m5 7) D3) (P1 (u9 (s9 (l7 cO hr (a6 (b7 1) (a6 (m5 8) (a6 (m5 7) f9))))))))) (c6 (g9 (a7 D2))) k8) (a9 (n6 (M':=[mdF,mdF,mdI,mdL,mdL,mdF,mdL,mdL,mdL,mdD,mdD,mdD]) (i8 a5v (b9 2) a8) (c6 (g9 (a7 (l7 gN hr (a6 (b7 5) f9))))) k8) (a9 (i5 9 (t:=.f) sc.nd (a7 (by exact H9 (u:=.f) f_ hr (w9 (PX.newf (b7 5)) (N4)) (hfl:=(j5 y8))))) (a9 (n6 (M':=[mdF,mdF,mdI,mdL,mdL,mdF,mdL,mdL,mdL,mdF,mdD,mdD]) (PWX.pt (K8 (i8 Z3 (T6 a0K (b7 9) D3) (T6 a0K (m5 7) D3)) (M7 (u9 (s9 (l7 g_ hr (a6 (b7 1) (a6 (m5 8) (a6 (b7 9) (a6 (m5 4) f9)))))))))) (c6 (g9 (a7 D2))) k8) (a9 (i5 10 (t:=(.l .i)) sc.nd (a7 (l7 jP hr (a6 (c8 l0 (c8 D1 (l7 dS hr (a6 (b7 0) (a6 a8 f9))) a8) a8) (a6 (b9 2) f9))))) (a9 (i5 11 (t:=.f) sc.nd (a7 (by exact H9 (u:=.f) gi hr (w9 (PX.newf (b7 5)) (w9 (PX.frz (MkL.i (a8C B.list_ (m5 10)))) (N4))) (hfl:=(j5 (j5 y8)))))) (a9 (n6 (M':=[mdF,mdF,mdI,mdL,mdL,mdF,mdL,mdL,mdL,mdF,mdL,mdF]) (u9 (s9 (l7 g_ hr (a6 (b7 1) (a6 (m5 10) (a6 (b7 11) (a6 (m5 4) f9))))))) (c6 (g9 (a7 D2))) k8) (a9 (n6 (M':=[mdF,mdF,mdI,mdL,mdL,mdF,mdL,mdL,mdL,mdF,mdL,mdF]) (i8 a1Q (b7 9) D3) (c6 (n6 (M':=[mdF,mdF,mdI,mdL,mdL,mdF,mdL,mdL,mdL,mdF,mdL,mdF]) (PWX.pt (K8 (i8 a0K (b7 11) D3) (K8 (i8 (b1O (by exact hr.units)) (a2m (us:=[.i,.f]) (j6 (u:=.i) (m6 B.len_ (b7 11)) (j6 (u:=.f) (PX.newf (b7 11)) l6))) (a2m (us:=[.i,.f]) (j6 (u:=.i) (m6 B.len_ (b7 9)) (j6 (u:=.f) (PX.newf (b7 9)) l6)))) (M7 (i8 (b1O (by exact hr.units)) (a2m (us:=[.i,.f]) (j6 (u:=.i) (m6 B.len_ (b7 9)) (j6 (u:=.f) (PX.newf (b7 9)) l6))) (b4f (a6 (m6 B.len_ (m5 7)) (a6 (m5 7) f9)) (hl:=(j5 (j5 y8))))))))) (c6 (g9 (a7 D2))) k8)) k8) (c6 (PSX.weak (M1:=[mdF,mdF,mdI,mdL,mdL,mdF,mdL,mdL,mdF,mdF,mdL,mdF]) (g9 (a7 (Y5 (T6 v7 (by exact H9 (u:=.f) gi hr (w9 (PX.newf (b7 5)) (w9 (PX.newf (b7 8)) (N4))) (hfl:=(j5 (j5 y8)))) (b7 9)) (a0M (T6 v7 (b7 5) (b7 1)))))) (T9 8) l8))))))))))))))))))))
end Prog
namespace VS
open PySem L2
abbrev Ky:=List (Int × Int)
theorem snoc_ind{P:List α->Prop}(h0:P [])(h1:∀l x,P l->P (l ++ [x]))(l:List α):P l:=by
 have h:∀r:List α,P r.reverse:=by
  intro r
  induction r with
  | nil=>exact h0
  | cons x r ih=>rw [List.reverse_cons];exact h1 _ _ ih
 have:=h l.reverse
 rwa [List.reverse_reverse] at this
def c1U(seen:List Ky)(x:Ky):List Ky:=if x∈seen then seen else seen ++ [x]
def ded(ks:List Ky):List Ky:=ks.foldl c1U []
def c1V(ks:List Ky):List Int:=ks.map fun x=>(((ded ks).idxOf x:Nat):Int)
def rn(r:Ky)(ls:List Int):Ky:=r.map fun p=>(p.1,ls.getD p.2.toNat 0)
def lvl(m:m4):Nat->List Int
 | 0=>m.map fun _=>0
 | d + 1=>c1V (m.map fun r=>rn r (lvl m d))
def kf(m:m4):Nat->Ky->Ky
 | 0,_=>[]
 | d + 1,r=>rn r (lvl m d)
def cls(m:m4)(d:Nat):Nat:=(ded (m.map (kf m d))).length
def lv(m:m4)(d:Nat)(s:Int):Int:=(lvl m d).getD s.toNat 0
def fp:Ky->Ky->Nat
 | x :: xs,y :: ys=>if x=y then fp xs ys + 1 else 0
 | _,_=>0
def fa(m:m4)(d:Nat)(s t:Int):Int:=(fp (rn (rowAt m s) (lvl m d)) (rn (rowAt m t) (lvl m d)):Nat)
end VS
namespace VS
open PySem L2
theorem a9c{Z ds:List D}(h:a Z=some (.list ds))(hi:e6 ds=true):a5A a Z=some (.tuple ds):=by
 unfold a5A;rw [h];exact b1I (by simp only [imm];exact hi)
theorem a5d{I:Nat->List D->Prop}{Q:List D->Prop}(B:Nat)(step:∀j Z,I j Z->j<=B/\((c Z=some false/\Q Z)∨(c Z=some true/\∃Z',g Z=some (.nx Z')/\I (j + 1) Z'))):∀n j Z,I j Z->B < n + j->∃Z',whL c g n Z=some (.nx Z')/\Q Z'
 | 0,j,Z,h,hn=>absurd (step j Z h).1 (by lia)
 | n + 1,j,Z,h,hn=>by
  rcases (step j Z h).2 with⟨e,q⟩|⟨e,Z',e2,h2⟩
  ·refine⟨Z,?_,q⟩;show (c Z).bind _=_;rw [e];rfl
  ·obtain⟨Z2,e3,q⟩:=a5d B step n (j + 1) Z' h2 (by lia);refine⟨Z2,?_,q⟩;show (c Z).bind _=_;rw [e];show (g Z).bind _=_;rw [e2];exact e3
theorem b8k{Z:List D}:sWh (fun _=>n) c g Z=whL c g n Z:=rfl
theorem b8l(p q:Int × Int):aI (stD p) (stD q)=decide (p=q):=by
 unfold stD;simp only [aI,cq,W4];rcases p with⟨a,b⟩
 rcases q with⟨c,d⟩
 by_cases h1:a=c <;> by_cases h2:b=d <;> simp [h1,h2]
end VS
namespace VS
open PySem L2
theorem a1d(p:α->Bool)(f:α->D):∀{xs:List α},(∀x∈xs,∃bs,pt (enc x)=some bs/\t (bs ++ cs)=some (p x)/\(p x=true->g (bs ++ cs)=some (f x)))->M9 pt t g cs (xs.map enc)=some ((xs.filter p).map f)
 | [],_=>rfl
 | x :: xs,h=>by
  obtain⟨bs,h1,h2,h3⟩:=h x ah;have ih:=a1d p f (xs:=xs) fun e he=>h e (ao _ he)
  show (pt (enc x)).bind _=_;rw [h1];show (t (bs ++ cs)).bind _=_;rw [h2];cases c:p x with
  | true=>
   rw [List.filter_cons_of_pos c];show (g (bs ++ cs)).bind _=_;rw [h3 c];show (M9 pt t g cs (xs.map enc)).bind _=_;rw [ih];rfl
  | false=>
   rw [List.filter_cons_of_neg (by rw [c];decide)];exact ih
theorem b5a{js:List Nat}{Z:List D}(p:Nat->Bool)(f:Nat->D)(hf:fi Z=some (v6 0 n))(hl:n<=1000000)(h:∀k:Nat,k < n->t (.int k :: js.map fun j=>Z.getD j .none)=some (p k)/\(p k=true->g (.int k :: js.map fun j=>Z.getD j .none)=some (f k))) :
  t9 fi js pt1 t g Z=some (.list (((aJ n).filter p).map f)):=by
 unfold t9;rw [hf];show (if (v6 0 n).length<=1000000 then _ else none)=_;rw [aE (by rw [a2v];exact hl),a0Y,a1d (enc:=fun (k:Nat)=>bt k) p f]
 ·rfl
 ·intro x hx;have:=h x (bo.mp hx);exact⟨[.int x],rfl,this.1,this.2⟩
theorem b2Z{ns:List Int}:lIs (some (.list (ns.map .int)))=some (.list (ns.map .int)):=a8W (l5 _ (fun _=>N2) ns)
end VS
namespace VS
open PySem L2
theorem a4u(f:α->D):∀{xs:List α},(∀x∈xs,∃bs,pt (enc x)=some bs/\g (bs ++ cs)=some (f x))->M9 pt tT g cs (xs.map enc)=some (xs.map f)
 | [],_=>rfl
 | x :: xs,h=>by
  obtain⟨bs,h1,h2⟩:=h x ah;have ih:=a4u f (xs:=xs) fun e he=>h e (ao _ he)
  show (pt (enc x)).bind _=_;rw [h1];show (g (bs ++ cs)).bind _=_;rw [h2];show (M9 pt tT g cs (xs.map enc)).bind _=_;rw [ih];rfl
theorem a1Z{js:List Nat}{Z:List D}{xs:List α}(f:α->D)(hf:fi Z=some (xs.map enc))(hl:xs.length<=1000000)(h:∀x∈xs,∃bs,pt (enc x)=some bs/\g (bs ++ js.map fun j=>Z.getD j .none)=some (f x)) :
  t9 fi js pt tT g Z=some (.list (xs.map f)):=by
 unfold t9;rw [hf];show (if (xs.map enc).length<=1000000 then _ else none)=_;rw [aE (by rw [ar];exact hl),a4u f h];rfl
end VS
namespace VS
open PySem L2
theorem c0z{Z ds:List D}(h:a Z=some (.list ds)):iEn a Z=some (E9 ds 0):=by
 unfold iEn;rw [h];rfl
end VS
namespace VS
open PySem L2
section
variable {β α:Type}[DecidableEq β]
def dd1(W:List (β × α))(c:β × α):List (β × α):=if c.1∈W.map (·.1) then W else W ++ [c]
def dd(W C:List (β × α)):List (β × α):=C.foldl dd1 W
variable {W C C':List (β × α)}{c:β × α}{t:β}
theorem a0c(h:c.1∈W.map (·.1)):dd1 W c=W:=aE h
theorem R5(h:c.1∉W.map (·.1)):dd1 W c=W ++ [c]:=aO h
theorem b3a:dd W (C ++ C')=dd (dd W C) C':=by unfold dd;rw [mr]
theorem a0y:dd W (C ++ [c])=dd1 (dd W C) c:=by rw [b3a];rfl
theorem a3a(W C:List (β × α)):∃E,dd W C=W ++ E:=by
 induction C using snoc_ind with
 | h0=>exact⟨[],(aZ _).symm⟩
 | h1 C c ih=>
  obtain⟨E,e⟩:=ih;rw [a0y];by_cases h:c.1∈(dd W C).map (·.1)
  ·rw [a0c h];exact⟨E,e⟩
  ·rw [R5 h,e];exact⟨E ++ [c],aP ..⟩
theorem a3b(h:(W.map (·.1)).Nodup)(C:List (β × α)):((dd W C).map (·.1)).Nodup:=by
 induction C using snoc_ind with
 | h0=>exact h
 | h1 C c ih=>
  rw [a0y];by_cases h:c.1∈(dd W C).map (·.1)
  ·rw [a0c h];exact ih
  ·rw [R5 h,bb,bu];refine⟨ih,by simp,fun x hx y hy e=>h ?_⟩;rw [lP,ax] at hy;rw [<-hy,<-e];exact hx
theorem a0d(W C:List (β × α)):(dd W C).Sublist (W ++ C):=by
 induction C using snoc_ind with
 | h0=>rw [aZ];exact gS _
 | h1 C c ih=>
  rw [a0y,<-aP];by_cases h:c.1∈(dd W C).map (·.1)
  ·rw [a0c h];exact ih.trans (jv _ _)
  ·rw [R5 h];exact ih.append (gS _)
theorem b8m(W C:List (β × α)):(dd W C).length<=W.length + C.length:=by
 have:=(a0d W C).length_le
 rwa [aK] at this
theorem b3b{R:α->α->Prop}(hR:(W ++ C).Pairwise fun a b=>R a.2 b.2):∀e∈W ++ C,∃v,(e.1,v)∈dd W C/\(v=e.2∨R v e.2):=by
 induction C using snoc_ind with
 | h0=>
  intro e he;rw [aZ] at he;exact⟨e.2,he,.inl rfl⟩
 | h1 C c ih=>
  intro e he;rw [<-aP] at hR he;obtain⟨h1,h2,h3⟩:=ez.mp hR;rw [a0y];rcases ay.mp he with z|z
  ·obtain⟨v,hv,r⟩:=ih h1 e z;refine⟨v,?_,r⟩;by_cases h:c.1∈(dd W C).map (·.1)
   ·rw [a0c h];exact hv
   ·rw [R5 h];exact aq _ hv
  ·rw [ax.mp z];by_cases h:c.1∈(dd W C).map (·.1)
   ·rw [a0c h];obtain⟨x,hx,ex⟩:=aG.mp h;refine⟨x.2,by rw [<-ex];exact hx,.inr (h3 x ((a0d W C).subset hx) c (by simp))⟩
   ·rw [R5 h];exact⟨c.2,by simp,.inl rfl⟩
end
theorem nodup_range{n:Nat}:∀{l:List Int},l.Nodup->(∀x∈l,0<=x/\x < (n:Int))->l.length<=n:=by
 induction n with
 | zero=>
  intro l _ h;cases l with
  | nil=>exact aF _
  | cons x l=>have:=h x (by simp);lia
 | succ n ih=>
  intro l hd h;have h1:=ih (l:=l.erase (n:Int)) (hd.erase _) fun x hx=>by
   have h2:=(List.Nodup.mem_erase_iff hd).mp hx;have:=h x h2.2;have:=h2.1;lia
  have h2:=List.length_erase (a:=(n:Int)) (l:=l);by_cases c:(n:Int)∈l
  ·rw [aE c] at h2;lia
  ·rw [aO c] at h2;lia
def wl:List Int->List Int->Prop
 | a :: p,b :: q=>a < b∨(a=b/\wl p q)
 | _,_=>False
def bf(p q:List Int):Prop:=p.length < q.length∨(p.length=q.length/\wl p q)
theorem a5e:∀p,¬ wl p p
 | [],h=>h
 | a :: p,h=>by
  rcases h with h|⟨_,h⟩
  ·lia
  ·exact a5e p h
theorem a3c:∀{p q r:List Int},wl p q->wl q r->wl p r
 | [],_,_,h,_=>h.elim
 | _ :: _,[],_,h,_=>h.elim
 | _ :: _,_ :: _,[],_,h=>h.elim
 | a :: p,b :: q,c :: r,h,h'=>by
  rcases h with h|⟨e,h⟩ <;> rcases h' with h'|⟨e',h'⟩
  ·exact .inl (by lia)
  ·exact .inl (by lia)
  ·exact .inl (by lia)
  ·exact .inr ⟨by lia,a3c h h'⟩
theorem b3c:∀{p q:List Int} (x y:List Int),wl p q->wl (p ++ x) (q ++ y)
 | [],_,_,_,h=>h.elim
 | _ :: _,[],_,_,h=>h.elim
 | a :: p,b :: q,x,y,h=>by
  rcases h with h|⟨e,h⟩
  ·exact .inl h
  ·exact .inr ⟨e,b3c x y h⟩
theorem a0z:∀(p:List Int) {x y:List Int},wl x y->wl (p ++ x) (p ++ y)
 | [],_,_,h=>h
 | a :: p,_,_,h=>.inr ⟨rfl,a0z p h⟩
theorem b8n(p:List Int):¬ bf p p:=fun h=>h.elim (cE _) fun h=>a5e p h.2
theorem a0A(h:bf p q)(h':bf q r):bf p r:=by
 rcases h with h|⟨e,h⟩ <;> rcases h' with h'|⟨e',h'⟩
 ·exact .inl (by lia)
 ·exact .inl (by lia)
 ·exact .inl (by lia)
 ·exact .inr ⟨by lia,a3c h h'⟩
theorem a5f{p q:List Int}(a b:Int)(h:bf p q):bf (p ++ [a]) (q ++ [b]):=by
 rcases h with h|⟨e,h⟩
 ·exact .inl (by simp;lia)
 ·exact .inr ⟨by simp [e],b3c _ _ h⟩
theorem b8o(h:a < b):bf (p ++ [a]) (p ++ [b]):=.inr ⟨by simp,a0z p (.inl h)⟩
abbrev b0J:=List (Int × List Int)
def c0A(m:m4)(k:Nat)(e:Int × List Int):b0J:=(aJ k).map fun (a:Nat)=>((stp m e.1 a).2,e.2 ++ [(a:Int)])
abbrev W0:b0J:=[(0,[])]
abbrev Sor(W:b0J):Prop:=W.Pairwise fun a b=>bf a.2 b.2
structure Met (m:m4) (k:Nat) (dn W:b0J):Prop where
 eq:W=dd W0 (dn.flatMap (c0A m k))
 pre:∃nw,W=dn ++ nw
 sor:Sor W
 ql:∀e∈W,e.2.length<=dn.length
structure AllMet (m:m4) (k:Nat) (W:b0J):Prop where
 eq:W=dd W0 (W.flatMap (c0A m k))
 sor:Sor W
 range:∀e∈W,0<=e.1/\e.1 < (m.length:Int)
 ql:∀e∈W,e.2.length<=W.length
end VS
namespace VS
open PySem L2
theorem a8a{Z:List D}(hv:fv Z=some d)(hk:fk Z=some k)(hd:Z.getD i .none=.dict kvs)(hK:u6 kt k=true)(hl:kvs.length < 1000000) :
  J3 i kt fk fv Z=some (.nx (Z.set i (.dict (R7 kvs k d)))):=by
 unfold J3;rw [hv];show (fk Z).bind _=_;rw [hk];show (match Z.getD i .none with|.dict kvs=>_|_=>_)=_;rw [hd];show (if _ then _ else _)=_;rw [aE (by rw [hK,aL hl];rfl)]
theorem c1W{Z:List D}(hk:fk Z=some k)(hv:fv Z=some d)(hK:u6 kt k=true):eD1 kt fk fv Z=some (.dict [(k,d)]):=by
 unfold eD1;rw [hk];show (fv Z).bind _=_;rw [hv];show (if _ then _ else _)=_;rw [hK];rfl
end VS
namespace VS
open PySem L2
section
variable {β:Type}[DecidableEq β]
abbrev E3(β:Type):=List (β × List Int)
def J4(nx:β->Nat->β)(k:Nat)(e:β × List Int):E3 β:=(aJ k).map fun (a:Nat)=>(nx e.1 a,e.2 ++ [(a:Int)])
abbrev WB(s:β):E3 β:=[(s,[])]
abbrev a5g(W:E3 β):Prop:=W.Pairwise fun a b=>bf a.2 b.2
variable {nx:β->Nat->β}{k:Nat}{s:β}
theorem b0K(e:β × List Int):a5g (J4 nx k e):=by
 unfold a5g J4;rw [gQ];exact gR.imp fun h=>b8o (by lia)
theorem a8b{V:E3 β}(h:a5g V):a5g (V.flatMap (J4 nx k)):=by
 induction V with
 | nil=>exact gU
 | cons e V ih=>
  obtain⟨h1,h2⟩:=cy.mp h;rw [zR];refine ez.mpr ⟨b0K e,ih h2,fun x hx y hy=>?_⟩;obtain⟨f,hf,hy⟩:=fU.mp hy;obtain⟨a,_,rfl⟩:=aG.mp hx;obtain⟨b,_,rfl⟩:=aG.mp hy;exact a5f _ _ (h1 f hf)
theorem a3d{V:E3 β}(h:a5g V):a5g (WB s ++ V.flatMap (J4 nx k)):=by
 refine ez.mpr ⟨eM ..,a8b h,fun x hx y hy=>?_⟩;rw [ax.mp hx];obtain⟨f,hf,hy⟩:=fU.mp hy;obtain⟨b,_,rfl⟩:=aG.mp hy;exact .inl (by simp)
structure MetB (nx:β->Nat->β) (k:Nat) (s:β) (P:β->Prop) (dn W:E3 β):Prop where
 eq:W=dd (WB s) (dn.flatMap (J4 nx k))
 pre:∃nw,W=dn ++ nw
 sor:a5g W
 ql:∀e∈W,e.2.length<=dn.length
 ok:∀e∈W,P e.1
theorem c0B(h:P s):MetB nx k s P [] (WB s):=⟨rfl,⟨WB s,rfl⟩,eM ..,fun e he=>by rw [ax.mp he];exact aF _,fun e he=>by rw [ax.mp he];exact h⟩
theorem MetB.nodup{P:β->Prop}{dn W:E3 β}(h:MetB nx k s P dn W):(W.map (·.1)).Nodup:=by rw [h.eq];exact a3b (by simp) _
theorem MetB.qlen{P:β->Prop}{dn W:E3 β}(h:MetB nx k s P dn W){e:β × List Int}(he:e∈W):e.2.length<=W.length:=by
 have:=h.ql e he;obtain⟨nw,hn⟩:=h.pre;rw [hn,aK];lia
theorem MetB.step{P:β->Prop}(hP:∀b a,P b->a < k->P (nx b a)){dn nw W:E3 β}{e:β × List Int}(h:MetB nx k s P dn W)(hp:W=dn ++ e :: nw):MetB nx k s P (dn ++ [e]) (dd W (J4 nx k e)):=by
 have hd:a5g (dn ++ [e]):=by
  have h1:=h.sor;rw [hp] at h1;exact h1.sublist (vY (gS _) (by simp))
 have he:dd W (J4 nx k e)=dd (WB s) ((dn ++ [e]).flatMap (J4 nx k)):=by
  rw [kW,zR,List.flatMap_nil,aZ,b3a,<-h.eq]
 refine⟨he,?_,?_,fun f hf=>?_,fun f hf=>?_⟩
 ·obtain⟨E,hE⟩:=a3a W (J4 nx k e);exact⟨nw ++ E,by rw [hE,hp];simp⟩
 ·rw [he];exact (a3d hd).sublist (a0d _ _)
 ·rw [aK,fx];rcases ay.mp ((a0d _ _).subset hf) with z|z
  ·have:=h.ql f z;lia
  ·obtain⟨a,_,rfl⟩:=aG.mp z;have:=h.ql e (by rw [hp];simp);simp;lia
 ·rcases ay.mp ((a0d _ _).subset hf) with z|z
  ·exact h.ok f z
  ·obtain⟨a,ha,rfl⟩:=aG.mp z;exact hP e.1 a (h.ok e (by rw [hp];simp)) (bo.mp ha)
structure AllB (nx:β->Nat->β) (k:Nat) (s:β) (P:β->Prop) (W:E3 β):Prop where
 eq:W=dd (WB s) (W.flatMap (J4 nx k))
 sor:a5g W
 ql:∀e∈W,e.2.length<=W.length
 ok:∀e∈W,P e.1
theorem MetB.all(h:MetB nx k s P W W):AllB nx k s P W:=⟨h.eq,h.sor,fun e he=>h.ql e he,h.ok⟩
end
section
variable {β α:Type}[DecidableEq β]
def kvB(key:β->D)(enc:α->D)(W:List (β × α)):List (D × D):=W.map fun e=>(key e.1,enc e.2)
structure KeyB (kt:Bool) (key:β->D):Prop where
 eqv:∀a b,aI (key a) (key b)=decide (a=b)
 ok:∀a,u6 kt (key a)=true
 im:∀a,imm (key a)=true
variable {key:β->D}{enc:α->D}{W:List (β × α)}{t:β}{x:α}{kt:Bool}
theorem b5b:(kvB key enc W).length=W.length:=ar ..
theorem b5c{V:List (β × α)}:kvB key enc (W ++ V)=kvB key enc W ++ kvB key enc V:=bb ..
theorem a6I(K:KeyB kt key):C5 (kvB key enc W) (key t)=decide (t∈W.map (·.1)):=by
 induction W with
 | nil=>rfl
 | cons e W ih=>
  show (aI (key e.1) (key t) || C5 (kvB key enc W) (key t))=_;rw [K.eqv,ih];by_cases h1:e.1=t
  ·simp [h1]
  ·have h2:t≠e.1:=fun z=>h1 z.symm
   simp [h1,h2]
theorem a6J(K:KeyB kt key)(hn:(W.map (·.1)).Nodup)(h:(t,x)∈W):G9 (kvB key enc W) (key t)=some (enc x):=by
 induction W with
 | nil=>cases h
 | cons e W ih=>
  rw [aA,bA] at hn;unfold G9 kvB;rw [aA,fu];show Option.map _ (match aI (key e.1) (key t) with|true=>_|false=>_)=_;rw [K.eqv];rcases aH.mp h with z|z
  ·rw [<-z,aL rfl];rfl
  ·have h1:e.1≠t:=fun q=>hn.1 (by rw [q];exact aG.mpr ⟨_,z,rfl⟩)
   rw [aQ h1];exact ih hn.2 z
theorem b0L(K:KeyB kt key)(h:t∉W.map (·.1)):R7 (kvB key enc W) (key t) (enc x)=kvB key enc (W ++ [(t,x)]):=by
 unfold R7;rw [a6I K,aQ h,b5c];rfl
theorem b3d(K:KeyB kt key):dIn neg kt (key t) (.dict (kvB key enc W))=some (.bool (neg != decide (t∈W.map (·.1)))):=by
 show (if u6 kt (key t) then some (cm (neg != C5 (kvB key enc W) (key t))) else none)=_;rw [K.ok,a6I K];rfl
theorem b8p(K:KeyB kt key)(hn:(W.map (·.1)).Nodup)(h:(t,x)∈W):a4T kt (.dict (kvB key enc W)) (key t)=some (enc x):=by
 show (if u6 kt (key t) then G9 (kvB key enc W) (key t) else none)=_;rw [K.ok,a6J K hn h];rfl
end
theorem b3e{β α:Type}[DecidableEq β]{W:List (β × α)}{c:β × α}(h:L<=W.length):((dd1 W c).drop L).map (·.1)=if c.1∈W.map (·.1) then (W.drop L).map (·.1) else (W.drop L).map (·.1) ++ [c.1]:=by
 by_cases hc:c.1∈W.map (·.1)
 ·rw [a0c hc,aE hc]
 ·rw [R5 hc,aO hc,nc h,bb,lP]
theorem b3f[DecidableEq β](W C:List (β × α)):W.length<=(dd W C).length:=by
 obtain⟨E,e⟩:=a3a W C;rw [e,aK];lia
theorem b5d[DecidableEq β](C:List (β × α))(h:e∈W):e∈dd W C:=by
 obtain⟨E,q⟩:=a3a W C;rw [q];exact aq _ h
end VS
namespace VS
open PySem L2
theorem b3g(h:argsOk us ds=true):fnL us n g gm ds=a4Q (g gm (ds ++ (.none :: aC n .none))):=by
 unfold fnL;rw [aE h];cases g gm (ds ++ (.none :: aC n .none)) with
 | none=>rfl
 | some o=>cases o <;> rfl
theorem b5N{Z ds:List D}(h:f Z=some ds):b0r m us js fb f Z=m (fnE us (js.map fun j=>Z.getD j .none) fb) ds:=by
 unfold b0r;rw [h];rfl
theorem b5O(h:argsOk us ds=true):fnE us oW f ds=f (ds ++ oW):=aE h
theorem b5P{Z ds:List D}(h:f Z=some ds):b0o m gm f Z=m gm ds:=by
 unfold b0o;rw [h];rfl
end VS
namespace VS
open PySem L2
def prD(p:Int × Int):D:=.tuple [.int p.1,.int p.2]
theorem b3h(p q:Int × Int):aI (prD p) (prD q)=decide (p=q):=b8l p q
theorem R6(p:Int × Int):u6 true (prD p)=true:=rfl
end VS
namespace VS
open PySem L2
theorem b5Q(h:argsOk us ds=true):fnR us n r ds=r (ds ++ aC n .none):=aE h
theorem c0C{Z:List D}(h:fc Z=some b):rIf fc r1 r2 Z=if b then r1 Z else r2 Z:=by unfold rIf;rw [h];rfl
theorem b5R{Z ds:List D}(h:f Z=some ds):rCl rf f Z=rf ds:=by unfold rCl;rw [h];rfl
theorem b8q{L:List bc}{Z:List D}(h:r Z=some n)(hc:L.contains n=true):b2I L i j g r Z=some (.nx ((Z.set j .none).set i (.str n))):=by
 unfold b2I;rw [h];exact aE hc
end VS
namespace VS
open PySem L2
abbrev PW:=List ((Int × Int) × List Int)
def prV(W:PW):List (D × D):=W.map fun e=>(prD e.1,dy (e.2.map .int))
theorem a2a:(prV W).length=W.length:=ar ..
theorem b5e{W V:PW}:prV (W ++ V)=prV W ++ prV V:=bb ..
theorem a4v:(prV W).isEmpty=W.isEmpty:=by cases W <;> rfl
theorem U8:∀W:PW,C5 (prV W) (prD p)=decide (p∈W.map (·.1))
 | []=>rfl
 | x :: W=>by
  show (aI (prD x.1) (prD p) || C5 (prV W) (prD p))=_;rw [b3h,U8 W];by_cases h1:x.1=p
  ·simp [h1]
  ·have h2:p≠x.1:=fun z=>h1 z.symm
   simp [h1,h2]
def O4(W:PW)(p:Int × Int):Option (List Int):=(W.find? fun e=>decide (e.1=p)).map (·.2)
theorem a3e:∀W:PW,G9 (prV W) (prD p)=(O4 W p).map fun q=>dy (q.map .int)
 | []=>rfl
 | x :: W=>by
  have ih:=a3e (p:=p) W;unfold G9 O4 at ih ⊢;unfold prV at ih ⊢;rw [aA,fu,fu];show ((match aI (prD x.1) (prD p) with|true=>some (prD x.1,dy (x.2.map .int))|false=>_).map _)=_;rw [b3h];by_cases h:x.1=p
  ·rw [aL h];rfl
  ·rw [aQ h];exact ih
theorem a0e(W:PW):keysOk true (prV W)=true:=by
 unfold keysOk prV;rw [List.all_map,bP];intro x _;exact R6 _
theorem a8c:a0W neg true (prD p) (.dict (prV W))=some (.bool (neg != decide (p∈W.map (·.1)))):=by
 show (if u6 true (prD p) && keysOk true (prV W) then some (cm (neg != C5 (prV W) (prD p))) else none)=_;rw [R6,a0e,U8];rfl
theorem b8r:dIn neg true (prD p) (.dict (prV W))=some (.bool (neg != decide (p∈W.map (·.1)))):=by
 show (if u6 true (prD p) then some (cm (neg != C5 (prV W) (prD p))) else none)=_;rw [R6,U8];rfl
theorem b8s(h:O4 W p=some q):a1N true (.dict (prV W)) (prD p)=some (.list (q.map .int)):=by
 show (if u6 true (prD p) && keysOk true (prV W) then G9 (prV W) (prD p) else none)=_;rw [R6,a0e,a3e,h];rfl
theorem b5f:a4b true (.dict (prV W)) (prD p)=some (((O4 W p).map fun q=>dy (q.map .int)).getD .none):=by
 show (if u6 true (prD p) && keysOk true (prV W) then some ((G9 (prV W) (prD p)).getD .none) else none)=_;rw [R6,a0e,a3e];rfl
theorem b8t{Z:List D}(h:a Z=some (.dict (prV W))):tVD a Z=some !W.isEmpty:=by
 unfold tVD;rw [h];show some (!(prV W).isEmpty)=_;rw [a4v]
theorem b8u{i j:Nat}{Z:List D}{W V:PW}(hi:Z.getD i .none=.dict (prV W))(hj:Z.getD j .none=.dict (prV V))(gy:W≠[])(hd:∀p∈V,p.1∉W.map (·.1))(hl:W.length + V.length<=1000000) :
  b0h i j Z=some (.nx (Z.set i (.dict (prV (W ++ V))))):=by
 unfold b0h;rw [hi,hj];show (if !(prV W).isEmpty && ((prV V).all fun p=>!C5 (prV W) p.1) && decide ((prV W).length + (prV V).length<=1000000) then some (Out.nx (Z.set i (.dict (prV W ++ prV V)))) else none)=_;have c1:(prV W).isEmpty=false:=by rw [a4v];cases W with|nil=>exact absurd rfl gy|cons _ _=>rfl
 have c2:((prV V).all fun p=>!C5 (prV W) p.1)=true:=by
  rw [bP];intro x hx;obtain⟨e,he,rfl⟩:=aG.mp hx;show (!C5 (prV W) (prD e.1))=true;rw [U8,aQ (hd e he)];rfl
 rw [c1,c2,a2a,a2a,aL hl,b5e];rfl
theorem b5S{Z ds es:List D}(hf:f Z=some (.list es))(hi:Z.getD i .none=.list ds)(BO:e6 es=true)(hl:ds.length + es.length<=1000000):a3A i f Z=some (.nx (Z.set i (.list (ds ++ es)))):=by
 unfold a3A;rw [hf,ib,hi];simp only [BO,aL hl,eA,ie]
end VS
namespace VS
open PySem L2
theorem M4{ns:List Int}{j:Int}(a:0<=j)(b:j < ns.length):L2.atI (ns.map bt) j=some (.int (ns.getD j.toNat 0)):=by
 rw [a4R a (by rw [ar];exact b),jH];rw [aX,aB (by lia)];rfl
theorem b8v{Z:List D}(ha:a Z=some (.int i))(hb:b Z=some (.int n))(h1:-1000000<=i)(h2:i<=1000000)(h3:-1000000<=n)(h4:n<=1000000):iR2 a b Z=some ((aJ (n - i).toNat).map fun (j:Nat)=>bt (i + (j:Int))):=by
 unfold iR2;rw [ha];show (b Z).bind _=_;rw [hb];show (if _ then _ else _)=_;rw [aE ⟨⟨by lia,by lia⟩,by lia,by lia⟩];rfl
theorem a3f:∀(r:List (Int × Int)) (k:Nat),E9 (r.map stD) k=(aJ r.length).map fun (s:Nat)=>cw [.int ((k + s:Nat):Int),stD (r.getD s (0,0))]
 | [],_=>rfl
 | n :: ls,k=>by
  show cw [.int k,stD n] :: E9 (ls.map stD) (k + 1)=_;rw [a3f ls (k + 1),ba,r_,aA,cP]
  congr 1;refine cF fun s _=>?_
  show cw [.int ((k + 1 + s:Nat):Int),stD (ls.getD s (0,0))]=.tuple [.int ((k + (s + 1):Nat):Int),stD ((n :: ls).getD (s + 1) (0,0))];rw [kU,ig,rZ 1]
theorem a9d{W:PW}{q:List Int}(h:p∉W.map (·.1)):R7 (prV W) (prD p) (.list (q.map .int))=prV (W ++ [(p,q)]):=by
 unfold R7;rw [U8,aQ h];unfold prV;rw [bb];rfl
theorem a0f(p:Int × Int):imm (prD p)=true:=a4Y (p:=p)
def B2:Option (List Int)->D
 | none=>.none
 | some q=>.list (q.map .int)
theorem b3i(o:Option (List Int)):((o.map fun q=>dy (q.map .int)).getD .none)=B2 o:=by cases o <;> rfl
theorem a9e{js:List Nat}{Z:List D}{xs:List α}(p:α->Bool)(f:α->D)(hf:fi Z=some (xs.map enc))(hl:xs.length<=1000000)(h:∀x∈xs,∃bs,pt (enc x)=some bs/\t (bs ++ js.map fun j=>Z.getD j .none)=some (p x)/\(p x=true->g (bs ++ js.map fun j=>Z.getD j .none)=some (f x))) :
  t9 fi js pt t g Z=some (.list ((xs.filter p).map f)):=by
 unfold t9;rw [hf];show (if (xs.map enc).length<=1000000 then _ else none)=_;rw [aE (by rw [ar];exact hl),a1d p f h];rfl
end VS
namespace VS
open PySem L2
theorem a4w{α:Type}{enc:α->D}{set:List D->D->Option (List D)}{g:EvS}{xs:List α}{Z:List D}(I:List α->List D->Prop)(R:D->Prop)(h0:I [] Z)
  (step:∀pre x post,xs=pre ++ x :: post->∀Z,I pre Z->∃Z1,set Z (enc x)=some Z1/\((∃Z2,g Z1=some (.nx Z2)/\I (pre ++ [x]) Z2)∨∃d,g Z1=some (.rt d)/\R d)) :
  (∃Z',Q2 set g (xs.map enc) Z=some (.nx Z')/\I xs Z')∨∃d,Q2 set g (xs.map enc) Z=some (.rt d)/\R d:=by
 have key:∀(post pre:List α) (Z:List D),xs=pre ++ post->I pre Z->(∃Z',Q2 set g (post.map enc) Z=some (.nx Z')/\I xs Z')∨∃d,Q2 set g (post.map enc) Z=some (.rt d)/\R d:=by
  intro post
  induction post with
  | nil=>
   intro pre Z e h;rw [aZ] at e;subst e;exact .inl ⟨Z,rfl,h⟩
  | cons x post ih=>
   intro pre Z e h;obtain⟨Z1,h1,h2⟩:=step pre x post e Z h;rcases h2 with⟨Z2,h2,h3⟩|⟨d,h2,h3⟩
   ·rcases ih (pre ++ [x]) Z2 (by rw [e,aP];rfl) h3 with⟨Z',h4,h5⟩|⟨d,h4,h5⟩
    ·refine .inl ⟨Z',?_,h5⟩;show (set Z (enc x)).bind _=_;rw [h1];show (g Z1).bind _=_;rw [h2];exact h4
    ·refine .inr ⟨d,?_,h5⟩;show (set Z (enc x)).bind _=_;rw [h1];show (g Z1).bind _=_;rw [h2];exact h4
   ·refine .inr ⟨d,?_,h3⟩;show (set Z (enc x)).bind _=_;rw [h1];show (g Z1).bind _=_;rw [h2];rfl
 exact key xs [] Z rfl h0
theorem a6K{c:EvT}{g:EvS}{I:Nat->List D->Prop}{Q:List D->Prop}{R:D->Prop}(B:Nat)(step:∀j Z,I j Z->j<=B/\((c Z=some false/\Q Z)∨(c Z=some true/\((∃Z',g Z=some (.nx Z')/\I (j + 1) Z')∨∃d,g Z=some (.rt d)/\R d)))):∀n j Z,I j Z->B < n + j->(∃Z',whL c g n Z=some (.nx Z')/\Q Z')∨∃d,whL c g n Z=some (.rt d)/\R d
 | 0,j,Z,h,hn=>absurd (step j Z h).1 (by lia)
 | n + 1,j,Z,h,hn=>by
  rcases (step j Z h).2 with⟨e,q⟩|⟨e,⟨Z',e2,h2⟩|⟨d,e2,h2⟩⟩
  ·refine .inl ⟨Z,?_,q⟩;show (c Z).bind _=_;rw [e];rfl
  ·rcases a6K B step n (j + 1) Z' h2 (by lia) with⟨Z2,e3,q⟩|⟨d,e3,q⟩
   ·refine .inl ⟨Z2,?_,q⟩;show (c Z).bind _=_;rw [e];show (g Z).bind _=_;rw [e2];exact e3
   ·refine .inr ⟨d,?_,q⟩;show (c Z).bind _=_;rw [e];show (g Z).bind _=_;rw [e2];exact e3
  ·refine .inr ⟨d,?_,h2⟩;show (c Z).bind _=_;rw [e];show (g Z).bind _=_;rw [e2];rfl
end VS
namespace Prog
open PySem L2 VS
abbrev GA:=List (List Int × List Int)
def r8(a:List Int):D:=.tuple (a.map .int)
theorem b3j(a b:List Int):aI (r8 a) (r8 b)=decide (a=b):=by
 unfold r8;simp only [aI];exact U3 a b
theorem a1F:∀a:List Int,p5 (a.map bt)=true
 | []=>by simp only [cA,p5]
 | n :: a=>by simp only [aA,p5,C9,a1F a,eA]
theorem a8d(a:List Int):(r8 a).depth<=7:=by
 unfold r8;simp only [dI];have:=K3 bt 0 (fun _=>by rw [a4j];exact aF _) a;lia
theorem b0M(a:List Int):C9 (r8 a)=true:=by
 unfold r8;simp only [C9];exact a1F a
theorem a1e(a:List Int):u6 true (r8 a)=true:=by
 unfold u6;rw [b0M,aL (a8d a)];rfl
structure DdOk (f:Int->List Int × Int) (ss:List Int) (dd:GA):Prop where
 nd:(dd.map (·.1)).Nodup
 keys:∀a,a∈dd.map (·.1)↔∃s∈ss,(f s).1=a
 mem:∀q∈dd,∀e,e∈q.2↔∃s∈ss,f s=(q.1,e)
 nd2:∀q∈dd,q.2.Nodup
 len:dd.length<=ss.length
 b2h:∀q∈dd,q.2.length<=ss.length
end Prog
local macro_rules | `(tactic| walk_at "ev")=>`(tactic| simp -implicitDefEqProofs (disch:=first | omega | assumption | decide) only [VS.v_var,VS.v_c,VS.v_1,VS.v_2,VS.c1i,VS.b7m,VS.b5E,VS.b9y,VS.b7n,VS.b9z,VS.b9A,VS.b9B,VS.v_and,VS.v_or,VS.v_not,VS.c1j,VS.b5F,VS.b9C,VS.X6,VS.b5G,VS.b9D,VS.c1k,VS.b7o,VS.b9E,VS.b9F,VS.b7p,VS.c1d,VS.c1e,VS.c1f,VS.b4o,VS.c1g,VS.c1h,VS.b6V,VS.b6W,VS.b6X,VS.b9t,VS.b9u,VS.b6Y,VS.b6Z,VS.b9v,VS.b9w,VS.b7a,VS.b7b,VS.b7c,VS.b7d,VS.b7e,VS.a7r,VS.b7f,VS.b7g,VS.b7h,VS.b1G,VS.b7i,VS.b9x,VS.b4p,VS.b7j,VS.b7k,VS.a8F,VS.b7l,VS.v_add,VS.v_sub,VS.v_lt,VS.b9G,VS.c1l,VS.c1m,VS.b9H,VS.b9I,VS.b7q,VS.b1H,VS.b9J,VS.b9K,VS.b9L,VS.b9M,VS.b9N,VS.b9O,VS.v_mod,VS.v_div,VS.c1z,VS.c0g,VS.c0h,VS.trB,VS.c0i,VS.b7V,VS.b2K,VS.b4U,VS.b2L,VS.b2M,VS.b4V,VS.b0C,VS.a7P,VS.a7Q,VS.a7R,VS.b0D,VS.b0E,VS.a7S,VS.a7T,VS.a6m,VS.a6n,VS.a6o,VS.a7U,VS.a7V,VS.a6p,VS.isList_list,VS.isList_int,VS.a6q,VS.isList_bool,VS.a7W,VS.isList_str,VS.isList_dict,VS.a6r,VS.isTuple_list,VS.isTuple_int,VS.b2N,VS.a8W,VS.a8X,VS.c0j,VS.c0k,VS.c0l,VS.c0m,VS.a0r,VS.Z4,VS.b7W,VS.b7X,VS.c0o,VS.c0p,VS.c1I,VS.at0,VS.at1,VS.c0u,VS.c0v,VS.b8d,VS.b4Y,VS.c0w,VS.b4Z,List.getD_cons_zero,kU,lN,iW,iG,gg,bO,bT,aZ,jx,Bool.not_false,Bool.true_and,gq,Bool.false_and,oN,VS.c1A,VS.c1B,VS.c1C,VS.c1D,VS.c1E,VS.c1F,VS.c1G,VS.c1H,uU,rS,ar,aA,cA])
namespace Prog
open PySem L2 VS
theorem a0B(a:List Int):imm (r8 a)=true:=by unfold r8;simp only [imm];exact N3 a
end Prog
namespace VS
open PySem L2
section
variable {β:Type}[DecidableEq β]{nx:β->Nat->β}{k:Nat}{s:β}{P:β->Prop}{W:E3 β}
def a1f(nx:β->Nat->β)(b:β)(p:List Int):β:=p.foldl (fun b a=>nx b a.toNat) b
theorem AllB.nodup(h:AllB nx k s P W):(W.map (·.1)).Nodup:=by rw [h.eq];exact a3b (by simp) _
theorem AllB.head(h:AllB nx k s P W):∃E,W=(s,[]) :: E:=by
 obtain⟨E,e⟩:=a3a (WB s) (W.flatMap (J4 nx k));exact⟨E,h.eq.trans e⟩
theorem AllB.next(h:AllB nx k s P W){b:β}{p:List Int}(hb:(b,p)∈W){a:Nat}(ha:a < k):∃q,(nx b a,q)∈W/\(q=p ++ [(a:Int)]∨bf q (p ++ [(a:Int)])):=by
 obtain⟨v,h1,h2⟩:=b3b (R:=bf) (a3d (s:=s) (nx:=nx) (k:=k) h.sor) (nx b a,p ++ [(a:Int)]) (aj _ (fU.mpr ⟨_,hb,aG.mpr ⟨a,bo.mpr ha,rfl⟩⟩));rw [<-h.eq] at h1;exact⟨v,h1,h2⟩
theorem AllB.leads(h:AllB nx k s P W):∀(n:Nat) {b:β} {p:List Int},p.length<=n->(b,p)∈W->a1f nx s p=b/\∀a∈p,0<=a/\a < (k:Int):=by
 intro n
 induction n with
 | zero=>
  intro b p hl hb;have hp:p=[]:=gF.mp (by lia);subst hp;rw [h.eq] at hb;rcases ay.mp ((a0d _ _).subset hb) with z|z
  ·cases ax.mp z
   exact⟨rfl,fun a ha=>(nomatch ha)⟩
  ·obtain⟨e,_,he⟩:=fU.mp z;obtain⟨a,_,e2⟩:=aG.mp he;exact absurd (Prod.mk.inj e2).2 (by simp)
 | succ n ih=>
  intro b p hl hb;rw [h.eq] at hb;rcases ay.mp ((a0d _ _).subset hb) with z|z
  ·cases ax.mp z
   exact⟨rfl,fun a ha=>(nomatch ha)⟩
  ·obtain⟨e,xC,he⟩:=fU.mp z;obtain⟨a,ha,e2⟩:=aG.mp he;obtain⟨e3,e4⟩:=Prod.mk.inj e2;subst e3 e4;rw [aK,fx] at hl;obtain⟨i1,i2⟩:=ih (b:=e.1) (p:=e.2) (by lia) xC;refine⟨?_,fun x hx=>?_⟩
   ·unfold a1f at i1 ⊢;rw [mr,i1];simp
   ·rcases ay.mp hx with y|y
    ·exact i2 x y
    ·rw [ax.mp y];have:=bo.mp ha;lia
theorem AllB.pass(h:AllB nx k s P W)(p:List Int):(∀a∈p,0<=a/\a < (k:Int))->∃q,(a1f nx s p,q)∈W/\(q=p∨bf q p):=by
 induction p using snoc_ind with
 | h0=>
  intro _;obtain⟨E,e⟩:=h.head;exact⟨[],by rw [e];exact ah,.inl rfl⟩
 | h1 p a ih=>
  intro hp;obtain⟨q,q1,q2⟩:=ih fun b hb=>hp b (aq _ hb)
  have ha:=hp a (by simp);obtain⟨q',z1,z2⟩:=h.next q1 (a:=a.toNat) (by lia);rw [cX ha.1] at z2;refine⟨q',by unfold a1f at z1 ⊢;rw [mr];exact z1,?_⟩;rcases q2 with e|e
  ·rw [e] at z2;exact z2
  ·rcases z2 with f|f
   ·rw [f];exact .inr (a5f a a e)
   ·exact .inr (a0A f (a5f a a e))
def a6L(c:β->Bool)(W:E3 β):Option (List Int):=(W.find? fun e=>c e.1).map (·.2)
theorem b0N(h:AllB nx k s P W)(e:a6L c W=some q):(∀a∈q,0<=a/\a < (k:Int))/\c (a1f nx s q)=true:=by
 obtain⟨x,h1,rfl⟩:=bY.mp e;have h2:=Es h1;obtain⟨l1,l2⟩:=h.leads _ (aF _) (show (x.1,x.2)∈W from fX h1);exact⟨l2,by rw [l1];exact h2⟩
theorem a3g:∀{l:List α},l.Pairwise R->∀x∈l,c x=true->∃y,l.find? c=some y/\(y=x∨R y x)
 | a :: l,hp,x,hx,hc=>by
  rw [cy] at hp;rw [fu];cases h:c a with
  | true=>
   refine⟨a,rfl,?_⟩;rcases aH.mp hx with e|e
   ·exact .inl e.symm
   ·exact .inr (hp.1 x e)
  | false=>
   rcases aH.mp hx with e|e
   ·rw [<-e,hc] at h;cases h
   ·exact a3g hp.2 x e hc
theorem a8e(h:AllB nx k s P W)(hp:∀a∈p,0<=a/\a < (k:Int))(hc:c (a1f nx s p)=true):∃q,a6L c W=some q/\(q=p∨bf q p):=by
 obtain⟨q,q1,q2⟩:=h.pass p hp;obtain⟨y,y1,y2⟩:=a3g (c:=fun e=>c e.1) h.sor _ q1 hc;refine⟨y.2,by unfold a6L;rw [y1];rfl,?_⟩;rcases y2 with e|e
 ·rw [e];exact q2
 ·rcases q2 with f|f
  ·rw [f] at e;exact .inr e
  ·exact .inr (a0A e f)
end
theorem b3k(σ:List Int)(v x:Int):x∈dg σ v↔x∈σ∨x=v:=by
 unfold dg
 split
 ·rename_i h
  refine⟨.inl,fun z=>z.elim id fun e=>?_⟩;obtain⟨y,h1,h2⟩:=eO.mp h;rw [e,<-fM.mp h2];exact h1
 ·simp
theorem b5g{σ:List Int}(v:Int)(h:σ.Nodup):(dg σ v).Nodup:=by
 unfold dg
 split
 ·exact h
 ·rename_i c
  refine bu.mpr ⟨h,by simp,fun a ha b hb=>?_⟩;rw [ax.mp hb];rintro rfl;exact c (eO.mpr ⟨a,ha,h_ a⟩)
theorem a3h:∀(l σ:List Int),(∀x,x∈l.foldl dg σ↔x∈σ∨x∈l)/\(σ.Nodup->(l.foldl dg σ).Nodup)
 | [],σ=>⟨fun x=>by simp,id⟩
 | v :: l,σ=>by
  obtain⟨h1,h2⟩:=a3h l (dg σ v);refine⟨fun x=>?_,fun h=>h2 (b5g v h)⟩;rw [Er,h1,b3k,aH]
  constructor
  ·rintro ((a|a)|a)
   ·exact .inl a
   ·exact .inr (.inl a)
   ·exact .inr (.inr a)
  ·rintro (a|a|a)
   ·exact .inl (.inl a)
   ·exact .inl (.inr a)
   ·exact .inr a
theorem a3i(ns:List Int):(aJ ns.length).map (fun i=>ns.getD i 0)=ns:=by
 refine List.ext_getElem (by simp) fun i h1 h2=>?_
 simp [aX,aB h2]
theorem b5h:x∈dis ns↔x∈ns:=by
 unfold dis kj;rw [a3i,(a3h ns []).1];simp
theorem b8w(ns:List Int):(dis ns).Nodup:=by
 unfold dis kj;exact (a3h _ []).2 br
abbrev Inc(b:List Int):Prop:=b.Pairwise (· < ·)
def a5h(ns:List Int):List Int:=srt (dis ns)
theorem A2:x∈a5h ns↔x∈ns:=by unfold a5h;rw [(P4 _).mem_iff,b5h]
theorem P7(ns:List Int):Inc (a5h ns):=by
 have h1:=Y9 (dis ns);have h2:(srt (dis ns)).Nodup:=(P4 _).nodup_iff.mpr (b8w ns);exact (h1.and h2).imp fun {a b} h=>by have:=h.1;have:=h.2;lia
theorem b3l(ha:Inc a)(hb:Inc b)(h:∀x,x∈a↔x∈b):a=b:=by
 have hp:a.Perm b:=(List.perm_ext_iff_of_nodup (ha.imp fun h=>by lia) (hb.imp fun h=>by lia)).mpr h;exact hp.eq_of_pairwise (le:=(· < ·)) (fun _ _ _ _ h h'=>by lia) ha hb
theorem b0O(hb:Inc b):a5h b=b:=b3l (P7 b) hb fun x=>A2
def nxS(m:m4)(b:List Int)(a:Nat):List Int:=a5h (b.map fun s=>(stp m s a).2)
def SetK(m:m4)(b:List Int):Prop:=Inc b/\b≠[]/\∀s∈b,0<=s/\s < (m.length:Int)
theorem a2b:x∈nxS m b a↔∃s∈b,(stp m s a).2=x:=by unfold nxS;rw [A2];exact aG
theorem SetK.nx{m:m4}{k:Nat}(w:WF m k){b:List Int}(h:SetK m b){a:Nat}(ha:a < k):SetK m (nxS m b a):=by
 refine⟨P7 _,fun e=>?_,fun x hx=>?_⟩
 ·obtain⟨s,r,hb⟩:=iX h.2.1;have:(stp m s a).2∈nxS m b a:=a2b.mpr ⟨s,by rw [hb];exact ah,rfl⟩;rw [e] at this;cases this
 ·obtain⟨s,hs,rfl⟩:=a2b.mp hx;have:=h.2.2 s hs;exact w.nx this.1 this.2 (a:=(a:Int)) (by lia) (by lia)
theorem a9f:∀(p:List Int) (b:List Int) (x:Int),(∀a∈p,0<=a)->(x∈a1f (nxS m) b p↔∃s∈b,(j0 m s p).2=x)
 | [],b,x,_=>by simp [a1f,j0]
 | a :: p,b,x,h=>by
  have ha:((a.toNat:Nat):Int)=a:=cX (h a ah);show x∈a1f (nxS m) (nxS m b a.toNat) p↔_;rw [a9f p _ _ fun c hc=>h c (ao _ hc)]
  constructor
  ·rintro⟨t,ht,hx⟩;obtain⟨s,hs,rfl⟩:=a2b.mp ht;rw [ha] at hx;exact⟨s,hs,hx⟩
  ·rintro⟨s,hs,hx⟩;exact⟨(stp m s a).2,a2b.mpr ⟨s,hs,by rw [ha]⟩,hx⟩
theorem SetK.run(w:WF m k):∀(p:List Int) {b:List Int},SetK m b->(∀a∈p,0<=a/\a < (k:Int))->SetK m (a1f (nxS m) b p)
 | [],_,h,_=>h
 | a :: p,_,h,hp=>SetK.run w p (h.nx w (a:=a.toNat) (by have:=hp a ah;lia)) fun c hc=>hp c (ao _ hc)
def b0P:Nat->List (List Int)
 | 0=>[[]]
 | n + 1=>b0P n ++ (b0P n).map fun b=>b ++ [(n:Int)]
theorem a6M:∀n,(b0P n).length=2 ^ n
 | 0=>rfl
 | n + 1=>by rw [b0P,aK,ar,a6M n,Nat.pow_succ];lia
theorem a3j:∀(n:Nat) {b:List Int},Inc b->(∀s∈b,0<=s/\s < (n:Int))->b∈b0P n
 | 0,b,_,h=>by
  cases b with
  | nil=>exact ax.mpr rfl
  | cons s b=>have:=h s ah;lia
 | n + 1,b,hi,h=>by
  by_cases c:(n:Int)∈b
  ·obtain⟨x,y,rfl⟩:=List.append_of_mem c;obtain⟨h1,h2,h3⟩:=ez.mp hi;have hy:y=[]:=by
    cases y with
    | nil=>rfl
    | cons z y=>have:=(cy.mp h2).1 z ah;have:=h z (by simp);lia
   subst hy;exact aj _ (aG.mpr ⟨x,a3j n h1 fun s hs=>⟨(h s (aq _ hs)).1,h3 s hs _ ah⟩,rfl⟩)
  ·refine aq _ (a3j n hi fun s hs=>?_);have:=h s hs;have:s≠(n:Int):=fun e=>c (e ▸ hs)
   lia
theorem b3m[DecidableEq α]:∀{l L:List α},l.Nodup->(∀x∈l,x∈L)->l.length<=L.length
 | [],_,_,_=>dq _
 | a :: l,L,hn,h=>by
  rw [bA] at hn;have ha:=h a ah;have:=b3m (l:=l) (L:=L.erase a) hn.2 fun x hx=>(List.mem_erase_of_ne (show x≠a from fun e=>hn.1 (e ▸ hx))).mpr (h x (ao _ hx))
  rw [List.length_erase_of_mem ha] at this;have:=se ha;rw [ba];lia
theorem a3k{m:m4}(hn:m.length<=7)(l:List (List Int))(h1:l.Nodup)(h2:∀b∈l,SetK m b):l.length<=128:=by
 have:=b3m h1 (L:=b0P m.length) fun b hb=>a3j _ (h2 b hb).1 (h2 b hb).2.2
 rw [a6M] at this;have:2 ^ m.length<=2 ^ 7:=Nat.pow_le_pow_right (by decide) hn;lia
structure Gat (m:m4) (k:Nat) (b:List Int) (o:Option (List Int)):Prop where
 ok:∀q,o=some q->(∀a∈q,0<=a/\a < (k:Int))/\(a1f (nxS m) b q).length=1
 least:∀p,(∀a∈p,0<=a/\a < (k:Int))->(a1f (nxS m) b p).length=1->∃q,o=some q/\(q=p∨bf q p)
theorem Gat.of{m:m4}{k:Nat}{b:List Int}{P:List Int->Prop}{W:E3 (List Int)}(h:AllB (nxS m) k b P W):Gat m k b (a6L (fun c=>c.length == 1) W):=
 ⟨fun q e=>by have:=b0N h e;exact⟨this.1,by simpa using this.2⟩,fun p hp hl=>a8e h hp (by simpa using hl)⟩
theorem Gat.ext{m:m4}{k:Nat}{b:List Int}{o o':Option (List Int)}(h:Gat m k b o)(h':Gat m k b o'):o=o':=by
 cases o with
 | none=>
  cases o' with
  | none=>rfl
  | some q=>obtain⟨x,e,_⟩:=h.least q (h'.ok q rfl).1 (h'.ok q rfl).2;cases e
 | some p=>
  obtain⟨q,rfl,e⟩:=h'.least p (h.ok p rfl).1 (h.ok p rfl).2;obtain⟨p',e1,e2⟩:=h.least q (h'.ok q rfl).1 (h'.ok q rfl).2;cases e1
  rcases e with e|e
  ·rw [e]
  ·rcases e2 with e2|e2
   ·rw [e2]
   ·exact absurd (a0A e e2) (b8n _)
end VS
namespace VS
open PySem L2
def pr(s t:Int):Int × Int:=if s < t then (s,t) else (t,s)
def nx2(m:m4)(p:Int × Int)(a:Nat):Int × Int:=pr (stp m p.1 a).2 (stp m p.2 a).2
def fA(k:Nat)(f:Nat->Option (List Int)):Option (List Int):=(aJ k).findSome? fun a=>(f a).map fun q=>(a:Int) :: q
def fj(m:m4)(k:Nat):Nat->Int × Int->Option (List Int)
 | 0,p=>if p.1=p.2 then some [] else none
 | d + 1,p=>(fj m k d p).or (fA k fun a=>fj m k d (nx2 m p a))
structure PrOk (m:m4) (p:Int × Int):Prop where
 h0:0<=p.1
 h1:p.1<=p.2
 h2:p.2 < m.length
theorem c0D{m:m4}{s t:Int}(s0:0<=s)(s1:s < m.length)(t0:0<=t)(t1:t < m.length):PrOk m (pr s t):=by
 unfold pr;by_cases c:s < t
 ·rw [aE c];exact⟨s0,by show s<=t;lia,t1⟩
 ·rw [aO c];exact⟨t0,by show t<=s;lia,s1⟩
theorem a6N(s t:Int):(pr s t=(s,t))∨(pr s t=(t,s)):=by
 unfold pr;by_cases c:s < t
 ·rw [aE c];exact .inl rfl
 ·rw [aO c];exact .inr rfl
theorem W8:∀l:List Int,P5 fGt l l=false
 | []=>rfl
 | x :: l=>by simp only [P5,ie];exact W8 l
section
variable {m:m4}{k:Nat}
theorem a8f(w:WF m k){p:Int × Int}(h:PrOk m p){a:Nat}(ha:a < k):PrOk m (nx2 m p a):=by
 have h1:=w.nx (s:=p.1) (a:=a) h.h0 (by have:=h.h1;have:=h.h2;lia) (by lia) (by lia);have h2:=w.nx (s:=p.2) (a:=a) (by have:=h.h0;have:=h.h1;lia) h.h2 (by lia) (by lia);exact c0D h1.1 h1.2 h2.1 h2.2
theorem W9(h:fA k f=some r):∃a q,a < k/\f a=some q/\r=(a:Int) :: q/\∀b,b < a->f b=none:=by
 unfold fA at h;obtain⟨l1,a,l2,e,h1,h2⟩:=List.findSome?_eq_some_iff.mp h;obtain⟨_,ha,e2⟩:=N5 e;obtain⟨q,hq,rfl⟩:=bY.mp h1;refine⟨a,q,ha,hq,rfl,fun b hb=>?_⟩;have:=h2 b (by rw [e2];exact bo.mpr hb);exact rV.mp this
theorem b5i(h:fA k f=none)(ha:a < k):f a=none:=by
 unfold fA at h;have:=List.findSome?_eq_none_iff.mp h a (bo.mpr ha);exact rV.mp this
theorem b5T(ha:a < k)(h:f a=some q):∃r,fA k f=some r:=by
 cases e:fA k f with
 | some r=>exact⟨r,rfl⟩
 | none=>have:=b5i e ha;rw [h] at this;cases this
theorem b3n(h:∀a,a < k->f a=g a):fA k f=fA k g:=by
 unfold fA;have:∀l:List Nat,(∀a∈l,a < k)->l.findSome? (fun a=>(f a).map fun q=>(a:Int) :: q)=l.findSome? (fun a=>(g a).map fun q=>(a:Int) :: q):=by
  intro l
  induction l with
  | nil=>intro _;rfl
  | cons x l ih=>
   intro hl;rw [vX,vX,h x (hl x ah),ih fun a ha=>hl a (ao _ ha)]
 exact this _ fun a ha=>bo.mp ha
theorem a3l(h:fj m k d p=some q):fj m k (d + 1) p=some q:=by
 show (fj m k d p).or _=_;rw [h];rfl
theorem a9g(uD:d<=e)(h:fj m k d p=some q):fj m k e p=some q:=by
 induction uD with
 | refl=>exact h
 | step _ ih=>exact a3l ih
theorem a9h(uD:d<=e)(h:fj m k e p=none):fj m k d p=none:=by
 cases x:fj m k d p with
 | none=>rfl
 | some q=>rw [a9g uD x] at h;cases h
theorem X0(h:fj m k d p=none):fj m k (d + 1) p=fA k fun a=>fj m k d (nx2 m p a):=by
 show (fj m k d p).or _=_;rw [h];rfl
theorem a9i(ha:a < k)(h:fj m k d (nx2 m p a)=some q):∃r,fj m k (d + 1) p=some r:=by
 cases x:fj m k d p with
 | some r=>exact⟨r,a3l x⟩
 | none=>
  rw [X0 x];exact b5T ha h
theorem a5i{p:Int × Int}(h:p.1=p.2):fj m k d p=some []:=a9g (dq d) (by show (if p.1=p.2 then some [] else none)=_;rw [aE h])
theorem a1g:∀{d:Nat} {p:Int × Int} {q:List Int},fj m k d p=some q->q.length<=d/\fj m k q.length p=some q/\∀e,e < q.length->fj m k e p=none
 | 0,p,q,h=>by
  have h':(if p.1=p.2 then some [] else none)=some q:=h;by_cases c:p.1=p.2
  ·rw [aE c] at h';cases h'
   exact⟨aF _,h,fun e he=>absurd he (Nat.not_lt_zero _)⟩
  ·rw [aO c] at h';cases h'
 | d + 1,p,q,h=>by
  cases x:fj m k d p with
  | some r=>
   have e:r=q:=by have:=a3l x;rw [h] at this;exact (aD this).symm
   subst e;obtain⟨h1,h2,h3⟩:=a1g x;exact⟨by lia,h2,h3⟩
  | none=>
   have hn:=X0 x;rw [h] at hn;obtain⟨a,q',ha,hq,rfl,_⟩:=W9 hn.symm;obtain⟨h1,h2,h3⟩:=a1g hq;have e:q'.length=d:=by
    by_cases c:q'.length < d
    ·obtain⟨r,hr⟩:=a9i ha h2;have:=a9g (show q'.length + 1<=d by lia) hr;rw [x] at this;cases this
    ·lia
   refine⟨by simp [e],by rw [ba,e];exact h,fun e' he=>?_⟩;rw [ba,e] at he;exact a9h (by lia) x
theorem X1:∀{d:Nat} {p:Int × Int} {q:List Int},fj m k d p=some q->∀a∈q,0<=a/\a < (k:Int)
 | 0,p,q,h=>by
  have h':(if p.1=p.2 then some [] else none)=some q:=h;by_cases c:p.1=p.2
  ·rw [aE c] at h';cases h';exact fun a ha=>(nomatch ha)
  ·rw [aO c] at h';cases h'
 | d + 1,p,q,h=>by
  cases x:fj m k d p with
  | some r=>
   have e:r=q:=by have:=a3l x;rw [h] at this;exact (aD this).symm
   subst e;exact X1 x
  | none=>
   have hn:=X0 x;rw [h] at hn;obtain⟨a,q',ha,hq,rfl,_⟩:=W9 hn.symm;intro b hb;rcases aH.mp hb with z|z
   ·rw [z];lia
   ·exact X1 hq b z
theorem a0C:∀{d:Nat} {p:Int × Int} {q:List Int},fj m k d p=some q->(j0 m p.1 q).2=(j0 m p.2 q).2
 | 0,p,q,h=>by
  have h':(if p.1=p.2 then some [] else none)=some q:=h;by_cases c:p.1=p.2
  ·rw [aE c] at h';cases h';exact c
  ·rw [aO c] at h';cases h'
 | d + 1,p,q,h=>by
  cases x:fj m k d p with
  | some r=>
   have e:r=q:=by have:=a3l x;rw [h] at this;exact (aD this).symm
   subst e;exact a0C x
  | none=>
   have hn:=X0 x;rw [h] at hn;obtain⟨a,q',ha,hq,rfl,_⟩:=W9 hn.symm;have ih:=a0C hq;show (j0 m (stp m p.1 a).2 q').2=(j0 m (stp m p.2 a).2 q').2;unfold nx2 at ih;rcases a6N (stp m p.1 a).2 (stp m p.2 a).2 with e|e <;> rw [e] at ih
   ·exact ih
   ·exact ih.symm
theorem b5j(w:WF m k)(h:∀p,PrOk m p->fj m k (d + 1) p=fj m k d p):∀e,d<=e->∀p,PrOk m p->fj m k e p=fj m k d p:=by
 intro e he
 induction he with
 | refl=>intro p _;rfl
 | @step e he ih=>
  intro p hp;have h1:fj m k (e + 1) p=(fj m k d p).or (fA k fun a=>fj m k d (nx2 m p a)):=by
   show (fj m k e p).or _=_;rw [ih p hp,b3n fun a ha=>ih _ (a8f w hp ha)]
  rw [h1];exact h p hp
theorem b3o(w:WF m k)(h:∀p,PrOk m p->fj m k (d + 1) p=fj m k d p)(hp:PrOk m p)(ha:a < k)(hq:fj m k d (nx2 m p a)=some q) :
  ∃r,fj m k d p=some r/\(r.length < q.length + 1∨(r.length=q.length + 1/\P5 fGt r ((a:Int) :: q)=false)):=by
 obtain⟨e1,e2,_⟩:=a1g hq;obtain⟨r,hr⟩:=a9i ha e2;have hj:fj m k d p=some r:=by
  by_cases c:q.length + 1<=d
  ·exact a9g c hr
  ·rw [<-b5j w h (q.length + 1) (by lia) p hp];exact hr
 refine⟨r,hj,?_⟩;obtain⟨f1,f2,f3⟩:=a1g hr;by_cases c:r.length < q.length + 1
 ·exact .inl c
 ·have el:r.length=q.length + 1:=by lia
  refine .inr ⟨el,?_⟩;have hn:=X0 (f3 q.length (by lia));rw [hr] at hn;obtain⟨b,q0,hb,yP,rfl,fL⟩:=W9 hn.symm;have qJ:b<=a:=by
   rcases et a b with z|z
   ·have:=fL a z;rw [e2] at this;cases this
   ·exact z
  show (if (b:Int)=a then P5 fGt q0 q else fGt b a)=false;by_cases z:b=a
  ·subst z;rw [e2] at yP;cases yP
   rw [aE rfl];exact W8 q
  ·rw [aO (by lia)];unfold fGt;exact aQ (by lia)
end
end VS
namespace VS
open PySem L2
theorem a6O:O4 [] p=none:=rfl
theorem P8:O4 (x :: W) p=if x.1=p then some x.2 else O4 W p:=by
 unfold O4;rw [fu];by_cases h:x.1=p
 ·rw [aL h,aE h];rfl
 ·rw [aQ h,aO h]
theorem a3m{p:Int × Int}{V:PW}:∀W:PW,O4 (W ++ V) p=(O4 W p).or (O4 V p)
 | []=>rfl
 | x :: W=>by
  rw [bO,P8,P8,a3m W];by_cases h:x.1=p
  ·rw [aE h,aE h];rfl
  ·rw [aO h,aO h]
theorem E4:∀W:PW,p∈W.map (·.1)↔(O4 W p).isSome=true
 | []=>by simp [a6O]
 | x :: W=>by
  rw [aA,aH,P8,E4 W];by_cases h:x.1=p
  ·rw [aE h];simp [h]
  ·have h2:p≠x.1:=fun z=>h z.symm
   rw [aO h];simp [h2]
def nw(g:Int × Int->Option (List Int))(L:List (Int × Int)):PW:=L.filterMap fun p=>(g p).map fun q=>(p,q)
section
variable {g:Int × Int->Option (List Int)}
theorem b3p:nw g (L ++ L')=nw g L ++ nw g L':=by unfold nw;rw [List.filterMap_append]
theorem b3q:nw g [p]=match g p with|none=>[]|some q=>[(p,q)]:=by
 unfold nw;cases h:g p with
 | none=>simp [h]
 | some q=>simp [h]
theorem a8g(L:List (Int × Int)):(nw g L).length<=L.length:=List.length_filterMap_le ..
theorem a2c:∀L:List (Int × Int),O4 (nw g L) p=if p∈L then g p else none
 | []=>by simp [nw,a6O]
 | x :: L=>by
  have e:nw g (x :: L)=nw g [x] ++ nw g L:=by rw [<-b3p];rfl
  rw [e,a3m,a2c L,b3q];by_cases h:x=p
  ·subst h;rw [aE ah];cases hg:g x with
   | none=>
    by_cases c:x∈L
    ·rw [aE c];rfl
    ·rw [aO c];rfl
   | some q=>show (O4 [(x,q)] x).or _=_;rw [P8,aE rfl];rfl
  ·have h2:p≠x:=fun z=>h z.symm
   have h3:(p∈x :: L)↔p∈L:=by simp [h2]
   have e1:O4 (match g x with|none=>[]|some q=>[(x,q)]) p=none:=by
    cases g x with
    | none=>rfl
    | some q=>show O4 [(x,q)] p=none;rw [P8,aO h];rfl
   rw [e1];by_cases c:p∈L
   ·rw [aE c,aE (h3.mpr c)];rfl
   ·rw [aO c,aO (fun z=>c (h3.mp z))];rfl
theorem a0D:p∈(nw g L).map (·.1)↔p∈L/\(g p).isSome=true:=by
 rw [E4,a2c];by_cases c:p∈L
 ·rw [aE c];simp [c]
 ·rw [aO c];simp [c]
theorem b8x(h:nw g L=[])(hp:p∈L):g p=none:=by
 have:=a2c (g:=g) (p:=p) L;rw [h,aE hp] at this;exact this.symm
end
def prs(n:Nat):List (Int × Int):=(aJ n).flatMap fun (s:Nat)=>(aJ (n - 1 - s)).map fun (j:Nat)=>((s:Int),((s:Int) + 1 + (j:Int)))
theorem K1:p∈prs n↔0<=p.1/\p.1 < p.2/\p.2 < (n:Int):=by
 unfold prs;rw [fU]
 constructor
 ·rintro⟨s,hs,h⟩;obtain⟨j,hj,rfl⟩:=aG.mp h;have:=bo.mp hs;have:=bo.mp hj;exact⟨by show (0:Int)<=s;lia,by show (s:Int) < s + 1 + j;lia,by show (s:Int) + 1 + j < n;lia⟩
 ·rintro⟨h0,h1,h2⟩;refine⟨p.1.toNat,bo.mpr (by lia),aG.mpr ⟨(p.2 - p.1 - 1).toNat,bo.mpr (by lia),?_⟩⟩;rcases p with⟨a,b⟩
  simp only [ju] at h0 h1 h2 ⊢;lia
theorem b5k:∀n,n < 31->(prs n).length=n * (n - 1) / 2:=by decide +kernel
theorem b0Q(n:Nat):(prs n).Nodup:=by
 unfold prs List.Nodup;rw [List.pairwise_flatMap];refine⟨fun s _=>?_,?_⟩
 ·rw [gQ];refine zS ?_ (Dq (n:=n - 1 - s));intro a b oU e;simp only [ju,true_and] at e;exact oU (by lia)
 ·refine zS ?_ (Dq (n:=n));intro a b oU x hx y hy e;obtain⟨_,_,rfl⟩:=aG.mp hx;obtain⟨_,_,rfl⟩:=aG.mp hy;simp only [ju] at e;exact oU (by lia)
def lft(m:m4)(k d:Nat):List (Int × Int):=(prs m.length).filter fun p=>(fj m k d p).isNone
def Fnd(m:m4)(k d:Nat)(W:PW):Prop:=∀p,PrOk m p->O4 W p=fj m k d p
section
variable {m:m4}{k d:Nat}{W:PW}
theorem G0:p∈lft m k d↔p∈prs m.length/\fj m k d p=none:=by
 unfold lft;rw [dc,o_]
theorem a8h(h:p∈lft m k d):PrOk m p:=by
 have:=K1.mp (G0.mp h).1;exact⟨this.1,by lia,this.2.2⟩
theorem b0R:(lft m k d).Nodup:=List.Nodup.sublist List.filter_sublist (b0Q _)
theorem Fnd.next(h:Fnd m k d W):Fnd m k (d + 1) (W ++ nw (fj m k (d + 1)) (lft m k d)):=by
 intro p hp;rw [a3m,h p hp,a2c];cases x:fj m k d p with
 | some q=>rw [a3l x];rfl
 | none=>
  have gy:p.1≠p.2:=fun z=>by rw [a5i z] at x;cases x
  have h1:=hp.h0;have h2:=hp.h1;have h3:=hp.h2;rw [aE (G0.mpr ⟨K1.mpr ⟨h1,by lia,h3⟩,x⟩)];rfl
theorem a6P:(lft m k d).filter (fun p=>!decide (p∈(nw (fj m k (d + 1)) (lft m k d)).map (·.1)))=lft m k (d + 1):=by
 have e:∀p∈lft m k d,(!decide (p∈(nw (fj m k (d + 1)) (lft m k d)).map (·.1)))=(fj m k (d + 1) p).isNone:=by
  intro p hp;cases x:fj m k (d + 1) p with
  | none=>rw [aQ (fun z=>by have:=(a0D.mp z).2;rw [x] at this;cases this)];rfl
  | some q=>rw [aL (a0D.mpr ⟨hp,by rw [x];rfl⟩)];rfl
 rw [mv e];unfold lft;rw [List.filter_filter];refine mv fun p _=>?_
 cases x:fj m k (d + 1) p with
 | none=>rw [a9h (gE d) x];rfl
 | some q=>rfl
theorem a6Q(h:nw (fj m k (d + 1)) (lft m k d)≠[]):(lft m k (d + 1)).length < (lft m k d).length:=by
 rw [<-a6P];obtain⟨x,hx⟩:=List.exists_mem_of_ne_nil _ h;have hm:x.1∈(nw (fj m k (d + 1)) (lft m k d)).map (·.1):=aG.mpr ⟨x,hx,rfl⟩;exact List.length_filter_lt_length_iff_exists.mpr ⟨x.1,(a0D.mp hm).1,by rw [aL hm];decide⟩
theorem b5l(h:nw (fj m k (d + 1)) (lft m k d)=[]):∀p,PrOk m p->fj m k (d + 1) p=fj m k d p:=by
 intro p hp;cases x:fj m k d p with
 | some q=>exact a3l x
 | none=>
  have gy:p.1≠p.2:=fun z=>by rw [a5i z] at x;cases x
  have h1:=hp.h0;have h2:=hp.h1;have h3:=hp.h2;exact b8x h (G0.mpr ⟨K1.mpr ⟨h1,by lia,h3⟩,x⟩)
def WZ(n:Nat):PW:=(aJ n).map fun (s:Nat)=>(((s:Int),(s:Int)),[])
theorem a5j:p∈(WZ n).map (·.1)↔0<=p.1/\p.1=p.2/\p.2 < (n:Int):=by
 unfold WZ;rw [cP,aG]
 constructor
 ·rintro⟨s,hs,rfl⟩;have:=bo.mp hs;exact⟨by show (0:Int)<=s;lia,rfl,by show (s:Int) < n;lia⟩
 ·rintro⟨h0,h1,h2⟩;refine⟨p.1.toNat,bo.mpr (by lia),?_⟩;rcases p with⟨a,b⟩
  show (((a.toNat:Nat):Int),((a.toNat:Nat):Int))=(a,b);simp only at h0 h1 h2;rw [cX h0,h1]
theorem b8y:O4 (WZ n) p=if 0<=p.1/\p.1=p.2/\p.2 < (n:Int) then some [] else none:=by
 by_cases c:0<=p.1/\p.1=p.2/\p.2 < (n:Int)
 ·rw [aE c];have hs:=(E4 (WZ n)).mp (a5j.mpr c);obtain⟨q,hq⟩:=dz.mp hs;rw [hq];unfold O4 at hq;obtain⟨x,hx,rfl⟩:=bY.mp hq;have:=fX hx;unfold WZ at this;obtain⟨s,_,rfl⟩:=aG.mp this;rfl
 ·rw [aO c];cases x:O4 (WZ n) p with
  | none=>rfl
  | some q=>exact absurd (a5j.mp ((E4 (WZ n)).mpr (by rw [x];rfl))) c
theorem b5U:Fnd m k 0 (WZ m.length):=by
 intro p hp;rw [b8y];show _=if p.1=p.2 then some [] else none
 by_cases c:p.1=p.2
 ·rw [aE c,aE ⟨hp.h0,c,hp.h2⟩]
 ·rw [aO c,aO fun z=>c z.2.1]
theorem a9j:lft m k 0=prs m.length:=by
 unfold lft;refine List.filter_eq_self.mpr fun p hp=>?_
 have:=K1.mp hp;show (if p.1=p.2 then some [] else (none:Option (List Int))).isNone=true;rw [aO (by lia)];rfl
end
end VS
namespace VS
open PySem L2
theorem b8z(p:Int × Int):(prD p).canLay0=true:=b2U p
theorem b3r(p:Int × Int):(prD p).depth<=1:=a6w p
theorem c0E:dIx (prD p) (.int 0)=some (.int p.1):=rfl
theorem c0F:dIx (prD p) (.int 1)=some (.int p.2):=rfl
theorem b8A:o3 [prD p]=some (.int 2):=rfl
theorem b3s:M8 (prD p)=true:=rfl
theorem b8B{Z:List D}(ha:a Z=some x)(hb:b Z=some y)(hc:c Z=some z)(he:e Z=some u)(h1:g x y=some (.bool true))(h2:g' y z=some (.bool true))(h3:g2 z u=some d):b0k g g' g2 a b c e Z=some d:=by
 unfold b0k;rw [ha];show (b Z).bind _=_;rw [hb];show (g x y).bind _=_;rw [h1];show (c Z).bind _=_;rw [hc];show (g' y z).bind _=_;rw [h2];show (e Z).bind _=_;rw [he];exact h3
end VS
namespace VS
open PySem L2
def pw(m:m4):Int × Int->List Int->Int × Int
 | p,[]=>p
 | p,a :: r=>pw m (nx2 m p a.toNat) r
def leB(p q:List Int):Prop:=p=q∨bf p q
theorem leB.trans(h:leB p q)(h':leB q r):leB p r:=by
 rcases h with rfl|h
 ·exact h'
 ·rcases h' with rfl|h'
  ·exact .inr h
  ·exact .inr (a0A h h')
theorem b3t(a:Int)(h:leB p q):leB (a :: p) (a :: q):=by
 rcases h with rfl|h
 ·exact .inl rfl
 ·rcases h with h|⟨h1,h2⟩
  ·exact .inr (.inl (by simpa using h))
  ·exact .inr (.inr ⟨by simpa using h1,a0z [a] h2⟩)
theorem a9k:∀{p q:List Int},p.length=q.length->P5 fGt p q=false->p=q∨wl p q
 | [],[],_,_=>.inl rfl
 | [],_ :: _,h,_=>by simp at h
 | _ :: _,[],h,_=>by simp at h
 | x :: p,y :: q,h,h'=>by
  have hl:p.length=q.length:=by simpa using h
  have nO:(if x=y then P5 fGt p q else fGt x y)=false:=h';by_cases c:x=y
  ·subst c;rw [aE rfl] at nO;rcases a9k hl nO with z|z
   ·exact .inl (by rw [z])
   ·exact .inr (a0z [x] z)
  ·rw [aO c] at nO;unfold fGt at nO;have:=of_decide_eq_false nO;exact .inr (.inl (by lia))
section
variable {m:m4}{k:Nat}
theorem b3u(w:WF m k)(h:∀p,PrOk m p->fj m k (d + 1) p=fj m k d p):∀{r:List Int} {p:Int × Int},PrOk m p->(∀a∈r,0<=a/\a < (k:Int))->(pw m p r).1=(pw m p r).2->∃q,fj m k d p=some q/\leB q r
 | [],p,hp,_,hj=>⟨[],a5i hj,.inl rfl⟩
 | a :: r,p,hp,ha,hj=>by
  have h0:=ha a ah;obtain⟨q',wV,hl⟩:=b3u w h (a8f w hp (a:=a.toNat) (by lia)) (fun b hb=>ha b (ao _ hb)) hj;obtain⟨rr,hr,yO⟩:=b3o w h hp (a:=a.toNat) (by lia) wV;refine⟨rr,hr,leB.trans ?_ (b3t a hl)⟩;have ea:((a.toNat:Nat):Int)=a:=cX h0.1;rw [ea] at yO;rcases yO with z|⟨z1,z2⟩
  ·exact .inr (.inl (by simpa using z))
  ·rcases a9k (by simpa using z1) z2 with y|y
   ·exact .inl y
   ·exact .inr (.inr ⟨by simpa using z1,y⟩)
end
structure Bq (m:m4) (k:Nat) (p0:Int × Int) (n c:Nat) (L:PW):Prop where
 head:∃E,L=(p0,[]) :: E
 nodup:(L.map (·.1)).Nodup
 sor:L.Pairwise fun x y=>bf x.2 y.2
 ok:∀e∈L,PrOk m e.1
 asks:∀e∈L,∀a∈e.2,0<=a/\a < (k:Int)
 leads:∀e∈L,pw m p0 e.2=e.1
 done:∀(j:Nat) e (a:Nat),L[j]?=some e->(j < n/\a < k∨j=n/\a < c)->∃q,(nx2 m e.1 a,q)∈L/\leB q (e.2 ++ [(a:Int)])
 par:∀e∈L,e.2=[]∨∃(j:Nat) (f:(Int × Int) × List Int) (b:Nat),L[j]?=some f/\e.2=f.2 ++ [(b:Int)]/\(j < n∨j=n/\b < c)
 off:∀(j:Nat) e,j < n->L[j]?=some e->e.1.1≠e.1.2
end VS
namespace VS
open PySem L2
theorem a4x{Z:List D}{ns:List Int}(h:a Z=some (.list (ns.map .int)))(hl:ns.length < 64):U1 a Z=some (.list ((a5h ns).map .int)):=by
 unfold U1;rw [h];show (intsOf (ns.map .int)).bind _=_;rw [a2A];show (if ns.length < 64 then _ else none)=_;rw [aE hl];rfl
def ldS(m:m4)(b q:List Int):List Int:=a5h (b.map fun s=>(j0 m s q).2)
def In(m:m4)(b:List Int):Prop:=Inc b/\∀s∈b,0<=s/\s < (m.length:Int)
theorem In.ld(w:WF m k)(h:In m b)(hq:∀a∈q,0<=a/\a < (k:Int)):In m (ldS m b q):=by
 refine⟨P7 _,fun s hs=>?_⟩;obtain⟨t,ht,rfl⟩:=aG.mp (A2.mp hs);have:=h.2 t ht;exact W6 w q t this.1 this.2 hq
theorem a8i{b c:List Int}(hb:b.Nodup)(h:∀x∈b,x∈c):b.length<=c.length:=b3m hb h
theorem a6R(hb:b=s :: t :: r)(h:(j0 m s q).2=(j0 m t q).2):(ldS m b q).length < b.length:=by
 have h1:(ldS m b q).length<=((t :: r).map fun s=>(j0 m s q).2).length:=by
  refine a8i ((P7 _).imp fun z=>by lia) fun x hx=>?_
  have rg:=A2.mp hx;rw [hb,aA] at rg;rcases aH.mp rg with z|z
  ·rw [z,h,aA];exact ah
  ·exact z
 rw [ar] at h1;have h2:=dC gG hb;simp only [ba] at h1 h2;lia
def byP(m:m4)(g:Int × Int->Option (List Int)):Nat->List Int->List Int->Option (List Int)
 | 0,_,acc=>some acc
 | n + 1,b,acc=>if 1 < b.length then match g (b.getD 0 0,b.getD 1 0) with
  | none=>none
  | some q=>byP m g n (ldS m b q) (acc ++ q)
  else some acc
theorem a3n(hg:∀p q,g p=some q->∀a∈q,0<=a/\a < (k:Int)):∀(n:Nat) (b acc r:List Int),(∀a∈acc,0<=a/\a < (k:Int))->byP m g n b acc=some r->∀a∈r,0<=a/\a < (k:Int)
 | 0,b,acc,r,ha,h=>by cases h;exact ha
 | n + 1,b,acc,r,ha,h=>by
  unfold byP at h;by_cases c:1 < b.length
  ·rw [aE c] at h;cases e:g (b.getD 0 0,b.getD 1 0) with
   | none=>rw [e] at h;cases h
   | some q=>
    rw [e] at h;refine a3n hg n _ _ r (fun a oV=>?_) h;rcases ay.mp oV with z|z
    ·exact ha a z
    ·exact hg _ _ e a z
  ·rw [aO c] at h;cases h;exact ha
theorem b5m{b acc:List Int}(h:b.length<=1):byP m g n b acc=some acc:=by
 cases n with
 | zero=>rfl
 | succ n=>unfold byP;rw [aO (by lia)]
theorem b3v{b acc:List Int}(hn:b.length<=n)(h:1 < b.length)(e:g (b.getD 0 0,b.getD 1 0)=none):byP m g n b acc=none:=by
 cases n with
 | zero=>lia
 | succ n=>unfold byP;rw [aE h,e]
theorem b3w{b acc q:List Int}(hn:b.length<=n)(h:1 < b.length)(e:g (b.getD 0 0,b.getD 1 0)=some q):∃n',n=n' + 1/\byP m g n b acc=byP m g n' (ldS m b q) (acc ++ q):=by
 cases n with
 | zero=>lia
 | succ n=>exact⟨n,rfl,by conv=>lhs;unfold byP;rw [aE h,e]⟩
theorem two{b:List Int}(h:1 < b.length):∃s t r,b=s :: t :: r:=by
 match b,h with
 | s :: t :: r,_=>exact⟨s,t,r,rfl⟩
theorem a5k{b:List Int}(h:j < b.length):L2.atI (b.map bt) (j:Int)=some (.int (b.getD j 0)):=by
 have:=M4 (ns:=b) (j:=(j:Int)) (by lia) (by lia)
 rwa [bw] at this
theorem a9l{Z:List D}(h:a Z=some (.int n))(hn:n<=1000):a2D a Z=some (.list (((aJ n).map fun (s:Nat)=>(s:Int)).map .int)):=by
 unfold a2D;rw [h,ib];show (some (n:Int)).bind _=_;rw [ib,aE ⟨by lia,by lia⟩,bw,a0Y];rw [cP];rfl
end VS
namespace VS
open PySem L2
theorem a1h:∀l:List Int,P5 fLt l l=false
 | []=>rfl
 | x :: l=>by simp only [P5,ie];exact a1h l
theorem b5n{r q:List Int}:b1L (.tuple [.int x,.list (r.map .int)]) (.tuple [.int y,.list (q.map .int)])=some (.bool (if x=y then P5 fGt r q else fGt x y)):=by
 have hl:∀(x:Int) (p:List Int),(cw [.int x,.list (p.map .int)]).canLay0=true:=fun x p=>by
  have:=lay_ints p;simp only [cS,bg] at this ⊢;rw [this];rfl
 have hd:(cw [.int x,.list (r.map .int)]).depth<=60:=by
  have:=Z5 r;simp only [dI,bQ] at this ⊢;lia
 unfold b1L a1s;rw [hl,hl,aL hd];by_cases h:x=y
 ·simp only [L3,q8,W4,h,uU,ie,U4,aI,U3];by_cases h2:r=q
  ·subst h2;simp [W8,fGt]
  ·simp [h2]
 ·simp only [L3,q8,W4,h,rS,df,fK];simp
theorem b5o{r q:List Int}:b4q (.tuple [.int x,.list (r.map .int)]) (.tuple [.int y,.list (q.map .int)])=some (.bool (if x=y then P5 fLt r q else fLt x y)):=by
 have hl:∀(x:Int) (p:List Int),(cw [.int x,.list (p.map .int)]).canLay0=true:=fun x p=>by
  have:=lay_ints p;simp only [cS,bg] at this ⊢;rw [this];rfl
 have hd:(cw [.int x,.list (r.map .int)]).depth<=60:=by
  have:=Z5 r;simp only [dI,bQ] at this ⊢;lia
 unfold b4q a1s;rw [hl,hl,aL hd];by_cases h:x=y
 ·simp only [L3,q8,W4,h,uU,ie,U4,aI,U3];by_cases h2:r=q
  ·subst h2;simp [a1h,fLt]
  ·simp [h2]
 ·simp only [L3,q8,W4,h,rS,df,fK];simp
theorem a3o:isN (B2 o)=o.isNone:=by cases o <;> rfl
theorem b3x{Z:List D}{ns:List Int}(h:a Z=some (.list (ns.map .int)))(hl:ns.length < 4000):a1U a Z=some (.int ((dis ns).length:Nat)):=by
 unfold a1U;rw [h];show (intsOf (ns.map bt)).bind _=_;rw [a2A];show (if ns.length < 4000 then _ else _)=_;rw [aE hl]
theorem b5p(ns:List Int):(dis ns).length=(a5h ns).length:=by unfold a5h;exact (P4 _).length_eq.symm
theorem a9m:∀{p q:List Int},wl q p->P5 fLt p q=false
 | a :: p,b :: q,h=>by
  show (if a=b then P5 fLt p q else fLt a b)=false;rcases h with h|⟨h1,h2⟩
  ·rw [aO (by lia)];exact aQ (by lia)
  ·rw [aE h1.symm];exact a9m h2
 | [],_ :: _,h=>h.elim
 | _ :: _,[],h=>h.elim
 | [],[],h=>h.elim
theorem a9n:∀{p q:List Int},wl p q->P5 fGt p q=false
 | a :: p,b :: q,h=>by
  show (if a=b then P5 fGt p q else fGt a b)=false;rcases h with h|⟨h1,h2⟩
  ·rw [aO (by lia)];exact aQ (by lia)
  ·rw [aE h1];exact a9n h2
 | [],_ :: _,h=>h.elim
 | _ :: _,[],h=>h.elim
 | [],[],h=>h.elim
theorem c0G(h:q=p∨bf q p):b4q (.tuple [.int p.length,.list (p.map .int)]) (.tuple [.int q.length,.list (q.map .int)])=some (.bool false):=by
 rw [b5o];rcases h with rfl|h|⟨h1,h2⟩
 ·rw [aE rfl,a1h]
 ·rw [aO (by lia)];congr 2;exact aQ (by lia)
 ·rw [aE (by lia),a9m h2]
theorem b5V(h:p=q∨bf p q):b1L (.tuple [.int p.length,.list (p.map .int)]) (.tuple [.int q.length,.list (q.map .int)])=some (.bool false):=by
 rw [b5n];rcases h with rfl|h|⟨h1,h2⟩
 ·rw [aE rfl,W8]
 ·rw [aO (by lia)];congr 2;exact aQ (by lia)
 ·rw [aE (by lia),a9n h2]
section
variable {m:m4}{k:Nat}
theorem a9o(w:WF m k)(hb:SetK m b)(hq:∀a∈q,0<=a/\a < (k:Int)):a1f (nxS m) b q=ldS m b q:=
 b3l (SetK.run w q hb hq).1 (P7 _) fun x=>by
  rw [a9f q b x fun a ha=>(hq a ha).1,ldS,A2];exact aG.symm
theorem Inc.one(hc:Inc c)(hx:x∈c)(h:∀y∈c,y=x):c.length=1:=by
 match c,hc,hx,h with
 | [_],_,_,_=>rfl
 | y :: z :: r,hc,_,h=>
  have h1:=h y ah;have h2:=h z (ao _ ah);have h3:y < z:=(cy.mp hc).1 z ah;lia
theorem a2d(hb:b≠[]):(ldS m b q).length=1↔∀s∈b,∀t∈b,(j0 m s q).2=(j0 m t q).2:=by
 constructor
 ·intro h s hs t ht;have h1:(j0 m s q).2∈ldS m b q:=A2.mpr (aG.mpr ⟨s,hs,rfl⟩);have h2:(j0 m t q).2∈ldS m b q:=A2.mpr (aG.mpr ⟨t,ht,rfl⟩)
  match e:ldS m b q,h with
  | [x],_=>
   rw [e] at h1 h2;rw [ax.mp h1,ax.mp h2]
 ·intro h;obtain⟨s,r,rfl⟩:=iX hb;refine Inc.one (P7 _) (A2.mpr (aG.mpr ⟨s,ah,rfl⟩)) fun y hy=>?_
  obtain⟨t,ht,rfl⟩:=aG.mp (A2.mp hy);exact h t ht s ah
theorem a6S:∀(n:Nat) (b acc r:List Int),b.length<=n->(∀(b q:List Int),1 < b.length->g (b.getD 0 0,b.getD 1 0)=some q->(ldS m b q).length < b.length)->byP m g n b acc=some r->∃r',r=acc ++ r'/\∀s∈b,∀t∈b,(j0 m s r').2=(j0 m t r').2
 | 0,b,acc,r,hn,hg,h=>by
  cases h
  have:b=[]:=List.eq_nil_of_length_eq_zero (by lia);subst this;exact⟨[],(aZ _).symm,fun s hs=>(nomatch hs)⟩
 | n + 1,b,acc,r,hn,hg,h=>by
  unfold byP at h;by_cases c:1 < b.length
  ·rw [aE c] at h;cases e:g (b.getD 0 0,b.getD 1 0) with
   | none=>rw [e] at h;cases h
   | some q=>
    rw [e] at h;have hl:=hg b q c e;obtain⟨r',e1,e2⟩:=a6S n (ldS m b q) (acc ++ q) r (by lia) hg h;refine⟨q ++ r',by rw [e1,aP],fun s hs t ht=>?_⟩;rw [W5,W5];exact e2 _ (A2.mpr (aG.mpr ⟨s,hs,rfl⟩)) _ (A2.mpr (aG.mpr ⟨t,ht,rfl⟩))
  ·rw [aO c] at h;cases h
   refine⟨[],(aZ _).symm,fun s hs t ht=>?_⟩
   match b,c,hs,ht with
   | [x],_,hs,ht=>rw [ax.mp hs,ax.mp ht]
   | x :: y :: l,c,_,_=>simp at c
theorem a9p:∀(r:List Int) (p:Int × Int),(j0 m p.1 r).2=(j0 m p.2 r).2->(pw m p r).1=(pw m p r).2
 | [],p,h=>h
 | a :: r,p,h=>by
  refine a9p r (nx2 m p a.toNat) ?_;have h':(j0 m (stp m p.1 (a.toNat:Nat)).2 r).2=(j0 m (stp m p.2 (a.toNat:Nat)).2 r).2:=h;unfold nx2;rcases a6N (stp m p.1 (a.toNat:Nat)).2 (stp m p.2 (a.toNat:Nat)).2 with e|e <;> rw [e]
  ·exact h'
  ·exact h'.symm
variable {d:Nat}
theorem U9(w:WF m k)(jS:∀p,PrOk m p->fj m k (d + 1) p=fj m k d p)(hp:p∈lft m k d)(hr:∀a∈r,0<=a/\a < (k:Int)):(j0 m p.1 r).2≠(j0 m p.2 r).2:=fun h=>by
 obtain⟨q,hq,_⟩:=b3u w jS (a8h hp) hr (a9p r p h);rw [(G0.mp hp).2] at hq;cases hq
theorem b0S(w:WF m k)(jS:∀p,PrOk m p->fj m k (d + 1) p=fj m k d p)(h:byP m (fj m k d) m.length ((aJ m.length).map fun (s:Nat)=>(s:Int)) []=some r):lft m k d=[]/\∀s∈(aJ m.length).map (fun (s:Nat)=>(s:Int)),∀t∈(aJ m.length).map (fun (s:Nat)=>(s:Int)),(j0 m s r).2=(j0 m t r).2:=by
 obtain⟨r',e1,e2⟩:=a6S _ _ _ r (by rw [ar,bJ];exact aF _) (fun b q hl e=>by obtain⟨s,t,l,rfl⟩:=two hl;exact a6R rfl (a0C e)) h;rw [bT] at e1;subst e1;refine⟨?_,e2⟩;cases e:lft m k d with
 | nil=>rfl
 | cons p l=>
  have hp:p∈lft m k d:=by rw [e];exact ah
  have hm:=K1.mp (G0.mp hp).1;have ha:=a3n (k:=k) (fun p q e=>X1 e) m.length _ [] r (fun a ha=>(nomatch ha)) h;refine absurd (e2 p.1 (aG.mpr ⟨p.1.toNat,bo.mpr (by lia),by lia⟩) p.2 (aG.mpr ⟨p.2.toNat,bo.mpr (by lia),by lia⟩)) (U9 w jS hp ha)
theorem a9q(w:WF m k)(hg:∀p,PrOk m p->p.1 < p.2->∃q,g p=some q/\∀a∈q,0<=a/\a < (k:Int)):∀(n:Nat) (b acc:List Int),In m b->∃r,byP m g n b acc=some r
 | 0,b,acc,_=>⟨acc,rfl⟩
 | n + 1,b,acc,hb=>by
  unfold byP;by_cases c:1 < b.length
  ·rw [aE c];obtain⟨s,t,r,rfl⟩:=two c;have h1:s < t:=(cy.mp hb.1).1 t ah;have h2:=hb.2 s ah;have h3:=hb.2 t (ao _ ah);obtain⟨q,e,ha⟩:=hg (s,t) ⟨h2.1,by show s<=t;lia,h3.2⟩ h1;show ∃r',(match g (s,t) with|none=>none|some q=>byP m g n (ldS m (s :: t :: r) q) (acc ++ q))=some r';rw [e];exact a9q w hg n _ _ (hb.ld w ha)
  ·rw [aO c];exact⟨acc,rfl⟩
theorem SetK.of(h:In m b)(gy:b≠[]):SetK m b:=⟨h.1,gy,h.2⟩
theorem SetK.inn(h:SetK m b):In m b:=⟨h.1,h.2.2⟩
theorem Gat.ok'(w:WF m k)(hb:SetK m b)(h:Gat m k b o)(e:o=some q):(∀a∈q,0<=a/\a < (k:Int))/\(ldS m b q).length=1:=by
 have:=h.ok q e;rw [a9o w hb this.1] at this;exact this
theorem Gat.least'(w:WF m k)(hb:SetK m b)(h:Gat m k b o)(hp:∀a∈p,0<=a/\a < (k:Int))(e:(ldS m b p).length=1):∃q,o=some q/\(q=p∨bf q p):=
 h.least p hp (by rw [a9o w hb hp];exact e)
theorem b5q:∃j,cutD ds none h=ds.take j:=⟨_,by unfold cutD;rw [show HT.sIx ds.length 0 none=0 from rfl,List.drop_zero]⟩
end
end VS
namespace VS
open PySem L2
theorem a3p:∀(l:List D) (j:Nat),E9 l j=(aJ l.length).map fun (s:Nat)=>cw [.int ((j + s:Nat):Int),l.getD s .none]
 | [],_=>rfl
 | n :: ls,k=>by
  show cw [.int k,n] :: E9 ls (k + 1)=_;rw [a3p ls (k + 1),ba,r_,aA,cP]
  congr 1;refine cF fun s _=>?_
  show cw [.int ((k + 1 + s:Nat):Int),ls.getD s .none]=.tuple [.int ((k + (s + 1):Nat):Int),(n :: ls).getD (s + 1) .none];rw [kU,ig,rZ 1]
theorem a5l(f:Nat->D)(k:Nat):E9 ((aJ k).map f) 0=(aJ k).map fun (a:Nat)=>cw [.int (a:Int),f a]:=by
 rw [a3p,ar,bJ];refine cF fun a ha=>?_
 have h:=bo.mp ha;rw [rW,aX,bz,iH h];rfl
end VS
namespace Prog
open PySem L2 VS
abbrev iDl:List Int->D:=fun ns=>.list (ns.map .int)
abbrev kLs{β:Type}(key:β->D)(l:List β):D:=.list (l.map key)
theorem b3y[DecidableEq β](K:KeyB true key){gm:List D->Option D}(hk:k<=5){W:E3 β}{q:List Int}(hq:(b,q)∈W)(ka:(W.map (·.1)).Nodup)(hL:L<=W.length)(hW:W.length<=1000)(pK:q.length<=1000)(s0 qZ x y:D) :
  ∃x' y',Q2 (a4N 6 7) ((sIf (tB (e2 (dIn true true) (a4 7) (a4 2))) (c7 (J3 2 true (a4 7) (eI (q9 (e2 (a4T true) (a4 2) (a4 5)) (t8 (a5 (a4 6) b8))))) (J8 4 (.l .i) u8 (a4 7))) k6)) ((aJ k).map fun (a:Nat)=>cw [.int (a:Int),key (nx b a)]) [s0,.none,.dict (kvB key iDl W),qZ,kLs key ((W.drop L).map (·.1)),key b,x,y] =
   some (.nx [s0,.none,.dict (kvB key iDl (dd W (J4 nx k (b,q)))),qZ,kLs key (((dd W (J4 nx k (b,q))).drop L).map (·.1)),key b,x',y']):=by
 obtain⟨Z',g1,x',y',rfl⟩:=I9 (enc:=fun (a:Nat)=>cw [.int (a:Int),key (nx b a)]) (set:=a4N 6 7) (xs:=aJ k) (g:=(sIf (tB (e2 (dIn true true) (a4 7) (a4 2))) (c7 (J3 2 true (a4 7) (eI (q9 (e2 (a4T true) (a4 2) (a4 5)) (t8 (a5 (a4 6) b8))))) (J8 4 (.l .i) u8 (a4 7))) k6))
  (Z:=[s0,.none,.dict (kvB key iDl W),qZ,kLs key ((W.drop L).map (·.1)),key b,x,y])
  (fun pre Z=>∃x y,Z=[s0,.none,.dict (kvB key iDl (dd W (pre.map fun (a:Nat)=>(nx b a,q ++ [(a:Int)])))),qZ,kLs key (((dd W (pre.map fun (a:Nat)=>(nx b a,q ++ [(a:Int)]))).drop L).map (·.1)),key b,x,y]) ⟨x,y,rfl⟩ (by
   rintro pre a post e Z ⟨x,y,rfl⟩;obtain⟨ea,ha,_⟩:=N5 e;have ug:=a3b ka (pre.map fun (a:Nat)=>(nx b a,q ++ [(a:Int)]));have jk:=b5d (pre.map fun (a:Nat)=>(nx b a,q ++ [(a:Int)])) hq;have hlen:=b8m W (pre.map fun (a:Nat)=>(nx b a,q ++ [(a:Int)]));have Bz:=b3f W (pre.map fun (a:Nat)=>(nx b a,q ++ [(a:Int)]));have fD:(pre.map fun (a:Nat)=>(nx b a,q ++ [(a:Int)])).length<=5:=by rw [ar];lia
   rw [bb,lP,a0y];generalize dd W (pre.map fun (a:Nat)=>(nx b a,q ++ [(a:Int)]))=V at ug jk hlen Bz;have BN:=b8p (enc:=iDl) K ug jk;by_cases c:nx b a∈V.map (·.1)
   ·refine⟨_,[s0,.none,.dict (kvB key iDl V),qZ,kLs key ((V.drop L).map (·.1)),key b,.int a,key (nx b a)],rfl,?_,_,_,by rw [a0c c]⟩;have jK:dIn true true (key (nx b a)) (.dict (kvB key iDl V))=some (.bool false):=by rw [b3d K,aL c];rfl
    walk_at "ev";rw [jK];walk_at "ev"
   ·have jK:dIn true true (key (nx b a)) (.dict (kvB key iDl V))=some (.bool true):=by rw [b3d K,aQ c];rfl
    have vH:=b3e (W:=V) (c:=(nx b a,q ++ [(a:Int)])) (L:=L) (by lia);rw [aO c] at vH;refine⟨_,[s0,.none,.dict (kvB key iDl (dd1 V (nx b a,q ++ [(a:Int)]))),qZ,kLs key (((dd1 V (nx b a,q ++ [(a:Int)])).drop L).map (·.1)),key b,.int a,key (nx b a)],rfl,?_,_,_,rfl⟩;have DV:(((V.drop L).map (·.1)).map key).length < 1000000:=by rw [ar,ar,ic];lia
    have rj:eI (q9 (e2 (a4T true) (a4 2) (a4 5)) (t8 (a5 (a4 6) b8))) [s0,.none,.dict (kvB key iDl V),qZ,kLs key ((V.drop L).map (·.1)),key b,.int a,key (nx b a)]=some (iDl (q ++ [(a:Int)])):=by
     rw [b2N,a6t];walk_at "ev";rw [BN,a7X (by rw [ar];simp;lia)];show lIs (some (.list (q.map .int ++ [.int a])))=_;rw [show q.map bt ++ [bt a]=(q ++ [(a:Int)]).map .int by rw [bb];rfl,b2Z]
    walk_at "ev";rw [jK];walk_at "ev";rw [a8a (k:=key (nx b a)) (kvs:=kvB key iDl V) rj (by walk_at "ev") (by rfl) (K.ok _) (by rw [b5b];lia),b0L K c,<-R5 (W:=V) (c:=(nx b a,q ++ [(a:Int)])) c];walk_at "ev";rw [vH];unfold kLs;rw [bb];rfl)
 exact⟨x',y',g1⟩
theorem b5r[DecidableEq β](K:KeyB true key)(hk:k<=5)(h0:P s)(hP:∀b a,P b->a < k->P (nx b a))(hg:∀b,P b->gm [key b]=some (.list ((aJ k).map fun (a:Nat)=>key (nx b a))))
  (hB:∀l:List β,l.Nodup->(∀b∈l,P b)->l.length<=B) (Ec:B<=900):∃W:E3 β,J0 gm [key s]=some (.dict (kvB key iDl W))/\AllB nx k s P W:=by
 have len:∀{dn W:E3 β},MetB nx k s P dn W->W.length<=B:=fun {dn W} h=>by
  have:=hB _ h.nodup fun b hb=>by
   obtain⟨e,he,rfl⟩:=aG.mp hb;exact h.ok e he
  rwa [ar] at this
 unfold J0;rw [b3g (by simp [VS.argsOk,K.im])];unfold a1B;have BE:=K.ok s;walk_at "ev";rw [c1W (k:=key s) (d:=.list []) (by walk_at "ev") (by walk_at "ev") BE];walk_at "ev";refine L7 (R:=fun r=>∃W:E3 β,r=some (.dict (kvB key iDl W))/\AllB nx k s P W) (fun Z=>∃W x y z u v,Z=[key s,.none,.dict (kvB key iDl W),x,y,z,u,v]/\AllB nx k s P W) ?_ ?_
 ·rw [b8k];obtain⟨Z',g1,W,x,y,z,u,v,rfl,hA⟩:=a5d (c:=(tV (a4 3))) (g:=(c7 (i6 4 (t8 b8)) (c7 (B4 (iI (iL (a4 3))) (t5 5) (B4 (iI (iEn (eCl gm (a5 (a4 5) b8)))) (a4N 6 7) (sIf (tB (e2 (dIn true true) (a4 7) (a4 2))) (c7 (J3 2 true (a4 7) (eI (q9 (e2 (a4T true) (a4 2) (a4 5)) (t8 (a5 (a4 6) b8))))) (J8 4 (.l .i) u8 (a4 7))) k6))) (i6 3 (a4 4)))))
   (I:=fun j Z=>∃(dn nw W:E3 β) (y z u v:D),W=dn ++ nw/\MetB nx k s P dn W/\j<=dn.length/\Z=[key s,.none,.dict (kvB key iDl W),kLs key (nw.map (·.1)),y,z,u,v])
   (Q:=fun Z=>∃W x y z u v,Z=[key s,.none,.dict (kvB key iDl W),x,y,z,u,v]/\AllB nx k s P W) 900 (by
    rintro j Z ⟨dn,nw,W,y,z,u,v,hW,hM,hj,rfl⟩;have DZ:=len hM;have xE:dn.length<=W.length:=by rw [hW,aK];lia
    refine⟨by lia,?_⟩;cases nw with
    | nil=>
     rw [aZ] at hW;rw [<-hW] at hM;exact .inl ⟨by walk_at "ev";rfl,W,_,_,_,_,_,rfl,hM.all⟩
    | cons e0 nw=>
     refine .inr ⟨by walk_at "ev";rfl,?_⟩;obtain⟨Z',g1,V,z',u',v',rfl,hV,sP⟩:=I9 (enc:=fun (e:β × List Int)=>key e.1) (set:=t5 5) (xs:=e0 :: nw) (g:=(B4 (iI (iEn (eCl gm (a5 (a4 5) b8)))) (a4N 6 7) (sIf (tB (e2 (dIn true true) (a4 7) (a4 2))) (c7 (J3 2 true (a4 7) (eI (q9 (e2 (a4T true) (a4 2) (a4 5)) (t8 (a5 (a4 6) b8))))) (J8 4 (.l .i) u8 (a4 7))) k6)))
      (Z:=[key s,.none,.dict (kvB key iDl W),kLs key ((e0 :: nw).map (·.1)),.list [],z,u,v])
      (fun pre Z=>∃(V:E3 β) (z u v:D),Z=[key s,.none,.dict (kvB key iDl V),kLs key ((e0 :: nw).map (·.1)),kLs key ((V.drop W.length).map (·.1)),z,u,v]/\(∃E,V=W ++ E)/\MetB nx k s P (dn ++ pre) V)
      ⟨W,z,u,v,by rw [jI];rfl,⟨[],by rw [aZ]⟩,by rw [aZ];exact hM⟩ (by
       rintro pre e post he Z ⟨V,z,u,v,rfl,⟨E,hE⟩,sP⟩;obtain⟨b,q⟩:=e;have yM:(b,q)∈W:=by rw [hW,he];simp
       have yN:(b,q)∈V:=by rw [hE];exact aq _ yM
       have hs:P b:=hM.ok _ yM;have D_:=len sP;have pK:q.length<=1000:=by
        have DO:q.length<=V.length:=sP.qlen yN;lia
       have jS:MetB nx k s P ((dn ++ pre) ++ [(b,q)]) (dd V (J4 nx k (b,q))):=sP.step hP (nw:=post ++ E) (by rw [hE,hW,he];simp);obtain⟨x',y',g⟩:=b3y K (gm:=gm) (nx:=nx) hk yN sP.nodup (L:=W.length) (by rw [hE,aK];lia) (by lia) pK (key s) (kLs key ((e0 :: nw).map (·.1))) u v;refine⟨_,_,rfl,?_,dd V (J4 nx k (b,q)),key b,x',y',rfl,?_,by rw [<-aP];exact jS⟩
       ·have BS:=hg b hs;walk_at "ev";rw [a0r (ds:=(aJ k).map fun (a:Nat)=>cw [.int (a:Int),key (nx b a)]) (by rw [c0z (ds:=(aJ k).map fun (a:Nat)=>key (nx b a)) (by walk_at "ev";exact BS),a5l]) (l5 _ (fun j=>by simp only [imm,e6,K.im,eA]) _)];walk_at "ev";exact g
       ·obtain⟨E2,xP⟩:=a3a V (J4 nx k (b,q));exact⟨E ++ E2,by rw [xP,hE,aP]⟩)
     obtain⟨E,hE⟩:=hV;refine⟨[key s,.none,.dict (kvB key iDl V),kLs key (E.map (·.1)),kLs key ((V.drop W.length).map (·.1)),z',u',v'],?_,dn ++ (e0 :: nw),E,V,_,_,_,_,by rw [hE,hW],sP,?_,rfl⟩
     ·walk_at "ev";rw [a0r (ds:=(e0 :: nw).map fun e=>key e.1) (by walk_at "ev";rw [cP];rfl) (l5 _ (fun _=>K.im _) _)];walk_at "ev";refine b2P (fun Z=>Z=[key s,.none,.dict (kvB key iDl V),kLs key ((e0 :: nw).map (·.1)),kLs key ((V.drop W.length).map (·.1)),z',u',v']) ⟨_,g1,rfl⟩ ?_;rintro Z rfl;walk_at "ev";rw [hE,List.drop_left]
     ·rw [aK,ba];lia) 1000000 0 [key s,.none,.dict [(key s,.list [])],.list [key s],.none,.none,.none,.none] ⟨[],WB s,WB s,_,_,_,_,rfl,c0B h0,aF _,rfl⟩ (by lia)
  exact⟨_,g1,W,x,y,z,u,v,rfl,hA⟩
 ·rintro Z ⟨W,x,y,z,u,v,rfl,hA⟩;walk_at "ev";exact⟨W,rfl,hA⟩
end Prog
local macro_rules | `(tactic| walk_at "evm")=>`(tactic| first | (walk_at "ev";repeat (simp -implicitDefEqProofs (disch:=first | omega | assumption | decide) only [VS.Q4,VS.Q5,VS.M4];try walk_at "ev")) | (simp -implicitDefEqProofs (disch:=first | omega | assumption | decide) only [VS.Q4,VS.Q5,VS.M4];repeat (first | walk_at "ev" | simp -implicitDefEqProofs (disch:=first | omega | assumption | decide) only [VS.Q4,VS.Q5,VS.M4])))
namespace Prog
open PySem L2 VS
local macro_rules | `(tactic| walk_at "ev1")=>`(tactic| simp -implicitDefEqProofs only [VS.X6,VS.b5G,VS.b5F,VS.b5E,VS.a8F,VS.b1G,VS.a7r,lN,iW])
def O0:Int:=10 ^ 64
theorem b3z:1000 < O0:=by decide
theorem a0g(ns:List Int)(k:Int)(h0:0<=k):∃c:Int,m_law_cell_at [.list (ns.map .int),.int k]=some (.int c):=by
 unfold m_law_cell_at;rw [B5 (by simp [VS.argsOk,imm])];unfold b_law_cell_at;walk_at "evm";by_cases c:k < (ns.length:Int)
 ·rw [aL c];walk_at "evm";exact⟨_,rfl⟩
 ·rw [aQ c];walk_at "evm";exact⟨_,rfl⟩
theorem a3q(ns:List Int)(n:Nat)(h1:n<=1000):∃xs:List Int,m_law_cells [.list (ns.map .int),.int n]=some (.list (xs.map .int))/\xs.length=n/\∀x∈xs,0<=x:=by
 unfold m_law_cells;rw [B5 (by simp [VS.argsOk,imm])];unfold b_law_cells;walk_at "evm";rw [a2u (n:=n) (by walk_at "evm") (by lia) (by lia),bw];walk_at "evm";refine L7 (R:=fun o=>∃xs:List Int,o=some (.list (xs.map .int))/\xs.length=n/\∀x∈xs,0<=x) (fun Z=>∃(xs:List Int) (q:Int) (y z:D),xs.length=n/\(∀x∈xs,0<=x)/\Z=[.list (ns.map .int),.int n,.list (xs.map .int),.int q,y,z]) ?_ ?_
 ·obtain⟨Z',g1,xs,q,y,z,e1,e2,e3,rfl⟩:=v8 (n:=n) (set:=t5 4) (g:=(c7 (i6 5 (e2 n4 (eCl m_law_cell_at (a5 (a4 0) (a5 (a4 4) b8))) (e2 X2 (eC (.int 10)) (eC (.int 64))))) (c7 (i6 3 (e2 n4 (e2 n5 (e2 n5 (e2 n5 (e2 A3 (a4 3) (eC (.int 69621))) (e2 A3 (a4 5) (eC (.int 40014)))) (e2 A3 (a4 4) (a4 4))) (eC (.int 1))) (eC (.int 2147483563)))) (sIf (tB (e2 dLt (a4 4) (eCl o3 (a5 (a4 0) b8)))) (J8 2 (.l .i) u8 (a4 5)) (J8 2 (.l .i) u8 (a4 3)))))) (Z:=[.list (ns.map .int),.int n,.list [],.int 48271,.none,.none])
   (fun j Z=>∃(xs:List Int) (q:Int) (y z:D),xs.length=j/\(∀x∈xs,0<=x)/\0<=q/\Z=[.list (ns.map .int),.int n,.list (xs.map .int),.int q,y,z]) ⟨[],48271,_,_,rfl,fun x hx=>(nomatch hx),by decide,rfl⟩ (by
    rintro j hj Z ⟨xs,q,y,z,e1,e2,e3,rfl⟩;obtain⟨c,hc⟩:=a0g ns j (by lia);have hq:=dM (q * 69621 + c % O0 * 40014 + (j:Int) * j + 1) (show (2147483563:Int)≠0 by decide);have hp:=b3z;have vI:=dM c (show O0≠0 by lia);have zH:(10 ^ (64:Int).toNat:Int)=O0:=by decide
    by_cases cl:(j:Int) < ns.length
    ·refine⟨_,[.list (ns.map .int),.int n,.list ((xs ++ [c % O0]).map .int),.int ((q * 69621 + c % O0 * 40014 + (j:Int) * j + 1) % 2147483563),.int j,.int (c % O0)],rfl,?_,xs ++ [c % O0],_,_,_,by rw [aK,e1];rfl,?_,hq,rfl⟩
     ·walk_at "evm";rw [hc,v_pow (i:=10) (j:=64) (by decide),zH];generalize O0=T at hp;walk_at "evm";rw [aL cl];walk_at "evm";rw [Z4 (by rw [ar];lia),bb];rfl
     ·intro x hx;rcases ay.mp hx with z|z
      ·exact e2 x z
      ·rw [ax.mp z];exact vI
    ·refine⟨_,[.list (ns.map .int),.int n,.list ((xs ++ [(q * 69621 + c % O0 * 40014 + (j:Int) * j + 1) % 2147483563]).map .int),.int ((q * 69621 + c % O0 * 40014 + (j:Int) * j + 1) % 2147483563),.int j,.int (c % O0)],rfl,?_,xs ++ [(q * 69621 + c % O0 * 40014 + (j:Int) * j + 1) % 2147483563],_,_,_,by rw [aK,e1];rfl,?_,hq,rfl⟩
     ·walk_at "evm";rw [hc,v_pow (i:=10) (j:=64) (by decide),zH];generalize O0=T at hp;walk_at "evm";rw [aQ cl];walk_at "evm";rw [Z4 (by rw [ar];lia),bb];rfl
     ·intro x hx;rcases ay.mp hx with z|z
      ·exact e2 x z
      ·rw [ax.mp z];exact hq)
  exact⟨_,g1,xs,q,y,z,e1,e2,rfl⟩
 ·rintro Z ⟨xs,q,y,z,e1,e2,rfl⟩;walk_at "evm";exact⟨xs,rfl,e1,e2⟩
theorem c0H(xs:List Int)(n s a:Nat)(c:Int)(hx:3 + n<=xs.length)(hn:1<=n)(qC:n<=30)(hs:s < n)(ha:a < 5):∃t:Int,m_law_to [.list (xs.map .int),.int n,.int s,.int a,.int c]=some (.int t)/\0<=t/\t < n:=by
 unfold m_law_to;rw [B5 (by simp [VS.argsOk,imm])];unfold b_law_to;walk_at "evm";have yV:=dM (a:Int) (show (n:Int)≠0 by lia);have sG:=eY (a:Int) (show (0:Int) < n by lia);have md:∀z:Int,∃t:Int,(some (bt (z % n)):Option D)=some (.int t)/\0<=t/\t < n:=fun z=>⟨_,rfl,dM _ (by lia),eY _ (by lia)⟩
 by_cases c1:xs.getD 2 0 % 4=1
 ·rw [aL (show xs.getD (2:Int).toNat 0 % 4=1 from c1)];walk_at "evm";have hf:=b5a (fi:=iR (a4 1)) (js:=[0,2]) (t:=tB (e2 dEq (e2 n4 (e2 j7 (a4 1) (e2 n5 (eC (.int 3)) (a4 0))) (eC (.int 2))) (e2 n4 (e2 j7 (a4 1) (e2 n5 (eC (.int 3)) (a4 2))) (eC (.int 2))))) (g:=a4 0) (Z:=[.list (xs.map .int),.int n,.int s,.int a,.int c,.none]) (n:=n) (fun (t:Nat)=>decide (xs.getD (3 + (t:Int)).toNat 0 % 2=xs.getD (3 + (s:Int)).toNat 0 % 2)) (fun t=>.int t) (by rw [a2u (n:=n) (by walk_at "evm") (by lia) (by lia)];rfl) (by lia) (fun t ht=>⟨by walk_at "evm",fun _=>rfl⟩);rw [hf];walk_at "evm";generalize hr:(aJ n).filter (fun (t:Nat)=>decide (xs.getD (3 + (t:Int)).toNat 0 % 2=xs.getD (3 + (s:Int)).toNat 0 % 2))=room;have hl:0 < room.length:=by
   have:s∈room:=by rw [<-hr,dc];exact⟨bo.mpr hs,by simp⟩
   exact se this
  rw [v_mod (by lia)];walk_at "evm";have g0:=dM c (show (room.length:Int)≠0 by lia);have g1:=eY c (show (0:Int) < room.length by lia);rw [a4R g0 (by rw [ar];exact g1),jH];have jk:room[(c % (room.length:Int)).toNat]'(by lia)∈(aJ n).filter (fun (t:Nat)=>decide (xs.getD (3 + (t:Int)).toNat 0 % 2=xs.getD (3 + (s:Int)).toNat 0 % 2)):=by rw [hr];exact cQ _
  have:=bo.mp (dc.mp jk).1;exact⟨_,rfl,by lia,by lia⟩
 ·rw [aQ (show ¬ xs.getD (2:Int).toNat 0 % 4=1 from c1)];walk_at "evm";by_cases c2:xs.getD 2 0 % 4=2
  ·rw [aL (show xs.getD (2:Int).toNat 0 % 4=2 from c2)];walk_at "evm";have yc:decide (xs.getD (2:Int).toNat 0 % 4=3)=false:=aQ fun z=>by
    have z':xs.getD 2 0 % 4=3:=z;lia
   cases hb:decide ((s:Int)=xs.getD (2:Int).toNat 0 / 4 % n) with
   | false=>
    walk_at "evm";exact md _
   | true=>
    walk_at "evm";cases oS:decide (xs.getD (2:Int).toNat 0 / 200 % 6=(a:Int)) with
    | false=>
     walk_at "evm";exact md _
    | true=>
     repeat (first|walk_at "evm" | rw [yc])
     exact md _
  ·rw [aQ (show ¬ xs.getD (2:Int).toNat 0 % 4=2 from c2)];walk_at "evm";cases h3:decide (xs.getD (2:Int).toNat 0 % 4=3) with
   | false=>
    repeat (first|walk_at "evm" | rw [h3])
    exact md _
   | true=>
    walk_at "evm";cases hb:decide ((a:Int)=0) with
    | true=>
     walk_at "evm";exact md _
    | false=>
     walk_at "evm";rw [h3];walk_at "evm";cases oS:decide ((s:Int)=xs.getD (3 + (a:Int) % n).toNat 0 % n) with
     | true=>
      walk_at "evm";exact md _
     | false=>
      repeat (first|walk_at "evm" | rw [h3])
      exact⟨_,rfl,by lia,by lia⟩
theorem a9r{xs:List Int}(h:∀x∈xs,0<=x)(i:Nat):0<=xs.getD i 0:=by
 rw [aX];cases e:xs[i]? with
 | none=>exact Int.le_refl _
 | some y=>exact h y (bD e)
theorem a8j(ns:List Int)(sm la:Nat)(s1:1<=sm)(s2:sm<=14)(l1:1<=la)(l2:la<=14):∃(m:m4) (k:Nat),m_law_machine [.list (ns.map .int),.int sm,.int la]=some (.list (m.map rwD))/\WF m k/\m.length<=30:=by
 unfold m_law_machine;rw [B5 (by simp [VS.argsOk,imm])];unfold b_law_machine;walk_at "evm";obtain⟨fi,xx,DI,yw⟩:=a3q ns 3 (by lia);have xw:m_law_cells [.list (ns.map .int),.int 3]=some (.list (fi.map .int)):=xx;rw [xw];walk_at "evm";have f0:0<=fi.getD (0:Int).toNat 0:=a9r yw _;have f1:0<=fi.getD (1:Int).toNat 0:=a9r yw _;have q0:=dM (fi.getD (0:Int).toNat 0) (show (sm:Int)≠0 by lia);have q1:=eY (fi.getD (0:Int).toNat 0) (show (0:Int) < sm by lia);refine L7 (R:=fun o=>∃(m:m4) (k:Nat),o=some (.list (m.map rwD))/\WF m k/\m.length<=30) (fun Z=>∃n:Nat,1<=n/\n<=14/\Z=[.list (ns.map .int),.int sm,.int la,.list (fi.map .int),.int n,.none,.none,.none,.none,.none,.none,.none,.none]) ?_ ?_
 ·cases decide (fi.getD (0:Int).toNat 0 / (sm:Int) % 8=3) with
  | true=>
   have r0:=dM (fi.getD (0:Int).toNat 0 / (8 * (sm:Int))) (show (la:Int)≠0 by lia);have r1:=eY (fi.getD (0:Int).toNat 0 / (8 * (sm:Int))) (show (0:Int) < la by lia);refine⟨_,(by walk_at "evm";exact rfl),(1 + fi.getD (0:Int).toNat 0 / (8 * (sm:Int)) % la).toNat,by lia,by lia,?_⟩;rw [cX (by lia)]
  | false=>
   refine⟨_,(by walk_at "evm";exact rfl),(1 + fi.getD (0:Int).toNat 0 % (sm:Int)).toNat,by lia,by lia,?_⟩;rw [cX (by lia)]
 rintro Z ⟨n,n1,wx,rfl⟩;walk_at "evm";refine L7 (R:=fun o=>∃(m:m4) (k:Nat),o=some (.list (m.map rwD))/\WF m k/\m.length<=30) (fun Z=>∃n k:Nat,1<=n/\n<=30/\1<=k/\k<=5/\Z=[.list (ns.map .int),.int sm,.int la,.list (fi.map .int),.int n,.int k,.none,.none,.none,.none,.none,.none,.none]) ?_ ?_
 ·cases decide (fi.getD (0:Int).toNat 0 / (sm:Int) % 16=5) with
  | true=>
   refine⟨[.list (ns.map .int),.int sm,.int la,.list (fi.map .int),.int (15 + fi.getD (0:Int).toNat 0 / (16 * (sm:Int)) % 16),.int (1 + fi.getD (1:Int).toNat 0 % 2),.none,.none,.none,.none,.none,.none,.none],by walk_at "evm",(15 + fi.getD (0:Int).toNat 0 / (16 * (sm:Int)) % 16).toNat,(1 + fi.getD (1:Int).toNat 0 % 2).toNat,by lia,by lia,by lia,by lia,?_⟩;rw [cX (by lia),cX (by lia)]
  | false=>
   refine⟨[.list (ns.map .int),.int sm,.int la,.list (fi.map .int),.int n,.int (1 + fi.getD (1:Int).toNat 0 % 5),.none,.none,.none,.none,.none,.none,.none],by walk_at "evm",n,(1 + fi.getD (1:Int).toNat 0 % 5).toNat,by lia,by lia,by lia,by lia,?_⟩;rw [cX (by lia)]
 clear n1 wx;rintro Z ⟨n,k,n1,wx,k1,k5,rfl⟩;walk_at "evm";have DQ:n * k<=30 * 5:=Nat.mul_le_mul wx k5;obtain⟨mz,tP,tJ,Av⟩:=a3q ns (3 + n + n * k) (by lia);have ec:(3 + (n:Int) + (n:Int) * (k:Int))=((3 + n + n * k:Nat):Int):=by rw [Et,Et,Int.natCast_mul];rfl
 rw [ec,tP];walk_at "evm";refine L7 (R:=fun o=>∃(m:m4) (k:Nat),o=some (.list (m.map rwD))/\WF m k/\m.length<=30) (fun Z=>∃xs:List Int,xs.length=3 + n + n * k/\Z=[.list (ns.map .int),.int sm,.int la,.list (fi.map .int),.int n,.int k,.list (xs.map .int),.none,.none,.none,.none,.none,.none]) ?_ ?_
 ·cases decide (14 < (n:Int)) with
  | false=>exact⟨_,(by walk_at "evm"),mz,tJ,rfl⟩
  | true=>
   refine⟨[.list (ns.map .int),.int sm,.int la,.list (fi.map .int),.int n,.int k,.list ((mz.set 2 (mz.getD (2:Int).toNat 0 / 4 * 4 + mz.getD (2:Int).toNat 0 % 2)).map .int),.none,.none,.none,.none,.none,.none],?_,mz.set 2 (mz.getD (2:Int).toNat 0 / 4 * 4 + mz.getD (2:Int).toNat 0 % 2),by rw [Eo];exact tJ,rfl⟩;walk_at "evm";rw [c1K (t:=.i) (ds:=mz.map .int) (d:=.int (mz.getD (2:Int).toNat 0 / 4 * 4 + mz.getD (2:Int).toNat 0 % 2)) (j:=2) rfl (by walk_at "evm") rfl (by decide) (by rw [ar];lia)];rw [List.map_set];rfl
 rintro Z ⟨xs,wA,rfl⟩;walk_at "evm";rw [a2u (n:=n) (by walk_at "evm") (by lia) (by lia),bw];walk_at "evm";have Dh:=b8b;have row:∀s:Nat,s < n->∀(rows:D) (y z u:D),∃(r:List (Int × Int)) (x' y' z':D),r.length=k/\(∀p∈r,0<=p.2/\p.2 < (n:Int))/\
   (B4 (iR (a4 5)) (t5 10) (c7 (i6 11 (e2 A5 (a4 6) (e2 n5 (e2 n5 (e2 n5 (eC (.int 3)) (a4 4)) (e2 A3 (a4 8) (a4 5))) (a4 10)))) (c7 (i6 12 (e2 n4 (e2 C2 (a4 11) (a4 4)) (eC (.int 2)))) (c7 (sIf (tB (e2 dEq (e2 n4 (e2 C2 (e2 A5 (a4 6) (eC (.int 1))) (eC (.int 5))) (eC (.int 3))) (eC (.int 1)))) (i6 12 (e2 x9 (e2 n4 (e2 C2 (a4 11) (a4 4)) (e2 x9 (e2 A3 (eC (.int 2)) (e2 X2 (eC (.int 10)) (eC (.int 60)))) (eC (.int 1)))) (e2 x9 (e2 X2 (eC (.int 10)) (eC (.int 60))) (eC (.int 1))))) k6) (J8 9 (.l .i) u8 (C7 (a5 (a4 12) (a5 (eCl m_law_to (a5 (a4 6) (a5 (a4 4) (a5 (a4 8) (a5 (a4 10) (a5 (a4 11) b8)))))) b8))))))))
    [.list (ns.map .int),.int sm,.int la,.list (fi.map .int),.int n,.int k,.list (xs.map .int),rows,.int s,.list [],y,z,u]=some (.nx [.list (ns.map .int),.int sm,.int la,.list (fi.map .int),.int n,.int k,.list (xs.map .int),rows,.int s,rwD r,x',y',z']):=by
  intro s hs rows y z u;walk_at "evm";rw [a2u (n:=k) (by walk_at "evm") (by lia) (by lia),bw];walk_at "evm";obtain⟨Z',h1,r,x',y',z',h2,h3,rfl⟩:=v8 (n:=k) (set:=t5 10) (g:=(c7 (i6 11 (e2 A5 (a4 6) (e2 n5 (e2 n5 (e2 n5 (eC (.int 3)) (a4 4)) (e2 A3 (a4 8) (a4 5))) (a4 10)))) (c7 (i6 12 (e2 n4 (e2 C2 (a4 11) (a4 4)) (eC (.int 2)))) (c7 (sIf (tB (e2 dEq (e2 n4 (e2 C2 (e2 A5 (a4 6) (eC (.int 1))) (eC (.int 5))) (eC (.int 3))) (eC (.int 1)))) (i6 12 (e2 x9 (e2 n4 (e2 C2 (a4 11) (a4 4)) (e2 x9 (e2 A3 (eC (.int 2)) (e2 X2 (eC (.int 10)) (eC (.int 60)))) (eC (.int 1)))) (e2 x9 (e2 X2 (eC (.int 10)) (eC (.int 60))) (eC (.int 1))))) k6) (J8 9 (.l .i) u8 (C7 (a5 (a4 12) (a5 (eCl m_law_to (a5 (a4 6) (a5 (a4 4) (a5 (a4 8) (a5 (a4 10) (a5 (a4 11) b8)))))) b8))))))))
   (Z:=[.list (ns.map .int),.int sm,.int la,.list (fi.map .int),.int n,.int k,.list (xs.map .int),rows,.int s,.list [],y,z,u])
   (fun j Z=>∃(r:List (Int × Int)) (x' y' z':D),r.length=j/\(∀p∈r,0<=p.2/\p.2 < (n:Int))/\Z=[.list (ns.map .int),.int sm,.int la,.list (fi.map .int),.int n,.int k,.list (xs.map .int),rows,.int s,rwD r,x',y',z'])
   ⟨[],y,z,u,rfl,fun p hp=>(nomatch hp),rfl⟩ (by
    rintro j hj Z ⟨r,x',y',z',hr,hp,rfl⟩;have DM:(s:Int) * (k:Int) + j < (n:Int) * k:=by
     have h1:(s + 1) * k<=n * k:=Nat.mul_le_mul_right k hs;have h2:s * k + j < n * k:=by rw [Nat.add_mul,Nat.one_mul] at h1;lia
     exact_mod_cast h2
    have Bb:0<=(s:Int) * (k:Int):=Int.mul_nonneg (by lia) (by lia);have yW:(xs.length:Int)=3 + n + (n:Int) * k:=by rw [wA];exact ec.symm
    obtain⟨t,ht,t0,t1⟩:=c0H xs n s j (xs.getD (3 + (n:Int) + (s:Int) * k + j).toNat 0) (by lia) n1 (by lia) hs (by lia);have CZ:(10 ^ (60:Int).toNat:Int)=big:=by decide
    have hb:∃v:Int,(c7 (i6 11 (e2 A5 (a4 6) (e2 n5 (e2 n5 (e2 n5 (eC (.int 3)) (a4 4)) (e2 A3 (a4 8) (a4 5))) (a4 10)))) (c7 (i6 12 (e2 n4 (e2 C2 (a4 11) (a4 4)) (eC (.int 2)))) (c7 (sIf (tB (e2 dEq (e2 n4 (e2 C2 (e2 A5 (a4 6) (eC (.int 1))) (eC (.int 5))) (eC (.int 3))) (eC (.int 1)))) (i6 12 (e2 x9 (e2 n4 (e2 C2 (a4 11) (a4 4)) (e2 x9 (e2 A3 (eC (.int 2)) (e2 X2 (eC (.int 10)) (eC (.int 60)))) (eC (.int 1)))) (e2 x9 (e2 X2 (eC (.int 10)) (eC (.int 60))) (eC (.int 1))))) k6) (J8 9 (.l .i) u8 (C7 (a5 (a4 12) (a5 (eCl m_law_to (a5 (a4 6) (a5 (a4 4) (a5 (a4 8) (a5 (a4 10) (a5 (a4 11) b8)))))) b8))))))) [.list (ns.map .int),.int sm,.int la,.list (fi.map .int),.int n,.int k,.list (xs.map .int),rows,.int s,rwD r,.int j,y',z']=some (.nx [.list (ns.map .int),.int sm,.int la,.list (fi.map .int),.int n,.int k,.list (xs.map .int),rows,.int s,rwD (r ++ [(v,t)]),.int j,.int (xs.getD (3 + (n:Int) + (s:Int) * k + j).toNat 0),.int v]):=by
     walk_at "evm";generalize decide (xs.getD (1:Int).toNat 0 / 5 % 3=1)=b;cases b with
     | true=>
      refine⟨xs.getD (3 + (n:Int) + (s:Int) * k + j).toNat 0 / n % (2 * big - 1) - (big - 1),?_⟩;walk_at "evm";rw [v_pow (i:=10) (j:=60) (by decide),CZ];generalize big=T at Dh;walk_at "evm";rw [ht];walk_at "evm";show b1J 9 (.list (r.map stD)) _ _=_;rw [Z4 (by rw [ar];lia)];unfold rwD;rw [bb];rfl
     | false=>
      refine⟨xs.getD (3 + (n:Int) + (s:Int) * k + j).toNat 0 / n % 2,?_⟩;walk_at "evm";rw [ht];walk_at "evm";show b1J 9 (.list (r.map stD)) _ _=_;rw [Z4 (by rw [ar];lia)];unfold rwD;rw [bb];rfl
    obtain⟨v,hv⟩:=hb;refine⟨_,_,rfl,hv,r ++ [(v,t)],_,_,_,by rw [aK,hr];rfl,?_,rfl⟩;intro p Bj;rcases ay.mp Bj with z|z
    ·exact hp p z
    ·rw [ax.mp z];exact⟨t0,t1⟩)
  exact⟨r,x',y',z',h2,h3,h1⟩
 refine L7 (R:=fun o=>∃(m:m4) (k:Nat),o=some (.list (m.map rwD))/\WF m k/\m.length<=30) (fun Z=>∃(m:m4) (a b c d e:D),m.length=n/\(∀r∈m,r.length=k/\∀p∈r,0<=p.2/\p.2 < (n:Int))/\Z=[.list (ns.map .int),.int sm,.int la,.list (fi.map .int),.int n,.int k,.list (xs.map .int),.list (m.map rwD),a,b,c,d,e]) ?_ ?_
 ·obtain⟨Z',h1,m,a,b,c,d,e,h2,h3,rfl⟩:=v8 (n:=n) (set:=t5 8) (g:=(c7 (i6 9 (t8 b8)) (c7 (B4 (iR (a4 5)) (t5 10) (c7 (i6 11 (e2 A5 (a4 6) (e2 n5 (e2 n5 (e2 n5 (eC (.int 3)) (a4 4)) (e2 A3 (a4 8) (a4 5))) (a4 10)))) (c7 (i6 12 (e2 n4 (e2 C2 (a4 11) (a4 4)) (eC (.int 2)))) (c7 (sIf (tB (e2 dEq (e2 n4 (e2 C2 (e2 A5 (a4 6) (eC (.int 1))) (eC (.int 5))) (eC (.int 3))) (eC (.int 1)))) (i6 12 (e2 x9 (e2 n4 (e2 C2 (a4 11) (a4 4)) (e2 x9 (e2 A3 (eC (.int 2)) (e2 X2 (eC (.int 10)) (eC (.int 60)))) (eC (.int 1)))) (e2 x9 (e2 X2 (eC (.int 10)) (eC (.int 60))) (eC (.int 1))))) k6) (J8 9 (.l .i) u8 (C7 (a5 (a4 12) (a5 (eCl m_law_to (a5 (a4 6) (a5 (a4 4) (a5 (a4 8) (a5 (a4 10) (a5 (a4 11) b8)))))) b8)))))))) (J8 7 (.l (.l .i)) u8 (a4 9)))))
   (Z:=[.list (ns.map .int),.int sm,.int la,.list (fi.map .int),.int n,.int k,.list (xs.map .int),.list [],.none,.none,.none,.none,.none])
   (fun j Z=>∃(m:m4) (a b c d e:D),m.length=j/\(∀r∈m,r.length=k/\∀p∈r,0<=p.2/\p.2 < (n:Int))/\Z=[.list (ns.map .int),.int sm,.int la,.list (fi.map .int),.int n,.int k,.list (xs.map .int),.list (m.map rwD),a,b,c,d,e])
   ⟨[],_,_,_,_,_,rfl,fun p hp=>(nomatch hp),rfl⟩ (by
    rintro j hj Z ⟨m,a,b,c,d,e,h2,h3,rfl⟩;obtain⟨r,x',y',z',r1,r2,r3⟩:=row j hj (.list (m.map rwD)) c d e;refine⟨_,[.list (ns.map .int),.int sm,.int la,.list (fi.map .int),.int n,.int k,.list (xs.map .int),.list ((m ++ [r]).map rwD),.int j,rwD r,x',y',z'],rfl,?_,m ++ [r],_,_,_,_,_,by rw [aK,h2];rfl,?_,rfl⟩
    ·walk_at "ev1";show thn ((B4 (iR (a4 5)) (t5 10) (c7 (i6 11 (e2 A5 (a4 6) (e2 n5 (e2 n5 (e2 n5 (eC (.int 3)) (a4 4)) (e2 A3 (a4 8) (a4 5))) (a4 10)))) (c7 (i6 12 (e2 n4 (e2 C2 (a4 11) (a4 4)) (eC (.int 2)))) (c7 (sIf (tB (e2 dEq (e2 n4 (e2 C2 (e2 A5 (a4 6) (eC (.int 1))) (eC (.int 5))) (eC (.int 3))) (eC (.int 1)))) (i6 12 (e2 x9 (e2 n4 (e2 C2 (a4 11) (a4 4)) (e2 x9 (e2 A3 (eC (.int 2)) (e2 X2 (eC (.int 10)) (eC (.int 60)))) (eC (.int 1)))) (e2 x9 (e2 X2 (eC (.int 10)) (eC (.int 60))) (eC (.int 1))))) k6) (J8 9 (.l .i) u8 (C7 (a5 (a4 12) (a5 (eCl m_law_to (a5 (a4 6) (a5 (a4 4) (a5 (a4 8) (a5 (a4 10) (a5 (a4 11) b8)))))) b8)))))))) [.list (ns.map .int),.int sm,.int la,.list (fi.map .int),.int n,.int k,.list (xs.map .int),.list (m.map rwD),.int j,.list [],c,d,e]) _=_;rw [r3];walk_at "evm";rw [Z4 (by rw [ar];lia)];walk_at "evm";rw [bb];rfl
    ·intro r' rq;rcases ay.mp rq with z|z
     ·exact h3 r' z
     ·rw [ax.mp z];exact⟨r1,r2⟩)
  exact⟨_,h1,m,a,b,c,d,e,h2,h3,rfl⟩
 ·rintro Z ⟨m,a,b,c,d,e,h2,h3,rfl⟩;walk_at "evm";exact⟨m,k,rfl,⟨by lia,by lia,k1,k5,fun r hr=>(h3 r hr).1,fun r hr p hp=>by rw [h2];exact (h3 r hr).2 p hp⟩,by lia⟩
end Prog
namespace VS
open PySem L2
theorem b0T:∀n,n < 31->1<=n->L6 (prV (WZ n))=true:=by decide +kernel
theorem b3A{Z:List D}(h:a Z=some (.dict (prV (WZ n))))(h1:n < 31)(h2:1<=n):a1W a Z=some (.dict (prV (WZ n))):=by
 unfold a1W;rw [h];show (if L6 (prV (WZ n)) then some (a_.dict (prV (WZ n))) else none)=_;rw [aE (b0T n h1 h2)]
end VS
namespace Prog
open PySem L2 VS
theorem a8k(s t:Int):x4 [.int s,.int t]=some (prD (pr s t)):=by
 unfold x4;rw [B5 (by simp [VS.argsOk,imm])];unfold a4p pr;walk_at "ev";by_cases c:s < t
 ·rw [aL c,aE c];walk_at "ev";rfl
 ·rw [aQ c,aO c];walk_at "ev";rfl
theorem a1G(n:Nat)(hn:n<=30):F6 [.int n]=some (.list ((prs n).map prD)):=by
 unfold F6;rw [B5 (by simp [VS.argsOk,imm])];unfold a2O;walk_at "ev";rw [a2u (n:=n) (by walk_at "ev") (by lia) (by lia),bw];walk_at "ev";refine z0 (fun Z=>∃x,Z=[.int n,.list ((prs n).map prD),x]) ?_ ?_
 ·obtain⟨Z',g1,L,x,e,hL,rfl⟩:=v8 (n:=n) (set:=t5 2) (g:=(a3A 1 (t9 (iR2 (e2 n5 (a4 2) (eC (.int 1))) (a4 0)) [2] pt1 tT (C7 (a5 (a4 1) (a5 (a4 0) b8)))))) (Z:=[.int n,.list [],.none])
   (fun j Z=>∃(L:List (Int × Int)) (x:D),L=((aJ j).flatMap fun (s:Nat)=>(aJ (n - 1 - s)).map fun (j:Nat)=>((s:Int),((s:Int) + 1 + (j:Int))))/\L.length<=j * 30/\Z=[.int n,.list (L.map prD),x]) ⟨[],_,rfl,aF _,rfl⟩ (by
    rintro j hj Z ⟨L,x,rfl,hL,rfl⟩;have hc:t9 (iR2 (e2 n5 (a4 2) (eC (.int 1))) (a4 0)) [2] pt1 tT (C7 (a5 (a4 1) (a5 (a4 0) b8))) [.int n,.list ((((aJ j).flatMap fun (s:Nat)=>(aJ (n - 1 - s)).map fun (j:Nat)=>((s:Int),((s:Int) + 1 + (j:Int)))):List (Int × Int)).map prD),.int j]=some (.list (((aJ (n - 1 - j)).map fun (i:Nat)=>((j:Int),((j:Int) + 1 + (i:Int)))).map prD)):=by
     rw [a1Z (enc:=fun (i:Nat)=>bt ((j:Int) + 1 + (i:Int))) (xs:=aJ (n - 1 - j)) (fun i=>prD ((j:Int),((j:Int) + 1 + (i:Int)))) ?_ (by rw [bJ];lia)]
     ·rw [cP];rfl
     ·intro i _;exact⟨_,rfl,by walk_at "ev";rfl⟩
     ·rw [b8v (i:=(j:Int) + 1) (n:=n) (by walk_at "ev") (by walk_at "ev") (by lia) (by lia) (by lia) (by lia),show ((n:Int) - ((j:Int) + 1)).toNat=n - 1 - j by lia]
    refine⟨_,[.int n,.list ((((aJ (j + 1)).flatMap fun (s:Nat)=>(aJ (n - 1 - s)).map fun (j:Nat)=>((s:Int),((s:Int) + 1 + (j:Int)))):List (Int × Int)).map prD),.int j],rfl,?_,_,_,rfl,?_,rfl⟩
    ·show a3A 1 _ [.int n,.list ((((aJ j).flatMap fun (s:Nat)=>(aJ (n - 1 - s)).map fun (j:Nat)=>((s:Int),((s:Int) + 1 + (j:Int)))):List (Int × Int)).map prD),.int j]=_;rw [b5S (i:=1) (ds:=(((aJ j).flatMap fun (s:Nat)=>(aJ (n - 1 - s)).map fun (j:Nat)=>((s:Int),((s:Int) + 1 + (j:Int)))):List (Int × Int)).map prD) hc rfl (l5 _ a0f _) (by rw [ar,ar,ar,bJ];lia)];rw [nE,kW,bb,sf];rfl
    ·rw [nE,kW,aK,sf,ar,bJ];lia)
  exact⟨_,g1,x,by rw [e];rfl⟩
 ·rintro Z ⟨x,rfl⟩;walk_at "ev"
section
variable {m:m4}{k:Nat}(w:WF m k){d:Nat}{W:PW}(hW:Fnd m k d W)
include w hW
theorem a1i(hp:PrOk m p)(hd:d<=1000):p8 [.list (m.map rwD),prD p,.dict (prV W)]=some (B2 (fA k fun a=>fj m k d (nx2 m p a))):=by
 have yZ:=w.k5;have h0:=hp.h0;have h1:=hp.h1;have h2:=hp.h2;have l1:=w.row (s:=p.1) h0 (by lia);have l2:=w.row (s:=p.2) (by lia) h2;unfold p8;rw [B5 (by simp [VS.argsOk,a0f])];unfold R8;walk_at "ev";rw [show dIx (prD p) (.int 1)=some (.int p.2) from rfl];walk_at "ev";rw [a6u (by lia) h2];have hi:iI (iEn (e2 dIx (a4 0) (e2 j7 (a4 1) (eC (.int 0))))) [.list (m.map rwD),prD p,.dict (prV W),rwD (rowAt m p.2),.none,.none,.none]=some ((aJ k).map fun (a:Nat)=>cw [.int a,stD (stp m p.1 a)]):=by
  rw [a0r (ds:=(aJ k).map fun (a:Nat)=>cw [.int a,stD (stp m p.1 a)]) ?_ (l5 _ (fun a=>by simp only [imm,e6,gq,Bool.true_and];exact a4Y) _)];rw [c0z (ds:=(rowAt m p.1).map stD) ?_,a3f,l1]
  ·congr 1;refine cF fun a _=>?_
   rw [rW];rfl
  ·walk_at "ev";rw [show dIx (prD p) (.int 0)=some (.int p.1) from rfl];walk_at "ev";rw [a6u h0 (by lia)];rfl
 walk_at "ev";rw [hi];walk_at "ev";rcases a4w (enc:=fun (a:Nat)=>cw [.int a,stD (stp m p.1 a)]) (set:=a4N 4 5) (xs:=aJ k) (g:=(c7 (i6 6 (eCl x4 (a5 (e2 j7 (a4 5) (eC (.int 1))) (a5 (e2 j7 (e2 j7 (a4 3) (a4 4)) (eC (.int 1))) b8)))) (sIf (tB (e2 (a0W false true) (a4 6) (a4 2))) (i9 (eI (q9 (t8 (a5 (a4 4) b8)) (e2 (a1N true) (a4 2) (a4 6))))) k6))) (Z:=[.list (m.map rwD),prD p,.dict (prV W),rwD (rowAt m p.2),.none,.none,.none])
   (fun pre Z=>(∀b∈pre,fj m k d (nx2 m p b)=none)/\∃x y z,Z=[.list (m.map rwD),prD p,.dict (prV W),rwD (rowAt m p.2),x,y,z]) (fun r=>r=B2 (fA k fun a=>fj m k d (nx2 m p a))) ⟨fun b hb=>(nomatch hb),_,_,_,rfl⟩ (by
    rintro pre a post e Z ⟨hb,x,y,z,rfl⟩;obtain⟨r1,r2,r3⟩:=N5 e;have hg:=hW _ (a8f w hp r2);refine⟨_,rfl,?_⟩;have hc:i6 6 (eCl x4 (a5 (e2 j7 (a4 5) (eC (.int 1))) (a5 (e2 j7 (e2 j7 (a4 3) (a4 4)) (eC (.int 1))) b8))) [.list (m.map rwD),prD p,.dict (prV W),rwD (rowAt m p.2),.int a,stD (stp m p.1 a),z]=some (.nx [.list (m.map rwD),prD p,.dict (prV W),rwD (rowAt m p.2),.int a,stD (stp m p.1 a),prD (nx2 m p a)]):=by
     walk_at "ev";rw [b8c (by lia) (by lia)];walk_at "ev";rw [a8k];walk_at "ev";rfl
    have hs:(c7 (i6 6 (eCl x4 (a5 (e2 j7 (a4 5) (eC (.int 1))) (a5 (e2 j7 (e2 j7 (a4 3) (a4 4)) (eC (.int 1))) b8)))) (sIf (tB (e2 (a0W false true) (a4 6) (a4 2))) (i9 (eI (q9 (t8 (a5 (a4 4) b8)) (e2 (a1N true) (a4 2) (a4 6))))) k6)) [.list (m.map rwD),prD p,.dict (prV W),rwD (rowAt m p.2),.int a,stD (stp m p.1 a),z]=thn (i6 6 (eCl x4 (a5 (e2 j7 (a4 5) (eC (.int 1))) (a5 (e2 j7 (e2 j7 (a4 3) (a4 4)) (eC (.int 1))) b8))) [.list (m.map rwD),prD p,.dict (prV W),rwD (rowAt m p.2),.int a,stD (stp m p.1 a),z]) (sIf (tB (e2 (a0W false true) (a4 6) (a4 2))) (i9 (eI (q9 (t8 (a5 (a4 4) b8)) (e2 (a1N true) (a4 2) (a4 6))))) k6):=by rw [X6]
    cases x:fj m k d (nx2 m p a) with
    | none=>
     have hn:nx2 m p a∉W.map (·.1):=fun q=>by have:=(E4 W).mp q;rw [hg,x] at this;cases this
     refine .inl ⟨[.list (m.map rwD),prD p,.dict (prV W),rwD (rowAt m p.2),.int a,stD (stp m p.1 a),prD (nx2 m p a)],?_,?_,_,_,_,rfl⟩
     ·show (c7 (i6 6 (eCl x4 (a5 (e2 j7 (a4 5) (eC (.int 1))) (a5 (e2 j7 (e2 j7 (a4 3) (a4 4)) (eC (.int 1))) b8)))) (sIf (tB (e2 (a0W false true) (a4 6) (a4 2))) (i9 (eI (q9 (t8 (a5 (a4 4) b8)) (e2 (a1N true) (a4 2) (a4 6))))) k6)) [.list (m.map rwD),prD p,.dict (prV W),rwD (rowAt m p.2),.int a,stD (stp m p.1 a),z]=_;rw [hs,hc];walk_at "ev";rw [a8c,aQ hn];walk_at "ev"
     ·intro b kq;rcases ay.mp kq with q|q
      ·exact hb b q
      ·rw [ax.mp q];exact x
    | some q=>
     have hn:nx2 m p a∈W.map (·.1):=(E4 W).mpr (by rw [hg,x];rfl);have hlen:=(a1g x).1;have uw:(fA k fun a=>fj m k d (nx2 m p a))=some ((a:Int) :: q):=by
      obtain⟨r,hr⟩:=b5T (f:=fun a=>fj m k d (nx2 m p a)) r2 x;obtain⟨b,q',qK,oS,vK,Cp⟩:=W9 hr;have:b=a:=by
       rcases zP a b with z|z|z
       ·have:=Cp a z;rw [x] at this;cases this
       ·exact z.symm
       ·have:=hb b (by rw [r3];exact bo.mpr z);rw [oS] at this;cases this
      subst this;rw [x] at oS;cases oS
      rw [hr,vK]
     refine .inr ⟨.list (((a:Int) :: q).map .int),?_,by rw [uw];rfl⟩;show (c7 (i6 6 (eCl x4 (a5 (e2 j7 (a4 5) (eC (.int 1))) (a5 (e2 j7 (e2 j7 (a4 3) (a4 4)) (eC (.int 1))) b8)))) (sIf (tB (e2 (a0W false true) (a4 6) (a4 2))) (i9 (eI (q9 (t8 (a5 (a4 4) b8)) (e2 (a1N true) (a4 2) (a4 6))))) k6)) [.list (m.map rwD),prD p,.dict (prV W),rwD (rowAt m p.2),.int a,stD (stp m p.1 a),z]=_;rw [hs,hc];walk_at "ev";rw [a8c,aL hn];walk_at "ev";rw [a6t];walk_at "ev";rw [b8s (by rw [hg];exact x),a7X (by simp;lia)];show retS (lIs (some (.list (((a:Int) :: q).map .int))))=_;rw [v4];rfl) with⟨Z',g1,hb,x,y,z,rfl⟩|⟨r,g1,rfl⟩
 ·rw [g1];walk_at "ev";have:(fA k fun a=>fj m k d (nx2 m p a))=none:=by
   cases x:(fA k fun a=>fj m k d (nx2 m p a)) with
   | none=>rfl
   | some r=>
    obtain⟨b,q',qK,oS,_⟩:=W9 x;have:=hb b (bo.mpr qK);rw [oS] at this;cases this
  rw [this];rfl
 ·rw [g1];walk_at "ev"
end
theorem a0E(hg:∀p∈L,gm [prD p,.dict (prV W)]=some (B2 (g p)))(hn:L.Nodup)(hl:L.length<=1000):o6 gm [.dict (prV W),.list (L.map prD)]=some (.dict (prV (nw g L))):=by
 unfold o6;rw [b3g (by simp [VS.argsOk])];show a4Q (F5 gm [.dict (prV W),.list (L.map prD),.none,.none,.none,.none])=_;unfold F5;walk_at "ev";rw [a0r (ds:=L.map prD) (by walk_at "ev") (l5 _ a0f _)];walk_at "ev";refine z0 (fun Z=>∃x y,Z=[.dict (prV W),.list (L.map prD),.none,.dict (prV (nw g L)),x,y]) ?_ ?_
 ·obtain⟨Z',g1,x,y,rfl⟩:=I9 (enc:=prD) (set:=t5 4) (xs:=L) (g:=(c7 (i6 5 (eCl gm (a5 (a4 4) (a5 (a4 0) b8)))) (sIf (tB (e2 (O9 true) (a4 5) (eC .none))) (J3 3 true (a4 4) (a4 5)) k6))) (Z:=[.dict (prV W),.list (L.map prD),.none,.dict [],.none,.none])
   (fun pre Z=>∃x y,Z=[.dict (prV W),.list (L.map prD),.none,.dict (prV (nw g pre)),x,y]) ⟨_,_,rfl⟩ (by
    rintro pre p post e Z ⟨x,y,rfl⟩;have hp:=hg p (by rw [e];simp);have kn:p∉pre:=by
     rw [e] at hn;have:=bu.mp hn;exact fun z=>this.2.2 p z p ah rfl
    have hlen:(nw g pre).length<=1000:=by
     have h1:=a8g (g:=g) pre;have h2:pre.length<=L.length:=by rw [e];simp
     lia
    have hc:i6 5 (eCl gm (a5 (a4 4) (a5 (a4 0) b8))) [.dict (prV W),.list (L.map prD),.none,.dict (prV (nw g pre)),prD p,y]=some (.nx [.dict (prV W),.list (L.map prD),.none,.dict (prV (nw g pre)),prD p,B2 (g p)]):=by
     walk_at "ev";rw [hp];walk_at "ev"
    have hs:(c7 (i6 5 (eCl gm (a5 (a4 4) (a5 (a4 0) b8)))) (sIf (tB (e2 (O9 true) (a4 5) (eC .none))) (J3 3 true (a4 4) (a4 5)) k6)) [.dict (prV W),.list (L.map prD),.none,.dict (prV (nw g pre)),prD p,y]=thn (i6 5 (eCl gm (a5 (a4 4) (a5 (a4 0) b8))) [.dict (prV W),.list (L.map prD),.none,.dict (prV (nw g pre)),prD p,y]) (sIf (tB (e2 (O9 true) (a4 5) (eC .none))) (J3 3 true (a4 4) (a4 5)) k6):=by rw [X6]
    refine⟨_,[.dict (prV W),.list (L.map prD),.none,.dict (prV (nw g (pre ++ [p]))),prD p,B2 (g p)],rfl,?_,_,_,rfl⟩;show (c7 (i6 5 (eCl gm (a5 (a4 4) (a5 (a4 0) b8)))) (sIf (tB (e2 (O9 true) (a4 5) (eC .none))) (J3 3 true (a4 4) (a4 5)) k6)) [.dict (prV W),.list (L.map prD),.none,.dict (prV (nw g pre)),prD p,y]=_;rw [hs,hc,b3p,b3q];cases x:g p with
    | none=>
     rw [aZ];show thn (some (.nx [.dict (prV W),.list (L.map prD),.none,.dict (prV (nw g pre)),prD p,.none])) _=_;walk_at "ev";rfl
    | some q=>
     show thn (some (.nx [.dict (prV W),.list (L.map prD),.none,.dict (prV (nw g pre)),prD p,.list (q.map .int)])) _=some (.nx [.dict (prV W),.list (L.map prD),.none,.dict (prV (nw g pre ++ [(p,q)])),prD p,.list (q.map .int)]);walk_at "ev";rw [a8a (kt:=true) (k:=prD p) (d:=.list (q.map .int)) (kvs:=prV (nw g pre)) rfl rfl rfl (R6 p) (by rw [a2a];lia),a9d fun z=>kn (a0D.mp z).1];rfl)
  exact⟨_,g1,_,_,rfl⟩
 ·rintro Z ⟨x,y,rfl⟩;walk_at "ev"
section
variable {m:m4}{k:Nat}(w:WF m k)
include w
theorem a8l:(prs m.length).length<=435:=by
 have hle:=w.le;rw [b5k m.length (by lia)];have h1:m.length * (m.length - 1)<=30 * 29:=Nat.mul_le_mul hle (by lia);lia
theorem a0h(BQ:∀{d:Nat} {W:PW} {p:Int × Int},Fnd m k d W->d<=1000->PrOk m p->fj m k d p=none->gm [prD p,.dict (prV W)]=some (B2 (fj m k (d + 1) p))):∃d W,p7 gm [.dict (prV (WZ m.length)),.list ((prs m.length).map prD)]=some (.dict (prV W))/\Fnd m k d W/\(∀p,PrOk m p->fj m k (d + 1) p=fj m k d p)/\d<=(prs m.length).length:=by
 have lW:=w.pos;have hle:=w.le;have hN:=a8l w;have round:∀{d:Nat} {W:PW},Fnd m k d W->d<=1000->(lft m k d).length<=1000->o6 gm [.dict (prV W),.list ((lft m k d).map prD)]=some (.dict (prV (nw (fj m k (d + 1)) (lft m k d)))):=fun {d W} hW hd hl=>
  a0E (fun p hp=>BQ hW hd (a8h hp) (G0.mp hp).2) b0R hl
 have hu:p7 gm [.dict (prV (WZ m.length)),.list ((prs m.length).map prD)]=a4Q (D6 gm [.dict (prV (WZ m.length)),.list ((prs m.length).map prD),.none,.none,.none]):=by
  unfold p7;rw [b3g (by simp [VS.argsOk])];rfl
 rw [hu];unfold D6;walk_at "ev";rw [b3A (n:=m.length) (by walk_at "ev") (by lia) lW];walk_at "ev";rw [b5P (ds:=[.dict (prV (WZ m.length)),.list ((prs m.length).map prD)]) (by walk_at "ev")];rw [<-a9j (m:=m) (k:=k),round b5U (by lia) (by rw [a9j];lia)];walk_at "ev";obtain⟨Z',g1,d,W,x,y,hW,jS,hd,rfl⟩:=a5d (c:=(tVD (a4 4))) (g:=(c7 (b0h 3 4) (c7 (i6 1 (t9 (iI (iL (a4 1))) [4] pt1 (tB (e2 (dIn true true) (a4 0) (a4 1))) (a4 0))) (i6 4 (b0o o6 gm (a5 (a4 3) (a5 (a4 1) b8)))))))
  (I:=fun d Z=>∃W,Fnd m k d W/\W.length<=30 + d * 1000/\W≠[]/\d + (lft m k d).length<=(prs m.length).length/\Z=[.dict (prV (WZ m.length)),.list ((lft m k d).map prD),.none,.dict (prV W),.dict (prV (nw (fj m k (d + 1)) (lft m k d)))])
  (Q:=fun Z=>∃d W x y,Fnd m k d W/\(∀p,PrOk m p->fj m k (d + 1) p=fj m k d p)/\d<=(prs m.length).length/\Z=[.dict (prV (WZ m.length)),x,.none,.dict (prV W),y]) 1000 (by
   rintro d Z ⟨W,hW,hl,gy,hd,rfl⟩;refine⟨by lia,?_⟩;have ht:tVD (a4 4) [.dict (prV (WZ m.length)),.list ((lft m k d).map prD),.none,.dict (prV W),.dict (prV (nw (fj m k (d + 1)) (lft m k d)))]=some !(nw (fj m k (d + 1)) (lft m k d)).isEmpty:=b8t rfl;by_cases hV:nw (fj m k (d + 1)) (lft m k d)=[]
   ·refine .inl ⟨by rw [ht,hV];rfl,d,W,_,_,hW,b5l hV,by lia,rfl⟩
   ·refine .inr ⟨by rw [ht];cases e:nw (fj m k (d + 1)) (lft m k d) with|nil=>exact absurd e hV|cons _ _=>rfl,[.dict (prV (WZ m.length)),.list ((lft m k (d + 1)).map prD),.none,.dict (prV (W ++ nw (fj m k (d + 1)) (lft m k d))),.dict (prV (nw (fj m k (d + 1 + 1)) (lft m k (d + 1))))],?_,?_⟩
    ·have hu:=b8u (i:=3) (j:=4) (Z:=[.dict (prV (WZ m.length)),.list ((lft m k d).map prD),.none,.dict (prV W),.dict (prV (nw (fj m k (d + 1)) (lft m k d)))]) (W:=W) (V:=nw (fj m k (d + 1)) (lft m k d)) rfl rfl gy (fun p hp hk=>by
      have h1:=(a0D.mp (aG.mpr ⟨p,hp,rfl⟩)).1;have h2:=(E4 W).mp hk;rw [hW _ (a8h h1),(G0.mp h1).2] at h2;cases h2) (by have:=a8g (g:=fj m k (d + 1)) (lft m k d);lia)
     have hc:t9 (iI (iL (a4 1))) [4] pt1 (tB (e2 (dIn true true) (a4 0) (a4 1))) (a4 0) [.dict (prV (WZ m.length)),.list ((lft m k d).map prD),.none,.dict (prV (W ++ nw (fj m k (d + 1)) (lft m k d))),.dict (prV (nw (fj m k (d + 1)) (lft m k d)))]=some (.list ((lft m k (d + 1)).map prD)):=by
      rw [a9e (enc:=prD) (xs:=lft m k d) (fun p=>!decide (p∈(nw (fj m k (d + 1)) (lft m k d)).map (·.1))) prD ?_ (by lia),a6P]
      ·intro p hp;refine⟨_,rfl,?_,fun _=>rfl⟩;show tB (e2 (dIn true true) (a4 0) (a4 1)) [prD p,.dict (prV (nw (fj m k (d + 1)) (lft m k d)))]=_;walk_at "ev";rw [b8r];cases decide (p∈(nw (fj m k (d + 1)) (lft m k d)).map (·.1)) <;> rfl
      ·rw [a0r (ds:=(lft m k d).map prD) (by walk_at "ev") (l5 _ a0f _)]
     have vB:=a6Q hV;have vE:=round hW.next (by lia) (by lia);rw [X6,hu];walk_at "ev";rw [hc];walk_at "ev";rw [b5P (ds:=[.dict (prV (W ++ nw (fj m k (d + 1)) (lft m k d))),.list ((lft m k (d + 1)).map prD)]) (by walk_at "ev"),vE];walk_at "ev"
    ·have vB:=a6Q hV;have:=a8g (g:=fj m k (d + 1)) (lft m k d);exact⟨_,hW.next,by rw [aK];lia,by simp [gy],by lia,rfl⟩) 1000000 0 [.dict (prV (WZ m.length)),.list ((lft m k 0).map prD),.none,.dict (prV (WZ m.length)),.dict (prV (nw (fj m k 1) (lft m k 0)))]
  ⟨WZ m.length,b5U,by unfold WZ;rw [ar,bJ];lia,fun z=>by have:=dC gG z;unfold WZ at this;rw [ar,bJ,Ep] at this;lia,by rw [a9j];lia,rfl⟩ (by lia)
 rw [b8k,g1];walk_at "ev";exact⟨d,W,rfl,hW,jS,by rw [a9j];exact hd⟩
theorem a1j:∃d W,p9 [.list (m.map rwD)]=some (.dict (prV W))/\Fnd m k d W/\(∀p,PrOk m p->fj m k (d + 1) p=fj m k d p)/\d<=(prs m.length).length:=by
 have lW:=w.pos;have hle:=w.le;obtain⟨d,W,h1,h2,h3,h4⟩:=a0h w (gm:=fnE [.i,.f] ([0].map fun j=>([.list (m.map rwD)]:List D).getD j .none) (eCl p8 (a5 (a4 2) (a5 (a4 0) (a5 (a4 1) b8))))) (fun {d W p} hW hd hp hn=>by
  rw [b5O (by simp [VS.argsOk,a0f])];show eCl p8 (a5 (a4 2) (a5 (a4 0) (a5 (a4 1) b8))) [prD p,.dict (prV W),.list (m.map rwD)]=_;walk_at "ev";rw [X0 hn];exact a1i w hW hp hd)
 refine⟨d,W,?_,h2,h3,h4⟩;unfold p9;rw [B5 (by simp [VS.argsOk])];unfold S5;walk_at "ev";rw [a2u (n:=m.length) (by walk_at "ev") (by lia) (by lia),bw];walk_at "ev";refine z0 (fun Z=>∃x,Z=[.list (m.map rwD),.dict (prV (WZ m.length)),x]) ?_ ?_
 ·obtain⟨Z',g1,x,rfl⟩:=v8 (n:=m.length) (set:=t5 2) (g:=(J3 1 true (C7 (a5 (a4 2) (a5 (a4 2) b8))) (t8 b8))) (Z:=[.list (m.map rwD),.dict [],.none])
   (fun j Z=>∃x,Z=[.list (m.map rwD),.dict (prV (WZ j)),x]) ⟨_,rfl⟩ (by
    rintro j hj Z ⟨x,rfl⟩;refine⟨_,[.list (m.map rwD),.dict (prV (WZ (j + 1))),.int j],rfl,?_,_,rfl⟩;show J3 1 true (C7 (a5 (a4 2) (a5 (a4 2) b8))) (t8 b8) [.list (m.map rwD),.dict (prV (WZ j)),.int j]=_;have hlen:(WZ j).length=j:=by unfold WZ;rw [ar,bJ]
    rw [a8a (kt:=true) (k:=prD ((j:Int),(j:Int))) (d:=.list (([]:List Int).map .int)) (kvs:=prV (WZ j)) rfl rfl rfl (R6 _) (by rw [a2a,hlen];lia),a9d fun z=>by have:=(a5j.mp z).2.2;simp only at this;lia];unfold WZ;rw [nE,bb];rfl)
  exact⟨_,g1,_,rfl⟩
 rintro Z ⟨x,rfl⟩;walk_at "ev";rw [b5N (ds:=[.dict (prV (WZ m.length)),.list ((prs m.length).map prD)]) (by walk_at "ev";rw [a1G m.length hle];walk_at "ev")];rw [show p7 (fnE [.i,.f] (List.map (fun j=>([.list (m.map rwD),.dict (prV (WZ m.length)),x]:List D).getD j .none) [0]) (eCl p8 (a5 (a4 2) (a5 (a4 0) (a5 (a4 1) b8))))) [.dict (prV (WZ m.length)),.list ((prs m.length).map prD)]=_ from h1];walk_at "ev"
end
end Prog
namespace Prog
open PySem L2 VS
theorem a8m{m:m4}{k:Nat}(w:WF m k){s:Int}(h0:0<=s)(h1:s < m.length){p:List Int}(hp:∀a∈p,0<=a/\a < (k:Int)):m_law_end [.list (m.map rwD),.int s,.list (p.map .int)]=some (.int (j0 m s p).2):=by
 unfold m_law_end;rw [B5 (by simp [VS.argsOk,imm])];unfold b_law_end;walk_at "ev";rw [a0r (ds:=p.map bt) (by walk_at "ev") (l5 _ (fun _=>N2) _)];walk_at "ev";refine z0 (fun Z=>∃x,Z=[.list (m.map rwD),.int (j0 m s p).2,.list (p.map .int),x]) ?_ ?_
 ·obtain⟨Z',g1,x,rfl⟩:=I9 (enc:=bt) (set:=t5 3) (xs:=p) (g:=(i6 1 (e2 j7 (e2 j7 (e2 dIx (a4 0) (a4 1)) (a4 3)) (eC (.int 1))))) (Z:=[.list (m.map rwD),.int s,.list (p.map .int),.none])
   (fun pre Z=>∃x,Z=[.list (m.map rwD),.int (j0 m s pre).2,.list (p.map .int),x]) ⟨_,rfl⟩ (by
    rintro pre a post e Z ⟨x,rfl⟩;have ha:=hp a (by rw [e];simp);have pR:=W6 w pre s h0 h1 fun x hx=>hp x (by rw [e];exact aq _ hx)
    refine⟨_,[.list (m.map rwD),.int (j0 m s (pre ++ [a])).2,.list (p.map .int),.int a],rfl,?_,_,rfl⟩;walk_at "ev";rw [a6u pR.1 pR.2];walk_at "ev";rw [b8c ha.1 (by rw [w.row pR.1 pR.2];exact ha.2)];walk_at "ev";rw [a2N];rfl)
  exact⟨_,g1,_,rfl⟩
 ·rintro Z ⟨x,rfl⟩;walk_at "ev"
end Prog
local macro_rules | `(tactic| walk_at "evn")=>`(tactic| first | (walk_at "ev";repeat (simp -implicitDefEqProofs (disch:=first | omega | assumption | decide) only [VS.a4Z,VS.a5a];try walk_at "ev")) | (simp -implicitDefEqProofs (disch:=first | omega | assumption | decide) only [VS.a4Z,VS.a5a];repeat (first | walk_at "ev" | simp -implicitDefEqProofs (disch:=first | omega | assumption | decide) only [VS.a4Z,VS.a5a])))
namespace Prog
open PySem L2 VS
theorem a3r(i:Int):m_law_whole [.int i]=some (.bool true):=by
 unfold m_law_whole;rw [B5 (by simp [VS.argsOk])];unfold b_law_whole;walk_at "ev"
theorem a1H{p:List Int}(hp:∀a∈p,0<=a/\a < (k:Int)):m_law_probe_of [.list (p.map .int),.int k]=some (.bool true):=by
 unfold m_law_probe_of;rw [B5 (by simp [VS.argsOk,imm])];unfold b_law_probe_of;walk_at "ev";refine z0 (fun Z=>True) ?_ ?_
 ·obtain⟨Z',h1,x,rfl⟩:=I9 (enc:=bt) (set:=t5 2) (xs:=p) (g:=(sIf (O1 (tNo (tV (eCl m_law_whole (a5 (a4 2) b8)))) (tNo (tB (eCh dLe dLt (eC (.int 0)) (a4 2) (a4 1))))) (i9 (eC (.bool false))) k6)) (Z:=[.list (p.map .int),.int k,.none])
   (fun _ Z=>∃x,Z=[.list (p.map .int),.int k,x]) ⟨_,rfl⟩ (by
    rintro pre a post e Z ⟨x,rfl⟩;have ha:=hp a (by rw [e];simp);refine⟨_,[.list (p.map .int),.int k,.int a],rfl,?_,_,rfl⟩;walk_at "ev";rw [a3r];walk_at "ev";rw [aL ha.1];walk_at "ev";rw [aL ha.2];walk_at "ev")
  exact⟨_,h1,trivial⟩
 ·intro Z _;walk_at "ev"
theorem b5s(w:WF m k):W7 [.list (m.map rwD)]=some (.int k):=by
 unfold W7;rw [B5 (by simp [VS.argsOk])];unfold a4r;walk_at "ev";rw [a6u (by decide) (by have:=w.pos;lia)];walk_at "ev";rw [w.row (by decide) (by have:=w.pos;lia)]
theorem b0U{m:m4}{k:Nat}(w:WF m k){p:List Int}{s:Int}(h0:0<=s)(h1:s < m.length)(hp:∀x∈p,0<=x/\x < (k:Int))(hl:p.length<=13000) :
  a0w [.list (m.map rwD),.int s,.list (p.map .int)]=some (.tuple [.list ((j0 m s p).1.map .int),.int (j0 m s p).2]):=by
 unfold a0w;rw [B5 (by simp [VS.argsOk,imm])];unfold a6z;walk_at "ev";rw [a0r (ds:=p.map .int) (by walk_at "ev") (N3 p)];walk_at "ev";refine z0 (fun Z=>∃x y:D,Z=[.list (m.map rwD),.int (j0 m s p).2,.list (p.map .int),.list ((j0 m s p).1.map .int),x,y]) ?_ ?_
 ·obtain⟨Z',h2,x,y,rfl⟩:=I9 (enc:=bt) (set:=t5 4) (xs:=p) (Z:=[.list (m.map rwD),.int s,.list (p.map .int),.list [],.none,.none])
   (g:=(c7 (i6 5 (e2 j7 (e2 dIx (a4 0) (a4 1)) (a4 4))) (c7 (J8 3 (.l .i) u8 (e2 j7 (a4 5) (eC (.int 0)))) (i6 1 (e2 j7 (a4 5) (eC (.int 1)))))))
   (fun pre Z=>∃x y:D,Z=[.list (m.map rwD),.int (j0 m s pre).2,.list (p.map .int),.list ((j0 m s pre).1.map .int),x,y]) ⟨_,_,rfl⟩ (by
    rintro pre a post e Z ⟨x,y,rfl⟩;have kn:∀b∈pre,0<=b/\b < (k:Int):=fun b hb=>hp b (by rw [e];exact aq _ hb)
    have ha:=hp a (by rw [e];simp);have hs:=W6 w pre s h0 h1 kn;have hr:=w.row hs.1 hs.2;have hlen:pre.length < 13000:=by have:=dC gG e;simp at this;lia
    refine⟨_,[.list (m.map rwD),.int (j0 m s (pre ++ [a])).2,.list (p.map .int),.list ((j0 m s (pre ++ [a])).1.map .int),.int a,stD (stp m (j0 m s pre).2 a)],rfl,?_,_,_,rfl⟩;walk_at "ev";rw [a6u hs.1 hs.2];walk_at "ev";rw [b8c ha.1 (by lia)];walk_at "ev";rw [b1K (by rw [ar,a4o];lia)];walk_at "ev";rw [a2N,bb];rfl)
  exact⟨_,h2,_,_,rfl⟩
 ·rintro Z ⟨x,y,rfl⟩;walk_at "ev"
theorem a6T:KeyB true r8:=⟨b3j,a1e,a0B⟩
theorem c0I{Z ds:List D}(h:a Z=some (.list ds)):iSq a Z=some ds:=by
 unfold iSq;rw [h];rfl
theorem c0J{Z ds:List D}(h:a Z=some (.tuple ds)):iSq a Z=some ds:=by
 unfold iSq;rw [h];rfl
theorem a9s{m:m4}{k:Nat}(w:WF m k){b q:List Int}{sq:D}(A_:iSq (a4 1) [.list (m.map rwD),sq,.list (q.map .int)]=some (b.map .int))(hb:In m b)(hl:b.length < 64)(hq:∀a∈q,0<=a/\a < (k:Int))(pK:q.length<=1000):a1A [.list (m.map rwD),sq,.list (q.map .int)]=some (.list ((ldS m b q).map .int)):=by
 unfold a1A;rw [B5 (by simp [VS.argsOk])];unfold b5M;walk_at "ev";rw [a4x (ns:=b.map fun s=>(j0 m s q).2) ?_ (by rw [ar];exact hl)]
 ·rfl
 ·rw [a1Z (enc:=bt) (xs:=b) (fun s=>bt (j0 m s q).2) (a0r (ds:=b.map .int) A_ (l5 _ (fun _=>N2) _)) (by lia) (fun s hs=>⟨_,rfl,?_⟩),cP]
  ·rfl
  ·have h1:=hb.2 s hs;have wJ:=b0U w (p:=q) (s:=s) h1.1 h1.2 hq (by lia);walk_at "ev";rw [wJ];walk_at "ev"
theorem b8C(w:WF m k)(hb:In m b)(hl:b.length < 64)(hq:∀a∈q,0<=a/\a < (k:Int))(pK:q.length<=1000):a1A [.list (m.map rwD),.list (b.map .int),.list (q.map .int)]=some (.list ((ldS m b q).map .int)):=
 a9s w (c0I (by walk_at "ev")) hb hl hq pK
theorem b5t(w:WF m k)(hb:SetK m b)(hl:b.length < 64)(ha:a < k):a1A [.list (m.map rwD),r8 b,.list [.int (a:Nat)]]=some (.list ((nxS m b a).map .int)):=
 a9s (q:=[(a:Int)]) w (c0J (ds:=b.map .int) (by unfold r8;walk_at "ev")) hb.inn hl (fun x hx=>by rw [ax.mp hx];lia) (by simp)
theorem b3B(w:WF m k)(hb:SetK m b)(hl:b.length < 64):u7 [.list (m.map rwD),r8 b]=some (.list ((aJ k).map fun (a:Nat)=>r8 (nxS m b a))):=by
 have hk:=w.k5;unfold u7;rw [B5 (by simp [VS.argsOk,a0B])];unfold X8;walk_at "ev";rw [a8Y (n:=k) (fun (a:Nat)=>r8 (nxS m b a)) (by walk_at "ev";rw [b5s w]) (by lia) (by lia) (fun a ha=>?_),bw]
 ·walk_at "ev"
 ·rw [a9c (ds:=(nxS m b a).map .int) ?_ (l5 _ (fun _=>N2) _)]
  ·rfl
  ·walk_at "ev";exact b5t w hb hl (by lia)
theorem a8n(W:List (List Int × α)):keysOk true (kvB r8 enc W)=true:=by
 unfold keysOk kvB;rw [bP];intro x hx;obtain⟨e,_,rfl⟩:=aG.mp hx;exact a1e _
theorem a8o{f:β->List Int}:∀{l:List β},(∀b∈l,Inc (f b))->C1 (l.map fun b=>r8 (f b))=false
 | [],_=>rfl
 | b :: l,h=>by
  have hb:=h b ah
  match e:f b with
  | []=>simp only [aA,e,r8,C1,cA]
  | [x]=>simp only [aA,e,r8,C1,cA]
  | x :: y :: z :: r=>simp only [aA,e,r8,C1]
  | [x,y]=>
   rw [e] at hb;have:x < y:=(cy.mp hb).1 y ah;simp only [aA,e,r8,cA];unfold C1
   split
   ·rename_i h0
    simp only [nH,cw.injEq,bt.injEq] at h0;lia
   ·rfl
theorem b8D{α:Type}{enc:α->D}{W:List (List Int × α)}{Z:List D}(h:f Z=some (.dict (kvB r8 enc W)))(hi:∀e∈W,Inc e.1):iDk f Z=some (W.map fun e=>r8 e.1):=by
 have hk:(kvB r8 enc W).map (·.1)=W.map fun e=>r8 e.1:=by unfold kvB;rw [cP];rfl
 unfold iDk;rw [h];show (if C1 ((kvB r8 enc W).map (·.1)) then none else some ((kvB r8 enc W).map (·.1)))=_;rw [hk,a8o hi];rfl
theorem b8E{α:Type}{enc:α->D}{W:List (List Int × α)}(hn:(W.map (·.1)).Nodup){c:List Int}{x:α}(h:(c,x)∈W):a1N true (.dict (kvB r8 enc W)) (r8 c)=some (enc x):=by
 show (if u6 true (r8 c) && keysOk true (kvB r8 enc W) then G9 (kvB r8 enc W) (r8 c) else none)=_;rw [a1e,a8n,a6J a6T hn h];rfl
theorem SetK.len(h:SetK m b):b.length<=m.length:=nodup_range (h.1.imp fun z=>by lia) h.2.2
theorem a0F{m:m4}{k:Nat}(w:WF m k)(h7:m.length<=7){b:List Int}(hb:SetK m b):∃o,u5 [.list (m.map rwD),.list (b.map .int)]=some (B2 o)/\Gat m k b o/\∀q,o=some q->q.length<=128:=by
 have hk:=w.k5;have vJ:=SetK.len hb;obtain⟨W,hW,hA⟩:=b5r (key:=r8) a6T (gm:=fnE [.i] ([0].map fun j=>([.list (m.map rwD)]:List D).getD j .none) (eCl u7 (a5 (a4 1) (a5 (a4 0) b8)))) (nx:=nxS m) (k:=k) (by lia) (s:=b) (P:=SetK m) hb (fun c a hc ha=>hc.nx w ha)
  (fun c hc=>by
   rw [b5O (by simp [VS.argsOk,a0B])];have:=SetK.len hc;show eCl u7 (a5 (a4 1) (a5 (a4 0) b8)) [r8 c,.list (m.map rwD)]=_;walk_at "ev";exact b3B w hc (by lia)) (B:=128) (a3k h7) (by lia)
 refine⟨a6L (fun c=>c.length == 1) W,?_,Gat.of hA,fun q hq=>?_⟩
 rotate_left
 ·obtain⟨x,h1,rfl⟩:=bY.mp hq;have h2:=hA.ql x (fX h1);have h3:=a3k h7 (W.map (·.1)) hA.nodup fun c hc=>by obtain⟨e,he,rfl⟩:=aG.mp hc;exact hA.ok e he
  rw [ar] at h3;lia
 unfold u5;rw [B5 (by simp [VS.argsOk])];unfold N7;walk_at "ev";rw [b5N (ds:=[r8 b]) (by walk_at "ev";rw [a9c (ds:=b.map .int) (by walk_at "ev") (l5 _ (fun _=>N2) _)];rfl)];rw [show J0 (fnE [.i] (List.map (fun j=>([.list (m.map rwD),.list (b.map .int),.none,.none]:List D).getD j .none) [0]) (eCl u7 (a5 (a4 1) (a5 (a4 0) b8)))) [r8 b]=_ from hW];walk_at "ev";rw [a0r (ds:=W.map fun e=>r8 e.1) (b8D (enc:=iDl) (by walk_at "ev") fun e he=>(hA.ok e he).1) (l5 _ (fun _=>a0B _) _)];walk_at "ev";have lp:=a4w (enc:=fun (e:List Int × List Int)=>r8 e.1) (set:=t5 3) (xs:=W) (g:=(sIf (tB (e2 dEq (eCl o3 (a5 (a4 3) b8)) (eC (.int 1)))) (i9 (e2 (a1N true) (a4 2) (a4 3))) k6)) (Z:=[.list (m.map rwD),.list (b.map .int),.dict (kvB r8 iDl W),.none])
  (fun pre Z=>(∃x,Z=[.list (m.map rwD),.list (b.map .int),.dict (kvB r8 iDl W),x])/\∀e∈pre,(e.1.length == 1)=false) (fun d=>d=B2 (a6L (fun c=>c.length == 1) W)) ⟨⟨_,rfl⟩,fun e he=>(nomatch he)⟩ (by
   rintro pre ⟨c,q⟩ post e Z ⟨⟨x,rfl⟩,kn⟩;refine⟨[.list (m.map rwD),.list (b.map .int),.dict (kvB r8 iDl W),r8 c],rfl,?_⟩;have yX:o3 [r8 c]=some (.int c.length):=by unfold r8;rw [b1H,ar]
   by_cases h:c.length=1
   ·refine .inr ⟨iDl q,?_,?_⟩
    ·walk_at "ev";rw [yX];walk_at "ev";rw [aL (show (c.length:Int)=1 by lia)];walk_at "ev";rw [b8E hA.nodup (show (c,q)∈W by rw [e];simp)];walk_at "ev"
    ·unfold a6L;rw [e,List.find?_append,gB.mpr (fun x hx=>by rw [show (fun c:List Int=>c.length == 1) x.1=false from kn x hx];exact bB),fu];simp [h,B2]
   ·refine .inl ⟨[.list (m.map rwD),.list (b.map .int),.dict (kvB r8 iDl W),r8 c],?_,⟨_,rfl⟩,fun x hx=>?_⟩
    ·walk_at "ev";rw [yX];walk_at "ev";rw [aQ (show ¬ (c.length:Int)=1 by lia)];walk_at "ev"
    ·rcases ay.mp hx with y|y
     ·exact kn x y
     ·rw [ax.mp y];simpa using h)
 rcases lp with⟨Z',g1,⟨x,rfl⟩,og⟩|⟨d,g1,rfl⟩
 ·rw [g1];walk_at "ev";unfold a6L;rw [gB.mpr fun x hx=>by rw [show (fun c:List Int=>c.length == 1) x.1=false from og x hx];exact bB];rfl
 ·rw [g1];walk_at "ev"
theorem b5u(h0:0<=s)(h1:s < n):R1 [.int s,.int n]=some (.bool true):=by
 unfold R1;rw [B5 (by simp [VS.argsOk,imm])];unfold a2V;walk_at "ev";rw [show R0 [.int s]=some (.bool true) by unfold R0;rw [B5 (by simp [VS.argsOk])];unfold a2T;walk_at "ev"];walk_at "ev";rw [aL h0];walk_at "ev";rw [aL h1]
theorem b0V{m:m4}(h7:m.length<=7)(hb:SetK m b):a0x [.list (b.map .int),.int m.length]=some (.bool true):=by
 have vJ:=SetK.len hb;have lW:0 < b.length:=List.length_pos_iff.mpr hb.2.1;unfold a0x;rw [B5 (by simp [VS.argsOk,imm])];unfold a6F;walk_at "ev";rw [show B8 [.list (b.map .int),.int m.length]=some (.bool true) by
  unfold B8;rw [B5 (by simp [VS.argsOk,imm])];unfold S6;walk_at "ev";rw [aL (show (1:Int)<=b.length by lia)];walk_at "ev";rw [aL (show (b.length:Int)<=m.length by lia)]]
 walk_at "ev";rw [a1Z (enc:=bt) (xs:=b) (fun s=>cm ((fun _=>true) s)) (a0r (by walk_at "ev") (l5 _ (fun _=>N2) _)) (by lia) (fun s hs=>⟨_,rfl,?_⟩)]
 ·walk_at "ev";rw [v_all (fun _=>true) b,bP.mpr (fun _ _=>rfl)];walk_at "ev";rw [a4x (ns:=b) (by walk_at "ev") (by lia),b0O hb.1];walk_at "ev";rw [show dEq (.list (b.map .int)) (.list (b.map .int))=_ from b2R (xs:=b) (ys:=b),aL rfl];walk_at "ev"
 ·have:=hb.2.2 s hs;walk_at "ev";exact b5u this.1 this.2
theorem a1I(w:WF m k)(h7:m.length<=7)(hb:SetK m b):∃o,B6 [.list (m.map rwD),.list (b.map .int)]=some (B2 o)/\Gat m k b o/\∀q,o=some q->q.length<=128:=by
 obtain⟨o,h1,h2⟩:=a0F w h7 hb;refine⟨o,?_,h2⟩;unfold B6;rw [B5 (by simp [VS.argsOk])];unfold Y0;walk_at "ev";rw [show n9 [.list (m.map rwD)]=some .none by
  unfold n9;rw [b2W (by simp [VS.argsOk])];unfold D8;walk_at "evn";rw [aQ (show ¬ (7:Int) < m.length by lia)];walk_at "evn"]
 walk_at "ev";rw [show R4 [.list (m.map rwD),.list (b.map .int)]=some .none by
  unfold R4;rw [b2W (by simp [VS.argsOk])];unfold a2X;walk_at "evn";rw [b0V h7 hb];walk_at "evn"]
 walk_at "ev";rw [h1];walk_at "ev"
theorem Y2{m:m4}(hle:m.length<=30):D7 [.list (m.map rwD)]=some (.list (((aJ m.length).map fun (s:Nat)=>(s:Int)).map .int)):=by
 unfold D7;rw [B5 (by simp [VS.argsOk])];unfold a0v;walk_at "ev";rw [a9l (n:=m.length) (by walk_at "ev") (by lia)];walk_at "ev"
theorem a5m(m:m4):In m ((aJ m.length).map fun (s:Nat)=>(s:Int)):=by
 refine⟨gQ.mpr (gR.imp fun z=>by lia),fun s hs=>?_⟩;obtain⟨t,ht,rfl⟩:=aG.mp hs;have:=bo.mp ht;lia
section
variable {m:m4}{k:Nat}(w:WF m k){d:Nat}
include w
omit w in
theorem b8F{b:List Int}(h:1 < b.length)(e:fj m k d (b.getD 0 0,b.getD 1 0)=some q):(ldS m b q).length < b.length:=by
 obtain⟨s,t,r,rfl⟩:=two h;exact a6R rfl (a0C e)
omit w in
theorem c1X(hb:In m b)(h:1 < b.length):pr (b.getD 0 0) (b.getD 1 0)=(b.getD 0 0,b.getD 1 0)/\PrOk m (b.getD 0 0,b.getD 1 0):=by
 obtain⟨s,t,r,rfl⟩:=two h;have h1:s < t:=(cy.mp hb.1).1 t ah;have h2:=hb.2 s ah;have h3:=hb.2 t (ao _ ah);refine⟨?_,h2.1,by show s<=t;lia,h3.2⟩;show pr s t=(s,t);unfold pr;rw [aE h1]
theorem a6U(hj:p9 [.list (m.map rwD)]=some (.dict (prV W)))(hW:Fnd m k d W)(hd:d<=435):Q8 [.list (m.map rwD)]=some (B2 (byP m (fj m k d) m.length ((aJ m.length).map fun (s:Nat)=>(s:Int)) [])):=by
 have hle:=w.le;unfold Q8;rw [B5 (by simp [VS.argsOk])];unfold a2P;walk_at "ev";rw [hj];walk_at "ev";rw [Y2 hle];walk_at "ev";rw [b8k];generalize hT:byP m (fj m k d) m.length ((aJ m.length).map fun (s:Nat)=>(s:Int)) []=T;rcases a6K (c:=(tB (e2 dGt (eCl o3 (a5 (a4 3) b8)) (eC (.int 1))))) (g:=(c7 (i6 4 (e2 (a4b true) (a4 1) (C7 (a5 (e2 A5 (a4 3) (eC (.int 0))) (a5 (e2 A5 (a4 3) (eC (.int 1))) b8))))) (c7 (sIf (tB (e2 (O9 false) (a4 4) (eC .none))) (i9 (eC .none)) k6) (c7 (a3A 2 (a4 4)) (i6 3 (eCl a1A (a5 (a4 0) (a5 (a4 3) (a5 (a4 4) b8)))))))))
  (I:=fun j Z=>∃(n:Nat) (b acc:List Int) (x:D),In m b/\b.length<=n/\n + j<=m.length/\acc.length<=j * 1000/\byP m (fj m k d) n b acc=T/\Z=[.list (m.map rwD),.dict (prV W),.list (acc.map .int),.list (b.map .int),x])
  (Q:=fun Z=>∃(b acc:List Int) (x:D),T=some acc/\Z=[.list (m.map rwD),.dict (prV W),.list (acc.map .int),.list (b.map .int),x]) (R:=fun r=>r=.none/\T=none) 30 (by
   rintro j Z ⟨n,b,acc,x,hb,hn,DR,ha,hB,rfl⟩;refine⟨by lia,?_⟩;by_cases fL:1 < b.length
   ·refine .inr ⟨by walk_at "ev";rw [aL (show (b.length:Int) > 1 by lia)],?_⟩;obtain⟨sE,hok⟩:=c1X hb fL;have hg:i6 4 (e2 (a4b true) (a4 1) (C7 (a5 (e2 A5 (a4 3) (eC (.int 0))) (a5 (e2 A5 (a4 3) (eC (.int 1))) b8)))) [.list (m.map rwD),.dict (prV W),.list (acc.map .int),.list (b.map .int),x]=some (.nx [.list (m.map rwD),.dict (prV W),.list (acc.map .int),.list (b.map .int),B2 (fj m k d (b.getD 0 0,b.getD 1 0))]):=by
     have a0:=a5k (b:=b) (j:=0) (by lia);have a1:=a5k (b:=b) (j:=1) fL;walk_at "ev";rw [show L2.atI (b.map bt) 0=_ from a0,show L2.atI (b.map bt) 1=_ from a1];walk_at "ev";rw [show cw [.int (b.getD 0 0),.int (b.getD 1 0)]=prD (b.getD 0 0,b.getD 1 0) from rfl,b5f,hW _ hok,b3i];walk_at "ev"
    cases e:fj m k d (b.getD 0 0,b.getD 1 0) with
    | none=>
     rw [e] at hg;refine .inr ⟨.none,?_,rfl,?_⟩
     ·rw [X6,hg];show thn (some (.nx [.list (m.map rwD),.dict (prV W),.list (acc.map .int),.list (b.map .int),.none])) _=_;walk_at "ev"
     ·rw [<-hB];exact b3v hn fL e
    | some q=>
     rw [e] at hg;have hq:=X1 e;have pK:=(a1g e).1;have DS:=b8F (k:=k) (d:=d) fL e;obtain⟨n',rfl,hs⟩:=b3w (m:=m) (acc:=acc) hn fL e;refine .inl ⟨[.list (m.map rwD),.dict (prV W),.list ((acc ++ q).map .int),.list ((ldS m b q).map .int),.list (q.map .int)],?_,n',ldS m b q,acc ++ q,_,hb.ld w hq,by lia,by lia,by rw [aK];lia,by rw [<-hs];exact hB,rfl⟩;have hx:a3A 2 (a4 4) [.list (m.map rwD),.dict (prV W),.list (acc.map .int),.list (b.map .int),.list (q.map .int)]=some (.nx [.list (m.map rwD),.dict (prV W),.list ((acc ++ q).map .int),.list (b.map .int),.list (q.map .int)]):=by
      rw [b5S (i:=2) (ds:=acc.map .int) (es:=q.map .int) rfl rfl (N3 q) (by rw [ar,ar];lia),bb];rfl
     rw [X6,hg];show thn (some (.nx [.list (m.map rwD),.dict (prV W),.list (acc.map .int),.list (b.map .int),.list (q.map .int)])) _=_;walk_at "ev";rw [hx];walk_at "ev";rw [b8C w hb (by lia) hq (by lia)];walk_at "ev"
   ·refine .inl ⟨by walk_at "ev";rw [aQ (show ¬ (b.length:Int) > 1 by lia)],b,acc,x,?_,rfl⟩;rw [<-hB];exact b5m (by lia)) 1000000 0 [.list (m.map rwD),.dict (prV W),.list [],.list (((aJ m.length).map fun (s:Nat)=>(s:Int)).map .int),.none]
   ⟨m.length,_,[],_,a5m m,by rw [ar,bJ];exact aF _,by lia,aF _,hT,rfl⟩ (by lia) with⟨Z',g1,b,acc,x,hq,rfl⟩|⟨r,g1,rfl,hq⟩
 ·rw [g1,hq];walk_at "ev";rfl
 ·rw [g1,hq];walk_at "ev";rfl
theorem b3C(h1:p9 [.list (m.map rwD)]=some (.dict (prV W)))(h2:Fnd m k d W):a1Y [.list (m.map rwD)]=some (.list ((lft m k d).map prD)):=by
 have hle:=w.le;have hN:=a8l w;unfold a1Y;rw [B5 (by simp [VS.argsOk])];unfold a9a;walk_at "ev";rw [h1];walk_at "ev";have hc:(t9 (iI (iL (eCl F6 (a5 (eCl o3 (a5 (a4 0) b8)) b8)))) [1] pt1 (tB (e2 (a0W true true) (a4 0) (a4 1))) (a4 0)) [.list (m.map rwD),.dict (prV W)]=some (.list ((lft m k d).map prD)):=by
  have hfl:(prs m.length).filter (fun p=>!decide (p∈W.map (·.1)))=lft m k d:=by
   unfold lft;refine mv fun p hp=>?_
   have hm:=K1.mp hp;have hg:=h2 p ⟨hm.1,by lia,hm.2.2⟩;rw [<-hg];cases x:O4 W p with
   | none=>rw [aQ fun z=>by have:=(E4 W).mp z;rw [x] at this;cases this];rfl
   | some q=>rw [aL ((E4 W).mpr (by rw [x];rfl))];rfl
  rw [a9e (enc:=prD) (xs:=prs m.length) (fun p=>!decide (p∈W.map (·.1))) prD ?_ (by lia),hfl]
  ·intro p hp;refine⟨_,rfl,?_,fun _=>rfl⟩;show tB (e2 (a0W true true) (a4 0) (a4 1)) [prD p,.dict (prV W)]=_;walk_at "ev";rw [a8c];cases decide (p∈W.map (·.1)) <;> rfl
  ·rw [a0r (ds:=(prs m.length).map prD) ?_ (l5 _ a0f _)];walk_at "ev";rw [a1G m.length hle,c0m]
 rw [hc];rfl
theorem b8G(h7:m.length<=7):n9 [.list (m.map rwD)]=some .none:=by
 unfold n9;rw [b2W (by simp [VS.argsOk])];unfold D8;walk_at "evn";rw [aQ (show ¬ (7:Int) < m.length by lia)];walk_at "evn"
theorem a9t:SetK m ((aJ m.length).map fun (s:Nat)=>(s:Int)):=SetK.of (a5m m) fun z=>by
 have:=dC gG z;rw [ar,bJ,Ep] at this;have:=w.pos;lia
theorem b8H(h7:m.length<=7):∃o,L9 [.list (m.map rwD)]=some (B2 o)/\Gat m k ((aJ m.length).map fun (s:Nat)=>(s:Int)) o/\∀q,o=some q->q.length<=128:=by
 obtain⟨o,h1,h2⟩:=a0F w h7 (a9t w);refine⟨o,?_,h2⟩;unfold L9;rw [B5 (by simp [VS.argsOk])];unfold a2S;walk_at "ev";rw [b8G w h7];walk_at "ev";rw [Y2 w.le];walk_at "ev";rw [h1];walk_at "ev"
theorem a6V(h7:7 < m.length):m_law_too_much [.list (m.map rwD)]=some (.bool true):=by
 have hle:=w.le;have hr:Q9 [.list (m.map rwD)]=some ("TooMuch":bc):=by
  unfold Q9;rw [b5Q (by simp [VS.argsOk])];unfold a1D;rw [b5R (ds:=[.list (m.map rwD)]) (by walk_at "ev")];unfold D9;rw [b5Q (by simp [VS.argsOk])];unfold L8;rw [c0C (b:=true) (by walk_at "ev";rw [aL (show (m.length:Int) > 7 by lia)])];rfl
 unfold m_law_too_much;rw [B5 (by simp [VS.argsOk])];unfold b_law_too_much;walk_at "ev";rw [b8q (n:="TooMuch") (by rw [b5R (ds:=[.list (m.map rwD)]) (by walk_at "ev")];exact hr) (by decide)];walk_at "ev";rfl
end
end Prog
local macro_rules | `(tactic| walk_at "evt")=>`(tactic| first | (walk_at "ev";repeat (simp -implicitDefEqProofs (disch:=first | omega | assumption | decide) only [VS.a6t,VS.b2S,VS.b0F,VS.a4k,VS.a4l,VS.b0G,VS.v4];try walk_at "ev")) | (simp -implicitDefEqProofs (disch:=first | omega | assumption | decide) only [VS.a6t,VS.b2S,VS.b0F,VS.a4k,VS.a4l,VS.b0G,VS.v4];repeat (first | walk_at "ev" | simp -implicitDefEqProofs (disch:=first | omega | assumption | decide) only [VS.a6t,VS.b2S,VS.b0F,VS.a4k,VS.a4l,VS.b0G,VS.v4])))
namespace VS
open PySem L2
theorem a9u{Z:List D}(ha:a Z=some x)(hb:b Z=some y)(hc:c Z=some z):eCl m (a5 a (a5 b (a5 c b8))) Z=m [x,y,z]:=by
 unfold eCl a5 b8;simp only [ha,hb,hc,ib]
theorem b3D{Z:List D}(h:t Z=some false):sIf t g1 g2 Z=g2 Z:=by
 unfold sIf;rw [h];rfl
end VS
namespace Prog
open PySem L2 VS
section
variable {m:m4}{k:Nat}(w:WF m k)
include w
theorem K4(hb:In m b)(hl:b.length < 64)(hq:∀a∈q,0<=a/\a < (k:Int)):m_law_to_one [.list (m.map rwD),.list (b.map .int),.list (q.map .int)]=some (.bool (decide ((ldS m b q).length=1))):=by
 unfold m_law_to_one;rw [B5 (by simp [VS.argsOk])];unfold b_law_to_one;walk_at "ev";rw [b3x (ns:=b.map fun s=>(j0 m s q).2) ?_ (by rw [ar];lia)]
 ·walk_at "ev";rw [b5p];show some (cm (decide (((ldS m b q).length:Int)=1)))=_
  congr 2;exact mM.mpr (by lia)
 ·rw [a1Z (enc:=bt) (xs:=b) (fun s=>bt (j0 m s q).2) (a0r (ds:=b.map .int) (by walk_at "ev") (l5 _ (fun _=>N2) _)) (by lia) (fun s hs=>⟨_,rfl,?_⟩),cP]
  ·rfl
  ·have h1:=hb.2 s hs;walk_at "ev";exact a8m w h1.1 h1.2 hq
theorem a3s{b q r:List Int}(hb:SetK m b)(hl:b.length < 64)(hG:Gat m k b (some q))(hr:∀a∈r,0<=a/\a < (k:Int))(pK:q.length<=128)(wR:r.length<=63):m_law_none_before [.list (m.map rwD),.list (b.map .int),.list (q.map .int),.list (r.map .int)]=some (.bool true):=by
 have hq:=(hG.ok' w hb rfl).1;have yZ:=w.k5;have least:∀p,(∀a∈p,0<=a/\a < (k:Int))->(ldS m b p).length=1->q=p∨bf q p:=fun p hp h1=>by
  obtain⟨q',e,h⟩:=hG.least' w hb hp h1;cases e
  exact h
 have tk:∀(l:List Int) (j:Nat) (a:Int),a∈l.take j->a∈l:=fun l j a h=>ix h
 unfold m_law_none_before;rw [B5 (by simp [VS.argsOk])];unfold b_law_none_before;rw [X6];refine z0 (fun Z=>Z=[.list (m.map rwD),.list (b.map .int),.list (q.map .int),.list (r.map .int),.none,.none,.none]) ⟨_,?_,rfl⟩ ?_
 ·walk_at "ev";rw [K4 w (q:=r) hb.inn hl hr];by_cases c:(ldS m b r).length=1
  ·rw [aL c];walk_at "ev";rw [c0G (least r hr c)];walk_at "ev"
  ·rw [aQ c];walk_at "ev"
 rintro Z rfl;walk_at "ev";rw [a2u (n:=q.length) (by walk_at "ev") (by lia) (by lia),bw];walk_at "ev";refine z0 (fun Z=>True) ?_ ?_
 ·obtain⟨Z',g1,x,y,z,rfl⟩:=v8 (n:=q.length) (set:=t5 4) (g:=(c7 (sIf (tV (eCl m_law_to_one (a5 (a4 0) (a5 (a4 1) (a5 (eI (q9 (eI (eSl (a4 2) oNo (oSo (a4 4)))) (eI (eSl (a4 2) (oSo (e2 n5 (a4 4) (eC (.int 1)))) oNo)))) b8))))) (i9 (eC (.bool false))) k6) (B4 (iR (e2 j7 (a4 2) (a4 4))) (t5 5) (c7 (i6 6 (eI (eSl (eI (q9 (a4 3) (a4 2))) oNo (oSo (e2 x9 (e2 x9 (eCl o3 (a5 (a4 2) b8)) (a4 4)) (eC (.int 1))))))) (sIf (tV (eCl m_law_to_one (a5 (a4 0) (a5 (a4 1) (a5 (eI (q9 (eI (q9 (eI (eSl (a4 2) oNo (oSo (a4 4)))) (t8 (a5 (a4 5) b8)))) (a4 6))) b8))))) (i9 (eC (.bool false))) k6))))) (Z:=[.list (m.map rwD),.list (b.map .int),.list (q.map .int),.list (r.map .int),.none,.none,.none])
   (fun _ Z=>∃x y z,Z=[.list (m.map rwD),.list (b.map .int),.list (q.map .int),.list (r.map .int),x,y,z]) ⟨_,_,_,rfl⟩ (by
    rintro j hj Z ⟨x,y,z,rfl⟩;have hE:eI (q9 (eI (eSl (a4 2) oNo (oSo (a4 4)))) (eI (eSl (a4 2) (oSo (e2 n5 (a4 4) (eC (.int 1)))) oNo))) [.list (m.map rwD),.list (b.map .int),.list (q.map .int),.list (r.map .int),.int j,y,z]=some (.list ((q.take j ++ q.drop (j + 1)).map .int)):=by
     walk_at "evt";rw [a8Z (by lia) (by lia),c0s (by lia) (by lia),v4,v4,a0t (by simp;lia),v4];rfl
    have h1:(ldS m b (q.take j ++ q.drop (j + 1))).length≠1:=fun h=>by
     have vC:(q.take j ++ q.drop (j + 1)).length < q.length:=by rw [aK,du,ic];lia
     rcases least _ (fun a ha=>by
      rcases ay.mp ha with z|z
      ·exact hq a (tk _ _ _ z)
      ·exact hq a (uY z)) h with e|e
     ·rw [<-e] at vC;lia
     ·rcases e with e|e <;> lia
    have Cq:=hq (q.getD j 0) (by rw [aX,aB hj];exact cQ hj);have uI:L2.atI (q.map bt) (j:Int)=some (.int (q.getD j 0)):=a5k hj;obtain⟨n,hn⟩:∃n:Nat,q.getD j 0=n:=⟨(q.getD j 0).toNat,by lia⟩;have inner:∃Z',Q2 (t5 5) ((c7 (i6 6 (eI (eSl (eI (q9 (a4 3) (a4 2))) oNo (oSo (e2 x9 (e2 x9 (eCl o3 (a5 (a4 2) b8)) (a4 4)) (eC (.int 1))))))) (sIf (tV (eCl m_law_to_one (a5 (a4 0) (a5 (a4 1) (a5 (eI (q9 (eI (q9 (eI (eSl (a4 2) oNo (oSo (a4 4)))) (t8 (a5 (a4 5) b8)))) (a4 6))) b8))))) (i9 (eC (.bool false))) k6))) (v6 0 n) [.list (m.map rwD),.list (b.map .int),.list (q.map .int),.list (r.map .int),.int j,y,z]=some (.nx Z')/\∃y z,Z'=[.list (m.map rwD),.list (b.map .int),.list (q.map .int),.list (r.map .int),.int j,y,z]:=
     v8 (n:=n) (set:=t5 5) (g:=(c7 (i6 6 (eI (eSl (eI (q9 (a4 3) (a4 2))) oNo (oSo (e2 x9 (e2 x9 (eCl o3 (a5 (a4 2) b8)) (a4 4)) (eC (.int 1))))))) (sIf (tV (eCl m_law_to_one (a5 (a4 0) (a5 (a4 1) (a5 (eI (q9 (eI (q9 (eI (eSl (a4 2) oNo (oSo (a4 4)))) (t8 (a5 (a4 5) b8)))) (a4 6))) b8))))) (i9 (eC (.bool false))) k6))) (fun _ Z=>∃y z,Z=[.list (m.map rwD),.list (b.map .int),.list (q.map .int),.list (r.map .int),.int j,y,z]) ⟨y,z,rfl⟩ (by
      rintro a ha Z ⟨y,z,rfl⟩;have hA:i6 6 (eI (eSl (eI (q9 (a4 3) (a4 2))) oNo (oSo (e2 x9 (e2 x9 (eCl o3 (a5 (a4 2) b8)) (a4 4)) (eC (.int 1)))))) [.list (m.map rwD),.list (b.map .int),.list (q.map .int),.list (r.map .int),.int j,.int a,z]=some (.nx [.list (m.map rwD),.list (b.map .int),.list (q.map .int),.list (r.map .int),.int j,.int a,.list (((r ++ q).take (q.length - j - 1)).map .int)]):=by
       walk_at "evt";rw [a0t (by lia),v4,a8Z (by lia) (by simp;lia),v4,show ((q.length:Int) - j - 1).toNat=q.length - j - 1 by lia];walk_at "evt"
      have fD:((r ++ q).take (q.length - j - 1)).length=q.length - j - 1:=by rw [du,aK];lia
      have xP:eI (q9 (eI (q9 (eI (eSl (a4 2) oNo (oSo (a4 4)))) (t8 (a5 (a4 5) b8)))) (a4 6)) [.list (m.map rwD),.list (b.map .int),.list (q.map .int),.list (r.map .int),.int j,.int a,.list (((r ++ q).take (q.length - j - 1)).map .int)]=some (.list ((q.take j ++ [(a:Int)] ++ (r ++ q).take (q.length - j - 1)).map .int)):=by
       walk_at "evt";rw [a8Z (by lia) (by lia),v4,ints1,a0t (by simp;lia),v4,a0t (by simp;lia),v4];rfl
      have qL:∀x∈q.take j ++ [(a:Int)] ++ (r ++ q).take (q.length - j - 1),0<=x/\x < (k:Int):=fun x hx=>by
       rcases ay.mp hx with z|z
       ·rcases ay.mp z with z|z
        ·exact hq x (tk _ _ _ z)
        ·rw [ax.mp z];lia
       ·rcases ay.mp (tk _ _ _ z) with z|z
        ·exact hr x z
        ·exact hq x z
      have h2:(ldS m b (q.take j ++ [(a:Int)] ++ (r ++ q).take (q.length - j - 1))).length≠1:=fun h=>by
       have rh:wl (q.take j ++ [(a:Int)] ++ (r ++ q).take (q.length - j - 1)) q:=by
        have e:q=q.take j ++ (q.getD j 0 :: q.drop (j + 1)):=by
         rw [aX,aB hj,Option.getD_some,List.getElem_cons_drop,sU]
        rw [aP]
        conv=>rhs;rw [e]
        exact a0z _ (.inl (by lia))
       have DU:(q.take j ++ [(a:Int)] ++ (r ++ q).take (q.length - j - 1)).length=q.length:=by rw [aK,aK,fD,du,fx];lia
       rcases least _ qL h with e|e
       ·rw [<-e] at rh;exact a5e q rh
       ·rcases e with e|⟨_,e⟩
        ·lia
        ·exact a5e _ (a3c rh e)
      refine⟨_,[.list (m.map rwD),.list (b.map .int),.list (q.map .int),.list (r.map .int),.int j,.int a,.list (((r ++ q).take (q.length - j - 1)).map .int)],rfl,?_,_,_,rfl⟩;show (c7 (i6 6 (eI (eSl (eI (q9 (a4 3) (a4 2))) oNo (oSo (e2 x9 (e2 x9 (eCl o3 (a5 (a4 2) b8)) (a4 4)) (eC (.int 1))))))) (sIf (tV (eCl m_law_to_one (a5 (a4 0) (a5 (a4 1) (a5 (eI (q9 (eI (q9 (eI (eSl (a4 2) oNo (oSo (a4 4)))) (t8 (a5 (a4 5) b8)))) (a4 6))) b8))))) (i9 (eC (.bool false))) k6)) [.list (m.map rwD),.list (b.map .int),.list (q.map .int),.list (r.map .int),.int j,.int a,z]=_;rw [X6,hA,a7r];show sIf (tV (eCl m_law_to_one (a5 (a4 0) (a5 (a4 1) (a5 (eI (q9 (eI (q9 (eI (eSl (a4 2) oNo (oSo (a4 4)))) (t8 (a5 (a4 5) b8)))) (a4 6))) b8))))) _ _ _=_;have hc:tV (eCl m_law_to_one (a5 (a4 0) (a5 (a4 1) (a5 (eI (q9 (eI (q9 (eI (eSl (a4 2) oNo (oSo (a4 4)))) (t8 (a5 (a4 5) b8)))) (a4 6))) b8)))) [.list (m.map rwD),.list (b.map .int),.list (q.map .int),.list (r.map .int),.int j,.int a,.list (((r ++ q).take (q.length - j - 1)).map .int)]=some false:=by
       have mW:eCl m_law_to_one (a5 (a4 0) (a5 (a4 1) (a5 (eI (q9 (eI (q9 (eI (eSl (a4 2) oNo (oSo (a4 4)))) (t8 (a5 (a4 5) b8)))) (a4 6))) b8))) [.list (m.map rwD),.list (b.map .int),.list (q.map .int),.list (r.map .int),.int j,.int a,.list (((r ++ q).take (q.length - j - 1)).map .int)]=some (.bool false):=by
        rw [a9u (x:=.list (m.map rwD)) (y:=.list (b.map .int)) rfl rfl xP,K4 w hb.inn hl qL,aQ h2]
       rw [b7n,mW];rfl
      rw [b3D hc];rfl)
    obtain⟨Z',g2,y',z',rfl⟩:=inner;refine⟨_,[.list (m.map rwD),.list (b.map .int),.list (q.map .int),.list (r.map .int),.int j,y',z'],rfl,?_,_,_,_,rfl⟩;show (c7 (sIf (tV (eCl m_law_to_one (a5 (a4 0) (a5 (a4 1) (a5 (eI (q9 (eI (eSl (a4 2) oNo (oSo (a4 4)))) (eI (eSl (a4 2) (oSo (e2 n5 (a4 4) (eC (.int 1)))) oNo)))) b8))))) (i9 (eC (.bool false))) k6) (B4 (iR (e2 j7 (a4 2) (a4 4))) (t5 5) (c7 (i6 6 (eI (eSl (eI (q9 (a4 3) (a4 2))) oNo (oSo (e2 x9 (e2 x9 (eCl o3 (a5 (a4 2) b8)) (a4 4)) (eC (.int 1))))))) (sIf (tV (eCl m_law_to_one (a5 (a4 0) (a5 (a4 1) (a5 (eI (q9 (eI (q9 (eI (eSl (a4 2) oNo (oSo (a4 4)))) (t8 (a5 (a4 5) b8)))) (a4 6))) b8))))) (i9 (eC (.bool false))) k6)))) [.list (m.map rwD),.list (b.map .int),.list (q.map .int),.list (r.map .int),.int j,y,z]=_;have hc:tV (eCl m_law_to_one (a5 (a4 0) (a5 (a4 1) (a5 (eI (q9 (eI (eSl (a4 2) oNo (oSo (a4 4)))) (eI (eSl (a4 2) (oSo (e2 n5 (a4 4) (eC (.int 1)))) oNo)))) b8)))) [.list (m.map rwD),.list (b.map .int),.list (q.map .int),.list (r.map .int),.int j,y,z]=some false:=by
     have mW:eCl m_law_to_one (a5 (a4 0) (a5 (a4 1) (a5 (eI (q9 (eI (eSl (a4 2) oNo (oSo (a4 4)))) (eI (eSl (a4 2) (oSo (e2 n5 (a4 4) (eC (.int 1)))) oNo)))) b8))) [.list (m.map rwD),.list (b.map .int),.list (q.map .int),.list (r.map .int),.int j,y,z]=some (.bool false):=by
      rw [a9u (x:=.list (m.map rwD)) (y:=.list (b.map .int)) rfl rfl hE,K4 w hb.inn hl (fun a ha=>by
       rcases ay.mp ha with z|z
       ·exact hq a (tk _ _ _ z)
       ·exact hq a (uY z)),aQ h1]
     rw [b7n,mW];rfl
    rw [X6,b3D hc];walk_at "ev";rw [a2u (n:=n) (by walk_at "ev";rw [uI,hn];rfl) (by lia) (by lia),bw];walk_at "ev";rw [g2])
  exact⟨_,g1,trivial⟩
 ·intro Z _;walk_at "ev"
theorem a3t{b r:List Int}(hb:SetK m b)(hl:b.length < 64)(hG:Gat m k b o)(hr:∀a∈r,0<=a/\a < (k:Int))(pK:∀q,o=some q->q.length<=128)(wR:r.length<=63):m_law_first [.list (m.map rwD),.list (b.map .int),B2 o,.list (r.map .int)]=some (.bool true):=by
 have lW:=w.pos;unfold m_law_first;rw [B5 (by simp [VS.argsOk])];unfold b_law_first;cases o with
 | none=>
  rw [show B2 none=.none from rfl];walk_at "ev";rw [K4 w (q:=r) hb.inn hl hr,aQ fun h=>by obtain⟨q,e,_⟩:=hG.least' w hb hr h;cases e];walk_at "ev"
 | some q=>
  have hq:=hG.ok' w hb rfl;rw [show B2 (some q)=.list (q.map .int) from rfl];walk_at "ev";rw [a6u (by decide) (by lia)];walk_at "ev";rw [w.row (by decide) (by lia),a1H hq.1];walk_at "ev";rw [K4 w hb.inn hl hq.1,aL hq.2];walk_at "ev";rw [a3s w hb hl hG hr (pK q rfl) wR];walk_at "ev"
theorem a3u(jS:∀p,PrOk m p->fj m k (d + 1) p=fj m k d p){r:List Int}(hr:∀a∈r,0<=a/\a < (k:Int))(wR:r.length<=63):m_law_pairs_apart [.list (m.map rwD),.list ((lft m k d).map prD),.list (r.map .int)]=some (.bool true):=by
 unfold m_law_pairs_apart;rw [B5 (by simp [VS.argsOk])];unfold b_law_pairs_apart;walk_at "ev";rw [a0r (ds:=(lft m k d).map prD) (by walk_at "ev") (l5 _ a0f _)];walk_at "ev";refine z0 (fun Z=>True) ?_ ?_
 ·obtain⟨Z',g1,x,y,rfl⟩:=I9 (enc:=prD) (set:=t5 3) (xs:=lft m k d) (g:=(c7 (sIf (O1 (tNo (tV (e1 (fun d=>some (.bool (M8 d))) (a4 3)))) (tB (e2 dNe (eCl o3 (a5 (a4 3) b8)) (eC (.int 2))))) (i9 (eC (.bool false))) k6) (c7 (sIf (O1 (tNo (tV (eCl m_law_whole (a5 (e2 j7 (a4 3) (eC (.int 0))) b8)))) (O1 (tNo (tV (eCl m_law_whole (a5 (e2 j7 (a4 3) (eC (.int 1))) b8)))) (tNo (tB (b0k dLe dLt dLt (eC (.int 0)) (e2 j7 (a4 3) (eC (.int 0))) (e2 j7 (a4 3) (eC (.int 1))) (eCl o3 (a5 (a4 0) b8))))))) (i9 (eC (.bool false))) k6) (B4 (iR (e2 n5 (eCl o3 (a5 (a4 2) b8)) (eC (.int 1)))) (t5 4) (sIf (tB (e2 dEq (eCl m_law_end (a5 (a4 0) (a5 (e2 j7 (a4 3) (eC (.int 0))) (a5 (eI (eSl (a4 2) oNo (oSo (a4 4)))) b8)))) (eCl m_law_end (a5 (a4 0) (a5 (e2 j7 (a4 3) (eC (.int 1))) (a5 (eI (eSl (a4 2) oNo (oSo (a4 4)))) b8)))))) (i9 (eC (.bool false))) k6))))) (Z:=[.list (m.map rwD),.list ((lft m k d).map prD),.list (r.map .int),.none,.none])
   (fun _ Z=>∃x y,Z=[.list (m.map rwD),.list ((lft m k d).map prD),.list (r.map .int),x,y]) ⟨_,_,rfl⟩ (by
    rintro pre p post e Z ⟨x,y,rfl⟩;have hp:p∈lft m k d:=by rw [e];simp
    have hm:=K1.mp (G0.mp hp).1;have inner:∃Z',Q2 (t5 4) ((sIf (tB (e2 dEq (eCl m_law_end (a5 (a4 0) (a5 (e2 j7 (a4 3) (eC (.int 0))) (a5 (eI (eSl (a4 2) oNo (oSo (a4 4)))) b8)))) (eCl m_law_end (a5 (a4 0) (a5 (e2 j7 (a4 3) (eC (.int 1))) (a5 (eI (eSl (a4 2) oNo (oSo (a4 4)))) b8)))))) (i9 (eC (.bool false))) k6)) (v6 0 (r.length + 1)) [.list (m.map rwD),.list ((lft m k d).map prD),.list (r.map .int),prD p,y]=some (.nx Z')/\∃y,Z'=[.list (m.map rwD),.list ((lft m k d).map prD),.list (r.map .int),prD p,y]:=
     v8 (n:=r.length + 1) (set:=t5 4) (g:=(sIf (tB (e2 dEq (eCl m_law_end (a5 (a4 0) (a5 (e2 j7 (a4 3) (eC (.int 0))) (a5 (eI (eSl (a4 2) oNo (oSo (a4 4)))) b8)))) (eCl m_law_end (a5 (a4 0) (a5 (e2 j7 (a4 3) (eC (.int 1))) (a5 (eI (eSl (a4 2) oNo (oSo (a4 4)))) b8)))))) (i9 (eC (.bool false))) k6)) (fun _ Z=>∃y,Z=[.list (m.map rwD),.list ((lft m k d).map prD),.list (r.map .int),prD p,y]) ⟨y,rfl⟩ (by
      rintro j hj Z ⟨y,rfl⟩;have sC:∀a∈r.take j,0<=a/\a < (k:Int):=fun a ha=>hr a (ix ha)
      have hE:eI (eSl (a4 2) oNo (oSo (a4 4))) [.list (m.map rwD),.list ((lft m k d).map prD),.list (r.map .int),prD p,.int j]=some (.list ((r.take j).map .int)):=by
       walk_at "evt";rw [a8Z (by lia) (by lia),v4,bw]
      refine⟨_,[.list (m.map rwD),.list ((lft m k d).map prD),.list (r.map .int),prD p,.int j],rfl,?_,_,rfl⟩;show sIf (tB (e2 dEq (eCl m_law_end (a5 (a4 0) (a5 (e2 j7 (a4 3) (eC (.int 0))) (a5 (eI (eSl (a4 2) oNo (oSo (a4 4)))) b8)))) (eCl m_law_end (a5 (a4 0) (a5 (e2 j7 (a4 3) (eC (.int 1))) (a5 (eI (eSl (a4 2) oNo (oSo (a4 4)))) b8)))))) _ _ [.list (m.map rwD),.list ((lft m k d).map prD),.list (r.map .int),prD p,.int j]=_;have hc:tB (e2 dEq (eCl m_law_end (a5 (a4 0) (a5 (e2 j7 (a4 3) (eC (.int 0))) (a5 (eI (eSl (a4 2) oNo (oSo (a4 4)))) b8)))) (eCl m_law_end (a5 (a4 0) (a5 (e2 j7 (a4 3) (eC (.int 1))) (a5 (eI (eSl (a4 2) oNo (oSo (a4 4)))) b8))))) [.list (m.map rwD),.list ((lft m k d).map prD),.list (r.map .int),prD p,.int j]=some false:=by
       have vI:=a9u (m:=m_law_end) (Z:=[.list (m.map rwD),.list ((lft m k d).map prD),.list (r.map .int),prD p,.int j]) (a:=a4 0) (b:=e2 j7 (a4 3) (eC (.int 0))) (x:=.list (m.map rwD)) (y:=.int p.1) rfl rfl hE;have uH:=a9u (m:=m_law_end) (Z:=[.list (m.map rwD),.list ((lft m k d).map prD),.list (r.map .int),prD p,.int j]) (a:=a4 0) (b:=e2 j7 (a4 3) (eC (.int 1))) (x:=.list (m.map rwD)) (y:=.int p.2) rfl rfl hE;rw [a8m w hm.1 (by lia) sC] at vI;rw [a8m w (by lia) hm.2.2 sC] at uH;rw [b9y,v_2,vI,uH];walk_at "ev";rw [aQ (U9 w jS hp sC)]
      rw [b3D hc];rfl)
    obtain⟨Z',g2,y',rfl⟩:=inner;refine⟨_,[.list (m.map rwD),.list ((lft m k d).map prD),.list (r.map .int),prD p,y'],rfl,?_,_,_,rfl⟩;show (c7 (sIf (O1 (tNo (tV (e1 (fun d=>some (.bool (M8 d))) (a4 3)))) (tB (e2 dNe (eCl o3 (a5 (a4 3) b8)) (eC (.int 2))))) (i9 (eC (.bool false))) k6) (c7 (sIf (O1 (tNo (tV (eCl m_law_whole (a5 (e2 j7 (a4 3) (eC (.int 0))) b8)))) (O1 (tNo (tV (eCl m_law_whole (a5 (e2 j7 (a4 3) (eC (.int 1))) b8)))) (tNo (tB (b0k dLe dLt dLt (eC (.int 0)) (e2 j7 (a4 3) (eC (.int 0))) (e2 j7 (a4 3) (eC (.int 1))) (eCl o3 (a5 (a4 0) b8))))))) (i9 (eC (.bool false))) k6) (B4 (iR (e2 n5 (eCl o3 (a5 (a4 2) b8)) (eC (.int 1)))) (t5 4) (sIf (tB (e2 dEq (eCl m_law_end (a5 (a4 0) (a5 (e2 j7 (a4 3) (eC (.int 0))) (a5 (eI (eSl (a4 2) oNo (oSo (a4 4)))) b8)))) (eCl m_law_end (a5 (a4 0) (a5 (e2 j7 (a4 3) (eC (.int 1))) (a5 (eI (eSl (a4 2) oNo (oSo (a4 4)))) b8)))))) (i9 (eC (.bool false))) k6)))) [.list (m.map rwD),.list ((lft m k d).map prD),.list (r.map .int),prD p,y]=_;walk_at "ev";rw [b3s];walk_at "ev";rw [b8A];walk_at "ev";rw [c0E];walk_at "ev";rw [a3r];walk_at "ev";rw [c0F];walk_at "ev";rw [a3r];walk_at "ev";rw [b8B (x:=.int 0) (y:=.int p.1) (z:=.int p.2) (u:=.int m.length) (d:=.bool true) rfl rfl rfl (by walk_at "ev") (by rw [b9G,aL hm.1]) (by rw [v_lt,aL hm.2.1]) (by rw [v_lt,aL hm.2.2])];walk_at "ev";rw [a2u (n:=(r.length + 1:Nat)) (by walk_at "ev";rfl) (by lia) (by lia),bw];walk_at "ev";rw [g2])
  exact⟨_,g1,trivial⟩
 ·intro Z _;walk_at "ev"
theorem b5v(hc:0<=c):∃s,m_law_set [.int c,.int m.length]=some (.list (s.map .int))/\SetK m s:=by
 have lW:=w.pos;have hle:=w.le;unfold m_law_set;rw [B5 (by simp [VS.argsOk,imm])];unfold b_law_set;walk_at "ev";rw [a2u (n:=m.length) (by walk_at "ev") (by lia) (by lia),bw];walk_at "ev";refine L7 (R:=fun o=>∃s,o=some (.list (s.map .int))/\SetK m s) (fun Z=>∃(c:Int) (s:List Int) (x:D),In m s/\Z=[.int c,.int m.length,.list (s.map .int),x]) ?_ ?_
 ·obtain⟨Z',g1,c',s,x,rL,hI,fL,mJ,rfl⟩:=v8 (n:=m.length) (set:=t5 3) (g:=(c7 (sIf (tB (e2 dEq (e2 n4 (a4 0) (eC (.int 2))) (eC (.int 1)))) (J8 2 (.l .i) u8 (a4 3)) k6) (i6 0 (e2 C2 (a4 0) (eC (.int 2)))))) (Z:=[.int c,.int m.length,.list [],.none])
   (fun j Z=>∃(c:Int) (s:List Int) (x:D),0<=c/\Inc s/\(∀t∈s,0<=t/\t < (j:Int))/\s.length<=j/\Z=[.int c,.int m.length,.list (s.map .int),x]) ⟨c,[],_,hc,gU,fun t ht=>(nomatch ht),aF _,rfl⟩ (by
    rintro j hj Z ⟨c,s,x,hc,hI,fL,mJ,rfl⟩;by_cases h:c % 2=1
    ·refine⟨_,[.int (c / 2),.int m.length,.list ((s ++ [(j:Int)]).map .int),.int j],rfl,?_,c / 2,s ++ [(j:Int)],_,by lia,?_,?_,by rw [aK];simp;lia,rfl⟩
     ·walk_at "ev";rw [aL h];walk_at "ev";rw [Z4 (by rw [ar];lia),bb];walk_at "ev"
     ·refine ez.mpr ⟨hI,eM _ _,fun a ha b hb=>?_⟩;rw [ax.mp hb];exact (fL a ha).2
     ·intro t ht;rcases ay.mp ht with z|z
      ·have:=fL t z;lia
      ·rw [ax.mp z];lia
    ·refine⟨_,[.int (c / 2),.int m.length,.list (s.map .int),.int j],rfl,?_,c / 2,s,_,by lia,hI,fun t ht=>by have:=fL t ht;lia,by lia,rfl⟩;walk_at "ev";rw [aQ h];walk_at "ev")
  exact⟨_,g1,c',s,x,⟨hI,fL⟩,rfl⟩
 ·rintro Z ⟨c,s,x,hI,rfl⟩;cases s with
  | nil=>
   refine⟨[(m.length:Int) - 1],?_,eM _ _,by simp,fun t ht=>by rw [ax.mp ht];lia⟩;walk_at "ev";rw [show dEq (.list []) (.list [])=some (.bool true) from rfl];walk_at "ev"
  | cons s0 s=>
   refine⟨s0 :: s,?_,hI.1,by simp,hI.2⟩;walk_at "ev";rw [show dEq (.list (.int s0 :: s.map .int)) (.list [])=some (.bool (decide ((s0 :: s)=[]))) from b2R (xs:=s0 :: s) (ys:=[]),aQ (by simp)];walk_at "ev"
end
end Prog
local macro_rules | `(tactic| walk_at "evx")=>`(tactic| first | (walk_at "ev";repeat (simp -implicitDefEqProofs (disch:=first | omega | assumption | decide) only [VS.Q4,VS.Q5,VS.M4];try walk_at "ev")) | (simp -implicitDefEqProofs (disch:=first | omega | assumption | decide) only [VS.Q4,VS.Q5,VS.M4];repeat (first | walk_at "ev" | simp -implicitDefEqProofs (disch:=first | omega | assumption | decide) only [VS.Q4,VS.Q5,VS.M4])))
local macro_rules | `(tactic| walk_at "evt")=>`(tactic| first | (walk_at "ev";repeat (simp -implicitDefEqProofs (disch:=first | omega | assumption | decide) only [VS.Q4,VS.Q5,VS.b0F,VS.a4k,VS.a4l,VS.b0G];try walk_at "ev")) | (simp -implicitDefEqProofs (disch:=first | omega | assumption | decide) only [VS.Q4,VS.Q5,VS.b0F,VS.a4k,VS.a4l,VS.b0G];repeat (first | walk_at "ev" | simp -implicitDefEqProofs (disch:=first | omega | assumption | decide) only [VS.Q4,VS.Q5,VS.b0F,VS.a4k,VS.a4l,VS.b0G])))
namespace VS
open PySem L2
theorem b8I(L:List (Int × Int)):dNe (.list (L.map prD)) (.list [])=some (.bool (!L.isEmpty)):=by
 have hl:(dy (L.map prD)).canLay0=true:=by
  simp only [cS];exact a0s _ b8z L
 have hd:(dy (L.map prD)).depth<=60:=by
  simp only [dI];have:=K3 prD 1 b3r L;lia
 rw [b5L hl rfl hd];cases L with
 | nil=>rfl
 | cons x L=>simp [aI,cq]
theorem b3E(P:List Int)(h:Option Int):∃i,lSl (some (.list (P.map .int))) (some none) (some h)=some (.list ((P.take i).map .int)):=by
 obtain⟨j,e⟩:=b5q (ds:=P.map bt) (h:=h);exact⟨j,by rw [b2T,e,List.map_take]⟩
end VS
namespace Prog
open PySem L2 VS
theorem law_true(ns:List Int)(nr:ns.length<=63):m_law [.list (ns.map .int)]=some (.bool true):=by
 obtain⟨m,k,hm,w,_⟩:=a8j ns 7 14 (by decide) (by decide) (by decide) (by decide);have sH:m_law_machine [.list (ns.map .int),.int 7,.int 14]=some (.list (m.map rwD)):=hm;have lW:=w.pos;have hle:=w.le;have DW:=w.k1;have yZ:=w.k5;obtain⟨d,W,yI,yH,jS,hd⟩:=a1j w;have jU:d<=435:=cI hd (a8l w);have xI:=a6U w yI yH jU;have Bs:=b3C w yI yH;obtain⟨xs,tP,wA,Av⟩:=a3q ns ns.length (by lia);obtain⟨c4,Ci⟩:=a0g ns 4 (by decide);obtain⟨c5,uG⟩:=a0g ns 5 (by decide);have has:∀r,byP m (fj m k d) m.length ((aJ m.length).map fun (s:Nat)=>(s:Int)) []=some r->∀a∈r,0<=a/\a < (k:Int):=fun r h=>a3n (fun p q e=>X1 e) m.length _ [] r (fun a ha=>(nomatch ha)) h
 have pM:=fun r=>b0S (r:=r) w jS
 have kr:lft m k d=[]->∃r,byP m (fj m k d) m.length ((aJ m.length).map fun (s:Nat)=>(s:Int)) []=some r:=fun h=>a9q w (fun p hp fL=>by
  cases e:fj m k d p with
  | some q=>exact⟨q,rfl,X1 e⟩
  | none=>
   have:p∈lft m k d:=G0.mpr ⟨K1.mpr ⟨hp.h0,fL,hp.h2⟩,e⟩;rw [h] at this;cases this) _ _ _ (a5m m)
 revert xI has pM kr;generalize byP m (fj m k d) m.length ((aJ m.length).map fun (s:Nat)=>(s:Int)) []=T;intro xI has pM kr;have hT:(lft m k d).isEmpty=T.isSome:=by
  cases T with
  | none=>
   cases e:lft m k d with
   | nil=>obtain⟨r,hr⟩:=kr e;cases hr
   | cons _ _=>rfl
  | some r=>rw [(pM r rfl).1];rfl
 unfold m_law;rw [B5 (by simp [VS.argsOk])];unfold b_law;walk_at "evx";rw [sH];walk_at "evx";rw [show a1S false [.int (ns.length:Int),.int 63]=some (.int (ns.length:Int)) by
  show some (bt (if (63:Int) < ns.length then 63 else (ns.length:Int)))=_;rw [aO (by lia)]]
 walk_at "evx";rw [tP];walk_at "evx";have qI:(t9 (iR (eCl o3 (a5 (a4 3) b8))) [1,3] pt1 tT (e2 n4 (e2 n4 (e2 n5 (e2 A3 (e2 A5 (a4 2) (a4 0)) (eC (.int 16807))) (e2 A3 (e2 A3 (a4 0) (a4 0)) (eC (.int 48271)))) (eC (.int 1000003))) (eCl o3 (a5 (e2 A5 (a4 1) (eC (.int 0))) b8)))) [.list (ns.map .int),.list (m.map rwD),.int m.length,.list (xs.map .int),.none,.none,.none,.none,.none,.none,.none,.none]=some (.list (((aJ ns.length).map fun (j:Nat)=>(xs.getD j 0 * 16807 + (j:Int) * j * 48271) % 1000003 % (k:Int)).map .int)):=by
  rw [a8Y (n:=ns.length) (fun (j:Nat)=>.int ((xs.getD j 0 * 16807 + (j:Int) * j * 48271) % 1000003 % (k:Int))) (by walk_at "evx";rw [wA]) (by lia) (by lia) (fun j hj=>?_),bw,cP]
  ·rfl
  ·walk_at "evx";rw [show L2.atI (m.map rwD) 0=some (rwD (rowAt m 0)) from a6u (by decide) (by lia)];walk_at "evx";rw [w.row (by decide) (by lia),v_mod (by lia)];rfl
 rw [qI];obtain⟨P0,zm,Cy,xM⟩:∃P:List Int,((aJ ns.length).map fun (j:Nat)=>(xs.getD j 0 * 16807 + (j:Int) * j * 48271) % 1000003 % (k:Int))=P/\P.length<=63/\∀a∈P,0<=a/\a < (k:Int):=⟨_,rfl,by rw [ar,bJ];exact nr,fun a ha=>by
  obtain⟨j,_,rfl⟩:=aG.mp ha;exact⟨dM _ (by lia),eY _ (by lia)⟩⟩
 rw [zm];clear qI zm;walk_at "evx";have mJ:∃p:List Int,lIs (eSl (a4 4) oNo (oSo (e2 x9 (eCl o3 (a5 (a4 4) b8)) (e2 A3 (e2 n4 (eCl m_law_cell_at (a5 (a4 0) (a5 (eC (.int 4)) b8))) (eC (.int 3))) (eC (.int 20))))) [.list (ns.map .int),.list (m.map rwD),.int m.length,.list (xs.map .int),.list (P0.map .int),.none,.none,.none,.none,.none,.none,.none])=some (.list (p.map .int))/\p.length<=63/\∀a∈p,0<=a/\a < (k:Int):=by
  obtain⟨i,hi⟩:=b3E P0 (some ((P0.length:Int) - c4 % 3 * 20));refine⟨P0.take i,?_,by rw [du];lia,fun a ha=>xM a (ix ha)⟩;walk_at "evt";rw [Ci];walk_at "evt";rw [hi,v4]
 obtain⟨p,hp,fD,wW⟩:=mJ;rw [hp];walk_at "evx";rw [b8i (m:=m) (by walk_at "evx") (by lia)];walk_at "evx";rw [Bs];walk_at "evx";rw [xI];walk_at "evx";rw [neM];walk_at "evx";obtain⟨i12,xp⟩:=b3E p (some 12);have vL:=a3u w jS (r:=p.take i12) (fun a ha=>wW a (ix ha)) (by rw [du];lia);refine z0 (fun Z=>Z=[.list (ns.map .int),.list (m.map rwD),.int m.length,.list (xs.map .int),.list (p.map .int),.list (m.map rwD),.list ((lft m k d).map prD),B2 T,.none,.none,.none,.none]) ⟨_,?_,rfl⟩ ?_
 ·walk_at "evt";rw [xp,v4];walk_at "evt";rw [vL];walk_at "evt";rw [b8I,hT,a3o];cases T <;> rfl
 rintro Z rfl;walk_at "evx";rw [a9l (n:=m.length) (by walk_at "evx") (by lia)];walk_at "evx";have wQ:L2.atI (m.map rwD) 0=some (rwD (rowAt m 0)):=a6u (by decide) (by lia);have Be:(rowAt m 0).length=k:=w.row (by decide) (by lia);have hIn:=a5m m;have pS:=a9t w;have vJ:((aJ m.length).map fun (s:Nat)=>(s:Int)).length < 64:=by rw [ar,bJ];lia
 have rC:∀r,T=some r->(ldS m ((aJ m.length).map fun (s:Nat)=>(s:Int)) r).length=1:=fun r h=>(a2d pS.2.1).mpr (pM r h).2
 refine z0 (fun Z=>Z=[.list (ns.map .int),.list (m.map rwD),.int m.length,.list (xs.map .int),.list (p.map .int),.list (m.map rwD),.list ((lft m k d).map prD),B2 T,.list (((aJ m.length).map fun (s:Nat)=>(s:Int)).map .int),.none,.none,.none]) ⟨_,?_,rfl⟩ ?_
 ·cases T with
  | none=>rfl
  | some r=>
   rw [show B2 (some r)=.list (r.map .int) from rfl];walk_at "evx";rw [wQ];walk_at "evx";rw [Be,a1H (has r rfl)];walk_at "evx"
 rintro Z rfl;walk_at "evx";refine z0 (fun Z=>Z=[.list (ns.map .int),.list (m.map rwD),.int m.length,.list (xs.map .int),.list (p.map .int),.list (m.map rwD),.list ((lft m k d).map prD),B2 T,.list (((aJ m.length).map fun (s:Nat)=>(s:Int)).map .int),.none,.none,.none]) ⟨_,?_,rfl⟩ ?_
 ·cases T with
  | none=>rfl
  | some r=>
   rw [show B2 (some r)=.list (r.map .int) from rfl];walk_at "evx";rw [K4 w hIn vJ (has r rfl),aL (rC r rfl)];walk_at "evx"
 rintro Z rfl;walk_at "evx";by_cases h7:7 < m.length
 ·rw [aL (show (7:Int) < m.length by lia)];walk_at "evx";rw [a6V w h7];walk_at "evx"
 rw [aQ (show ¬ (7:Int) < m.length by lia)];walk_at "evx";obtain⟨o,ho,hG,vy⟩:=b8H w (by lia);rw [ho];walk_at "evx";have yS:o.isNone=T.isNone:=by
  cases T with
  | some r=>
   obtain⟨q,e,_⟩:=hG.least' w pS (has r rfl) (rC r rfl);rw [e];rfl
  | none=>
   cases o with
   | none=>rfl
   | some q=>
    have hq:=hG.ok' w pS rfl;have hl:lft m k d≠[]:=fun z=>by rw [z] at hT;cases hT
    obtain⟨pp,l,e⟩:=iX hl;have hp:pp∈lft m k d:=by rw [e];exact ah
    have yT:=K1.mp (G0.mp hp).1;exact absurd ((a2d pS.2.1).mp hq.2 pp.1 (aG.mpr ⟨pp.1.toNat,bo.mpr (by lia),by lia⟩) pp.2 (aG.mpr ⟨pp.2.toNat,bo.mpr (by lia),by lia⟩)) (U9 w jS hp hq.1)
 refine z0 (fun Z=>Z=[.list (ns.map .int),.list (m.map rwD),.int m.length,.list (xs.map .int),.list (p.map .int),.list (m.map rwD),.list ((lft m k d).map prD),B2 T,.list (((aJ m.length).map fun (s:Nat)=>(s:Int)).map .int),B2 o,.none,.none]) ⟨_,?_,rfl⟩ ?_
 ·rw [a3o,a3o,yS];rw [show dNe (.bool (false != T.isNone)) (.bool (false != T.isNone))=some (.bool false) by rw [c0t];cases T.isNone <;> rfl];walk_at "evx";rw [a3t w pS vJ hG wW vy fD];walk_at "evx"
 rintro Z rfl;walk_at "evx";rw [uG];walk_at "evx";obtain⟨s,hs,pI⟩:=b5v w (dM (c5 * 48271) (show (1000000007:Int)≠0 by decide));rw [hs];walk_at "evx";obtain⟨o',kO,zq,rD⟩:=a1I w (by lia) pI;have mJ:s.length < 64:=by have:=SetK.len pI;lia
 rw [v4];walk_at "evx";rw [kO];walk_at "evx";rw [a3t w pI mJ zq wW rD fD];walk_at "evx";refine z0 (fun Z=>Z=[.list (ns.map .int),.list (m.map rwD),.int m.length,.list (xs.map .int),.list (p.map .int),.list (m.map rwD),.list ((lft m k d).map prD),B2 T,.list (((aJ m.length).map fun (s:Nat)=>(s:Int)).map .int),B2 o,.list (s.map .int),B2 o']) ⟨_,?_,rfl⟩ ?_
 ·cases o with
  | none=>rfl
  | some q=>
   have hq:=hG.ok' w pS rfl;have iA:(ldS m s q).length=1:=(a2d pI.2.1).mpr fun a ha b hb=>(a2d pS.2.1).mp hq.2 a (aG.mpr ⟨a.toNat,bo.mpr (by have:=pI.2.2 a ha;lia),by have:=pI.2.2 a ha;lia⟩) b (aG.mpr ⟨b.toNat,bo.mpr (by have:=pI.2.2 b hb;lia),by have:=pI.2.2 b hb;lia⟩)
   obtain⟨q',e',xl⟩:=zq.least' w pI hq.1 iA;cases T with
   | none=>cases yS
   | some r=>
    obtain⟨q2,e2,xj⟩:=hG.least' w pS (has r rfl) (rC r rfl);cases e2
    rw [e',show B2 (some q)=.list (q.map .int) from rfl,show B2 (some q')=.list (q'.map .int) from rfl,show B2 (some r)=.list (r.map .int) from rfl];walk_at "evx";rw [b5V xl];walk_at "evx";rw [b5V xj];walk_at "evx"
 rintro Z rfl;walk_at "evx";obtain⟨o2,uc,CG,_⟩:=a1I w (by lia) pS;rw [uc,CG.ext hG];walk_at "evx";have heq:dEq (B2 o) (B2 o)=some (.bool true):=by
  cases o with
  | none=>rfl
  | some q=>exact (b2R (xs:=q) (ys:=q)).trans (by rw [aL rfl])
 rw [heq];walk_at "evx";rw [c0q (a6v m) (a2M m)];rfl
end Prog
namespace Prog
open PySem L2 VS
theorem b8J{l:W.OpenLaw}{w:bE}{K:W.Frag}{mg:bc->Option ai}{fa:av}(uw:mg "law"=some (.ref fa))(b:Bn K mg)(jJ:(x8 K "joins_by_pair").isSome=true)(jg:(x8 K "first_gathering").isSome=true)
  : ∃fd:cV,(∀(s:ak) (v:ai),mG s fd ⟨[v],[]⟩ [("_law_script",v)])/\∀base:bL,K.In base->base.Ns aV mg->FnOk l.prog w K mg base CX0 9 fa fd ["_law_script"] (spD K 1 m_law .i):=b7U uw b.d36 fun base KB GB fd F=>by
 have B:Bk l.prog w K mg base:=⟨b⟩;have dS:=ok_law_cell_at B;have eK:=ok_law_cells B dS.u;have kB:=ok_law_to B;have ia:=ok_law_machine B eK.u kB.u;have jO:=a7Y B;have kh:=a0Z B jO.u;have eS:=a0u B;have fP:=Z6 B eS.u;have gc:=a6y B;have dO:=a1a B fP.u gc.u kh.u jJ KB GB;have lJ:=b2X B gc.u dO.u;have dP:=a3E B;have kA:=b0H B;have lA:=b8j B kA.u;have jr:=a6B B dO.u dP.u lA.u;have c_:=X3 B;have cJ:=Z8 B;have jQ:=a7Z B;have kR:=a2R B lA.u jQ.u;have iQ:=a5b B;have cK:=Z9 B iQ.u kR.u jg KB GB;have gO:=a5c B dP.u cJ.u cK.u c_.u;have f_:=a6C B dP.u cJ.u cK.u c_.u;have jP:=ok_law_set B;have gA:=a1b B;have jo:=a6D B;have jq:=a6E B jo.u;have kC:=b0I B gA.u jq.u;have jn:=a6H B kC.u;have gi:=a2Z B cJ.u cK.u jn.u c_.u;have gN:=ok_law_too_much B f_.u gO.u;have gd:=ok_law_end B;have cO:=ok_law_to_one B gd.u;have fO:=ok_law_none_before B cO.u;have eJ:=ok_law_whole B;have d_:=ok_law_probe_of B eJ.u;have g_:=ok_law_first B cO.u fO.u d_.u;have fN:=ok_law_pairs_apart B gd.u eJ.u;exact ok_law B dS.u eK.u ia.u lJ.u jr.u f_.u jP.u gi.u gN.u cO.u d_.u g_.u fN.u gO.u F
end Prog
namespace PySem.W.Fast
def tw5065980137308193599:=0
def tw827763089700477326:=0
def tw14665320477229230985:=0
def tw11884486037817990109:=0
def tw4620231206054675575:=0
def tw146179648849270553:=0
def tw12189259697846167259:=0
def tw5762759527474411211:=0
def tw17580306797877832514:=0
def tw17996854791292893824:=0
def tw10559473643732788389:=0
def tw15703275485047766135:=0
def tw1465276649894844670:=0
def tw14744098618030928405:=0
def tw4983094056047892853:=0
def tw10285560757840507034:=0
def tw14778377188643880342:=0
def tw1132872231277810312:=0
def tw16935205313027500606:=0
def tw7595663926852215283:=0
def tw10178967412689322024:=0
def tw15910850648000749630:=0
def tw15987101998346696399:=0
def tw15246987708071411425:=0
def tw8269434767437305922:=0
def tw13400364713834917315:=0
def tw8751997927981846944:=0
def tw16877208553939879332:=0
def tw17322640245965806339:=0
def tw5781241529264069988:=0
def tw14945181752267491091:=0
def tw8383491457552542507:=0
def tw1732987280725489673:=0
def tw3854448713649659391:=0
def tw3812866680755817052:=0
def tw4693145442449721846:=0
def tw16531565369190626186:=0
def tw3720431406577857036:=0
def tw5059769461748652048:=0
def tw8488423050076121002:=0
def tw2230840455796540586:=0
def tw2877118258928521874:=0
def tw6787764768508012971:=0
def tw3166870614420043641:=0
def tw12305853913002602289:=0
def tw5011477586125210942:=0
def tw13571640761671727855:=0
def tw4987111570288991152:=0
def tw1823903031560525765:=0
def tw8919438954104419157:=0
def tw3665791123838059885:=0
def tw5072119509322887148:=0
def tw1327530705526823168:=0
def tw16323191437748454459:=0
def tw4580831918568732748:=0
def tw4933348488240676022:=0
def tw9686011270232931033:=0
def tw8906508944661816479:=0
def tw798934826832323987:=0
def tw16656614930009857064:=0
def tw5378333318038067204:=0
def tw10529316215923953955:=0
def tw6063358733393949988:=0
def tw2813001888516365758:=0
def tw13909048028334792207:=0
def tw5800964734133625092:=0
def tw2132580765435728736:=0
def tw10869473722375758666:=0
def tw13521992046704077832:=0
def tw6947495570287787867:=0
def tw12075327828027783736:=0
def tw17271118179917099605:=0
def tw16071401412012598111:=0
def tw12457137779480048563:=0
def tw13585299911401062219:=0
def tw8952413428603036760:=0
def tw12846839438222456145:=0
def tw377820821475252010:=0
def tw10120214816714630309:=0
def tw5534655928544068917:=0
def tw13739422762364380993:=0
def tw7077393050831836585:=0
def tw12731004807501306794:=0
def tw5767569981791117726:=0
def tw11533533960246788484:=0
def tw5550360470638335562:=0
def tw9854365218203196551:=0
def tw1548700833827714857:=0
def tw3242311667436637099:=0
def tw5281957267505413121:=0
def tw1294155374594139845:=0
def tw7942655300073235114:=0
def tw13013157543331564397:=0
def tw3951046957529869467:=0
def tw4149848896678300083:=0
def tw898857692787146152:=0
def tw2913506996425507640:=0
def tw3648231422158303147:=0
def tw14972289209277725066:=0
end PySem.W.Fast
open PySem PySem.W PyProof.Rows
set_option maxRecDepth 100000 in
set_option maxHeartbeats 0 in
theorem PySem.Challenge.cw_probewell_k37_whole_gathering_holds : PySem.Challenge.rw_probewell_k37_whole_gathering.Holds := by
 w_on;o_law;k_head;(case hw=>w_witness2)
 k_fill
 refine VS.a9T (k:=9) (x:="_law_script") (m:=Prog.m_law) (l:=PySem.Challenge.rw_probewell_k37_whole_gathering) rfl rfl ⟨rfl,by decide,by decide⟩ (fun w h Y=>by first|exact PySem.W.kIn_of Y|exact PySem.W.km_in_of Y) (fun w=>by kernel_rfl) ?F Prog.law_true
 case F=>
  intro w mg fa h KX G hmg
  refine' Prog.b8J hmg ?b ?_ ?_
  case b=>
   constructor
   iterate 37 (refine' VS.c0c KX G ?a ?l ?c ?k;(case a=>k_is);(case l=>k_is);(case c=>k_is);(case k=>k_is))
   iterate 13 (refine' PySem.W.mg_none_of KX G ?_;k_is)
   iterate 1 (refine' VS.c1v KX G ?a;(case a=>k_is))
   iterate 1 (refine' VS.c1w ?a ?b;(case a=>k_is);(case b=>kernel_rfl))
   (refine' VS.c1x ?a ?b;(case a=>k_is);(case b=>kernel_rfl))
   (refine' VS.c1y KX G ?a ?b ?c;(case a=>k_is);(case b=>kernel_rfl);(case c=>kernel_rfl))
  kernel_rfl
  kernel_rfl
