import PyProof.Rows.All
import Wide.All
import OpenK.AllK
import Wide.FinOn
import Lean
import PyProof.EqAt
import PyProof.EqKinds
import PyProof.TupleCall
import KE.KLam
import PyProof.WalksEnum
import PyProof.EnumMake
import PyProof.Rows.SortWalk
import PyProof.Rows.SetFrom
import PyProof.SetRoads
import PyProof.DictTable
import PyProof.ListRange
import PyProof.DictWalks
import PyProof.DictUpdate
import KE.KSortTup
import KE.KDictSum
import KE.KSortKey
import KE.KDictOf
import PySem.Challenge.RW_probewell_k27_whole_home_foretells
set_option Elab.async false
set_option linter.all false
set_option maxRecDepth 100000
open PySem renaming wpAny_bind→ab,Value→aj,wpAny_pure→ak,Shared→au,Addr→az,starEach→aF,wpAny→aQ,sizeLine→aT,model→bc,PyData→br,Program→bB,Str→bM,compareOp→bR,Around→bT,World→bU,Heap→cm,wpAny_call_entry→cq,mainGlobals→cC,wpAny_callSpecial?_slot→cI,wpAny_holding→cM,eval→cO,backTo→cP,sizeLine_eq→cV,wpAny_setState_of→de,cLine→dq,attributeBase→du,wpAny_newObj_type→dw,FuncData→dC,wpAny_mono→dG,mem_of_lookup→dJ,wpAny_truthy_bool→dP,swapsWith→dQ,foldedSetIterable→dR,sysModules→dU,Keyword→ei,SetTable→eH,Pos→eM,rawInt→eN,codeAny_builtin→eP,Obj→eW,wpAny_setField→ff,binaryOp→fg,wpAny_typeNameOfWhole_keyiter→fx,keywordEach→fy,wpAny_passesOwn→fI,DictEntry→fR,Paired→fS,wpAny_dictEntries→fV,intKind→gf,bootBuiltins→gh,wpAny_setEntries_of→gm,wpAny_typeNameOf_keyiter→gu,Scope→gA,wpAny_specialOf→gF,pyNext→gH,assignEach→gI,wpAny_fieldsOf→gY,codeAny_mono→gZ,Stmt→g_,ReadsAll→hU,wpAny_attempt→ip,plainId_quiet→iq,behindInMarks→iu,sliceBounds→ix,backToKw→iC,NameKind→iK,wpAny_ite_split→iQ,builtinsNs→jk,unsupported→jB,codeAny→jF,wpAny_isInstance→jV,wpAny_forIn_list→jW,pickOrder→jX,Walks→ke,wpAny_rule→kl,wpAny_load→km,relabel→kn,wpAny_execs_nil→kE,letOwnedTupleGo→kF,wpAny_notOrdered_dict→kL,firstArgMember→lu,callerA→lN,BindsTo→lR,setSearchFrom→mw,numAt→mB,wpAny_Call_Name_kw→mL,assign→mT,wpAny_pyIter_slot→nB,wpAny_pyIter_list→nC,getItem→nU,wpAny_askSetting→oH,pyIter→oK,PassesOwn→oZ,subscripted→pE,hashByValue→pR,wpAny_dictEpoch→qg,setNext→qT,wpAny_seqItems→rM,wpAny_runValue→rN,slotArgs→rV,isSubtype_type→sg,dictSetDefault→tJ,call_meets→tN,Env→tW,wpAny_newList→uG,wpAny_comprehension_free→uH,call→wR,lastMarks→xx,bindL→yD,bindC→yE,Arguments→yN,wpAny_typeOf→yU,wpAny_Call_method_late→yV,isTrue→zA,Result→BC,wpAny_isOneOf_keyiter→BO,wpAny_eqIsQuiet_tuple→BP,builtinLookup_eq_fast→CD
open List renaming length_map→ae,getElem?_eq_getElem→af,mem_cons_of_mem→ah,getD_eq_getElem?_getD→ai,mem_append_right→ao,mem_cons_self→aq,mem_singleton→ar,mem_append_left→av,mem_append→aw,getElem?_eq_some_iff→ay,map_cons→aB,range→aG,mem_cons→aH,mem_map→aK,length_append→aM,getElem?_map→aN,map_append→aR,length_cons→aW,size_toArray→aX,count_append→aY,mem_of_getElem?→ba,append_assoc→be,cons_append→bo,map_map→bp,replicate→bu,nodup_nil→bw,mem_range→bx,length_range→bz,nodup_append→bG,nodup_cons→bJ,mem_map_of_mem→bK,map_congr_left→bS,append_nil→bV,mem_iff_getElem?→bX,length_singleton→bY,nil_append→cu,nodup_iff_count→cA,count_pos_iff→cB,any_eq_false→cH,map_nil→cK,count_cons→cR,getElem_mem→cS,getElem?_eq_none→cT,getElem?_set_ne→cX,getElem?_append_right→cY,getElem?_set_self→c_,all_eq_true→dc,count_eq_zero→df,getElem_map→dW,map_singleton→dZ,find?_eq_none→d_,getElem?_append_left→eD,getElem?_range→eQ,zip_cons_cons→eZ,mem_filterMap→e_,mem_filter→fm,length_replicate→fw,ext_getElem?→fE,mem_iff_getElem→fK,length→fL,getElem?_of_mem→fM,count_cons_self→fN,not_mem_nil→fT,lookup_cons→fU,drop_eq_getElem_cons→fW,toList_toArray→fY,getD_cons_succ→fZ,reverse_cons→gC,map_id'→gD,length_pos_of_mem→gE,length_take→gT,any_eq_true→gU,any_cons→gW,replicate_succ→ig,filterMap_cons→ij,set_cons_succ→iM,pairwise_cons→iN,sublist_append_right→iU,pairwise_iff_getElem→iV,mem_of_find?_eq_some→iW,getElem?_zip_eq_some→iX,pairwise_map→iZ,take_of_length_le→jy,set_set→jz,of_mem_zip→jG,length_zip→jH,find?_cons→jI,getElem?_toArray→jQ,getElem?_reverse→jR,replicate_zero→kA,getD_cons_zero→kB,map_take→kK,set_cons_zero→kT,idxOf_append→lJ,nodup_range→mi,mem_reverse→mj,drop_length→mq,range_succ→nc,find?_some→ng,append_inj→ni,take_zero→og,perm_ext_iff_of_nodup→oh,foldl→om,sum_cons→pf,sublist_append_left→pq,set_comm→pw,idxOf_lt_length_iff→pA,length_eq_zero_iff→p_,getElem?_replicate→qd,toArray→qO,drop_of_length_le→qQ,take_append_drop→rG,contains_iff_mem→rH,length_eraseIdx→tS,map_eq_nil_iff→uC,length_reverse→uD,getElem_idxOf→wW,foldl_append→yK,flatMap_cons→yL,mem_flatMap→BH,length_drop→BI,countP_cons→BJ,any_toArray→BK,take_range→CI,length_set→CJ,length_nil→CK,forIn_cons→CL,countP_map→CM
open PySem.W renaming Frag→ag,kia_one→cF,kitOne→dY,fnOf→eX,keepIn→fJ,findIn→iH,nsIn→jx,codeIn→kg,mg_of→kJ,methodObj→lD,kitx_list→lE,kitx_dict→lF,instObj→mU,OpenLaw→mV,lookIn→nY,cellsFrom_some→qN,kitx_tuple→wU,specialIn→yH,plainGet→BD
open Bool renaming and_eq_true→aA,false_eq_true→bA,false_ne_true→bD,not_true→eK,and_self→eL,or_eq_true→fq,beq_eq_decide_eq→gN,and_true→gX,eq_iff_iff→jK,true_and→pC
open PySem.Heap renaming get?_push_of_some→aC,lt_size→aS,get?_push_size→aV,get?_update_self→cW,size_push→dB,get?_update_other→er,SameBut→fG
open Nat renaming le_refl→aD,zero_le→bC,lt_of_lt_of_le→bF,ne_of_lt→bH,le_trans→bI,lt_or_ge→bZ,le_of_lt→dE,lt_irrefl→dS,lt_trans→eY,lt_succ_of_lt→gB,ne_of_gt→il,add_assoc→jf,min_le_right→jo,lt_succ_self→jq,lt_of_le_of_lt→kS,min_self→lH,lt_trichotomy→lI,le_succ→mJ,min_le_left→mZ,min_eq_left→m_,mul_le_mul→n_,mod_lt→oe,mul_le_mul_right→tR,le_succ_of_le→yJ,zero_lt_succ→BF,le_add_right→BG,not_lt_zero→CH
open PySem.PyData renaming eqv→aI,canLayAll0→aL,int→aU,eqvAll→b_,canLay0→cn,bool→cw,depthAll→cU,depth→dA,list→eT,none→iJ,tuple→nZ
open Option.some renaming inj→aP,injEq→yI
open Int renaming toNat_natCast→aZ,emod_nonneg→cG,emod_lt_of_pos→cL,toNat_of_nonneg→dt,natCast_mul→jJ,natCast_add→nk,le_refl→tU
open PySem.Value renaming ref→a_,none→bE,type→eV,int→gM,bool→kr,isInt→ly,isInt_shape→nV
open Array renaming getElem?_toList→bg,length_toList→bL,getElem?_eq_getElem→bW,getD_eq_getD_getElem?→dh,getElem?_eq_none→dr,mem_toList_iff→fP,getD→iO,forIn_toList→iP,replicate→jL,getInternal_eq_getElem→nq,size_setIfInBounds→pD
open PySem.PassesOwn renaming never→bN
open Or renaming inl→bO,inr→bQ
open Option renaming bind_some→bP,map_eq_some_iff→cZ,getD_some→gS,map_some→mY,isNone_iff_eq_none→oG,getD_none→BE
open PySem.Heap.SameBut renaming update→cy
open PySem.SetTable renaming insertAt→cD,below→dy,bits→dH,turns→dI,runEnd→iT,layClean→nW,grown→tO,toList_insertAt→wO,has→BA
open Classical renaming byContradiction→cJ
open PySem.F renaming plainAttrs_list→dg,slot_dict_keyiterator_next→dX,called_set→gj,plain_list_iadd→gk,slot_tuple_hash→hV,type_list_append→jd,slot_list_append→je,type_dict_setdefault→mW,slot_dict_setdefault→mX,plain_proto_collect→nz,slot_list_reverse→oE,plain_extend_loop→oF,type_list_extend→oX,slot_list_extend→oY,args_dict_keyiterator_next_1→pB,slot_list_count→pZ,entry_dict_keyiterator_next→qf
open PySem.Builtin.Tuple renaming tupleHashOf→dF
open PySem.Around renaming under_plainId→dM
open PySem.Str renaming ofString→ef
open PyProof.Rows.KeyOrd renaming kle_refl→eF,kle_of_klt→kU,kle_trans→lQ
open Ne renaming symm→eJ
open List.Perm renaming refl→eU,cons→kh,swap→oq,append_left→rJ,of_eq→CN
open ForInStep renaming yield→fo
open PySem.SetTable.layClean renaming free→fF
open False renaming elim→fO
open PySem.NameKind renaming free→fQ
open PyProof.Rows.F renaming plain_set_update_loop→fX,entry_set_update_loop→ku
open PySem.Obj renaming mapSeq→gJ,isFreed_of_dict→iY,data_mapFields→jn,putSet→kz,data_mapDictKeys→lG,data_mapDict→o_,mapFields→wV,isFreed_of_fields→CG
open PySem.SetTable.probe renaming go→hJ
open PyProof.Rows renaming seqObj→ic,callWith_type1→ik,envOfC→kj,entry_proto_collect'→kX,SortKind→lP,entry_list_iadd'→mH,AllBare→mK,IntsAre→tP,mirror_perm→zx
open PySem.Paired renaming length→iw
open True renaming intro→iG
open PySem.W.KasT renaming kasWp_bind→jg
open PySem.Builtin.List renaming listExtendWith→jh,listTooLong→jS,listLengthHint→rK,listSameRef→wY
open PySem.Calls renaming call_function_entry→jA,callWith_builtin→kC,Name_function_global→tX
open PySem.SeqAt renaming eqAt_reads→kd
open Sum renaming inr→lA,inl→lC
open List.Pairwise renaming nil→lK
open PySem.SeqAt.ReadsAll renaming length→mG
open List.cons renaming injEq→nh
open PySem.SetTable.below renaming go→nX
open PySem.Builtin.Dict_items renaming ownsTuple→qR
open Prod renaming ext→tQ
open PySem.Builtin.Range renaming rangeSize→yM
open PySem.pickOrder renaming go→zk
open PySem.Builtin.Dict renaming showsAll→CO
def aE:=@if_pos
def aJ:=@if_neg
def aO:=@decide_eq_true
def bh:=@of_decide_eq_true
def bj:=@decide_eq_false
def cQ:=@if_false
def eG:=@congrArg
def gc:=@if_true
def gv:=@decide_eq_true_eq
def iz:=@of_decide_eq_false
def jm:=@beq_self_eq_true
def oN:=@or_congr_left
def uz:=@beq_eq_false_iff_ne
def wM:=@beq_iff_eq
def yC:=@bne_self_eq_false
namespace L2
open PySem PySem.Spec PyProof.Rows
abbrev Key:=Sum Int bM
def b3Q:Key→aj→Bool
  | .inl k,v=>ly k v
  | .inr x,v=>aj.isStrOf x v
def b7V(w:bU):Key→Int
  | .inl k=>hashInt k
  | .inr x=>hashStr w x
theorem u7:∀{k:Key} {v:aj},b3Q k v=true→(∃i t,k=lC i∧v=gM i t)∨(∃x t,k=lA x∧v=aj.str x t)
  | .inl i,v,h=>by
    obtain⟨t,e⟩:=nV (k:=i) (v:=v) h;exact .inl ⟨i,t,rfl,e⟩
  | .inr x,v,h=>by
    obtain⟨t,e⟩:=aj.isStrOf_shape (x:=x) (v:=v) h;exact .inr ⟨x,t,rfl,e⟩
theorem b4i(a b:Int):decide ((lC a:Key)=lC b)=(a == b):=by
  by_cases e:a=b
  · subst e;simp
  · have h:¬ (lC a:Key)=lC b:=fun q=>e (lC.inj q)
    rw [bj h];exact (uz.mpr e).symm
theorem b4j(a b:bM):decide ((lA a:Key)=lA b)=decide (a=b):=by
  by_cases e:a=b
  · subst e;simp
  · have h:¬ (lA a:Key)=lA b:=fun q=>e (lA.inj q)
    rw [bj h,bj e]
theorem b4k(a:Int)(b:bM):decide ((lC a:Key)=lA b)=false:=bj (fun q=>nomatch q)
theorem b4l(a:bM)(b:Int):decide ((lA a:Key)=lC b)=false:=bj (fun q=>nomatch q)
def a3C(prog:bB)(w:bU):PySem.KeyKind prog w Key where
  is:=b3Q
  hash:=b7V w
  inj:=fun v a b ha hb=>by
    rcases u7 ha with⟨i,t,rfl,rfl⟩|⟨x,t,rfl,rfl⟩
    · rcases u7 hb with⟨j,u,rfl,e⟩|⟨y,u,rfl,e⟩
      · injection e with e1 _;rw [e1]
      · exact nomatch e
    · rcases u7 hb with⟨j,u,rfl,e⟩|⟨y,u,rfl,e⟩
      · exact nomatch e
      · injection e with e1 _;rw [e1]
  byValue:=fun k v h=>by
    rcases u7 h with⟨i,t,rfl,rfl⟩|⟨x,t,rfl,rfl⟩ <;> rfl
  pyHash:=fun hv h=>by
    rcases u7 hv with⟨i,t,rfl,rfl⟩|⟨x,t,rfl,rfl⟩
    · exact wpAny_pyHash_int h
    · exact wpAny_pyHash_str h
  eqBool:=fun hu hv h=>by
    rcases u7 hu with⟨i,t,rfl,rfl⟩|⟨x,t,rfl,rfl⟩
    · rcases u7 hv with⟨j,u,rfl,rfl⟩|⟨y,u,rfl,rfl⟩
      · rw [b4i] at h;exact wpAny_eqBool_int h
      · rw [b4k] at h;exact SeqAt.EqAt.int_str i t y u _ _ _ _ h
    · rcases u7 hv with⟨j,u,rfl,rfl⟩|⟨y,u,rfl,rfl⟩
      · rw [b4l] at h;exact SeqAt.EqAt.str_int x t j u _ _ _ _ h
      · rw [b4j] at h;exact wpAny_eqBool_str h
  «strs»:=fun k x t v h=>by
    rcases u7 h with⟨i,u,rfl,e⟩|⟨y,u,rfl,e⟩
    · exact nomatch e
    · injection e with e1 _
      subst e1;cases v <;> rfl
end L2
namespace L2
open PySem PySem.Spec PyProof.Rows
inductive V where
  | non|bl (b:Bool)|int (i:Int)|str (x:bM)|byt (b:Array UInt8)|flt (b:UInt64)|ref (a:az)|ty (n:String)
  deriving DecidableEq
def RelV:V→aj→Prop
  | .non,u=>u=bE
  | .bl b,u=>u=kr b
  | .int i,u=>∃t,u=gM i t
  | .str x,u=>∃t,u=aj.str x t
  | .byt b,u=>∃t,u=aj.bytes b t
  | .flt b,u=>∃t,u=aj.float b t
  | .ref a,u=>u=a_ a
  | .ty n,u=>u=eV n
abbrev Vals:List V→List aj→Prop:=fS RelV
theorem Vals.length{xs:List V}{us:List aj}(r:Vals xs us):xs.length=us.length:=iw r
theorem Vals.get:∀{xs:List V} {us:List aj} {i:Nat} {x:V},Vals xs us→xs[i]?=some x→∃u,us[i]?=some u∧RelV x u
  | _,_,_,_,.nil,e=>by simp at e
  | _,_,0,_,.cons r _,e=>by simp at e;subst e;exact⟨_,rfl,r⟩
  | _,_,i + 1,x,.cons _ t,e=>by
    obtain⟨u,h1,h2⟩:=Vals.get (i:=i) (x:=x) t (by simpa using e);exact⟨u,by simpa using h1,h2⟩
theorem Vals.append:∀{xs ys:List V} {us ws:List aj},Vals xs us→Vals ys ws→Vals (xs ++ ys) (us ++ ws)
  | _,_,_,_,.nil,s=>s
  | _,_,_,_,.cons r t,s=>.cons r (Vals.append t s)
theorem Vals.take:∀{xs:List V} {us:List aj} (n:Nat),Vals xs us→Vals (xs.take n) (us.take n)
  | _,_,0,_=>.nil
  | _,_,_ + 1,.nil=>.nil
  | _,_,n + 1,.cons r t=>.cons r (Vals.take n t)
theorem Vals.drop:∀{xs:List V} {us:List aj} (n:Nat),Vals xs us→Vals (xs.drop n) (us.drop n)
  | _,_,0,r=>r
  | _,_,_ + 1,.nil=>.nil
  | _,_,n + 1,.cons _ t=>Vals.drop n t
def b4m:Option V→Option aj→Prop
  | some v,some u=>RelV v u
  | none,none=>True
  | _,_=>False
def KV{κ:Type}:List (κ × V)→List (κ × aj)→Prop:=fS fun (p:κ × V) (q:κ × aj)=>p.1=q.1∧RelV p.2 q.2
def kV:Key→V
  | .inl i=>.int i
  | .inr x=>.str x
inductive HO where
  | lst (xs:List V)
  | tup (xs:List V)
  | dK (kvs:List (Key × V))|dT (kvs:List (List Key × V))
  | set (S:Int→Bool) (n:Nat)
  | ins (C dx:az) (fs:List (bM × V))
  | own (x:az)
  | xd (fs:List (bM × V))
  | met (f x:az)
  | rng (lo hi:Int)
  | frz (o:eW) (u:HO)
  | tbl (ps:Array aj)
  | ext (φ:cm→Prop)
abbrev Hp:=az→Option HO
def upd(H:Hp)(a:az)(o:HO):Hp:=fun b=>if b=a then some o else H b
theorem i6{H:Hp}{a:az}{o:HO}:upd H a o a=some o:=by unfold upd;rw [aE rfl]
theorem g9{H:Hp}{a b:az}{o:HO}(h:b≠a):upd H a o b=H b:=by unfold upd;rw [aJ h]
theorem a7u:upd (upd H a o) a u=upd H a u:=by
  funext b;unfold upd;split <;> rfl
theorem B4{H:Hp}{a b:az}{o:HO}(h:H a=some o)(h':H b=none):a≠b:=by
  intro e;subst e;rw [h] at h';cases h'
def Pin(a:az):HO→Prop
  | .tup _=>True
  | .frz _ (.own b)=>b=a
  | _=>False
abbrev b6o(a:az):={u:HO // Pin a u}
def a7v(H:Hp)(h:cm)(a:az)(qs:Array aj):Prop:=
  ∃ps:Array aj,h.get? a=some {cls:=.none,data:=.fields ps}∧TriplesOk ps.toList∧∀(pos:eM) (cv:aj),codeAmong pos ps.toList=some cv→
    ∃c' oc vs q t t',cv=.ref c'∧H c'=some (.frz oc (.own a))∧oc.data=.fields vs∧vs[1]?=some (.str q t)∧qs[0]?=some (.str q t')
section
variable (P:bB)(w:bU)
def ObjOk(H:Hp)(h:cm)(a:az):HO→Prop
  | .lst xs=>xs.length≤aT∧∃(cE:List aj) (n:Nat),Vals xs cE∧h.get? a=some {cls:=.type "list",data:=.seq cE.toArray n}
  | .tup xs=>xs.length≤aT∧∃cE:List aj,Vals xs cE∧IsTup h a cE.toArray
  | .dK kvs=>kvs.length≤aT∧(a == dU)=false∧∃vs,KV kvs vs∧h.DictOf (a3C P w) a vs
  | .dT kvs=>kvs.length≤aT∧(a == dU)=false∧∃xs:List (List Key × az × aj),
      fS (fun (p:List Key × V) (q:List Key × az × aj)=>p.1=q.1∧H q.2.1=some (.tup (p.1.map kV))∧RelV p.2 q.2.2) kvs xs∧
      ∃o es ep,h.get? a=some o∧o.ExactDict∧o.data=.dict es ep∧es.toList=xs.map (entryOfKey (tupleKind (a3C P w)))∧(xs.map (·.1)).Nodup
  | .set S n=>h.SetOf (gf P w) a S n
  | .ins C dx fs=>H dx=some (.own a)∧fs.length≤1000∧dx≠a∧h.get? a=some (mU C dx)∧
      ∃mA,h.Ns1 dx mA∧(∀f,b4m (fs.lookup f) (mA f))∧PySem.Within mA (fs.map (·.1))
  | .own _=>∃o,h.get? a=some o
  | .xd fs=>∃mA,h.Ns1 a mA∧∀f,b4m (fs.lookup f) (mA f)
  | .rng lo hi=>∃t u v,h.get? a=some {cls:=.type "range",data:=.fields #[.int lo t,.int hi u,.int 1 v]}
  | .frz o u=>h.get? a=some o∧ObjOk H h a u
  | .tbl ps=>a7v H h a ps
  | .met f x=>h.get? a=some (lD (.ref f) (.ref x))
  | .ext φ=>φ h∧(∃o,h.get? a=some o)∧∀h1 h2:cm,φ h1→(∀o,h1.get? a=some o→h2.get? a=some o)→φ h2
def HOk(H:Hp)(h:cm):Prop:=∀a o,H a=some o→ObjOk P w H h a o
end
section
variable {P:bB}{w:bU}{H H':Hp}{h h':cm}{a:az}{o:HO}
theorem ObjOk.lt(x:ObjOk P w H h a o):a < h.objs.size:=by
  cases o with
  | lst xs=>obtain⟨_,_,_,_,e⟩:=x;exact aS e
  | tup xs=>obtain⟨_,_,_,p⟩:=x;exact p.lt
  | dK kvs=>obtain⟨_,_,_,_,o,_,_,e,_⟩:=x;exact aS e
  | dT kvs=>obtain⟨_,_,_,_,o,_,_,e,_⟩:=x;exact aS e
  | set S n=>obtain⟨o,_,_,_,e,_⟩:=x;exact aS e
  | ins C dx fs=>obtain⟨_,_,_,e,_⟩:=x;exact aS e
  | own y=>obtain⟨_,e⟩:=x;exact aS e
  | xd fs=>obtain⟨_,⟨_,_,_,e,_⟩,_⟩:=x;exact aS e
  | rng lo hi=>obtain⟨_,_,_,e⟩:=x;exact aS e
  | frz ob u=>obtain⟨e,_⟩:=x;exact aS e
  | tbl ps=>obtain⟨_,e,_⟩:=(show a7v H h a ps from x);exact aS e
  | met f y=>exact aS (show h.get? a=some _ from x)
  | ext φ=>obtain⟨_,⟨_,e⟩,_⟩:=x;exact aS e
theorem Paired.mapP:∀{l₁:List α} {l₂:List β},fS F l₁ l₂→(∀a b,F a b→G a b)→fS G l₁ l₂
  | _,_,.nil,_=>.nil
  | _,_,.cons r t,f=>.cons (f _ _ r) (Paired.mapP t f)
theorem ObjOk.stay(x:ObjOk P w H h a o)(k:∀b u,(b=a∨H b=some (.own a))→h.get? b=some u→h'.get? b=some u)
    (ho:∀b,H b=some (.own a)→H' b=some (.own a)) (ht:∀b (u:b6o a),H b=some u.1→H' b=some u.1):ObjOk P w H' h' a o:=by
  induction o with
  | lst xs=>obtain⟨z,cE,n,r,e⟩:=x;exact⟨z,cE,n,r,k _ _ (.inl rfl) e⟩
  | tup xs=>obtain⟨z,cE,r,ob,e,c⟩:=x;exact⟨z,cE,r,ob,k _ _ (.inl rfl) e,c⟩
  | dK kvs=>obtain⟨z,y,vs,r,ob,es,ep,e,c⟩:=x;exact⟨z,y,vs,r,ob,es,ep,k _ _ (.inl rfl) e,c⟩
  | dT kvs=>
    obtain⟨z,y,xs,r,ob,es,ep,e,c⟩:=x;exact⟨z,y,xs,Paired.mapP r fun p q z=>⟨z.1,ht _ ⟨.tup _,trivial⟩ z.2.1,z.2.2⟩,ob,es,ep,k _ _ (.inl rfl) e,c⟩
  | set S n=>obtain⟨ob,es,ep,t,e,c⟩:=x;exact⟨ob,es,ep,t,k _ _ (.inl rfl) e,c⟩
  | ins C dx fs=>
    obtain⟨d,z,ne,e,mA,⟨od,es,ep,e2,c⟩,r⟩:=x;exact⟨ho _ d,z,ne,k _ _ (.inl rfl) e,mA,⟨od,es,ep,k _ _ (.inr d) e2,c⟩,r⟩
  | own y=>obtain⟨ob,e⟩:=x;exact⟨ob,k _ _ (.inl rfl) e⟩
  | xd fs=>obtain⟨mA,⟨od,es,ep,e,c⟩,r⟩:=x;exact⟨mA,⟨od,es,ep,k _ _ (.inl rfl) e,c⟩,r⟩
  | rng lo hi=>obtain⟨t,u,v,e⟩:=x;exact⟨t,u,v,k _ _ (.inl rfl) e⟩
  | frz ob u ih=>obtain⟨e,q⟩:=x;exact⟨k _ _ (.inl rfl) e,ih q⟩
  | tbl ps=>
    obtain⟨qs,e,t,f⟩:=(show a7v H h a ps from x);refine⟨qs,k a _ (.inl rfl) e,t,fun pos cv z=>?_⟩;obtain⟨c,oc,vs,q,t1,t2,z1,z2,z3,z4,z5⟩:=f pos cv z;exact⟨c,oc,vs,q,t1,t2,z1,ht c ⟨.frz _ (.own a),rfl⟩ z2,z3,z4,z5⟩
  | met f y=>
    have e:h.get? a=some (lD (.ref f) (.ref y)):=x;show h'.get? a=some (lD (.ref f) (.ref y));exact k a _ (.inl rfl) e
  | ext φ=>obtain⟨p,⟨o,e⟩,st⟩:=x;exact⟨st _ _ p fun o q=>k _ _ (.inl rfl) q,⟨o,k _ _ (.inl rfl) e⟩,st⟩
theorem HOk.lt(x:HOk P w H h)(e:H a=some o):a < h.objs.size:=(x a o e).lt
theorem HOk.fresh(x:HOk P w H h)(e:h.objs.size≤a):H a=none:=by
  cases q:H a with
  | none=>rfl
  | some u=>exact absurd (bF (x.lt q) e) (dS _)
theorem HOk.kept(x:HOk P w H h)(k:∀b u,h.get? b=some u→h'.get? b=some u):HOk P w H h':=fun a o e=>
  (x a o e).stay (fun b u _ q=>k b u q) (fun _ q=>q) fun _ _ q=>q
theorem HOk.laid(x:HOk P w H h)(k:∀b u,h.get? b=some u→h'.get? b=some u)(hp:h.objs.size≤a)(new:ObjOk P w (upd H a o) h' a o):HOk P w (upd H a o) h':=fun b u e=>by
  have hn:=x.fresh hp;by_cases hb:b=a
  · subst hb;rw [i6] at e;cases e;exact new
  · rw [g9 hb] at e
    exact (x b u e).stay (fun c v _ q=>k c v q) (fun c q=>by rw [g9 (B4 q hn)];exact q) fun c xs q=>by rw [g9 (B4 q hn)];exact q
end
def Rd(H:Hp)(a:az)(u:HO):Prop:=H a=some u∨∃o,H a=some (.frz o u)
theorem Rd.ok{P:bB}{w:bU}{H:Hp}{h:cm}{a:az}{u:HO}(r:Rd H a u)(x:HOk P w H h):ObjOk P w H h a u:=by
  rcases r with r|⟨o,r⟩
  · exact x a u r
  · obtain⟨_,q⟩:=x a _ r
    exact q
def Mut:Option HO→Prop
  | some (.lst _)=>True
  | some (.dK _)=>True
  | some (.dT _)=>True
  | some (.set _ _)=>True
  | some (.ins _ _ _)=>True
  | some (.ext _)=>True
  | _=>False
section
variable {P:bB}{w:bU}{H:Hp}{h h':cm}{x e:az}{o':HO}
theorem HOk.write(ok:HOk P w H h)(mu:Mut (H x))(he:e=x∨H e=some (.own x))(k:∀b u,b≠e→h.get? b=some u→h'.get? b=some u)(rh:∃u,h'.get? e=some u)
    (new:ObjOk P w (upd H x o') h' x o'):HOk P w (upd H x o') h':=fun b u q=>by
  have r_:∀c y,H c=some (.own y)→c≠x:=fun c y r z=>by subst z;rw [r] at mu;exact mu
  have uQ:∀{bq:az} c (u:b6o bq),H c=some u.1→c≠x:=fun {bq} c u r z=>by subst z;rw [r] at mu;obtain⟨u,hu⟩:=u;cases u <;> first|exact hu|exact mu
  by_cases hb:b=x
  · subst hb;rw [i6] at q;cases q;exact new
  · rw [g9 hb] at q
    by_cases qI:b=e
    · have q':H b=some (.own x):=by
        rcases he with z|z
        · exact absurd (qI.trans z) hb
        · rw [qI];exact z
      rw [q] at q';cases q';obtain⟨v,hv⟩:=rh;exact⟨v,by rw [qI];exact hv⟩
    · refine (ok b u q).stay (fun c v hc r=>k c v ?_ r) (fun c r=>by rw [g9 (r_ c b r)];exact r) fun c xs r=>by rw [g9 (uQ c xs r)];exact r
      rcases hc with rfl|hc
      · exact qI
      · rintro rfl
        rcases he with z|z
        · exact r_ c b hc z
        · rw [hc] at z;cases z;exact hb rfl
end
structure Un (fs ex:List az) (H H':Hp) (h h':cm):Prop where
  keep:∀b o,h.get? b=some o→H b=none→b∉fs→b∉ex→h'.get? b=some o
  slot:∀b o,h.get? b=some o→H b=none→b∈fs→b∉ex→∃sl,h'.get? b=some {o with slots:=sl}
  free:∀b o,h.get? b=some o→H b=none→b∉ex→H' b=none
  there:∀b o,h.get? b=some o→b∉ex→∃o',h'.get? b=some o'
  tups:∀b xs,H b=some (.tup xs)→H' b=some (.tup xs)
  frzs:∀b o u,H b=some (.frz o u)→H' b=some (.frz o u)
  tbls:∀b ps,H b=some (.tbl ps)→∃more,H' b=some (.tbl (ps ++ more))
section
variable {fs jj ex CA:List az}{H H1 H2:Hp}{h h1 h2 h':cm}{a x e:az}{o:HO}
theorem Un.any(u:Un fs ex H H1 h h1)(q:h.get? b=some ob)(n:H b=none)(hx:b∉ex):∃sl,h1.get? b=some {ob with slots:=sl}:=by
  by_cases hb:b∈fs
  · exact u.slot b ob q n hb hx
  · exact⟨ob.slots,u.keep b ob q n hb hx⟩
theorem Un.kept(k:∀b u,h.get? b=some u→h'.get? b=some u):Un fs ex H H h h':=
  ⟨fun b ob q _ _ _=>k b ob q,fun b ob q _ _ _=>⟨ob.slots,k b ob q⟩,fun _ _ _ n _=>n,fun b ob q _=>⟨ob,k b ob q⟩,fun _ _ q=>q,fun _ _ _ q=>q,fun _ ps q=>⟨#[],by rw [q];simp⟩⟩
theorem Un.refl:Un fs ex H H h h:=Un.kept fun _ _ q=>q
theorem Un.laid(k:∀b u,h.get? b=some u→h'.get? b=some u)(hp:h.objs.size≤a)(hn:H a=none):Un fs ex H (upd H a o) h h' where
  keep:=fun b u q _ _ _=>k b u q
  slot:=fun b u q _ _ _=>⟨u.slots,k b u q⟩
  free:=fun b u q n _=>by rw [g9 (bH (bF (aS q) hp))];exact n
  there:=fun b u q _=>⟨u,k b u q⟩
  tups:=fun b xs q=>by rw [g9 (B4 q hn)];exact q
  frzs:=fun b u xs q=>by rw [g9 (B4 q hn)];exact q
  tbls:=fun b ps q=>⟨#[],by rw [g9 (B4 q hn),q];simp⟩
theorem Un.write(mu:Mut (H x))(he:e=x∨H e=some (.own x))(k:∀b u,b≠e→h.get? b=some u→h'.get? b=some u)(rh:∃u,h'.get? e=some u):Un fs ex H (upd H x o) h h':=by
  have hx:∀b,H b=none→b≠x:=fun b n z=>by subst z;rw [n] at mu;exact mu
  have hb:∀b,H b=none→b≠e:=fun b n z=>by
    subst z;rcases he with r|r
    · exact hx b n r
    · rw [n] at r;cases r
  have hm:∀b u,H b=some u→¬ Mut (some u)→b≠x:=fun b u q nm z=>by subst z;rw [q] at mu;exact nm mu
  refine⟨fun b u q n _ _=>k b u (hb b n) q,fun b u q n _ _=>⟨u.slots,k b u (hb b n) q⟩,fun b u q n _=>by rw [g9 (hx b n)];exact n,fun b u q _=>?_,
    fun b xs q=>by rw [g9 (hm b _ q fun z=>z)];exact q,fun b u xs q=>by rw [g9 (hm b _ q fun z=>z)];exact q,fun b ps q=>⟨#[],by rw [g9 (hm b _ q fun z=>z),q];simp⟩⟩
  by_cases qI:b=e
  · subst qI;exact rh
  · exact⟨u,k b u qI q⟩
end
def trk(h:cm)(H:Hp):List az:=(aG h.objs.size).filter fun a=>(H a).isSome
def a3D(h:cm)(H:Hp):cm:=PySem.W.hideAll h (trk h H)
theorem a8o(h:cm)(H:Hp):(a3D h H).objs.size=h.objs.size:=PySem.W.hideAll_size _ _
theorem a9C{h:cm}(e:h.get? b=some o)(n:H b=none):(a3D h H).get? b=some o:=
  PySem.W.hideAll_get _ e fun hm=>by
    have q:(H b).isSome=true:=(fm.mp hm).2;rw [n] at q;simp at q
theorem b2c(e:(a3D h H).get? b=some o):h.get? b=some o∧H b=none:=by
  have e':h.get? b=some o:=PySem.W.of_hideAll (trk h H) e;refine⟨e',?_⟩;cases q:H b with
  | none=>rfl
  | some x=>
    have hm:b∈trk h H:=fm.mpr ⟨bx.mpr (aS e'),by simp [q]⟩;have z:(a3D h H).get? b=none:=PySem.W.hideAll_none (trk h H) hm;rw [z] at e;cases e
def b2d(g h:cm)(L:az):List (az × eW):=(aG h.objs.size).filterMap fun a=>if a=L∨(g.get? a).isSome=true then none else (h.get? a).map fun o=>(a,o)
def rest(g h:cm)(L d:az):List (az × eW):=(b2d g h L).filter fun p=>decide (p.1≠d)
end L2
namespace L2
open PySem PySem.Spec PyProof.Rows
def Q0:List bM:=["ways_by_state","joins_by_pair","compare","first_gathering","least_asks"]
def b2e(x:bM):bM:=x ++ ".<locals>." ++ "<lambda>"
def a3E(K:ag)(cd:aj):Option az:=match cd with
  | .ref c=>(match K.lookup c with
    | some ⟨.type n,_,.fields vs,_⟩=>if n == "code" then
        (match (vs[11]?:Option aj),(vs[18]?:Option aj),(vs[7]?:Option aj),(vs[9]?:Option aj),(vs[10]?:Option aj) with
        | some (.ref P),some (.str _ _),some (.int _ _),some (.bool _),some (.int _ _)=>if c != P then some P else none
        | _,_,_,_,_=>none) else none
    | _=>none)
  | _=>none
def Q1(K:ag)(x:bM):Option az:=match jx K cC x with
  | some (some (.ref f))=>(match K.lookup f with
    | some ⟨_,_,.func fd,_⟩=>a3E K fd.code
    | _=>none)
  | _=>none
def TabsIn(K:ag)(H:Hp):Prop:=∀x∈Q0,∀p,Q1 K x=some p→∃qs t,H p=some (.tbl qs)∧qs[0]?=some (.str (b2e x) t)
theorem TabsIn.un{K:ag}{fs ex:List az}{H H':Hp}{h h':cm}(a:TabsIn K H)(u:Un fs ex H H' h h'):TabsIn K H':=fun x hx p e=>by
  obtain⟨qs,t,e1,e2⟩:=a x hx p e;obtain⟨more,e3⟩:=u.tbls p qs e1;refine⟨_,t,e3,?_⟩;have hz:0 < qs.size:=by
    rcases bZ 0 qs.size with z|z
    · exact z
    · rw [dr (by omega)] at e2;cases e2
  rw [Array.getElem?_append_left hz];exact e2
structure Mod (K:ag) (mg:bM→Option aj) (base:cm):Prop where
  kin:K.In base
  glob:base.Ns cC mg
  blt:∃mb,base.Ns jk mb∧∀x:bM,x≠"__name__"→mb x=gh x
  nolimit:base.NoLimit
  bmain:∃bm ob,mg "__builtins__"=some (.ref bm)∧bm≠jk∧base.get? bm=some ob∧ob.cls=.type "module"∧ob.dict=some jk∧ob.data=.plain
/-- nr context: a tK body (or a ie block) running. base: fixed through nr whole law; s₀, H₀: nr entry; outer: nr frames rO slots others may change (a tK uy); stack: all frames oI run;
   ex: qV oI uI made ahead of nr entry and are walked here (a ie);fn: nr names rO cells uI made at nr entry (a def: all;a ie block: cE own);calm: not within an except xb;pn: pins oI yo state bears;xe: yW is wanted of an exception oI uX nr code -/
structure Cx where
  prog:bB
  w:bU
  K:ag
  mg:bM→Option aj
  base:cm
  A:bT
  N:List bM
  s₀:au
  H₀:Hp
  env:tW
  outer:List tW
  stack:List tW
  ex:List az
  fn:bM→Bool
  calm:Bool
  pn:List (az × eW)
  xe:aj→au→Prop
def frs(l:List tW):List az:=l.filterMap (·.frame)
abbrev Cx.fs(X:Cx):List az:=frs X.outer
def Vis(sc:gA)(x:bM):Prop:=sc.names.lookup x=some .local∨sc.names.lookup x=some .cell∨sc.names.lookup x=some .free
def Loc(sc:gA)(x:bM):Prop:=sc.names.lookup x=some .local∨sc.names.lookup x=some .cell
def Look(env:tW)(h:cm)(m:bM→Option aj)(x:bM)(u:aj):Prop:=
  (env.kindOf x=some .local∧m x=some u)∨((env.kindOf x=some .cell∨env.kindOf x=some .free)∧∃c,env.cells.lookup x=some c∧h.IsCell c (some u))
structure Cx.Ok (X:Cx):Prop where
  mod:Mod X.K X.mg X.base
  kind:X.env.scope.kind=.function
  glob:X.env.globals=cC
  blt:X.env.builtins=jk
  above:X.s₀.heap.objs.size≤X.env.locals
  inj:∀x y c,X.env.cells.lookup x=some c→X.env.cells.lookup y=some c→x=y
  has:∀x,(X.env.kindOf x=some .cell∨X.env.kindOf x=some .free)→∃c,X.env.cells.lookup x=some c
  cab:∀x c,X.fn x=true→X.env.cells.lookup x=some c→X.s₀.heap.objs.size≤c
  hd:X.calm=true→X.A.handled=none
  frames:X.A.frames=some X.stack
  stk:X.stack=X.outer∨(X.stack=X.env :: X.outer∧X.env.frame=some X.env.locals)
  exf:∀b∈X.ex,b≠X.env.locals∧∀x c,X.env.cells.lookup x=some c→c≠b
  bs:∀b o,X.base.get? b=some o→X.s₀.heap.get? b=some o∧X.H₀ b=none
  bsz:X.base.objs.size≤X.s₀.heap.objs.size
  noex:∀b o,X.base.get? b=some o→b∉X.ex
  exfs:∀b∈X.ex,b∉X.fs
  funs:X.s₀.heap.FunFrames X.base X.outer
  frf:∀b∈X.fs,X.H₀ b=none
  tabs:TabsIn X.K X.H₀
structure Inv (X:Cx) (pins:List (az × eW)) (σ:List (Option V)) (H:Hp) (s:au):Prop where
  ok:X.Ok
  os:s.os=X.s₀.os
  bare:mK s.gens
  base:Un X.fs X.ex X.H₀ H X.s₀.heap s.heap
  loc:∃m,s.heap.Ns X.env.locals m∧∀(i:Nat) (x:bM) (v:V),X.N[i]?=some x→σ[i]?=some (some v)→Vis X.env.scope x→∃u,RelV v u∧Look X.env s.heap m x u
  cell:∀x c,X.env.cells.lookup x=some c→∃v,s.heap.IsCell c v
  free:H X.env.locals=none
  freeC:∀x c,X.env.cells.lookup x=some c→H c=none
  pin:∀p∈X.pn ++ pins,s.heap.get? p.1=some p.2∧H p.1=none∧p.1≠X.env.locals∧p.1∉X.fs∧∀v,p.2.data≠.cell v
  hok:HOk X.prog X.w H s.heap
  len:σ.length=X.N.length
section
variable {X:Cx}{pins:List (az × eW)}{σ:List (Option V)}{H H':Hp}{s:au}{h':cm}
theorem Cx.Ok.nofr(ok:X.Ok)(e:X.base.get? b=some o):b∉X.fs:=fun hb=>by
  have:=(ok.funs.mem hb).1;rw [e] at this;cases this
theorem Inv.bs(I:Inv X pins σ H s):∀b o,X.base.get? b=some o→s.heap.get? b=some o∧H b=none:=fun b o e=>
  ⟨I.base.keep b o (I.ok.bs b o e).1 (I.ok.bs b o e).2 (I.ok.nofr e) (I.ok.noex b o e),I.base.free b o (I.ok.bs b o e).1 (I.ok.bs b o e).2 (I.ok.noex b o e)⟩
theorem Inv.tabs(I:Inv X pins σ H s):TabsIn X.K H:=I.ok.tabs.un I.base
theorem Inv.bk(I:Inv X pins σ H s):∀b o,X.base.get? b=some o→s.heap.get? b=some o:=fun b o e=>(I.bs b o e).1
theorem Inv.mod(I:Inv X pins σ H s):Mod X.K X.mg X.base:=I.ok.mod
theorem Inv.kIn(I:Inv X pins σ H s):X.K.In s.heap:=I.ok.mod.kin.keeps I.bk
theorem Inv.lt(I:Inv X pins σ H s):X.env.locals < s.heap.objs.size:=let⟨_,hn,_⟩:=I.loc;hn.lt
theorem Inv.sz(I:Inv X pins σ H s):X.s₀.heap.objs.size≤s.heap.objs.size:=bI I.ok.above (dE I.lt)
theorem Inv.nofs(I:Inv X pins σ H s)(h:s.heap.objs.size≤a):a∉X.fs:=fun hb=>by
  obtain⟨_,o,ho,_⟩:=I.ok.funs.mem hb;exact absurd (bF (aS ho) (bI I.sz h)) (dS _)
theorem Inv.cne(I:Inv X pins σ H s):∀x c,X.env.cells.lookup x=some c→c≠X.env.locals:=fun x c e z=>by
  obtain⟨v,o,ho,hd⟩:=I.cell x c e;obtain⟨m,⟨o',es,ep,kH,ir,_⟩,_⟩:=I.loc;rw [z,kH] at ho;cases ho;rw [ir] at hd;cases hd
theorem Inv.funs(I:Inv X pins σ H s):s.heap.FunFrames X.base X.outer:=by
  have all:∀(l:List tW),(∀b∈frs l,b∈X.fs)→X.s₀.heap.FunFrames X.base l→s.heap.FunFrames X.base l:=by
    intro l
    induction l with
    | nil=>intro _ _;trivial
    | cons env r ih=>
      intro hs hl;obtain⟨hk,⟨L,o,hf,hn,ho,hd⟩,hr⟩:=hl;have hL:L∈X.fs:=hs L (by unfold frs;rw [ij,hf];exact aq);obtain⟨sl,e⟩:=I.base.slot L o ho (I.ok.frf L hL) hL fun z=>I.ok.exfs L z hL
      exact⟨hk,⟨L,_,hf,hn,e,hd⟩,ih (fun b hb=>hs b (by unfold frs;rw [ij,hf];exact ah _ hb)) hr⟩
  exact all X.outer (fun _ hb=>hb) I.ok.funs
theorem Inv.stack(I:Inv X pins σ H s):s.heap.FunFrames X.base X.stack:=by
  rcases I.ok.stk with e|⟨e,hf⟩
  · rw [e];exact I.funs
  · rw [e]
    obtain⟨m,hn,_⟩:=I.loc;refine .cons (by rw [I.ok.kind];decide) hf hn ?_ I.funs;exact cm.get?_none_of_le (bI I.ok.bsz I.ok.above)
theorem Inv.stkSub(I:Inv X pins σ H s):∀b∈frs X.stack,b∈X.env.locals :: X.fs:=fun b hb=>by
  rcases I.ok.stk with e|⟨e,hf⟩
  · rw [e] at hb;exact ah _ hb
  · rw [e] at hb
    unfold frs at hb;rw [ij,hf] at hb;exact hb
theorem Inv.stkFree(I:Inv X pins σ H s):∀b∈frs X.stack,H b=none:=fun b hb=>by
  rcases aH.mp (I.stkSub b hb) with e|hb
  · rw [e];exact I.free
  · obtain⟨_,o,ho,_⟩:=I.ok.funs.mem hb
    exact I.base.free b o ho (I.ok.frf b hb) fun z=>I.ok.exfs b z hb
theorem Inv.step{g':Array GenState}{t':Nat}{d':Drawn}{ch:List az}(I:Inv X pins σ H s)
    (oB:∀b∈ch,(b∈X.ex∨X.s₀.heap.objs.size≤b)∧b≠X.env.locals∧(∀x c,X.env.cells.lookup x=some c→c≠b)∧∀p∈X.pn ++ pins,p.1≠b)
    (keep:∀b o,b≠X.env.locals→b∉X.fs→b∉ch→s.heap.get? b=some o→H b=none→h'.get? b=some o)
    (slot:∀b o,b≠X.env.locals→b∈X.fs→b∉ch→s.heap.get? b=some o→H b=none→∃sl,h'.get? b=some {o with slots:=sl}) (free:∀b o,b∉ch→s.heap.get? b=some o→H b=none→H' b=none)
    (there:∀b o,b∉ch→s.heap.get? b=some o→∃o',h'.get? b=some o')
    (tups:∀b xs,H b=some (.tup xs)→H' b=some (.tup xs)) (frzs:∀b o u,H b=some (.frz o u)→H' b=some (.frz o u)) (tbls:∀b ps,H b=some (.tbl ps)→∃more,H' b=some (.tbl (ps ++ more)))
    (ns:∀m,s.heap.Ns X.env.locals m→h'.Ns X.env.locals m) (hok:HOk X.prog X.w H' h') (hg:mK g') :
    Inv X pins σ H' {s with heap:=h',gens:=g',drawn:=d',toks:=t'}:=by
  have xp:∀b o,X.s₀.heap.get? b=some o→b≠X.env.locals:=fun b o e=>bH (bF (aS e) I.ok.above)
  have uc:∀b o,X.s₀.heap.get? b=some o→b∉X.ex→b∉ch:=fun b o e hx hb=>by
    rcases (oB b hb).1 with z|z
    · exact hx z
    · exact absurd (bF (aS e) z) (dS _)
  have cellK:∀x c,X.env.cells.lookup x=some c→∀v,s.heap.IsCell c v→h'.IsCell c v:=fun x c e v ⟨o,ho,hd⟩=>by
    have sd:c∉ch:=fun z=>(oB c z).2.2.1 x c e rfl
    by_cases hc:c∈X.fs
    · obtain⟨sl,q⟩:=slot c o (I.cne x c e) hc sd ho (I.freeC x c e)
      exact⟨_,q,hd⟩
    · exact⟨o,keep c o (I.cne x c e) hc sd ho (I.freeC x c e),hd⟩
  refine⟨I.ok,I.os,hg,⟨fun b o e n hb hx=>?_,fun b o e n hb hx=>?_,fun b o e n hx=>?_,fun b o e hx=>?_,fun b xs e=>tups b xs (I.base.tups b xs e),fun b o xs e=>frzs b o xs (I.base.frzs b o xs e),fun b ps e=>?_⟩,?_,fun x c e=>?_,?_,fun x c e=>?_,fun p hp=>?_,hok,I.len⟩
  · exact keep b o (xp b o e) hb (uc b o e hx) (I.base.keep b o e n hb hx) (I.base.free b o e n hx)
  · obtain⟨sl,e1⟩:=I.base.slot b o e n hb hx
    obtain⟨zd,e2⟩:=slot b _ (xp b o e) hb (uc b o e hx) e1 (I.base.free b o e n hx);exact⟨zd,e2⟩
  · obtain⟨o',e1⟩:=I.base.there b o e hx
    exact free b o' (uc b o e hx) e1 (I.base.free b o e n hx)
  · obtain⟨o',e1⟩:=I.base.there b o e hx
    exact there b o' (uc b o e hx) e1
  · obtain⟨m1,e1⟩:=I.base.tbls b ps e
    obtain⟨m2,e2⟩:=tbls b _ e1;exact⟨m1 ++ m2,by rw [e2,Array.append_assoc]⟩
  · obtain⟨m,hn,hl⟩:=I.loc
    refine⟨m,ns m hn,fun i x v e1 e2 e3=>?_⟩;obtain⟨u,r,l⟩:=hl i x v e1 e2 e3;refine⟨u,r,?_⟩;rcases l with l|⟨k,c,e,z⟩
    · exact .inl l
    · exact .inr ⟨k,c,e,cellK x c e _ z⟩
  · obtain⟨v,z⟩:=I.cell x c e
    exact⟨v,cellK x c e v z⟩
  · obtain⟨m,⟨o,_,_,ho,_⟩,_⟩:=I.loc
    exact free _ o (fun z=>(oB _ z).2.1 rfl) ho I.free
  · obtain⟨v,o,ho,hd⟩:=I.cell x c e
    exact free c o (fun z=>(oB c z).2.2.1 x c e rfl) ho (I.freeC x c e)
  · obtain⟨e,n,ne,nf,d⟩:=I.pin p hp
    have sd:p.1∉ch:=fun z=>(oB p.1 z).2.2.2 p hp rfl
    exact⟨keep p.1 p.2 ne nf sd e n,free p.1 p.2 sd e n,ne,nf,d⟩
theorem Inv.un(I:Inv X pins σ H s)(u:Un X.fs [] H H' s.heap h')(hok:HOk X.prog X.w H' h'):Inv X pins σ H' {s with heap:=h',toks:=t'}:=by
  obtain⟨m,⟨o,es,ep,ho,r⟩,_⟩:=id I.loc;obtain⟨sl,hL⟩:=u.any ho I.free (by simp);exact I.step (g':=s.gens) (d':=s.drawn) (ch:=[]) (fun _ z=>nomatch z) (fun b o _ hb _ e n=>u.keep b o e n hb (by simp)) (fun b o _ hb _ e n=>u.slot b o e n hb (by simp)) (fun b o _ e n=>u.free b o e n (by simp)) (fun b o _ e=>u.there b o e (by simp)) u.tups u.frzs u.tbls (fun m' hm=>by
    obtain⟨o',es',pW,kH,r'⟩:=hm;rw [ho] at kH;cases kH;exact⟨_,es',pW,hL,r'⟩) hok I.bare
theorem Inv.call(I:Inv X pins σ H s)(u:Un (frs X.stack) ch H H' s.heap h')(hok:HOk X.prog X.w H' h')(hg:mK g')
    (oB:∀b∈ch,(b∈X.ex∨X.s₀.heap.objs.size≤b)∧b≠X.env.locals∧(∀x c,X.env.cells.lookup x=some c→c≠b)∧∀p∈X.pn ++ pins,p.1≠b) :
    Inv X pins σ H' {s with heap:=h',gens:=g',drawn:=d',toks:=t'}:=by
  obtain⟨m,⟨o,es,ep,ho,r⟩,_⟩:=id I.loc;obtain⟨sl,hL⟩:=u.any ho I.free fun z=>(oB _ z).2.1 rfl
  exact I.step (ch:=ch) oB (fun b o hL hb hc e n=>u.keep b o e n (fun z=>(aH.mp (I.stkSub b z)).elim hL hb) hc) (fun b o _ _ hc e n=>u.any e n hc) (fun b o hc e n=>u.free b o e n hc) (fun b o hc e=>u.there b o e hc) u.tups u.frzs u.tbls (fun m' hm=>by
    obtain⟨o',es',pW,kH,r'⟩:=hm;rw [ho] at kH;cases kH;exact⟨_,es',pW,hL,r'⟩) hok hg
theorem Inv.turned(I:Inv X pins σ H s)(k:∀b o,b≠it→s.heap.get? b=some o→h'.get? b=some o)(hn:H it=none)(hL:it≠X.env.locals)
    (h1:it∈X.ex∨X.s₀.heap.objs.size≤it) (h2:∀x c,X.env.cells.lookup x=some c→c≠it) (h3:∀p∈X.pn ++ pins,p.1≠it):Inv X pins σ H {s with heap:=h',toks:=t'}:=by
  have xm:∀b u,H b=some u→b≠it:=fun b u e z=>by rw [z,hn] at e;cases e
  refine I.step (g':=s.gens) (d':=s.drawn) (ch:=[it]) (fun b hb=>?_) (fun b o _ _ hc e _=>k b o (fun z=>hc (by simp [z])) e) (fun b o _ _ hc e _=>⟨o.slots,k b o (fun z=>hc (by simp [z])) e⟩) (fun _ _ _ _ n=>n)
    (fun b o hc e=>⟨o,k b o (fun z=>hc (by simp [z])) e⟩) (fun _ _ e=>e) (fun _ _ _ e=>e) (fun b ps e=>⟨#[],by rw [e];simp⟩) (fun m hm=>?_) (fun b u e=>?_) I.bare
  · have e:b=it:=by simpa using hb
    subst e;exact⟨h1,hL,h2,h3⟩
  · obtain⟨o,es,ep,ho,r⟩:=hm
    exact⟨o,es,ep,k _ o (eJ hL) ho,r⟩
  · refine (I.hok b u e).stay (fun c v hc q=>k c v ?_ q) (fun _ q=>q) fun _ _ q=>q
    rcases hc with z|z
    · rw [z];exact xm b u e
    · exact xm c _ z
theorem Inv.tok(I:Inv X pins σ H s)(t:Nat):Inv X pins σ H {s with toks:=t}:=I.un (h':=s.heap) (t':=t) Un.refl I.hok
theorem Inv.kept(I:Inv X pins σ H s)(k:∀b u,s.heap.get? b=some u→h'.get? b=some u):Inv X pins σ H {s with heap:=h',toks:=t'}:=I.un (Un.kept k) (I.hok.kept k)
theorem Inv.laid{a:az}{o:HO}{t':Nat}(I:Inv X pins σ H s)(k:∀b u,s.heap.get? b=some u→h'.get? b=some u)(hp:s.heap.objs.size≤a)(new:ObjOk X.prog X.w (upd H a o) h' a o) :
    Inv X pins σ (upd H a o) {s with heap:=h',toks:=t'}:=I.un (Un.laid k hp (I.hok.fresh hp)) (I.hok.laid k hp new)
theorem Inv.write(I:Inv X pins σ H s)(mu:Mut (H x))(he:e=x∨H e=some (.own x))(k:∀b u,b≠e→s.heap.get? b=some u→h'.get? b=some u)(rh:∃u,h'.get? e=some u)
    (new:ObjOk X.prog X.w (upd H x o) h' x o):Inv X pins σ (upd H x o) {s with heap:=h',toks:=t'}:=I.un (Un.write mu he k rh) (I.hok.write mu he k rh new)
theorem Inv.pins_of(I:Inv X pins σ H s)(h:∀p∈rY,s.heap.get? p.1=some p.2∧H p.1=none∧p.1≠X.env.locals∧p.1∉X.fs∧∀v,p.2.data≠.cell v):Inv X rY σ H s:=
  ⟨I.ok,I.os,I.bare,I.base,I.loc,I.cell,I.free,I.freeC,fun p hp=>(aw.mp hp).elim (fun z=>I.pin p (av _ z)) (h p),I.hok,I.len⟩
theorem a4B{N:List bM}(hN:N.Nodup){i j:Nat}{x:bM}(a:N[i]?=some x)(b:N[j]?=some x):i=j:=by
  obtain⟨h1,e1⟩:=ay.mp a;obtain⟨h2,e2⟩:=ay.mp b;exact (List.getElem_inj hN).mp (e1.trans e2.symm)
theorem a8p{M:Model}{A:bT}{E:aj→au→Prop}{i:Nat}{x:bM}{v:V}{u:aj}{Q:Unit→au→Prop}(I:Inv X pins σ H s)(hN:X.N.Nodup)(hi:X.N[i]?=some x)(hx:Loc X.env.scope x)(r:RelV v u)
    (h:∀s',Inv X pins (σ.set i (some v)) H s'→(∃a,fG a s.heap s'.heap∧(a=X.env.locals∨X.env.cells.lookup x=some a))→Q () s') (hf:X.fn x=true∨X.env.scope.names.lookup x=some .local:=by first|exact .inl rfl|exact .inr rfl|assumption):aQ M A (storeName X.env x u) Q E s:=by
  obtain⟨m,hn,hl⟩:=id I.loc;have wd:(X.env.scope.kind == .class || (X.env.scope.kind == .module && X.env.locals != X.env.globals))=false:=by rw [I.ok.kind];rfl
  have sR:i < σ.length:=by rw [I.len];exact (ay.mp hi).1
  have cne:=I.cne;have tracked:∀{a:az} {h':cm},(∃o,s.heap.get? a=some o∧H a=none)→fG a s.heap h'→HOk X.prog X.w H h':=fun {a h'} ha hs b ob e=>by
    obtain⟨_,_,ll⟩:=ha;refine (I.hok b ob e).stay (fun c w' hc q=>(hs.2 c ?_).trans q) (fun _ q=>q) fun _ _ q=>q
    rintro rfl;rcases hc with rfl|hc
    · rw [ll] at e;cases e
    · rw [ll] at hc;cases hc
  rcases hx with hk|hk
  · refine wpAny_storeName_local hk hn (fun h' qF hs=>?_) wd
    obtain⟨oL,_,_,zW,_⟩:=id hn;refine h _ ⟨I.ok,I.os,I.bare,⟨fun b o e n hb hx=>?_,fun b o e n hb hx=>?_,I.base.free,fun b o e hx=>?_,I.base.tups,I.base.frzs,I.base.tbls⟩,⟨_,qF,fun j y v' e1 e2 e3=>?_⟩,fun y c e=>?_,I.free,I.freeC,fun p hp=>?_,tracked ⟨oL,zW,I.free⟩ hs,by simpa using I.len⟩ ⟨_,hs,.inl rfl⟩
    · exact (hs.2 b (bH (bF (aS e) I.ok.above))).trans (I.base.keep b o e n hb hx)
    · obtain⟨sl,e1⟩:=I.base.slot b o e n hb hx
      exact⟨sl,(hs.2 b (bH (bF (aS e) I.ok.above))).trans e1⟩
    · obtain⟨o',e1⟩:=I.base.there b o e hx
      exact⟨o',(hs.2 b (bH (bF (aS e) I.ok.above))).trans e1⟩
    · by_cases hj:j=i
      · subst hj
        rw [hi] at e1;cases e1;rw [c_ sR] at e2;cases e2
        exact⟨u,r,.inl ⟨hk,by simp⟩⟩
      · rw [cX (eJ hj)] at e2
        obtain⟨u',r',q⟩:=hl j y v' e1 e2 e3;refine⟨u',r',?_⟩;rcases q with⟨k,e⟩|⟨k,c,e,z⟩
        · refine .inl ⟨k,?_⟩
          have:y≠x:=fun e=>hj (a4B hN e1 (e ▸ hi))
          simp [this,e]
        · exact .inr ⟨k,c,e,z.sameBut hs (cne y c e)⟩
    · obtain⟨w',z⟩:=I.cell y c e
      exact⟨w',z.sameBut hs (cne y c e)⟩
    · obtain⟨e,n,ne,nf,d⟩:=I.pin p hp
      exact⟨(hs.2 p.1 ne).trans e,n,ne,nf,d⟩
  · have rf:X.fn x=true:=by
      rcases hf with z|z
      · exact z
      · rw [z] at hk;cases hk
    obtain⟨c,hc⟩:=I.ok.has x (.inl hk);obtain⟨w',z⟩:=I.cell x c hc;refine wpAny_storeName_cell I.ok.kind hk hc z (fun h' pQ hs=>?_);obtain⟨oc,xP,vE⟩:=id z;refine h {s with heap:=h'} ⟨I.ok,I.os,I.bare,⟨fun b o e n hb hx=>?_,fun b o e n hb hx=>?_,I.base.free,fun b o e hx=>?_,I.base.tups,I.base.frzs,I.base.tbls⟩,⟨m,hn.sameBut hs (eJ (cne x c hc)),fun j y v' e1 e2 e3=>?_⟩,fun y c' e=>?_,I.free,I.freeC,fun p hp=>?_,tracked ⟨oc,xP,I.freeC x c hc⟩ hs,by simpa using I.len⟩ ⟨c,hs,.inr hc⟩
    · exact (hs.2 b (bH (bF (aS e) (I.ok.cab x c rf hc)))).trans (I.base.keep b o e n hb hx)
    · obtain⟨sl,e1⟩:=I.base.slot b o e n hb hx
      exact⟨sl,(hs.2 b (bH (bF (aS e) (I.ok.cab x c rf hc)))).trans e1⟩
    · obtain⟨o',e1⟩:=I.base.there b o e hx
      exact⟨o',(hs.2 b (bH (bF (aS e) (I.ok.cab x c rf hc)))).trans e1⟩
    · by_cases hj:j=i
      · subst hj
        rw [hi] at e1;cases e1;rw [c_ sR] at e2;cases e2
        exact⟨u,r,.inr ⟨.inl hk,c,hc,pQ⟩⟩
      · rw [cX (eJ hj)] at e2
        obtain⟨u',r',q⟩:=hl j y v' e1 e2 e3;refine⟨u',r',?_⟩;rcases q with q|⟨k,c',e,z'⟩
        · exact .inl q
        · refine .inr ⟨k,c',e,z'.sameBut hs ?_⟩
          rintro rfl;exact hj (a4B hN e1 (I.ok.inj _ _ _ e hc ▸ hi))
    · by_cases rj:c'=c
      · subst rj;exact⟨_,pQ⟩
      · obtain⟨w2,z2⟩:=I.cell y c' e
        exact⟨w2,z2.sameBut hs rj⟩
    · obtain⟨e,n,ne,nf,d⟩:=I.pin p hp
      refine⟨(hs.2 p.1 ?_).trans e,n,ne,nf,d⟩;intro q;rw [q,xP] at e;have q':oc=p.2:=aP e;exact d w' (by rw [←q'];exact vE)
theorem Y1(I:Inv X pins σ H s)(hN:X.N.Nodup)(hi:X.N[i]?=some x)(hx:Loc X.env.scope x)(r:RelV v u)
    (h:∀s',Inv X pins (σ.set i (some v)) H s'→Q () s') (hf:X.fn x=true∨X.env.scope.names.lookup x=some .local:=by first|exact .inl rfl|exact .inr rfl|assumption):aQ M A (storeName X.env x u) Q E s:=
  a8p I hN hi hx r (fun s' I' _=>h s' I') hf
theorem Inv.call'{s':au}(I:Inv X pins σ H s)(ho:s'.os=s.os)(u:Un (frs X.stack) ch H H' s.heap s'.heap)(hok:HOk X.prog X.w H' s'.heap)(hg:mK s'.gens)
    (oB:∀b∈ch,(b∈X.ex∨X.s₀.heap.objs.size≤b)∧b≠X.env.locals∧(∀x c,X.env.cells.lookup x=some c→c≠b)∧∀p∈X.pn ++ pins,p.1≠b):Inv X pins σ H' s':=by
  obtain⟨h',g',d',t',o'⟩:=s';have e:o'=s.os:=ho;subst e;exact I.call (g':=g') (t':=t') (d':=d') u hok hg oB
end
abbrev XK:=aj→Option az→Hp→Prop
abbrev St:=List (Option V)
abbrev VK:=V→Hp→Prop
abbrev TE:=St→Hp→VK→Prop
abbrev TT:=St→Hp→(Bool→Hp→Prop)→Prop
abbrev TA:=St→Hp→(List V→Hp→Prop)→Prop
structure Ends where
  nx:St→Hp→Prop
  rt:VK
  bk:St→Hp→Prop:=fun _ _=>False
  ct:St→Hp→Prop:=fun _ _=>False
abbrev TS:=Ends→St→Hp→Prop
def EP(X:Cx)(pins:List (az × eW))(σ:St)(Q:VK)(u:aj)(s':au):Prop:=∃v H',Inv X pins σ H' s'∧RelV v u∧Q v H'
def TP(X:Cx)(pins:List (az × eW))(σ:St)(Q:Bool→Hp→Prop)(b:Bool)(s':au):Prop:=∃H',Inv X pins σ H' s'∧Q b H'
def AP(X:Cx)(pins:List (az × eW))(σ:St)(Q:List V→Hp→Prop)(us:List aj)(s':au):Prop:=∃vs H',Inv X pins σ H' s'∧Vals vs us∧Q vs H'
def SP(X:Cx)(pins:List (az × eW))(D:Ends)(f:Flow)(s':au):Prop:=
  match f with
  | .next=>∃σ' H',Inv X pins σ' H' s'∧D.nx σ' H'
  | .brk=>∃σ' H',Inv X pins σ' H' s'∧D.bk σ' H'
  | .cont=>∃σ' H',Inv X pins σ' H' s'∧D.ct σ' H'
  | .ret u=>∃v σ' H',Inv X pins σ' H' s'∧RelV v u∧D.rt v H'
def PE(X:Cx)(e:Expr)(t:TE):Prop:=
  ∀(pins:List (az × eW)) (s:au) (σ:St) (H:Hp) (Q:VK),Inv X pins σ H s→t σ H Q→aQ (bc X.prog X.w) X.A (cO e X.env) (EP X pins σ Q) X.xe s
def PT(X:Cx)(e:Expr)(t:TT):Prop:=
  ∀(pins:List (az × eW)) (s:au) (σ:St) (H:Hp) (Q:Bool→Hp→Prop),Inv X pins σ H s→t σ H Q→aQ (bc X.prog X.w) X.A (zA e X.env (cO e X.env)) (TP X pins σ Q) X.xe s
def PW(X:Cx)(e:Expr)(t:TT):Prop:=
  ∀(whole:Sem aj) (pins:List (az × eW)) (s:au) (σ:St) (H:Hp) (Q:Bool→Hp→Prop),Inv X pins σ H s→t σ H Q→aQ (bc X.prog X.w) X.A (zA e X.env whole) (TP X pins σ Q) X.xe s
theorem PW.pt(h:PW X e t):PT X e t:=h _
def PA(X:Cx)(es:List Expr)(t:TA):Prop:=
  ∀(pos:eM) (pins:List (az × eW)) (s:au) (σ:St) (H:Hp) (Q:List V→Hp→Prop),Inv X pins σ H s→t σ H Q→aQ (bc X.prog X.w) X.A (spliced (cP pos (aF es X.env))) (AP X pins σ Q) X.xe s
def PS(X:Cx)(st:g_)(t:TS):Prop:=
  ∀(pins:List (az × eW)) (s:au) (σ:St) (H:Hp) (D:Ends),Inv X pins σ H s→t D σ H→aQ (bc X.prog X.w) X.A (exec st X.env) (SP X pins D) X.xe s
def PSs(X:Cx)(st:List g_)(t:TS):Prop:=
  ∀(pins:List (az × eW)) (s:au) (σ:St) (H:Hp) (D:Ends),Inv X pins σ H s→t D σ H→aQ (bc X.prog X.w) X.A (execs st X.env) (SP X pins D) X.xe s
theorem thn{α:Type}{t:Sem α}{Q Q':α→au→Prop}{M:Model}{A:bT}{E:aj→au→Prop}{s:au}(h:aQ M A t Q E s)(hQ:∀a s,Q a s→Q' a s):aQ M A t Q' E s:=dG h hQ fun _ _ x=>x
end L2
namespace L2
open PySem PySem.Spec PyProof.Rows
section
variable {X:Cx}
def b2f(i:Nat):TE:=fun σ H Q=>∃v,σ[i]?=some (some v)∧Q v H
def tC(v:V):TE:=fun _ H Q=>Q v H
theorem A5(hN:X.N[i]?=some x)(hv:Vis X.env.scope x)(hd:(x == ("__debug__":bM))=false:=by decide)(hW:(x == ("__classdict__":bM))=false:=by decide):PE X (.Name x pos) (b2f i):=by
  intro pins s σ H Q I h;obtain⟨v,e,h⟩:=h;obtain⟨m,hn,hl⟩:=I.loc;obtain⟨u,r,l⟩:=hl i x v hN e hv;have fin:EP X pins σ Q u s:=⟨v,H,I,r,h⟩;rcases l with⟨hk,hm⟩|⟨hk,c,hc,jE⟩
  · exact wpAny_Name (wpAny_loadName_local I.ok.kind hk hn hm fin) hd
  · rcases hk with hk|hk
    · exact wpAny_Name (wpAny_loadName_cell I.ok.kind hk hc jE fin) hd
    · exact wpAny_Name (wpAny_loadName_free I.ok.kind hk hc jE fin hW) hd
theorem a9D{i j pos}:PE X (.Constant (.int i) j pos) (tC (.int i)):=fun _ _ _ H _ I h=>wpAny_Constant_int ⟨.int i,H,I.tok _,⟨_,rfl⟩,h⟩
theorem b6p{b j pos}:PE X (.Constant (.bool b) j pos) (tC (.bl b)):=fun _ _ _ H _ I h=>Constant_bool ⟨.bl b,H,I,rfl,h⟩
theorem b4n{j pos}:PE X (.Constant .none j pos) (tC .non):=fun _ _ _ H _ I h=>Constant_none ⟨.non,H,I,rfl,h⟩
def Gl(X:Cx)(x:bM):Prop:=X.env.kindOf x=some .globalImplicit
theorem a7w(I:Inv X pins σ H s)(hg:Gl X x)(hm:X.mg x=some u)(h:Q u s)
    (hd:(x == ("__debug__":bM))=false:=by decide):aQ (bc X.prog X.w) X.A (cO (.Name x pos) X.env) Q E s:=
  tX I.ok.kind hg (Calls.loadGlobal_global (by rw [I.ok.glob];exact I.mod.glob.keeps I.bk) hm h) hd
theorem a1u(I:Inv X pins σ H s)(hg:Gl X x)(hm:X.mg x=none)(hv:gh x=some u)(h:Q u s)
    (hn:x≠"__name__":=by decide) (hd:(x == ("__debug__":bM))=false:=by decide):aQ (bc X.prog X.w) X.A (cO (.Name x pos) X.env) Q E s:=by
  obtain⟨mb,h1,h2⟩:=I.mod.blt;exact tX I.ok.kind hg (Calls.loadGlobal_builtin (by rw [I.ok.glob];exact I.mod.glob.keeps I.bk) hm (by rw [I.ok.blt];exact h1.keeps I.bk) ((h2 x hn).trans hv) h) hd
theorem b2g(hg:Gl X x)(hm:X.mg x=some u)(r:RelV v u)(hd:(x == ("__debug__":bM))=false:=by decide):PE X (.Name x pos) (tC v):=
  fun _ _ _ H _ I h=>a7w I hg hm ⟨v,H,I,r,h⟩ hd
theorem b2h(hg:Gl X x)(hm:X.mg x=none)(hv:gh x=some u)(r:RelV v u)(hn:x≠"__name__":=by decide)(hd:(x == ("__debug__":bM))=false:=by decide):PE X (.Name x pos) (tC v):=
  fun _ _ _ H _ I h=>a1u I hg hm hv ⟨v,H,I,r,h⟩ hn hd
variable {a b:Expr}{ta tb:TE}{pos:eM}
def tB(t:TE):TT:=fun σ H Q=>t σ H fun x H1=>∃c,x=.bl c∧Q c H1
variable {tA tY:TT}{rest:List Expr}
def b7W(t u:TT):TT:=fun σ H Q=>t σ H fun c H1=>if c=true then u σ H1 Q else Q false H1
def tOr(t u:TT):TT:=fun σ H Q=>t σ H fun c H1=>if c=true then Q true H1 else u σ H1 Q
def b7X(t:TT):TT:=fun σ H Q=>t σ H fun c H1=>Q (!c) H1
theorem b2i(ha:PT X a tA):PW X (.BoolOp .And [a] pos) tA:=by
  intro wh pins s σ H Q I h;refine isTrue_and (thn (ha pins s σ H Q I h) fun c s1 e=>?_);cases c with
  | true=>exact isTrue_and_nil e
  | false=>exact e
theorem b4o(ha:PT X a tA):PW X (.BoolOp .Or [a] pos) tA:=by
  intro wh pins s σ H Q I h;refine isTrue_or (thn (ha pins s σ H Q I h) fun c s1 e=>?_);cases c with
  | false=>exact isTrue_or_nil e
  | true=>exact e
theorem b4p(ha:PT X a tA)(hb:PW X (.BoolOp .And (b :: rest) pos) tY):PW X (.BoolOp .And (a :: b :: rest) pos) (b7W tA tY):=by
  intro wh pins s σ H Q I h;refine isTrue_and (thn (ha pins s σ H _ I h) fun c s1 ⟨H1,I1,q1⟩=>?_);cases c with
  | true=>exact hb wh pins s1 σ H1 Q I1 q1
  | false=>exact⟨H1,I1,q1⟩
theorem b6q(ha:PT X a tA)(hb:PW X (.BoolOp .Or (b :: rest) pos) tY):PW X (.BoolOp .Or (a :: b :: rest) pos) (tOr tA tY):=by
  intro wh pins s σ H Q I h;refine isTrue_or (thn (ha pins s σ H _ I h) fun c s1 ⟨H1,I1,q1⟩=>?_);cases c with
  | true=>exact⟨H1,I1,q1⟩
  | false=>exact hb wh pins s1 σ H1 Q I1 q1
theorem b4q(ha:PT X a tA):PT X (.UnaryOp .Not a pos) (b7X tA):=by
  intro pins s σ H Q I h;exact isTrue_not (ha pins s σ H (fun c H1=>Q (!c) H1) I h)
def b6r(ta tb:TE):TE:=fun σ H Q=>ta σ H fun x H1=>∃c,x=.bl c∧if c=true then tb σ H1 Q else Q (.bl false) H1
def b6s(ta:TE):TE:=fun σ H Q=>ta σ H fun x H1=>∃c,x=.bl c∧Q (.bl (!c)) H1
theorem b4r{op}(h:PE X a t):PE X (.BoolOp op [a] pos) t:=fun pins s σ H Q I hw=>BoolOp_one (h pins s σ H Q I hw)
theorem b4s(ha:PE X a ta)(hb:PE X (.BoolOp .And (b :: rest) pos) tb):PE X (.BoolOp .And (a :: b :: rest) pos) (b6r ta tb):=by
  intro pins s σ H Q I h;refine BoolOp_and (thn (ha pins s σ H _ I h) fun v s1 ⟨x,H1,I1,r1,q1⟩=>?_);obtain⟨c,rfl,q1⟩:=q1;cases r1
  refine dP ?_;cases c with
  | true=>exact hb pins s1 σ H1 Q I1 q1
  | false=>exact⟨.bl false,H1,I1,rfl,q1⟩
theorem b4t(ha:PE X a ta):PE X (.UnaryOp .Not a pos) (b6s ta):=by
  intro pins s σ H Q I h;refine UnaryOp_ (thn (ha pins s σ H _ I h) fun v s1 ⟨x,H1,I1,r1,q1⟩=>?_);obtain⟨c,rfl,q1⟩:=q1;cases r1
  exact not_of (dP ⟨.bl (!c),H1,I1,rfl,q1⟩)
end
end L2
namespace L2
open PySem PySem.Spec PyProof.Rows
def SqL(K:ag)(H:Hp)(a:az)(xs:List V):Prop:=
  Rd H a (.lst xs)∨
    ∃(o:eW) (cE:Array aj) (n:Nat),K.lookup a=some o∧o.cls=.type "list"∧o.dict=none∧o.data=.seq cE n∧cE.size≤aT∧Vals xs cE.toList
def SqT(K:ag)(H:Hp)(a:az)(xs:List V):Prop:=
  Rd H a (.tup xs)∨
    ∃(o:eW) (cE:Array aj) (n:Nat),K.lookup a=some o∧o.cls=.type "tuple"∧o.data=.seq cE n∧cE.size≤aT∧Vals xs cE.toList
def b7Y:aj→Option V
  | .none=>some .non
  | .bool b=>some (.bl b)
  | .int i _=>some (.int i)
  | .str x _=>some (.str x)
  | .bytes b _=>some (.byt b)
  | .float b _=>some (.flt b)
  | .ref a=>some (.ref a)
  | .type n=>some (.ty n)
  | _=>none
theorem RelV.abs(r:RelV x u):b7Y u=some x:=by
  cases x with
  | non=>cases r;rfl
  | bl _=>cases r;rfl
  | int _=>obtain⟨t,rfl⟩:=r;rfl
  | str _=>obtain⟨t,rfl⟩:=r;rfl
  | byt _=>obtain⟨t,rfl⟩:=r;rfl
  | flt _=>obtain⟨t,rfl⟩:=r;rfl
  | ref _=>cases r;rfl
  | ty _=>cases r;rfl
theorem RelV.inj(r:RelV x u)(q:RelV y u):x=y:=aP (r.abs.symm.trans q.abs)
theorem Vals.inj:∀{xs ys:List V} {us:List aj},Vals xs us→Vals ys us→xs=ys
  | _,_,_,.nil,.nil=>rfl
  | _,_,_,.cons r t,.cons r' t'=>by rw [r.inj r',Vals.inj t t']
section
variable {X:Cx}{pins:List (az × eW)}{σ:St}{H:Hp}{s:au}{a:az}{xs ys:List V}
theorem SqL.of{K:ag}(h:H a=some (.lst xs)):SqL K H a xs:=.inl (.inl h)
theorem SqT.of{K:ag}(h:H a=some (.tup xs)):SqT K H a xs:=.inl (.inl h)
theorem Inv.list(I:Inv X pins σ H s)(h:SqL X.K H a xs):∃cE:List aj,Vals xs cE∧PlainL s.heap a cE.toArray∧xs.length≤aT:=by
  rcases h with h|⟨o,cE,n,hk,hc,hd,hs,hz,r⟩
  · obtain⟨z,cE,n,r,e⟩:=h.ok I.hok
    exact⟨cE,r,⟨_,n,e,rfl,rfl,rfl⟩,z⟩
  · refine⟨cE.toList,r,⟨o,n,I.kIn a o hk,hc,hd,by simpa using hs⟩,?_⟩
    have e:=r.length;simp only [bL] at e;omega
theorem Inv.tuple(I:Inv X pins σ H s)(h:SqT X.K H a xs):∃cE:List aj,Vals xs cE∧IsTup s.heap a cE.toArray∧xs.length≤aT:=by
  rcases h with h|⟨o,cE,n,hk,hc,hs,hz,r⟩
  · obtain⟨z,cE,r,p⟩:=h.ok I.hok
    exact⟨cE,r,p,z⟩
  · refine⟨cE.toList,r,⟨o,I.kIn a o hk,hc,n,by simpa using hs⟩,?_⟩
    have e:=r.length;simp only [bL] at e;omega
theorem Inv.list_inj(I:Inv X pins σ H s)(h:SqL X.K H a xs)(h':SqL X.K H a ys):xs=ys:=by
  obtain⟨cE,r,⟨o,n,e,_,_,d⟩,_⟩:=I.list h;obtain⟨its',r',⟨o',n',e',_,_,d'⟩,_⟩:=I.list h';rw [e] at e';cases e';rw [d] at d'
  injection d' with d1 _
  have:cE=its':=by simpa using eG Array.toList d1
  subst this;exact r.inj r'
end
abbrev Cx.wish(X:Cx)(E:aj→au→Prop):Cx:={X with xe:=E}
abbrev Cx.nox(X:Cx):Cx:=X.wish fun _ _=>False
theorem Cx.Ok.wish{X:Cx}(ok:X.Ok)(E:aj→au→Prop):(X.wish E).Ok:=
  ⟨ok.mod,ok.kind,ok.glob,ok.blt,ok.above,ok.inj,ok.has,ok.cab,ok.hd,ok.frames,ok.stk,ok.exf,ok.bs,ok.bsz,ok.noex,ok.exfs,ok.funs,ok.frf,ok.tabs⟩
theorem Cx.Ok.unwish{X:Cx}(ok:(X.wish E).Ok):X.Ok:=
  ⟨ok.mod,ok.kind,ok.glob,ok.blt,ok.above,ok.inj,ok.has,ok.cab,ok.hd,ok.frames,ok.stk,ok.exf,ok.bs,ok.bsz,ok.noex,ok.exfs,ok.funs,ok.frf,ok.tabs⟩
section
variable {X:Cx}{pins:List (az × eW)}{σ:St}{H:Hp}{s:au}{E:aj→au→Prop}
theorem Inv.wish(I:Inv X pins σ H s)(E:aj→au→Prop):Inv (X.wish E) pins σ H s:=⟨I.ok.wish E,I.os,I.bare,I.base,I.loc,I.cell,I.free,I.freeC,I.pin,I.hok,I.len⟩
theorem Inv.unwish(I:Inv (X.wish E) pins σ H s):Inv X pins σ H s:=⟨I.ok.unwish,I.os,I.bare,I.base,I.loc,I.cell,I.free,I.freeC,I.pin,I.hok,I.len⟩
theorem SP.unwish(h:SP (X.wish E) pins D f s'):SP X pins D f s':=by
  cases f with
  | next=>obtain⟨σ',H',I,q⟩:=h;exact⟨σ',H',I.unwish,q⟩
  | brk=>obtain⟨σ',H',I,q⟩:=h;exact⟨σ',H',I.unwish,q⟩
  | cont=>obtain⟨σ',H',I,q⟩:=h;exact⟨σ',H',I.unwish,q⟩
  | ret u=>obtain⟨v,σ',H',I,r,q⟩:=h;exact⟨v,σ',H',I.unwish,r,q⟩
theorem PSs.nox{st:List g_}{t:TS}(h:PSs X.nox st t):PSs X st t:=fun pins s σ H D I hw=>
  dG (h pins s σ H D (I.wish _) hw) (fun _ _ q=>q.unwish) fun _ _ z=>fO z
end
section
variable {X:Cx}{st:g_}{rest:List g_}{t u:TS}{e:Expr}{te:TE}{pos:eM}
def b6t:TS:=fun D σ H=>D.nx σ H
def b7Z(t u:TS):TS:=fun D σ H=>t {D with nx:=u D} σ H
theorem a7x:PSs X [] b6t:=fun _ _ σ H _ I h=>kE ⟨σ,H,I,h⟩
theorem Q2(h1:PS X st t)(h2:PSs X rest u):PSs X (st :: rest) (b7Z t u):=by
  intro pins s σ H D I h;refine wpAny_execs_cons (thn (h1 pins s σ H {D with nx:=u D} I h) fun f s1 q=>?_);cases f with
  | next=>
    obtain⟨σ',H',I',q⟩:=q;exact h2 pins s1 σ' H' D I' q
  | ret v=>exact q
  | brk=>exact q
  | cont=>exact q
theorem a3F(h1:PS X st t):PSs X [st] t:=by
  intro pins s σ H D I h;refine wpAny_execs_cons (thn (h1 pins s σ H D I h) fun f s1 q=>?_);cases f with
  | next=>exact kE q
  | ret v=>exact q
  | brk=>exact q
  | cont=>exact q
theorem Inv.quiet{pins:List (az × eW)}{σ:St}{H:Hp}{s:au}(I:Inv X pins σ H s):interactive X.env=false:=by simp [interactive,I.ok.kind]
def b6u(te:TE):TS:=fun D σ H=>te σ H fun _ H1=>D.nx σ H1
theorem N4(he:PE X e te)(hs:dQ e none pos.line X.env=pure false:=by rfl):PS X (.Expr e pos) (b6u te):=by
  intro pins s σ H D I h;exact wpAny_Expr_any (thn (he pins s σ H _ I h) fun v s1 ⟨x,H1,I1,r1,q1⟩=>⟨σ,H1,I1,q1⟩) I.quiet hs
def b8a(te:TE):TS:=fun D σ H=>te σ H D.rt
theorem a9E(he:PE X e te):PS X (.Return (some e) pos) (b8a te):=by
  intro pins s σ H D I h;exact wpAny_Return_some (thn (he pins s σ H _ I h) fun v s1 ⟨x,H1,I1,r1,q1⟩=>⟨x,σ,H1,I1,r1,q1⟩)
def b8b(c:TT)(t u:TS):TS:=fun D σ H=>c σ H fun b H1=>if b=true then t D σ H1 else u D σ H1
theorem b3R{c:Expr}{a b:List g_}{tc:TT}(hc:PT X c tc)(ha:PSs X a t)(hb:PSs X b u):PS X (.If c a b pos) (b8b tc t u):=by
  intro pins s σ H D I h;refine wpAny_If (thn (hc pins s σ H _ I h) fun d s1 ⟨H1,I1,q1⟩=>?_);cases d with
  | true=>exact ha pins s1 σ H1 D I1 q1
  | false=>exact hb pins s1 σ H1 D I1 q1
def b4u:TS:=fun _ _ _=>False
theorem a9F:PS X st b4u:=fun _ _ _ _ _ _ h=>h.elim
end
abbrev TG:=V→St→Hp→(St→Hp→Prop)→Prop
abbrev TGs:=List V→St→Hp→(St→Hp→Prop)→Prop
def PG(X:Cx)(target:Expr)(t:TG):Prop:=
  ∀(pins:List (az × eW)) (s:au) (σ:St) (H:Hp) (v:V) (u:aj) (Q:St→Hp→Prop),Inv X pins σ H s→RelV v u→t v σ H Q→
    aQ (bc X.prog X.w) X.A (mT target X.env u) (fun _ s'=>∃σ' H',Inv X pins σ' H' s'∧Q σ' H') X.xe s
def PGs(X:Cx)(ts:List Expr)(t:TGs):Prop:=
  ∀(pins:List (az × eW)) (s:au) (σ:St) (H:Hp) (vs:List V) (us:List aj) (Q:St→Hp→Prop),Inv X pins σ H s→Vals vs us→t vs σ H Q→
    aQ (bc X.prog X.w) X.A (assignInOrder ((gI ts X.env).map (·.2)) us) (fun _ s'=>∃σ' H',Inv X pins σ' H' s'∧Q σ' H') X.xe s
abbrev TIp:=V→V→Hp→VK→Prop
def PIp(X:Cx)(op:Operator)(t:TIp):Prop:=
  ∀(pins:List (az × eW)) (s:au) (σ:St) (H:Hp) (x y:V) (v u:aj) (Q:VK),Inv X pins σ H s→RelV x v→RelV y u→t x y H Q→
    aQ (bc X.prog X.w) X.A (inplaceOp op v u) (EP X pins σ Q) X.xe s
section
variable {X:Cx}{pos:eM}
def J4(i:Nat):TG:=fun v σ H Q=>Q (σ.set i (some v)) H
theorem o8(hN:X.N.Nodup)(hi:X.N[i]?=some x)(hx:Loc X.env.scope x)(hf:X.fn x=true∨X.env.scope.names.lookup x=some .local:=by first|exact .inl rfl|exact .inr rfl|assumption):PG X (.Name x pos) (J4 i):=by
  intro pins s σ H v u Q I r h;exact wpAny_assign_Name (Y1 I hN hi hx r (fun s' I'=>⟨_,H,I',h⟩) hf)
def a9G:TGs:=fun vs σ H Q=>vs=[]∧Q σ H
def Y2(t:TG)(u:TGs):TGs:=fun vs σ H Q=>∃v r,vs=v :: r∧t v σ H fun σ' H'=>u r σ' H' Q
theorem G6:PGs X [] a9G:=by
  intro pins s σ H vs us Q I r h;obtain⟨e,h⟩:=h;subst e;cases r
  exact assignInOrder_nil ⟨σ,H,I,h⟩
theorem o5{e:Expr}{es:List Expr}{t:TG}{u:TGs}(h1:PG X e t)(h2:PGs X es u)
    (hs:(gI (e :: es) X.env).map (·.2)=mT e X.env :: (gI es X.env).map (·.2):=by rfl):PGs X (e :: es) (Y2 t u):=by
  intro pins s σ H vs us Q I r h;obtain⟨v,vr,e1,h⟩:=h;subst e1;cases r with
  | cons r rr=>
    rw [hs];refine assignInOrder_cons (thn (h1 pins s σ H _ _ _ I r h) fun _ s1 ⟨σ1,H1,I1,q1⟩=>?_);exact h2 pins s1 σ1 H1 _ _ Q I1 rr q1
def b2j(K:ag)(n:Nat)(t:TGs):TG:=fun v σ H Q=>∃a xs,v=.ref a∧SqT K H a xs∧xs.length=n∧t xs σ H Q
theorem a0i(hc:X.calm=true)(h:PGs X es t)
    (hn:(gI es X.env).length=n:=by rfl) (qY:(gI es X.env).findIdx? (·.1)=none:=by rfl):PG X (.Tuple es k pos) (b2j X.K n t):=by
  intro pins s σ H v u Q I r hw;obtain⟨a,xs,e1,hq,hl,hw⟩:=hw;subst e1;cases r
  obtain⟨cE,rv,ht,hz⟩:=I.tuple hq;refine assign_Tuple_tuple (I.ok.hd hc) ht (by simp [hn,←hl,rv.length]) qY fun h' hx=>?_
  have I1:Inv X pins σ H {s with heap:=h'}:=I.kept (t':=s.toks) fun b o e=>hx b o (bH (aS e)) e
  exact h pins _ σ H xs _ Q I1 (by simpa using rv) hw
def b4v(te:TE)(g:TG):TS:=fun D σ H=>te σ H fun x H1=>g x σ H1 D.nx
theorem b4w{tg e:Expr}{te:TE}{g:TG}(he:PE X e te)(hg:PG X tg g)(hs:swapsWithSole [tg] e pos.line X.env=pure false:=by rfl)(hw:swappedStores [tg] e X.env=pure none:=by rfl)
    (h1:(gI [tg] X.env).map (·.2)=[mT tg X.env]:=by rfl):PS X (.Assign [tg] e pos) (b4v te g):=by
  intro pins s σ H D I h;refine wpAny_Assign_stores (thn (he pins s σ H _ I h) fun v s1 ⟨x,H1,I1,r1,q1⟩=>?_) hs hw;rw [h1];exact thn (hg pins s1 σ H1 x v _ I1 r1 q1) fun _ s2 q=>q
theorem a6a{i:Nat}{x:bM}{e:Expr}{te:TE}{pos':eM}(hN:X.N.Nodup)(hi:X.N[i]?=some x)(hx:Loc X.env.scope x)(he:PE X e te)(hs:dQ e (some (.Name x pos')) pos.line X.env=pure false:=by rfl)(hf:X.fn x=true∨X.env.scope.names.lookup x=some .local:=by first|exact .inl rfl|exact .inr rfl|assumption) :
    PS X (.Assign [.Name x pos'] e pos) (b4v te (J4 i)):=by
  intro pins s σ H D I h;refine wpAny_Assign_Name (thn (he pins s σ H _ I h) fun v s1 ⟨y,H1,I1,r1,q1⟩=>?_) hs;exact Y1 I1 hN hi hx r1 (fun s2 I2=>⟨_,H1,I2,q1⟩) hf
def b8c(i:Nat)(te:TE)(ti:TIp):TS:=fun D σ H=>∃x,σ[i]?=some (some x)∧te σ H fun y H1=>ti x y H1 fun z H2=>D.nx (σ.set i (some z)) H2
theorem b4x{i:Nat}{x:bM}{e:Expr}{te:TE}{op:Operator}{ti:TIp}{pos':eM}(hN:X.N.Nodup)(hi:X.N[i]?=some x)(hx:Loc X.env.scope x)(he:PE X e te)(ho:PIp X op ti)(hf:X.fn x=true∨X.env.scope.names.lookup x=some .local:=by first|exact .inl rfl|exact .inr rfl|assumption) :
    PS X (.AugAssign (.Name x pos') op e pos) (b8c i te ti):=by
  intro pins s σ H D I h;obtain⟨v,e1,h⟩:=h;obtain⟨m,hn,hl⟩:=I.loc;have yX:Vis X.env.scope x:=by rcases hx with k|k;exact .inl k;exact .inr (.inl k)
  obtain⟨u,r,l⟩:=hl i x v hi e1 yX;refine wpAny_AugAssign_Name ?_;have go:aQ (bc X.prog X.w) X.A (cO e X.env) (fun w s₂=>aQ (bc X.prog X.w) X.A (inplaceOp op u w) (fun r s₃=>aQ (bc X.prog X.w) X.A (storeName X.env x r) (fun _=>SP X pins D .next) X.xe s₃) X.xe s₂) X.xe s:=by
    refine thn (he pins s σ H _ I h) fun w s1 ⟨y,H1,I1,r1,q1⟩=>?_
    refine thn (ho pins s1 σ H1 v y u w _ I1 r r1 q1) fun z s2 ⟨zv,H2,I2,r2,q2⟩=>?_
    exact Y1 I2 hN hi hx r2 (fun s3 I3=>⟨_,H2,I3,q2⟩) hf
  rcases l with⟨hk,hm⟩|⟨hk,c,hc,jE⟩
  · exact wpAny_loadName_local I.ok.kind hk hn hm go
  · rcases hk with hk|hk
    · exact wpAny_loadName_cell I.ok.kind hk hc jE go
    · rcases hx with k|k
      · have:X.env.scope.names.lookup x=some .free:=hk
        rw [k] at this;cases this
      · have:X.env.scope.names.lookup x=some .free:=hk
        rw [k] at this;cases this
def ipI(f:Int→Int→Int):TIp:=fun x y H Q=>∃i j,x=.int i∧y=.int j∧Q (.int (f i j)) H
theorem b4y:PIp X .Add (ipI fun i j=>i + j):=by
  intro pins s σ H x y v u Q I r1 r2 h;obtain⟨i,j,e1,e2,q⟩:=h;subst e1;subst e2;obtain⟨t,rfl⟩:=r1;obtain⟨t',rfl⟩:=r2;exact iadd_int ⟨.int _,H,I.tok _,⟨_,rfl⟩,q⟩
end
section
variable {X:Cx}{pos:eM}
def b4z(c:TT)(tb:TS):TS:=fun D σ H=>∃W:Nat→St→Hp→Prop,(∃m,W m σ H)∧∀m σ H,W m σ H→
  c σ H fun b H1=>if b=true then ∃N:St→Hp→Prop,(∀σ' H',N σ' H'→∃m',m' < m∧W m' σ' H')∧tb {D with nx:=N,ct:=N,bk:=D.nx} σ H1 else D.nx σ H1
theorem a9H{c:Expr}{body:List g_}{tc:TT}{tb:TS}(hp:oZ (bc X.prog X.w) X.A X.env X.xe)(hc:PT X c tc)(hb:PSs X body tb):PS X (.While c body [] pos) (b4z tc tb):=by
  intro pins s σ H D I h;obtain⟨W,⟨m0,w0⟩,turn⟩:=h;refine wpAny_While (codeAny_whileLoop (fun n s'=>∃σ' H',Inv X pins σ' H' s'∧W n σ' H') ?_ m0 ⟨σ,H,I,w0⟩);rintro n s1 ⟨σ1,H1,I1,w1⟩;refine fI hp (thn (hc pins s1 σ1 H1 _ I1 (turn n σ1 H1 w1)) fun b s2 ⟨H2,I2,q2⟩=>?_);cases b with
  | true=>
    obtain⟨N,hN,q2⟩:=q2;rw [aE rfl];refine fI hp (thn (hb pins s2 σ1 H2 _ I2 q2) fun f s3 q3=>?_);cases f with
    | next=>
      obtain⟨σ3,H3,I3,n3⟩:=q3;obtain⟨m',hm,w3⟩:=hN σ3 H3 n3;exact⟨m',hm,σ3,H3,I3,w3⟩
    | cont=>
      obtain⟨σ3,H3,I3,n3⟩:=q3;obtain⟨m',hm,w3⟩:=hN σ3 H3 n3;exact⟨m',hm,σ3,H3,I3,w3⟩
    | brk=>exact q3
    | ret v=>exact q3
  | false=>
    rw [aJ bD];exact kE ⟨σ1,H2,I2,q2⟩
end
structure It where
  go:Nat→Hp→Prop
  yld:Nat→Hp→V→Hp→Prop
  stop:Nat→Hp→Prop
def a4C(X:Cx)(pins:List (az × eW))(H:Hp)(b:az):Prop:=
  H b=none∧b≠X.env.locals∧b∉X.fs∧(b∈X.ex∨X.s₀.heap.objs.size≤b)∧(∀x c,X.env.cells.lookup x=some c→c≠b)∧∀p∈X.pn ++ pins,p.1≠b
theorem Inv.fpOk(I:Inv X pins σ H s)(hb:s.heap.objs.size≤b)(hn:H' b=none):a4C X pins H' b:=by
  refine⟨hn,il (bF I.lt hb),I.nofs hb,.inr (bI I.sz hb),fun x c e z=>?_,fun p hp z=>?_⟩
  · obtain⟨v,q⟩:=I.cell x c e
    exact absurd (bF q.lt (by rw [z];exact hb)) (dS _)
  · exact absurd (bF (aS (I.pin p hp).1) (by rw [z];exact hb)) (dS _)
structure Turn (P:bB) (w:bU) (K:ag) (tg:Expr) (J:It) (fp:List az) (it:az) (tn:Nat→cm→Prop):Prop where
  mem:it∈fp
  obj:∀i h,tn i h→∀b∈fp,∃o,h.get? b=some o∧∀v,o.data≠.cell v
  keep:∀i h h',tn i h→(∀b∈fp,∀o,h.get? b=some o→h'.get? b=some o)→tn i h'
  item:∀(X:Cx),X.prog=P→X.w=w→X.K=K→X.calm=true→∀(i:Nat) (pins:List (az × eW)) (s:au) (σ:St) (H:Hp) (E:aj→au→Prop),Inv X pins σ H s→(∀b∈fp,a4C X pins H b)→tn i s.heap→J.go i H→
    aQ (bc P w) X.A (gH (.ref it)) (fun r s1=>∃u,r=some u∧
      aQ (bc P w) X.A (kF tg (.ref it) u) (fun _ s2=>∃x H',Inv X pins σ H' s2∧RelV x u∧J.yld i H x H'∧tn (i + 1) s2.heap∧∀b∈fp,H' b=none) E s1) E s
  done:∀(X:Cx),X.prog=P→X.w=w→X.K=K→X.calm=true→∀(i:Nat) (pins:List (az × eW)) (s:au) (σ:St) (H:Hp) (E:aj→au→Prop),Inv X pins σ H s→(∀b∈fp,a4C X pins H b)→tn i s.heap→J.stop i H→
    aQ (bc P w) X.A (gH (.ref it)) (fun r s1=>r=none∧Inv X pins σ H s1) E s
  self:∀(A:bT) (i:Nat) (s:au) (Q:aj→au→Prop) (E:aj→au→Prop),tn i s.heap→Q (.ref it) s→aQ (bc P w) A (oK (.ref it)) Q E s
abbrev TI:=St→Hp→(It→Hp→Prop)→Prop
def PIE(X:Cx)(pins:List (az × eW))(σ:St)(tg:Expr)(R:It→Hp→Prop)(uY:aj)(s2:au):Prop:=
  ∃(it:az) (fp:List az) (tn:Nat→cm→Prop) (J:It) (H':Hp),uY=.ref it∧Inv X pins σ H' s2∧Turn X.prog X.w X.K tg J fp it tn∧tn 0 s2.heap∧(∀b∈fp,a4C X pins H' b)∧R J H'
def PI(X:Cx)(tg iter:Expr)(wi:TI):Prop:=
  ∀(pins:List (az × eW)) (s:au) (σ:St) (H:Hp) (R:It→Hp→Prop),Inv X pins σ H s→wi σ H R→
    aQ (bc X.prog X.w) X.A (cO iter X.env) (fun v s1=>aQ (bc X.prog X.w) X.A (oK v) (PIE X pins σ tg R) X.xe s1) X.xe s
theorem a9I{s:au}(ho:s.heap.get? it=some o)(hc:o.cls=.type n)(hd:o.data=.fields vs)
    (hn:["enumerate","zip","dict_itemiterator","dict_reverseitemiterator","odict_iterator","itertools.zip_longest","itertools.pairwise"].contains n=false) (hQ:Q () s):aQ M A (kF tg (.ref it) u) Q E s:=by
  unfold kF;cases tg <;> first
    | exact ak hQ
    | (cases u <;> first
        | exact ak hQ
        | (refine ab (km ho ?_)
           rw [hc,hd];show aQ M A (if (["enumerate","zip","dict_itemiterator","dict_reverseitemiterator","odict_iterator","itertools.zip_longest","itertools.pairwise"].contains n && vs[0]? == some (eN _))=true then _ else _) Q E s;rw [aJ (by intro h;rw [hn,Bool.false_and] at h;cases h)];exact ak hQ))
def Itl(K:ag)(a:az):It:=
  ⟨fun i H=>∃xs x,SqL K H a xs∧xs[i]?=some x,fun i H x H'=>H'=H∧∀xs,SqL K H a xs→xs[i]?=some x,fun i H=>∃xs,SqL K H a xs∧xs.length≤i⟩
def Itr(lo:Int)(n:Nat):It:=⟨fun i _=>i < n,fun i H x H'=>H'=H∧x=.int (lo + i),fun i _=>n≤i⟩
theorem a8q{P:bB}{w:bU}{K:ag}{tg:Expr}(a it:az):Turn P w K tg (Itl K a) [it] it (fun i h=>h.IsListIter it a i) where
  mem:=by simp
  obj:=fun i h st b hb=>by
    have e:b=it:=by simpa using hb
    subst e;obtain⟨o,e,c,d⟩:=st;exact⟨o,e,fun v z=>by rw [d] at z;cases z⟩
  keep:=fun i h h' st k=>st.at fun o e=>k it (by simp) o e
  item:=by
    intro X hP hw hK hc i pins s σ H E I hf st hg;subst hP hw hK;obtain⟨xs,x,hq,hx⟩:=hg;obtain⟨cE,rv,p,hz⟩:=I.list hq;obtain⟨u,hu,ru⟩:=rv.get hx;obtain⟨f0,f1,f2,f3,f4,f5⟩:=hf it (by simp);refine wpAny_pyNext_list_item st p.isList (x:=u) (by simpa using hu) fun h' mr sb=>?_
    have I1:Inv X pins σ H {s with heap:=h'}:=I.turned (t':=s.toks) (fun b o hb e=>(sb.2 b hb).trans e) f0 f1 f3 f4 f5;obtain⟨o,e,c,d⟩:=id mr;exact⟨u,rfl,a9I (s:={s with heap:=h'}) e c d (by decide) ⟨x,H,I1,ru,⟨rfl,fun ys hy=>by rw [I.list_inj hy hq];exact hx⟩,mr,fun b hb=>(hf b hb).1⟩⟩
  done:=by
    intro X hP hw hK hc i pins s σ H E I hf st hg;subst hP hw hK;obtain⟨xs,hq,hx⟩:=hg;obtain⟨cE,rv,p,hz⟩:=I.list hq;obtain⟨f0,f1,f2,f3,f4,f5⟩:=hf it (by simp);have hl:=rv.length;exact wpAny_pyNext_list_end (I.ok.hd hc) st p.isList (by simp;omega) fun h' eb=>⟨rfl,I.turned (t':=s.toks) (fun b o hb e=>eb b o hb e) f0 f1 f3 f4 f5⟩
  self:=fun _ _ _ _ _ st h=>wpAny_pyIter_listiter st h
theorem a6b{P:bB}{w:bU}{K:ag}{tg:Expr}(it:az)(lo:Int)(n:Nat):Turn P w K tg (Itr lo n) [it] it (fun i h=>IsRangeIter h it (lo + (i:Nat) * 1) ((n:Int) - (i:Nat)) 1) where
  mem:=by simp
  obj:=fun i h st b hb=>by
    have e:b=it:=by simpa using hb
    subst e;exact⟨_,st,fun v z=>by
      have z':Data.fields _=Data.cell v:=z;cases z'⟩
  keep:=fun i h h' st k=>k it (by simp) _ st
  item:=by
    intro X hP hw hK hc i pins s σ H E I hf st hg;subst hP hw hK;obtain⟨f0,f1,f2,f3,f4,f5⟩:=hf it (by simp);have W:=Walks.range (prog:=X.prog) (w:=X.w) (I.ok.hd hc) it lo 1 n;refine W.item i s _ _ hg st fun v h' tk hv mr kk=>?_
    obtain⟨t,rfl⟩:=hv;have I1:Inv X pins σ H {s with heap:=h',toks:=tk}:=I.turned (fun b o hb e=>kk b o (by simpa using hb) e) f0 f1 f3 f4 f5;refine⟨_,rfl,a9I (s:={s with heap:=h',toks:=tk}) (n:="range_iterator") mr rfl rfl (by decide) ⟨.int (lo + i),H,I1,⟨t,?_⟩,⟨rfl,rfl⟩,mr,fun b hb=>(hf b hb).1⟩⟩;rw [Int.mul_one]
  done:=by
    intro X hP hw hK hc i pins s σ H E I hf st hg;subst hP hw hK;obtain⟨f0,f1,f2,f3,f4,f5⟩:=hf it (by simp);exact wpAny_pyNext_range_end (I.ok.hd hc) st (by have:n≤i:=hg;omega) fun h' eb=>⟨rfl,I.turned (t':=s.toks) (fun b o hb e=>eb b o hb e) f0 f1 f3 f4 f5⟩
  self:=fun _ _ _ _ _ st h=>wpAny_pyIter_rangeiter st h
end L2
namespace L2
open PySem PySem.Spec PyProof.Rows
section
variable {X:Cx}{tg:Expr}
def b6v(K:ag)(tl:TE):TI:=fun σ H R=>tl σ H fun x H1=>∃a,x=.ref a∧(∃xs,SqL K H1 a xs)∧R (Itl K a) H1
theorem a3G{l:Expr}{tl:TE}(hl:PE X l tl):PI X tg l (b6v X.K tl):=by
  intro pins s σ H R I h;refine thn (hl pins s σ H _ I h) fun v s1 ⟨x,H1,I1,r1,q1⟩=>?_
  obtain⟨a,e,⟨xs,hq⟩,q⟩:=q1;subst e;cases r1
  obtain⟨cE,rv,p,hz⟩:=I1.list hq;refine nC p.isList ?_;refine⟨s1.heap.objs.size,[s1.heap.objs.size],_,_,H1,rfl,I1.kept (t':=s1.toks) fun b o e=>aC _ e,a8q a _,⟨_,aV _ rfl,rfl,rfl⟩,fun b hb=>?_,q⟩;have e:b=s1.heap.objs.size:=by simpa using hb
  subst e;exact I1.fpOk (aD _) (I1.hok.fresh (aD _))
theorem a9J{pins:List (az × eW)}{σ:St}{H:Hp}{s:au}{R:It→Hp→Prop}{E:aj→au→Prop}{lo hi:Int}{t u v:Tok}{tk:Nat}(I:Inv X pins σ H s)(h1:-(2 ^ 62)≤lo)(h2:lo < 2 ^ 62)(h3:-(2 ^ 62)≤hi)(h4:hi < 2 ^ 62)
    (q:R (Itr lo (hi - lo).toNat) H):aQ (bc X.prog X.w) X.A (oK (.ref s.heap.objs.size)) (PIE X pins σ tg R) E {s with heap:=s.heap.push {cls:=.type "range",data:=.fields #[.int lo t,.int hi u,.int 1 v]},toks:=tk}:=by
  refine wpAny_pyIter_range (IsRange.new ..) (small_one h1 h2 h3 h4) ?_;have I1:Inv X pins σ H {s with heap:=s.heap.push {cls:=.type "range",data:=.fields #[.int lo t,.int hi u,.int 1 v]},toks:=tk}:=I.kept fun b o e=>aC _ e
  refine⟨(s.heap.push {cls:=.type "range",data:=.fields #[.int lo t,.int hi u,.int 1 v]}).objs.size,[(s.heap.push {cls:=.type "range",data:=.fields #[.int lo t,.int hi u,.int 1 v]}).objs.size],_,_,H,rfl,
    I1.kept (t':=tk) fun b o e=>aC _ e,a6b _ lo (hi - lo).toNat,?_,fun b hb=>?_,q⟩
  · have e1:lo + ((0:Nat):Int) * 1=lo:=by simp
    have e2:(((hi - lo).toNat:Nat):Int) - ((0:Nat):Int)=yM lo hi 1:=by rw [rangeSize_one];split <;> omega
    show IsRangeIter _ _ (lo + ((0:Nat):Int) * 1) ((((hi - lo).toNat:Nat):Int) - ((0:Nat):Int)) 1;rw [e1,e2];exact aV _ rfl
  · have e:b=(s.heap.push {cls:=.type "range",data:=.fields #[.int lo t,.int hi u,.int 1 v]}).objs.size:=by simpa using hb
    subst e;exact I1.fpOk (aD _) (I1.hok.fresh (aD _))
def b6w(ta:TA):TI:=fun σ H R=>ta σ H fun vs H1=>∃j:Int,vs=[.int j]∧-(2 ^ 62)≤j∧j < 2 ^ 62∧R (Itr 0 j.toNat) H1
theorem a8r{a:Expr}{ta:TA}{p pos:eM}(hg:Gl X "range")(hm:X.mg "range"=none)(ha:PA X [a] ta)(hs:aF [a] X.env=[(false,cO a X.env)]:=by rfl):PI X tg (.Call (.Name "range" p) [a] [] pos) (b6w ta):=by
  intro pins s σ H R I h;refine Call_ (a1u I hg hm boot_range (ik (thn (ha pos pins s σ H _ I h) fun us s1 ⟨vs,H1,I1,r1,q1⟩=>?_) hs rfl));obtain⟨j,e,q1,q2,q⟩:=q1;subst e;cases r1 with
  | cons r rr=>
    cases rr
    obtain⟨t,rfl⟩:=r;exact call_range_1 (a9J I1 (by omega) (by omega) q1 q2 (by simpa using q))
def b8d(wi:TI)(g:TG)(tb:TS):TS:=fun D σ H=>wi σ H fun J H1=>∃W:Nat→Nat→St→Hp→Prop,(∃m,W 0 m σ H1)∧∀i m σ H,W i m σ H→
  (J.stop i H∧D.nx σ H)∨(J.go i H∧∃N:St→Hp→Prop,(∀σ' H',N σ' H'→∃m',m' < m∧W (i + 1) m' σ' H')∧∀x H',J.yld i H x H'→g x σ H' fun σ2 H2=>tb {D with nx:=N,ct:=N,bk:=D.nx} σ2 H2)
def a3H(fp:List az)(h:cm):List (az × eW):=fp.filterMap fun b=>(h.get? b).map fun o=>(b,o)
theorem B5{h:cm}(hb:b∈fp)(e:h.get? b=some o):(b,o)∈a3H fp h:=e_.mpr ⟨b,hb,by rw [e];rfl⟩
theorem a8s(hp:p∈a3H fp h):p.1∈fp∧h.get? p.1=some p.2:=by
  obtain⟨b,hb,e⟩:=e_.mp hp;cases q:h.get? b with
  | none=>rw [q] at e;cases e
  | some o=>
    rw [q] at e;have e':(b,o)=p:=aP e;subst e';exact⟨hb,q⟩
theorem Inv.pinned(I:Inv X pins σ H s)(hf:∀b∈fp,a4C X pins H b)(ho:∀b∈fp,∃o,s.heap.get? b=some o∧∀v,o.data≠.cell v):Inv X (pins ++ a3H fp s.heap) σ H s:=
  I.pins_of fun p hp=>(aw.mp hp).elim (fun z=>I.pin p (ao _ z)) fun z=>by
    obtain⟨hb,e⟩:=a8s z;obtain⟨f0,f1,f2,_⟩:=hf p.1 hb;obtain⟨o,e',d⟩:=ho p.1 hb;rw [e] at e';cases e';exact⟨e,f0,f1,f2,d⟩
theorem Inv.unpinned(I:Inv X (pins ++ pl) σ H s):Inv X pins σ H s:=I.pins_of fun p hp=>I.pin p (ao _ (av _ hp))
theorem a9K(hp:oZ (bc X.prog X.w) X.A X.env X.xe)(hc:X.calm=true)(hi:PI X tg iter wi)(hg:PG X tg g)(hb:PSs X body tb)
    (hs:∀x,dR iter X.env x=pure x:=by intro _;rfl):PS X (.For tg iter body [] pos) (b8d wi g tb):=by
  intro pins s σ H D I h;refine wpAny_For (thn (hi pins s σ H _ I h) fun v s1 h1=>thn h1 fun uY s2 h2=>?_) hs;obtain⟨it,fp,tn,J,H2,e,I2,T,rS,f2,W,⟨m0,w0⟩,turn⟩:=h2;subst e;have lU:∀{H':Hp},(∀b∈fp,H' b=none)→∀b∈fp,a4C X pins H' b:=fun hn b hb=>⟨hn b hb,(f2 b hb).2⟩
  refine codeAny_forLoop_any (fun n s'=>∃i σ' H',Inv X pins σ' H' s'∧tn i s'.heap∧(∀b∈fp,H' b=none)∧W i n σ' H') ?_ m0 ⟨0,σ,H2,I2,rS,fun b hb=>(f2 b hb).1,w0⟩;rintro n s3 ⟨i,σ3,H3,I3,rR,tH,w3⟩;rcases turn i n σ3 H3 w3 with⟨stop,qn⟩|⟨go,N,hN,step⟩
  · refine fI hp (thn (T.done X rfl rfl rfl hc i pins s3 σ3 H3 X.xe I3 (lU tH) rR stop) fun r s4 ⟨hr,I4⟩=>?_)
    subst hr;exact kE ⟨σ3,H3,I4,qn⟩
  · refine fI hp (thn (T.item X rfl rfl rfl hc i pins s3 σ3 H3 X.xe I3 (lU tH) rR go) fun r s4 ⟨u,hr,h4⟩=>?_)
    subst hr;refine fI hp (thn h4 fun _ s5 ⟨x,H5,I5,r5,y5,oJ,wH⟩=>?_);have wX:=I5.pinned (lU wH) (T.obj _ _ oJ);refine fI hp (thn (hg _ s5 σ3 H5 x u _ wX r5 (step x H5 y5)) fun _ s6 ⟨σ6,H6,I6,q6⟩=>?_);refine fI hp (thn (hb _ s6 σ6 H6 _ I6 q6) fun f s7 q7=>?_);have again:∀{σ7:St} {H7:Hp},Inv X (pins ++ a3H fp s5.heap) σ7 H7 s7→N σ7 H7→∃m,m < n∧∃i σ' H',Inv X pins σ' H' s7∧tn i s7.heap∧(∀b∈fp,H' b=none)∧W i m σ' H':=fun {σ7 H7} I7 n7=>by
      obtain⟨m',hm,w7⟩:=hN σ7 H7 n7;refine⟨m',hm,i + 1,σ7,H7,I7.unpinned,T.keep _ _ _ oJ fun b hb o e=>(I7.pin (b,o) (ao _ (ao _ (B5 hb e)))).1,fun b hb=>?_,w7⟩;obtain⟨o,e,d⟩:=T.obj _ _ oJ b hb;exact (I7.pin (b,o) (ao _ (ao _ (B5 hb e)))).2.1
    cases f with
    | next=>obtain⟨σ7,H7,I7,n7⟩:=q7;exact again I7 n7
    | cont=>obtain⟨σ7,H7,I7,n7⟩:=q7;exact again I7 n7
    | brk=>obtain⟨σ7,H7,I7,q7⟩:=q7;exact⟨σ7,H7,I7.unpinned,q7⟩
    | ret v=>obtain⟨x7,σ7,H7,I7,r7,q7⟩:=q7;exact⟨x7,σ7,H7,I7.unpinned,r7,q7⟩
end
end L2
namespace L2
open PySem PySem.Spec PyProof.Rows
abbrev R2:=V→V→Hp→VK→Prop
def OpR(X:Cx)(f:aj→aj→Sem aj)(r:R2):Prop:=
  ∀(pins:List (az × eW)) (s:au) (σ:St) (H:Hp) (x y:V) (v u:aj) (Q:VK),Inv X pins σ H s→RelV x v→RelV y u→r x y H Q→
    aQ (bc X.prog X.w) X.A (f v u) (EP X pins σ Q) X.xe s
def UnR(X:Cx)(f:aj→Sem aj)(r:V→Hp→VK→Prop):Prop:=
  ∀(pins:List (az × eW)) (s:au) (σ:St) (H:Hp) (x:V) (v:aj) (Q:VK),Inv X pins σ H s→RelV x v→r x H Q→
    aQ (bc X.prog X.w) X.A (f v) (EP X pins σ Q) X.xe s
def CallR(X:Cx)(f:aj)(r:List V→Hp→VK→Prop):Prop:=
  ∀(pins:List (az × eW)) (s:au) (σ:St) (H:Hp) (xs:List V) (us:List aj) (Q:VK),Inv X pins σ H s→Vals xs us→r xs H Q→
    aQ (bc X.prog X.w) X.A (call f us) (EP X pins σ Q) X.xe s
def b8e(X:Cx)(r:V→Hp→(Bool→Hp→Prop)→Prop):Prop:=
  ∀(pins:List (az × eW)) (s:au) (σ:St) (H:Hp) (x:V) (v:aj) (Q:Bool→Hp→Prop),Inv X pins σ H s→RelV x v→r x H Q→
    aQ (bc X.prog X.w) X.A (truthy v) (TP X pins σ Q) X.xe s
def tOp(r:R2)(ta tb:TE):TE:=fun σ H Q=>ta σ H fun x H1=>tb σ H1 fun y H2=>r x y H2 Q
def tUn(r:V→Hp→VK→Prop)(ta:TE):TE:=fun σ H Q=>ta σ H fun x H1=>r x H1 Q
def rI(C:Int→Int→Prop)(g:Int→Int→V):R2:=fun x y H Q=>∃i j,x=.int i∧y=.int j∧C i j∧Q (g i j) H
def rI0(g:Int→Int→V):R2:=fun x y H Q=>∃i j,x=.int i∧y=.int j∧Q (g i j) H
def rU(g:Int→V):V→Hp→VK→Prop:=fun x H Q=>∃i,x=.int i∧Q (g i) H
section
variable {X:Cx}{a b c:Expr}{ta tb tc:TE}{pos:eM}
theorem b4A(ha:PE X a ta)(hb:PE X b tb){pins:List (az × eW)}{s:au}{σ:St}{H:Hp}{R:V→V→Hp→Prop}(I:Inv X pins σ H s)
    (h:ta σ H fun x H1=>tb σ H1 fun y H2=>R x y H2) {Q:aj→au→Prop} {f:aj→aj→Sem aj}
    (hf:∀v u s2 x y H2,Inv X pins σ H2 s2→RelV x v→RelV y u→R x y H2→aQ (bc X.prog X.w) X.A (f v u) Q X.xe s2) :
    aQ (bc X.prog X.w) X.A (cO a X.env) (fun v s₁=>aQ (bc X.prog X.w) X.A (cO b X.env) (fun u s₂=>aQ (bc X.prog X.w) X.A (f v u) Q X.xe s₂) X.xe s₁) X.xe s:=by
  refine thn (ha pins s σ H _ I h) fun v s1 ⟨x,H1,I1,r1,q1⟩=>?_
  refine thn (hb pins s1 σ H1 _ I1 q1) fun u s2 ⟨y,H2,I2,r2,q2⟩=>?_
  exact hf v u s2 x y H2 I2 r1 r2 q2
theorem b3S{op:Operator}{r:R2}(ho:OpR X (fg op) r)(ha:PE X a ta)(hb:PE X b tb):PE X (.BinOp a op b pos) (tOp r ta tb):=by
  intro pins s σ H Q I h;exact wpAny_BinOp (b4A ha hb I h fun v u s2 x y H2 I2 rx ry q=>ho pins s2 σ H2 x y v u Q I2 rx ry q)
theorem b6x(ho:UnR X (unaryOp op) r)(ha:PE X a ta):PE X (.UnaryOp op a pos) (tUn r ta):=by
  intro pins s σ H Q I h;exact UnaryOp_ (thn (ha pins s σ H _ I h) fun v s1 ⟨x,H1,I1,r1,q1⟩=>ho pins s1 σ H1 x v Q I1 r1 q1)
theorem opI{f:aj→aj→Sem aj}{C:Int→Int→Prop}{g:Int→Int→Int}
    (rule:∀(i j:Int) (t u:Tok) (s:au) (Q:aj→au→Prop) (E:aj→au→Prop),C i j→Q (.int (g i j) s.toks) {s with toks:=s.toks + 1}→aQ (bc X.prog X.w) X.A (f (.int i t) (.int j u)) Q E s) :
    OpR X f (rI C fun i j=>.int (g i j)):=by
  intro pins s σ H x y v u Q I rx ry h;obtain⟨i,j,rfl,rfl,hc,q⟩:=h;obtain⟨t,rfl⟩:=rx;obtain⟨t',rfl⟩:=ry;exact rule i j t t' s _ _ hc ⟨.int (g i j),H,I.tok _,⟨_,rfl⟩,q⟩
theorem b6y{f:aj→aj→Sem aj}{g:Int→Int→Int}
    (rule:∀(i j:Int) (t u:Tok) (s:au) (Q:aj→au→Prop) (E:aj→au→Prop),Q (.int (g i j) s.toks) {s with toks:=s.toks + 1}→aQ (bc X.prog X.w) X.A (f (.int i t) (.int j u)) Q E s) :
    OpR X f (rI0 fun i j=>.int (g i j)):=by
  intro pins s σ H x y v u Q I rx ry h;obtain⟨i,j,rfl,rfl,q⟩:=h;obtain⟨t,rfl⟩:=rx;obtain⟨t',rfl⟩:=ry;exact rule i j t t' s _ _ ⟨.int (g i j),H,I.tok _,⟨_,rfl⟩,q⟩
theorem b2k{f:aj→aj→Sem aj}{g:Int→Int→Bool}
    (rule:∀(i j:Int) (t u:Tok) (s:au) (Q:aj→au→Prop) (E:aj→au→Prop),Q (.bool (g i j)) s→aQ (bc X.prog X.w) X.A (f (.int i t) (.int j u)) Q E s) :
    OpR X f (rI0 fun i j=>.bl (g i j)):=by
  intro pins s σ H x y v u Q I rx ry h;obtain⟨i,j,rfl,rfl,q⟩:=h;obtain⟨t,rfl⟩:=rx;obtain⟨t',rfl⟩:=ry;exact rule i j t t' s _ _ ⟨.bl (g i j),H,I,rfl,q⟩
def b8f(i j:Int):Prop:=0 < j∧j < 1073741824
def b8g(i j:Int):Prop:=0≤j∧j≤1000000∧i.natAbs < 2 ^ 64
def CMul(i j:Int):Prop:=(-(2 ^ 64) < i∧i < 2 ^ 64)∨(-(2 ^ 64) < j∧j < 2 ^ 64)
theorem CMul.ok{i j:Int}(h:CMul i j):IntMulOk i j:=by
  rcases h with⟨h1,h2⟩|⟨h1,h2⟩
  · exact .of_left (intBits_le_64 h1 h2)
  · exact .of_right (intBits_le_64 h1 h2)
theorem b4B:OpR X (fg .Add) (rI0 fun i j=>.int (i + j)):=b6y fun _ _ _ _ _ _ _ q=>add_int q
theorem b4C:OpR X (fg .Sub) (rI0 fun i j=>.int (i - j)):=b6y fun _ _ _ _ _ _ _ q=>sub_int q
theorem b4D:OpR X (fg .Mult) (rI CMul fun i j=>.int (i * j)):=opI fun _ _ _ _ _ _ _ hc q=>mul_int q hc.ok
theorem b2l:OpR X (fg .FloorDiv) (rI b8f fun i j=>.int (i / j)):=opI fun i j _ _ _ _ _ hc q=>by
  have h1:(0:Int) < j:=hc.1;have h2:j < 1073741824:=hc.2;exact floordiv_int (by omega) (by rw [Int.fdiv_eq_ediv_of_nonneg i (by omega)];exact q) (.inl (PyProof.noPylong_small (by omega)))
theorem b4E:OpR X (fg .Mod) (rI (fun _ j=>0 < j) fun i j=>.int (i % j)):=opI fun i j _ _ _ _ _ hc q=>by
  have h1:(0:Int) < j:=hc;exact mod_int' (by omega) (by rw [Int.fmod_eq_emod_of_nonneg i (by omega)];exact q)
theorem b4F:OpR X (fg .Pow) (rI b8g fun i j=>.int (i ^ j.toNat)):=opI fun _ _ _ _ _ _ _ hc q=>pow_int_small hc.1 hc.2.1 hc.2.2 q
theorem unI{f:aj→Sem aj}{g:Int→Int}
    (rule:∀(i:Int) (t:Tok) (s:au) (Q:aj→au→Prop) (E:aj→au→Prop),Q (.int (g i) s.toks) {s with toks:=s.toks + 1}→aQ (bc X.prog X.w) X.A (f (.int i t)) Q E s) :
    UnR X f (rU fun i=>.int (g i)):=by
  intro pins s σ H x v Q I rx h;obtain⟨i,rfl,q⟩:=h;obtain⟨t,rfl⟩:=rx;exact rule i t s _ _ ⟨.int (g i),H,I.tok _,⟨_,rfl⟩,q⟩
theorem b4G:UnR X (unaryOp .USub) (rU fun i=>.int (-i)):=unI fun _ _ _ _ _ q=>neg_int q
end
def scal:V→V→Bool
  | .non,.non=>true|.non,.int _=>true|.int _,.non=>true|.non,.bl _=>true|.bl _,.non=>true|.non,.str _=>true|.str _,.non=>true
  | .int _,.int _=>true|.bl _,.bl _=>true|.str _,.str _=>true|.byt _,.byt _=>true
  | .int _,.str _=>true|.str _,.int _=>true|.bl _,.str _=>true|.str _,.bl _=>true
  | _,_=>false
section
variable {X:Cx}{a b c:Expr}{ta tb tc:TE}{pos:eM}
theorem a9L(I:Inv X pins σ H s)(q:Q (.bl k) H)(e:k=k'):EP X pins σ Q (.bool k') s:=by
  subst e;exact⟨.bl k,H,I,rfl,q⟩
theorem b6z:OpR X (bR .Lt) (rI0 fun i j=>.bl (decide (i < j))):=b2k fun _ _ _ _ _ _ _ q=>lt_int q
theorem b6A:OpR X (bR .LtE) (rI0 fun i j=>.bl (decide (i≤j))):=b2k fun _ _ _ _ _ _ _ q=>le_int q
theorem b6B:OpR X (bR .Gt) (rI0 fun i j=>.bl (decide (j < i))):=b2k fun _ _ _ _ _ _ _ q=>gt_int q
theorem b6C:OpR X (bR .GtE) (rI0 fun i j=>.bl (decide (j≤i))):=b2k fun _ _ _ _ _ _ _ q=>ge_int q
theorem b4H:OpR X (bR .Is) (fun x y H Q=>y=.non∧Q (.bl (decide (x=.non))) H):=by
  intro pins s σ H x y v u Q I rx ry h;obtain⟨rfl,q⟩:=h;cases ry
  refine is_none_gen (a9L I q ?_);cases x <;> first
    | (cases rx;rfl)
    | (obtain⟨t,rfl⟩:=rx;rfl)
theorem b2m:OpR X (bR .IsNot) (fun x y H Q=>y=.non∧Q (.bl (!decide (x=.non))) H):=by
  intro pins s σ H x y v u Q I rx ry h;obtain⟨rfl,q⟩:=h;cases ry
  refine isnot_none_gen (a9L I q ?_);cases x <;> first
    | (cases rx;rfl)
    | (obtain⟨t,rfl⟩:=rx;rfl)
theorem a9M(b:Expr)(h:op≠.In:=by decide)(h2:op≠.NotIn:=by decide):iu op b=false:=by
  have e1:(op == CmpOp.In)=false:=by cases op <;> first|rfl|exact absurd rfl h
  have e2:(op == CmpOp.NotIn)=false:=by cases op <;> first|rfl|exact absurd rfl h2
  cases b <;> simp [iu,e1,e2]
theorem b2n{op:CmpOp}{r:R2}(ho:OpR X (bR op) r)(ha:PE X a ta)(hb:PE X b tb)(hm:iu op b=false):PE X (.Compare a [op] [b] pos) (tOp r ta tb):=by
  intro pins s σ H Q I h;exact wpAny_Compare1 (b4A ha hb I h fun v u s2 x y H2 I2 rx ry q=>ho pins s2 σ H2 x y v u Q I2 rx ry q) hm
def b3T(t:TE):TT:=fun σ H Q=>t σ H fun x H'=>∃k,x=.bl k∧Q k H'
theorem b2o(ho:OpR X (bR op) r)(ha:PE X a ta)(hb:PE X b tb)(hm:iu op b=false):PT X (.Compare a [op] [b] pos) (b3T (tOp r ta tb)):=by
  intro pins s σ H Q I h;refine wpAny_isTrue_Compare1 (thn (ha pins s σ H _ I h) fun v s1 ⟨x,H1,I1,r1,q1⟩=>thn (hb pins s1 σ H1 _ I1 q1) fun u s2 ⟨y,H2,I2,r2,q2⟩=>
    thn (ho pins s2 σ H2 x y v u _ I2 r1 r2 q2) fun c s3 ⟨z,H3,I3,r3,k,e,q3⟩=>?_) hm
  subst e;cases r3
  exact dP ⟨H3,I3,q3⟩
def a9N(r r':R2)(ta tb tc:TE):TE:=fun σ H Q=>ta σ H fun x H1=>tb σ H1 fun y H2=>r x y H2 fun z H3=>∃k,z=.bl k∧
  (if k=true then tc σ H3 fun w' H4=>r' y w' H4 Q else Q (.bl false) H3)
theorem a9O(ho:OpR X (bR op) r)(kH:OpR X (bR mM) r')(ha:PE X a ta)(hb:PE X b tb)(hc:PE X c tc)
    (hm:xx [op,mM] [b,c]=false:=by with_unfolding_all rfl):PE X (.Compare a [op,mM] [b,c] pos) (a9N r r' ta tb tc):=by
  intro pins s σ H Q I h;refine Compare_chain (thn (ha pins s σ H _ I h) fun v s1 ⟨x,H1,I1,r1,q1⟩=>chain_link (thn (hb pins s1 σ H1 _ I1 q1) fun u s2 ⟨y,H2,I2,r2,q2⟩=>
    thn (ho pins s2 σ H2 x y v u _ I2 r1 r2 q2) fun d s3 ⟨z,H3,I3,r3,k,e,q3⟩=>?_)) hm
  subst e;cases r3
  refine dP ?_;cases k with
  | false=>exact ite_ff ⟨.bl false,H3,I3,rfl,q3⟩
  | true=>exact ite_tt (chain_last (thn (hc pins s3 σ H3 _ I3 q3) fun w' s4 ⟨z',H4,I4,r4,q4⟩=>kH pins s4 σ H4 y z' u w' Q I4 r2 r4 q4))
theorem a9P(ho:OpR X (bR op) r)(kH:OpR X (bR mM) r')(ha:PE X a ta)(hb:PE X b tb)(hc:PE X c tc)
    (hm:xx [op,mM] [b,c]=false:=by with_unfolding_all rfl):PT X (.Compare a [op,mM] [b,c] pos) (b3T (a9N r r' ta tb tc)):=by
  intro pins s σ H Q I h;refine isTrue_chain (thn (ha pins s σ H _ I h) fun v s1 ⟨x,H1,I1,r1,q1⟩=>test_link (thn (hb pins s1 σ H1 _ I1 q1) fun u s2 ⟨y,H2,I2,r2,q2⟩=>
    thn (ho pins s2 σ H2 x y v u _ I2 r1 r2 q2) fun d s3 ⟨z,H3,I3,r3,k,e,q3⟩=>?_)) hm
  subst e;cases r3
  refine dP ?_;cases k with
  | false=>
    obtain⟨k',e',q'⟩:=q3;cases e'
    exact ite_ff ⟨H3,I3,q'⟩
  | true=>
    refine ite_tt (test_last (thn (hc pins s3 σ H3 _ I3 q3) fun w' s4 ⟨z',H4,I4,r4,q4⟩=>thn (kH pins s4 σ H4 y z' u w' _ I4 r2 r4 q4) fun d' s5 ⟨z2,H5,I5,r5,k2,e2,q5⟩=>?_));subst e2;cases r5
    exact dP ⟨H5,I5,q5⟩
def b4I(K:ag)(x:V)(H:Hp)(k:Bool):Prop:=
  match x with
  | .non=>k=false
  | .bl b=>k=b
  | .int i=>k=(i != 0)
  | .str y=>y.length≤aT∧k=((y.length:Int) != 0)
  | .byt y=>y.size≤aT∧k=((y.size:Int) != 0)
  | .ref p=>(∃xs,SqL K H p xs∧k=!xs.isEmpty)∨(∃xs,SqT K H p xs∧k=!xs.isEmpty)∨∃kvs,H p=some (.dK kvs)∧k=!kvs.isEmpty
  | _=>False
theorem a6c{κ:Type}{kvs:List (κ × V)}{vs:List (κ × aj)}(r:KV kvs vs):(!vs.isEmpty)=!kvs.isEmpty:=by
  cases r <;> rfl
theorem a1v{xs:List V}{cE:List aj}(r:Vals xs cE):(!cE.toArray.isEmpty)=!xs.isEmpty:=by
  cases r <;> simp
theorem a1w:(aT:Nat) < 2 ^ 63:=by rw [cV];decide
theorem b4J:b8e X (fun x H Q=>∃k,b4I X.K x H k∧Q k H):=by
  intro pins s σ H x v Q I rx h;obtain⟨k,e,q⟩:=h;have hl:=a1w;have hs:aT=16777216:=cV;cases x with
  | non=>
    cases rx
    have e':k=false:=e;subst e';exact truthy_none ⟨H,I,q⟩
  | bl b=>
    cases rx
    have e':k=b:=e;subst e';exact dP ⟨H,I,q⟩
  | int i=>
    obtain⟨t,rfl⟩:=rx;have e':k=(i != 0):=e;subst e';exact PySem.P.truthy_int ⟨H,I,q⟩
  | str y=>
    obtain⟨t,rfl⟩:=rx;obtain⟨hy,e'⟩:y.length≤aT∧k=((y.length:Int) != 0):=e;subst e';exact PySem.P.truthy_str (by omega) ⟨H,I.tok _,q⟩
  | byt y=>
    obtain⟨t,rfl⟩:=rx;obtain⟨hy,e'⟩:y.size≤aT∧k=((y.size:Int) != 0):=e;subst e';exact PySem.W.truthy_bytes (by omega) ⟨H,I.tok _,q⟩
  | ref p=>
    cases rx
    have e':(∃xs,SqL X.K H p xs∧k=!xs.isEmpty)∨(∃xs,SqT X.K H p xs∧k=!xs.isEmpty)∨∃kvs,H p=some (.dK kvs)∧k=!kvs.isEmpty:=e;rcases e' with⟨xs,hx,e'⟩|⟨xs,hx,e'⟩|⟨kvs,hx,e'⟩
    · subst e'
      obtain⟨cE,r,pl,hz⟩:=I.list hx;have hlen:=r.length;exact wpAny_truthy_list pl.isList (by simp only [aX];omega) ⟨H,I.tok _,by rw [a1v r];exact q⟩
    · subst e'
      obtain⟨cE,r,pl,hz⟩:=I.tuple hx;have hlen:=r.length;exact truthy_tuple pl (by simp only [aX];omega) ⟨H,I.tok _,by rw [a1v r];exact q⟩
    · subst e'
      obtain⟨hz,hS,vs,r,m⟩:kvs.length≤aT∧(p == dU)=false∧∃vs,KV kvs vs∧s.heap.DictOf (a3C X.prog X.w) p vs:=I.hok p _ hx;have hlen:kvs.length=vs.length:=iw r;exact wpAny_truthy_dict hS m (by omega) ⟨H,I.tok _,by rw [a6c r];exact q⟩
  | _=>exact (show False from e).elim
theorem a9Q(ha:PE X a ta)(he:∀whole,zA a X.env whole=(do let v ←whole;standAt a.pos;holding [v] (truthy v))) :
    PT X a (fun σ H Q=>ta σ H fun x H'=>∃k,b4I X.K x H' k∧Q k H'):=by
  intro pins s σ H Q I h;exact isTrue_plain (thn (ha pins s σ H _ I h) fun v s1 ⟨x,H1,I1,r1,q1⟩=>b4J pins s1 σ H1 x v Q I1 r1 q1) (he _)
theorem vals1(r:Vals [x] us):∃u,us=[u]∧RelV x u:=by
  cases r with
  | cons r1 r2=>cases r2;exact⟨_,rfl,r1⟩
theorem vals2(r:Vals [x,y] us):∃u w',us=[u,w']∧RelV x u∧RelV y w':=by
  cases r with
  | cons r1 r2=>
    cases r2 with
    | cons r3 r4=>cases r4;exact⟨_,_,rfl,r1,r3⟩
theorem a8t(hc:X.calm=true):CallR X (.builtin "min") (fun xs H Q=>∃i j,xs=[.int i,.int j]∧Q (.int (if j < i then j else i)) H):=by
  intro pins s σ H xs us Q I r h;obtain⟨i,j,rfl,q⟩:=h;obtain⟨u,w',rfl,⟨t,rfl⟩,⟨t',rfl⟩⟩:=vals2 r;refine min_two_ints (I.ok.hd hc) fun h' tk k=>⟨_,H,I.kept k,?_,q⟩
  by_cases hj:j < i
  · rw [aE hj,aE hj];exact⟨_,rfl⟩
  · rw [aJ hj,aJ hj];exact⟨_,rfl⟩
end
end L2
namespace L2
open PySem PySem.Spec PyProof.Rows
structure ObjM (h:cm) (x dx C:az) (mA:bM→Option aj):Prop where
  obj:h.get? x=some (mU C dx)
  ns:h.Ns1 dx mA
  ne:dx≠x
theorem a8u{h:cm}(n:h.Ns1 dx mA):∃od,h.get? dx=some od∧∀name,nY name od=some (mA name):=by
  obtain⟨o,es,ep,ho,hd,hk,_,hm⟩:=n;refine⟨o,ho,fun name=>?_⟩;have e:=hm name;unfold nsFind findBy at e;rw [←Array.find?_toList] at e;unfold nY;rw [hd]
  dsimp only
  split
  · rename_i y q
    rw [q] at e;exact eG some e
  · rename_i q
    rw [q] at e;have a:es.toList.any (·.refKey)=false:=by
      rw [cH];intro y hy;obtain⟨z,t,vQ⟩:=hk y (fP.mp hy);simp [fR.refKey,vQ]
    have a':¬ es.toList.any (·.refKey)=true:=by rw [a];exact bD
    rw [aJ a'];exact eG some e
theorem ObjM.look(I:ObjM h x dx C mA):∃od,PySem.W.InstAt h x (mU C dx) C (some od)∧∀name,nY name od=some (mA name):=
  let⟨od,ho,hl⟩:=a8u I.ns
  ⟨od,⟨I.obj,rfl,rfl,ho⟩,hl⟩
section
variable {P:bB}{w:bU}{H H':Hp}{h h':cm}{a C dx:az}{fs jj:List (bM × V)}
theorem b2p(hok:HOk P w H h)(e:H a=some (.ins C dx fs)):∃mA,ObjM h a dx C mA∧(∀f,b4m (fs.lookup f) (mA f))∧PySem.Within mA (fs.map (·.1))∧fs.length≤1000∧H dx=some (.own a):=by
  obtain⟨d,z,ne,ob,mA,n,r,q⟩:=(show ObjOk P w H h a (.ins C dx fs) from hok a _ e);exact⟨mA,⟨ob,n,ne⟩,r,q,z,d⟩
end
structure Cls (K:ag) (C:az):Prop where
  pg:BD K C bM.empty=true
  hd:PySem.W.hasDictIn K C=true
  po:PySem.W.plainOver K C=true
  sa:iH K (.ref C) "__setattr__"=some (some (.builtin "object.__setattr__"))
theorem Cls.get{K:ag}{C:az}(c:Cls K C)(f:bM):BD K C f=true:=c.pg
structure Con (K:ag) (C:az) (f:bM) (v:V) (u:aj):Prop where
  at_:iH K (.ref C) f=some (some u)
  rel:RelV v u
  get:yH K u "__get__"=some none
  cp:PySem.W.copiedNames.contains f=false
structure Meth (K:ag) (C:az) (m:bM) (f:az):Prop where
  at_:iH K (.ref C) m=some (some (.ref f))
  fn:PySem.W.isFn K (.ref f)=true
  kp:fJ K (.ref f)=true
section
variable {X:Cx}{pins:List (az × eW)}{σ:St}{H:Hp}{s:au}{A:bT}{E:aj→au→Prop}{Q:aj→au→Prop}{c:aj}{b:Bool}
inductive TyOf (K:ag) (H:Hp):V→aj→Prop where
  | non:TyOf K H .non (.type "NoneType")
  | bl (x:Bool):TyOf K H (.bl x) (.type "bool")
  | int (i:Int):TyOf K H (.int i) (.type "int")
  | str (x:bM):TyOf K H (.str x) (.type "str")
  | flt (x:UInt64):TyOf K H (.flt x) (.type "float")
  | lst {a:az} {xs:List V} (e:H a=some (.lst xs)):TyOf K H (.ref a) (.type "list")
  | frz {a:az} {o:eW} {xs:List V} (e:H a=some (.frz o (.lst xs))):TyOf K H (.ref a) (.type "list")
  | tup {a:az} {xs:List V} (e:H a=some (.tup xs)):TyOf K H (.ref a) (.type "tuple")
  | dK {a:az} {kvs:List (Key × V)} (e:H a=some (.dK kvs)):TyOf K H (.ref a) (.type "dict")
  | dT {a:az} {kvs:List (List Key × V)} (e:H a=some (.dT kvs)):TyOf K H (.ref a) (.type "dict")
  | ins {a C dx:az} {fs:List (bM × V)} (e:H a=some (.ins C dx fs)) (cl:Cls K C) (ha:iH K (.ref C) "__class__"=some (some (.builtin "object.__class__")))
      (hn:yH K (.builtin "object.__class__") "__get__"=some (some (.builtin "getset_descriptor.__get__"))) (xG:PySem.W.takesIn K (.builtin "object.__class__")=some true)
      (hm:PySem.W.mroIn K C (.type "object")=some true):TyOf K H (.ref a) (.ref C)
theorem a8v(I:Inv X pins σ H s)(rx:RelV x u)(ty:TyOf X.K H x t)(e:dY X.K t c=some b)(h:∀tk,Q (.bool b) {s with toks:=tk}) :
    aQ (bc X.prog X.w) A (call (.builtin "isinstance") [u,c]) Q E s:=by
  cases ty with
  | non=>cases (show u=bE from rx);exact cF PySem.W.kitx_none I.kIn iG e (fun z=>nomatch z) h
  | bl y=>cases (show u=kr y from rx);exact cF PySem.W.kitx_bool I.kIn iG e (fun z=>nomatch z) h
  | int i=>obtain⟨t,q⟩:=(show ∃t,u=gM i t from rx);cases q;exact cF PySem.W.kitx_int I.kIn iG e (fun z=>nomatch z) h
  | str y=>obtain⟨t,q⟩:=(show ∃t,u=aj.str y t from rx);cases q;exact cF PySem.W.kitx_str I.kIn iG e (fun z=>nomatch z) h
  | flt y=>obtain⟨t,q⟩:=(show ∃t,u=aj.float y t from rx);cases q;exact cF PySem.W.kitx_float I.kIn iG e (fun z=>nomatch z) h
  | @lst a xs ea=>
    cases (show u=a_ a from rx)
    obtain⟨_,_,n,_,h1⟩:=(show ObjOk X.prog X.w H s.heap a (.lst xs) from I.hok a _ ea);exact cF lE I.kIn ⟨_,h1,rfl⟩ e (fun z=>nomatch z) h
  | @frz a ob xs ea=>
    cases (show u=a_ a from rx)
    obtain⟨_,_,_,n,_,h1⟩:=(show ObjOk X.prog X.w H s.heap a (.frz ob (.lst xs)) from I.hok a _ ea);exact cF lE I.kIn ⟨_,h1,rfl⟩ e (fun z=>nomatch z) h
  | @tup a xs ea=>
    cases (show u=a_ a from rx)
    obtain⟨_,_,_,p⟩:=(show ObjOk X.prog X.w H s.heap a (.tup xs) from I.hok a _ ea);obtain⟨o,h1,h2,_⟩:=p;exact cF wU I.kIn ⟨o,h1,h2⟩ e (fun z=>nomatch z) h
  | @dK a kvs ea=>
    cases (show u=a_ a from rx)
    obtain⟨_,_,vs,_,p⟩:=(show ObjOk X.prog X.w H s.heap a (.dK kvs) from I.hok a _ ea);obtain⟨o,es,ep,h1,h2,_⟩:=p;exact cF lF I.kIn ⟨o,h1,h2.1⟩ e (fun z=>nomatch z) h
  | @dT a kvs ea=>
    cases (show u=a_ a from rx)
    obtain⟨_,_,xs,_,o,es,ep,h1,h2,_⟩:=(show ObjOk X.prog X.w H s.heap a (.dT kvs) from I.hok a _ ea);exact cF lF I.kIn ⟨o,h1,h2.1⟩ e (fun z=>nomatch z) h
  | @ins a C dx fs ea cl ha hn xG hm=>
    cases (show u=a_ a from rx)
    obtain⟨mA,O,_⟩:=b2p I.hok ea;obtain⟨od,J,_⟩:=O.look;exact cF (PySem.W.kitx_own (cl.get _) cl.hd ha hn xG hm) I.kIn J e (fun z=>nomatch z) h
end
end L2
namespace L2
open PySem PySem.Spec PyProof.Rows
structure Room (k:Nat) (A:bT):Prop where
  hd:A.handled=none
  dp:A.depth + 3 * k + 5 < recursionLimit
  un:A.units + 16 * k + 200 < dq
theorem Room.mono(r:Room k A)(h:j≤k):Room j A:=⟨r.hd,by have:=r.dp;omega,by have:=r.un;omega⟩
theorem Room.deeper(r:Room (k + 1) A)(env:tW):Room k (A.deeper env):=
  ⟨r.hd,by have:=r.dp;show A.depth + 1 + 3 * k + 5 < _;omega,by have:=r.un;show A.units + 3 + 16 * k + 200 < _;omega⟩
theorem Room.depth(r:Room k A):A.depth < recursionLimit:=by have:=r.dp;omega
theorem Room.units(r:Room k A):A.units + 64 < dq:=by have:=r.un;omega
def b8h:TA:=fun _ H Q=>Q [] H
def b6D(ta:TE)(tr:TA):TA:=fun σ H Q=>ta σ H fun x H1=>tr σ H1 fun xs H2=>Q (x :: xs) H2
section
variable {X:Cx}{e:Expr}{es:List Expr}{te:TE}{t:TA}{pos:eM}
theorem r9:PA X [] b8h:=fun _ _ _ _ H Q I h=>Calls.spliced_nil ⟨[],H,I,.nil,h⟩
theorem l3(ha:PE X e te)(hr:PA X es t)(hs:aF (e :: es) X.env=(false,cO e X.env) :: aF es X.env:=by rfl):PA X (e :: es) (b6D te t):=by
  intro pos pins s σ H Q I h;rw [hs];show aQ _ _ (spliced ((false,cO e X.env) :: cP pos (aF es X.env))) _ _ s;refine Calls.spliced_cons (thn (ha pins s σ H _ I h) fun u s1 ⟨x,H1,I1,r1,q1⟩=>?_);exact thn (hr pos pins s1 σ H1 _ I1 q1) fun us s2 ⟨xs,H2,I2,r2,q2⟩=>⟨x :: xs,H2,I2,.cons r1 r2,q2⟩
def b8i(t:TA):TE:=fun σ H Q=>t σ H fun xs H1=>xs.length≤aT∧∀p,H1 p=none→Q (.ref p) (upd H1 p (.tup xs))
def b8j(t:TA):TE:=fun σ H Q=>t σ H fun xs H1=>xs.length≤aT∧∀p,H1 p=none→Q (.ref p) (upd H1 p (.lst xs))
theorem a6d{x1}(h:PA X es t):PE X (.Tuple es x1 pos) (b8i t):=by
  intro pins s σ H Q I hq;refine wpAny_Tuple_spliced (thn (h pos pins s σ H _ I hq) fun us s1 ⟨xs,H1,I1,r,z,q⟩=>⟨by rw [←r.length];exact z,?_⟩);have hf:H1 s1.heap.objs.size=none:=I1.hok.fresh (aD _);refine⟨.ref s1.heap.objs.size,upd H1 s1.heap.objs.size (.tup xs),I1.laid (t':=s1.toks) (fun b u e=>aC _ e) (aD _) ?_,rfl,q _ hf⟩;exact⟨z,us,r,⟨_,aV _ rfl,rfl,_,rfl⟩⟩
theorem b4K(h:PA X es t):PE X (.List es pos) (b8j t):=by
  intro pins s σ H Q I hq;refine wpAny_List_spliced (thn (h pos pins s σ H _ I hq) fun us s1 ⟨xs,H1,I1,r,z,q⟩=>⟨by rw [←r.length];exact z,?_⟩);have hf:H1 s1.heap.objs.size=none:=I1.hok.fresh (aD _);refine⟨.ref s1.heap.objs.size,upd H1 s1.heap.objs.size (.lst xs),I1.laid (t':=s1.toks) (fun b u e=>aC _ e) (aD _) ?_,rfl,q _ hf⟩;exact⟨z,us,0,r,aV _ rfl⟩
end
abbrev Sp:=List V→Hp→VK→XK→Prop
abbrev CXT:=List tW→Hp→au→XK→aj→au→Prop
structure Env0 (P:bB) (w:bU) (K:ag) (mg:bM→Option aj) (base:cm) (A:bT) (outer:List tW) (s:au) (H:Hp):Prop where
  frames:A.frames=some outer
  mod:Mod K mg base
  bs:∀b o,base.get? b=some o→s.heap.get? b=some o∧H b=none
  bsz:base.objs.size≤s.heap.objs.size
  funs:s.heap.FunFrames base outer
  frf:∀b∈frs outer,H b=none
  hok:HOk P w H s.heap
  bare:mK s.gens
  tabs:TabsIn K H
def CE(outer:List tW)(P:bB)(w:bU)(H:Hp)(s:au)(Q:VK)(u:aj)(s':au):Prop:=
  ∃v H',s'.os=s.os∧mK s'.gens∧Un (frs outer) [] H H' s.heap s'.heap∧HOk P w H' s'.heap∧RelV v u∧Q v H'
def CR(CX:CXT)(outer:List tW)(P:bB)(w:bU)(H:Hp)(s:au)(Q:VK)(E:XK)(r:BC)(s':au):Prop:=
  match r with
  | .ok (.ret u)=>CE outer P w H s Q u s'
  | .ok _=>False
  | .error e=>CX outer H s E e s'
structure FnOk (P:bB) (w:bU) (K:ag) (mg:bM→Option aj) (base:cm) (CX:CXT) (k:Nat) (f:az) (fd:dC) (ps:List bM) (sp:Sp):Prop where
  len:∀vs H Q E,sp vs H Q E→vs.length=ps.length
  run:∀(A:bT) (outer:List tW) (s:au) (H:Hp) (args:Args) (us:List aj) (vs:List V) (Q:VK) (E:XK),Room k A→Env0 P w K mg base A outer s H→lR s fd args (ps.zip us)→Vals vs us→sp vs H Q E→
    jF (bc P w) A (.call (.ref f) args) (CR CX outer P w H s Q E) s
theorem FnOk.mono{P:bB}{w:bU}{K:ag}{mg:bM→Option aj}{base:cm}{CX:CXT}{j k:Nat}{f:az}{fd:dC}{ps:List bM}{sp:Sp}(F:FnOk P w K mg base CX j f fd ps sp)(h:j≤k) :
    FnOk P w K mg base CX k f fd ps sp:=⟨F.len,fun A outer s H args us vs Q E hr=>F.run A outer s H args us vs Q E (hr.mono h)⟩
section
variable {X:Cx}{pins:List (az × eW)}{σ:St}{H:Hp}{s s':au}
theorem Inv.env0(I:Inv X pins σ H s):Env0 X.prog X.w X.K X.mg X.base X.A X.stack s H:=
  ⟨I.ok.frames,I.ok.mod,I.bs,bI I.ok.bsz I.sz,I.stack,I.stkFree,I.hok,I.bare,I.tabs⟩
theorem Inv.after(I:Inv X pins σ H s)(h:CE X.stack X.prog X.w H s Q u s'):EP X pins σ Q u s':=by
  obtain⟨v,H',os,bare,un,hok,r,q⟩:=h;obtain⟨hh,g,d,t,uO⟩:=s';obtain rfl:uO=s.os:=os;exact⟨v,H',I.call (h':=hh) (g':=g) (d':=d) (t':=t) (ch:=[]) un hok bare (fun b z=>absurd z (by simp)),r,q⟩
end
def b3U(sp:Sp)(pY:List V)(E:XK)(t:TA):TE:=fun σ H Q=>t σ H fun vs H1=>sp (vs ++ pY) H1 Q E
def Binds(K:ag)(fd:dC)(ps:List bM)(ds:List aj):Prop:=
  ∀(s:au) (us:List aj),K.In s.heap→(us ++ ds).length=ps.length→lR s fd ⟨us,[]⟩ (ps.zip (us ++ ds))
theorem Binds.all{K:ag}{fd:dC}{ps:List bM}(h:∀us:List aj,us.length=ps.length→bindArgs fd ⟨us,[]⟩=pure (ps.zip us)):Binds K fd ps []:=fun s us _ hl=>by
  rw [bV] at hl ⊢;exact .of_eq (h us hl)
def a6e(CX:CXT)(X:Cx)(E:XK):Prop:=∀(pins:List (az × eW)) (σ:St) (H:Hp) (s:au) (e:aj) (s':au),Inv X pins σ H s→CX X.stack H s E e s'→X.xe e s'
section
variable {X:Cx}{CX:CXT}{k:Nat}{f C:az}{fd:dC}{ps:List bM}{sp:Sp}{pY:List V}{ds:List aj}{E:XK}{x m:bM}{p pos apos:eM}{e o:Expr}{es:List Expr}{ta:TE}{t:TA}
theorem b4L(F:FnOk X.prog X.w X.K X.mg X.base CX k f fd ps sp)(hr:Room k X.A)(hb:Binds X.K fd ps ds)(hd:Vals pY ds)(hx:a6e CX X E)
    (I:Inv X pins σ H s) (r:Vals vs us) (h:sp (vs ++ pY) H Q E):aQ (bc X.prog X.w) X.A (call (.ref f) us) (EP X pins σ Q) X.xe s:=by
  have r2:Vals (vs ++ pY) (us ++ ds):=r.append hd;have hl:(us ++ ds).length=ps.length:=by rw [←r2.length];exact F.len _ _ _ _ h
  refine wpAny_call (gZ (F.run X.A X.stack s H ⟨us,[]⟩ (us ++ ds) (vs ++ pY) Q E hr I.env0 (hb s us I.kIn hl) r2 h) fun r s' hq=>?_);cases r with
  | error e=>exact hx pins σ H s e s' I hq
  | ok fl=>
    cases fl with
    | ret u=>exact I.after hq
    | next=>exact fO hq
    | brk=>exact fO hq
    | cont=>exact fO hq
theorem b2q(F:FnOk X.prog X.w X.K X.mg X.base CX k f fd ps sp)(hr:Room k X.A)(hg:Gl X x)(hm:X.mg x=some (.ref f))(hk:fJ X.K (.ref f)=true)(hb:Binds X.K fd ps ds)(hd:Vals pY ds)(hx:a6e CX X E)
    (ha:PA X (e :: es) t) (l_:(x == ("__debug__":bM))=false:=by decide) (he:aF (e :: es) X.env=(false,cO e X.env) :: aF es X.env:=by rfl) (gG:(cP pos (aF es X.env)).any (·.1)=false:=by rfl) :
    PE X (.Call (.Name x p) (e :: es) [] pos) (b3U sp pY E t):=by
  intro pins s σ H Q I h;refine mL (a7w I hg hm ?_ l_);refine PySem.W.callWith_K (h₀:=X.base) I.ok.mod.kin hk (thn (ha pos pins s σ H _ I h) fun us s1 ⟨vs,H1,I1,r,q⟩=>⟨I1.kIn,?_⟩) he gG;exact b4L F hr hb hd hx I1 r q
structure Mk (K:ag) (C f:az):Prop where
  makes:PySem.W.makesIn K C=true
  init:iH K (.ref C) "__init__"=some (some (.ref f))
  fn:PySem.W.isFn K (.ref f)=true
  kp:fJ K (.ref C)=true
end
section
variable {X:Cx}{CX:CXT}{k:Nat}{f C:az}{fd:dC}{ps ks:List bM}{sp:Sp}{E:XK}{x m:bM}{p pos apos sf:eM}{e o:Expr}{es:List Expr}{Cc:List ei}{te ta:TE}{t tk:TA}{nm:Option bM}
structure KBinds (K:ag) (fd:dC) (ps ks:List bM) (g:List aj→List aj→List aj) (gV:List V→List V→List V):Prop where
  to:∀(s:au) (us ws:List aj),K.In s.heap→(g us ws).length=ps.length→lR s fd ⟨us,ks.zip ws⟩ (ps.zip (g us ws))
  rel:∀{vs:List V} {us:List aj} {zs:List V} {ws:List aj},Vals vs us→Vals zs ws→Vals (gV vs zs) (g us ws)
variable {g:List aj→List aj→List aj}{gV:List V→List V→List V}
end
structure FnScope (N P:List bM) (sc:gA):Prop where
  kind:sc.kind=.function
  co:sc.isCoroutine=false
  gen:sc.isGenerator=false
  nd:N.Nodup
  pre:N.take P.length=P
  par:∀x∈P,sc.names.lookup x=some .local∨sc.names.lookup x=some .cell
  nofree:∀y∈sc.names,y.2≠.free
theorem a2I{kindOf:bM→Option iK}{x:bM}:∀{binds:List (bM × aj)} {m:bM→Option aj},(∀v,(x,v)∉binds)→yD kindOf binds m x=m x
  | [],_,_=>rfl
  | (n,v) :: r,m,h=>by
    unfold yD;rw [a2I fun w hw=>h w (ah _ hw)]
    split
    · have:x≠n:=by rintro rfl;exact h v aq
      simp [this]
    · rfl
theorem a2J{kindOf:bM→Option iK}{x:bM}:∀{binds:List (bM × aj)} {m:bM→Option aj},(∀v,(x,v)∉binds)→yE kindOf binds m x=m x
  | [],_,_=>rfl
  | (n,v) :: r,m,h=>by
    unfold yE;rw [a2J fun w hw=>h w (ah _ hw)]
    split
    · rfl
    · have:x≠n:=by rintro rfl;exact h v aq
      simp [this]
theorem a2K{kindOf:bM→Option iK}{x:bM}{v:aj}:∀{P:List bM} {vs:List aj} {i:Nat} {m:bM→Option aj},P.Nodup→P[i]?=some x→vs[i]?=some v→kindOf x=some .local→
    yD kindOf (P.zip vs) m x=some v
  | [],_,_,_,_,h,_,_=>by simp at h
  | _ :: _,[],_,_,_,_,h,_=>by simp at h
  | p :: P,w :: vs,0,m,nd,h1,h2,hk=>by
    simp at h1 h2;subst h1;subst h2
    show yD kindOf ((p,w) :: P.zip vs) m p=_;unfold yD;rw [a2I fun v hv=>(bJ.mp nd).1 (jG hv).1,aE hk];simp
  | p :: P,w :: vs,i + 1,m,nd,h1,h2,hk=>by
    show yD kindOf ((p,w) :: P.zip vs) m x=_;unfold yD;exact a2K (i:=i) (bJ.mp nd).2 (by simpa using h1) (by simpa using h2) hk
theorem a2L{kindOf:bM→Option iK}{x:bM}{v:aj}:∀{P:List bM} {vs:List aj} {i:Nat} {m:bM→Option aj},P.Nodup→P[i]?=some x→vs[i]?=some v→kindOf x≠some .local→
    yE kindOf (P.zip vs) m x=some v
  | [],_,_,_,_,h,_,_=>by simp at h
  | _ :: _,[],_,_,_,_,h,_=>by simp at h
  | p :: P,w :: vs,0,m,nd,h1,h2,hk=>by
    simp at h1 h2;subst h1;subst h2
    show yE kindOf ((p,w) :: P.zip vs) m p=_;unfold yE;rw [a2J fun v hv=>(bJ.mp nd).1 (jG hv).1,aJ hk];simp
  | p :: P,w :: vs,i + 1,m,nd,h1,h2,hk=>by
    show yE kindOf ((p,w) :: P.zip vs) m x=_;unfold yE;exact a2L (i:=i) (bJ.mp nd).2 (by simpa using h1) (by simpa using h2) hk
def start(N:List bM)(vs:List V):St:=vs.map some ++ bu (N.length - vs.length) none
def a2x(CX:CXT)(P:bB)(w:bU)(K:ag)(mg:bM→Option aj)(base:cm)(N:List bM)(qual:bM)(scope:gA)(f:az)(cd:aj)(A:bT)(outer:List tW)(s:au)(H:Hp)(E:XK):Cx where
  prog:=P
  w:=w
  K:=K
  mg:=mg
  base:=base
  A:=A.deeper (kj qual scope s.heap.objs.size f cd)
  N:=N
  s₀:=s
  H₀:=H
  env:=kj qual scope s.heap.objs.size f cd
  outer:=outer
  stack:=kj qual scope s.heap.objs.size f cd :: outer
  ex:=[]
  calm:=true
  fn:=fun _=>true
  pn:=[]
  xe:=fun e s'=>aQ (bc P w) (A.deeper (kj qual scope s.heap.objs.size f cd)) (leaving (kj qual scope s.heap.objs.size f cd) e) (fun _ uJ=>CX outer H s E e uJ) (fun e' uJ=>CX outer H s E e' uJ) s'
theorem a4D{sc:gA}(h:sc.names.lookup x=some .cell):∃c,(cellsFrom n sc.names []).lookup x=some c:=by
  have q:=qN sc.names n [] (.inl h);exact Option.isSome_iff_exists.mp q
theorem a8w{CX:CXT}{P:bB}{w:bU}{K:ag}{mg:bM→Option aj}{base:cm}{N ps:List bM}{qual:bM}{scope:gA}{f:az}{cd:aj}{A:bT}{outer:List tW}{s s1:au}{H:Hp}{E:XK}{us:List aj}{vs:List V}
    (S:FnScope N ps scope) (hd:A.handled=none) (e0:Env0 P w K mg base A outer s H) (hl:vs.length=ps.length) (r:Vals vs us)
    (x:InCallC s s.heap.objs.size (yD (kj qual scope s.heap.objs.size f cd).kindOf (ps.zip us) fun _=>none) (cellsFrom (s.heap.objs.size + 1) scope.names []) (yE (kj qual scope s.heap.objs.size f cd).kindOf (ps.zip us) fun _=>none) s1) :
    Inv (a2x CX P w K mg base N qual scope f cd A outer s H E) [] (start N vs) H s1:=by
  have gG:ps.length≤N.length:=by have:=eG fL S.pre;rw [gT] at this;omega
  obtain⟨h1,tk,rfl,hk⟩:=x.done;have uS:∀b:az,b∉(a2x CX P w K mg base N qual scope f cd A outer s H E).ex:=fun b z=>absurd (show b∈([]:List az) from z) (by simp)
  refine⟨⟨e0.mod,S.kind,rfl,rfl,aD _,fun y z c h1 h2=>?_,fun y hy=>?_,fun y c _ h=>?_,fun _=>hd,bT.frames_deeper e0.frames,.inr ⟨rfl,rfl⟩,fun b z=>absurd z (uS b),e0.bs,e0.bsz,fun b _ _=>uS b,fun b z=>absurd z (uS b),e0.funs,e0.frf,e0.tabs⟩,
    rfl,e0.bare,Un.kept hk,⟨_,x.toInCall.ns,fun i y v h1 h2 h3=>?_⟩,fun y c h=>⟨_,x.cell y c h⟩,e0.hok.fresh (aD _),fun y c h=>?_,fun p hp=>absurd (show p∈([]:List (az × eW)) from hp) (by simp),e0.hok.kept hk,?_⟩
  · exact name_of_addr x.apart (dJ h1) (dJ h2)
  · have hy:scope.names.lookup y=some .cell∨scope.names.lookup y=some .free:=hy
    rcases hy with hy|hy
    · exact a4D hy
    · exact absurd rfl (S.nofree _ (dJ hy))
  · exact dE (x.above y c (dJ h))
  · have hi:i < vs.length:=by
      unfold start at h2;by_cases hi:i < vs.length
      · exact hi
      · rw [cY (by simpa using hi)] at h2
        rw [qd] at h2
        split at h2 <;> cases h2
    have ha:vs[i]?=some v:=by
      unfold start at h2;rw [eD (by simpa using hi),aN] at h2;cases e:vs[i]? with
      | none=>rw [e] at h2;cases h2
      | some a=>rw [e] at h2;cases h2;rfl
    obtain⟨u,hu,rv⟩:=r.get ha;have hp:ps[i]?=some y:=by
      rw [←S.pre,List.getElem?_take_of_lt (by omega)];exact h1
    have xq:ps.Nodup:=by rw [←S.pre];exact S.nd.sublist (List.take_sublist _ _)
    refine⟨u,rv,?_⟩;rcases S.par y (ba hp) with k|k
    · exact .inl ⟨k,a2K xq hp hu k⟩
    · obtain⟨c,e⟩:=a4D (n:=s.heap.objs.size + 1) k
      refine .inr ⟨.inl k,c,e,?_⟩;have q:=x.cell y c e;rw [a2L xq hp hu (by show scope.names.lookup y≠_;rw [k];decide)] at q;exact q
  · exact e0.hok.fresh (dE (x.above y c (dJ h)))
  · unfold start
    show _=N.length;rw [aM,ae,fw];omega
theorem b6E{CX:CXT}{P:bB}{w:bU}{K:ag}{mg:bM→Option aj}{base:cm}{k:Nat}{f:az}{name qual:bM}{params:yN}{body:List g_}{scope:gA}{dV kV doc pm gg ct oc:aj}{an od:Option az}
    {nG:Array (Option aj)} {N ps:List bM} {sp:Sp} (lk:K.lookup f=some ⟨oc,od,.func (eX name qual params body scope dV kV doc pm an gg ct),nG⟩) (hW:kg K gg qual=true) (S:FnScope N ps scope)
    (len:∀vs H Q E,sp vs H Q E→vs.length=ps.length)
    (nR:∀(A:bT) (outer:List tW) (s:au) (H:Hp) (vs:List V) (Q:VK) (E:XK),Room k (A.deeper (kj qual scope s.heap.objs.size f gg))→sp vs H Q E→
      ∃t,PSs (a2x CX P w K mg base N qual scope f gg A outer s H E) body t∧t {nx:=fun _ H'=>Q .non H',rt:=Q} (start N vs) H) :
    FnOk P w K mg base CX (k + 1) f (eX name qual params body scope dV kV doc pm an gg ct) ps sp:=by
  refine⟨len,fun A outer s H args us vs Q E hr e0 hb r pI=>?_⟩;have hl:=len _ _ _ _ pI;have KX:K.In s.heap:=e0.mod.kin.keeps fun b o e=>(e0.bs b o e).1
  have lim:s.heap.NoLimit:=e0.mod.nolimit.keeps fun b o e=>(e0.bs b o e).1
  have sP:∀y∈ps.zip us,scope.names.lookup y.1=some .local∨(scope.names.lookup y.1=some .cell∧((cellsFrom (s.heap.objs.size + 1) scope.names []).lookup y.1).isSome=true):=fun⟨n,v⟩ hy=>by
    rcases S.par n (jG hy).1 with q|q
    · exact .inl q
    · exact .inr ⟨q,qN _ _ _ (.inl q)⟩
  refine codeAny_call_function hr.depth (KX _ _ lk) rfl S.co S.gen rfl (PySem.W.codeRec_of KX hW) (hb _ _ _ _ ?_);refine wpAny_newFunctionEnv_cells S.kind sP fun env he s1 x=>?_
  subst he;refine⟨lim.keeps x.toInCall.keep,codeAny_func ?_⟩;obtain⟨t,ht,hq⟩:=nR A outer s H vs Q E (hr.deeper _) pI;have I:Inv (a2x CX P w K mg base N qual scope f gg A outer s H E) [] (start N vs) H s1:=a8w S hr.hd e0 hl r x;refine dG (ht [] s1 (start N vs) H _ I hq) (fun fl s' hs=>?_) fun e s' hs=>hs
  have fin:∀{σ':St} {H':Hp} {v:V} {u:aj},Inv (a2x CX P w K mg base N qual scope f gg A outer s H E) [] σ' H' s'→RelV v u→Q v H'→CE outer P w H s Q u s':=
    fun {σ' H' v u} J rv q=>⟨v,H',J.os,J.bare,J.base,J.hok,rv,q⟩
  cases fl with
  | ret u=>
    obtain⟨v,σ',H',J,rv,q⟩:=hs;exact fin J rv q
  | next=>
    obtain⟨σ',H',J,q⟩:=hs;exact fin (v:=V.non) (u:=bE) J rfl q
  | brk=>
    obtain⟨_,_,_,q⟩:=hs;exact fO q
  | cont=>
    obtain⟨_,_,_,q⟩:=hs;exact fO q
end L2
namespace L2
open PySem PySem.Spec PyProof.Rows
section
variable {X:Cx}{x:bM}{p pos:eM}{e:Expr}{es:List Expr}{t:TA}{id T:String}{r:List V→Hp→VK→Prop}
def tCB(r:List V→Hp→VK→Prop)(t:TA):TE:=fun σ H Q=>t σ H fun vs H1=>r vs H1 Q
theorem Q3(hc:CallR X (.builtin id) r)(hg:Gl X x)(hm:X.mg x=none)(hv:gh x=some (.builtin id))(ha:PA X (e :: es) t)(hn:x≠"__name__":=by decide)(l_:(x == ("__debug__":bM))=false:=by decide)
    (he:aF (e :: es) X.env=(false,cO e X.env) :: aF es X.env:=by rfl) (gG:(cP pos (aF es X.env)).any (·.1)=false:=by rfl):PE X (.Call (.Name x p) (e :: es) [] pos) (tCB r t):=by
  intro pins s σ H Q I h;refine mL (a1u I hg hm hv ?_ hn l_);exact PyProof.Rows.callWith_builtin1 (thn (ha pos pins s σ H _ I h) fun us s1 ⟨vs,H1,I1,r1,q1⟩=>hc pins s1 σ H1 vs us Q I1 r1 q1) he gG
theorem L6(hc:CallR X (.type T) r)(hg:Gl X x)(hm:X.mg x=none)(hv:gh x=some (.type T))(ha:PA X (e :: es) t)(hn:x≠"__name__":=by decide)(l_:(x == ("__debug__":bM))=false:=by decide)
    (he:aF (e :: es) X.env=(false,cO e X.env) :: aF es X.env:=by rfl) (gG:(cP pos (aF es X.env)).any (·.1)=false:=by rfl):PE X (.Call (.Name x p) (e :: es) [] pos) (tCB r t):=by
  intro pins s σ H Q I h;refine mL (a1u I hg hm hv ?_ hn l_);exact ik (thn (ha pos pins s σ H _ I h) fun us s1 ⟨vs,H1,I1,r1,q1⟩=>hc pins s1 σ H1 vs us Q I1 r1 q1) he gG
end
end L2
namespace HT
open PySem PyProof.Rows
section
variable {prog:bB}{w:bU}{A:bT}{E:aj→au→Prop}{s:au}
def sIx(n d:Nat):Option Int→Nat
  | none=>d
  | some v=>if v < 0 then (v + (n:Int)).toNat else min v.toNat n
end
end HT
namespace L2
open PySem PySem.Spec PyProof.Rows
abbrev TO:=St→Hp→(Option Int→Hp→Prop)→Prop
def PO(X:Cx)(e:Option Expr)(t:TO):Prop:=
  ∀(pins:List (az × eW)) (s:au) (σ:St) (H:Hp) (Q:Option Int→Hp→Prop),Inv X pins σ H s→t σ H Q→
    aQ (bc X.prog X.w) X.A (evalPart e X.env) (fun u s'=>∃o H',Inv X pins σ H' s'∧IsPart u o∧Q o H') X.xe s
def b2r:TO:=fun _ H Q=>Q none H
def b6F(t:TE):TO:=fun σ H Q=>t σ H fun x H1=>∃i,x=.int i∧Q (some i) H1
section
variable {X:Cx}{e:Expr}{te:TE}{lo hi:Option Expr}{tl th:TO}{pos p2:eM}
theorem b2s:PO X none b2r:=by
  intro pins s σ H Q I h;rw [evalPart_none];exact ak ⟨none,H,I,.none,h⟩
theorem b2t(h:PE X e te):PO X (some e) (b6F te):=by
  intro pins s σ H Q I hw;rw [evalPart_some];refine thn (h pins s σ H _ I hw) fun u s1 ⟨x,H1,I1,r1,q1⟩=>?_
  obtain⟨i,rfl,q⟩:=q1;obtain⟨t,rfl⟩:=r1;exact⟨some i,H1,I1,.int i t,q⟩
def SlR(X:Cx)(r:V→Option Int→Option Int→Hp→VK→Prop):Prop:=
  ∀(pins:List (az × eW)) (s:au) (σ:St) (H:Hp) (x:V) (v vl vu:aj) (lo hi:Option Int) (sl:az) (Q:VK),Inv X pins σ H s→RelV x v→s.heap.IsSliceOf sl vl vu .none→IsPart vl lo→IsPart vu hi→r x lo hi H Q→
    ∃T id,typeLookup (.type T) "__getitem__"=pure (some (.builtin id))∧s.TypeIs v T∧aQ (bc X.prog X.w) X.A (nU v (.ref sl)) (EP X pins σ Q) X.xe s
def tSl(r:V→Option Int→Option Int→Hp→VK→Prop)(te:TE)(tl th:TO):TE:=fun σ H Q=>te σ H fun x H1=>tl σ H1 fun l H2=>th σ H2 fun u H3=>r x l u H3 Q
theorem a9R(hr:SlR X r)(he:PE X e te)(hl:PO X lo tl)(hu:PO X hi th):PE X (.Subscript e (.Slice lo hi none p2) pos) (tSl r te tl th):=by
  intro pins s σ H Q I h;refine Subscript_ (thn (he pins s σ H _ I h) fun v s1 ⟨x,H1,I1,r1,q1⟩=>?_);refine wpAny_Slice (thn (hl pins s1 σ H1 _ I1 q1) fun vl s2 ⟨l,H2,I2,pl,q2⟩=>thn (hu pins s2 σ H2 _ I2 q2) fun vu s3 ⟨u,H3,I3,pu,q3⟩=>?_);rw [evalPart_none];refine ak ?_;have I4:Inv X pins σ H3 {s3 with heap:=s3.heap.push {cls:=.type "slice",data:=.fields #[vl,vu,.none]}}:=I3.kept (t':=s3.toks) fun b ob q=>aC _ q
  obtain⟨T,id,hT,ht,hg⟩:=hr pins {s3 with heap:=s3.heap.push {cls:=.type "slice",data:=.fields #[vl,vu,.none]}} σ H3 x v vl vu l u s3.heap.objs.size Q I4 r1 (cm.IsSliceOf.new ..) pl pu q3;show aQ (bc X.prog X.w) X.A (subscriptTail e (.Slice lo hi none p2) v (.ref s3.heap.objs.size)) (EP X pins σ Q) X.xe {s3 with heap:=s3.heap.push {cls:=.type "slice",data:=.fields #[vl,vu,.none]}};exact tail_any (ops:=[.ref s3.heap.objs.size,v]) ht hT hg (by with_unfolding_all rfl)
def a6f(xs:List V)(lo hi:Option Int):List V:=(xs.drop (HT.sIx xs.length 0 lo)).take (HT.sIx xs.length xs.length hi - HT.sIx xs.length 0 lo)
theorem a4E(xs:List V)(lo hi:Option Int):(a6f xs lo hi).length≤xs.length:=by
  unfold a6f;rw [gT,BI];omega
end
end L2
namespace L2
open PySem PySem.Spec PyProof.Rows
def ixN(n:Nat)(i:Int):Option Nat:=if 0≤i then (if i < n then some i.toNat else none) else if -(n:Int)≤i then some (i + n).toNat else none
def atI{α:Type}(xs:List α)(i:Int):Option α:=(ixN xs.length i).bind fun j=>xs[j]?
theorem b2u(h:ixN n i=some j):seqIndex? i n=some j∧j < n∧-(n:Int)≤i∧i < n:=by
  unfold ixN at h;by_cases h0:0≤i
  · rw [aE h0] at h
    by_cases h1:i < n
    · rw [aE h1] at h
      have e:i.toNat=j:=aP h;exact⟨by rw [seqIndex_of h0 h1,e],by omega,by omega,h1⟩
    · rw [aJ h1] at h;cases h
  · rw [aJ h0] at h
    by_cases h1:-(n:Int)≤i
    · rw [aE h1] at h
      have e:(i + n).toNat=j:=aP h;exact⟨by rw [seqIndex_neg (by omega) h1,e],by omega,h1,by omega⟩
    · rw [aJ h1] at h;cases h
theorem a7y{α:Type}{xs:List α}{i:Int}{v:α}(h:atI xs i=some v):∃j,seqIndex? i xs.length=some j∧xs[j]?=some v∧j < xs.length∧-(xs.length:Int)≤i∧i < xs.length:=by
  unfold atI at h;cases e:ixN xs.length i with
  | none=>rw [e] at h;cases h
  | some j=>
    rw [e] at h;obtain⟨h1,h2,h3,h4⟩:=b2u e;exact⟨j,h1,h,h2,h3,h4⟩
def Y3(b:Expr):Prop:=∀o i,pE b false o i=operate [o,i] (nU o i)
def IxR(X:Cx)(r:R2):Prop:=
  ∀(value slice:Expr) (pins:List (az × eW)) (s:au) (σ:St) (H:Hp) (x y:V) (v u:aj) (Q:VK),Inv X pins σ H s→RelV x v→RelV y u→r x y H Q→
    pE slice false v u=operate [v,u] (nU v u)→aQ (bc X.prog X.w) X.A (subscriptTail value slice v u) (EP X pins σ Q) X.xe s
def MtR(X:Cx)(id:String)(r:V→List V→Hp→VK→Prop):Prop:=
  ∀(pins:List (az × eW)) (s:au) (σ:St) (H:Hp) (x:V) (xs:List V) (v:aj) (us:List aj) (Q:VK),Inv X pins σ H s→RelV x v→Vals xs us→r x xs H Q→
    aQ (bc X.prog X.w) X.A (call (.builtin id) (v :: us)) (EP X pins σ Q) X.xe s
section
variable {X:Cx}{a b:Expr}{ta tb:TE}{pos:eM}
theorem IxR.or(h:IxR X r)(h':IxR X r'):IxR X (fun x y H Q=>r x y H Q∨r' x y H Q):=by
  intro value slice pins s σ H x y v u Q I rx ry q hs;rcases q with q|q
  · exact h value slice pins s σ H x y v u Q I rx ry q hs
  · exact h' value slice pins s σ H x y v u Q I rx ry q hs
theorem a7z(hr:IxR X r)(ha:PE X a ta)(hb:PE X b tb)(hs:Y3 b):PE X (.Subscript a b pos) (tOp r ta tb):=by
  intro pins s σ H Q I h;exact Subscript_ (b4A ha hb I h fun v u s2 x y H2 I2 rx ry q=>hr a b pins s2 σ H2 x y v u Q I2 rx ry q (hs _ _))
def b6G(K:ag):R2:=fun x y H Q=>∃p xs i v,x=.ref p∧y=.int i∧SqL K H p xs∧atI xs i=some v∧Q v H
def b6H(K:ag):R2:=fun x y H Q=>∃p xs i v,x=.ref p∧y=.int i∧SqT K H p xs∧atI xs i=some v∧Q v H
theorem b2v:IxR X (b6G X.K):=by
  intro value slice pins s σ H x y v u Q I rx ry h hs;obtain⟨p,xs,i,z,rfl,rfl,hq,he,q⟩:=h;cases rx
  obtain⟨t,rfl⟩:=ry;obtain⟨cE,r,pl,hz⟩:=I.list hq;obtain⟨j,h1,h2,h3,h4,h5⟩:=a7y he;obtain⟨w,ew,uK⟩:=r.get h2;have hl:=r.length;have hn:=a1w;have fin:EP X pins σ Q w s:=⟨z,H,I,uK,q⟩;by_cases h0:0≤i
  · have hj:i.toNat=j:=by
      rw [seqIndex_of h0 h5] at h1;exact aP h1
    exact item_listR pl.isList h0 (by omega) (by rw [hj];simpa using ew) fin hs
  · have hj:(i + (cE.toArray.size:Int)).toNat=j:=by
      rw [seqIndex_neg (by omega) h4] at h1;rw [aX,←hl];exact aP h1
    exact subscriptTail_builtinR (x:=w) pl.isList.typeIs slot_list_getitem.lookup
      (wpAny_getItem_list_neg (Q:=fun r s'=>r=w∧EP X pins σ Q r s') pl.isList (by omega) (by rw [aX] <;> omega) (by omega) (by rw [hj];simpa using ew) ⟨rfl,fin⟩) hs
theorem b4M:IxR X (b6H X.K):=by
  intro value slice pins s σ H x y v u Q I rx ry h hs;obtain⟨p,xs,i,z,rfl,rfl,hq,he,q⟩:=h;cases rx
  obtain⟨t,rfl⟩:=ry;obtain⟨cE,r,pl,hz⟩:=I.tuple hq;obtain⟨j,h1,h2,h3,h4,h5⟩:=a7y he;obtain⟨w,ew,uK⟩:=r.get h2;have hl:=r.length;have hn:=a1w;have fin:EP X pins σ Q w s:=⟨z,H,I,uK,q⟩;exact subscriptTail_builtinR (x:=w) pl.typeIs slot_tuple_getitem.lookup
    (getItem_tuple (j:=j) (Q:=fun r s'=>r=w∧EP X pins σ Q r s') pl (by omega) (by omega) (by rw [aX,←hl];exact h1) (by simpa using ew) ⟨rfl,fin⟩) hs
theorem a3I(lo hi:Option Int)(n:Nat):(ix lo hi none n).1=((HT.sIx n 0 lo:Nat):Int)∧(ix lo hi none n).2.1=((HT.sIx n n hi:Nat):Int)∧(ix lo hi none n).2.2=1:=by
  refine⟨?_,?_,rfl⟩
  · cases lo with
    | none=>simp [ix,HT.sIx]
    | some i=>
      simp only [ix,HT.sIx,BE,show (1:Int) > 0 by decide,gc];by_cases h:i < 0
      · simp only [h,gc] <;> omega
      · simp only [h,cQ] <;> omega
  · cases hi with
    | none=>simp [ix,HT.sIx]
    | some i=>
      simp only [ix,HT.sIx,BE,show (1:Int) > 0 by decide,gc];by_cases h:i < 0
      · simp only [h,gc] <;> omega
      · simp only [h,cQ] <;> omega
theorem a2y(cE:List aj)(lo hi:Option Int):slicePick cE.toArray lo hi none=((cE.drop (HT.sIx cE.length 0 lo)).take (HT.sIx cE.length cE.length hi - HT.sIx cE.length 0 lo)).toArray:=by
  obtain⟨h1,h2,h3⟩:=a3I lo hi cE.toArray.size;unfold slicePick;rw [h1,h2,h3];simp only [sliceRange_one,pick_run,aX] <;> rfl
def b8k(K:ag):V→Option Int→Option Int→Hp→VK→Prop:=fun x lo hi H Q=>∃a xs,x=.ref a∧SqL K H a xs∧∀p,H p=none→Q (.ref p) (upd H p (.lst (a6f xs lo hi)))
theorem b2w:SlR X (b8k X.K):=by
  intro pins s σ H x v vl vu lo hi sl Q I rx hs pl pu h;obtain⟨a,xs,rfl,hx,q⟩:=h;cases rx
  obtain⟨cE,r,ht,hz⟩:=I.list hx;have hlen:=r.length;refine⟨"list",_,slot_list_getitem.lookup,ht.isList.typeIs,?_⟩;refine wpAny_getItem_list_slice ht.isList hs pl pu .none (by simp) ?_ (by rw [aX] <;> omega);rw [a2y,←hlen];refine⟨.ref s.heap.objs.size,_,I.laid (t':=s.toks) (o:=.lst (a6f xs lo hi)) (fun b ob q=>aC _ q) (aD _) ?_,rfl,q _ (I.hok.fresh (aD _))⟩;exact⟨bI (a4E xs lo hi) hz,_,0,(r.drop (HT.sIx xs.length 0 lo)).take (HT.sIx xs.length xs.length hi - HT.sIx xs.length 0 lo),aV _ rfl⟩
theorem a3J:CallR X (.builtin "len") (fun xs H Q=>∃p ys,xs=[.ref p]∧(SqL X.K H p ys∨SqT X.K H p ys)∧Q (.int ys.length) H):=by
  intro pins s σ H xs us Q I r h;obtain⟨p,ys,rfl,hq,q⟩:=h;obtain⟨u,rfl,rx⟩:=vals1 r;cases rx
  have hn:=a1w;rcases hq with hq|hq
  · obtain⟨cE,r',pl,hz⟩:=I.list hq
    have hlen:=r'.length;exact Calls.call_len_list pl.isList (by simp only [aX] <;> omega) ⟨.int ys.length,H,I.tok _,⟨s.toks + 1,by rw [aX,hlen]⟩,q⟩
  · obtain⟨cE,r',pl,hz⟩:=I.tuple hq
    have hlen:=r'.length;exact len_tuple pl (by simp only [aX] <;> omega) ⟨.int ys.length,H,I.tok _,⟨s.toks + 1,by rw [aX,hlen]⟩,q⟩
theorem a3K:CallR X (.builtin "len") (fun xs H Q=>∃z,xs=[.str z]∧z.length≤aT∧Q (.int z.length) H):=by
  intro pins s σ H xs us Q I r h;obtain⟨z,rfl,hz,q⟩:=h;obtain⟨u,rfl,t,rfl⟩:=vals1 r;have hn:=a1w;exact len_str (by omega) ⟨.int z.length,H,I.tok _,⟨_,rfl⟩,q⟩
theorem CallR.or(h:CallR X f r)(h':CallR X f r'):CallR X f (fun xs H Q=>r xs H Q∨r' xs H Q):=by
  intro pins s σ H xs us Q I rs q;rcases q with q|q
  · exact h pins s σ H xs us Q I rs q
  · exact h' pins s σ H xs us Q I rs q
theorem a3L:CallR X (.type "list") (fun xs H Q=>∃p ys,xs=[.ref p]∧(SqL X.K H p ys∨SqT X.K H p ys)∧∀l,H l=none→Q (.ref l) (upd H l (.lst ys))):=by
  intro pins s σ H xs us Q I r h;obtain⟨p,ys,rfl,hq,q⟩:=h;obtain⟨u,rfl,rx⟩:=vals1 r;cases rx
  have fin:∀(cE:List aj),Vals ys cE→ys.length≤aT→∀(h':cm) (c':Nat),(∀b o',s.heap.get? b=some o'→h'.get? b=some o')→
      h'.get? s.heap.objs.size=some {cls:=.type "list",dict:=none,data:=.seq cE.toArray c',slots:=#[]}→EP X pins σ Q (.ref s.heap.objs.size) {s with heap:=h'}:=fun cE r' hz h' c' kp e=>
    ⟨.ref s.heap.objs.size,_,I.laid (t':=s.toks) kp (aD _) (show ObjOk X.prog X.w _ h' _ (.lst ys) from⟨hz,cE,c',r',e⟩),rfl,q _ (I.hok.fresh (aD _))⟩
  rcases hq with hq|hq
  · obtain⟨cE,r',pl,hz⟩:=I.list hq
    have hlen:=r'.length;obtain⟨o,ho,hc,n,hd⟩:=pl.isList;exact call_list_seq p (.inl rfl) ho hc hd (fun h' c' kp e=>fin cE r' hz h' c' kp e) (by simp only [aX] <;> omega)
  · obtain⟨cE,r',pl,hz⟩:=I.tuple hq
    have hlen:=r'.length;obtain⟨o,ho,hc,n,hd⟩:=pl;exact call_list_seq p (.inr rfl) ho hc hd (fun h' c' kp e=>fin cE r' hz h' c' kp e) (by simp only [aX] <;> omega)
theorem a2z:CallR X (.type "tuple") (fun xs H Q=>∃p ys,xs=[.ref p]∧((SqL X.K H p ys∧∀l,H l=none→Q (.ref l) (upd H l (.tup ys)))∨(SqT X.K H p ys∧Q (.ref p) H))):=by
  intro pins s σ H xs us Q I r h;obtain⟨p,ys,rfl,h⟩:=h;obtain⟨u,rfl,rx⟩:=vals1 r;cases rx
  rcases h with⟨hq,q⟩|⟨hq,q⟩
  · obtain⟨cE,r',pl,hz⟩:=I.list hq
    have hlen:=r'.length;refine call_tuple_list pl.isList (fun h' kp=>?_) (by simp only [aX] <;> omega);have I1:Inv X pins σ H {s with heap:=h'}:=I.kept (t':=s.toks) kp;have I2:Inv X pins σ (upd H h'.objs.size (.tup ys)) {s with heap:=h'.push {cls:=.type "tuple",data:=.seq cE.toArray}}:=
      I1.laid (t':=s.toks) (fun b o e=>aC _ e) (aD _) (show ObjOk X.prog X.w _ _ _ (.tup ys) from⟨hz,cE,r',IsTup.new _ _⟩)
    exact⟨.ref h'.objs.size,_,I2,rfl,q _ (I1.hok.fresh (aD _))⟩
  · obtain⟨cE,r',pl,hz⟩:=I.tuple hq
    exact call_tuple_same pl ⟨.ref p,H,I,rfl,q⟩
def tyV(K:ag)(T:String)(x:V)(H:Hp):Prop:=match x with
  | .str _=>T="str"
  | .int _=>T="int"
  | .ref p=>(T="list"∧∃xs,SqL K H p xs)∨(T="tuple"∧∃o,K.lookup p=some o∧o.cls=.type "tuple"∧o.dict=none)∨
      (T="dict"∧((∃kvs,H p=some (.dK kvs))∨∃kvs,H p=some (.dT kvs)))∨(T="set"∧∃S n,H p=some (.set S n))
  | _=>False
theorem a9S(I:Inv X pins σ H s)(r:RelV x v)(ty:tyV X.K T x H) :
    s.TypeIs v T∧∀a,v=.ref a→∃ob,s.heap.get? a=some ob∧ob.dict=none:=by
  cases x with
  | str z=>
    obtain⟨t,rfl⟩:=r;cases (show T="str" from ty)
    exact⟨typeIs_str s z t,fun _ e=>nomatch e⟩
  | int i=>
    obtain⟨t,rfl⟩:=r;cases (show T="int" from ty)
    exact⟨typeIs_int s i t,fun _ e=>nomatch e⟩
  | ref p=>
    cases r
    rcases ty with⟨rfl,xs,hq⟩|⟨rfl,o,hk,hc,hd⟩|⟨rfl,hk⟩|⟨rfl,S,n,hk⟩
    · obtain⟨cE,_,pl,_⟩:=I.list hq
      refine⟨pl.isList.typeIs,fun a e=>?_⟩;cases e
      obtain⟨o,n,e,c,hd,_⟩:=pl;exact⟨o,e,hd⟩
    · refine⟨⟨o,I.kIn p o hk,hc⟩,fun a e=>?_⟩
      cases e
      exact⟨o,I.kIn _ o hk,hd⟩
    · have z:∃o,s.heap.get? p=some o∧o.ExactDict:=by
        rcases hk with⟨kvs,hk⟩|⟨kvs,hk⟩
        · obtain⟨_,_,_,_,o,_,_,e,ex,_⟩:=I.hok p _ hk
          exact⟨o,e,ex⟩
        · obtain⟨_,_,_,_,o,_,_,e,ex,_⟩:=I.hok p _ hk
          exact⟨o,e,ex⟩
      obtain⟨o,e,ex⟩:=z;refine⟨⟨o,e,ex.1⟩,fun a e2=>?_⟩;cases e2
      exact⟨o,e,ex.2.1⟩
    · obtain⟨o,_,_,_,e,ex,_⟩:=I.hok p _ hk
      refine⟨⟨o,e,ex.1⟩,fun a e2=>?_⟩;cases e2
      exact⟨o,e,ex.2.1⟩
  | _=>exact fO ty
def b8l(K:ag)(T:String)(r:V→List V→Hp→VK→Prop)(to:TE):TE:=fun σ H Q=>to σ H fun x H1=>tyV K T x H1∧r x [] H1 Q
def tBM(K:ag)(T:String)(r:V→List V→Hp→VK→Prop)(to:TE)(t:TA):TE:=fun σ H Q=>to σ H fun x H1=>tyV K T x H1∧t σ H1 fun xs H2=>r x xs H2 Q
variable {o e:Expr}{es:List Expr}{to:TE}{t:TA}{name:bM}{apos cx:eM}{T id:String}{r:V→List V→Hp→VK→Prop}
theorem b4N(pa:PlainAttrs T)(slot:Slot T name id)(sx:typeOf (.builtin id)=pure (.type "method_descriptor"))(hm:MtR X id r)(ho:PE X o to)
    (eS:du o name X.env (cO o X.env)=cO o X.env:=by rfl) (eR:(apos.endLine == cx.line)=true:=by rfl):PE X (.Call (.Attribute o name apos) [] [] cx) (b8l X.K T r to):=by
  intro pins s σ H Q I h;refine wpAny_Call_method0_late eS eR (thn (ho pins s σ H _ I h) fun v s1 ⟨x,H1,I1,r1,ty,q1⟩=>?_);obtain⟨h1,h2⟩:=a9S I1 r1 ty;exact⟨T,id,pa,slot,sx,h1,h2,kC rfl (PySem.evalArgs_none (hm pins s1 σ H1 x [] v [] Q I1 r1 .nil q1))⟩
theorem a2M(pa:PlainAttrs T)(slot:Slot T name id)(sx:typeOf (.builtin id)=pure (.type "method_descriptor"))(hm:MtR X id r)(ho:PE X o to)(ha:PA X (e :: es) t)
    (eS:du o name X.env (cO o X.env)=cO o X.env:=by rfl)
    (gO:((cP cx (aF (e :: es) X.env)).all (fun x=>!x.1) && (iC cx (fy [] X.env)).all (fun x=>x.1.isSome)
      && decide ((e :: es).length + ([]:List ei).length + (if ([]:List ei).isEmpty then 0 else 1) < 30))=true:=by rfl)
    (eR:(apos.endLine == cx.line)=true:=by rfl) (hs:aF (e :: es) X.env=(false,cO e X.env) :: aF es X.env:=by rfl) (eA:(cP cx (aF es X.env)).any (·.1)=false:=by rfl) :
    PE X (.Call (.Attribute o name apos) (e :: es) [] cx) (tBM X.K T r to t):=by
  intro pins s σ H Q I h;refine yV eS gO eR rfl (thn (ho pins s σ H _ I h) fun v s1 ⟨x,H1,I1,r1,ty,q1⟩=>?_);obtain⟨h1,h2⟩:=a9S I1 r1 ty;refine⟨T,id,pa,slot,sx,h1,h2,?_⟩;have hA:=ha cx pins s1 σ H1 _ I1 q1;rw [hs] at hA ⊢;refine kC (by show (false || (cP cx (aF es X.env)).any (·.1))=false;rw [eA] <;> rfl) (Calls.evalArgs_plain ?_);exact thn hA fun us s2 ⟨vs,H2,I2,r2,q2⟩=>hm pins s2 σ H2 x vs v us Q I2 r1 r2 q2
/- xs.append(e), list.index on a se tuple .. are MtR facts of 06m -/
end
end L2
namespace L2
open PySem PySem.Spec PyProof.Rows
def MtM(X:Cx)(id:String)(r:V→List V→Hp→VK→Prop):Prop:=
  ∀(pins:List (az × eW)) (s:au) (σ:St) (H:Hp) (x:V) (xs:List V) (v:aj) (us:List aj) (Q:VK),Inv X pins σ H s→RelV x v→Vals xs us→r x xs H Q→
    aQ (bc X.prog X.w) X.A (call (.builtin id) (v :: us)) (EP X pins σ Q) X.xe s
theorem Vals.one:∀{x:V} {us:List aj},Vals [x] us→∃u,us=[u]∧RelV x u
  | _,_,.cons r .nil=>⟨_,rfl,r⟩
theorem Vals.zero:∀{us:List aj},Vals [] us→us=[]
  | _,.nil=>rfl
section
variable {X:Cx}{pins:List (az × eW)}{σ:St}{H:Hp}{s:au}{l b:az}{xs ys zs:List V}
theorem Inv.lset{cE its':List aj}(I:Inv X pins σ H s)(hH:H l=some (.lst xs))
    (e:s.heap.get? l=some {cls:=.type "list",data:=.seq cE.toArray n}) (hf:f cE.toArray=its'.toArray) (hv:Vals ys its') (hz:ys.length≤aT) :
    Inv X pins σ (upd H l (.lst ys)) {s with heap:=s.heap.update l (gJ f),toks:=t'}:=by
  have q:=PySem.IsL.update e f;rw [hf] at q;refine I.write (x:=l) (e:=l) (by rw [hH];exact trivial) (.inl rfl) (fun b' u hb hu=>(er s.heap (gJ f) (eJ hb)).trans hu) ⟨_,q⟩ ?_;exact⟨hz,its',_,hv,q⟩
theorem Inv.lnew(I:Inv X pins σ H s)(hv:Vals ys cE)(hz:ys.length≤aT) :
    Inv X pins σ (upd H s.heap.objs.size (.lst ys)) {s with heap:=s.heap.push {cls:=.type "list",data:=.seq cE.toArray},toks:=t'}:=
  I.laid (fun _ _ q=>aC _ q) (aD _) ⟨hz,cE,0,hv,aV _ rfl⟩
theorem Inv.fresh(I:Inv X pins σ H s):H s.heap.objs.size=none:=I.hok.fresh (aD _)
theorem Inv.lstM(I:Inv X pins σ H s)(hH:H l=some (.lst xs)):xs.length≤aT∧∃(cE:List aj) (n:Nat),Vals xs cE∧xs.length=cE.length∧s.heap.get? l=some {cls:=.type "list",data:=.seq cE.toArray n}:=by
  obtain⟨z,cE,n,r,e⟩:=I.hok l _ hH;exact⟨z,cE,n,r,r.length,e⟩
theorem a9T(h:n≤aT):jS n=false:=by
  unfold jS;exact bj (by omega)
end
section
variable {X:Cx}
def b2x:V→List V→Hp→VK→Prop:=fun x vs H Q=>∃l xs y,x=.ref l∧vs=[y]∧H l=some (.lst xs)∧xs.length < aT∧Q .non (upd H l (.lst (xs ++ [y])))
theorem U0:MtM X "list.append" b2x:=by
  intro pins s σ H x vs v us Q I rx rv h;obtain⟨l,xs,y,rfl,rfl,hH,hz,q⟩:=h;cases rx
  obtain⟨u,rfl,ru⟩:=rv.one;obtain⟨z,cE,n,r,hl,e⟩:=I.lstM hH;refine tN F.slot_list_append ⟨_,e,rfl⟩ F.entry_list_append (F.args_list_append_2 _ _) (PySem.list_append l cE.toArray n u (by rw [aX];omega)) ⟨e,?_⟩;refine⟨.non,_,I.lset (its':=cE ++ [u]) hH e (by simp) (r.append (.cons ru .nil)) ?_,rfl,q⟩;rw [aM,bY];omega
def b2y:V→List V→Hp→VK→Prop:=fun x vs H Q=>∃l b xs zs,x=.ref l∧vs=[.ref b]∧H l=some (.lst xs)∧H b=some (.lst zs)∧xs.length + zs.length≤aT∧Q .non (upd H l (.lst (xs ++ zs)))
theorem a2N:MtM X "list.extend" b2y:=by
  intro pins s σ H x vs v us Q I rx rv h;obtain⟨l,b,xs,zs,rfl,rfl,hH,hB,hz,q⟩:=h;cases rx
  obtain⟨u,rfl,ru⟩:=rv.one;cases ru
  obtain⟨z,cE,n,r,hl,e⟩:=I.lstM hH;obtain⟨z2,lV,n2,r2,mE,e2⟩:=I.lstM hB;have mO:cE.toArray.size + lV.toArray.size≤aT:=by rw [aX,aX];omega
  have sN:¬ (!cE.toArray.isEmpty && jS (cE.toArray.size + lV.toArray.size))=true:=by
    rw [a9T mO,Bool.and_false];exact bD
  refine tN F.slot_list_extend ⟨_,e,rfl⟩ F.entry_list_extend (F.args_list_extend_2 _ _)
    (AutoSeq1.list_extend_list_list_0 l cE.toArray n b lV.toArray n2 sN (by rw [aX];omega) (by omega)) ⟨e,e2,?_⟩
  refine⟨.non,_,I.lset (its':=cE ++ lV) hH e (by simp) (r.append r2) ?_,rfl,q⟩;rw [aM];omega
end
end L2
namespace Att
open PySem PySem.W PySem.Calls PyProof.Rows
theorem a1d:∀(ns:List Int) (vs:List aj),WellAll P h vs (ns.map WData.int)→IntsAre vs ns:=by
  intro ns
  induction ns with
  | nil=>
    intro vs w;rw [cK] at w;cases w
    exact .nil
  | cons n ns ih=>
    intro vs w;rw [aB] at w;cases w with
    | cons a b=>
      cases a
      exact .cons _ _ (ih _ b)
theorem a8x{l:OpenLaw}(hn:l.most=some n) 
    (jM:l.row.toRowW.claim.pre args=true) (vk:WellAll P h vals args) :
    ∃a vs ns,vals=[a_ a]∧args=[WData.list (ns.map WData.int)]∧h.get? a=some {cls:=.type "list",data:=.seq vs.toArray}∧IntsAre vs ns∧ns.length≤n:=by
  have zQ:WShape.hasAll [] args [.list .int]=true:=(pre_splitW jM).1;have hc:l.pre.holds [] {args:=args}=true:=(pre_splitW jM).2;obtain⟨d,r,rfl,h1,h2⟩:=hasAllW_cons zQ;obtain rfl:=hasAllW_nil h2;obtain⟨xs,rfl,h3⟩:=hasW_list h1;obtain⟨ns,rfl⟩:=items_int h3;have hlen:ns.length≤n:=by
    unfold OpenLaw.pre at hc;have h4:(WTm.not (.lt (.lit (.int (n:Int))) (.len (.arg 0)))).holds [] {args:=[.list (ns.map .int)]}=true:=by
      have h4:=(holds_andW hc).1;rw [hn] at h4;exact h4
    have h5:=condW_of h4 (w_not (w_lt w_lit (w_len_list (w_arg rfl))));rw [ae] at h5;refine Nat.le_of_not_lt fun q=>?_
    have q':(n:Int) < ((ns.length:Nat):Int):=by omega
    first
      | (rw [aO q'] at h5;exact absurd h5 (by decide))
      | (simp at h5;omega)
  cases vk with
  | cons w1 w2=>
    cases w2
    cases w1 with
    | list ho dN=>exact⟨_,_,ns,rfl,rfl,ho,a1d ns _ dN,hlen⟩
theorem a8y(l:OpenLaw)(args:List WData):l.row.toRowW.claim.post args (.bool true) args=true:=
  postW_of (r:=l.row.toRowW) (X:=(true == true))
    (show WShape.has [] (.bool true) .bool=true by first|rfl|decide|simp [WShape.has,WShape.arms,WShape.armsAll])
    (show (WTm.eq .res (.lit (.bool true))).value [] {args:=args,res:=some (.bool true),after:=args}=some (.bool (true == true)) from w_eq_bool (w_res rfl) w_lit) rfl
theorem attach_call{l:OpenLaw}{d:DefRec}
    (hn:l.most=some n) (s_:d.params.defaults=[])
    (call:∀(w:bU) (s₀ s₁:au) (mg mb:bM→Option aj) (fa:az) (o:eW) (pm cd doc:aj) (a:az) (vs:List aj) (ns:List Int),
      Ground q loose [] XP w s₀ mg mb s₁.heap→YP w s₁.heap→
      s₁.heap.get? fa=some o→o.data=.func (docDef d.name d.params d.body d.scope pm cd doc)→s₁.heap.CodeRec cd d.name→mg d.name=some (.ref fa)→
      s₁.heap.get? a=some {cls:=.type "list",data:=.seq vs.toArray}→IntsAre vs ns→ns.length≤n→s₁.gens=#[]→
      jF (bc l.prog w) lN (.call (.ref fa) ⟨[.ref a],[]⟩) (fun r s'=>r=.ok (.ret (.bool true))∧OldK s₁.heap s'.heap∧s'.os=s₁.os∧mK s'.gens) s₁) :
    WalkO q loose XP YP l.row.toRowW d [] (fun f vs=>wR f vs):=by
  intro w s₀ s₁ mg mb G Y fa o pm cd doc dV kV ho hd hW hD sM hg args vals as jM Ai Ci vk Cq;obtain rfl:dV=.none:=Dflts.none hD s_;obtain rfl:kV=.none:=Dflts.noKw hD;obtain⟨a,vs,ns,rfl,rfl,qD,hints,hlen⟩:=a8x hn jM vk;refine enter_call (gZ (call w s₀ s₁ mg mb fa o pm cd doc a vs ns G Y ho (fd_plain hd) hW sM qD hints hlen hg) fun r s' hq=>?_);obtain⟨rfl,h2,h3,h4⟩:=hq;exact⟨.inl ⟨.bool true,.bool true,[],rfl,fun _=>rfl,.bool true,a8y l _,fun _=>⟨lK,fun _ hm=>(nomatch hm)⟩⟩,h2,h3,h4⟩
section
variable {prog:bB}{w:bU}{A:bT}{E:aj→au→Prop}{s:au}{K:Frag}
def ledger(h:cm)(L d:az):List (az × eW):=(aG h.objs.size).filterMap fun a=>if a=L∨a=d then none else (h.get? a).map fun o=>(a,o)
end
end Att
namespace L2
open PySem PySem.Spec PyProof.Rows
theorem vals_ints:∀{vs:List aj} {ns:List Int},IntsAre vs ns→Vals (ns.map V.int) vs
  | _,_,.nil=>.nil
  | _,_,.cons n t h=>.cons ⟨t,rfl⟩ (vals_ints h)
end L2
namespace L2
open PySem PySem.Spec PyProof.Rows
abbrev KOf{K:ag}{h:cm}(_:K.In h):ag:=K
end L2
/- CF BL uB (shape; LID, My.* are w_):
   My.Adr: a structure of nr addresses oI yR xu names (classes,rE);My.Txt K t: a structure (Prop) of nr equations over K;
   My.txt_mk:{K} {implicit addresses ..} (e1:nsIn K cC "law"=some (some (.ref f))) (e2:K.lookup f=some ⟨oc,od,.func (fnOf "law" "law" params body scope dV kV doc pm an gg ct),sl⟩) (e3:codeIn K gg "law"=true) ..:∃t,My.Txt K t
set_option maxRecDepth 100000 in
set_option maxHeartbeats 0 in
theorem PySem.Challenge.cw_LID_holds : PySem.Challenge.rw_LID.Holds := by
  w_on;o_law;k_head;(case hw=>w_witness2)
  k_fill
  refine L2.walk_of (l:=PySem.Challenge.rw_LID) (n:=63) (k:=40) (x:="script") (CX:=fun w=>..) (sp:=fun _=>My.sp_law) rfl (by decide) rfl ⟨rfl,by decide,by decide⟩ (fun w h Y=>PySem.W.kIn_of Y) ?F ?S ?C
  case F=>
    intro w mg fa h KX G sM;have T:∃t,My.Txt (L2.KOf KX) t:=by
      dsimp only [L2.KOf]                          -- K zw xc as «<heap const> w.params» Cz k_is
      refine' My.txt_mk ?e1 ?e2 ?e3 ..
      (case e1=>PySem.W.k_is)                    -- in nr order: a name -> cE address -> cE object -> cE parts
      (case e2=>PySem.W.k_is)
      ..
    obtain⟨t,T⟩:=T;have e0:=sM.symm.trans (kJ KX G T.law);cases e0                                       -- fa is nr xw own address
    exact⟨_,fun s u=>.of_eq rfl,fun base kb nb=>My.law_fn T kb nb⟩     -- if «.of_eq xg comes BR early: refine' ⟨_,?b,fun base kb nb=>My.law_fn T kb nb⟩;exact fun s u=>.of_eq rfl
  case S=>exact fun w H a ns hl hO hS=>..
  case C=>exact ..
(nr tactic k_is has no namespace: write k_is) -/
namespace L2
open PySem PySem.Spec PyProof.Rows
def N5(s:g_):yN:=match s with
  | .FunctionDef _ a _ _ _ _ _ _ _ _=>a
  | _=>{posonlyargs:=[],args:=[],vararg:=none,kwonlyargs:=[],kw_defaults:=[],kwarg:=none,defaults:=[]}
def B1(s:g_):List g_:=match s with
  | .FunctionDef _ _ b _ _ _ _ _ _ _=>b
  | _=>[]
def j6(s:g_):gA:=match s with
  | .FunctionDef _ _ _ _ _ _ sc _ _ _=>sc
  | _=>{kind:=.function,names:=[],isGenerator:=false,isCoroutine:=false}
abbrev CX0:CXT:=fun _ _ _ _ _ _=>False
abbrev E0:XK:=fun _ _ _=>False
theorem b6I:a6e CX0 X E0:=fun _ _ _ _ _ _ _ h=>h.elim
structure Fun (K:ag) (x qual:bM) (st:g_) (f:az) (fd:dC):Prop where
  ex:∃(oc:aj) (od:Option az) (kV doc pm:aj) (an:Option az) (gg ct:aj) (nG:Array (Option aj)),
    fd=eX x qual (N5 st) (B1 st) (j6 st) .none kV doc pm an gg ct∧K.lookup f=some ⟨oc,od,.func fd,nG⟩∧kg K gg qual=true
  kp:fJ K (.ref f)=true
section
variable {P:bB}{w:bU}{K:ag}{mg:bM→Option aj}{base:cm}
theorem Fun.ok{x qual:bM}{st:g_}{f:az}{fd:dC}{N ps:List bM}{k:Nat}{sp:Sp}(F:Fun K x qual st f fd)(S:FnScope N ps (j6 st))(len:∀vs H Q E,sp vs H Q E→vs.length=ps.length)
    (nR:∀(gg:aj) (A:bT) (outer:List tW) (s:au) (H:Hp) (vs:List V) (Q:VK) (E:XK),Room k (A.deeper (kj qual (j6 st) s.heap.objs.size f gg))→sp vs H Q E→
      ∃t,PSs (a2x CX0 P w K mg base N qual (j6 st) f gg A outer s H E).nox (B1 st) t∧t {nx:=fun _ H'=>Q .non H',rt:=Q} (start N vs) H):FnOk P w K mg base CX0 (k + 1) f fd ps sp:=by
  obtain⟨oc,od,kV,doc,pm,an,gg,ct,nG,rfl,lk,hW⟩:=F.ex;refine b6E lk hW S len fun A outer s H vs Q E hr pI=>?_
  obtain⟨t,h,q⟩:=nR gg A outer s H vs Q E hr pI;exact⟨t,h.nox,q⟩
theorem Fun.binds{x qual:bM}{st:g_}{f:az}{fd:dC}{ps:List bM}(F:Fun K x qual st f fd)
    (h:∀(kV doc pm:aj) (an:Option az) (gg ct:aj) (us:List aj),us.length=ps.length→bindArgs (eX x qual (N5 st) (B1 st) (j6 st) .none kV doc pm an gg ct) ⟨us,[]⟩=pure (ps.zip us)):Binds K fd ps []:=by
  obtain⟨oc,od,kV,doc,pm,an,gg,ct,nG,rfl,lk,hW⟩:=F.ex;exact .all (h kV doc pm an gg ct)
theorem b4O{x qual:bM}{st:g_}{f:az}{oc:aj}{od an:Option az}{nG:Array (Option aj)}{kV doc pm gg ct:aj}(l:K.lookup f=some ⟨oc,od,.func (eX x qual (N5 st) (B1 st) (j6 st) .none kV doc pm an gg ct),nG⟩)
    (c:kg K gg qual=true) (k:fJ K (.ref f)=true):Fun K x qual st f (eX x qual (N5 st) (B1 st) (j6 st) .none kV doc pm an gg ct):=⟨⟨oc,od,kV,doc,pm,an,gg,ct,nG,rfl,l,c⟩,k⟩
end
theorem U3(h:n≤1000):n < aT:=kS h (by decide)
section
variable {X:Cx}
theorem pv(i:Nat)(hN:X.N[i]?=some x:=by rfl)(hv:Vis X.env.scope x:=by first|exact bO rfl|exact bQ (bO rfl)|exact bQ (bQ rfl))(hd:(x == ("__debug__":bM))=false:=by decide)
    (hW:(x == ("__classdict__":bM))=false:=by decide):PE X (.Name x pos) (b2f i):=A5 hN hv hd hW
end
theorem a3M{A B:Prop}(h:B):if false=true then A else B:=by
  rw [aJ bD];exact h
theorem a3N{A B:Prop}(h:A):if true=true then A else B:=by
  rw [aE rfl];exact h
def Same(H H':Hp):Prop:=∀b o,H b=some o→H' b=some o
theorem Same.refl(H:Hp):Same H H:=fun _ _ h=>h
theorem Same.trans(a:Same H H1)(b:Same H1 H2):Same H H2:=fun c o h=>b c o (a c o h)
theorem Same.free{H H':Hp}(e:Same H H'){l:az}(h:H' l=Option.none):H l=Option.none:=by
  cases q:H l with
  | none=>rfl
  | some o=>
    rw [e l o q] at h;cases h
end L2
set_option Elab.async false
set_option linter.all false
set_option maxRecDepth 100000
set_option maxHeartbeats 4000000
namespace L2
open PySem PySem.Spec PyProof.Rows
def G7(X:Cx)(N:List bM)(scope:gA)(cl:List (bM × az))(C:az)(s:au)(H:Hp)(fp:List az):Cx:=
 {X with N:=N,s₀:=s,H₀:=H,env:=compEnvC scope cl C X.env,outer:=X.stack,ex:=fp,fn:=fun _=>false,xe:=fun _ _=>False}
structure CompIn (X:Cx) (N:List bM) (scope:gA) (cl:List (bM × az)) (τ:St→St):Prop where
 clos:closureFor scope X.env=pure cl
 kind:scope.kind=.function
 ncell:∀y∈scope.names,y.2≠.cell
 names:∀y∈scope.names,y.2=.local→scope.names.lookup y.1=some .local
 sub:∀x c,cl.lookup x=some c→X.env.cells.lookup x=some c
 has:∀y∈scope.names,y.2=.free→∃c,cl.lookup y.1=some c
 tlen:∀σ,(τ σ).length=N.length
 tval:∀(σ:St) (i:Nat) (x:bM) (v:V),N[i]?=some x→(τ σ)[i]?=some (some v)→∃j:Nat,X.N[j]?=some x∧σ[j]?=some (some v)∧scope.names.lookup x=some .free∧(X.env.kindOf x=some .cell∨X.env.kindOf x=some .free)
theorem Y4{scope:gA}(hn:∀y∈scope.names,y.2≠.cell)(h:(kn scope env).names.lookup x=some .cell∨(kn scope env).names.lookup x=some .free):∃y∈scope.names,y.1=x∧y.2=.free:=by
 have key:∀k,(kn scope env).names.lookup x=some k→k=.cell∨k=.free→∃y∈scope.names,y.1=x∧y.2=.free:=fun k e hk=>by
  have hm:=dJ e;unfold kn at hm;obtain⟨⟨n,k'⟩,hy,e2⟩:=aK.mp hm
  dsimp only at e2
  by_cases hc:(k' == fQ && env.scope.kind == .function && env.kindOf n == some .cell)=true
  ·rw [aE hc] at e2;cases e2
   rw [aA,aA] at hc;exact⟨_,hy,rfl,by simpa using hc.1.1⟩
  ·rw [aJ hc] at e2;cases e2
   rcases hk with rfl|rfl
   ·exact absurd rfl (hn _ hy)
   ·exact⟨_,hy,rfl,rfl⟩
 rcases h with h|h
 ·exact key _ h (.inl rfl)
 ·exact key _ h (.inr rfl)
theorem a3O{scope:gA}(h:scope.names.lookup x=some .free):(kn scope env).names.lookup x=some .cell∨(kn scope env).names.lookup x=some .free:=by
 have key:∀names:List (bM × iK),names.lookup x=some .free→
   (names.map fun (n,k)=>if (k == fQ && env.scope.kind == .function && env.kindOf n == some .cell) then (n,iK.cell) else (n,k)).lookup x=some .cell∨
   (names.map fun (n,k)=>if (k == fQ && env.scope.kind == .function && env.kindOf n == some .cell) then (n,iK.cell) else (n,k)).lookup x=some .free:=by
  intro names
  induction names with
  | nil=>intro h;cases h
  | cons z r ih=>
   obtain⟨n,k⟩:=z;intro h;rw [aB]
   dsimp only
   rw [fU] at h;cases hx:x == n with
   | true=>
    rw [hx] at h;have hk:k=.free:=by simpa using h
    subst hk;by_cases hc:(fQ == fQ && env.scope.kind == .function && env.kindOf n == some .cell)=true
    ·rw [aE hc,fU,hx];exact .inl rfl
    ·rw [aJ hc,fU,hx];exact .inr rfl
   | false=>
    rw [hx] at h;by_cases hc:(k == fQ && env.scope.kind == .function && env.kindOf n == some .cell)=true
    ·rw [aE hc,fU,hx];exact ih h
    ·rw [aJ hc,fU,hx];exact ih h
 exact key _ h
end L2
namespace L2
open PySem PySem.Spec PyProof.Rows
structure Has (P:bB) (w:bU) (K:ag) (mg:bM→Option aj) (base:cm) (x:bM) (k:Nat) (ps:List bM) (sp:Sp):Prop where
 ex:∃f fd,FnOk P w K mg base CX0 k f fd ps sp∧Binds K fd ps []∧fJ K (.ref f)=true∧mg x=some (.ref f)
theorem Has.up{P:bB}{w:bU}{K:ag}{mg:bM→Option aj}{base:cm}{x:bM}{j k:Nat}{ps:List bM}{sp:Sp}(h:Has P w K mg base x j ps sp)(l:j≤k):Has P w K mg base x k ps sp:=by
 obtain⟨f,fd,a,b⟩:=h.ex;exact⟨f,fd,a.mono l,b⟩
section
variable {X:Cx}{k:Nat}{ps:List bM}{sp:Sp}{x:bM}{p pos:eM}{e:Expr}{es:List Expr}{t:TA}
theorem a9U(h:Has X.prog X.w X.K X.mg X.base x k ps sp)(hr:Room k X.A)(ha:PA X (e :: es) t)(hg:Gl X x:=by rfl)(l_:(x == ("__debug__":bM))=false:=by decide)
  (he:aF (e :: es) X.env=(false,cO e X.env) :: aF es X.env:=by rfl) (gG:(cP pos (aF es X.env)).any (·.1)=false:=by rfl):PE X (.Call (.Name x p) (e :: es) [] pos) (b3U sp [] E0 t):=by
 obtain⟨f,fd,F,b,kp,m⟩:=h.ex;exact b2q F hr hg m kp b .nil b6I ha l_ he gG
end
mutual
def Den(H:Hp):V→br→Prop
 | v,.none=>v=.non
 | v,.bool b=>v=.bl b
 | v,.int i=>v=.int i
 | v,.str x=>v=.str x
 | v,.list ds=>∃a xs,v=.ref a∧H a=some (.lst xs)∧DenAll H xs ds
 | v,.tuple ds=>∃a xs,v=.ref a∧H a=some (.tup xs)∧DenAll H xs ds
 | v,.dict kvs=>kvs=[]∧∃a,v=.ref a∧H a=some (.dK [])
def DenAll(H:Hp):List V→List br→Prop
 | xs,[]=>xs=[]
 | xs,d :: ds=>∃v r,xs=v :: r∧Den H v d∧DenAll H r ds
end
mutual
theorem Den.mono{H H':Hp}(e:Same H H'):∀(d:br) {v:V},Den H v d→Den H' v d
 | .none,_,h=>by simpa only [Den] using h
 | .bool _,_,h=>by simpa only [Den] using h
 | .int _,_,h=>by simpa only [Den] using h
 | .str _,_,h=>by simpa only [Den] using h
 | .list ds,_,h=>by
  simp only [Den] at h ⊢;obtain⟨a,xs,h1,h2,h3⟩:=h;exact⟨a,xs,h1,e _ _ h2,DenAll.mono e ds h3⟩
 | .tuple ds,_,h=>by
  simp only [Den] at h ⊢;obtain⟨a,xs,h1,h2,h3⟩:=h;exact⟨a,xs,h1,e _ _ h2,DenAll.mono e ds h3⟩
 | .dict _,_,h=>by
  simp only [Den] at h ⊢;obtain⟨h0,a,h1,h2⟩:=h;exact⟨h0,a,h1,e _ _ h2⟩
theorem DenAll.mono{H H':Hp}(e:Same H H'):∀(ds:List br) {xs:List V},DenAll H xs ds→DenAll H' xs ds
 | [],_,h=>by simpa only [DenAll] using h
 | d :: ds,_,h=>by
  simp only [DenAll] at h ⊢;obtain⟨v,r,h1,h2,h3⟩:=h;exact⟨v,r,h1,Den.mono e d h2,DenAll.mono e ds h3⟩
end
theorem Den.up{H H':Hp}{d:br}{v:V}(h:Den H v d)(e:Same H H'):Den H' v d:=Den.mono e d h
theorem DenAll.up{H H':Hp}{ds:List br}{xs:List V}(h:DenAll H xs ds)(e:Same H H'):DenAll H' xs ds:=DenAll.mono e ds h
section
variable {H:Hp}
theorem den_none:Den H .non .none:=by simp only [Den]
theorem den_bool{b:Bool}:Den H (.bl b) (.bool b):=by simp only [Den]
theorem den_int{i:Int}:Den H (.int i) (.int i):=by simp only [Den]
theorem den_list{a:az}{xs:List V}{ds:List br}(h:H a=some (.lst xs))(q:DenAll H xs ds):Den H (.ref a) (.list ds):=by
 simp only [Den];exact⟨a,xs,rfl,h,q⟩
theorem den_tup{a:az}{xs:List V}{ds:List br}(h:H a=some (.tup xs))(q:DenAll H xs ds):Den H (.ref a) (.tuple ds):=by
 simp only [Den];exact⟨a,xs,rfl,h,q⟩
theorem denAll_nil:DenAll H [] []:=by simp only [DenAll]
theorem denAll_cons{v:V}{d:br}{xs:List V}{ds:List br}(h:Den H v d)(q:DenAll H xs ds):DenAll H (v :: xs) (d :: ds):=by
 simp only [DenAll];exact⟨v,xs,rfl,h,q⟩
theorem Den.list_inv{v:V}{ds:List br}(h:Den H v (.list ds)):∃a xs,v=.ref a∧H a=some (.lst xs)∧DenAll H xs ds:=by simpa only [Den] using h
theorem Den.tup_inv{v:V}{ds:List br}(h:Den H v (.tuple ds)):∃a xs,v=.ref a∧H a=some (.tup xs)∧DenAll H xs ds:=by simpa only [Den] using h
theorem Den.int_inv{v:V}{i:Int}(h:Den H v (.int i)):v=.int i:=by simpa only [Den] using h
theorem DenAll.cons_inv{xs:List V}{d:br}{ds:List br}(h:DenAll H xs (d :: ds)):∃v r,xs=v :: r∧Den H v d∧DenAll H r ds:=by simpa only [DenAll] using h
theorem DenAll.nil_inv{xs:List V}(h:DenAll H xs []):xs=[]:=by simpa only [DenAll] using h
theorem DenAll.length:∀{ds:List br} {xs:List V},DenAll H xs ds→xs.length=ds.length
 | [],_,h=>by rw [h.nil_inv];rfl
 | d :: ds,_,h=>by
  obtain⟨v,r,rfl,_,h⟩:=h.cons_inv;rw [aW,aW,DenAll.length h]
theorem DenAll.get:∀{ds:List br} {xs:List V} {i:Nat} {d:br},DenAll H xs ds→ds[i]?=some d→∃v,xs[i]?=some v∧Den H v d
 | [],_,i,d,_,e=>by simp at e
 | d0 :: ds,_,0,d,h,e=>by
  obtain⟨v,r,rfl,h1,_⟩:=h.cons_inv;have:d0=d:=by simpa using e
  subst this;exact⟨v,rfl,h1⟩
 | d0 :: ds,_,i + 1,d,h,e=>by
  obtain⟨v,r,rfl,_,h1⟩:=h.cons_inv;obtain⟨u,h2,h3⟩:=DenAll.get (i:=i) h1 (by simpa using e);exact⟨u,by simpa using h2,h3⟩
theorem DenAll.getV{ds:List br}{xs:List V}{i:Nat}{v:V}(h:DenAll H xs ds)(e:xs[i]?=some v):∃d,ds[i]?=some d∧Den H v d:=by
 have hi:=(ay.mp e).1;rw [h.length] at hi;obtain⟨u,h1,h2⟩:=h.get (af hi);rw [e] at h1;cases h1
 exact⟨_,af hi,h2⟩
theorem DenAll.append:∀{ds:List br} {xs:List V} {es:List br} {ys:List V},DenAll H xs ds→DenAll H ys es→DenAll H (xs ++ ys) (ds ++ es)
 | [],_,_,_,h,q=>by rw [h.nil_inv];exact q
 | d :: ds,_,_,_,h,q=>by
  obtain⟨v,r,rfl,h1,h2⟩:=h.cons_inv;exact denAll_cons h1 (DenAll.append h2 q)
end
mutual
theorem Den.reads{P:bB}{w:bU}{H:Hp}{h:cm}(ok:HOk P w H h):∀(d:br) {v:V} {u:aj},d.canLay0=true→Den H v d→RelV v u→∃as,Reads h u d as
 | .none,v,u,_,q,r=>by
  simp only [Den] at q;subst q;cases (show u=bE from r)
  exact⟨_,.none⟩
 | .bool b,v,u,_,q,r=>by
  simp only [Den] at q;subst q;cases (show u=kr b from r)
  exact⟨_,.bool b⟩
 | .int i,v,u,_,q,r=>by
  simp only [Den] at q;subst q;obtain⟨t,rfl⟩:=r;exact⟨_,.int i t⟩
 | .str x,v,u,_,q,r=>by
  simp only [Den] at q;subst q;obtain⟨t,rfl⟩:=r;exact⟨_,.str x t⟩
 | .list ds,v,u,hl,q,r=>by
  simp only [Den] at q;obtain⟨a,xs,rfl,h1,h2⟩:=q;cases (show u=a_ a from r)
  obtain⟨z,cE,n,rv,e⟩:=ok a _ h1;obtain⟨as,ra⟩:=DenAll.reads ok ds hl h2 rv;exact⟨_,.list e rfl rfl (by simpa using ra)⟩
 | .tuple ds,v,u,hl,q,r=>by
  simp only [Den] at q;obtain⟨a,xs,rfl,h1,h2⟩:=q;cases (show u=a_ a from r)
  obtain⟨z,cE,rv,o,e,c,n,d⟩:=ok a _ h1;obtain⟨as,ra⟩:=DenAll.reads ok ds hl h2 rv;exact⟨_,.tuple e c d (by simpa using ra)⟩
 | .dict _,_,_,hl,_,_=>nomatch hl
theorem DenAll.reads{P:bB}{w:bU}{H:Hp}{h:cm}(ok:HOk P w H h):∀(ds:List br) {xs:List V} {us:List aj},aL ds=true→DenAll H xs ds→Vals xs us→∃as,hU h us ds as
 | [],xs,us,_,q,r=>by
  simp only [DenAll] at q;subst q;cases r
  exact⟨_,.nil⟩
 | d :: ds,xs,us,hl,q,r=>by
  have pL:d.canLay0=true∧aL ds=true:=by simpa [aL] using hl
  simp only [DenAll] at q;obtain⟨v,rs,rfl,h1,h2⟩:=q;cases r with
  | cons r1 r2=>
   obtain⟨as,ra⟩:=Den.reads ok d pL.1 h1 r1;obtain⟨bs,rb⟩:=DenAll.reads ok ds pL.2 h2 r2;exact⟨_,.cons ra rb⟩
end
section
variable {X:Cx}
theorem a8z:OpR X (bR .IsNot) (fun x y H Q=>∃a b,x=.bl a∧y=.bl b∧Q (.bl (a != b)) H):=by
 intro pins s σ H x y v u Q I rx ry h;obtain⟨a,b,rfl,rfl,q⟩:=h;cases rx
 cases ry
 exact isnot_bool ⟨.bl _,H,I,rfl,q⟩
def tyD:br→String
 | .int _=>"int"
 | .bool _=>"bool"
 | .list _=>"list"
 | .tuple _=>"tuple"
 | .none=>"NoneType"
 | .str _=>"str"
 | .dict _=>"dict"
theorem Den.ty{K:ag}{H:Hp}{v:V}:∀{d:br},Den H v d→TyOf K H v (.type (tyD d))
 | .none,h=>by simp only [Den] at h;subst h;exact .non
 | .bool _,h=>by simp only [Den] at h;subst h;exact .bl _
 | .int _,h=>by simp only [Den] at h;subst h;exact .int _
 | .str _,h=>by simp only [Den] at h;subst h;exact .str _
 | .list _,h=>by simp only [Den] at h;obtain⟨a,xs,rfl,h1,_⟩:=h;exact .lst h1
 | .tuple _,h=>by simp only [Den] at h;obtain⟨a,xs,rfl,h1,_⟩:=h;exact .tup h1
 | .dict _,h=>by simp only [Den] at h;obtain⟨_,a,rfl,h1⟩:=h;exact .dK h1
theorem Inv.sysBelow(I:Inv X pins σ H s):dU < s.heap.objs.size:=by
 have h:cC < s.heap.objs.size:=(I.mod.glob.keeps I.bk).lt;exact eY (by decide) h
end
theorem k9(h:H p=none)(o:HO):Same H (upd H p o):=fun b u q=>by rw [g9 (B4 q h)];exact q
theorem a9V(e:Same H H')(h:H p=none)(o:HO):Same H (upd H' p o):=fun b u q=>by rw [g9 (B4 q h)];exact e b u q
end L2
namespace L2
open PySem PySem.Spec PyProof.Rows
def PTs(X:Cx)(ifs:List Expr)(tt:TT):Prop:=
 ∀(pins:List (az × eW)) (s:au) (σ:St) (H:Hp) (Q:Bool→Hp→Prop),Inv X pins σ H s→tt σ H Q→
  aQ (bc X.prog X.w) X.A (forIn ifs true fun c r=>if r=true then do let ok ←zA c X.env (cO c X.env);pure (fo ok) else pure (fo r)) (TP X pins σ Q) X.xe s
def b6J:TT:=fun _ H Q=>Q true H
theorem a7A:PTs X [] b6J:=fun _ _ σ H _ I h=>wpAny_tests_nil ⟨H,I,h⟩
theorem b2z(h:PT X c tt):PTs X [c] tt:=fun pins s σ H Q I q=>wpAny_tests_one (h pins s σ H Q I q)
section
variable {prog:bB}{w:bU}{A:bT}{R:BC→au→Prop}{s:au}
theorem a2A(I:Nat→au→Prop)
  (turn:∀n s,I n s→aQ (bc prog w) A (gH it) (fun r s₁=>match r with
   | none=>R (.ok .next) s₁
   | some v=>aQ (bc prog w) A (kF target it v) (fun _ s₂=>aQ (bc prog w) A (mT target env v) (fun _ s₃=>
     aQ (bc prog w) A (forIn ifs true fun c r=>if r=true then do let ok ←zA c env (cO c env);pure (fo ok) else pure (fo r)) (fun ok nD=>
     if ok=true then aQ (bc prog w) A (cO elt env) (fun x s₄=>
      aQ (bc prog w) A (call (.builtin "list.append") [acc,x]) (fun _ s₅=>∃m,m < n∧I m s₅) (fun _ _=>False) s₄) (fun _ _=>False) nD
     else ∃m,m < n∧I m nD)
     (fun _ _=>False) s₃) (fun _ _=>False) s₂) (fun _ _=>False) s₁) (fun _ _=>False) s)
  (n:Nat) (h:I n s) :
  jF (bc prog w) A (.compLoop (.ListComp elt [⟨target,iter,ifs,0⟩] scope pos) 0 it acc env) R s:=by
 refine codeAny_loop rfl I (fun n s hI=>?_) n h;show aQ _ _ ((compTurn (.ListComp elt [⟨target,iter,ifs,0⟩] scope pos) 0 it acc env).onRaise (fun x=>do noteFrame x env;theTreesLotGoes x)) _ _ s;refine wpAny_noted ?_;rw [compTurn_list];refine ab (wpAny_standAt (ab (dG (turn n s hI) (fun r s₁ h₁=>?_) fun _ _ h'=>h'.elim)));cases r with
 | none=>exact ak h₁
 | some v=>
  refine ab (dG h₁ (fun _ s₂ h₂=>?_) fun _ _ h'=>h'.elim);refine ab (dG h₂ (fun _ s₃ h₃=>ab (dG h₃ (fun ok nD mC=>?_) fun _ _ h'=>h'.elim)) fun _ _ h'=>h'.elim);cases ok with
  | false=>
   rw [aJ bD] at mC;exact ab (ak (ak ⟨rfl,mC⟩))
  | true=>
   rw [aE rfl] at mC;exact ab (ab (dG mC (fun x s₄ h₄=>ab (dG h₄ (fun _ s₅ h₅=>ak (ak ⟨rfl,h₅⟩)) fun _ _ h'=>h'.elim)) fun _ _ h'=>h'.elim))
end
def a3P(wi:TI)(g:TG)(tt:TT)(te:TE)(τ:St→St):TE:=fun σ H Q=>wi σ H fun J H1=>∀D,H1 D=none→∃W:Nat→Nat→List V→St→Hp→Prop,(∃m,W 0 m [] (τ σ) (upd H1 D (.lst [])))∧
 ∀i m ys σ' H',W i m ys σ' H'→(J.stop i H'∧Q (.ref D) H')∨
  (J.go i H'∧∃(N:V→St→Hp→Prop) (NO:St→Hp→Prop),(∀y σ3 H4,N y σ3 H4→H4 D=some (.lst ys)∧ys.length < aT∧∃m',m' < m∧W (i + 1) m' (ys ++ [y]) σ3 (upd H4 D (.lst (ys ++ [y]))))∧
   (∀σ3 H4,NO σ3 H4→∃m',m' < m∧W (i + 1) m' ys σ3 H4)∧∀x H2,J.yld i H' x H2→g x σ' H2 fun σ3 H3=>tt σ3 H3 fun b H4=>if b=true then te σ3 H4 fun y H5=>N y σ3 H5 else NO σ3 H4)
section
variable {X:Cx}{N:List bM}{scope:gA}{cl:List (bM × az)}{τ:St→St}{elt tg iter:Expr}{ifs:List Expr}{pos:eM}{wi:TI}{g:TG}{tt:TT}{te:TE}
theorem a2O(hc:X.calm=true)(hi:PI X tg iter wi)(C:CompIn X N scope cl τ)(hg:∀Cl s H fp,PG (G7 X N scope cl Cl s H fp) tg g)(ht:∀Cl s H fp,PTs (G7 X N scope cl Cl s H fp) ifs tt)(he:∀Cl s H fp,PE (G7 X N scope cl Cl s H fp) elt te)
  (I:Inv X pins σ H s) (h:a3P wi g tt te τ σ H R) {PP:aj→az→BC→au→Prop}
  (AU:∀D Cl Hn s' o m,Inv X pins σ Hn s'→R (.ref D) Hn→a4C X pins Hn Cl→s'.heap.get? Cl=some o→(∀v,o.data≠.cell v)→(∀h':cm,h'.get? Cl=some o→h'.Ns Cl m)→PP (.ref D) Cl (.ok .next) s') :
  aQ (bc X.prog X.w) X.A (cO iter X.env) (fun x s₁=>aQ (bc X.prog X.w) X.A (oK x) (fun it s₂=>aQ (bc X.prog X.w) X.A (newList []) (fun acc s₃=>
   aQ (bc X.prog X.w) X.A (newFunctionEnv scope X.env.globals cl [] X.env.qual none .none (some X.env)) (fun tM s₄=>
    jF (bc X.prog X.w) X.A (.compStart (.ListComp elt [⟨tg,iter,ifs,0⟩] scope pos) 0 it acc {tM with scope:=kn scope X.env}) (PP acc tM.locals) s₄) X.xe s₃) X.xe s₂) X.xe s₁) X.xe s:=by
 refine thn (hi pins s σ H _ I h) fun x s1 h1=>thn h1 fun uY s2 h2=>?_
 obtain⟨it,fp,tn,J,H2,rfl,I2,T,rS,f2,q⟩:=h2;refine dw (wpAny_newFunctionEnv C.ncell (by intro y hy;simp at hy) (fun h₁ lY kN=>?_) C.kind)
 dsimp only at lY kN ⊢
 generalize wA:s2.heap.push {cls:=.type "list",dict:=none,data:=.seq ([]:List aj).toArray}=G2 at lY kN ⊢;have hC:G2.objs.size=s2.heap.objs.size + 1:=by rw [←wA,dB]
 have yk:s2.heap.objs.size≠G2.objs.size:=by rw [hC];exact bH (jq _)
 have qK:s2.heap.objs.size≤G2.objs.size:=by rw [hC];exact mJ _
 have below:∀b,b < s2.heap.objs.size→b≠G2.objs.size:=fun b hb=>by rw [hC];exact bH (gB hb)
 have old:∀b o,s2.heap.get? b=some o→h₁.get? b=some o:=fun b o e=>kN.extBut b o (below b (aS e)) (aC _ (wA ▸ aC _ e))
 have i_:h₁.get? s2.heap.objs.size=some {cls:=.type "list",dict:=none,data:=.seq ([]:List aj).toArray}:=kN.extBut _ _ yk (aC _ (wA ▸ aV _ rfl));have wJ:∀b∈fp,b < s2.heap.objs.size:=fun b hb=>by
  obtain⟨o,e,_⟩:=T.obj 0 _ rS b hb;exact aS e
 have rz:H2 s2.heap.objs.size=none:=I2.hok.fresh (aD _);have AY:H2 G2.objs.size=none:=I2.hok.fresh qK;generalize Cy:G2.objs.size=Cl at *;have za:∀b∈frs X.stack,b < s2.heap.objs.size:=fun b hb=>by
  rcases aH.mp (I2.stkSub b hb) with e|hb
  ·rw [e];exact I2.lt
  ·obtain⟨_,o,ho,_⟩:=I2.funs.mem hb;exact aS ho
 have uP:(G7 X N scope cl Cl s2 H2 fp).Ok:=by
  refine⟨I2.ok.mod,C.kind,I2.ok.glob,I2.ok.blt,qK,fun x y c e1 e2=>I2.ok.inj x y c (C.sub x c e1) (C.sub y c e2),fun x hx=>?_,fun x c hx _=>(nomatch hx),fun z=>I2.ok.hd z,I2.ok.frames,.inl rfl,fun b hb=>⟨below b (wJ b hb),fun x c e=>(f2 b hb).2.2.2.2.1 x c (C.sub x c e)⟩,
   I2.bs,bI I2.ok.bsz I2.sz,fun b o e hb=>?_,fun b hb z=>?_,I2.stack,I2.stkFree,I2.tabs⟩
  ·obtain⟨y,hy,rfl,ey⟩:=Y4 C.ncell hx;exact C.has y hy ey
  ·rcases (f2 b hb).2.2.2.1 with z|z
   ·exact I2.ok.noex b o e z
   ·exact absurd (bF (aS e) (bI I2.ok.bsz z)) (dS _)
  ·rcases aH.mp (I2.stkSub b z) with e|e
   ·exact (f2 b hb).2.1 e
   ·exact (f2 b hb).2.2.1 e
 have I4:Inv (G7 X N scope cl Cl s2 H2 fp) pins (τ σ) (upd H2 s2.heap.objs.size (.lst [])) {s2 with heap:=h₁,toks:=s2.toks + ([]:List (bM × aj)).length}:=by
  have lc:=I2.loc;obtain⟨m,hn,hl⟩:=lc;refine⟨uP,rfl,I2.bare,Un.laid old (aD _) rz,⟨_,lY,fun i x v e1 e2 e3=>?_⟩,fun x c e=>?_,?_,fun x c e=>?_,fun p hp=>?_,I2.hok.laid old (aD _) ⟨bC _,[],_,.nil,i_⟩,C.tlen σ⟩
  ·obtain⟨j,j1,j2,j3,j4⟩:=C.tval σ i x v e1 e2;have kx:(kn scope X.env).names.lookup x=some .cell∨(kn scope X.env).names.lookup x=some .free:=a3O j3;obtain⟨y,hy,Bi,ey⟩:=Y4 C.ncell kx;obtain⟨c,pQ⟩:=C.has y hy ey;rw [Bi] at pQ;have wc:=C.sub x c pQ;have hv:Vis X.env.scope x:=.inr j4;obtain⟨u,ru,lk⟩:=hl j x v j1 j2 hv;refine⟨u,ru,?_⟩;rcases lk with⟨k,_⟩|⟨k,c',e',z⟩
   ·rcases j4 with j4|j4
    ·rw [j4] at k;cases k
    ·rw [j4] at k;cases k
   ·rw [wc] at e';cases e'
    obtain⟨o,ho,hd⟩:=z;exact .inr ⟨kx,c,pQ,⟨o,old c o ho,hd⟩⟩
  ·obtain⟨v,o,ho,hd⟩:=I2.cell x c (C.sub x c e);exact⟨v,o,old c o ho,hd⟩
  ·show upd H2 s2.heap.objs.size (.lst []) Cl=none;rw [g9 (eJ yk)];exact AY
  ·have n:=I2.freeC x c (C.sub x c e);obtain⟨v,o,ho,hd⟩:=I2.cell x c (C.sub x c e);rw [g9 (bH (aS ho))];exact n
  ·obtain⟨e,n,ne,nf,d⟩:=I2.pin p hp;refine⟨old _ _ e,by rw [g9 (bH (aS e))];exact n,below _ (aS e),fun z=>?_,d⟩;rcases aH.mp (I2.stkSub p.1 z) with e'|e'
   ·exact ne e'
   ·exact nf e'
 have lU:∀{H':Hp},(∀b∈fp,H' b=none)→∀b∈fp,a4C (G7 X N scope cl Cl s2 H2 fp) pins H' b:=fun hn b hb=>
  ⟨hn b hb,below b (wJ b hb),uP.exfs b hb,.inl hb,(uP.exf b hb).2,(f2 b hb).2.2.2.2.2⟩
 obtain⟨W,⟨m0,w0⟩,turn⟩:=q s2.heap.objs.size rz;have loop:∀s₃:au,s₃={s2 with heap:=h₁,toks:=s2.toks + ([]:List (bM × aj)).length}→
   jF (bc X.prog X.w) X.A (.compLoop (.ListComp elt [⟨tg,iter,ifs,0⟩] scope pos) 0 (.ref it) (.ref s2.heap.objs.size) (compEnvC scope cl Cl X.env)) (PP (.ref s2.heap.objs.size) Cl) s₃:=by
  rintro s₃ rfl;refine a2A (fun n s'=>∃i ys σ' H',Inv (G7 X N scope cl Cl s2 H2 fp) pins σ' H' s'∧tn i s'.heap∧(∀b∈fp,H' b=none)∧W i n ys σ' H') ?_ m0
   ⟨0,[],τ σ,_,I4,T.keep _ _ _ rS fun b hb o e=>old b o e,fun b hb=>by rw [g9 (bH (wJ b hb))];exact (f2 b hb).1,w0⟩
  rintro n s3 ⟨i,ys,σ3,H3,I3,rR,tH,w3⟩;rcases turn i n ys σ3 H3 w3 with⟨stop,qn⟩|⟨go,NN,NO,hN,hO,step⟩
  ·refine thn (T.done (G7 X N scope cl Cl s2 H2 fp) rfl rfl rfl hc i pins s3 σ3 H3 _ I3 (lU tH) rR stop) fun r s4 ⟨hr,I5⟩=>?_
   subst hr;have lc:=I5.loc;obtain⟨m,hn,_⟩:=lc;obtain⟨o,es,ep,ho,hd,iA⟩:=hn;have J5:Inv X pins σ H3 s4:=I2.call' (ch:=fp) I5.os I5.base I5.hok I5.bare fun b hb=>⟨(f2 b hb).2.2.2.1,(f2 b hb).2.1,(f2 b hb).2.2.2.2.1,(f2 b hb).2.2.2.2.2⟩
   refine AU _ Cl H3 s4 o m J5 qn (I2.fpOk qK I5.free) ho (fun v z=>by rw [hd] at z;cases z) fun h' e=>⟨o,es,ep,e,hd,iA⟩
  ·refine thn (T.item (G7 X N scope cl Cl s2 H2 fp) rfl rfl rfl hc i pins s3 σ3 H3 _ I3 (lU tH) rR go) fun r s4 ⟨u,hr,h4⟩=>?_
   subst hr;refine thn h4 fun _ s5 ⟨x,H5,I5,r5,y5,oJ,wH⟩=>?_
   have wX:=I5.pinned (lU wH) (T.obj _ _ oJ);refine thn (hg Cl s2 H2 fp _ s5 σ3 H5 x u _ wX r5 (step x H5 y5)) fun _ s6 ⟨σ6,H6,I6,q6⟩=>?_
   refine thn (ht Cl s2 H2 fp _ s6 σ6 H6 _ I6 q6) fun ok ze ⟨BM,uE,tZ⟩=>?_
   cases ok with
   | false=>
    rw [aJ bD] at tZ ⊢;obtain⟨m',hm,w7⟩:=hO _ _ tZ;refine⟨m',hm,i + 1,ys,σ6,_,uE.unpinned,T.keep _ _ _ oJ fun b hb o e=>(uE.pin (b,o) (ao _ (ao _ (B5 hb e)))).1,fun b hb=>?_,w7⟩;obtain⟨o,e,d⟩:=T.obj _ _ oJ b hb;exact (uE.pin (b,o) (ao _ (ao _ (B5 hb e)))).2.1
   | true=>
    rw [aE rfl] at tZ ⊢;refine thn (he Cl s2 H2 fp _ ze σ6 BM _ uE tZ) fun yv s7 ⟨y,H7,I7,r7,q7⟩=>?_
    obtain⟨zi,zh,m',hm,w7⟩:=hN _ _ _ q7;refine thn (U0 (X:=G7 X N scope cl Cl s2 H2 fp) _ s7 σ6 H7 (.ref s2.heap.objs.size) [y] (.ref s2.heap.objs.size) [yv] (fun _ H8=>H8=upd H7 s2.heap.objs.size (.lst (ys ++ [y]))) I7 rfl (.cons r7 .nil)
     ⟨_,ys,y,rfl,rfl,zi,zh,rfl⟩) fun _ s8 ⟨_,H8,I8,_,e8⟩=>?_
    subst e8;refine⟨m',hm,i + 1,ys ++ [y],σ6,_,I8.unpinned,T.keep _ _ _ oJ fun b hb o e=>(I8.pin (b,o) (ao _ (ao _ (B5 hb e)))).1,fun b hb=>?_,w7⟩;obtain⟨o,e,d⟩:=T.obj _ _ oJ b hb;exact (I8.pin (b,o) (ao _ (ao _ (B5 hb e)))).2.1
 have zb:tn 0 h₁:=T.keep _ _ _ rS fun b hb o e=>old b o e
 exact codeAny_compStart_list (loop _ rfl) (T.self X.A 0 {s2 with heap:=h₁,toks:=s2.toks + ([]:List (bM × aj)).length} _ _ zb (loop _ rfl))
end
def w8(env:tW):List (bM × iK)→List (bM × az)→List (bM × az)
 | [],cs=>cs
 | (n,k) :: r,cs=>w8 env r (if k == .free then (n,(env.cells.lookup n).getD 0) :: cs else cs)
theorem Q4{env:tW}:∀(names:List (bM × iK)) (cs:List (bM × az)),(∀y∈names,y.2=.free→∃c,env.cells.lookup y.1=some c)→
  (forIn names cs fun (x:bM × iK) (cs:List (bM × az))=>(if x.2 == .free then do let a ←cellOf env x.1;pure (fo ((x.1,a) :: cs)) else pure (fo cs):Sem (ForInStep (List (bM × az)))))=pure (w8 env names cs)
 | [],cs,_=>by rw [List.forIn_nil];rfl
 | (n,k) :: r,cs,h=>by
  rw [CL]
  dsimp only
  by_cases hk:(k == fQ)=true
  ·obtain⟨c,hc⟩:=h (n,k) aq (by simpa using hk);rw [aE hk];have e:cellOf env n=pure c:=by unfold cellOf;rw [hc]
   rw [e];have:=Q4 r ((n,c) :: cs) fun y hy=>h y (ah _ hy)
   have e2:w8 env ((n,k) :: r) cs=w8 env r ((n,c) :: cs):=by
    show w8 env r (if k == .free then (n,(env.cells.lookup n).getD 0) :: cs else cs)=_;rw [aE hk,hc];rfl
   rw [e2,←this];simp only [pure_bind]
  ·rw [aJ hk];have:=Q4 r cs fun y hy=>h y (ah _ hy)
   have e2:w8 env ((n,k) :: r) cs=w8 env r cs:=by
    show w8 env r (if k == .free then (n,(env.cells.lookup n).getD 0) :: cs else cs)=_;rw [aJ hk]
   rw [e2,←this];simp only [pure_bind]
theorem a6g{scope:gA}{env:tW}(h:∀y∈scope.names,y.2=.free→∃c,env.cells.lookup y.1=some c):closureFor scope env=pure (w8 env scope.names []):=by
 have:=Q4 scope.names [] h;rw [←this];unfold closureFor;simp
theorem W9{env:tW}:∀(names:List (bM × iK)) (cs:List (bM × az)),(∀y∈names,y.2=.free→∃c,env.cells.lookup y.1=some c)→(∀p∈cs,env.cells.lookup p.1=some p.2)→
  (∀p∈w8 env names cs,env.cells.lookup p.1=some p.2)∧(∀p∈cs,p∈w8 env names cs)∧∀y∈names,y.2=.free→∃c,(y.1,c)∈w8 env names cs
 | [],cs,_,hc=>⟨hc,fun _ h=>h,fun y hy=>(nomatch hy)⟩
 | (n,k) :: r,cs,h,hc=>by
  by_cases hk:(k == fQ)=true
  ·obtain⟨c,e⟩:=h (n,k) aq (by simpa using hk);have e2:w8 env ((n,k) :: r) cs=w8 env r ((n,c) :: cs):=by
    show w8 env r (if k == .free then (n,(env.cells.lookup n).getD 0) :: cs else cs)=_;rw [aE hk,e];rfl
   rw [e2];obtain⟨a,b,d⟩:=W9 r ((n,c) :: cs) (fun y hy=>h y (ah _ hy)) fun p hp=>by
    rcases aH.mp hp with z|z
    ·rw [z];exact e
    ·exact hc p z
   refine⟨a,fun p hp=>b p (ah _ hp),fun y hy hf=>?_⟩;rcases aH.mp hy with z|z
   ·rw [z];exact⟨c,b _ aq⟩
   ·exact d y z hf
  ·have e2:w8 env ((n,k) :: r) cs=w8 env r cs:=by
    show w8 env r (if k == .free then (n,(env.cells.lookup n).getD 0) :: cs else cs)=_;rw [aJ hk]
   rw [e2];obtain⟨a,b,d⟩:=W9 r cs (fun y hy=>h y (ah _ hy)) hc;refine⟨a,b,fun y hy hf=>?_⟩;rcases aH.mp hy with z|z
   ·rw [z] at hf;exact absurd (by simpa using hf) hk
   ·exact d y z hf
theorem V6:∀{l:List (bM × az)},(x,c)∈l→∃c',l.lookup x=some c'
 | [],h=>nomatch h
 | (y,d) :: l,h=>by
  rw [fU];cases e:x == y with
  | true=>exact⟨d,rfl⟩
  | false=>
   rcases aH.mp h with z|z
   ·cases z;simp at e
   ·exact V6 z
def N6(scope:gA)(okind:bM→Option iK)(ys:List bM)(js:List Nat)(XN:List bM):Bool:=
 scope.kind == .function && scope.names.all (fun y=>y.2 != .cell && (y.2 != .local || scope.names.lookup y.1 == some .local) && (y.2 != .free || (okind y.1 == some .cell || okind y.1 == some .free))) &&
 ys.length == js.length && (ys.zip js).all fun p=>XN[p.2]? == some p.1 && scope.names.lookup p.1 == some .free && (okind p.1 == some .cell || okind p.1 == some .free)
def a0j(tn:List bM)(js:List Nat):St→St:=fun σ=>bu tn.length none ++ js.map fun j=>(σ[j]?).getD none
theorem a2P{X:Cx}{scope:gA}(ok:X.Ok)(h:N6 scope X.env.kindOf ys js X.N=true):CompIn X (tn ++ ys) scope (w8 X.env scope.names []) (a0j tn js):=by
 unfold N6 at h;rw [aA,aA,aA,dc,dc] at h;obtain⟨⟨⟨hk,ha⟩,hl⟩,hz⟩:=h;have jE:∀y∈scope.names,y.2≠.cell:=fun y hy e=>by
  have:=ha y hy;rw [e] at this;simp at this
 have vL:∀y∈scope.names,y.2=.local→scope.names.lookup y.1=some .local:=fun y hy e=>by
  have:=ha y hy;rw [e] at this;simpa using this
 have ll:∀y∈scope.names,y.2=.free→∃c,X.env.cells.lookup y.1=some c:=fun y hy e=>by
  have:=ha y hy;rw [e] at this;refine ok.has y.1 ?_;simpa using this
 obtain⟨a,_,d⟩:=W9 scope.names [] ll fun p hp=>(nomatch hp)
 refine⟨a6g ll,by simpa using hk,jE,vL,fun x c e=>a _ (dJ e),fun y hy e=>?_,fun σ=>?_,fun σ i x v h1 h2=>?_⟩
 ·obtain⟨c,hc⟩:=d y hy e;exact V6 hc
 ·have:ys.length=js.length:=by simpa using hl
  unfold a0j;simp [this]
 ·unfold a0j at h2;by_cases hi:i < tn.length
  ·rw [eD (by simpa using hi),qd] at h2
   split at h2 <;> cases h2
  ·rw [cY (by simpa using hi),fw,aN] at h2;rw [cY (by lia)] at h1;cases hj:js[i - tn.length]? with
   | none=>rw [hj] at h2;cases h2
   | some j=>
    rw [hj] at h2;have h3:(σ[j]?).getD none=some v:=by simpa using h2
    have jN:(x,j)∈ys.zip js:=by
     have hlen:=(ay.mp h1).1;have xU:=(ay.mp hj).1;rw [bX];refine⟨i - tn.length,?_⟩;rw [iX];exact⟨h1,hj⟩
    have:=hz _ jN;rw [aA,aA,fq] at this;obtain⟨⟨e1,e2⟩,e3⟩:=this;refine⟨j,by simpa using e1,?_,by simpa using e2,by simpa using e3⟩;cases q:σ[j]? with
    | none=>rw [q] at h3;cases h3
    | some o=>rw [q] at h3;have:o=some v:=h3;rw [this]
section
variable {X:Cx}{tn ys:List bM}{js:List Nat}{scope:gA}{elt tg iter:Expr}{ifs:List Expr}{pos:eM}{wi:TI}{g:TG}{tt:TT}{te:TE}
theorem a4F(hc:X.calm=true)(hi:PI X tg iter wi)(C:N6 scope X.env.kindOf ys js X.N=true)(hg:∀cl Cl s H fp,PG (G7 X (tn ++ ys) scope cl Cl s H fp) tg g)(ht:∀cl Cl s H fp,PTs (G7 X (tn ++ ys) scope cl Cl s H fp) ifs tt)(he:∀cl Cl s H fp,PE (G7 X (tn ++ ys) scope cl Cl s H fp) elt te)
  (hs:∀x,dR iter X.env x=pure x:=by intro _;rfl):PE X (.ListComp elt [⟨tg,iter,ifs,0⟩] scope pos) (a3P wi g tt te (a0j tn js)):=by
 intro pins s σ H Q I h;have C:=a2P (tn:=tn) I.ok C;rw [eval_ListComp];refine uH (use:=none) rfl hs C.clos C.kind C.names (a2O hc hi C (hg _) (ht _) (he _) I h (PP:=fun acc Cl=>compPost (bc X.prog X.w) X.A X.xe none (EP X pins σ Q) acc Cl) ?_);intro D Cl Hn s' o m I' hq F ho hd mQ;refine⟨m,mQ _ ho,fun h' ou=>⟨.ref D,Hn,?_,rfl,hq⟩⟩;exact I'.turned (t':=s'.toks) (fun b ob hb e=>(ou.2 b hb).trans e) F.1 F.2.1 F.2.2.2.1 F.2.2.2.2.1 F.2.2.2.2.2
theorem a4G{py qm:eM}(hc:X.calm=true)(hN:X.N.Nodup)(hy:X.N[i]?=some y)(hx:Loc X.env.scope y)(hi:PI X tg iter wi)(C:N6 scope X.env.kindOf ys js X.N=true)
  (hg:∀cl Cl s H fp,PG (G7 X (tn ++ ys) scope cl Cl s H fp) tg g) (ht:∀cl Cl s H fp,PTs (G7 X (tn ++ ys) scope cl Cl s H fp) ifs tt) (he:∀cl Cl s H fp,PE (G7 X (tn ++ ys) scope cl Cl s H fp) elt te)
  (k_:dQ (.ListComp elt [⟨tg,iter,ifs,0⟩] scope pos) (some (.Name y py)) qm.line X.env=pure true:=by rfl) (hs:∀x,dR iter X.env x=pure x:=by intro _;rfl)
  (hf:X.fn y=true∨X.env.scope.names.lookup y=some .local:=by first|exact .inl rfl|exact .inr rfl|assumption) :
  PS X (.Assign [.Name y py] (.ListComp elt [⟨tg,iter,ifs,0⟩] scope pos) qm) (b4v (a3P wi g tt te (a0j tn js)) (J4 i)):=by
 intro pins s σ H D I h;have C:=a2P (tn:=tn) I.ok C;rw [exec_Assign_Name_used _ _ _ _ k_];refine ab (wpAny_standAt (ab ?_));show aQ _ X.A (do let _ ←comprehension (.ListComp elt [⟨tg,iter,ifs,0⟩] scope pos) scope X.env _ (newList []) false (cO iter X.env) (some (mT (.Name y py) X.env))) _ _ s;refine ab (dG (uH (use:=some (mT (.Name y py) X.env)) (Q:=fun _ s'=>SP X pins D .next s') rfl hs C.clos C.kind C.names
  (a2O hc hi C (hg _) (ht _) (he _) I h (PP:=fun acc Cl=>compPost (bc X.prog X.w) X.A X.xe (some (mT (.Name y py) X.env)) (fun _ s'=>SP X pins D .next s') acc Cl) ?_)) (fun _ s' hq=>ak (ak hq)) fun _ _ e=>e)
 intro Dl Cl Hn s' o m I' hq F ho hd mQ;have I1:=I'.pinned (fp:=[Cl]) (fun b hb=>by rw [ar.mp hb];exact F) (fun b hb=>by rw [ar.mp hb];exact⟨o,ho,hd⟩);show aQ _ X.A (mT (.Name y py) X.env (.ref Dl)) _ _ _;refine wpAny_assign_Name (Y1 I1 hN hy hx (v:=.ref Dl) rfl (fun s2 I2=>?_) hf);have e2:=(I2.pin (Cl,o) (ao _ (ao _ (B5 (ar.mpr rfl) ho)))).1;refine⟨m,mQ _ e2,fun h' ou=>⟨σ.set i (some (.ref Dl)),Hn,?_,hq⟩⟩;exact I2.unpinned.turned (t':=s2.toks) (fun b ob hb e=>(ou.2 b hb).trans e) F.1 F.2.1 F.2.2.2.1 F.2.2.2.2.1 F.2.2.2.2.2
end
end L2
namespace VS
open PySem PySem.Spec L2
abbrev D:=br
mutual
def z7:D→Bool
 | .int _=>true
 | .tuple ds=>n9 ds
 | .none|.bool _|.str _|.list _|.dict _=>false
def n9:List D→Bool
 | []=>true
 | d :: ds=>z7 d && n9 ds
end
mutual
def hashD:D→Int
 | .int i=>hashInt i
 | .tuple ds=>reduceHash (dF (z8 ds))
 | .none|.bool _|.str _|.list _|.dict _=>0
def z8:List D→List Int
 | []=>[]
 | d :: ds=>hashD d :: z8 ds
end
mutual
def u4:D→Nat
 | .int _=>1
 | .tuple ds=>L7 ds + 1
 | .none|.bool _|.str _|.list _|.dict _=>0
def L7:List D→Nat
 | []=>0
 | d :: ds=>u4 d + L7 ds
end
mutual
theorem L8:∀d:D,z7 d=true→d.canLay0=true
 | .int _,_=>by simp only [cn]
 | .tuple ds,h=>by
  simp only [z7] at h;simp only [cn];exact a0K ds h
 | .none,h|.bool _,h|.str _,h|.list _,h|.dict _,h=>by simp only [z7] at h;cases h
theorem a0K:∀ds:List D,n9 ds=true→aL ds=true
 | [],_=>by simp only [aL]
 | d :: ds,h=>by
  simp only [n9,aA] at h;simp only [aL,aA];exact⟨L8 d h.1,a0K ds h.2⟩
end
mutual
theorem A7:∀a b:D,z7 a=true→z7 b=true→(aI a b=true↔a=b)
 | .int i,b,_,hb=>by
  cases b with
  | int j=>
   show (i == j)=true↔_;rw [wM];exact⟨fun e=>by rw [e],fun e=>by injection e⟩
  | tuple ds=>simp [aI]
  | _=>simp only [z7] at hb;cases hb
 | .tuple xs,b,ha,hb=>by
  cases b with
  | int j=>simp [aI]
  | tuple ys=>
   simp only [z7] at ha hb;simp only [aI];rw [a0L xs ys ha hb];exact⟨fun e=>by rw [e],fun e=>by injection e⟩
  | _=>simp only [z7] at hb;cases hb
 | .none,b,h,_|.bool _,b,h,_|.str _,b,h,_|.list _,b,h,_|.dict _,b,h,_=>by simp only [z7] at h;cases h
theorem a0L:∀a b:List D,n9 a=true→n9 b=true→(b_ a b=true↔a=b)
 | [],[],_,_=>by simp [b_]
 | [],_ :: _,_,_=>by simp [b_]
 | _ :: _,[],_,_=>by simp [b_]
 | x :: xs,y :: ys,ha,hb=>by
  simp only [n9,aA] at ha hb;simp only [b_,aA];rw [A7 x y ha.1 hb.1,a0L xs ys ha.2 hb.2]
  constructor
  ·rintro⟨rfl,rfl⟩;rfl
  ·intro e;injection e with e1 e2;exact⟨e1,e2⟩
end
mutual
theorem a1x{h h':cm}{es ep}(ho:h.get? d=some o)(hd:o.data=.dict es ep)(hs:fG d h h'):∀(k:D) {v:aj} {as:List az},z7 k=true→Reads h v k as→Reads h' v k as
 | .int _,_,_,_,r=>by cases r;exact .int _ _
 | .tuple ds,_,_,hk,r=>by
  simp only [z7] at hk;cases r with
  | @tuple a oo vs n _ as c1 c2 c3 c4=>
   have fA:a≠d:=by
    rintro rfl;obtain rfl:oo=o:=aP (c1.symm.trans ho);rw [hd] at c3;exact nomatch c3
   exact .tuple ((hs.2 a fA).trans c1) c2 c3 (V7 ho hd hs ds hk c4)
 | .none,_,_,h,_|.bool _,_,_,h,_|.str _,_,_,h,_|.list _,_,_,h,_|.dict _,_,_,h,_=>by simp only [z7] at h;cases h
theorem V7{h h':cm}{es ep}(ho:h.get? d=some o)(hd:o.data=.dict es ep)(hs:fG d h h'):∀(ks:List D) {vs:List aj} {as:List az},n9 ks=true→hU h vs ks as→hU h' vs ks as
 | [],_,_,_,r=>by cases r;exact .nil
 | k :: ks,_,_,hk,r=>by
  simp only [n9,aA] at hk;cases r with
  | cons r1 r2=>exact .cons (a1x ho hd hs k hk.1 r1) (V7 ho hd hs ks hk.2 r2)
end
section
variable {prog:bB}{w:bU}{E:aj→au→Prop}
mutual
theorem a1y:∀(k:D) {A:bT} {s:au} {v:aj} {as:List az} {Q:Int→au→Prop},z7 k=true→A.units + k.depth < dq→Reads s.heap v k as→Q (hashD k) {s with toks:=s.toks + u4 k}→aQ (bc prog w) A (pyHash v) Q E s
 | .int i,A,s,v,as,Q,_,_,r,h=>by
  cases r
  simp only [hashD,u4] at h;exact wpAny_pyHash_int h
 | .tuple ds,A,s,v,as,Q,hk,hu,r,h=>by
  simp only [z7] at hk;simp only [dA] at hu;simp only [hashD,u4] at h;cases r with
  | @tuple a o items n _ as ho hc hd hi=>
   have hT:s.TypeIs (.ref a) "tuple":=⟨o,ho,hc⟩;unfold pyHash
   first|unfold pyHashByItsType|skip
   first|refine ab (wpAny_cRoomFor_or (.inr (by lia)) ?_)|skip
   refine ab (gF hT hV.lookup ?_);show aQ _ _ (if (some (aj.builtin "tuple.__hash__") == some bE)=true then _ else _) Q E s;rw [aJ (by rw [beq_builtin_none];exact bD)];refine ab (gF hT hV.lookup ?_);show aQ _ _ (callSpecialIfBoundUnlessNone? (.ref a) "__hash__" _ >>= _) Q E s;refine ab (wpAny_callSpecialIfBoundUnlessNone?_slot hT hV (cq hV hT F.entry_tuple_hash ?_ (F.args_tuple_hash_1 _)));show aQ _ _ (Builtin.Tuple.tupleItemsOf (.ref a) >>= _) _ _ s;refine ab (wpAny_tupleItemsOf ho hd ?_);refine ab ?_;rw [←iP];refine a2Q ds (A:=A.in1) (acc:=#[]) hk (by show A.units + 1 + _ < _;lia) hi ?_;show aQ _ _ (retInt (dF _)) _ _ _;simp only [Array.toList_append,cu];refine wpAny_ret_mkInt ?_;show aQ _ _ (if (decide (-(2:Int) ^ 63≤dF (z8 ds)) && decide (dF (z8 ds) < 2 ^ 63))=true then _ else _) Q E _;unfold reduceHash at h;by_cases hr:(decide (-(2:Int) ^ 63≤dF (z8 ds)) && decide (dF (z8 ds) < 2 ^ 63))=true
   ·rw [aE hr];rw [aE hr] at h;exact ak (by simpa [jf] using h)
   ·rw [aJ hr];rw [aJ hr] at h;exact ab (kl (ak (by simpa [jf] using h)))
 | .none,_,_,_,_,_,h,_,_,_|.bool _,_,_,_,_,_,h,_,_,_|.str _,_,_,_,_,_,h,_,_,_|.list _,_,_,_,_,_,h,_,_,_|.dict _,_,_,_,_,_,h,_,_,_=>by simp only [z7] at h;cases h
theorem a2Q:∀(ks:List D) {A:bT} {s:au} {vs:List aj} {as:List az} {acc:Array Int} {Q:Array Int→au→Prop},n9 ks=true→A.units + cU ks < dq→hU s.heap vs ks as→Q (acc ++ (z8 ks).toArray) {s with toks:=s.toks + L7 ks}→
  aQ (bc prog w) A (forIn vs acc fun x r=>do let r1 ←pyHash x;pure PUnit.unit;pure (fo (r.push r1))) Q E s
 | [],A,s,vs,as,acc,Q,_,_,r,h=>by
  cases r
  rw [List.forIn_nil];exact ak (by simpa [z8,L7] using h)
 | k :: ks,A,s,vs,as,acc,Q,hk,hu,r,h=>by
  simp only [n9,aA] at hk;simp only [cU] at hu;cases r with
  | cons r1 r2=>
   rw [CL];refine ab (ab (a1y k hk.1 (by lia) r1 ?_));refine ab (ak (ak ?_));refine a2Q ks (s:={s with toks:=s.toks + u4 k}) hk.2 (by lia) r2 ?_;simp only [z8,L7] at h;have e:(acc.push (hashD k)) ++ (z8 ks).toArray=acc ++ (hashD k :: z8 ks).toArray:=by simp
   rw [e];simpa [jf] using h
end
end
end VS
namespace VS
open PySem PySem.Spec L2
section
variable {prog:bB}{w:bU}{A:bT}{E:aj→au→Prop}
mutual
theorem a2R:∀(k:D) (n:Nat) {s:au} {v:aj} {as:List az} {Q:Bool→au→Prop},z7 k=true→k.depth≤n→Reads s.heap v k as→Q true s→aQ (bc prog w) A (eqIsQuiet n v) Q E s
 | .int i,n,s,v,as,Q,_,_,r,h=>by
  cases r
  rw [eqIsQuiet_byValue n (v:=.int i _) rfl];exact ak h
 | .tuple ds,0,s,v,as,Q,_,hn,_,_=>by simp only [dA] at hn;lia
 | .tuple ds,n + 1,s,v,as,Q,hk,hn,r,h=>by
  simp only [z7] at hk;simp only [dA] at hn;cases r with
  | @tuple a o items m _ as ho hc hd hi=>
   have hT:s.TypeIs (.ref a) "tuple":=⟨o,ho,hc⟩;unfold eqIsQuiet;refine ab (gF hT F.slot_tuple_eq.lookup ?_);show aQ _ _ (isInstance (.ref a) (.type "tuple") >>= _) _ _ s;refine ab (jV hT isSubtype_tuple_tuple ?_);simp only [eK,bA,cQ];refine ab (rM ho hd ?_);refine ab ?_;show aQ _ _ (forIn items _ _) _ _ s;rw [←iP];refine jW _ (fun rest r s'=>r.1=none∧s'=s∧∃ks bs,n9 ks=true∧cU ks≤n∧(∀k∈ks,k∈ds)∧hU s.heap rest ks bs) _ ?_ ?_ _ _ ⟨rfl,rfl,ds,as,hk,by lia,fun k hk=>hk,hi⟩
   ·rintro v rest r s' ⟨hr,rfl,ks,bs,k1,k2,k3,k4⟩;cases k4 with
    | @cons _ _ d' gn _ _ r1 r2=>
     simp only [n9,aA] at k1;simp only [cU] at k2;refine ab (a2S ds n hk (by lia) d' (k3 d' aq) r1 ?_);simp only [eK,bA,cQ];exact ak ⟨rfl,rfl,_,_,k1.2,by lia,fun k hk=>k3 k (ah _ hk),r2⟩
   ·rintro⟨r1,r2⟩ s' ⟨hr,rfl,_⟩;simp only at hr;subst hr;exact ak h
 | .none,_,_,_,_,_,h,_,_,_|.bool _,_,_,_,_,_,h,_,_,_|.str _,_,_,_,_,_,h,_,_,_|.list _,_,_,_,_,_,h,_,_,_|.dict _,_,_,_,_,_,h,_,_,_=>by simp only [z7] at h;cases h
theorem a2S:∀(ds:List D) (n:Nat),n9 ds=true→cU ds≤n→∀k∈ds,∀{s:au} {v:aj} {as:List az} {Q:Bool→au→Prop},Reads s.heap v k as→Q true s→aQ (bc prog w) A (eqIsQuiet n v) Q E s
 | [],n,_,_,k,hk,s,v,as,Q,r,h=>nomatch hk
 | d :: ds,n,vP,hn,k,hk,s,v,as,Q,r,h=>by
  simp only [n9,aA] at vP;simp only [cU] at hn;rcases aH.mp hk with e|hk
  ·rw [e] at r;exact a2R d n vP.1 (by lia) r h
  ·exact a2S ds n vP.2 (by lia) k hk r h
end
end
noncomputable def a8A:DecidableEq D:=fun a b=>Classical.propDecidable (a=b)
noncomputable def a9W(prog:bB)(w:bU):@HeapKind prog w D a8A:=
 letI:DecidableEq D:=a8A
 {
  is:=fun h k a=>z7 k=true∧k.depth≤7∧∃as,Reads h (.ref a) k as
  hash:=hashD
  draws:=u4
  room:=fun A=>A.units + 8 < dq
  inj:=fun⟨hx,_,_,r⟩ ⟨_,_,_,r'⟩=>SeqAt.Reads.unique _ _ _ _ _ (L8 _ hx) r r'
  keeps:=fun⟨hx,hd,_,r⟩ ho ir hs=>⟨hx,hd,_,a1x ho ir hs _ hx r⟩
  pyHash:=fun hu ⟨hx,hd,_,r⟩ h=>a1y _ hx (by lia) r h
  eqBool:=fun {A E s x y a b Q} hu ⟨hx,hd,_,r⟩ ⟨hy,ir,_,r'⟩ h=>by
   refine kd x y A s _ _ _ _ r r' (L8 _ hx) (L8 _ hy) (by have:=mZ x.depth y.depth;lia) _ _ _ _ ?_;have e:aI x y=@decide (x=y) (a8A x y):=by
    by_cases c:x=y
    ·rw [@aO _ (a8A x y) c];exact (A7 x y hx hy).mpr c
    ·rw [@bj _ (a8A x y) c];cases q:aI x y with
     | false=>rfl
     | true=>exact absurd ((A7 x y hx hy).mp q) c
   rw [e];exact h
  quiet:=fun⟨hx,hd,_,r⟩ h=>a2R _ 8 hx (by lia) r h
 }
end VS
namespace VS
open PySem PySem.Spec L2
def Q5(e:D × V × V)(x:fR):Prop:=x.hash=hashD e.1∧RelV e.2.1 x.key∧RelV e.2.2 x.val
def a3Q:List D→Bool
 | .tuple [.int 0,.int 0] :: _=>true
 | _=>false
abbrev N7(es:List (D × V × V)):Bool:=a3Q (es.map (·.1))
def i4(a:az)(es:List (D × V × V)):HO:=.ext fun h=>(a == dU)=false∧es.length≤aT∧(es.map (·.1)).Nodup∧∃o ents ep,h.get? a=some o∧o.ExactDict∧o.data=.dict ents ep∧fS Q5 es ents.toList∧(N7 es=false→ep=es.length)
def Mu:HO→Prop
 | .lst _=>True
 | .dK _=>True
 | .ext _=>True
 | _=>False
abbrev MuO:={o:HO // Mu o}
def keyOk(kt:Bool)(k:D):Prop:=z7 k=true∧k.depth≤7∧(kt=true→∃ds,k=.tuple ds)∧(kt=false→∃i,k=.int i)
end VS
namespace VS
open PySem L2
mutual
def imm:br→Bool
 | .none=>true
 | .bool _=>true
 | .int _=>true
 | .str _=>true
 | .list _=>false
 | .tuple ds=>e6 ds
 | .dict _=>false
def e6:List br→Bool
 | []=>true
 | d :: ds=>imm d && e6 ds
end
def SqX(K:ag)(H:Hp)(a:az)(xs:List V):Prop:=
 Rd H a (.lst xs)∨∃(cE:List aj) (n:Nat),K.lookup a=some {cls:=.type "list",data:=.seq cE.toArray n}∧cE.length≤aT∧Vals xs cE
theorem SqX.l(h:SqX K H a xs):SqL K H a xs:=by
 rcases h with h|⟨cE,n,h1,h2,h3⟩
 ·exact .inl h
 ·exact .inr ⟨_,cE.toArray,n,h1,rfl,rfl,rfl,by simpa using h2,by simpa using h3⟩
theorem SqX.ok{X:Cx}(h:SqX X.K H a xs)(I:Inv X pins σ H s):xs.length≤aT∧∃(cE:List aj) (n:Nat),Vals xs cE∧s.heap.get? a=some {cls:=.type "list",data:=.seq cE.toArray n}:=by
 rcases h with h|⟨cE,n,h1,h2,h3⟩
 ·exact h.ok I.hok
 ·exact⟨by rw [h3.length];exact h2,cE,n,h3,I.kIn _ _ h1⟩
mutual
theorem Q6:∀d:br,z7 d=true→imm d=true
 | .int _,_=>by simp only [imm]
 | .tuple ds,h=>by
  simp only [z7] at h;simp only [imm];exact a0M ds h
 | .none,h|.bool _,h|.str _,h|.list _,h|.dict _,h=>by simp only [z7] at h;cases h
theorem a0M:∀ds:List br,n9 ds=true→e6 ds=true
 | [],_=>by simp only [e6]
 | d :: ds,h=>by
  simp only [n9,aA] at h;simp only [e6,aA];exact⟨Q6 d h.1,a0M ds h.2⟩
end
mutual
def Den(K:ag)(H:Hp):V→br→Prop
 | v,.none=>v=.non
 | v,.bool b=>v=.bl b
 | v,.int i=>v=.int i
 | v,.str x=>v=.str x
 | v,.list ds=>∃a xs,v=.ref a∧SqX K H a xs∧DenAll K H xs ds
 | v,.tuple ds=>∃a xs,v=.ref a∧SqT K H a xs∧DenAll K H xs ds
 | v,.dict kvs=>∃a es,v=.ref a∧H a=some (i4 a es)∧DenKV K H es kvs
def DenAll(K:ag)(H:Hp):List V→List br→Prop
 | xs,[]=>xs=[]
 | xs,d :: ds=>∃v r,xs=v :: r∧Den K H v d∧DenAll K H r ds
def DenKV(K:ag)(H:Hp):List (br × V × V)→List (br × br)→Prop
 | es,[]=>es=[]
 | es,(k,d) :: r=>∃e q,es=e :: q∧e.1=k∧Den K H e.2.1 k∧Den K H e.2.2 d∧DenKV K H q r
end
theorem Rd.up(h:Rd H a u)(e:Same H H'):Rd H' a u:=by
 rcases h with h|⟨o,h⟩
 ·exact .inl (e _ _ h)
 ·exact .inr ⟨o,e _ _ h⟩
theorem Q7(h:SqX K H a xs)(e:Same H H'):SqX K H' a xs:=h.imp (fun q=>Rd.up q e) id
theorem a0k(h:SqT K H a xs)(e:Same H H'):SqT K H' a xs:=h.imp (fun q=>Rd.up q e) id
mutual
theorem Den.mono{K:ag}{H H':Hp}(e:Same H H'):∀(d:br) {v:V},Den K H v d→Den K H' v d
 | .none,_,h=>by simpa only [Den] using h
 | .bool _,_,h=>by simpa only [Den] using h
 | .int _,_,h=>by simpa only [Den] using h
 | .str _,_,h=>by simpa only [Den] using h
 | .list ds,_,h=>by
  simp only [Den] at h ⊢;obtain⟨a,xs,h1,h2,h3⟩:=h;exact⟨a,xs,h1,Q7 h2 e,DenAll.mono e ds h3⟩
 | .tuple ds,_,h=>by
  simp only [Den] at h ⊢;obtain⟨a,xs,h1,h2,h3⟩:=h;exact⟨a,xs,h1,a0k h2 e,DenAll.mono e ds h3⟩
 | .dict kvs,_,h=>by
  simp only [Den] at h ⊢;obtain⟨a,es,h1,h2,h3⟩:=h;exact⟨a,es,h1,e _ _ h2,DenKV.mono e kvs h3⟩
theorem DenAll.mono{K:ag}{H H':Hp}(e:Same H H'):∀(ds:List br) {xs:List V},DenAll K H xs ds→DenAll K H' xs ds
 | [],_,h=>by simpa only [DenAll] using h
 | d :: ds,_,h=>by
  simp only [DenAll] at h ⊢;obtain⟨v,r,h1,h2,h3⟩:=h;exact⟨v,r,h1,Den.mono e d h2,DenAll.mono e ds h3⟩
theorem DenKV.mono(e:Same H H'):∀(kvs:List (br × br)) {es:List (br × V × V)},DenKV K H es kvs→DenKV K H' es kvs
 | [],_,h=>by simpa only [DenKV] using h
 | (k,d) :: r,_,h=>by
  simp only [DenKV] at h ⊢;obtain⟨x,q,h1,h2,h3,h4,h5⟩:=h;exact⟨x,q,h1,h2,Den.mono e k h3,Den.mono e d h4,DenKV.mono e r h5⟩
end
section
variable {K:ag}{H H':Hp}
theorem Den.up{d:br}{v:V}(h:Den K H v d)(e:Same H H'):Den K H' v d:=Den.mono e d h
theorem DenAll.up{ds:List br}{xs:List V}(h:DenAll K H xs ds)(e:Same H H'):DenAll K H' xs ds:=DenAll.mono e ds h
theorem den_none:Den K H .non .none:=by simp only [Den]
theorem den_bool{b:Bool}:Den K H (.bl b) (.bool b):=by simp only [Den]
theorem den_int{i:Int}:Den K H (.int i) (.int i):=by simp only [Den]
theorem den_list{a:az}{xs:List V}{ds:List br}(h:SqX K H a xs)(q:DenAll K H xs ds):Den K H (.ref a) (.list ds):=by
 simp only [Den];exact⟨a,xs,rfl,h,q⟩
theorem den_tup{a:az}{xs:List V}{ds:List br}(h:SqT K H a xs)(q:DenAll K H xs ds):Den K H (.ref a) (.tuple ds):=by
 simp only [Den];exact⟨a,xs,rfl,h,q⟩
theorem a4H:∀{es:List (br × V × V)} {ds:List br},(∀e∈es,Den K H e.2.1 e.1)→DenAll K H (es.map (·.2.2)) ds→DenKV K H es ((es.map (·.1)).zip ds)
 | [],ds,_,h=>by
  cases ds with
  | nil=>simp only [cK,List.zip_nil_left,DenKV]
  | cons d ds=>simp only [DenAll] at h;obtain⟨v,r,h1,_⟩:=h;cases h1
 | e :: es,ds,hk,h=>by
  cases ds with
  | nil=>simp only [DenAll] at h;cases h
  | cons d ds=>
   simp only [DenAll] at h;obtain⟨v,r,h1,h2,h3⟩:=h;cases h1
   simp only [aB,eZ,DenKV];exact⟨e,es,rfl,rfl,hk e aq,h2,a4H (fun e he=>hk e (ah _ he)) h3⟩
theorem a2T(h:H a=some (i4 a es))(hk:∀e∈es,Den K H e.2.1 e.1)(hv:DenAll K H (es.map (·.2.2)) ds):Den K H (.ref a) (.dict ((es.map (·.1)).zip ds)):=by
 simp only [Den];exact⟨a,es,rfl,h,a4H hk hv⟩
theorem denAll_nil:DenAll K H [] []:=by simp only [DenAll]
theorem denAll_cons{v:V}{d:br}{xs:List V}{ds:List br}(h:Den K H v d)(q:DenAll K H xs ds):DenAll K H (v :: xs) (d :: ds):=by
 simp only [DenAll];exact⟨v,xs,rfl,h,q⟩
theorem Den.list_inv{v:V}{ds:List br}(h:Den K H v (.list ds)):∃a xs,v=.ref a∧SqX K H a xs∧DenAll K H xs ds:=by simpa only [Den] using h
theorem Den.tup_inv{v:V}{ds:List br}(h:Den K H v (.tuple ds)):∃a xs,v=.ref a∧SqT K H a xs∧DenAll K H xs ds:=by simpa only [Den] using h
theorem Den.dict_inv(h:Den K H v (.dict kvs)):∃a es,v=.ref a∧H a=some (i4 a es)∧DenKV K H es kvs:=by simpa only [Den] using h
theorem Den.int_inv{v:V}{i:Int}(h:Den K H v (.int i)):v=.int i:=by simpa only [Den] using h
theorem Den.bool_inv(h:Den K H v (.bool b)):v=.bl b:=by simpa only [Den] using h
theorem Den.none_inv(h:Den K H v .none):v=.non:=by simpa only [Den] using h
theorem Den.str_inv(h:Den K H v (.str x)):v=.str x:=by simpa only [Den] using h
theorem DenAll.cons_inv{xs:List V}{d:br}{ds:List br}(h:DenAll K H xs (d :: ds)):∃v r,xs=v :: r∧Den K H v d∧DenAll K H r ds:=by simpa only [DenAll] using h
theorem DenAll.nil_inv{xs:List V}(h:DenAll K H xs []):xs=[]:=by simpa only [DenAll] using h
theorem DenAll.length:∀{ds:List br} {xs:List V},DenAll K H xs ds→xs.length=ds.length
 | [],_,h=>by rw [h.nil_inv];rfl
 | d :: ds,_,h=>by
  obtain⟨v,r,rfl,_,h⟩:=h.cons_inv;rw [aW,aW,DenAll.length h]
theorem DenAll.get:∀{ds:List br} {xs:List V} {i:Nat} {d:br},DenAll K H xs ds→ds[i]?=some d→∃v,xs[i]?=some v∧Den K H v d
 | [],_,i,d,_,e=>by simp at e
 | d0 :: ds,_,0,d,h,e=>by
  obtain⟨v,r,rfl,h1,_⟩:=h.cons_inv;have:d0=d:=by simpa using e
  subst this;exact⟨v,rfl,h1⟩
 | d0 :: ds,_,i + 1,d,h,e=>by
  obtain⟨v,r,rfl,_,h1⟩:=h.cons_inv;obtain⟨u,h2,h3⟩:=DenAll.get (i:=i) h1 (by simpa using e);exact⟨u,by simpa using h2,h3⟩
theorem DenAll.getV{ds:List br}{xs:List V}{i:Nat}{v:V}(h:DenAll K H xs ds)(e:xs[i]?=some v):∃d,ds[i]?=some d∧Den K H v d:=by
 have hi:=(ay.mp e).1;rw [h.length] at hi;obtain⟨u,h1,h2⟩:=h.get (af hi);rw [e] at h1;cases h1
 exact⟨_,af hi,h2⟩
theorem DenAll.append:∀{ds:List br} {xs:List V} {es:List br} {ys:List V},DenAll K H xs ds→DenAll K H ys es→DenAll K H (xs ++ ys) (ds ++ es)
 | [],_,_,_,h,q=>by rw [h.nil_inv];exact q
 | d :: ds,_,_,_,h,q=>by
  obtain⟨v,r,rfl,h1,h2⟩:=h.cons_inv;exact denAll_cons h1 (DenAll.append h2 q)
theorem DenAll.take:∀{ds:List br} {xs:List V} (n:Nat),DenAll K H xs ds→DenAll K H (xs.take n) (ds.take n)
 | _,_,0,_=>by rw [og,og];exact denAll_nil
 | [],_,n + 1,h=>by rw [h.nil_inv];exact denAll_nil
 | d :: ds,_,n + 1,h=>by
  obtain⟨v,r,rfl,h1,h2⟩:=h.cons_inv;exact denAll_cons h1 (DenAll.take n h2)
theorem DenAll.drop:∀{ds:List br} {xs:List V} (n:Nat),DenAll K H xs ds→DenAll K H (xs.drop n) (ds.drop n)
 | _,_,0,h=>h
 | [],_,n + 1,h=>by rw [h.nil_inv];exact denAll_nil
 | d :: ds,_,n + 1,h=>by
  obtain⟨v,r,rfl,_,h2⟩:=h.cons_inv;exact DenAll.drop n h2
theorem DenAll.ints:∀(ns:List Int),DenAll K H (ns.map V.int) (ns.map aU)
 | []=>denAll_nil
 | n :: ns=>denAll_cons den_int (DenAll.ints ns)
end
def cut(H:Hp)(F:List az):Hp:=fun a=>if a∈F then none else H a
section
variable {H H':Hp}{F F':List az}{a:az}{o:HO}
theorem a3R(h:a∉F):cut H F a=H a:=by unfold cut;rw [aJ h]
theorem a9X(h:a∈F):cut H F a=none:=by unfold cut;rw [aE h]
theorem l5(h:cut H F a=some o):a∉F∧H a=some o:=by
 by_cases q:a∈F
 ·rw [a9X q] at h;cases h
 ·rw [a3R q] at h;exact⟨q,h⟩
theorem w9(h1:a∉F)(h2:H a=some o):cut H F a=some o:=by rw [a3R h1];exact h2
theorem m5:Same (cut H F) H:=fun _ _ h=>(l5 h).2
theorem L9(e:Same H H')(hF:∀a o,H a=some o→a∈F'→a∈F):Same (cut H F) (cut H' F'):=fun a o h=>by
 obtain⟨h1,h2⟩:=l5 h;exact w9 (fun q=>h1 (hF a o h2 q)) (e _ _ h2)
theorem F5(e:Same H H'):Same (cut H F) (cut H' F):=L9 e fun _ _ _ q=>q
theorem J6(hF:∀a,a∈F'→a∈F):Same (cut H F) (cut H F'):=L9 (Same.refl H) fun a _ _ q=>hF a q
theorem a1g:cut H []=H:=by
 funext a
 exact a3R (by simp)
end
inductive Ty where
 | i|f|l (t:Ty)|tp (ts:List Ty)|d (kt:Bool) (t:Ty)
mutual
def Ty.shut:Ty→Bool
 | .i=>true
 | .f=>false
 | .l u=>u.shut
 | .tp us=>Ty.shutAll us
 | .d _ u=>u.shut
def Ty.shutAll:List Ty→Bool
 | []=>true
 | u :: us=>u.shut && Ty.shutAll us
end
def ListAll(R:V→br→List az→Prop):List V→List br→List az→Prop
 | xs,[],fp=>xs=[]∧fp=[]
 | xs,d :: ds,fp=>∃v r f g,xs=v :: r∧fp=f ++ g∧R v d f∧ListAll R r ds g
mutual
def Own(K:ag)(H:Hp)(F:List az):Ty→V→br→List az→Prop
 | .i,v,d,fp=>fp=[]∧imm d=true∧Den K (cut H F) v d
 | .f,v,d,fp=>fp=[]∧Den K (cut H F) v d
 | .l u,v,d,fp=>(fp=[]∧imm d=true∧Den K (cut H F) v d)∨∃a xs ds fs,v=.ref a∧H a=some (.lst xs)∧d=.list ds∧fp=a :: fs∧ListAll (Own K H F u) xs ds fs
 | .tp us,v,d,fp=>∃a xs ds,v=.ref a∧H a=some (.tup xs)∧a∉F∧d=.tuple ds∧OwnTs K H F us xs ds fp
 | .d kt u,v,d,fp=>∃a es ds fs,v=.ref a∧H a=some (i4 a es)∧d=.dict ((es.map (·.1)).zip ds)∧fp=a :: fs∧((es.map (·.1)).Nodup∧∀e∈es,keyOk kt e.1∧Den K (cut H F) e.2.1 e.1)∧ListAll (Own K H F u) (es.map (·.2.2)) ds fs
def OwnTs(K:ag)(H:Hp)(F:List az):List Ty→List V→List br→List az→Prop
 | [],xs,ds,fp=>xs=[]∧ds=[]∧fp=[]
 | u :: us,xs,ds,fp=>∃v r d e f g,xs=v :: r∧ds=d :: e∧fp=f ++ g∧Own K H F u v d f∧OwnTs K H F us r e g
end
section
variable {R R':V→br→List az→Prop}
theorem l7:ListAll R [] [] []:=by simp only [ListAll];exact⟨trivial,trivial⟩
theorem k7(h:R v d f)(q:ListAll R xs ds g):ListAll R (v :: xs) (d :: ds) (f ++ g):=by
 simp only [ListAll];exact⟨v,xs,f,g,rfl,rfl,h,q⟩
theorem ListAll.nil_inv(h:ListAll R xs [] fp):xs=[]∧fp=[]:=by simpa only [ListAll] using h
theorem ListAll.cons_inv(h:ListAll R xs (d :: ds) fp):∃v r f g,xs=v :: r∧fp=f ++ g∧R v d f∧ListAll R r ds g:=by simpa only [ListAll] using h
theorem ListAll.length:∀{ds:List br} {xs:List V} {fp:List az},ListAll R xs ds fp→xs.length=ds.length
 | [],_,_,h=>by rw [h.nil_inv.1];rfl
 | d :: ds,_,_,h=>by
  obtain⟨v,r,f,g,rfl,_,_,h⟩:=h.cons_inv;rw [aW,aW,ListAll.length h]
theorem ListAll.imp:∀{ds:List br} {xs:List V} {fp:List az},ListAll R xs ds fp→(∀v d f,(∀a∈f,a∈fp)→d∈ds→R v d f→R' v d f)→ListAll R' xs ds fp
 | [],_,_,h,_=>by obtain⟨rfl,rfl⟩:=h.nil_inv;exact l7
 | d :: ds,_,_,h,q=>by
  obtain⟨v,r,f,g,rfl,rfl,h1,h2⟩:=h.cons_inv;exact k7 (q v d f (fun a ha=>av _ ha) aq h1) (ListAll.imp h2 fun v d f' hf hd hR=>q v d f' (fun a ha=>ao _ (hf a ha)) (ah _ hd) hR)
theorem ListAll.append:∀{ds es:List br} {xs ys:List V} {fp gp:List az},ListAll R xs ds fp→ListAll R ys es gp→ListAll R (xs ++ ys) (ds ++ es) (fp ++ gp)
 | [],_,_,_,_,_,h,q=>by obtain⟨rfl,rfl⟩:=h.nil_inv;exact q
 | d :: ds,_,_,_,_,_,h,q=>by
  obtain⟨v,r,f,g,rfl,rfl,h1,h2⟩:=h.cons_inv;rw [be];exact k7 h1 (ListAll.append h2 q)
theorem ListAll.at_:∀{ds:List br} {xs:List V} {fp:List az} {k:Nat} {d:br},ListAll R xs ds fp→ds[k]?=some d→
  ∃v f pre post,xs[k]?=some v∧R v d f∧fp=pre ++ (f ++ post)∧ListAll R (xs.take k) (ds.take k) pre∧ListAll R (xs.drop (k + 1)) (ds.drop (k + 1)) post
 | [],_,_,k,d,_,e=>by simp at e
 | d0 :: ds,_,_,0,d,h,e=>by
  obtain⟨v,r,f,g,rfl,rfl,h1,h2⟩:=h.cons_inv;have:d0=d:=by simpa using e
  subst this;exact⟨v,f,[],g,rfl,h1,rfl,l7,h2⟩
 | d0 :: ds,_,_,k + 1,d,h,e=>by
  obtain⟨v,r,f,g,rfl,rfl,h1,h2⟩:=h.cons_inv;obtain⟨u,f',pre,post,e1,e2,e3,e4,e5⟩:=ListAll.at_ (k:=k) h2 (by simpa using e);subst e3;exact⟨u,f',f ++ pre,post,by simpa using e1,e2,by rw [be],k7 h1 e4,e5⟩
end
section
variable {K:ag}{H H':Hp}{F F':List az}
theorem ListAll.den(hR:∀v d f,R v d f→Den K H v d):∀{ds:List br} {xs:List V} {fp:List az},ListAll R xs ds fp→DenAll K H xs ds
 | [],_,_,h=>by rw [h.nil_inv.1];exact denAll_nil
 | d :: ds,_,_,h=>by
  obtain⟨v,r,f,g,rfl,_,h1,h2⟩:=h.cons_inv;exact denAll_cons (hR _ _ _ h1) (ListAll.den hR h2)
mutual
theorem Own.den:∀(u:Ty) {v:V} {d:br} {fp:List az},Own K H F u v d fp→Den K H v d
 | .i,_,_,_,h=>by simp only [Own] at h;exact h.2.2.up m5
 | .f,_,_,_,h=>by simp only [Own] at h;exact h.2.up m5
 | .l u,_,_,_,h=>by
  simp only [Own] at h;rcases h with⟨_,_,h⟩|⟨a,xs,ds,fs,rfl,h1,rfl,_,h2⟩
  ·exact h.up m5
  ·exact den_list (.inl (.inl h1)) (ListAll.den (fun v d f q=>Own.den u q) h2)
 | .tp us,_,_,_,h=>by
  simp only [Own] at h;obtain⟨a,xs,ds,rfl,h1,_,rfl,h2⟩:=h;exact den_tup (SqT.of h1) (OwnTs.den us h2)
 | .d kt u,_,_,_,h=>by
  simp only [Own] at h;obtain⟨a,es,ds,fs,rfl,h1,rfl,_,h3,h2⟩:=h;exact a2T h1 (fun e he=>(h3.2 e he).2.up m5) (ListAll.den (fun v d f q=>Own.den u q) h2)
theorem OwnTs.den:∀(us:List Ty) {xs:List V} {ds:List br} {fp:List az},OwnTs K H F us xs ds fp→DenAll K H xs ds
 | [],_,_,_,h=>by simp only [OwnTs] at h;obtain⟨rfl,rfl,_⟩:=h;exact denAll_nil
 | u :: us,_,_,_,h=>by
  simp only [OwnTs] at h;obtain⟨v,r,d,e,f,g,rfl,rfl,_,h1,h2⟩:=h;exact denAll_cons (Own.den u h1) (OwnTs.den us h2)
end
mutual
theorem Own.frame(e:Same (cut H F) (cut H' F')):∀(u:Ty) {v:V} {d:br} {fp:List az},Own K H F u v d fp→(∀a∈fp,H' a=H a)→Own K H' F' u v d fp
 | .i,_,_,_,h,_=>by simp only [Own] at h ⊢;exact⟨h.1,h.2.1,h.2.2.up e⟩
 | .f,_,_,_,h,_=>by simp only [Own] at h ⊢;exact⟨h.1,h.2.up e⟩
 | .l u,_,_,_,h,k=>by
  simp only [Own] at h ⊢;rcases h with⟨h1,h2,h⟩|⟨a,xs,ds,fs,rfl,h1,rfl,rfl,h2⟩
  ·exact .inl ⟨h1,h2,h.up e⟩
  ·exact .inr ⟨a,xs,ds,fs,rfl,(k a aq).trans h1,rfl,rfl,h2.imp fun v d f hf _ q=>Own.frame e u q fun b hb=>k b (ah _ (hf b hb))⟩
 | .tp us,_,_,_,h,k=>by
  simp only [Own] at h ⊢;obtain⟨a,xs,ds,rfl,h1,h0,rfl,h2⟩:=h;obtain⟨h3,h4⟩:=l5 (e a _ (w9 h0 h1));exact⟨a,xs,ds,rfl,h4,h3,rfl,OwnTs.frame e us h2 k⟩
 | .d kt u,_,_,_,h,k=>by
  simp only [Own] at h ⊢;obtain⟨a,es,ds,fs,rfl,h1,rfl,rfl,h3,h2⟩:=h;exact⟨a,es,ds,fs,rfl,(k a aq).trans h1,rfl,rfl,⟨h3.1,fun x hx=>⟨(h3.2 x hx).1,(h3.2 x hx).2.up e⟩⟩,h2.imp fun v d f hf _ q=>Own.frame e u q fun b hb=>k b (ah _ (hf b hb))⟩
theorem OwnTs.frame(e:Same (cut H F) (cut H' F')):∀(us:List Ty) {xs:List V} {ds:List br} {fp:List az},OwnTs K H F us xs ds fp→(∀a∈fp,H' a=H a)→OwnTs K H' F' us xs ds fp
 | [],_,_,_,h,_=>by simpa only [OwnTs] using h
 | u :: us,_,_,_,h,k=>by
  simp only [OwnTs] at h ⊢;obtain⟨v,r,d,e',f,g,rfl,rfl,rfl,h1,h2⟩:=h;exact⟨v,r,d,e',f,g,rfl,rfl,rfl,Own.frame e u h1 fun a ha=>k a (av _ ha),OwnTs.frame e us h2 fun a ha=>k a (ao _ ha)⟩
end
theorem ListAll.lst{u:Ty}{R:V→br→List az→Prop}(hR:∀v d f,R v d f→∀a∈f,∃ys:MuO,H a=some ys.1):∀{ds:List br} {xs:List V} {fp:List az},ListAll R xs ds fp→∀a∈fp,∃ys:MuO,H a=some ys.1
 | [],_,_,h,a,ha=>by rw [h.nil_inv.2] at ha;cases ha
 | d :: ds,_,_,h,a,ha=>by
  obtain⟨v,r,f,g,rfl,rfl,h1,h2⟩:=h.cons_inv;rcases aw.mp ha with z|z
  ·exact hR _ _ _ h1 a z
  ·exact ListAll.lst (u:=u) hR h2 a z
mutual
theorem Own.lst:∀(u:Ty) {v:V} {d:br} {fp:List az},Own K H F u v d fp→∀a∈fp,∃ys:MuO,H a=some ys.1
 | .i,_,_,_,h,a,ha=>by simp only [Own] at h;rw [h.1] at ha;cases ha
 | .f,_,_,_,h,a,ha=>by simp only [Own] at h;rw [h.1] at ha;cases ha
 | .l u,_,_,_,h,b,hb=>by
  simp only [Own] at h;rcases h with⟨h1,_⟩|⟨a,xs,ds,fs,rfl,h1,rfl,rfl,h2⟩
  ·rw [h1] at hb;cases hb
  ·rcases aH.mp hb with z|z
   ·subst z;exact⟨⟨.lst xs,trivial⟩,h1⟩
   ·exact ListAll.lst (u:=u) (fun v d f q=>Own.lst u q) h2 b z
 | .tp us,_,_,_,h,b,hb=>by
  simp only [Own] at h;obtain⟨a,xs,ds,rfl,h1,_,rfl,h2⟩:=h;exact OwnTs.lst us h2 b hb
 | .d kt u,_,_,_,h,b,hb=>by
  simp only [Own] at h;obtain⟨a,es,ds,fs,rfl,h1,rfl,rfl,h3,h2⟩:=h;rcases aH.mp hb with z|z
  ·subst z;exact⟨⟨i4 b es,trivial⟩,h1⟩
  ·exact ListAll.lst (u:=u) (fun v d f q=>Own.lst u q) h2 b z
theorem OwnTs.lst:∀(us:List Ty) {xs:List V} {ds:List br} {fp:List az},OwnTs K H F us xs ds fp→∀a∈fp,∃ys:MuO,H a=some ys.1
 | [],_,_,_,h,a,ha=>by simp only [OwnTs] at h;rw [h.2.2] at ha;cases ha
 | u :: us,_,_,_,h,b,hb=>by
  simp only [OwnTs] at h;obtain⟨v,r,d,e,f,g,rfl,rfl,rfl,h1,h2⟩:=h;rcases aw.mp hb with z|z
  ·exact Own.lst u h1 b z
  ·exact OwnTs.lst us h2 b z
end
theorem b2A(h:SqT K H a xs)(hF:∀a∈F,∃ys:MuO,H a=some ys.1):SqT K (cut H F) a xs:=by
 rcases h with (h|⟨o,h⟩)|h
 ·refine .inl (.inl (w9 (fun q=>?_) h));obtain⟨⟨ys,my⟩,e⟩:=hF a q;rw [h] at e;have e':=aP e;rw [show ys=_ from e'.symm] at my;exact my
 ·refine .inl (.inr ⟨o,w9 (fun q=>?_) h⟩);obtain⟨⟨ys,my⟩,e⟩:=hF a q;rw [h] at e;have e':=aP e;rw [show ys=_ from e'.symm] at my;exact my
 ·exact .inr h
mutual
theorem Den.imm_out(hF:∀a∈F,∃ys:MuO,H a=some ys.1):∀(d:br) {v:V},imm d=true→Den K H v d→Den K (cut H F) v d
 | .none,_,_,h=>by simpa only [Den] using h
 | .bool _,_,_,h=>by simpa only [Den] using h
 | .int _,_,_,h=>by simpa only [Den] using h
 | .str _,_,_,h=>by simpa only [Den] using h
 | .list ds,_,q,_=>by simp only [imm] at q;cases q
 | .tuple ds,_,q,h=>by
  simp only [imm] at q;obtain⟨a,xs,rfl,h1,h2⟩:=h.tup_inv;exact den_tup (b2A h1 hF) (DenAll.imm_out hF ds q h2)
 | .dict _,_,q,_=>by simp only [imm] at q;cases q
theorem DenAll.imm_out(hF:∀a∈F,∃ys:MuO,H a=some ys.1):∀(ds:List br) {xs:List V},e6 ds=true→DenAll K H xs ds→DenAll K (cut H F) xs ds
 | [],_,_,h=>by simpa only [DenAll] using h
 | d :: ds,_,q,h=>by
  simp only [e6,aA] at q;obtain⟨v,r,rfl,h1,h2⟩:=h.cons_inv;exact denAll_cons (Den.imm_out hF d q.1 h1) (DenAll.imm_out hF ds q.2 h2)
end
mutual
theorem Own.shut_out(hF:∀a∈F',∃ys:MuO,H a=some ys.1):∀(u:Ty) {v:V} {d:br} {fp:List az},u.shut=true→Own K H F u v d fp→Own K H F' u v d fp
 | .i,_,_,_,_,h=>by simp only [Own] at h ⊢;exact⟨h.1,h.2.1,(h.2.2.up m5).imm_out hF _ h.2.1⟩
 | .f,_,_,_,q,h=>by simp only [Ty.shut] at q;cases q
 | .l u,_,_,_,q,h=>by
  simp only [Ty.shut] at q;simp only [Own] at h ⊢;rcases h with⟨h1,h2,h⟩|⟨a,xs,ds,fs,rfl,h1,rfl,rfl,h2⟩
  ·exact .inl ⟨h1,h2,(h.up m5).imm_out hF _ h2⟩
  ·exact .inr ⟨a,xs,ds,fs,rfl,h1,rfl,rfl,h2.imp fun v d f _ _ z=>Own.shut_out hF u q z⟩
 | .tp us,_,_,_,q,h=>by
  simp only [Ty.shut] at q;simp only [Own] at h ⊢;obtain⟨a,xs,ds,rfl,h1,h0,rfl,h2⟩:=h;refine⟨a,xs,ds,rfl,h1,fun z=>?_,rfl,OwnTs.shut_out hF us q h2⟩;obtain⟨⟨ys,my⟩,e⟩:=hF a z;rw [h1] at e;have e':=aP e;rw [show ys=_ from e'.symm] at my;exact my
 | .d kt u,_,_,_,q,h=>by
  simp only [Ty.shut] at q;simp only [Own] at h ⊢;obtain⟨a,es,ds,fs,rfl,h1,rfl,rfl,h3,h2⟩:=h;exact⟨a,es,ds,fs,rfl,h1,rfl,rfl,⟨h3.1,fun x hx=>⟨(h3.2 x hx).1,((h3.2 x hx).2.up m5).imm_out hF _ (Q6 _ (h3.2 x hx).1.1)⟩⟩,h2.imp fun v d f _ _ z=>Own.shut_out hF u q z⟩
theorem OwnTs.shut_out(hF:∀a∈F',∃ys:MuO,H a=some ys.1):∀(us:List Ty) {xs:List V} {ds:List br} {fp:List az},Ty.shutAll us=true→OwnTs K H F us xs ds fp→OwnTs K H F' us xs ds fp
 | [],_,_,_,_,h=>by simpa only [OwnTs] using h
 | u :: us,_,_,_,q,h=>by
  simp only [Ty.shutAll,aA] at q;simp only [OwnTs] at h ⊢;obtain⟨v,r,d,e,f,g,rfl,rfl,rfl,h1,h2⟩:=h;exact⟨v,r,d,e,f,g,rfl,rfl,rfl,Own.shut_out hF u q.1 h1,OwnTs.shut_out hF us q.2 h2⟩
end
end
end VS
namespace VS
open PySem PySem.Spec L2
open SeqAt in
theorem items_eqAt{A:bT}{s:au}{us ws:Array aj}(ra:hU s.heap us.toList xs as)(rb:hU s.heap ws.toList ys bs)(ha:aL xs=true)(hb:aL ys=true)
  (hu:A.in1.units + min (cU xs) (cU ys) < dq):∀(k:Nat) (k1:k < us.size) (k2:k < ws.size),EqAt A.in1 s us[k] ws[k] (pairEq xs ys k):=fun k k1 k2=>
 eqAt_readsAll xs ys A.in1 s us.toList ws.toList as bs ra rb ha hb hu k k1 k2
open SeqAt in
theorem a6h{A:bT}{s:au}(ra:Reads s.heap a da as)(rb:Reads s.heap b db bs)(ha:da.canLay0=true)(hb:db.canLay0=true)
  (hu:A.units + min da.depth db.depth < dq):RcNeAt A s a b (!aI da db):=by
 have u0:=room_here hu;cases ra with
 | dict=>exact nomatch ha
 | none=>cases rb with
  | dict=>exact nomatch hb
  | none=>exact RcNeAt.none_none
  | bool y=>exact RcNeAt.none_bool y
  | int y v=>exact RcNeAt.none_int y v
  | str y v=>exact RcNeAt.none_str y v
  | list c1 c2 c3 c4=>exact RcNeAt.none_list ⟨_,c1,c2,_,c3⟩ u0
  | tuple c1 c2 c3 c4=>exact RcNeAt.none_tuple ⟨_,c1,c2,_,c3⟩ u0
 | bool x=>cases rb with
  | dict=>exact nomatch hb
  | none=>exact RcNeAt.bool_none x
  | bool y=>exact RcNeAt.bool_bool x y
  | int y v=>exact RcNeAt.bool_int x y v
  | str y v=>exact RcNeAt.bool_str x y v
  | list c1 c2 c3 c4=>exact RcNeAt.bool_list x ⟨_,c1,c2,_,c3⟩ u0
  | tuple c1 c2 c3 c4=>exact RcNeAt.bool_tuple x ⟨_,c1,c2,_,c3⟩ u0
 | int x t=>cases rb with
  | dict=>exact nomatch hb
  | none=>exact RcNeAt.int_none x t
  | bool y=>exact RcNeAt.int_bool x t y
  | int y v=>exact RcNeAt.int_int x t y v
  | str y v=>exact RcNeAt.int_str x t y v
  | list c1 c2 c3 c4=>exact RcNeAt.int_list x t ⟨_,c1,c2,_,c3⟩ u0
  | tuple c1 c2 c3 c4=>exact RcNeAt.int_tuple x t ⟨_,c1,c2,_,c3⟩ u0
 | str x t=>cases rb with
  | dict=>exact nomatch hb
  | none=>exact RcNeAt.str_none x t
  | bool y=>exact RcNeAt.str_bool x t y
  | int y v=>exact RcNeAt.str_int x t y v
  | str y v=>exact RcNeAt.str_str x t y v
  | list c1 c2 c3 c4=>exact RcNeAt.str_list x t ⟨_,c1,c2,_,c3⟩ u0
  | tuple c1 c2 c3 c4=>exact RcNeAt.str_tuple x t ⟨_,c1,c2,_,c3⟩ u0
 | @list la oa us na xs fa c1 c2 c3 c4=>
  have sa:s.heap.IsList la us:=⟨oa,c1,c2,na,c3⟩;cases rb with
  | dict=>exact nomatch hb
  | none=>exact RcNeAt.list_none sa u0
  | bool y=>exact RcNeAt.list_bool y sa u0
  | int y v=>exact RcNeAt.list_int y v sa u0
  | str y v=>exact RcNeAt.list_str y v sa u0
  | tuple e1 e2 e3 e4=>exact RcNeAt.list_tuple sa ⟨_,e1,e2,_,e3⟩ u0
  | @list lb ob ws nb ys fb e1 e2 e3 e4=>
   have sb:s.heap.IsList lb ws:=⟨ob,e1,e2,nb,e3⟩;have z1:us.size=xs.length:=by simpa using mG xs _ _ c4
   have z2:ws.size=ys.length:=by simpa using mG ys _ _ e4
   have pr:=items_eqAt c4 e4 ha hb (room_in hu);show RcNeAt A s (.ref la) (.ref lb) (!b_ xs ys);by_cases z:us.size=ws.size
   ·rw [←eqvAll_same_length (show xs.length=ys.length by lia),←z1];exact RcNeAt.lists sa sb z u0 pr
   ·rw [eqvAll_other_length (show xs.length≠ys.length by lia)];exact RcNeAt.lists_lengths sa sb (bne_iff_ne.mpr z) u0
 | @tuple la oa us na xs fa c1 c2 c3 c4=>
  have sa:s.heap.IsTuple la us:=⟨oa,c1,c2,na,c3⟩;cases rb with
  | dict=>exact nomatch hb
  | none=>exact RcNeAt.tuple_none sa u0
  | bool y=>exact RcNeAt.tuple_bool y sa u0
  | int y v=>exact RcNeAt.tuple_int y v sa u0
  | str y v=>exact RcNeAt.tuple_str y v sa u0
  | list e1 e2 e3 e4=>exact RcNeAt.tuple_list sa ⟨_,e1,e2,_,e3⟩ u0
  | @tuple lb ob ws nb ys fb e1 e2 e3 e4=>
   have sb:s.heap.IsTuple lb ws:=⟨ob,e1,e2,nb,e3⟩;have z1:us.size=xs.length:=by simpa using mG xs _ _ c4
   have z2:ws.size=ys.length:=by simpa using mG ys _ _ e4
   have pr:=items_eqAt c4 e4 ha hb (room_in hu);show RcNeAt A s (.ref la) (.ref lb) (!b_ xs ys);rw [←eqvAll_eq xs ys,←z1,←z2];exact RcNeAt.tuples sa sb u0 pr
mutual
theorem Den.reads{X:Cx}{pins:List (az × eW)}{σ:St}{H:Hp}{s:au}(I:Inv X pins σ H s):∀(d:br) {v:V} {u:aj},d.canLay0=true→Den X.K H v d→RelV v u→∃as,Reads s.heap u d as
 | .none,v,u,_,q,r=>by
  cases q.none_inv
  cases (show u=bE from r)
  exact⟨_,.none⟩
 | .bool b,v,u,_,q,r=>by
  cases q.bool_inv
  cases (show u=kr b from r)
  exact⟨_,.bool b⟩
 | .int i,v,u,_,q,r=>by
  cases q.int_inv
  obtain⟨t,rfl⟩:=r;exact⟨_,.int i t⟩
 | .str x,v,u,_,q,r=>by
  cases q.str_inv
  obtain⟨t,rfl⟩:=r;exact⟨_,.str x t⟩
 | .list ds,v,u,hl,q,r=>by
  obtain⟨a,xs,rfl,h1,h2⟩:=q.list_inv;cases (show u=a_ a from r)
  obtain⟨z,cE,n,rv,e⟩:=h1.ok I;obtain⟨as,ra⟩:=DenAll.reads I ds hl h2 rv;exact⟨_,.list e rfl rfl (by simpa using ra)⟩
 | .tuple ds,v,u,hl,q,r=>by
  obtain⟨a,xs,rfl,h1,h2⟩:=q.tup_inv;cases (show u=a_ a from r)
  obtain⟨cE,rv,⟨o,e,c,n,d⟩,_⟩:=I.tuple h1;obtain⟨as,ra⟩:=DenAll.reads I ds hl h2 rv;exact⟨_,.tuple e c d (by simpa using ra)⟩
 | .dict _,_,_,hl,_,_=>nomatch hl
theorem DenAll.reads{X:Cx}{pins:List (az × eW)}{σ:St}{H:Hp}{s:au}(I:Inv X pins σ H s):∀(ds:List br) {xs:List V} {us:List aj},aL ds=true→DenAll X.K H xs ds→Vals xs us→∃as,hU s.heap us ds as
 | [],xs,us,_,q,r=>by
  cases q.nil_inv
  cases r
  exact⟨_,.nil⟩
 | d :: ds,xs,us,hl,q,r=>by
  have pL:d.canLay0=true∧aL ds=true:=by simpa [aL] using hl
  obtain⟨v,rs,rfl,h1,h2⟩:=q.cons_inv;cases r with
  | cons r1 r2=>
   obtain⟨as,ra⟩:=Den.reads I d pL.1 h1 r1;obtain⟨bs,rb⟩:=DenAll.reads I ds pL.2 h2 r2;exact⟨_,.cons ra rb⟩
end
def OpS(X:Cx)(f:aj→aj→Sem aj)(g:D→D→Option D):Prop:=
 ∃r,OpR X f r∧∀(x y:V) (H:Hp) (a b d:D) (Q:VK),Den X.K H x a→Den X.K H y b→g a b=some d→(∀v,imm d=true→(∀H',Den X.K H' v d)→Q v H)→r x y H Q
def a4I(X:Cx)(f:aj)(g:List D→Option D):Prop:=
 ∃r,CallR X f r∧∀(xs:List V) (H:Hp) (ds:List D) (d:D) (Q:VK),DenAll X.K H xs ds→g ds=some d→(∀v,imm d=true→(∀H',Den X.K H' v d)→Q v H)→r xs H Q
def d2I(p:Int→Int→Bool)(g:Int→Int→D):D→D→Option D
 | .int a,.int b=>if p a b then some (g a b) else none
 | _,_=>none
theorem a1z(h:d2I p g a b=some d):∃i j,a=.int i∧b=.int j∧p i j=true∧d=g i j:=by
 cases a with
 | int i=>
  cases b with
  | int j=>
   have h':(if p i j=true then some (g i j) else none)=some d:=h;by_cases c:p i j=true
   ·rw [aE c] at h';exact⟨i,j,rfl,rfl,c,(aP h').symm⟩
   ·rw [aJ c] at h';cases h'
  | _=>cases h
 | _=>cases h
def pT:Int→Int→Bool:=fun _ _=>true
abbrev j7:D→D→Option D:=d2I pT fun a b=>.int (a + b)
abbrev a1A:D→D→Option D:=d2I pT fun a b=>.int (a - b)
def a8B(a b:Int):Bool:=decide (a.natAbs < 2 ^ 64) || decide (b.natAbs < 2 ^ 64)
abbrev x8:D→D→Option D:=d2I a8B fun a b=>.int (a * b)
def b4P(_ b:Int):Bool:=decide (0 < b)
abbrev p8:D→D→Option D:=d2I b4P fun a b=>.int (a % b)
def b2B(_ b:Int):Bool:=decide (0 < b) && decide (b < 1073741824)
abbrev G8:D→D→Option D:=d2I b2B fun a b=>.int (a / b)
def b2C(a b:Int):Bool:=decide (0≤b) && decide (b≤1000000) && decide (a.natAbs < 2 ^ 64)
abbrev a3S:D→D→Option D:=d2I b2C fun a b=>.int (a ^ b.toNat)
abbrev dLt:D→D→Option D:=d2I pT fun a b=>.bool (decide (a < b))
abbrev dLe:D→D→Option D:=d2I pT fun a b=>.bool (decide (a≤b))
abbrev dGt:D→D→Option D:=d2I pT fun a b=>.bool (decide (b < a))
abbrev dGe:D→D→Option D:=d2I pT fun a b=>.bool (decide (b≤a))
def a8C(neg:Bool)(a b:D):Option D:=if a.canLay0 && b.canLay0 && decide (a.depth≤60) then some (.bool (neg != aI a b)) else none
abbrev dEq:D→D→Option D:=a8C false
abbrev dNe:D→D→Option D:=a8C true
def isN:D→Bool
 | .none=>true
 | _=>false
def a4J(neg:Bool)(a b:D):Option D:=if isN b then some (.bool (neg != isN a)) else none
def b2D(neg:Bool):D→D→Option D
 | .bool a,.bool b=>some (.bool (neg != (a == b)))
 | _,_=>none
section
variable {X:Cx}
theorem b2E{f:aj→aj→Sem aj}{C:Int→Int→Prop}{p:Int→Int→Bool}{g:Int→Int→Int}(ho:OpR X f (rI C fun i j=>.int (g i j)))(hp:∀i j,p i j=true→C i j):OpS X f (d2I p fun a b=>.int (g a b)):=by
 refine⟨_,ho,fun x y H a b d Q ha hb hg q=>?_⟩;obtain⟨i,j,rfl,rfl,c,rfl⟩:=a1z hg;exact⟨i,j,ha.int_inv,hb.int_inv,hp i j c,q _ (by simp only [imm]) fun _=>den_int⟩
theorem b3V{f:aj→aj→Sem aj}{g:Int→Int→Int}(ho:OpR X f (rI0 fun i j=>.int (g i j))):OpS X f (d2I pT fun a b=>.int (g a b)):=by
 refine⟨_,ho,fun x y H a b d Q ha hb hg q=>?_⟩;obtain⟨i,j,rfl,rfl,c,rfl⟩:=a1z hg;exact⟨i,j,ha.int_inv,hb.int_inv,q _ (by simp only [imm]) fun _=>den_int⟩
theorem a7B{f:aj→aj→Sem aj}{g:Int→Int→Bool}(ho:OpR X f (rI0 fun i j=>.bl (g i j))):OpS X f (d2I pT fun a b=>.bool (g a b)):=by
 refine⟨_,ho,fun x y H a b d Q ha hb hg q=>?_⟩;obtain⟨i,j,rfl,rfl,c,rfl⟩:=a1z hg;exact⟨i,j,ha.int_inv,hb.int_inv,q _ (by simp only [imm]) fun _=>den_bool⟩
theorem u8:OpS X (fg .Add) j7:=b3V b4B
theorem Q8:OpS X (fg .Sub) a1A:=b3V b4C
theorem C2:OpS X (fg .Mult) x8:=b2E b4D fun i j h=>by
 unfold a8B at h;rw [fq] at h;rcases h with h|h
 ·have:=bh h;exact .inl ⟨by lia,by lia⟩
 ·have:=bh h;exact .inr ⟨by lia,by lia⟩
theorem o7:OpS X (fg .Mod) p8:=b2E b4E fun i j h=>bh h
theorem C3:OpS X (fg .FloorDiv) G8:=b2E b2l fun i j h=>by
 unfold b2B at h;rw [aA] at h;exact⟨bh h.1,bh h.2⟩
theorem a1B:OpS X (fg .Pow) a3S:=b2E b4F fun i j h=>by
 unfold b2C at h;rw [aA,aA] at h;exact⟨bh h.1.1,bh h.1.2,bh h.2⟩
theorem a2U:OpS X (bR .Lt) dLt:=a7B b6z
theorem a7C:OpS X (bR .LtE) dLe:=a7B b6A
theorem a9Y:OpS X (bR .Gt) dGt:=a7B b6B
theorem b6K:OpS X (bR .GtE) dGe:=a7B b6C
def b4Q(K:ag)(neg:Bool):R2:=fun x y H Q=>∃d e,Den K H x d∧Den K H y e∧d.canLay0=true∧e.canLay0=true∧d.depth≤60∧Q (.bl (neg != aI d e)) H
theorem a9Z(hu:X.A.units + 64 < dq):OpR X (bR .Eq) (b4Q X.K false):=by
 intro pins s σ H x y v u Q I rx ry h;obtain⟨d,e,h1,h2,c1,c2,hd,q⟩:=h;obtain⟨as,ra⟩:=Den.reads I d c1 h1 rx;obtain⟨bs,rb⟩:=Den.reads I e c2 h2 ry;refine SeqAt.compareEq_reads ra rb c1 c2 (by have:=mZ d.depth e.depth;lia) ?_;exact⟨.bl _,H,I,rfl,by simpa using q⟩
theorem b0a(hu:X.A.units + 64 < dq):OpR X (bR .NotEq) (b4Q X.K true):=by
 intro pins s σ H x y v u Q I rx ry h;obtain⟨d,e,h1,h2,c1,c2,hd,q⟩:=h;obtain⟨as,ra⟩:=Den.reads I d c1 h1 rx;obtain⟨bs,rb⟩:=Den.reads I e c2 h2 ry;refine a6h ra rb c1 c2 (by have:=mZ d.depth e.depth;lia) _ _ _ _ ?_;exact⟨.bl _,H,I,rfl,by simpa using q⟩
theorem b0b(ho:OpR X f (b4Q X.K neg)):OpS X f (a8C neg):=by
 refine⟨_,ho,fun x y H a b d Q ha hb hg q=>?_⟩;unfold a8C at hg;by_cases c:(a.canLay0 && b.canLay0 && decide (a.depth≤60))=true
 ·rw [aE c] at hg;cases hg
  rw [aA,aA] at c;exact⟨a,b,ha,hb,c.1.1,c.1.2,bh c.2,q _ (by simp only [imm]) fun _=>den_bool⟩
 ·rw [aJ c] at hg;cases hg
theorem os_eq(hu:X.A.units + 64 < dq):OpS X (bR .Eq) dEq:=b0b (a9Z hu)
theorem b6L(hu:X.A.units + 64 < dq):OpS X (bR .NotEq) dNe:=b0b (b0a hu)
theorem a3T(h:Den K H x a):decide (x=V.non)=isN a:=by
 cases a with
 | none=>rw [h.none_inv];rfl
 | bool b=>rw [h.bool_inv];rfl
 | int b=>rw [h.int_inv];rfl
 | str b=>rw [h.str_inv];rfl
 | list ds=>obtain⟨a,xs,rfl,_⟩:=h.list_inv;rfl
 | tuple ds=>obtain⟨a,xs,rfl,_⟩:=h.tup_inv;rfl
 | dict kvs=>
  obtain⟨a,es,rfl,_⟩:=h.dict_inv;rfl
theorem b4R:OpS X (bR .Is) (a4J false):=by
 refine⟨_,b4H,fun x y H a b d Q ha hb hg q=>?_⟩;unfold a4J at hg;by_cases c:isN b=true
 ·rw [aE c] at hg;cases hg
  have e:=a3T hb;rw [c] at e;refine⟨bh e,?_⟩;rw [a3T ha];have:=q (.bl (false != isN a)) (by simp only [imm]) fun _=>den_bool
  simpa using this
 ·rw [aJ c] at hg;cases hg
theorem b2F:OpS X (bR .IsNot) (a4J true):=by
 refine⟨_,b2m,fun x y H a b d Q ha hb hg q=>?_⟩;unfold a4J at hg;by_cases c:isN b=true
 ·rw [aE c] at hg;cases hg
  have e:=a3T hb;rw [c] at e;refine⟨bh e,?_⟩;rw [a3T ha];have:=q (.bl (true != isN a)) (by simp only [imm]) fun _=>den_bool
  simpa using this
 ·rw [aJ c] at hg;cases hg
theorem b2G:OpS X (bR .IsNot) (b2D true):=by
 refine⟨_,a8z,fun x y H a b d Q ha hb hg q=>?_⟩;cases a with
 | bool i=>
  cases b with
  | bool j=>
   cases hg
   refine⟨i,j,ha.bool_inv,hb.bool_inv,?_⟩;have:=q (.bl (true != (i == j))) (by simp only [imm]) fun _=>den_bool
   have e:(true != (i == j))=(i != j):=by cases i <;> cases j <;> rfl
   rw [e] at this;exact this
  | _=>cases hg
 | _=>cases hg
end
end VS
namespace VS
open PySem PySem.Spec L2
inductive Md where
 | dead|own (u:Ty)|exc|keys (kt:Bool)|pin (v:V)|fn (Φ:Hp→V→Prop)
def ExcAt(a C:az):HO:=.ext fun h=>∃o,h.get? a=some o∧o.cls=.ref C
def SlotR(K:ag)(H:Hp)(F:List az)(m:Md)(o:Option V)(d:D)(f:List az):Prop:=
 match m with
 | .dead=>f=[]
 | .own u=>∃v,o=some v∧Own K H F u v d f
 | .exc=>f=[]∧∃v,o=some v∧((v=.non∧d=.none)∨∃a C n,v=.ref a∧d=.str n∧cut H F a=some (ExcAt a C)∧jx K cC n=some (some (.ref C)))
 | .keys kt=>f=[]∧∃a es kvs,o=some (.ref a)∧d=.dict kvs∧cut H F a=some (i4 a es)∧es.map (·.1)=kvs.map (·.1)∧∀e∈es,keyOk kt e.1∧Den K (cut H F) e.2.1 e.1
 | .pin v=>f=[]∧o=some v
 | .fn Φ=>f=[]∧∃v,o=some v∧∀H',Same (cut H F) H'→Φ H' v
def StAll(K:ag)(H:Hp)(F:List az):List Md→List D→L2.St→List az→Prop
 | [],ρ,σ,fp=>ρ=[]∧σ=[]∧fp=[]
 | m :: M,ρ,σ,fp=>∃d ρ' o σ' f g,ρ=d :: ρ'∧σ=o :: σ'∧fp=f ++ g∧SlotR K H F m o d f∧StAll K H F M ρ' σ' g
section
variable {K:ag}{H H':Hp}{F F':List az}
theorem SlotR.frame(h:SlotR K H F m o d f)(e:Same (cut H F) (cut H' F'))(k:∀a∈f,H' a=H a):SlotR K H' F' m o d f:=by
 cases m with
 | dead=>exact h
 | own u=>
  obtain⟨v,rfl,h⟩:=h;exact⟨v,rfl,h.frame e u k⟩
 | exc=>
  obtain⟨h0,v,h1,h2⟩:=h;refine⟨h0,v,h1,h2.imp (fun z=>z) fun⟨a,C,n,z1,z2,z3,z4⟩=>⟨a,C,n,z1,z2,e _ _ z3,z4⟩⟩
 | keys kt=>
  obtain⟨h0,a,es,kvs,h1,h2,h3,h4,h5⟩:=h;exact⟨h0,a,es,kvs,h1,h2,e _ _ h3,h4,fun x hx=>⟨(h5 x hx).1,(h5 x hx).2.up e⟩⟩
 | pin v=>exact h
 | fn Φ=>obtain⟨h0,v,h1,h2⟩:=h;exact⟨h0,v,h1,fun H2 e2=>h2 H2 (e.trans e2)⟩
theorem k6(h:SlotR K H F m o d f)(q:StAll K H F M ρ σ g):StAll K H F (m :: M) (d :: ρ) (o :: σ) (f ++ g):=by
 simp only [StAll];exact⟨d,ρ,o,σ,f,g,rfl,rfl,rfl,h,q⟩
theorem a0l:StAll K H F [] [] [] []:=by simp only [StAll];exact⟨trivial,trivial,trivial⟩
theorem StAll.frame:∀{M:List Md} {ρ:List D} {σ:L2.St} {fp:List az},StAll K H F M ρ σ fp→Same (cut H F) (cut H' F')→(∀a∈fp,H' a=H a)→StAll K H' F' M ρ σ fp
 | [],_,_,_,h,_,_=>by simpa only [StAll] using h
 | m :: M,_,_,_,h,e,k=>by
  simp only [StAll] at h;obtain⟨d,ρ,o,σ,f,g,rfl,rfl,rfl,h1,h2⟩:=h;exact k6 (h1.frame e fun a ha=>k a (av _ ha)) (StAll.frame h2 e fun a ha=>k a (ao _ ha))
theorem StAll.len:∀{M:List Md} {ρ:List D} {σ:L2.St} {fp:List az},StAll K H F M ρ σ fp→ρ.length=M.length∧σ.length=M.length
 | [],_,_,_,h=>by simp only [StAll] at h;obtain⟨rfl,rfl,_⟩:=h;exact⟨rfl,rfl⟩
 | m :: M,_,_,_,h=>by
  simp only [StAll] at h;obtain⟨d,ρ,o,σ,f,g,rfl,rfl,rfl,_,h2⟩:=h;obtain⟨a,b⟩:=StAll.len h2;exact⟨by rw [aW,aW,a],by rw [aW,aW,b]⟩
theorem StAll.at_:∀{M:List Md} {ρ:List D} {σ:L2.St} {fp:List az} {i:Nat} {m:Md},StAll K H F M ρ σ fp→M[i]?=some m→
  ∃d o f pre post,ρ[i]?=some d∧σ[i]?=some o∧SlotR K H F m o d f∧fp=pre ++ (f ++ post)∧
   ∀(H':Hp) (F':List az) (m':Md) (d':D) (o':Option V) (f':List az),(∀a∈pre ++ post,H' a=H a)→Same (cut H F) (cut H' F')→SlotR K H' F' m' o' d' f'→
    StAll K H' F' (M.set i m') (ρ.set i d') (σ.set i o') (pre ++ (f' ++ post))
 | [],_,_,_,i,m,_,e=>by simp at e
 | m0 :: M,_,_,_,0,m,h,e=>by
  simp only [StAll] at h;obtain⟨d,ρ,o,σ,f,g,rfl,rfl,rfl,h1,h2⟩:=h;have:m0=m:=by simpa using e
  subst this;refine⟨d,o,f,[],g,rfl,rfl,h1,rfl,fun H' F' m' d' o' f' k e' s=>?_⟩;show StAll K H' F' (m' :: M) (d' :: ρ) (o' :: σ) (f' ++ g);exact k6 s (h2.frame e' k)
 | m0 :: M,_,_,_,i + 1,m,h,e=>by
  simp only [StAll] at h;obtain⟨d,ρ,o,σ,f,g,rfl,rfl,rfl,h1,h2⟩:=h;obtain⟨d1,o1,f1,pre,post,e1,e2,e3,e4,e5⟩:=StAll.at_ (i:=i) h2 (by simpa using e);subst e4;refine⟨d1,o1,f1,f ++ pre,post,by simpa using e1,by simpa using e2,e3,by rw [be],fun H' F' m' d' o' f' k e' s=>?_⟩;rw [be];refine k6 (h1.frame e' fun a ha=>k a ?_) (e5 H' F' m' d' o' f' (fun a ha=>k a ?_) e' s)
  ·rw [be];exact av _ ha
  ·rw [be];exact ao _ ha
end
structure StE (K:ag) (M:List Md) (ρ:List D) (σ:L2.St) (H P:Hp) (F:List az):Prop where
 all:∃G,StAll K H F M ρ σ G∧∀a∈G,a∈F
 lst:∀a∈F,∃ys:MuO,H a=some ys.1
 prot:Same P (cut H F)
structure StR (K:ag) (M:List Md) (ρ:List D) (σ:L2.St) (H P:Hp) (F:List az):Prop where
 all:∃G,StAll K H F M ρ σ G∧G.Nodup∧∀a∈G,a∈F
 lst:∀a∈F,∃ys:MuO,H a=some ys.1
 prot:Same P (cut H F)
section
variable {K:ag}{M:List Md}{ρ:List D}{σ:L2.St}{H H' P:Hp}{F:List az}
theorem StR.toE(h:StR K M ρ σ H P F):StE K M ρ σ H P F:=⟨let⟨G,a,_,b⟩:=h.all;⟨G,a,b⟩,h.lst,h.prot⟩
theorem StE.keep(h:StE K M ρ σ H P F)(e:Same H H'):∀a∈F,H' a=H a:=fun a ha=>by
 obtain⟨ys,q⟩:=h.lst a ha;rw [q,e _ _ q]
theorem StE.lst'(h:StE K M ρ σ H P F)(e:Same H H'):∀a∈F,∃ys:MuO,H' a=some ys.1:=fun a ha=>by
 obtain⟨ys,q⟩:=h.lst a ha;exact⟨ys,e _ _ q⟩
theorem Y5(e:Same H H')(hf:∀a∈fp,H a=none):Same (cut H F) (cut H' (fp ++ F)):=L9 e fun a o ha ko=>by
 rcases aw.mp ko with z|z
 ·rw [hf a z] at ha;cases ha
 ·exact z
theorem StE.more(h:StE K M ρ σ H P F)(e:Same H H')(hf:∀a∈fp,H a=none)(hl:∀a∈fp,∃ys:MuO,H' a=some ys.1):StE K M ρ σ H' P (fp ++ F):=by
 obtain⟨G,h1,h3⟩:=h.all;have hc:Same (cut H F) (cut H' (fp ++ F)):=Y5 e hf;refine⟨⟨G,h1.frame hc fun a ha=>h.keep e a (h3 a ha),fun a ha=>ao _ (h3 a ha)⟩,fun a ha=>?_,h.prot.trans hc⟩;rcases aw.mp ha with z|z
 ·exact hl a z
 ·exact h.lst' e a z
theorem StE.grow(h:StE K M ρ σ H P F)(e:Same H H'):StE K M ρ σ H' P F:=h.more (fp:=[]) e (fun a ha=>(nomatch ha)) fun a ha=>(nomatch ha)
theorem StR.more(h:StR K M ρ σ H P F)(e:Same H H')(hf:∀a∈fp,H a=none)(hl:∀a∈fp,∃ys:MuO,H' a=some ys.1):StR K M ρ σ H' P (fp ++ F):=by
 obtain⟨G,h1,h2,h3⟩:=h.all;have S:=h.toE.more e hf hl;exact⟨⟨G,h1.frame (Y5 e hf) fun a ha=>h.toE.keep e a (h3 a ha),h2,fun a ha=>ao _ (h3 a ha)⟩,S.lst,S.prot⟩
theorem StR.grow(h:StR K M ρ σ H P F)(e:Same H H'):StR K M ρ σ H' P F:=h.more (fp:=[]) e (fun a ha=>(nomatch ha)) fun a ha=>(nomatch ha)
theorem v6(h:ρ[i]?=some d):ρ.getD i x=d:=by rw [ai,h];rfl
theorem StE.get(h:StE K M ρ σ H P F)(hm:M[i]?=some (.own u)):∃v f,σ[i]?=some (some v)∧Own K H F u v (ρ.getD i .none) f∧∀a∈f,a∈F:=by
 obtain⟨G,h1,h3⟩:=h.all;obtain⟨d,o,f,pre,post,e1,e2,⟨v,rfl,q⟩,e4,_⟩:=h1.at_ hm;refine⟨v,f,e2,by rw [v6 e1];exact q,fun a ha=>h3 a ?_⟩;rw [e4];exact ao _ (av _ ha)
theorem StAll.pick(h:StAll K H F M ρ σ G)(hG:∀a∈G,a∈F):∀js:List Nat,∃G',StAll K H F (js.map fun j=>M.getD j .dead) (js.map fun j=>ρ.getD j .none) (js.map fun j=>(σ[j]?).getD none) G'∧∀a∈G',a∈F
 | []=>⟨[],a0l,fun a ha=>(nomatch ha)⟩
 | j :: js=>by
  obtain⟨G',q,hq⟩:=StAll.pick h hG js;cases e:M[j]? with
  | none=>
   refine⟨[] ++ G',?_,fun a ha=>hq a (by simpa using ha)⟩;have:M.getD j .dead=.dead:=by rw [ai,e];rfl
   rw [aB,aB,aB,this];exact k6 rfl q
  | some m=>
   obtain⟨d,o,f,pre,post,e1,e2,e3,e4,_⟩:=h.at_ e;refine⟨f ++ G',?_,fun a ha=>?_⟩
   ·rw [aB,aB,aB,show M.getD j .dead=m by rw [ai,e];rfl,v6 e1,e2];exact k6 e3 q
   ·rcases aw.mp ha with z|z
    ·exact hG a (by rw [e4];exact ao _ (av _ z))
    ·exact hq a z
theorem M3{pre f post:List az}(h:(pre ++ (f ++ post)).Nodup):(pre ++ post).Nodup:=
 h.sublist (List.Sublist.append (List.Sublist.refl _) (iU _ _))
theorem mem_mid{pre f post:List az}{a:az}(h:a∈pre ++ post):a∈pre ++ (f ++ post):=by
 rcases aw.mp h with h|h
 ·exact av _ h
 ·exact ao _ (ao _ h)
theorem a0m{pre f post:List az}(h:(pre ++ post).Nodup)(hf:f.Nodup)(d:∀a∈f,a∉pre ++ post):(pre ++ (f ++ post)).Nodup:=by
 rw [bG] at h ⊢;obtain⟨h1,h2,h3⟩:=h;refine⟨h1,?_,fun a ha b hb=>?_⟩
 ·rw [bG];exact⟨hf,h2,fun a ha b hb e=>d a ha (e ▸ ao _ hb)⟩
 ·rcases aw.mp hb with z|z
  ·intro e;exact d b z (e ▸ av _ ha)
  ·exact h3 a ha b z
theorem a3U{pre f post:List az}{a:az}(h:a∈pre ++ (f ++ post)):a∈f∨a∈pre ++ post:=by
 rcases aw.mp h with h|h
 ·exact .inr (av _ h)
 ·rcases aw.mp h with h|h
  ·exact .inl h
  ·exact .inr (ao _ h)
theorem a0n{pre f post:List az}(h:(pre ++ (f ++ post)).Nodup):∀a∈f,a∉pre ++ post:=fun a ha z=>by
 rw [bG,bG] at h;rcases aw.mp z with z|z
 ·exact h.2.2 a z a (av _ ha) rfl
 ·exact h.2.1.2.2 a ha a z rfl
theorem StR.set{H1:Hp}{i:Nat}{m:Md}{u:Ty}{v:V}{d:D}{fp:List az}(h:StR K M ρ σ H P F)(hm:M[i]?=some m)(e:Same H H1)(hv:Own K H1 (fp ++ F) u v d fp)(hn:fp.Nodup)(hf:∀a∈fp,H a=none) :
  StR K (M.set i (.own u)) (ρ.set i d) (σ.set i (some v)) H1 P (fp ++ F):=by
 obtain⟨G,h1,h2,h3⟩:=h.all;have S:=h.more e hf (hv.lst u);obtain⟨d0,o,f,pre,post,e1,e2,e3,e4,e5⟩:=h1.at_ hm;have jT:=h2;rw [e4] at jT;have hG:∀a∈pre ++ post,a∈F:=fun a ha=>h3 a (by rw [e4];exact mem_mid ha)
 have hc:Same (cut H F) (cut H1 (fp ++ F)):=L9 e fun a o ha ko=>by
  rcases aw.mp ko with z|z
  ·rw [hf a z] at ha;cases ha
  ·exact z
 refine⟨⟨pre ++ (fp ++ post),e5 H1 _ (.own u) d (some v) fp (fun a ha=>h.toE.keep e a (hG a ha)) hc ⟨v,rfl,hv⟩,a0m (M3 jT) hn fun a ha z=>?_,fun a ha=>?_⟩,S.lst,S.prot⟩
 ·obtain⟨ys,q⟩:=h.lst a (hG a z);rw [hf a ha] at q;cases q
 ·rcases a3U ha with z|z
  ·exact av _ z
  ·exact ao _ (hG a z)
theorem StR.kill{i:Nat}{m:Md}(h:StR K M ρ σ H P F)(hm:M[i]?=some m)(d:D)(o:Option V):StR K (M.set i .dead) (ρ.set i d) (σ.set i o) H P F:=by
 obtain⟨G,h1,h2,h3⟩:=h.all;obtain⟨d0,o0,f,pre,post,e1,e2,e3,e4,e5⟩:=h1.at_ hm;rw [e4] at h2;exact⟨⟨pre ++ ([] ++ post),e5 H F .dead d o [] (fun _ _=>rfl) (Same.refl _) rfl,M3 h2,fun a ha=>h3 a (by rw [e4];exact mem_mid ha)⟩,h.lst,h.prot⟩
theorem set_same{α:Type}{l:List α}{i:Nat}{x:α}(h:l[i]?=some x):l.set i x=l:=fE fun j=>by
 rw [List.getElem?_set]
 split
 ·next hj=>
  subst hj
  split
  ·exact h.symm
  ·next hh=>exact (cT (by lia)).symm
 ·rfl
theorem StR.dead{i:Nat}{m:Md}(h:StR K M ρ σ H P F)(hm:M[i]?=some m):StR K (M.set i .dead) ρ σ H P F:=by
 obtain⟨G,h1,_⟩:=h.all;obtain⟨d0,o0,f,pre,post,e1,e2,_⟩:=h1.at_ hm;have:=h.kill hm d0 o0
 rwa [set_same e1,set_same e2] at this
theorem Own.freeze(h:Own K H F u v d fp)(hs:∀a∈F',a∈F)(hd:∀a∈fp,a∉F'):Own K H F' .f v d []:=by
 have key:∀(u:Ty) {v:V} {d:D} {fp:List az},Own K H F u v d fp→(∀a∈fp,a∉F')→Den K (cut H F') v d:=by
  intro u;refine Ty.rec (motive_1:=fun u=>∀{v:V} {d:D} {fp:List az},Own K H F u v d fp→(∀a∈fp,a∉F')→Den K (cut H F') v d)
   (motive_2:=fun us=>∀{xs:List V} {ds:List D} {fp:List az},OwnTs K H F us xs ds fp→(∀a∈fp,a∉F')→DenAll K (cut H F') xs ds) ?_ ?_ ?_ ?_ ?_ ?_ ?_ u
  ·intro v d fp h _;simp only [Own] at h;exact h.2.2.up (J6 hs)
  ·intro v d fp h _;simp only [Own] at h;exact h.2.up (J6 hs)
  ·intro u ih v d fp h hd;simp only [Own] at h;rcases h with⟨_,_,h⟩|⟨a,xs,ds,fs,rfl,h1,rfl,rfl,h2⟩
   ·exact h.up (J6 hs)
   ·refine den_list (.inl (.inl (w9 (hd a aq) h1))) (ListAll.den (R:=fun v d f=>Own K H F u v d f∧∀a∈f,a∉F') (fun v d f q=>ih q.1 q.2) (h2.imp fun v d f hf _ q=>⟨q,fun b hb=>hd b (ah _ (hf b hb))⟩))
  ·intro us ih v d fp h hd;simp only [Own] at h;obtain⟨a,xs,ds,rfl,h1,h0,rfl,h2⟩:=h;exact den_tup (SqT.of (w9 (fun z=>h0 (hs a z)) h1)) (ih h2 hd)
  ·intro kt u ih v d fp h hd;simp only [Own] at h;obtain⟨a,es,ds,fs,rfl,h1,rfl,rfl,h3,h2⟩:=h;exact a2T (w9 (hd a aq) h1) (fun e he=>(h3.2 e he).2.up (J6 hs)) (ListAll.den (R:=fun v d f=>Own K H F u v d f∧∀a∈f,a∉F') (fun v d f q=>ih q.1 q.2) (h2.imp fun v d f hf _ q=>⟨q,fun b hb=>hd b (ah _ (hf b hb))⟩))
  ·intro xs ds fp h _;simp only [OwnTs] at h;obtain⟨rfl,rfl,_⟩:=h;exact denAll_nil
  ·intro u us va u_ xs ds fp h hd;simp only [OwnTs] at h;obtain⟨v,r,d,e,f,g,rfl,rfl,rfl,h1,h2⟩:=h;exact denAll_cons (va h1 fun a ha=>hd a (av _ ha)) (u_ h2 fun a ha=>hd a (ao _ ha))
 simp only [Own];exact⟨trivial,key u h hd⟩
theorem StR.freeze{i:Nat}{u:Ty}(h:StR K M ρ σ H P F)(hm:M[i]?=some (.own u)):∃F',StR K (M.set i (.own .f)) ρ σ H P F':=by
 obtain⟨G,h1,h2,h3⟩:=h.all;obtain⟨d,o,f,pre,post,e1,e2,⟨v,rfl,e3⟩,e4,e5⟩:=h1.at_ hm;rw [e4] at h2;have lW:∀a∈F.filter (fun a=>decide (a∉f)),a∈F:=fun a ha=>(fm.mp ha).1
 have vC:∀a∈f,a∉F.filter (fun a=>decide (a∉f)):=fun a ha z=>absurd ha (bh (fm.mp z).2)
 have hc:Same (cut H F) (cut H (F.filter (fun a=>decide (a∉f)))):=J6 lW;have q:=e5 H _ (.own .f) d (some v) [] (fun _ _=>rfl) hc ⟨v,rfl,e3.freeze lW vC⟩;rw [set_same e1,set_same e2] at q;refine⟨_,⟨_,q,M3 h2,fun a ha=>fm.mpr ⟨h3 a (by rw [e4];exact mem_mid ha),aO fun z=>a0n h2 a z ha⟩⟩,fun a ha=>h.lst a (lW a ha),h.prot.trans hc⟩
end
end VS
namespace VS
open PySem PySem.Spec L2
inductive Cat where
 | new (u:Ty)|bor (u:Ty)|tmp
def ResR(K:ag)(c:Cat)(H H':Hp)(F:List az)(v:V)(d:D):Prop:=
 match c with
 | .new u=>∃fp,Own K H' (fp ++ F) u v d fp∧fp.Nodup∧∀a∈fp,H a=none
 | .bor u=>∃fp,Own K H' F u v d fp∧∀a∈fp,a∈F
 | .tmp=>Den K H' v d
section
variable {K:ag}{c:Cat}{H H0 H' H1 H2:Hp}{F:List az}{v:V}{d:D}
theorem ResR.den(r:ResR K c H H' F v d):Den K H' v d:=by
 cases c with
 | new u=>obtain⟨fp,h,_⟩:=r;exact h.den u
 | bor u=>obtain⟨fp,h,_⟩:=r;exact h.den u
 | tmp=>exact r
theorem Own.grow(h:Own K H1 F u v d fp)(e:Same H1 H2):Own K H2 F u v d fp:=
 h.frame (F5 e) u fun a ha=>by obtain⟨ys,q⟩:=h.lst u a ha;rw [q,e _ _ q]
theorem ResR.up(r:ResR K c H H1 F v d)(e:Same H1 H2):ResR K c H H2 F v d:=by
 cases c with
 | new u=>obtain⟨fp,h,q⟩:=r;exact⟨fp,h.grow e,q⟩
 | bor u=>obtain⟨fp,h,q⟩:=r;exact⟨fp,h.grow e,q⟩
 | tmp=>exact Den.up r e
theorem ResR.early(r:ResR K c H H1 F v d)(e:Same H0 H):ResR K c H0 H1 F v d:=by
 cases c with
 | new u=>obtain⟨fp,h,n,q⟩:=r;exact⟨fp,h,n,fun a ha=>e.free (q a ha)⟩
 | bor u=>exact r
 | tmp=>exact r
theorem G5(hi:imm d=true)(hd:Den K H' v d)(hF:∀a∈F,∃ys:MuO,H' a=some ys.1):ResR K (.new .i) H H' F v d:=by
 refine⟨[],?_,bw,fun a ha=>(nomatch ha)⟩;simp only [Own,cu];exact⟨trivial,hi,hd.imm_out hF d hi⟩
theorem P7(h:Own K H F .i v d fp):fp=[]∧imm d=true∧Den K (cut H F) v d:=by simpa only [Own] using h
theorem a7D(h:Own K H F .f v d fp):fp=[]∧Den K (cut H F) v d:=by simpa only [Own] using h
end
abbrev EvE:=List D→Option D
abbrev EvT:=List D→Option Bool
def spE(K:ag)(M:List Md)(f:EvE)(c:Cat):TE:=fun σ H Q=>∃(ρ:List D) (P:Hp) (F:List az) (d:D),StE K M ρ σ H P F∧f ρ=some d∧∀v H',Same H H'→ResR K c H H' F v d→Q v H'
def PX(X:Cx)(M:List Md)(e:Expr)(f:EvE)(c:Cat):Prop:=PE X e (spE X.K M f c)
theorem PX.out{X:Cx}{M:List Md}{e:Expr}{f:EvE}{c:Cat}(h:PX X M e f c) :
  ∃t,PE X e t∧∀(ρ:List D) (σ:L2.St) (H P:Hp) (F:List az) (d:D) (Q:VK),StE X.K M ρ σ H P F→f ρ=some d→(∀v H',Same H H'→ResR X.K c H H' F v d→Q v H')→t σ H Q:=
 ⟨_,h,fun ρ _ _ P F d _ S hf q=>⟨ρ,P,F,d,S,hf,q⟩⟩
theorem PX.mk{X:Cx}{M:List Md}{e:Expr}{f:EvE}{c:Cat}
  (h:∃t,PE X e t∧∀(ρ:List D) (σ:L2.St) (H P:Hp) (F:List az) (d:D) (Q:VK),StE X.K M ρ σ H P F→f ρ=some d→(∀v H',Same H H'→ResR X.K c H H' F v d→Q v H')→t σ H Q):PX X M e f c:=by
 obtain⟨t,p,q⟩:=h;exact fun pins s σ H Q I ⟨ρ,P,F,d,S,hf,z⟩=>p pins s σ H Q I (q ρ σ H P F d Q S hf z)
def spT(K:ag)(M:List Md)(g:EvT):TT:=fun σ H Q=>∃(ρ:List D) (P:Hp) (F:List az) (b:Bool),StE K M ρ σ H P F∧g ρ=some b∧∀H',Same H H'→Q b H'
def PTX(X:Cx)(M:List Md)(e:Expr)(g:EvT):Prop:=PT X e (spT X.K M g)
theorem PTX.out{X:Cx}{M:List Md}{e:Expr}{g:EvT}(h:PTX X M e g) :
  ∃t,PT X e t∧∀(ρ:List D) (σ:L2.St) (H P:Hp) (F:List az) (b:Bool) (Q:Bool→Hp→Prop),StE X.K M ρ σ H P F→g ρ=some b→(∀H',Same H H'→Q b H')→t σ H Q:=
 ⟨_,h,fun ρ _ _ P F b _ S hf q=>⟨ρ,P,F,b,S,hf,q⟩⟩
theorem PTX.mk{X:Cx}{M:List Md}{e:Expr}{g:EvT}
  (h:∃t,PT X e t∧∀(ρ:List D) (σ:L2.St) (H P:Hp) (F:List az) (b:Bool) (Q:Bool→Hp→Prop),StE X.K M ρ σ H P F→g ρ=some b→(∀H',Same H H'→Q b H')→t σ H Q):PTX X M e g:=by
 obtain⟨t,p,q⟩:=h;exact fun pins s σ H Q I ⟨ρ,P,F,d,S,hf,z⟩=>p pins s σ H Q I (q ρ σ H P F d Q S hf z)
def PWX(X:Cx)(M:List Md)(e:Expr)(g:EvT):Prop:=PW X e (spT X.K M g)
theorem PWX.out{X:Cx}{M:List Md}{e:Expr}{g:EvT}(h:PWX X M e g) :
  ∃t,PW X e t∧∀(ρ:List D) (σ:L2.St) (H P:Hp) (F:List az) (b:Bool) (Q:Bool→Hp→Prop),StE X.K M ρ σ H P F→g ρ=some b→(∀H',Same H H'→Q b H')→t σ H Q:=
 ⟨_,h,fun ρ _ _ P F b _ S hf q=>⟨ρ,P,F,b,S,hf,q⟩⟩
theorem PWX.mk{X:Cx}{M:List Md}{e:Expr}{g:EvT}
  (h:∃t,PW X e t∧∀(ρ:List D) (σ:L2.St) (H P:Hp) (F:List az) (b:Bool) (Q:Bool→Hp→Prop),StE X.K M ρ σ H P F→g ρ=some b→(∀H',Same H H'→Q b H')→t σ H Q):PWX X M e g:=by
 obtain⟨t,p,q⟩:=h;exact fun whole pins s σ H Q I ⟨ρ,P,F,d,S,hf,z⟩=>p whole pins s σ H Q I (q ρ σ H P F d Q S hf z)
abbrev EvA:=List D→Option (List D)
def PAX(X:Cx)(M:List Md)(es:List Expr)(f:EvA):Prop:=
 ∃t,PA X es t∧∀(ρ:List D) (σ:L2.St) (H P:Hp) (F:List az) (ds:List D) (Q:List V→Hp→Prop),StE X.K M ρ σ H P F→f ρ=some ds→(∀vs H',Same H H'→DenAll X.K H' vs ds→Q vs H')→t σ H Q
def PAN(X:Cx)(M:List Md)(es:List Expr)(f:EvA)(us:List Ty):Prop:=
 ∃t,PA X es t∧∀(ρ:List D) (σ:L2.St) (H P:Hp) (F:List az) (ds:List D) (Q:List V→Hp→Prop),StE X.K M ρ σ H P F→f ρ=some ds→
  (∀vs H' fp,Same H H'→OwnTs X.K H' (fp ++ F) us vs ds fp→fp.Nodup→(∀a∈fp,H a=none)→Q vs H')→t σ H Q
def a7(i:Nat):EvE:=fun ρ=>some (ρ.getD i .none)
def eC(d:D):EvE:=fun _=>some d
def e1(g:D→Option D)(a:EvE):EvE:=fun ρ=>(a ρ).bind g
def e2(g:D→D→Option D)(a b:EvE):EvE:=fun ρ=>(a ρ).bind fun x=>(b ρ).bind fun y=>g x y
def asB:D→Option Bool
 | .bool b=>some b
 | _=>none
def a2B(a b:EvE):EvE:=fun ρ=>(a ρ).bind fun x=>(asB x).bind fun k=>if k then b ρ else some (.bool false)
def eOr(a b:EvE):EvE:=fun ρ=>(a ρ).bind fun x=>(asB x).bind fun k=>if k then some (.bool true) else b ρ
def b0c(a:EvE):EvE:=fun ρ=>(a ρ).bind fun x=>(asB x).bind fun k=>some (.bool !k)
def eIf(c:EvT)(a b:EvE):EvE:=fun ρ=>(c ρ).bind fun k=>if k then a ρ else b ρ
def eCh(g g':D→D→Option D)(a b c:EvE):EvE:=fun ρ=>(a ρ).bind fun x=>(b ρ).bind fun y=>(g x y).bind fun z=>(asB z).bind fun k=>if k then (c ρ).bind fun w=>g' y w else some (.bool false)
def tr:D→Option Bool
 | .none=>some false
 | .bool b=>some b
 | .int i=>some (i != 0)
 | .str x=>if x.length≤aT then some ((x.length:Int) != 0) else none
 | .list ds=>some !ds.isEmpty
 | .tuple ds=>some !ds.isEmpty
 | .dict _=>none
def tV(a:EvE):EvT:=fun ρ=>(a ρ).bind tr
def tB(a:EvE):EvT:=fun ρ=>(a ρ).bind asB
def tNo(a:EvT):EvT:=fun ρ=>(a ρ).bind fun k=>some !k
def tAn(a b:EvT):EvT:=fun ρ=>(a ρ).bind fun k=>if k then b ρ else some false
def a2C(a b:EvT):EvT:=fun ρ=>(a ρ).bind fun k=>if k then some true else b ρ
def e7:List D→Option (List D):=fun _=>some []
def a8(a:EvE)(r:List D→Option (List D)):List D→Option (List D):=fun ρ=>(a ρ).bind fun x=>(r ρ).bind fun xs=>some (x :: xs)
theorem M4(h:asB d=some k):d=.bool k:=by
 cases d with
 | bool b=>cases h;rfl
 | _=>cases h
theorem bnd{α β:Type}{o:Option α}{f:α→Option β}{b:β}(h:o.bind f=some b):∃a,o=some a∧f a=some b:=Option.bind_eq_some_iff.mp h
section
variable {X:Cx}{M:List Md}{a b e e':Expr}{es rest:List Expr}{f g fa fb fc:EvE}{ga gb:EvT}{c ca cb cc:Cat}{u:Ty}{us:List Ty}{pos:eM}
theorem PX.imp(h:PX X M e f c)(k:∀(K:ag) (H H':Hp) (F:List az) (v:V) (d:D),(∀a∈F,∃ys:MuO,H a=some ys.1)→Same H H'→ResR K c H H' F v d→ResR K c' H H' F v d):PX X M e f c':=by
 obtain⟨t,p,q⟩:=h.out;exact .mk ⟨t,p,fun ρ σ H P F d Q S hf z=>q ρ σ H P F d Q S hf fun v H' e r=>z v H' e (k _ _ _ _ _ _ S.lst e r)⟩
theorem PX.newf(h:PX X M e f (.bor .f)):PX X M e f (.new .f):=h.imp fun K H H' F v d _ _ ⟨fp,o,_⟩=>by
 obtain⟨rfl,_⟩:=a7D o;exact⟨[],o,bw,fun a ha=>(nomatch ha)⟩
theorem PX.newi(h:PX X M e f (.bor .i)):PX X M e f (.new .i):=h.imp fun K H H' F v d _ _ ⟨fp,o,_⟩=>by
 obtain⟨rfl,_⟩:=P7 o;exact⟨[],o,bw,fun a ha=>(nomatch ha)⟩
theorem PX.itol(h:PX X M e f (.new .i)):PX X M e f (.new (.l u)):=h.imp fun K H H' F v d _ _ ⟨fp,o,n,z⟩=>by
 obtain⟨rfl,w,q⟩:=P7 o;refine⟨[],?_,n,z⟩;simp only [Own];exact .inl ⟨trivial,w,q⟩
theorem PX.frz(h:PX X M e f (.new u)):PX X M e f (.new .f):=h.imp fun K H H' F v d hF _ ⟨fp,o,n,z⟩=>by
 refine⟨[],o.freeze (fun a ha=>ao _ (by simpa using ha)) (fun a ha rq=>?_),bw,fun a ha=>(nomatch ha)⟩;obtain⟨ys,q⟩:=hF a (by simpa using rq);rw [z a ha] at q;cases q
theorem p9(i:Nat)(hN:X.N[i]?=some x:=by rfl)(hv:Vis X.env.scope x:=by first|exact bO rfl|exact bQ (bO rfl)|exact bQ (bQ rfl))(hd:(x == ("__debug__":bM))=false:=by decide)
  (hW:(x == ("__classdict__":bM))=false:=by decide) (hm:M[i]?=some (.own u):=by rfl):PX X M (.Name x pos) (a7 i) (.bor u):=by
 refine .mk ⟨_,A5 hN hv hd hW,fun ρ σ H P F d Q S hf q=>?_⟩;cases hf
 obtain⟨v,fp,e,o,sub⟩:=S.get hm;exact⟨v,e,q v H (Same.refl _) ⟨fp,o,sub⟩⟩
theorem Y6(h:PE X e (tC v))(hi:imm d=true)(hd:∀H,Den X.K H v d):PX X M e (eC d) (.new .i):=by
 refine .mk ⟨_,h,fun ρ σ H P F d' Q S hf q=>?_⟩;cases hf
 exact q v H (Same.refl _) (G5 hi (hd H) S.lst)
theorem c7{i j}:PX X M (.Constant (.int i) j pos) (eC (.int i)) (.new .i):=Y6 a9D (by simp only [imm]) fun _=>den_int
theorem M5{k j}:PX X M (.Constant (.bool k) j pos) (eC (.bool k)) (.new .i):=Y6 b6p (by simp only [imm]) fun _=>den_bool
theorem a3V{j}:PX X M (.Constant .none j pos) (eC .none) (.new .i):=Y6 b4n (by simp only [imm]) fun _=>den_none
theorem b2H(hm:∃t,X.mg x=some (.int i t))(hg:Gl X x:=by rfl)(hd:(x == ("__debug__":bM))=false:=by decide):PX X M (.Name x pos) (eC (.int i)) (.new .i):=by
 obtain⟨t,hm⟩:=hm;exact Y6 (b2g (v:=.int i) hg hm ⟨_,rfl⟩ hd) (by simp only [imm]) fun _=>den_int
theorem G9{g:D→D→Option D}{ρ:List D}{d:D}(h:e2 g fa fb ρ=some d):∃x y,fa ρ=some x∧fb ρ=some y∧g x y=some d:=by
 obtain⟨x,h1,h⟩:=bnd h;obtain⟨y,h2,h⟩:=bnd h;exact⟨x,y,h1,h2,h⟩
theorem f8{g:D→D→Option D}(ho:OpS X (fg op) g)(ha:PX X M a fa ca)(hb:PX X M b fb cb):PX X M (.BinOp a op b pos) (e2 g fa fb) (.new .i):=by
 obtain⟨r,hr,hs⟩:=ho;obtain⟨ta,pa,qa⟩:=ha.out;obtain⟨tb,pb,qb⟩:=hb.out;refine .mk ⟨_,b3S hr pa pb,fun ρ σ H P F d Q S hf q=>?_⟩;obtain⟨x,y,h1,h2,h3⟩:=G9 hf;exact qa ρ σ H P F x _ S h1 fun v H1 e1 r1=>qb ρ σ H1 P F y _ (S.grow e1) h2 fun w H2 e2 r2=>hs v w H2 x y d Q (r1.den.up e2) r2.den h3 fun z hi hd=>q z H2 (e1.trans e2) (G5 hi (hd H2) (S.lst' (e1.trans e2)))
theorem a0o{g:D→D→Option D}(ho:OpS X (bR op) g)(ha:PX X M a fa ca)(hb:PX X M b fb cb)(hm:iu op b=false:=by first|exact a9M _|with_unfolding_all rfl):PX X M (.Compare a [op] [b] pos) (e2 g fa fb) (.new .i):=by
 obtain⟨r,hr,hs⟩:=ho;obtain⟨ta,pa,qa⟩:=ha.out;obtain⟨tb,pb,qb⟩:=hb.out;refine .mk ⟨_,b2n hr pa pb hm,fun ρ σ H P F d Q S hf q=>?_⟩;obtain⟨x,y,h1,h2,h3⟩:=G9 hf;exact qa ρ σ H P F x _ S h1 fun v H1 e1 r1=>qb ρ σ H1 P F y _ (S.grow e1) h2 fun w H2 e2 r2=>hs v w H2 x y d Q (r1.den.up e2) r2.den h3 fun z hi hd=>q z H2 (e1.trans e2) (G5 hi (hd H2) (S.lst' (e1.trans e2)))
theorem l9{op:CmpOp}{g:D→D→Option D}(ho:OpS X (bR op) g)(ha:PX X M a fa ca)(hb:PX X M b fb cb)(hm:iu op b=false:=by first|exact a9M _|with_unfolding_all rfl):PTX X M (.Compare a [op] [b] pos) (tB (e2 g fa fb)):=by
 obtain⟨r,hr,hs⟩:=ho;obtain⟨ta,pa,qa⟩:=ha.out;obtain⟨tb,pb,qb⟩:=hb.out;refine .mk ⟨_,b2o hr pa pb hm,fun ρ σ H P F k Q S hf q=>?_⟩;obtain⟨d,hf,hk⟩:=bnd hf;cases M4 hk
 obtain⟨x,y,h1,h2,h3⟩:=G9 hf;exact qa ρ σ H P F x _ S h1 fun v H1 e1 r1=>qb ρ σ H1 P F y _ (S.grow e1) h2 fun w H2 e2 r2=>hs v w H2 x y _ _ (r1.den.up e2) r2.den h3 fun z hi hd=>⟨k,(hd H2).bool_inv,q H2 (e1.trans e2)⟩
theorem b0d{op mM:CmpOp}{g g':D→D→Option D}{c0:Expr}(ho:OpS X (bR op) g)(kH:OpS X (bR mM) g')(ha:PX X M a fa ca)(hb:PX X M b fb cb)(hc:PX X M c0 fc cc)(hm:xx [op,mM] [b,c0]=false:=by with_unfolding_all rfl) :
  PX X M (.Compare a [op,mM] [b,c0] pos) (eCh g g' fa fb fc) (.new .i):=by
 obtain⟨r,hr,hs⟩:=ho;obtain⟨r',sE,ou⟩:=kH;obtain⟨ta,pa,qa⟩:=ha.out;obtain⟨tb,pb,qb⟩:=hb.out;obtain⟨tc,pc,qc⟩:=hc.out;refine .mk ⟨_,a9O hr sE pa pb pc hm,fun ρ σ H P F d Q S hf q=>?_⟩;obtain⟨x,h1,hf⟩:=bnd hf;obtain⟨y,h2,hf⟩:=bnd hf;obtain⟨z,h3,hf⟩:=bnd hf;obtain⟨k,h4,hf⟩:=bnd hf;cases M4 h4
 refine qa ρ σ H P F x _ S h1 fun v H1 e1 r1=>qb ρ σ H1 P F y _ (S.grow e1) h2 fun w H2 e2 r2=>hs v w H2 x y _ _ (r1.den.up e2) r2.den h3 fun z hi hd=>⟨k,(hd H2).bool_inv,?_⟩
 cases k with
 | false=>
  have oT:d=.bool false:=(aP hf).symm;subst oT;exact a3M (q _ H2 (e1.trans e2) (G5 (by simp only [imm]) den_bool (S.lst' (e1.trans e2))))
 | true=>
  obtain⟨w',h5,hf⟩:=bnd (show (fc ρ).bind (fun w=>g' y w)=some d from hf);exact a3N (qc ρ σ H2 P F w' _ (S.grow (e1.trans e2)) h5 fun w3 H3 e3 r3=>ou w w3 H3 y w' d Q (r2.den.up e3) r3.den hf fun z hi hd=>q z H3 ((e1.trans e2).trans e3) (G5 hi (hd H3) (S.lst' ((e1.trans e2).trans e3))))
theorem a2V{op mM:CmpOp}{g g':D→D→Option D}{c0:Expr}(ho:OpS X (bR op) g)(kH:OpS X (bR mM) g')(ha:PX X M a fa ca)(hb:PX X M b fb cb)(hc:PX X M c0 fc cc)(hm:xx [op,mM] [b,c0]=false:=by with_unfolding_all rfl) :
  PTX X M (.Compare a [op,mM] [b,c0] pos) (tB (eCh g g' fa fb fc)):=by
 obtain⟨r,hr,hs⟩:=ho;obtain⟨r',sE,ou⟩:=kH;obtain⟨ta,pa,qa⟩:=ha.out;obtain⟨tb,pb,qb⟩:=hb.out;obtain⟨tc,pc,qc⟩:=hc.out;refine .mk ⟨_,a9P hr sE pa pb pc hm,fun ρ σ H P F k0 Q S hf q=>?_⟩;obtain⟨d,hf,hk⟩:=bnd hf;cases M4 hk
 obtain⟨x,h1,hf⟩:=bnd hf;obtain⟨y,h2,hf⟩:=bnd hf;obtain⟨z,h3,hf⟩:=bnd hf;obtain⟨k,h4,hf⟩:=bnd hf;cases M4 h4
 refine qa ρ σ H P F x _ S h1 fun v H1 e1 r1=>qb ρ σ H1 P F y _ (S.grow e1) h2 fun w H2 e2 r2=>hs v w H2 x y _ _ (r1.den.up e2) r2.den h3 fun z hi hd=>⟨k,(hd H2).bool_inv,?_⟩
 cases k with
 | false=>
  have oT:k0=false:=by injection (aP hf).symm
  subst oT;exact a3M ⟨false,rfl,q H2 (e1.trans e2)⟩
 | true=>
  obtain⟨w',h5,hf⟩:=bnd (show (fc ρ).bind (fun w=>g' y w)=some (.bool k0) from hf);exact a3N (qc ρ σ H2 P F w' _ (S.grow (e1.trans e2)) h5 fun w3 H3 e3 r3=>ou w w3 H3 y w' _ _ (r2.den.up e3) r3.den hf fun z hi hd=>⟨k0,(hd H3).bool_inv,q H3 ((e1.trans e2).trans e3)⟩)
theorem a0p(h:PX X M a f c):PX X M (.BoolOp op [a] pos) f c:=by
 obtain⟨t,p,q⟩:=h.out;exact .mk ⟨t,b4r p,q⟩
theorem X0(ha:PX X M a fa ca)(hb:PX X M (.BoolOp .And (b :: rest) pos) fb (.new .i)):PX X M (.BoolOp .And (a :: b :: rest) pos) (a2B fa fb) (.new .i):=by
 obtain⟨ta,pa,qa⟩:=ha.out;obtain⟨tb,pb,qb⟩:=hb.out;refine .mk ⟨_,b4s pa pb,fun ρ σ H P F d Q S hf q=>?_⟩;obtain⟨x,h1,hf⟩:=bnd hf;obtain⟨k,h2,hf⟩:=bnd hf;cases M4 h2
 refine qa ρ σ H P F _ _ S h1 fun v H1 e1 r1=>⟨k,r1.den.bool_inv,?_⟩
 cases k with
 | false=>
  have oT:d=.bool false:=(aP hf).symm;subst oT;exact a3M (q _ H1 e1 (G5 (by simp only [imm]) den_bool (S.lst' e1)))
 | true=>exact a3N (qb ρ σ H1 P F d Q (S.grow e1) hf fun w H2 e2 r2=>q w H2 (e1.trans e2) (r2.early e1))
theorem b0e(ha:PX X M a fa ca):PX X M (.UnaryOp .Not a pos) (b0c fa) (.new .i):=by
 obtain⟨ta,pa,qa⟩:=ha.out;refine .mk ⟨_,b4t pa,fun ρ σ H P F d Q S hf q=>?_⟩;obtain⟨x,h1,hf⟩:=bnd hf;obtain⟨k,h2,hf⟩:=bnd hf;cases M4 h2
 cases hf
 exact qa ρ σ H P F _ _ S h1 fun v H1 e1 r1=>⟨k,r1.den.bool_inv,q _ H1 e1 (G5 (by simp only [imm]) den_bool (S.lst' e1))⟩
theorem a1C:PX X M (.UnaryOp .USub (.Constant (.int i) j p) pos) (eC (.int (-i))) (.new .i):=by
 refine .mk ⟨_,b6x b4G a9D,fun ρ σ H P F d Q S hf q=>?_⟩;cases hf
 exact⟨i,rfl,q _ H (Same.refl _) (G5 (by simp only [imm]) den_int S.lst)⟩
theorem b4S(h:Den K H v d)(ht:tr d=some k):b4I K v H k:=by
 cases d with
 | none=>cases h.none_inv;cases ht;exact rfl
 | bool b=>cases h.bool_inv;cases ht;exact rfl
 | int i=>cases h.int_inv;cases ht;exact rfl
 | str x=>
  cases h.str_inv
  replace ht:(if x.length≤aT then some ((x.length:Int) != 0) else none)=some k:=ht
  by_cases z:x.length≤aT
  ·rw [aE z] at ht;cases ht
   exact⟨z,rfl⟩
  ·rw [aJ z] at ht;cases ht
 | list ds=>
  obtain⟨a,xs,rfl,h1,h2⟩:=h.list_inv;cases ht
  refine .inl ⟨xs,h1.l,?_⟩;have:=h2.length;cases xs <;> cases ds <;> simp_all
 | tuple ds=>
  obtain⟨a,xs,rfl,h1,h2⟩:=h.tup_inv;cases ht
  refine .inr (.inl ⟨xs,h1,?_⟩);have:=h2.length;cases xs <;> cases ds <;> simp_all
 | dict kvs=>cases ht
theorem N8(ha:PX X M a fa ca)(he:∀whole,zA a X.env whole=(do let v ←whole;standAt a.pos;holding [v] (truthy v)):=by intro _;rfl):PTX X M a (tV fa):=by
 obtain⟨ta,pa,qa⟩:=ha.out;refine .mk ⟨_,a9Q pa he,fun ρ σ H P F k Q S hf q=>?_⟩;obtain⟨x,h1,hf⟩:=bnd hf;exact qa ρ σ H P F _ _ S h1 fun v H1 e1 r1=>⟨k,b4S r1.den hf,q H1 e1⟩
theorem H9(h:PTX X M a ga):PTX X M (.UnaryOp .Not a pos) (tNo ga):=by
 obtain⟨ta,pa,qa⟩:=h.out;refine .mk ⟨_,b4q pa,fun ρ σ H P F k Q S hf q=>?_⟩;obtain⟨x,h1,hf⟩:=bnd hf;cases hf
 exact qa ρ σ H P F _ _ S h1 fun H1 e1=>q H1 e1
theorem PWX.pt(h:PWX X M e ga):PTX X M e ga:=by
 obtain⟨t,p,q⟩:=h.out;exact .mk ⟨t,p.pt,q⟩
theorem b0f(h:PTX X M a ga):PWX X M (.BoolOp .And [a] pos) ga:=by
 obtain⟨t,p,q⟩:=h.out;exact .mk ⟨t,b2i p,q⟩
theorem a1h(h:PTX X M a ga):PWX X M (.BoolOp .Or [a] pos) ga:=by
 obtain⟨t,p,q⟩:=h.out;exact .mk ⟨t,b4o p,q⟩
theorem b2I(ha:PTX X M a ga)(hb:PWX X M (.BoolOp .And (b :: rest) pos) gb):PWX X M (.BoolOp .And (a :: b :: rest) pos) (tAn ga gb):=by
 obtain⟨ta,pa,qa⟩:=ha.out;obtain⟨tb,pb,qb⟩:=hb.out;refine .mk ⟨_,b4p pa pb,fun ρ σ H P F k Q S hf q=>?_⟩;obtain⟨x,h1,hf⟩:=bnd hf;refine qa ρ σ H P F _ _ S h1 fun H1 e1=>?_
 cases x with
 | false=>cases hf;exact a3M (q H1 e1)
 | true=>exact a3N (qb ρ σ H1 P F k Q (S.grow e1) hf fun H2 e2=>q H2 (e1.trans e2))
theorem a3W(ha:PTX X M a ga)(hb:PWX X M (.BoolOp .Or (b :: rest) pos) gb):PWX X M (.BoolOp .Or (a :: b :: rest) pos) (a2C ga gb):=by
 obtain⟨ta,pa,qa⟩:=ha.out;obtain⟨tb,pb,qb⟩:=hb.out;refine .mk ⟨_,b6q pa pb,fun ρ σ H P F k Q S hf q=>?_⟩;obtain⟨x,h1,hf⟩:=bnd hf;refine qa ρ σ H P F _ _ S h1 fun H1 e1=>?_
 cases x with
 | true=>cases hf;exact a3N (q H1 e1)
 | false=>exact a3M (qb ρ σ H1 P F k Q (S.grow e1) hf fun H2 e2=>q H2 (e1.trans e2))
theorem g8:PAX X M [] e7:=⟨_,r9,fun ρ σ H P F ds Q S hf q=>by cases hf;exact q [] H (Same.refl _) denAll_nil⟩
theorem b7{fr:List D→Option (List D)}(ha:PX X M a fa ca)(hr:PAX X M es fr)(hs:aF (a :: es) X.env=(false,cO a X.env) :: aF es X.env:=by rfl):PAX X M (a :: es) (a8 fa fr):=by
 obtain⟨ta,pa,qa⟩:=ha.out;obtain⟨tr,pr,qr⟩:=hr;refine⟨_,l3 pa pr hs,fun ρ σ H P F ds Q S hf q=>?_⟩;obtain⟨x,h1,hf⟩:=bnd hf;obtain⟨xs,h2,hf⟩:=bnd hf;cases hf
 exact qa ρ σ H P F _ _ S h1 fun v H1 e1 r1=>qr ρ σ H1 P F _ _ (S.grow e1) h2 fun vs H2 e2 r2=>q (v :: vs) H2 (e1.trans e2) (denAll_cons (r1.den.up e2) r2)
theorem p5:PAN X M [] e7 []:=⟨_,r9,fun ρ σ H P F ds Q S hf q=>by
 cases hf
 refine q [] H [] (Same.refl _) ?_ bw fun a ha=>(nomatch ha)
 simp only [OwnTs];exact⟨trivial,trivial,trivial⟩⟩
theorem p0{fr:List D→Option (List D)}(ha:PX X M a fa (.new u))(hr:PAN X M es fr us)(hs:aF (a :: es) X.env=(false,cO a X.env) :: aF es X.env:=by rfl):PAN X M (a :: es) (a8 fa fr) (u :: us):=by
 obtain⟨ta,pa,qa⟩:=ha.out;obtain⟨tr,pr,qr⟩:=hr;refine⟨_,l3 pa pr hs,fun ρ σ H P F ds Q S hf q=>?_⟩;obtain⟨x,h1,hf⟩:=bnd hf;obtain⟨xs,h2,hf⟩:=bnd hf;cases hf
 refine qa ρ σ H P F _ _ S h1 fun v H1 e1 ⟨fp,o,n,fr⟩=>qr ρ σ H1 P (fp ++ F) _ _ (S.more e1 fr (o.lst u)) h2 fun vs H2 gp e2 o2 n2 wI=>?_
 have hl:=o.lst u;have hc:Same (cut H1 (fp ++ F)) (cut H2 (fp ++ gp ++ F)):=L9 e2 fun a o' ha ko=>by
  rw [be] at ko;rcases aw.mp ko with z|z
  ·exact av _ z
  ·rcases aw.mp z with z|z
   ·rw [wI a z] at ha;cases ha
   ·exact ao _ z
 have hd:∀a∈gp,a∉fp:=fun a ha z=>by
  obtain⟨ys,q⟩:=hl a z;rw [wI a ha] at q;cases q
 refine q (v :: vs) H2 (fp ++ gp) (e1.trans e2) ?_ ?_ fun a ha=>?_
 ·simp only [OwnTs];refine⟨v,vs,x,xs,fp,gp,rfl,rfl,rfl,o.frame hc u fun a ha=>?_,o2.frame (H:=H2) (J6 fun a ha=>?_) us fun _ _=>rfl⟩
  ·obtain⟨ys,q⟩:=hl a ha;rw [q,e2 _ _ q]
  ·simp only [aw] at ha ⊢;rcases ha with (z|z)|z
   ·exact .inr (.inl z)
   ·exact .inl z
   ·exact .inr (.inr z)
 ·rw [bG];exact⟨n,n2,fun a ha b hb e=>hd b hb (e ▸ ha)⟩
 ·rcases aw.mp ha with z|z
  ·exact fr a z
  ·exact e1.free (wI a z)
end
end VS
namespace VS
open PySem PySem.Spec L2
section
variable {K:ag}{H H0 H1:Hp}{F fp:List az}{vs:List V}{ds:List D}{p:az}{u:Ty}{us:List Ty}
theorem b2J(hp:H p=none):Same (cut H (fp ++ F)) (cut (upd H p o) (p :: fp ++ F)):=L9 (k9 hp o) fun a u ha ko=>by
 rw [bo] at ko;rcases aH.mp ko with z|z
 ·subst z;rw [hp] at ha;cases ha
 ·exact z
theorem a2W:∀{n:Nat} {vs:List V} {ds:List D} {fp:List az},OwnTs K H F (bu n u) vs ds fp→ListAll (Own K H F u) vs ds fp
 | 0,_,_,_,h=>by
  simp only [kA,OwnTs] at h;obtain⟨rfl,rfl,rfl⟩:=h;exact l7
 | n + 1,_,_,_,h=>by
  simp only [ig,OwnTs] at h;obtain⟨v,r,d,e,f,g,rfl,rfl,rfl,h1,h2⟩:=h;exact k7 h1 (a2W h2)
theorem OwnTs.len:∀{us:List Ty} {vs:List V} {ds:List D} {fp:List az},OwnTs K H F us vs ds fp→vs.length=us.length∧ds.length=us.length
 | [],_,_,_,h=>by simp only [OwnTs] at h;obtain⟨rfl,rfl,_⟩:=h;exact⟨rfl,rfl⟩
 | u :: us,_,_,_,h=>by
  simp only [OwnTs] at h;obtain⟨v,r,d,e,f,g,rfl,rfl,rfl,_,h2⟩:=h;obtain⟨a,b⟩:=OwnTs.len h2;exact⟨by rw [aW,aW,a],by rw [aW,aW,b]⟩
theorem j8(e:Same (cut H F) (cut H1 F'))(h:ListAll (Own K H F u) vs ds fp)(k:∀a∈fp,H1 a=H a):ListAll (Own K H1 F' u) vs ds fp:=
 h.imp fun v d f hf _ q=>q.frame e u fun a ha=>k a (hf a ha)
theorem a1D(h:ListAll (Own K H1 (fp ++ F) u) vs ds fp)(hn:fp.Nodup)(hf:∀a∈fp,H a=none)(e:Same H H1)(hp:H1 p=none)(hl:∀a∈fp,∃ys:MuO,H1 a=some ys.1):ResR K (.new (.l u)) H (upd H1 p (.lst vs)) F (.ref p) (.list ds):=by
 have xJ:p∉fp:=fun z=>by obtain⟨ys,q⟩:=hl p z;rw [hp] at q;cases q
 refine⟨p :: fp,?_,bJ.mpr ⟨xJ,hn⟩,fun a ha=>?_⟩
 ·simp only [Own];refine .inr ⟨p,vs,ds,fp,rfl,i6,rfl,rfl,j8 (b2J hp) h fun a ha=>?_⟩;exact g9 fun z=>xJ (z ▸ ha)
 ·rcases aH.mp ha with z|z
  ·subst z;exact e.free hp
  ·exact hf a z
theorem ListAll.of_den:∀{vs:List V} {ds:List D},DenAll K H vs ds→(∀v d,d∈ds→Den K H v d→R v d [])→ListAll R vs ds []
 | _,[],h,_=>by rw [h.nil_inv];exact l7
 | _,d :: ds,h,k=>by
  obtain⟨v,r,rfl,h1,h2⟩:=h.cons_inv;have:=k7 (f:=[]) (k v d aq h1) (ListAll.of_den h2 fun v d hd=>k v d (ah _ hd));exact this
theorem z9:∀{ds:List D} {d:D},e6 ds=true→d∈ds→imm d=true
 | [],d,_,h=>nomatch h
 | d0 :: ds,d,q,h=>by
  simp only [e6,aA] at q;rcases aH.mp h with z|z
  ·rw [z];exact q.1
  ·exact z9 q.2 z
theorem U4(h:DenAll K H1 vs ds)(hi:e6 ds=true)(e:Same H H1)(hp:H1 p=none)(hF:∀a∈F,∃ys:MuO,H1 a=some ys.1):ResR K (.new (.l .i)) H (upd H1 p (.lst vs)) F (.ref p) (.list ds):=
 a1D (fp:=[]) (ListAll.of_den h fun v d hd q=>by
  simp only [Own,cu];exact⟨trivial,z9 hi hd,q.imm_out hF d (z9 hi hd)⟩) bw (fun a ha=>(nomatch ha)) e hp fun a ha=>(nomatch ha)
theorem a8D(h:DenAll K (cut H1 F) vs ds)(e:Same H H1)(hp:H1 p=none):ResR K (.new (.l .f)) H (upd H1 p (.lst vs)) F (.ref p) (.list ds):=
 a1D (fp:=[]) (ListAll.of_den h fun v d hd q=>by
  simp only [Own,cu];exact⟨trivial,q⟩) bw (fun a ha=>(nomatch ha)) e hp fun a ha=>(nomatch ha)
theorem a4K(h:DenAll K H1 vs ds)(hp:H1 p=none):Den K (upd H1 p (.tup vs)) (.ref p) (.tuple ds):=den_tup (SqT.of i6) (h.up (k9 hp _))
theorem b2K(h:e6 ds=true):imm (.tuple ds)=true:=by simpa only [imm] using h
end
def N9(f:EvA):EvE:=fun ρ=>(f ρ).bind fun ds=>some (.list ds)
def F6(f:EvA):EvE:=fun ρ=>(f ρ).bind fun ds=>some (.tuple ds)
def a3X(d:D):Option D:=if imm d then some d else none
theorem a2X(h:a3X d=some e):e=d∧imm d=true:=by
 unfold a3X at h;by_cases c:imm d=true
 ·rw [aE c] at h;exact⟨(aP h).symm,c⟩
 ·rw [aJ c] at h;cases h
def b0g(d:D):Option D:=match d with
 | .list ds=>if e6 ds then some d else none
 | _=>none
theorem a6i(h:b0g d=some e):∃ds,d=.list ds∧e=.list ds∧e6 ds=true:=by
 cases d with
 | list ds=>
  have h':(if e6 ds=true then some (eT ds) else none)=some e:=h;by_cases c:e6 ds=true
  ·rw [aE c] at h';exact⟨ds,rfl,(aP h').symm,c⟩
  ·rw [aJ c] at h';cases h'
 | _=>cases h
section
variable {X:Cx}{M:List Md}{a b e:Expr}{es:List Expr}{fa fb:EvE}{f:EvA}{c ca cb:Cat}{u:Ty}{us:List Ty}{pos:eM}
theorem C4(h:PAN X M es f (bu n u))(hn:n≤1000:=by decide):PX X M (.List es pos) (N9 f) (.new (.l u)):=by
 obtain⟨t,p,q⟩:=h;refine .mk ⟨_,b4K p,fun ρ σ H P F d Q S hf k=>?_⟩;obtain⟨ds,h1,hf⟩:=bnd hf;cases hf
 refine q ρ σ H P F ds _ S h1 fun vs H1 fp e o nd fr=>⟨?_,fun x hx=>k (.ref x) _ (e.trans (k9 hx _)) (a1D (a2W o) nd fr e hx (o.lst _))⟩
 rw [o.len.1,fw];exact dE (U3 hn)
theorem b4T(h:PAN X M es f us)(hn:us.length≤1000:=by decide):PX X M (.Tuple es j pos) (F6 f) (.new (.tp us)):=by
 obtain⟨t,p,q⟩:=h;refine .mk ⟨_,a6d p,fun ρ σ H P F d Q S hf k=>?_⟩;obtain⟨ds,h1,hf⟩:=bnd hf;cases hf
 refine q ρ σ H P F ds _ S h1 fun vs H1 fp e o nd fr=>⟨?_,fun x hx=>k (.ref x) _ (e.trans (k9 hx _)) ⟨fp,?_,nd,fr⟩⟩
 ·rw [o.len.1];exact dE (U3 hn)
 ·have xC:x∉fp ++ F:=fun z=>by
   rcases aw.mp z with z|z
   ·obtain⟨ys,q⟩:=o.lst _ x z;rw [hx] at q;cases q
   ·obtain⟨ys,q⟩:=S.lst' e x z;rw [hx] at q;cases q
  simp only [Own];refine⟨x,vs,ds,rfl,i6,xC,rfl,o.frame (F5 (k9 hx _)) us fun a ha=>?_⟩;exact g9 fun z=>xC (z ▸ av _ ha)
theorem a4L:∀{n:Nat} {vs:List V} {ds:List D} {fp:List az},OwnTs K H F (bu n .i) vs ds fp→e6 ds=true
 | 0,_,_,_,h=>by
  simp only [kA,OwnTs] at h;obtain⟨rfl,rfl,rfl⟩:=h;simp only [e6]
 | n + 1,_,_,_,h=>by
  simp only [ig,OwnTs] at h;obtain⟨v,r,d,e,f,g,rfl,rfl,rfl,h1,h2⟩:=h;simp only [e6,aA];exact⟨(P7 h1).2.1,a4L h2⟩
theorem Y7{j}(h:PAN X M es f (bu n .i))(hn:n≤1000:=by decide):PX X M (.Tuple es j pos) (F6 f) (.new .i):=by
 obtain⟨t,p,q⟩:=h;refine .mk ⟨_,a6d p,fun ρ σ H P F d Q S hf k=>?_⟩;obtain⟨ds,h1,hf⟩:=bnd hf;cases hf
 refine q ρ σ H P F ds _ S h1 fun vs H1 fp e o nd fr=>⟨?_,fun x hx=>k (.ref x) _ (e.trans (k9 hx _)) (G5 (b2K (a4L o)) (a4K (o.den _) hx) (S.lst' (e.trans (k9 hx _))))⟩
 rw [o.len.1,fw];exact dE (U3 hn)
theorem a8E(hr:∀ρ ds,r ρ=some ds→ds.length=n)(h:a8 fa r ρ=some ds):ds.length=n + 1:=by
 obtain⟨x,_,h⟩:=bnd h;obtain⟨xs,h2,h⟩:=bnd h;cases h
 rw [aW,hr ρ xs h2]
def dIx:D→D→Option D
 | .list ds,.int k=>atI ds k
 | .tuple ds,.int k=>atI ds k
 | _,_=>none
def o6:D→D→Option D
 | .list ds,.int k=>atI ds k
 | _,_=>none
def i8(a b:D):Option D:=(dIx a b).bind a3X
theorem DenAll.atI(h:DenAll K H vs ds)(e:L2.atI ds k=some d):∃v j,L2.atI vs k=some v∧ixN ds.length k=some j∧vs[j]?=some v∧ds[j]?=some d∧Den K H v d:=by
 unfold L2.atI at e ⊢;obtain⟨j,e1,e2⟩:=bnd e;obtain⟨v,h1,h2⟩:=h.get e2;exact⟨v,j,by rw [h.length,e1];exact h1,e1,h1,e2,h2⟩
def b6M(K:ag):R2:=fun x y H Q=>b6G K x y H Q∨b6H K x y H Q
theorem a3Y:IxR X (b6M X.K):=b2v.or b4M
theorem a7E(h:dIx x y=some d):∃ds k,(x=.list ds∨x=.tuple ds)∧y=.int k∧L2.atI ds k=some d:=by
 cases x with
 | list ds=>cases y with
  | int k=>exact⟨ds,k,.inl rfl,rfl,h⟩
  | _=>cases h
 | tuple ds=>cases y with
  | int k=>exact⟨ds,k,.inr rfl,rfl,h⟩
  | _=>cases h
 | _=>cases h
theorem b3W(hx:Den K H v x)(hy:Den K H w y)(h:dIx x y=some d)(q:∀z,Den K H z d→Q z H):b6M K v w H Q:=by
 obtain⟨ds,k,e,rfl,h⟩:=a7E h;cases hy.int_inv
 rcases e with rfl|rfl
 ·obtain⟨a,xs,rfl,h1,h2⟩:=hx.list_inv;obtain⟨z,j,z1,z2,z3,z4,z5⟩:=h2.atI h;exact .inl ⟨a,xs,k,z,rfl,rfl,h1.l,z1,q z z5⟩
 ·obtain⟨a,xs,rfl,h1,h2⟩:=hx.tup_inv;obtain⟨z,j,z1,z2,z3,z4,z5⟩:=h2.atI h;exact .inr ⟨a,xs,k,z,rfl,rfl,h1,z1,q z z5⟩
theorem b6N(ha:PX X M a fa ca)(hb:PX X M b fb cb)(hs:Y3 b:=by exact fun _ _=>rfl):PX X M (.Subscript a b pos) (e2 dIx fa fb) .tmp:=by
 obtain⟨ta,pa,qa⟩:=ha.out;obtain⟨tb,pb,qb⟩:=hb.out;refine .mk ⟨_,a7z a3Y pa pb hs,fun ρ σ H P F d Q S hf q=>?_⟩;obtain⟨x,y,h1,h2,h3⟩:=G9 hf;exact qa ρ σ H P F x _ S h1 fun v H1 e1 r1=>qb ρ σ H1 P F y _ (S.grow e1) h2 fun w H2 e2 r2=>b3W (r1.den.up e2) r2.den h3 fun z hz=>q z H2 (e1.trans e2) hz
theorem m3(ha:PX X M a fa ca)(hb:PX X M b fb cb)(hs:Y3 b:=by exact fun _ _=>rfl):PX X M (.Subscript a b pos) (e2 i8 fa fb) (.new .i):=by
 obtain⟨ta,pa,qa⟩:=ha.out;obtain⟨tb,pb,qb⟩:=hb.out;refine .mk ⟨_,a7z a3Y pa pb hs,fun ρ σ H P F d Q S hf q=>?_⟩;obtain⟨x,y,h1,h2,h3⟩:=G9 hf;obtain⟨d',h3,h4⟩:=bnd h3;obtain⟨rfl,hi⟩:=a2X h4;exact qa ρ σ H P F x _ S h1 fun v H1 e1 r1=>qb ρ σ H1 P F y _ (S.grow e1) h2 fun w H2 e2 r2=>b3W (r1.den.up e2) r2.den h3 fun z hz=>q z H2 (e1.trans e2) (G5 hi hz (S.lst' (e1.trans e2)))
theorem C5(ha:PX X M a fa (.new .f))(hb:PX X M b fb cb)(hs:Y3 b:=by exact fun _ _=>rfl):PX X M (.Subscript a b pos) (e2 dIx fa fb) (.new .f):=by
 obtain⟨ta,pa,qa⟩:=ha.out;obtain⟨tb,pb,qb⟩:=hb.out;refine .mk ⟨_,a7z a3Y pa pb hs,fun ρ σ H P F d Q S hf q=>?_⟩;obtain⟨x,y,h1,h2,h3⟩:=G9 hf;refine qa ρ σ H P F x _ S h1 fun v H1 e1 ⟨fp,o,_,_⟩=>qb ρ σ H1 P F y _ (S.grow e1) h2 fun w H2 e2 r2=>?_
 obtain⟨rfl,o⟩:=a7D o;have o2:Den X.K (cut H2 F) v x:=o.up (F5 e2);obtain⟨ds,k,e,rfl,h⟩:=a7E h3;have fin:∀z,Den X.K (cut H2 F) z d→Q z H2:=fun z hz=>q z H2 (e1.trans e2) ⟨[],by simp only [Own,cu];exact⟨trivial,hz⟩,bw,fun a ha=>(nomatch ha)⟩
 have ey:=r2.den.int_inv;rcases e with rfl|rfl
 ·obtain⟨a,xs,rfl,h1,h2⟩:=o2.list_inv;obtain⟨z,j,z1,z2,z3,z4,z5⟩:=h2.atI h;exact .inl ⟨a,xs,k,z,rfl,ey,(Q7 h1 m5).l,z1,fin z z5⟩
 ·obtain⟨a,xs,rfl,h1,h2⟩:=o2.tup_inv;obtain⟨z,j,z1,z2,z3,z4,z5⟩:=h2.atI h;exact .inr ⟨a,xs,k,z,rfl,ey,a0k h1 m5,z1,fin z z5⟩
theorem v7(ha:PX X M a fa (.bor (.l u)))(hb:PX X M b fb cb)(hs:Y3 b:=by exact fun _ _=>rfl):PX X M (.Subscript a b pos) (e2 o6 fa fb) (.bor u):=by
 obtain⟨ta,pa,qa⟩:=ha.out;obtain⟨tb,pb,qb⟩:=hb.out;refine .mk ⟨_,a7z a3Y pa pb hs,fun ρ σ H P F d Q S hf q=>?_⟩;obtain⟨x,y,h1,h2,h3⟩:=G9 hf;refine qa ρ σ H P F x _ S h1 fun v H1 e1 ⟨fp,o,sub⟩=>qb ρ σ H1 P F y _ (S.grow e1) h2 fun w H2 e2 r2=>?_
 have o2:=o.grow e2;cases x with
 | list ds=>
  cases y with
  | int k=>
   simp only [Own] at o2;rcases o2 with⟨_,hi,_⟩|⟨p,xs,gn,fs,rfl,p1,p2,rfl,p3⟩
   ·simp only [imm] at hi;cases hi
   ·cases p2
    have rC:(ixN ds.length k).bind (fun j=>ds[j]?)=some d:=h3;obtain⟨j,j1,j2⟩:=bnd rC;obtain⟨z,f,pre,post,z1,z2,z3,_,_⟩:=p3.at_ j2;refine .inl ⟨p,xs,k,z,rfl,r2.den.int_inv,.inl (.inl p1),?_,q z H2 (e1.trans e2) ⟨f,z2,fun a ha=>sub a ?_⟩⟩
    ·unfold L2.atI;rw [p3.length,j1];exact z1
    ·rw [z3];exact ah _ (ao _ (av _ ha))
  | _=>cases h3
 | _=>cases h3
end
end VS
namespace VS
open PySem PySem.Spec L2
def eCl(g:List D→Option D)(f:EvA):EvE:=fun ρ=>(f ρ).bind g
section
variable {X:Cx}{M:List Md}{a b e e0:Expr}{es:List Expr}{fa fb:EvE}{f:EvA}{c ca cb:Cat}{u:Ty}{us:List Ty}{pos p:eM}{x:bM}
theorem a1E{id:String}{g:List D→Option D}(hc:a4I X (.builtin id) g)(hm:X.mg x=none)(hv:gh x=some (.builtin id))(h:PAX X M (e0 :: es) f)(hg:Gl X x:=by rfl)(hn:x≠"__name__":=by decide)(l_:(x == ("__debug__":bM))=false:=by decide)
  (he:aF (e0 :: es) X.env=(false,cO e0 X.env) :: aF es X.env:=by rfl) (gG:(cP pos (aF es X.env)).any (·.1)=false:=by rfl):PX X M (.Call (.Name x p) (e0 :: es) [] pos) (eCl g f) (.new .i):=by
 obtain⟨r,hr,hs⟩:=hc;obtain⟨t,pa,qa⟩:=h;refine .mk ⟨_,Q3 hr hg hm hv pa hn l_ he gG,fun ρ σ H P F d Q S hf q=>?_⟩;obtain⟨ds,h1,hf⟩:=bnd hf;exact qa ρ σ H P F ds _ S h1 fun vs H1 e1 r1=>hs vs H1 ds d Q r1 hf fun z hi hd=>q z H1 e1 (G5 hi (hd H1) (S.lst' e1))
theorem U5(h:DenAll K H xs [d]):∃v,xs=[v]∧Den K H v d:=by
 obtain⟨v,r,rfl,h1,h2⟩:=h.cons_inv;cases h2.nil_inv
 exact⟨v,rfl,h1⟩
theorem a1i{K:ag}{H:Hp}{xs:List V}{d e:D}(h:DenAll K H xs [d,e]):∃v w,xs=[v,w]∧Den K H v d∧Den K H w e:=by
 obtain⟨v,r,rfl,h1,h2⟩:=h.cons_inv;obtain⟨w,rfl,h3⟩:=U5 h2;exact⟨v,w,rfl,h1,h3⟩
def A8:List D→Option D
 | [.list ds]=>some (.int ds.length)
 | [.tuple ds]=>some (.int ds.length)
 | [.str x]=>if x.length≤aT then some (.int x.length) else none
 | _=>none
theorem b4U:a4I X (.builtin "len") A8:=by
 refine⟨_,a3J.or a3K,fun xs H ds d Q hd hg q=>?_⟩
 match ds,hg with
 | [.list es],hg=>
  cases hg
  obtain⟨v,rfl,h⟩:=U5 hd;obtain⟨a,ys,rfl,h1,h2⟩:=h.list_inv;refine .inl ⟨a,ys,rfl,.inl h1.l,?_⟩;rw [h2.length];exact q _ (by simp only [imm]) fun _=>den_int
 | [.tuple es],hg=>
  cases hg
  obtain⟨v,rfl,h⟩:=U5 hd;obtain⟨a,ys,rfl,h1,h2⟩:=h.tup_inv;refine .inl ⟨a,ys,rfl,.inr h1,?_⟩;rw [h2.length];exact q _ (by simp only [imm]) fun _=>den_int
 | [.str x],hg=>
  have kO:(if x.length≤aT then some (aU x.length) else none)=some d:=hg;by_cases z:x.length≤aT
  ·rw [aE z] at kO;cases kO
   obtain⟨v,rfl,h⟩:=U5 hd;cases h.str_inv
   exact .inr ⟨x,rfl,z,q _ (by simp only [imm]) fun _=>den_int⟩
  ·rw [aJ z] at kO;cases kO
 | [.none],hg|[.bool _],hg|[.int _],hg|[.dict _],hg=>cases hg
 | [],hg=>cases hg
 | d1 :: _ :: _,hg=>cases d1 <;> cases hg
def a1j(mx:Bool):List D→Option D
 | [.int i,.int j]=>some (.int (if mx then (if j > i then j else i) else (if j < i then j else i)))
 | _=>none
theorem b4V(h:a1j mx ds=some d):∃i j,ds=[.int i,.int j]∧d=.int (if mx then (if j > i then j else i) else (if j < i then j else i)):=by
 match ds,h with
 | [.int i,.int j],h=>cases h;exact⟨i,j,rfl,rfl⟩
theorem b4W(hc:X.calm=true):a4I X (.builtin "min") (a1j false):=by
 refine⟨_,a8t hc,fun xs H ds d Q hd hg q=>?_⟩;obtain⟨i,j,rfl,rfl⟩:=b4V hg;obtain⟨v,w,rfl,h1,h2⟩:=a1i hd;cases h1.int_inv
 cases h2.int_inv
 exact⟨i,j,rfl,q _ (by simp only [imm]) fun _=>den_int⟩
def a0N:List D→Option (List Bool)
 | []=>some []
 | .bool b :: r=>(a0N r).map (b :: ·)
 | _=>none
theorem a1F:∀{ds:List D} {bs:List Bool} {xs:List V},a0N ds=some bs→DenAll K H xs ds→xs=bs.map V.bl
 | [],bs,xs,h,q=>by cases h;rw [q.nil_inv];rfl
 | .bool b :: r,bs,xs,h,q=>by
  have h':(a0N r).map (b :: ·)=some bs:=h;obtain⟨cs,h1,rfl⟩:=cZ.mp h';obtain⟨v,rs,rfl,h2,h3⟩:=q.cons_inv;cases h2.bool_inv
  rw [a1F h1 h3];rfl
 | .none :: r,bs,xs,h,q|.int _ :: r,bs,xs,h,q|.str _ :: r,bs,xs,h,q|.list _ :: r,bs,xs,h,q|.tuple _ :: r,bs,xs,h,q|.dict _ :: r,bs,xs,h,q=>by cases h
def b4X:List D→Option D
 | [.list ds]=>(a0N ds).map fun bs=>.bool (bs.all id)
 | _=>none
open PyProof.Rows in
theorem a8F(hc:X.calm=true):CallR X (.builtin "all") (fun xs H Q=>∃(p:az) (bs:List Bool),xs=[.ref p]∧SqX X.K H p (bs.map V.bl)∧Q (.bl (bs.all id)) H):=by
 intro pins s σ H xs us Q I r h;obtain⟨p,bs,rfl,hp,q⟩:=h;obtain⟨u,rfl,rx⟩:=vals1 r;cases (show u=a_ p from rx)
 obtain⟨hz,cE,n,rv,ho⟩:=hp.ok I;have hl:s.heap.IsList p cE.toArray:=⟨_,ho,rfl,_,rfl⟩;have hlen:bs.length=cE.length:=by have:=rv.length;simpa using this
 refine call_all_walk (nC hl ?_);have fA:p≠s.heap.objs.size:=bH (aS ho);refine⟨s.heap.objs.size,[s.heap.objs.size,p],[s.heap.objs.size],_,_,_,fun i=>(bs.getD i false),rfl,Walks.list (A:=X.A.in1) (by simpa using I.ok.hd hc) s.heap.objs.size p fA cE.toArray,⟨⟨_,aV _ rfl,rfl,rfl⟩,hl.at fun o e=>aC _ e⟩,?_,?_⟩
 ·intro i v s' Q' E' hP hQ;have hv:cE[i]?=some v:=by simpa using hP
  have hi:i < bs.length:=by rw [hlen];exact (ay.mp hv).1
  obtain⟨u,hu,ru⟩:=rv.get (i:=i) (x:=.bl bs[i]) (by simp [hi]);rw [hv] at hu;cases hu
  cases (show v=kr bs[i] from ru)
  refine dP ?_;have e:bs.getD i false=bs[i]:=by simp [hi]
  have yd:Q' (bs.getD i false) s':=hQ;rw [e] at yd;exact yd
 ·intro h' tk hk;have e:(aG cE.toArray.size).all (fun i=>bs.getD i false)=bs.all id:=by
   rw [aX,←hlen,jK,dc,dc]
   constructor
   ·intro z b hb;obtain⟨i,hi,rfl⟩:=fK.mp hb;have:=z i (bx.mpr hi);simpa [hi] using this
   ·intro z i hi;have gL:=bx.mp hi;have:=z bs[i] (cS gL);simpa [gL] using this
  rw [e];refine⟨.bl _,H,?_,rfl,q⟩;exact I.kept (t':=tk) fun b o e=>hk b o (fun z=>by
   have z':=ar.mp z;rw [z'] at e;exact absurd (aS e) (dS _)) (aC _ e)
theorem b4Y(hc:X.calm=true):a4I X (.builtin "all") b4X:=by
 refine⟨_,a8F hc,fun xs H ds d Q hd hg q=>?_⟩
 match ds,hg with
 | [.list es],hg=>
  have kO:(a0N es).map (fun bs=>cw (bs.all id))=some d:=hg;obtain⟨bs,h1,rfl⟩:=cZ.mp kO;obtain⟨v,rfl,h⟩:=U5 hd;obtain⟨a,ys,rfl,h2,h3⟩:=h.list_inv;rw [a1F h1 h3] at h2;exact⟨a,bs,rfl,h2,q _ (by simp only [imm]) fun _=>den_bool⟩
 | [.none],hg|[.bool _],hg|[.str _],hg|[.dict _],hg|[.int _],hg|[.tuple _],hg=>cases hg
 | [],hg=>cases hg
 | d1 :: _ :: _,hg=>cases d1 <;> cases hg
def tyD:D→String
 | .int _=>"int"
 | .bool _=>"bool"
 | .list _=>"list"
 | .tuple _=>"tuple"
 | .none=>"NoneType"
 | .str _=>"str"
 | .dict _=>"dict"
theorem Den.ty{K:ag}{H:Hp}{v:V}:∀{d:D},Den K H v d→(∀ds,d≠.tuple ds)→(∀ds,d≠.list ds)→(∀ds,d≠.dict ds)→TyOf K H v (.type (tyD d))
 | .none,h,_,_,_=>by cases h.none_inv;exact .non
 | .bool _,h,_,_,_=>by cases h.bool_inv;exact .bl _
 | .int _,h,_,_,_=>by cases h.int_inv;exact .int _
 | .str _,h,_,_,_=>by cases h.str_inv;exact .str _
 | .list ds,h,_,q,_=>absurd rfl (q ds)
 | .tuple ds,h,q,_,_=>absurd rfl (q ds)
 | .dict ds,h,_,_,q=>absurd rfl (q ds)
def b6O(K:ag)(T:String)(g:D→Bool):List V→Hp→VK→Prop:=fun xs H Q=>∃x d,xs=[x,.ty T]∧Den K H x d∧Q (.bl (g d)) H
theorem a6j{pins:List (az × eW)}{σ:L2.St}{H:Hp}{s:au}{A:bT}{E:aj→au→Prop}{Q:aj→au→Prop}{cv:aj}{k:Bool}{a:az}{xs:List V}(I:Inv X pins σ H s)(h:SqT X.K H a xs)(e:dY X.K (.type "tuple") cv=some k)(hq:∀tk,Q (.bool k) {s with toks:=tk}) :
  aQ (bc X.prog X.w) A (call (.builtin "isinstance") [.ref a,cv]) Q E s:=by
 obtain⟨cE,_,⟨o,h1,h2,_⟩,_⟩:=I.tuple h;exact cF wU I.kIn ⟨o,h1,h2⟩ e (fun z=>nomatch z) hq
theorem a6k{pins:List (az × eW)}{σ:L2.St}{H:Hp}{s:au}{A:bT}{E:aj→au→Prop}{Q:aj→au→Prop}{cv:aj}{k:Bool}{a:az}{xs:List V}(I:Inv X pins σ H s)(h:SqX X.K H a xs)(e:dY X.K (.type "list") cv=some k)(hq:∀tk,Q (.bool k) {s with toks:=tk}) :
  aQ (bc X.prog X.w) A (call (.builtin "isinstance") [.ref a,cv]) Q E s:=by
 obtain⟨_,cE,n,_,h1⟩:=h.ok I;exact cF lE I.kIn ⟨_,h1,rfl⟩ e (fun z=>nomatch z) hq
theorem a6l{pins:List (az × eW)}{σ:L2.St}{H:Hp}{s:au}{A:bT}{E:aj→au→Prop}{Q:aj→au→Prop}{cv:aj}{k:Bool}{a:az}{es:List (D × V × V)}(I:Inv X pins σ H s)(h:H a=some (i4 a es))(e:dY X.K (.type "dict") cv=some k)(hq:∀tk,Q (.bool k) {s with toks:=tk}) :
  aQ (bc X.prog X.w) A (call (.builtin "isinstance") [.ref a,cv]) Q E s:=by
 obtain⟨⟨_,_,_,o,ents,_,h1,h2,_⟩,_⟩:=(show ObjOk X.prog X.w H s.heap a (i4 a es) from I.hok a _ h);exact cF lF I.kIn ⟨o,h1,h2.1⟩ e (fun z=>nomatch z) hq
theorem a8G{T:String}{g:D→Bool}(hf:∀(K:ag) (d:D),dY K (.type (tyD d)) (.type T)=some (g d)):CallR X (.builtin "isinstance") (b6O X.K T g):=by
 intro pins s σ H xs us Q I r h;obtain⟨x,d,rfl,hd,q⟩:=h;obtain⟨u,w',rfl,rx,ry⟩:=vals2 r;cases (show w'=eV T from ry)
 by_cases ht:(∀ds,d≠.tuple ds)∧(∀ds,d≠.list ds)∧(∀ds,d≠.dict ds)
 ·exact a8v I rx (hd.ty ht.1 ht.2.1 ht.2.2) (hf X.K d) fun tk=>⟨.bl _,H,I.tok tk,rfl,q⟩
 ·cases d with
  | list ds=>
   obtain⟨a,ys,rfl,h1,_⟩:=hd.list_inv;cases (show u=a_ a from rx)
   exact a6k I h1 (hf X.K (.list ds)) fun tk=>⟨.bl _,H,I.tok tk,rfl,q⟩
  | tuple ds=>
   obtain⟨a,ys,rfl,h1,_⟩:=hd.tup_inv;cases (show u=a_ a from rx)
   exact a6j I h1 (hf X.K (.tuple ds)) fun tk=>⟨.bl _,H,I.tok tk,rfl,q⟩
  | dict ds=>
   simp only [Den] at hd;obtain⟨a,es,rfl,h1,_⟩:=hd;cases (show u=a_ a from rx)
   exact a6l I h1 (hf X.K (.dict ds)) fun tk=>⟨.bl _,H,I.tok tk,rfl,q⟩
  | _=>exact absurd ⟨(fun ds z=>by cases z),(fun ds z=>by cases z),(fun ds z=>by cases z)⟩ ht
def isInt:D→Bool
 | .int _=>true
 | .bool _=>true
 | _=>false
def isBool:D→Bool
 | .bool _=>true
 | _=>false
def isList:D→Bool
 | .list _=>true
 | _=>false
def a3Z:D→Bool
 | .tuple _=>true
 | _=>false
theorem X1{g:D→Bool}(hf:∀(K:ag) (d:D),dY K (.type (tyD d)) (.type T)=some (g d))(hm:X.mg "isinstance"=none)(hy:X.mg y=none)(hb:gh y=some (.type T))(h:PX X M a fa ca)
  (hg:Gl X "isinstance":=by rfl) (Ar:Gl X y:=by rfl) (zY:y≠"__name__":=by decide) (vY:(y == ("__debug__":bM))=false:=by decide)
  (he:aF [a,.Name y py] X.env=(false,cO a X.env) :: aF [.Name y py] X.env:=by rfl) (nP:aF [.Name y py] X.env=(false,cO (.Name y py) X.env) :: aF [] X.env:=by rfl) (gG:(cP pos (aF [.Name y py] X.env)).any (·.1)=false:=by rfl) :
  PX X M (.Call (.Name "isinstance" p) [a,.Name y py] [] pos) (e1 (fun d=>some (.bool (g d))) fa) (.new .i):=by
 obtain⟨ta,pa,qa⟩:=h.out;refine .mk ⟨_,Q3 (a8G hf) hg hm PyProof.Rows.Boot.«isinstance» (l3 pa (l3 (b2h (v:=.ty T) Ar hy hb rfl zY vY) r9 nP) he) (by decide) (by decide) he gG,fun ρ σ H P F d Q S oT q=>?_⟩;obtain⟨x,h1,oT⟩:=bnd oT;cases oT
 exact qa ρ σ H P F x _ S h1 fun v H1 e1 r1=>⟨v,x,rfl,r1.den,q _ H1 e1 (G5 (by simp only [imm]) den_bool (S.lst' e1))⟩
theorem a7F(K:ag)(d:D):dY K (.type (tyD d)) (.type "int")=some (isInt d):=by cases d <;> rfl
theorem a4M(K:ag)(d:D):dY K (.type (tyD d)) (.type "bool")=some (isBool d):=by cases d <;> rfl
theorem a1G(K:ag)(d:D):dY K (.type (tyD d)) (.type "list")=some (isList d):=by cases d <;> rfl
end
end VS
namespace VS
open PySem PySem.Spec L2
def cutD(ds:List D)(lo hi:Option Int):List D:=(ds.drop (HT.sIx ds.length 0 lo)).take (HT.sIx ds.length ds.length hi - HT.sIx ds.length 0 lo)
abbrev EvO:=List D→Option (Option Int)
def oNo:EvO:=fun _=>some none
def asI:D→Option Int
 | .int i=>some i
 | _=>none
def oSo(a:EvE):EvO:=fun ρ=>(a ρ).bind fun d=>(asI d).bind fun i=>some (some i)
theorem Q9(h:asI d=some i):d=.int i:=by
 cases d with
 | int j=>cases h;rfl
 | _=>cases h
def asL:D→Option (List D)
 | .list ds=>some ds
 | _=>none
theorem F7(h:asL d=some ds):d=.list ds:=by
 cases d with
 | list j=>cases h;rfl
 | _=>cases h
def asS:D→Option (List D)
 | .list ds=>some ds
 | .tuple ds=>some ds
 | _=>none
def POX(X:Cx)(M:List Md)(e:Option Expr)(f:EvO):Prop:=
 ∃t,PO X e t∧∀(ρ:List D) (σ:L2.St) (H P:Hp) (F:List az) (o:Option Int) (Q:Option Int→Hp→Prop),StE X.K M ρ σ H P F→f ρ=some o→(∀H',Same H H'→Q o H')→t σ H Q
def eSl(a:EvE)(lo hi:EvO):EvE:=fun ρ=>(a ρ).bind fun x=>(asL x).bind fun ds=>(lo ρ).bind fun l=>(hi ρ).bind fun h=>some (.list (cutD ds l h))
def eI(a:EvE):EvE:=fun ρ=>(a ρ).bind b0g
section
variable {X:Cx}{M:List Md}{a b e e0:Expr}{lo hi:Option Expr}{es:List Expr}{fa fb:EvE}{fl fh:EvO}{f:EvA}{c ca cb:Cat}{u:Ty}{us:List Ty}{pos p p2:eM}{x:bM}
theorem a4N:POX X M none oNo:=⟨_,b2s,fun ρ σ H P F o Q S hf q=>by cases hf;exact q H (Same.refl _)⟩
theorem a4O(h:PX X M a fa ca):POX X M (some a) (oSo fa):=by
 obtain⟨t,p,q⟩:=h.out;refine⟨_,b2t p,fun ρ σ H P F o Q S hf k=>?_⟩;obtain⟨d,h1,oD⟩:=bnd hf;obtain⟨i,h2,oC⟩:=bnd oD;cases Q9 h2
 cases oC
 exact q ρ σ H P F _ _ S h1 fun v H1 e1 r1=>⟨i,r1.den.int_inv,k H1 e1⟩
structure MkL (X:Cx) (M:List Md) (e:Expr) (f:EvE) (A:Prop):Prop where
 run:∃t,PE X e t∧∀(ρ:List D) (σ:L2.St) (H P:Hp) (F:List az) (d:D) (Q:VK),StE X.K M ρ σ H P F→f ρ=some d→
  (∀vs ds H1 l,Same H H1→d=.list ds→DenAll X.K H1 vs ds→(A→DenAll X.K (cut H1 F) vs ds)→H1 l=none→Q (.ref l) (upd H1 l (.lst vs)))→t σ H Q
theorem MkL.fz{f:EvE}(h:MkL X M e f True):PX X M e f (.new (.l .f)):=by
 obtain⟨t,p,q⟩:=h.run;refine .mk ⟨t,p,fun ρ σ H P F d Q S hf k=>q ρ σ H P F d Q S hf fun vs ds H1 l e1 ed _ h1 hl=>?_⟩;subst ed;exact k _ _ (e1.trans (k9 hl _)) (a8D (h1 trivial) e1 hl)
theorem MkL.i{f:EvE}{A:Prop}(h:MkL X M e f A):PX X M e (eI f) (.new (.l .i)):=by
 obtain⟨t,p,q⟩:=h.run;refine .mk ⟨t,p,fun ρ σ H P F d Q S hf k=>?_⟩;obtain⟨d',g1,hc⟩:=bnd hf;clear hf;obtain⟨es,rfl,rfl,hi⟩:=a6i hc;refine q ρ σ H P F _ Q S g1 fun vs ds H1 l e1 ed h1 _ hl=>?_
 cases ed
 exact k _ _ (e1.trans (k9 hl _)) (U4 h1 hi e1 hl (S.lst' e1))
def frozen:Cat→Prop
 | .new .f=>True
 | .new .i=>True
 | _=>False
theorem a1k(hc:frozen c)(r:ResR K c H H1 F v d):Den K (cut H1 F) v d:=by
 match c,hc with
 | .new .f,_=>
  obtain⟨fp,o,_⟩:=r;obtain⟨rfl,o⟩:=a7D o;exact o
 | .new .i,_=>
  obtain⟨fp,o,_⟩:=r;obtain⟨rfl,_,o⟩:=P7 o;exact o
theorem I0(r:ResR K c H H1 F v (.list ds)):∃a xs,v=.ref a∧SqX K H1 a xs∧DenAll K H1 xs ds∧(frozen c→DenAll K (cut H1 F) xs ds):=by
 by_cases hc:frozen c
 ·obtain⟨a,xs,rfl,k1,k2⟩:=(a1k hc r).list_inv;exact⟨a,xs,rfl,Q7 k1 m5,k2.up m5,fun _=>k2⟩
 ·obtain⟨a,xs,rfl,k1,k2⟩:=r.den.list_inv;exact⟨a,xs,rfl,k1,k2,fun h=>absurd h hc⟩
theorem b0h:SlR X (fun x lo hi H Q=>∃a xs,x=.ref a∧SqX X.K H a xs∧∀p,H p=none→Q (.ref p) (upd H p (.lst (a6f xs lo hi)))):=by
 intro pins s σ H x v vl vu lo hi sl Q I rx hs pl pu ⟨a,xs,e,h,q⟩;exact b2w pins s σ H x v vl vu lo hi sl Q I rx hs pl pu ⟨a,xs,e,h.l,q⟩
theorem a7G(h:DenAll K H vs ds)(lo hi:Option Int):DenAll K H (a6f vs lo hi) (cutD ds lo hi):=by
 unfold a6f cutD;rw [h.length];exact (h.drop _).take _
theorem a4P(ha:PX X M a fa ca)(hl:POX X M lo fl)(hh:POX X M hi fh):MkL X M (.Subscript a (.Slice lo hi none p2) pos) (eSl fa fl fh) (frozen ca):=by
 obtain⟨ta,pa,qa⟩:=ha.out;obtain⟨tl,pl,ql⟩:=hl;obtain⟨th,ph,qh⟩:=hh;refine⟨_,a9R b0h pa pl ph,fun ρ σ H P F d Q S hf q=>?_⟩;obtain⟨x,h1,oD⟩:=bnd hf;obtain⟨ds,h2,oC⟩:=bnd oD;cases F7 h2
 obtain⟨l,h3,wF⟩:=bnd oC;obtain⟨h,h4,rD⟩:=bnd wF;cases rD
 refine qa ρ σ H P F _ _ S h1 fun v H1 e1 r1=>ql ρ σ H1 P F l _ (S.grow e1) h3 fun H2 e2=>qh ρ σ H2 P F h _ (S.grow (e1.trans e2)) h4 fun H3 e3=>?_
 obtain⟨pp,xs,rfl,k1,k2,k3⟩:=I0 (r1.up (e2.trans e3));exact⟨pp,xs,rfl,k1,fun z hz=>q _ _ H3 z ((e1.trans e2).trans e3) rfl (a7G k2 l h) (fun hc=>a7G (k3 hc) l h) hz⟩
def J7(a:EvE):EvE:=fun ρ=>(a ρ).bind fun d=>(asS d).bind fun ds=>some (.list ds)
theorem I9(hm:X.mg "list"=none)(ha:PX X M a fa ca)(hg:Gl X "list":=by rfl)(he:aF [a] X.env=(false,cO a X.env) :: aF [] X.env:=by rfl)(gG:(cP pos (aF [] X.env)).any (·.1)=false:=by rfl) :
  MkL X M (.Call (.Name "list" p) [a] [] pos) (J7 fa) (frozen ca):=by
 obtain⟨ta,pa,qa⟩:=ha.out;refine⟨_,L6 a3L hg hm PyProof.Rows.Boot.«list» (l3 pa r9 he) (by decide) (by decide) he gG,fun ρ σ H P F d Q S hf q=>?_⟩;obtain⟨x,h1,oD⟩:=bnd hf;obtain⟨ds,h2,oC⟩:=bnd oD;cases oC
 refine qa ρ σ H P F _ _ S h1 fun v H1 e1 r1=>?_
 cases x with
 | list es=>
  cases h2
  obtain⟨pp,xs,rfl,k1,k2,k3⟩:=I0 r1;exact⟨pp,xs,rfl,.inl k1.l,fun z hz=>q _ _ H1 z e1 rfl k2 k3 hz⟩
 | tuple es=>
  cases h2
  by_cases hc:frozen ca
  ·obtain⟨pp,xs,rfl,k1,k2⟩:=(a1k hc r1).tup_inv;exact⟨pp,xs,rfl,.inr (a0k k1 m5),fun z hz=>q _ _ H1 z e1 rfl (k2.up m5) (fun _=>k2) hz⟩
  ·obtain⟨pp,xs,rfl,k1,k2⟩:=r1.den.tup_inv;exact⟨pp,xs,rfl,.inr k1,fun z hz=>q _ _ H1 z e1 rfl k2 (fun h=>absurd h hc) hz⟩
 | _=>cases h2
def a0O(a:EvE):EvE:=fun ρ=>(a ρ).bind fun d=>(asS d).bind fun ds=>a3X (.tuple ds)
theorem a1H(hm:X.mg "tuple"=none)(ha:PX X M a fa ca)(hg:Gl X "tuple":=by rfl)(he:aF [a] X.env=(false,cO a X.env) :: aF [] X.env:=by rfl)(gG:(cP pos (aF [] X.env)).any (·.1)=false:=by rfl) :
  PX X M (.Call (.Name "tuple" p) [a] [] pos) (a0O fa) (.new .i):=by
 obtain⟨ta,pa,qa⟩:=ha.out;refine .mk ⟨_,L6 a2z hg hm PyProof.Rows.Boot.«tuple» (l3 pa r9 he) (by decide) (by decide) he gG,fun ρ σ H P F d Q S hf q=>?_⟩;obtain⟨x,h1,oD⟩:=bnd hf;obtain⟨ds,h2,oC⟩:=bnd oD;obtain⟨rfl,hi⟩:=a2X oC;refine qa ρ σ H P F _ _ S h1 fun v H1 e1 r1=>?_
 cases x with
 | list es=>
  cases h2
  obtain⟨pp,xs,rfl,k1,k2⟩:=r1.den.list_inv;exact⟨pp,xs,rfl,.inl ⟨k1.l,fun z hz=>q _ _ (e1.trans (k9 hz _)) (G5 hi (a4K k2 hz) (S.lst' (e1.trans (k9 hz _))))⟩⟩
 | tuple es=>
  cases h2
  obtain⟨pp,xs,rfl,k1,k2⟩:=r1.den.tup_inv;exact⟨pp,xs,rfl,.inr ⟨k1,q _ _ e1 (G5 hi (den_tup k1 k2) (S.lst' e1))⟩⟩
 | _=>cases h2
theorem b2L:OpR X (fg .Add) (fun x y H Q=>∃l b xs zs,x=.ref l∧y=.ref b∧SqX X.K H l xs∧SqX X.K H b zs∧xs.length + zs.length≤aT∧∀p,H p=none→Q (.ref p) (upd H p (.lst (xs ++ zs)))):=by
 intro pins s σ H x y v u Q I rx ry h;obtain⟨l,b,xs,zs,rfl,rfl,hH,hB,hz,q⟩:=h;cases rx
 cases ry
 obtain⟨z,cE,n,r,e⟩:=hH.ok I;obtain⟨z2,lV,n2,r2,e2⟩:=hB.ok I;have hl:=r.length;have mE:=r2.length;refine PySem.P.add_list e e2 ?_ (by rw [aX,aX];lia);have ea:cE.toArray ++ lV.toArray=(cE ++ lV).toArray:=by simp
 rw [ea];exact⟨.ref _,_,I.lnew (t':=s.toks) (r.append r2) (by rw [aM];lia),rfl,q _ I.fresh⟩
def a6m(a b:EvE):EvE:=fun ρ=>(a ρ).bind fun x=>(asL x).bind fun ds=>(b ρ).bind fun y=>(asL y).bind fun es=>if ds.length + es.length≤aT then some (.list (ds ++ es)) else none
theorem a6n(ha:PX X M a fa ca)(hb:PX X M b fb cb):MkL X M (.BinOp a .Add b pos) (a6m fa fb) (frozen ca∧frozen cb):=by
 obtain⟨ta,pa,qa⟩:=ha.out;obtain⟨tb,pb,qb⟩:=hb.out;refine⟨_,b3S b2L pa pb,fun ρ σ H P F d Q S hf q=>?_⟩;obtain⟨x,h1,oD⟩:=bnd hf;obtain⟨ds,h2,oC⟩:=bnd oD;cases F7 h2
 obtain⟨y,h3,wF⟩:=bnd oC;obtain⟨es,h4,rD⟩:=bnd wF;cases F7 h4
 by_cases hz:ds.length + es.length≤aT
 ·rw [aE hz] at rD;cases rD
  refine qa ρ σ H P F _ _ S h1 fun v H1 e1 r1=>qb ρ σ H1 P F _ _ (S.grow e1) h3 fun w H2 e2 r2=>?_
  obtain⟨pp,xs,rfl,k1,k2,k3⟩:=I0 (r1.up e2);obtain⟨qq,ys,rfl,j1,j2,j3⟩:=I0 r2;exact⟨pp,qq,xs,ys,rfl,rfl,k1,j1,by rw [k2.length,j2.length];exact hz,fun z hz=>q _ _ H2 z (e1.trans e2) rfl (k2.append j2) (fun hc=>(k3 hc.1).append (j3 hc.2)) hz⟩
 ·rw [aJ hz] at rD;cases rD
def spD(K:ag)(n:Nat)(m:List D→Option D)(u:Ty):Sp:=fun vs H Q _=>∃ds d,vs.length=n∧DenAll K H vs ds∧m ds=some d∧∀v H' fp,Same H H'→Own K H' fp u v d fp→fp.Nodup→(∀a∈fp,H a=none)→Q v H'
theorem U6(W:Has X.prog X.w X.K X.mg X.base x k ps (spD X.K n m u))(hr:Room k X.A)(h:PAX X M (e0 :: es) f)(hu:u.shut=true:=by rfl)(hl:(e0 :: es).length=n:=by rfl)(hfl:∀ρ ds,f ρ=some ds→ds.length=(e0 :: es).length)
  (hg:Gl X x:=by rfl) (l_:(x == ("__debug__":bM))=false:=by decide) (he:aF (e0 :: es) X.env=(false,cO e0 X.env) :: aF es X.env:=by rfl) (gG:(cP pos (aF es X.env)).any (·.1)=false:=by rfl) :
  PX X M (.Call (.Name x p) (e0 :: es) [] pos) (eCl m f) (.new u):=by
 obtain⟨t,pa,qa⟩:=h;refine .mk ⟨_,a9U W hr pa hg l_ he gG,fun ρ σ H P F d Q S hf q=>?_⟩;obtain⟨ds,h1,hf⟩:=bnd hf;refine qa ρ σ H P F ds _ S h1 fun vs H1 e1 r1=>?_
 show spD X.K n m u (vs ++ []) H1 Q E0;rw [bV];refine⟨ds,d,by rw [r1.length,hfl ρ ds h1,hl],r1,hf,fun v H' fp e o nd fr=>q v H' (e1.trans e) ⟨fp,o.shut_out (fun a ha=>?_) u hu,nd,fun a ha=>e1.free (fr a ha)⟩⟩;rcases aw.mp ha with z|z
 ·exact o.lst u a z
 ·exact S.lst' (e1.trans e) a z
end
end VS
namespace VS
open PySem PySem.Spec L2
structure Walks (J:It) (Pr:Hp→Prop) (xs:List V):Prop where
 go:∀i H,Pr H→i < xs.length→J.go i H
 stop:∀i H,Pr H→xs.length≤i→J.stop i H
 yld:∀i H x H',Pr H→i < xs.length→J.yld i H x H'→H'=H∧xs[i]?=some x
theorem J8:Walks (Itl K a) (fun H=>SqL K H a xs) xs where
 go:=fun i H h hi=>⟨xs,xs[i],h,by simp [hi]⟩
 stop:=fun i H h hi=>⟨xs,h,hi⟩
 yld:=fun i H x H' h _ y=>⟨y.1,y.2 xs h⟩
theorem a4Q:Walks (Itr lo n) (fun _=>True) ((aG n).map fun (k:Nat)=>V.int (lo + k)) where
 go:=fun i H h hi=>by show i < n;simpa using hi
 stop:=fun i H h hi=>by show n≤i;simpa using hi
 yld:=fun i H x H' h hi y=>by
  obtain⟨e,y⟩:=y;refine⟨e,?_⟩;have gL:i < n:=by simpa using hi
  rw [y];simp [gL]
def PIX(X:Cx)(M:List Md)(tg iter:Expr)(f:EvA):Prop:=
 ∃wi,PI X tg iter wi∧∀(ρ:List D) (σ:L2.St) (H P:Hp) (F:List az) (ds:List D) (R:It→Hp→Prop),StE X.K M ρ σ H P F→f ρ=some ds→
  (∀J xs Pr H1,Same H H1→Walks J Pr xs→(∀H2,Same (cut H1 F) H2→Pr H2)→DenAll X.K (cut H1 F) xs ds→R J H1)→wi σ H R
def iL(a:EvE):EvA:=fun ρ=>(a ρ).bind asL
def A6(lo:Int)(n:Nat):List D:=(aG n).map fun (k:Nat)=>.int (lo + k)
def iR(a:EvE):EvA:=fun ρ=>(a ρ).bind fun d=>(asI d).bind fun n=>if -(2 ^ 62)≤n∧n < 2 ^ 62 then some (A6 0 n.toNat) else none
def iI(f:EvA):EvA:=fun ρ=>(f ρ).bind fun ds=>if e6 ds then some ds else none
section
variable {X:Cx}{M:List Md}{a b e tg iter:Expr}{fa fb:EvE}{f:EvA}{ca cb:Cat}{pos p:eM}
theorem m6(h:PX X M a fa ca)(hc:frozen ca:=by trivial):PIX X M tg a (iL fa):=by
 obtain⟨t,p,q⟩:=h.out;refine⟨_,a3G p,fun ρ σ H P F ds R S hf k=>?_⟩;obtain⟨d,h1,h2⟩:=bnd hf;cases F7 h2
 refine q ρ σ H P F _ _ S h1 fun v H1 e1 r1=>?_
 obtain⟨aa,xs,rfl,k1,k2⟩:=(a1k hc r1).list_inv;exact⟨aa,rfl,⟨xs,(Q7 k1 m5).l⟩,k _ xs _ H1 e1 J8 (fun H2 e2=>(Q7 k1 e2).l) k2⟩
theorem a2Y:DenAll K H ((aG n).map fun (k:Nat)=>V.int (lo + k)) (A6 lo n):=by
 have:∀l:List Nat,DenAll K H (l.map fun (k:Nat)=>V.int (lo + k)) (l.map fun (k:Nat)=>aU (lo + k)):=by
  intro l
  induction l with
  | nil=>exact denAll_nil
  | cons x l ih=>exact denAll_cons den_int ih
 exact this _
theorem y6(hm:X.mg "range"=none)(h:PX X M a fa ca)(hg:Gl X "range":=by rfl)(he:aF [a] X.env=[(false,cO a X.env)]:=by rfl)(nP:aF [a] X.env=(false,cO a X.env) :: aF [] X.env:=by rfl) :
  PIX X M tg (.Call (.Name "range" p) [a] [] pos) (iR fa):=by
 obtain⟨t,p,q⟩:=h.out;refine⟨_,a8r hg hm (l3 p r9 nP) he,fun ρ σ H P F ds R S hf k=>?_⟩;obtain⟨d,h1,g1⟩:=bnd hf;obtain⟨n,h2,g2⟩:=bnd g1;cases Q9 h2
 by_cases c:-(2 ^ 62)≤n∧n < 2 ^ 62
 ·rw [aE c] at g2;cases g2
  exact q ρ σ H P F _ _ S h1 fun v H1 e1 r1=>⟨n,by rw [r1.den.int_inv],c.1,c.2,k _ _ _ H1 e1 a4Q (fun _ _=>trivial) a2Y⟩
 ·rw [aJ c] at g2;cases g2
theorem PIX.i(h:PIX X M tg iter f):PIX X M tg iter (iI f):=by
 obtain⟨wi,p,q⟩:=h;refine⟨wi,p,fun ρ σ H P F ds R S hf k=>?_⟩;obtain⟨es,h1,g1⟩:=bnd hf;by_cases c:e6 es=true
 ·rw [aE c] at g1;cases g1
  exact q ρ σ H P F _ R S h1 k
 ·rw [aJ c] at g1;cases g1
end
def TgR(K:ag)(g:TG)(n:Nat)(pt:D→Option (List D)):Prop:=
 ∀(H Hc:Hp) (x:V) (d:D) (ds:List D) (σ:L2.St) (Q:L2.St→Hp→Prop),Same Hc H→Den K Hc x d→pt d=some ds→n≤σ.length→(∀vs,DenAll K Hc vs ds→vs.length=n→Q (vs.map some ++ σ.drop n) H)→g x σ H Q
def pt1(d:D):Option (List D):=some [d]
def pt2:D→Option (List D)
 | .tuple [a,b]=>some [a,b]
 | _=>none
theorem E7:TgR K (J4 0) 1 pt1:=by
 intro H Hc x d ds σ Q e hd hp hn k;cases hp
 cases σ with
 | nil=>simp at hn
 | cons o σ=>exact k [x] (denAll_cons hd denAll_nil) rfl
theorem a4a:TgR K (b2j K 2 (Y2 (J4 0) (Y2 (J4 1) a9G))) 2 pt2:=by
 intro H Hc x d ds σ Q e hd hp hn k
 match d,hp with
 | .tuple [a,b],hp=>
  cases hp
  obtain⟨aa,xs,rfl,h1,h2⟩:=hd.tup_inv;obtain⟨v,w,rfl,h3,h4⟩:=a1i h2
  match σ,hn with
  | o :: o' :: σ,_=>
   exact⟨aa,_,rfl,a0k h1 e,rfl,v,[w],rfl,w,[],rfl,rfl,k [v,w] (denAll_cons h3 (denAll_cons h4 denAll_nil)) rfl⟩
def D9(pt:D→Option (List D))(t:EvT)(g:EvE)(cs:List D):List D→Option (List D)
 | []=>some []
 | d :: ds=>(pt d).bind fun bs=>(t (bs ++ cs)).bind fun k=>if k then (g (bs ++ cs)).bind fun y=>(D9 pt t g cs ds).bind fun ys=>some (y :: ys) else D9 pt t g cs ds
def m8(fi:EvA)(js:List Nat)(pt:D→Option (List D))(t:EvT)(g:EvE):EvE:=fun ρ=>(fi ρ).bind fun ds=>if ds.length≤1000000 then (D9 pt t g (js.map fun j=>ρ.getD j .none) ds).bind fun ys=>some (.list ys) else none
def tT:EvT:=fun _=>some true
def R0(m:Md)(n:Nat)(M:List Md)(js:List Nat):List Md:=bu n m ++ js.map fun j=>M.getD j .dead
section
variable {K:ag}{J:It}{Pr:Hp→Prop}{xs:List V}{Dl:az}{g:TG}{tt:TT}{te:TE}{σ:L2.St}{H:Hp}{R:Hp→Prop}
theorem a2Z(hw:Walks J Pr xs)(Pv:Nat→List V→L2.St→Hp→Prop)(h0:Pv 0 [] σ (upd H Dl (.lst [])))(hp:∀i ys σ H,Pv i ys σ H→Pr H)
  (hs:∀i x ys σ H,xs[i]?=some x→Pv i ys σ H→g x σ H fun σ3 H3=>tt σ3 H3 fun b H4=>if b=true then te σ3 H4 fun y H5=>H5 Dl=some (.lst ys)∧ys.length < aT∧Pv (i + 1) (ys ++ [y]) σ3 (upd H5 Dl (.lst (ys ++ [y]))) else Pv (i + 1) ys σ3 H4)
  (hd:∀ys σ H,Pv xs.length ys σ H→R H) :
  ∃W:Nat→Nat→List V→L2.St→Hp→Prop,(∃m,W 0 m [] σ (upd H Dl (.lst [])))∧∀i m ys σ' H',W i m ys σ' H'→(J.stop i H'∧R H')∨
   (J.go i H'∧∃(N:V→L2.St→Hp→Prop) (NO:L2.St→Hp→Prop),(∀y σ3 H4,N y σ3 H4→H4 Dl=some (.lst ys)∧ys.length < aT∧∃m',m' < m∧W (i + 1) m' (ys ++ [y]) σ3 (upd H4 Dl (.lst (ys ++ [y]))))∧
    (∀σ3 H4,NO σ3 H4→∃m',m' < m∧W (i + 1) m' ys σ3 H4)∧∀x H2,J.yld i H' x H2→g x σ' H2 fun σ3 H3=>tt σ3 H3 fun b H4=>if b=true then te σ3 H4 fun y H5=>N y σ3 H5 else NO σ3 H4):=by
 refine⟨fun i m ys σ H=>m=xs.length - i∧i≤xs.length∧Pv i ys σ H,⟨xs.length,by simp,bC _,h0⟩,?_⟩;rintro i m ys σ H ⟨rfl,hi,p⟩;have q:=hp i ys σ H p;by_cases iS:i < xs.length
 ·refine .inr ⟨hw.go i H q iS,fun y σ3 H4=>H4 Dl=some (.lst ys)∧ys.length < aT∧Pv (i + 1) (ys ++ [y]) σ3 (upd H4 Dl (.lst (ys ++ [y]))),fun σ3 H4=>Pv (i + 1) ys σ3 H4,fun y σ3 H4 ⟨r1,r2,r3⟩=>⟨r1,r2,xs.length - (i + 1),by lia,rfl,iS,r3⟩,fun σ3 H4 r3=>⟨xs.length - (i + 1),by lia,rfl,iS,r3⟩,fun x H' y=>?_⟩;obtain⟨e,yy⟩:=hw.yld i H x H' q iS y;subst e;exact hs i x ys σ _ yy p
 ·have e:i=xs.length:=by lia
  subst e;exact .inl ⟨hw.stop _ H q (aD _),hd ys σ H p⟩
end
theorem b0i{js:List Nat}(S:StE K M ρ σ H P F)(hm:m=.i∨m=.f)(hv:DenAll K (cut H F) vs bs)(hi:m=.i→e6 bs=true)(hn:vs.length=n)
  (hσ:σb=vs.map some ++ js.map fun j=>(σ[j]?).getD none):StE K (R0 (.own m) n M js) (bs ++ js.map fun j=>ρ.getD j .none) σb H P F:=by
 obtain⟨G,h1,h3⟩:=S.all;obtain⟨G',q,hq⟩:=h1.pick h3 js;refine⟨⟨G',?_,hq⟩,S.lst,S.prot⟩;subst hσ hn;unfold R0;have key:∀{vs:List V} {bs:List D},DenAll K (cut H F) vs bs→(m=.i→e6 bs=true)→StAll K H F (bu vs.length (.own m) ++ js.map fun j=>M.getD j .dead) (bs ++ js.map fun j=>ρ.getD j .none) (vs.map some ++ js.map fun j=>(σ[j]?).getD none) G':=by
  intro vs
  induction vs with
  | nil=>
   intro bs h _;have hl:=h.length;have:bs=[]:=p_.mp (by simpa using hl.symm);subst this;exact q
  | cons v vs ih=>
   intro bs h hi;cases bs with
   | nil=>have:=h.length;simp at this
   | cons b bs=>
    obtain⟨v',r,e,h4,h5⟩:=h.cons_inv;cases e
    have:=k6 (K:=K) (H:=H) (F:=F) (m:=.own m) (d:=b) (o:=some v) (f:=[]) ⟨v,rfl,by
     rcases hm with rfl|rfl
     ·have:=hi rfl;simp only [e6,aA] at this;simp only [Own];exact⟨trivial,this.1,h4⟩
     ·simp only [Own];exact⟨trivial,h4⟩⟩ (ih h5 fun e=>by have:=hi e;simp only [e6,aA] at this;exact this.2)
    simpa [ig] using this
 exact key hv hi
theorem a6o(h:D9 pt t g cs (d :: ds)=some rs) :
  ∃bs k,pt d=some bs∧t (bs ++ cs)=some k∧((k=true∧∃y ys,g (bs ++ cs)=some y∧D9 pt t g cs ds=some ys∧rs=y :: ys)∨(k=false∧D9 pt t g cs ds=some rs)):=by
 simp only [D9] at h;obtain⟨bs,h1,g1⟩:=bnd h;obtain⟨k,h2,g2⟩:=bnd g1;refine⟨bs,k,h1,h2,?_⟩;cases k with
 | true=>
  rw [aE rfl] at g2;obtain⟨y,h3,g3⟩:=bnd g2;obtain⟨ys,h4,g4⟩:=bnd g3;cases g4
  exact .inl ⟨rfl,y,ys,h3,h4,rfl⟩
 | false=>
  rw [aJ bD] at g2;exact .inr ⟨rfl,g2⟩
section
variable {X:Cx}{M:List Md}{tn ys:List bM}{js:List Nat}{scope:gA}{elt tg iter:Expr}{ifs:List Expr}{pos:eM}{g:TG}{n:Nat}{pt:D→Option (List D)}{fi:EvA}{ft:EvT}{fe:EvE}{u m:Ty}
theorem a3a(hi:∀(ρ:List D) (σ:L2.St) (H P:Hp) (F:List az) (ds:List D) (R:It→Hp→Prop),StE X.K M ρ σ H P F→fi ρ=some ds→
   (∀J xs Pr H1,Same H H1→Walks J Pr xs→(∀H2,Same (cut H1 F) H2→Pr H2)→DenAll X.K (cut H1 F) xs ds→R J H1)→wi σ H R)
  (hg:TgR X.K g n pt) (hm:m=.i∨m=.f) (sG:m=.i→∀ρ ds,fi ρ=some ds→∀d∈ds,∀bs,pt d=some bs→e6 bs=true) (sy:tn.length=n)
  (S:StE X.K M ρ σ H P F) (hf:m8 fi js pt ft fe ρ=some d) (q:∀v H',Same H H'→ResR X.K (.new (.l u)) H H' F v d→Q v H') :
  a3P wi g (spT X.K (R0 (.own m) n M js) ft) (spE X.K (R0 (.own m) n M js) fe (.new u)) (a0j tn js) σ H Q:=by
 obtain⟨ds,h1,g1⟩:=bnd hf;by_cases hz:ds.length≤1000000
 ·rw [aE hz] at g1;obtain⟨res,h2,g2⟩:=bnd g1;cases g2
  refine hi ρ σ H P F ds _ S h1 fun J xs Pr H1 e1 hw pK hx Dl hD=>?_
  have pG:=hx.length;have Cw:Dl∉F:=fun z=>by obtain⟨zs,w⟩:=S.lst' e1 Dl z;rw [hD] at w;cases w
  refine a2Z hw (fun i ys σ' H'=>(∃os:L2.St,os.length=n∧σ'=os ++ js.map fun j=>(σ[j]?).getD none)∧H' Dl=some (.lst ys)∧Same H1 H'∧∃(fp:List az) (zs rs:List D),ListAll (Own X.K H' (Dl :: fp ++ F) u) ys zs fp∧fp.Nodup∧(∀a∈fp,H1 a=none)∧Dl∉fp∧
    D9 pt ft fe (js.map fun j=>ρ.getD j .none) (ds.drop i)=some rs∧res=zs ++ rs∧ys.length≤i) ?_ ?_ ?_ ?_
  ·exact⟨⟨_,by rw [fw];exact sy,rfl⟩,i6,k9 hD _,[],[],res,l7,bw,fun a ha=>(nomatch ha),fun h=>(nomatch h),h2,rfl,aD _⟩
  ·rintro i ys σ' H' ⟨_,_,e,_⟩;exact pK H' (m5.trans e)
  ·rintro i x ys σ' H' ot ⟨⟨os,ho,rfl⟩,rA,e2,fp,zs,rs,dN,jT,oS,nT,hc,nJ,ve⟩;obtain⟨d,oU,_⟩:=hx.getV ot;have lM:i < ds.length:=(ay.mp oU).1;have nQ:ds.drop i=d :: ds.drop (i + 1):=by
    rw [fW lM]
    congr 1;exact (ay.mp oU).2
   rw [nQ] at hc;obtain⟨bs,k,xN,lh,zV⟩:=a6o hc;have hfl:∀a∈Dl :: fp,∃zs:MuO,H' a=some zs.1:=fun a ha=>by
    rcases aH.mp ha with z|z
    ·subst z;exact⟨⟨.lst ys,trivial⟩,rA⟩
    ·exact dN.lst (u:=u) (fun v d f q=>q.lst u) a z
   have rf:∀a∈Dl :: fp,H1 a=none:=fun a ha=>by
    rcases aH.mp ha with z|z
    ·subst z;exact hD
    ·exact oS a z
   have S1:StE X.K M ρ σ H' P (Dl :: fp ++ F):=(S.grow e1).more (fp:=Dl :: fp) e2 rf hfl;have wc:DenAll X.K (cut H' (Dl :: fp ++ F)) xs ds:=hx.up (Y5 (fp:=Dl :: fp) e2 rf);obtain⟨d',sZ,vZ⟩:=wc.getV ot;rw [oU] at sZ;cases sZ
   refine hg H' _ x d bs _ _ m5 vZ xN (by rw [aM,ho];lia) fun vs qu vm=>?_
   rw [List.drop_append_of_le_length (by lia),qQ (by lia),cu];have SB:StE X.K (R0 (.own m) n M js) (bs ++ js.map fun j=>ρ.getD j .none) (vs.map some ++ js.map fun j=>(σ[j]?).getD none) H' P (Dl :: fp ++ F):=
    b0i S1 hm qu (fun e=>sG e ρ ds h1 d (ba oU) bs xN) vm rfl
   refine⟨_,P,_,k,SB,lh,fun H3 e3=>?_⟩;rcases zV with⟨rfl,y,rest,zU,vB,rfl⟩|⟨rfl,vB⟩
   ·refine a3N ⟨_,P,_,y,SB.grow e3,zU,fun v H4 e4 ⟨gp,o,nd,fr⟩=>?_⟩;have uw:=e3.trans e4;have xZ:Dl∉gp:=fun z=>by have w:=fr Dl z;rw [e3 _ _ rA] at w;cases w
    have Ax:∀a∈gp,a∉fp:=fun a ha z=>by
     obtain⟨zs,w⟩:=hfl a (ah _ z);have w2:=fr a ha;rw [e3 _ _ w] at w2;cases w2
    have lW:∀a,a∈Dl :: (fp ++ gp) ++ F→a∈gp ++ (Dl :: fp ++ F):=fun a ha=>by
     simp only [bo,aH,aw] at ha ⊢;rcases ha with z|(z|z)|z
     ·exact .inr (.inl z)
     ·exact .inr (.inr (.inl z))
     ·exact .inl z
     ·exact .inr (.inr (.inr z))
    have wg:Same (cut H' (Dl :: fp ++ F)) (cut (upd H4 Dl (.lst (ys ++ [v]))) (Dl :: (fp ++ gp) ++ F)):=fun a o' ha=>by
     obtain⟨n1,n2⟩:=l5 ha;have fA:a≠Dl:=fun z=>n1 (by rw [z];exact av _ aq)
     refine w9 (fun z=>?_) (by rw [g9 fA];exact uw _ _ n2);rcases aw.mp (lW a z) with w|w
     ·have:=fr a w;rw [e3 _ _ n2] at this;cases this
     ·exact n1 w
    have AK:Same (cut H4 (gp ++ (Dl :: fp ++ F))) (cut (upd H4 Dl (.lst (ys ++ [v]))) (Dl :: (fp ++ gp) ++ F)):=fun a o' ha=>by
     obtain⟨n1,n2⟩:=l5 ha;have fA:a≠Dl:=fun z=>n1 (by rw [z];exact ao _ (av _ aq))
     exact w9 (fun z=>n1 (lW a z)) (by rw [g9 fA];exact n2)
    refine⟨uw _ _ rA,?_,⟨_,by rw [ae];exact vm,rfl⟩,i6,?_,fp ++ gp,zs ++ [y],rest,?_,?_,?_,?_,vB,by rw [nJ,be];rfl,by rw [aM];simp;lia⟩
    ·exact kS (bI ve (bI (dE lM) hz)) (by rw [cV];decide)
    ·exact a9V (e2.trans uw) hD _
    ·refine (j8 wg dN fun a ha=>?_).append ?_
     ·rw [g9 (show a≠Dl from fun z=>nT (z ▸ ha))];obtain⟨zs,w⟩:=hfl a (ah _ ha);rw [w,uw _ _ w]
     ·have:=k7 (R:=Own X.K (upd H4 Dl (.lst (ys ++ [v]))) (Dl :: (fp ++ gp) ++ F) u) (o.frame AK u fun a ha=>g9 (fun z=>xZ (z ▸ ha))) l7
      rwa [bV] at this
    ·rw [bG];exact⟨jT,nd,fun a ha b hb e=>Ax b hb (e ▸ ha)⟩
    ·intro a ha;rcases aw.mp ha with z|z
     ·exact oS a z
     ·exact (e2.trans e3).free (fr a z)
    ·intro z;rcases aw.mp z with w|w
     ·exact nT w
     ·exact xZ w
   ·refine a3M ?_;have wg:Same (cut H' (Dl :: fp ++ F)) (cut H3 (Dl :: fp ++ F)):=F5 e3;refine⟨⟨_,by rw [ae];exact vm,rfl⟩,e3 _ _ rA,e2.trans e3,fp,zs,rs,j8 wg dN fun a ha=>?_,jT,oS,nT,vB,nJ,by lia⟩;obtain⟨zs,w⟩:=hfl a (ah _ ha);rw [w,e3 _ _ w]
  ·rintro ys σ' H' ⟨_,rA,e2,fp,zs,rs,dN,jT,oS,nT,hc,nJ,_⟩;rw [pG,mq] at hc;cases hc
   rw [bV] at nJ;subst nJ;refine q (.ref Dl) H' (e1.trans e2) ⟨Dl :: fp,?_,bJ.mpr ⟨nT,jT⟩,fun a ha=>?_⟩
   ·simp only [Own];exact .inr ⟨Dl,ys,res,fp,rfl,rA,rfl,rfl,dN⟩
   ·rcases aH.mp ha with z|z
    ·subst z;exact e1.free hD
    ·exact e1.free (oS a z)
 ·rw [aJ hz] at g1;cases g1
theorem O1(hc:X.calm=true)(hi:PIX X M tg iter fi)(C:N6 scope X.env.kindOf ys js X.N=true)(hg:∀cl Cl s H fp,PG (G7 X (tn ++ ys) scope cl Cl s H fp) tg g)(sS:TgR X.K g n pt)(hm:m=.i∨m=.f)
  (sG:m=.i→∀ρ ds,fi ρ=some ds→∀d∈ds,∀bs,pt d=some bs→e6 bs=true) (sy:tn.length=n)
  (ht:∀cl Cl s H fp,PTs (G7 X (tn ++ ys) scope cl Cl s H fp) ifs (spT X.K (R0 (.own m) n M js) ft)) (he:∀cl Cl s H fp,PX (G7 X (tn ++ ys) scope cl Cl s H fp) (R0 (.own m) n M js) elt fe (.new u))
  (hs:∀x,dR iter X.env x=pure x:=by intro _;rfl):PX X M (.ListComp elt [⟨tg,iter,ifs,0⟩] scope pos) (m8 fi js pt ft fe) (.new (.l u)):=by
 obtain⟨wi,pi,qi⟩:=hi;exact .mk ⟨_,a4F (te:=spE X.K (R0 (.own m) n M js) fe (.new u)) hc pi C hg ht he hs,fun ρ σ H P F d Q S hf q=>a3a qi sS hm sG sy S hf q⟩
theorem B2:∀{X':Cx} {M':List Md},PTs X' [] (spT X'.K M' tT):=fun {X' M'} pins s σ H Q I ⟨ρ,P,F,b,S,hb,q⟩=>by
 cases hb
 exact a7A pins s σ H Q I (q H (Same.refl _))
theorem b4Z(h:PTX X' M' c f):PTs X' [c] (spT X'.K M' f):=b2z h
theorem a3b:(Ty.f=Ty.i)→∀(ρ ds:List D),fi ρ=some ds→∀d∈ds,∀bs,pt d=some bs→e6 bs=true:=fun h=>nomatch h
theorem b0j:(Ty.i=Ty.i)→∀(ρ ds:List D),iI fi ρ=some ds→∀d∈ds,∀bs,pt1 d=some bs→e6 bs=true:=fun _ ρ ds h d hd bs hb=>by
 obtain⟨es,_,g1⟩:=bnd h;by_cases c:e6 es=true
 ·rw [aE c] at g1;cases g1
  cases hb
  simp only [e6,gX];exact z9 c hd
 ·rw [aJ c] at g1;cases g1
theorem b6P:(Ty.i=Ty.i)→∀(ρ ds:List D),iI fi ρ=some ds→∀d∈ds,∀bs,pt2 d=some bs→e6 bs=true:=fun _ ρ ds h d hd bs hb=>by
 obtain⟨es,_,g1⟩:=bnd h;by_cases c:e6 es=true
 ·rw [aE c] at g1;cases g1
  have:=z9 c hd
  match d,hb with
  | .tuple [a,b],hb=>
   cases hb
   simpa only [imm] using this
 ·rw [aJ c] at g1;cases g1
theorem Y8(lo:Int)(n:Nat):e6 (A6 lo n)=true:=by
 have:∀l:List Nat,e6 (l.map fun (k:Nat)=>aU (lo + k))=true:=by
  intro l
  induction l with
  | nil=>simp only [cK,e6]
  | cons x l ih=>simp only [aB,e6,imm,ih,eL]
 exact this _
theorem a4R:(Ty.i=Ty.i)→∀(ρ ds:List D),iR fa ρ=some ds→∀d∈ds,∀bs,pt1 d=some bs→e6 bs=true:=fun _ ρ ds h d hd bs hb=>by
 obtain⟨x,h1,g1⟩:=bnd h;obtain⟨k,h2,g2⟩:=bnd g1
 split at g2
 ·cases g2
  cases hb
  simp only [e6,gX];exact z9 (Y8 _ _) hd
 ·cases g2
end
end VS
namespace VS
open PySem PySem.Spec L2
section
variable {K:ag}{H H' P:Hp}{F F':List az}
theorem StAll.split:∀{A B:List Md} {ρ:List D} {σ:L2.St} {G:List az},StAll K H F (A ++ B) ρ σ G→∃ρ1 ρ2 σ1 σ2 G1 G2,ρ=ρ1 ++ ρ2∧σ=σ1 ++ σ2∧G=G1 ++ G2∧StAll K H F A ρ1 σ1 G1∧StAll K H F B ρ2 σ2 G2
 | [],B,ρ,σ,G,h=>⟨[],ρ,[],σ,[],G,rfl,rfl,rfl,a0l,h⟩
 | m :: A,B,_,_,_,h=>by
  simp only [bo,StAll] at h;obtain⟨d,ρ,o,σ,f,g,rfl,rfl,rfl,h1,h2⟩:=h;obtain⟨ρ1,ρ2,σ1,σ2,G1,G2,rfl,rfl,rfl,h3,h4⟩:=StAll.split h2;exact⟨d :: ρ1,ρ2,o :: σ1,σ2,f ++ G1,G2,rfl,rfl,by rw [be],k6 h1 h3,h4⟩
theorem StAll.join:∀{A B:List Md} {ρ1 ρ2:List D} {σ1 σ2:L2.St} {G1 G2:List az},StAll K H F A ρ1 σ1 G1→StAll K H F B ρ2 σ2 G2→StAll K H F (A ++ B) (ρ1 ++ ρ2) (σ1 ++ σ2) (G1 ++ G2)
 | [],B,_,_,_,_,_,_,h,q=>by
  simp only [StAll] at h;obtain⟨rfl,rfl,rfl⟩:=h;exact q
 | m :: A,B,_,_,_,_,_,_,h,q=>by
  simp only [StAll] at h;obtain⟨d,ρ,o,σ,f,g,rfl,rfl,rfl,h1,h2⟩:=h;rw [be];exact k6 h1 (StAll.join h2 q)
theorem a4S{α:Type}{a b c d:List α}(h:a ++ b=c ++ d)(hl:a.length=c.length):a=c∧b=d:=ni h hl
theorem StAll.splitAt{A B:List Md}{ρ1 ρ2:List D}{σ1 σ2:L2.St}(h:StAll K H F (A ++ B) (ρ1 ++ ρ2) (σ1 ++ σ2) G)(hρ:ρ1.length=A.length)(hσ:σ1.length=A.length):∃G1 G2,G=G1 ++ G2∧StAll K H F A ρ1 σ1 G1∧StAll K H F B ρ2 σ2 G2:=by
 obtain⟨r1,r2,s1,s2,G1,G2,e1,e2,e3,h1,h2⟩:=h.split;obtain⟨l1,l2⟩:=h1.len;obtain⟨rfl,rfl⟩:=a4S e1 (by lia);obtain⟨rfl,rfl⟩:=a4S e2 (by lia);exact⟨G1,G2,e3,h1,h2⟩
theorem R3:∀{us:List Ty} {vs:List V} {ds:List D} {G:List az},StAll K H F (us.map Md.own) ds (vs.map some) G→OwnTs K H F us vs ds G
 | [],vs,ds,G,h=>by
  simp only [cK,StAll] at h;obtain⟨rfl,e,rfl⟩:=h;have:vs=[]:=by simpa using e
  subst this;simp only [OwnTs];exact⟨trivial,trivial,trivial⟩
 | u :: us,vs,ds,G,h=>by
  simp only [aB,StAll] at h;obtain⟨d,ρ,o,σ,f,g,rfl,e,rfl,⟨v,rfl,h1⟩,h2⟩:=h;cases vs with
  | nil=>simp at e
  | cons v' vs=>
   simp only [aB,nh,yI] at e;obtain⟨rfl,rfl⟩:=e;simp only [OwnTs];exact⟨v',vs,d,ρ,f,g,rfl,rfl,rfl,h1,R3 h2⟩
end
def Pend(K:ag)(Mp:List Md)(ρp:List D)(σp:L2.St)(M:List Md)(ρ:List D)(σ:L2.St)(H P:Hp)(F:List az):Prop:=
 ρp.length=Mp.length∧σp.length=Mp.length∧StR K (Mp ++ M) (ρp ++ ρ) (σp ++ σ) H P F
section
variable {K:ag}{Mp M:List Md}{ρp ρ:List D}{σp σ:L2.St}{H H' P:Hp}{F:List az}
theorem Pend.e(h:Pend K Mp ρp σp M ρ σ H P F):StE K M ρ σ H P F:=by
 obtain⟨l1,l2,S⟩:=h;obtain⟨G,h1,h2,h3⟩:=S.all;obtain⟨G1,G2,rfl,_,h4⟩:=h1.splitAt l1 l2;exact⟨⟨G2,h4,fun a ha=>h3 a (ao _ ha)⟩,S.lst,S.prot⟩
theorem Pend.new(h:Pend K Mp ρp σp M ρ σ H P F)(e:Same H H')(o:Own K H' (fp ++ F) u v d fp)(nd:fp.Nodup)(fr:∀a∈fp,H a=none):Pend K (Mp ++ [.own u]) (ρp ++ [d]) (σp ++ [some v]) M ρ σ H' P (fp ++ F):=by
 obtain⟨l1,l2,S⟩:=h;refine⟨by simp [l1],by simp [l2],?_⟩;have S1:=S.more e fr (o.lst u);obtain⟨G,h1,h2,h3⟩:=S.all;obtain⟨G1,G2,rfl,h4,h5⟩:=h1.splitAt l1 l2;have hc:Same (cut H F) (cut H' (fp ++ F)):=Y5 e fr;have k:∀a∈G1 ++ G2,H' a=H a:=fun a ha=>S.toE.keep e a (h3 a ha)
 have q:=(h4.frame hc fun a ha=>k a (av _ ha)).join ((k6 (m:=.own u) (d:=d) (o:=some v) (f:=fp) ⟨v,rfl,o⟩ (h5.frame hc fun a ha=>k a (ao _ ha))));refine⟨⟨G1 ++ (fp ++ G2),by simpa using q,a0m h2 nd fun a ha z=>?_,fun a ha=>?_⟩,S1.lst,S1.prot⟩
 ·obtain⟨ys,w⟩:=S.lst a (h3 a z);rw [fr a ha] at w;cases w
 ·rcases a3U ha with z|z
  ·exact av _ z
  ·exact ao _ (h3 a z)
theorem Pend.move(h:Pend K Mp ρp σp M ρ σ H P F)(hm:M[i]?=some (.own u)):∃v,σ[i]?=some (some v)∧Pend K (Mp ++ [.own u]) (ρp ++ [ρ.getD i .none]) (σp ++ [some v]) (M.set i .dead) ρ σ H P F:=by
 obtain⟨l1,l2,S⟩:=h;obtain⟨G,h1,h2,h3⟩:=S.all;obtain⟨G1,G2,rfl,h4,h5⟩:=h1.splitAt l1 l2;obtain⟨d,o,f,pre,post,e1,e2,⟨v,rfl,e3⟩,rfl,e5⟩:=h5.at_ hm;have q:=e5 H F .dead d (some v) [] (fun _ _=>rfl) (Same.refl _) rfl;rw [set_same e1,set_same e2] at q;refine⟨v,e2,by simp [l1],by simp [l2],⟨⟨G1 ++ (f ++ (pre ++ ([] ++ post))),?_,?_,fun a ha=>h3 a ?_⟩,S.lst,S.prot⟩⟩
 ·have:=h4.join (k6 (m:=.own u) (d:=d) (o:=some v) (f:=f) ⟨v,rfl,e3⟩ q);rw [v6 e1];simpa using this
 ·rw [cu];refine (List.Perm.nodup_iff ?_).mp h2;refine rJ G1 ?_;exact List.perm_append_comm_assoc pre f post
 ·simp only [aw,cu] at ha ⊢;rcases ha with z|z|z|z
  ·exact .inl z
  ·exact .inr (.inr (.inl z))
  ·exact .inr (.inl z)
  ·exact .inr (.inr (.inr z))
end
def PMX(X:Cx)(M:List Md)(e:Expr)(f:EvE)(u:Ty)(M1:List Md):Prop:=
 ∃t,PE X e t∧∀(Mp:List Md) (ρp:List D) (σp:L2.St) (ρ:List D) (σ:L2.St) (H P:Hp) (F:List az) (d:D) (Q:VK),Pend X.K Mp ρp σp M ρ σ H P F→f ρ=some d→
  (∀v H' F',Same H H'→Pend X.K (Mp ++ [.own u]) (ρp ++ [d]) (σp ++ [some v]) M1 ρ σ H' P F'→Q v H')→t σ H Q
def PMA(X:Cx)(M:List Md)(es:List Expr)(f:EvA)(us:List Ty)(M1:List Md):Prop:=
 ∃t,PA X es t∧∀(Mp:List Md) (ρp:List D) (σp:L2.St) (ρ:List D) (σ:L2.St) (H P:Hp) (F:List az) (ds:List D) (Q:List V→Hp→Prop),Pend X.K Mp ρp σp M ρ σ H P F→f ρ=some ds→
  (∀vs H' F',vs.length=us.length→ds.length=us.length→Same H H'→Pend X.K (Mp ++ us.map .own) (ρp ++ ds) (σp ++ vs.map some) M1 ρ σ H' P F'→Q vs H')→t σ H Q
section
variable {X:Cx}{M M1 M2:List Md}{e:Expr}{es:List Expr}{f:EvE}{fa:EvA}{u:Ty}{us:List Ty}{pos:eM}
theorem b9(h:PX X M e f (.new u)):PMX X M e f u M:=by
 obtain⟨t,p,q⟩:=h.out;refine⟨t,p,fun Mp ρp σp ρ σ H P F d Q S hf k=>q ρ σ H P F d Q S.e hf fun v H' e ⟨fp,o,nd,fr⟩=>k v H' _ e (S.new e o nd fr)⟩
theorem E8(i:Nat)(hN:X.N[i]?=some x:=by rfl)(hv:Vis X.env.scope x:=by first|exact bO rfl|exact bQ (bO rfl)|exact bQ (bQ rfl))(hd:(x == ("__debug__":bM))=false:=by decide)
  (hW:(x == ("__classdict__":bM))=false:=by decide) (hm:M[i]?=some (.own u):=by rfl):PMX X M (.Name x pos) (a7 i) u (M.set i .dead):=by
 refine⟨_,A5 hN hv hd hW,fun Mp ρp σp ρ σ H P F d Q S hf k=>?_⟩;cases hf
 obtain⟨v,e,S'⟩:=S.move hm;exact⟨v,e,k v H F (Same.refl _) S'⟩
theorem b2M:PMA X M [] e7 [] M:=⟨_,r9,fun Mp ρp σp ρ σ H P F ds Q S hf k=>by
 cases hf
 exact k [] H F rfl rfl (Same.refl _) (by simpa using S)⟩
theorem a4T(h:PMX X M e f u M1)(hr:PMA X M1 es fa us M2)(hs:aF (e :: es) X.env=(false,cO e X.env) :: aF es X.env:=by rfl):PMA X M (e :: es) (a8 f fa) (u :: us) M2:=by
 obtain⟨t,p,q⟩:=h;obtain⟨tr,pr,qr⟩:=hr;refine⟨_,l3 p pr hs,fun Mp ρp σp ρ σ H P F ds Q S hf k=>?_⟩;obtain⟨x,h1,g1⟩:=bnd hf;obtain⟨xs,h2,g2⟩:=bnd g1;cases g2
 refine q Mp ρp σp ρ σ H P F x _ S h1 fun v H1 F1 e1 S1=>qr _ _ _ ρ σ H1 P F1 xs _ S1 h2 fun vs H2 F2 l1 l2 e2 S2=>k (v :: vs) H2 F2 (by simp [l1]) (by simp [l2]) (e1.trans e2) ?_
 simpa using S2
theorem Pend.pack{us:List Ty}{vs:List V}(h:Pend K (Mp ++ us.map .own) (ρp ++ ds) (σp ++ vs.map some) M ρ σ H P F)
  (lp:ρp.length=Mp.length) (lq:σp.length=Mp.length) (l1:vs.length=us.length) (l2:ds.length=us.length) (hp:H p=none)
  (mk:∀G,OwnTs K H F us vs ds G→G.Nodup→(∀a∈G,a∈F)→∃pV F',(∀a,a∈F'↔a∈pV∨a∈F)∧(∀a∈pV,a=p∨a∈G)∧pV.Nodup∧Own K (upd H p o) F' u (.ref p) d pV∧(p∈pV→∃ys,o=.lst ys)) :
  ∃F',Pend K (Mp ++ [.own u]) (ρp ++ [d]) (σp ++ [some (.ref p)]) M ρ σ (upd H p o) P F':=by
 obtain⟨_,_,S⟩:=h;obtain⟨G,h1,h2,h3⟩:=S.all;obtain⟨G1,G2,rfl,h4,h5⟩:=h1.splitAt (by simp [lp,l2]) (by simp [lq,l1]);obtain⟨G3,G4,rfl,h6,h7⟩:=h4.splitAt lp lq;have Aa:G4.Nodup:=by rw [bG] at h2;exact (bG.mp h2.1).2.1
 obtain⟨pV,F',rq,pN,jT,own,gG⟩:=mk G4 (R3 h7) Aa fun a ha=>h3 a (av _ (ao _ ha))
 have xK:p∉F:=fun z=>by obtain⟨ys,w⟩:=S.lst p z;rw [hp] at w;cases w
 have hc:Same (cut H F) (cut (upd H p o) F'):=fun a o' ha=>by
  obtain⟨n1,n2⟩:=l5 ha;have fA:a≠p:=fun z=>by rw [z,hp] at n2;cases n2
  refine w9 (fun z=>?_) (by rw [g9 fA];exact n2);rcases (rq a).mp z with w|w
  ·rcases pN a w with y|y
   ·exact fA y
   ·exact n1 (h3 a (av _ (ao _ y)))
  ·exact n1 w
 have k:∀a∈F,upd H p o a=H a:=fun a ha=>g9 fun z=>xK (z ▸ ha)
 have q:=(h6.frame hc fun a ha=>k a (h3 a (av _ (av _ ha)))).join (k6 (m:=.own u) (d:=d) (o:=some (.ref p)) (f:=pV) ⟨_,rfl,own⟩ (h5.frame hc fun a ha=>k a (h3 a (ao _ ha))));refine⟨F',by simp [lp],by simp [lq],⟨⟨G3 ++ (pV ++ G2),by simpa using q,a0m ?_ jT fun a ha z=>?_,fun a ha=>?_⟩,fun a ha=>?_,S.prot.trans hc⟩⟩
 ·rw [be] at h2;exact M3 h2
 ·rcases pN a ha with w|w
  ·subst w;exact xK (h3 a (by
    rcases aw.mp z with y|y
    ·exact av _ (av _ y)
    ·exact ao _ y))
  ·rw [be] at h2;exact a0n h2 a w z
 ·rcases a3U ha with z|z
  ·exact (rq a).mpr (.inl z)
  ·refine (rq a).mpr (.inr (h3 a ?_));rcases aw.mp z with y|y
   ·exact av _ (av _ y)
   ·exact ao _ y
 ·rcases (rq a).mp ha with z|z
  ·rcases pN a z with w|w
   ·subst w;obtain⟨ys,rfl⟩:=gG z;exact⟨⟨.lst ys,trivial⟩,i6⟩
   ·have ko:=h3 a (av _ (ao _ w));obtain⟨ys,y⟩:=S.lst a ko;exact⟨ys,by rw [k a ko];exact y⟩
  ·obtain⟨ys,y⟩:=S.lst a z;exact⟨ys,by rw [k a z];exact y⟩
theorem b2N{j}(h:PMA X M es fa us M1)(hn:us.length≤1000:=by decide):PMX X M (.Tuple es j pos) (F6 fa) (.tp us) M1:=by
 obtain⟨t,p,q⟩:=h;refine⟨_,a6d p,fun Mp ρp σp ρ σ H P F d Q S hf k=>?_⟩;obtain⟨ds,h1,g1⟩:=bnd hf;cases g1
 refine q Mp ρp σp ρ σ H P F ds _ S h1 fun vs H1 F1 l1 l2 e1 S1=>⟨by rw [l1];exact dE (U3 hn),fun x hx=>?_⟩
 have vg:x∉F1:=fun z=>by obtain⟨ys,w⟩:=S1.2.2.lst x z;rw [hx] at w;cases w
 obtain⟨F2,S2⟩:=S1.pack (o:=.tup vs) (u:=.tp us) (d:=.tuple ds) S.1 S.2.1 l1 l2 hx fun G o nd sub=>by
  refine⟨G,F1,fun a=>⟨fun z=>.inr z,fun z=>z.elim (sub a) id⟩,fun a ha=>.inr ha,nd,?_,fun z=>absurd (sub x z) vg⟩;simp only [Own];refine⟨x,vs,ds,rfl,i6,vg,rfl,o.frame (F5 (k9 hx _)) us fun a ha=>g9 fun z=>vg (z ▸ sub a ha)⟩
 exact k _ _ F2 (e1.trans (k9 hx _)) S2
end
end VS
namespace VS
open PySem PySem.Spec L2
def dAt:Ty→D→List Nat→Option (Ty × D)
 | u,d,[]=>some (u,d)
 | .l u,.list ds,j :: p=>(ds[j]?).bind fun d=>dAt u d p
 | .tp us,.tuple ds,j :: p=>(us[j]?).bind fun u=>(ds[j]?).bind fun d=>dAt u d p
 | _,_,_=>none
def a1I:D→List Nat→D→D
 | _,[],e=>e
 | .list ds,j :: p,e=>.list (ds.set j (a1I (ds.getD j .none) p e))
 | .tuple ds,j :: p,e=>.tuple (ds.set j (a1I (ds.getD j .none) p e))
 | d,_,_=>d
def wk(H:Hp):V→List Nat→V→Prop
 | v,[],w=>w=v
 | v,j :: p,w=>∃a xs v1,v=.ref a∧(H a=some (.lst xs)∨H a=some (.tup xs))∧xs[j]?=some v1∧wk H v1 p w
theorem b3X(e:Same H H'):∀{p:List Nat} {v w:V},wk H v p w→wk H' v p w
 | [],_,_,h=>h
 | j :: p,_,_,h=>by
  obtain⟨a,xs,v1,h1,h2,h3,h4⟩:=h;exact⟨a,xs,v1,h1,h2.imp (e _ _) (e _ _),h3,b3X e h4⟩
section
variable {K:ag}{H H':Hp}{F F':List az}
theorem ListAll.zip:∀{ds:List D} {xs:List V} {fp:List az} {j:Nat} {d:D},ListAll (Own K H F u) xs ds fp→ds[j]?=some d→
  ∃v f pre post,xs[j]?=some v∧Own K H F u v d f∧fp=pre ++ (f ++ post)∧
   ∀(H':Hp) (F':List az) (v':V) (d':D) (f':List az),(∀a∈pre ++ post,H' a=H a)→Same (cut H F) (cut H' F')→Own K H' F' u v' d' f'→ListAll (Own K H' F' u) (xs.set j v') (ds.set j d') (pre ++ (f' ++ post))
 | [],_,_,j,d,_,e=>by simp at e
 | d0 :: ds,_,_,0,d,h,e=>by
  obtain⟨v,r,f,g,rfl,rfl,h1,h2⟩:=h.cons_inv;have:d0=d:=by simpa using e
  subst this;refine⟨v,f,[],g,rfl,h1,rfl,fun H' F' v' d' f' k e' o=>?_⟩;show ListAll (Own K H' F' u) (v' :: r) (d' :: ds) (f' ++ g);exact k7 o (j8 e' h2 k)
 | d0 :: ds,_,_,j + 1,d,h,e=>by
  obtain⟨v,r,f,g,rfl,rfl,h1,h2⟩:=h.cons_inv;obtain⟨w,f',pre,post,e1,e2,e3,e4⟩:=ListAll.zip (j:=j) h2 (by simpa using e);subst e3;refine⟨w,f',f ++ pre,post,by simpa using e1,e2,by rw [be],fun H' F' v' d' g' k e' o=>?_⟩;rw [be];refine k7 (h1.frame e' u fun a ha=>k a ?_) (e4 H' F' v' d' g' (fun a ha=>k a ?_) e' o)
  ·rw [be];exact av _ ha
  ·rw [be];exact ao _ ha
theorem OwnTs.zip:∀{us:List Ty} {ds:List D} {xs:List V} {fp:List az} {j:Nat} {u:Ty} {d:D},OwnTs K H F us xs ds fp→us[j]?=some u→ds[j]?=some d→
  ∃v f pre post,xs[j]?=some v∧Own K H F u v d f∧fp=pre ++ (f ++ post)∧
   ∀(H':Hp) (F':List az) (d':D) (f':List az),(∀a∈pre ++ post,H' a=H a)→Same (cut H F) (cut H' F')→Own K H' F' u v d' f'→OwnTs K H' F' us xs (ds.set j d') (pre ++ (f' ++ post))
 | [],_,_,_,j,u,d,_,e,_=>by simp at e
 | u0 :: us,_,_,_,0,u,d,h,e,e'=>by
  simp only [OwnTs] at h;obtain⟨v,r,d0,ds,f,g,rfl,rfl,rfl,h1,h2⟩:=h;have:u0=u:=by simpa using e
  subst this;have:d0=d:=by simpa using e'
  subst this;refine⟨v,f,[],g,rfl,h1,rfl,fun H' F' d' f' k e' o=>?_⟩;show OwnTs K H' F' (u0 :: us) (v :: r) (d' :: ds) (f' ++ g);simp only [OwnTs];exact⟨v,r,d',ds,f',g,rfl,rfl,rfl,o,h2.frame e' us k⟩
 | u0 :: us,_,_,_,j + 1,u,d,h,e,e'=>by
  simp only [OwnTs] at h;obtain⟨v,r,d0,ds,f,g,rfl,rfl,rfl,h1,h2⟩:=h;obtain⟨w,f',pre,post,e1,e2,e3,e4⟩:=OwnTs.zip (j:=j) h2 (by simpa using e) (by simpa using e');subst e3;refine⟨w,f',f ++ pre,post,by simpa using e1,e2,by rw [be],fun H' F' d' g' k e' o=>?_⟩;rw [be];show OwnTs K H' F' (u0 :: us) (v :: r) (d0 :: ds.set j d') (f ++ (pre ++ (g' ++ post)));simp only [OwnTs];refine⟨v,r,d0,_,f,_,rfl,rfl,rfl,h1.frame e' u0 fun a ha=>k a ?_,e4 H' F' d' g' (fun a ha=>k a ?_) e' o⟩
  ·rw [be];exact av _ ha
  ·rw [be];exact ao _ ha
theorem Own.path:∀(p:List Nat) {u t:Ty} {v w:V} {d:D} {fp:List az} {ds:List D},Own K H F u v d fp→dAt u d p=some (.l t,.list ds)→wk H v p w→
  ∃b xs fs pre post,w=.ref b∧H b=some (.lst xs)∧fp=pre ++ ((b :: fs) ++ post)∧ListAll (Own K H F t) xs ds fs∧
   ∀(H':Hp) (F':List az) (jt:List V) (gn:List D) (jj:List az),(∀a∈pre ++ post,H' a=H a)→Same (cut H F) (cut H' F')→H' b=some (.lst jt)→ListAll (Own K H' F' t) jt gn jj→
    Own K H' F' u v (a1I d p (.list gn)) (pre ++ ((b :: jj) ++ post))
 | [],u,t,v,w,d,fp,ds,h,hd,hw=>by
  have ir:some (u,d)=some (.l t,.list ds):=hd;cases ir
  have zK:w=v:=hw;subst zK;simp only [Own] at h;rcases h with⟨_,hi,_⟩|⟨a,xs,gn,fs,rfl,h1,h2,rfl,h3⟩
  ·simp only [imm] at hi;cases hi
  ·cases h2
   refine⟨a,xs,fs,[],[],rfl,h1,by simp,h3,fun H' F' jt gn jj _ _ k o=>?_⟩;simp only [Own,a1I,cu,bV];exact .inr ⟨a,jt,gn,jj,rfl,k,rfl,rfl,o⟩
 | j :: p,u,t,v,w,d,fp,ds,h,hd,hw=>by
  obtain⟨a0,rL,v1,rfl,qW,pM,hw⟩:=hw;cases u with
  | l u=>
   cases d with
   | list es=>
    have ir:(es[j]?).bind (fun d=>dAt u d p)=some (.l t,.list ds):=hd;obtain⟨d1,g1,g2⟩:=bnd ir;simp only [Own] at h;rcases h with⟨_,hi,_⟩|⟨a,xs,es',fs,e0,h1,h2,rfl,h3⟩
    ·simp only [imm] at hi;cases hi
    ·cases h2
     cases e0
     have sr:rL=xs:=by rcases qW with z|z <;> rw [h1] at z <;> cases z;rfl
     subst sr;obtain⟨v2,f,pre,post,z1,z2,rfl,z4⟩:=h3.zip g1;rw [pM] at z1;cases z1
     obtain⟨b,ys,jj,kM,ji,rfl,q2,rfl,q4,q5⟩:=Own.path p z2 g2 hw;refine⟨b,ys,jj,a0 :: (pre ++ kM),ji ++ post,rfl,q2,by simp,q4,fun H' F' jt gn wD k e' hb o=>?_⟩;have k1:∀a∈pre ++ post,H' a=H a:=fun a ha=>k a (by simp only [aw,aH] at ha ⊢;rcases ha with z|z;exact .inl (.inr (.inl z));exact .inr (.inr z))
     have k2:∀a∈kM ++ ji,H' a=H a:=fun a ha=>k a (by simp only [aw,aH] at ha ⊢;rcases ha with z|z;exact .inl (.inr (.inr z));exact .inr (.inl z))
     have o1:=q5 H' F' jt gn wD k2 e' hb o;have o2:=z4 H' F' _ _ _ k1 e' o1;rw [set_same pM] at o2;show Own K H' F' (.l u) (.ref a0) (.list (es.set j (a1I (es.getD j .none) p (.list gn)))) _;rw [v6 g1];simp only [Own];refine .inr ⟨a0,rL,_,_,rfl,(k a0 (by simp)).trans h1,rfl,?_,o2⟩;simp
   | _=>cases hd
  | tp us=>
   cases d with
   | tuple es=>
    have ir:(us[j]?).bind (fun u=>(es[j]?).bind fun d=>dAt u d p)=some (.l t,.list ds):=hd;obtain⟨u1,g0,Be⟩:=bnd ir;obtain⟨d1,g1,g2⟩:=bnd Be;simp only [Own] at h;obtain⟨a,xs,es',e0,h1,h0,h2,h3⟩:=h;cases h2
    cases e0
    have sr:rL=xs:=by rcases qW with z|z <;> rw [h1] at z <;> cases z;rfl
    subst sr;obtain⟨v2,f,pre,post,z1,z2,rfl,z4⟩:=h3.zip g0 g1;rw [pM] at z1;cases z1
    obtain⟨b,ys,jj,kM,ji,rfl,q2,rfl,q4,q5⟩:=Own.path p z2 g2 hw;refine⟨b,ys,jj,pre ++ kM,ji ++ post,rfl,q2,by simp,q4,fun H' F' jt gn wD k e' hb o=>?_⟩;have k1:∀a∈pre ++ post,H' a=H a:=fun a ha=>k a (by simp only [aw] at ha ⊢;rcases ha with z|z;exact .inl (.inl z);exact .inr (.inr z))
    have k2:∀a∈kM ++ ji,H' a=H a:=fun a ha=>k a (by simp only [aw] at ha ⊢;rcases ha with z|z;exact .inl (.inr z);exact .inr (.inl z))
    have o1:=q5 H' F' jt gn wD k2 e' hb o;have o2:=z4 H' F' _ _ k1 e' o1;show Own K H' F' (.tp us) (.ref a0) (.tuple (es.set j (a1I (es.getD j .none) p (.list gn)))) _;rw [v6 g1];obtain⟨n1,n2⟩:=l5 (e' a0 _ (w9 h0 h1));simp only [Own];refine⟨a0,rL,_,rfl,n2,n1,rfl,?_⟩;simpa using o2
   | _=>cases hd
  | i=>cases hd
  | f=>cases hd
  | d kt u=>cases hd
theorem F8{N O:List az}(h:O.Nodup)(k:∀a,N.count a≤O.count a):N.Nodup:=cA.mpr fun a=>bI (k a) (cA.mp h a)
theorem Pend.put(h:Pend K ([] ++ [.own t]) ([] ++ [d]) ([] ++ [some v]) M ρ σ H P F)(hm:M[i]?=some (.own u))(h0:σ[i]?=some (some v0))(hd:dAt u (ρ.getD i .none) p=some (.l t,.list ds))(hw:wk H v0 p w) :
  ∃b xs,w=.ref b∧H b=some (.lst xs)∧xs.length=ds.length∧StR K M (ρ.set i (a1I (ρ.getD i .none) p (.list (ds ++ [d])))) σ (upd H b (.lst (xs ++ [v]))) P F∧
   ∀j,j < ds.length→StR K M (ρ.set i (a1I (ρ.getD i .none) p (.list (ds.set j d)))) σ (upd H b (.lst (xs.set j v))) P F:=by
 obtain⟨_,_,S⟩:=h;obtain⟨G,h1,h2,h3⟩:=S.all;have jZ:StAll K H F (.own t :: M) (d :: ρ) (some v :: σ) G:=by simpa using h1
 simp only [StAll] at jZ;obtain⟨d',ρ',o',σ',fv,G2,e1,e2,rfl,⟨v',e3,ov⟩,h5⟩:=jZ;cases e1
 cases e2
 cases e3
 obtain⟨dd,oo,f,pre,post,q1,q2,⟨v2,rfl,q3⟩,rfl,q5⟩:=h5.at_ hm;rw [h0] at q2;cases q2
 rw [v6 q1] at hd;obtain⟨b,xs,fs,kM,ji,rfl,r2,rfl,r4,r5⟩:=q3.path p hd hw;have tx:b∈F:=h3 b (by simp);have eO:∀o,Same (cut H F) (cut (upd H b o) F):=fun o a o' ha=>by
  obtain⟨n1,n2⟩:=l5 ha;exact w9 n1 (by rw [g9 (show a≠b from fun z=>n1 (z ▸ tx))];exact n2)
 have gK:∀a,a≠b∨(pre ++ post).count a=0∧(kM ++ ji).count a=0∧fs.count a=0∧fv.count a=0:=fun a=>by
  by_cases e:a=b
  ·subst e;have:=cA.mp h2 a;simp only [aY,bo,fN] at this ⊢;exact .inr ⟨by lia,by lia,by lia,by lia⟩
  ·exact .inl e
 have kk:∀(l:List az) (o:HO),(∀a,a=b→l.count a=0)→∀a∈l,upd H b o a=H a:=fun l o hc a ha=>g9 fun z=>by
  have:=hc a z;rw [df] at this;exact this ha
 have c1:∀a,a=b→(pre ++ post).count a=0:=fun a e=>((gK a).resolve_left (fun n=>n e)).1
 have c2:∀a,a=b→(kM ++ ji).count a=0:=fun a e=>((gK a).resolve_left (fun n=>n e)).2.1
 have c3:∀a,a=b→fs.count a=0:=fun a e=>((gK a).resolve_left (fun n=>n e)).2.2.1
 have c4:∀a,a=b→fv.count a=0:=fun a e=>((gK a).resolve_left (fun n=>n e)).2.2.2
 have fin:∀(jt:List V) (gn:List D) (jj:List az),ListAll (Own K (upd H b (.lst jt)) F t) jt gn jj→(∀a,jj.count a≤fs.count a + fv.count a)→StR K M (ρ.set i (a1I dd p (.list gn))) σ (upd H b (.lst jt)) P F:=fun jt gn jj ha jY=>by
  have o1:=r5 (upd H b (.lst jt)) F jt gn jj (kk _ _ c2) (eO _) i6 ha;have q:=q5 (upd H b (.lst jt)) F (.own u) (a1I dd p (.list gn)) (some v0) _ (kk _ _ c1) (eO _) ⟨v0,rfl,o1⟩;rw [set_same (l:=σ) h0,set_same (l:=M) hm] at q;refine⟨⟨_,q,F8 h2 fun a=>?_,fun a ha=>?_⟩,fun a ha=>?_,S.prot.trans (eO _)⟩
  ·have:=jY a;simp only [aY,bo,cR];lia
  ·have hc:0 < (fv ++ (pre ++ (kM ++ (b :: fs ++ ji) ++ post))).count a:=by
    have h0:=cB.mpr ha;have:=jY a;simp only [aY,bo,cR] at h0 ⊢;lia
   exact h3 a (cB.mp hc)
  ·by_cases e:a=b
   ·subst e;exact⟨⟨.lst jt,trivial⟩,i6⟩
   ·obtain⟨ys,y⟩:=S.lst a ha;exact⟨ys,by rw [g9 e];exact y⟩
 rw [v6 q1];refine⟨b,xs,rfl,r2,r4.length,fin (xs ++ [v]) (ds ++ [d]) (fs ++ fv) ?_ fun a=>by rw [aY];exact aD _,fun j hj=>?_⟩
 ·refine (j8 (eO _) r4 (kk _ _ c3)).append ?_;have:=k7 (R:=Own K (upd H b (.lst (xs ++ [v]))) F t) (ov.frame (eO _) t (kk _ _ c4)) l7
  rwa [bV] at this
 ·obtain⟨v3,f3,a1,a2,s1,s2,rfl,s4⟩:=r4.zip (af hj);have c5:∀a,a=b→(a1 ++ a2).count a=0:=fun a e=>by have:=c3 a e;simp only [aY] at this ⊢;lia
  refine fin (xs.set j v) (ds.set j d) (a1 ++ (fv ++ a2)) (s4 _ F v d fv (kk _ _ c5) (eO _) (ov.frame (eO _) t (kk _ _ c4))) fun a=>?_
  simp only [aY];lia
end
end VS
namespace VS
open PySem PySem.Spec L2
inductive Out where
 | nx (ρ:List D)|rt (d:D)|bk (ρ:List D)|ct (ρ:List D)
abbrev EvS:=List D→Option Out
def EndsOk(K:ag)(P:Hp)(u:Ty)(ML M:List Md)(D:Ends)(o:Out):Prop:=
 match o with
 | .nx ρ=>∀σ H F,StR K M ρ σ H P F→D.nx σ H
 | .rt d=>∀v H fp,Own K H fp u v d fp→fp.Nodup→(∀a∈fp,P a=none)→Same P H→D.rt v H
 | .bk ρ=>∀σ H F,StR K ML ρ σ H P F→D.bk σ H
 | .ct ρ=>∀σ H F,StR K ML ρ σ H P F→D.ct σ H
def spS(K:ag)(u:Ty)(ML M:List Md)(g:EvS)(M':List Md):TS:=fun D σ H=>∃(ρ:List VS.D) (P:Hp) (F:List az) (o:Out),StR K M ρ σ H P F∧g ρ=some o∧EndsOk K P u ML M' D o
def PSX(X:Cx)(u:Ty)(ML M:List Md)(st:g_)(g:EvS)(M':List Md):Prop:=PS X st (spS X.K u ML M g M')
def PSsX(X:Cx)(u:Ty)(ML M:List Md)(kY:List g_)(g:EvS)(M':List Md):Prop:=PSs X kY (spS X.K u ML M g M')
section
variable {X:Cx}{u:Ty}{ML M M':List Md}{st:g_}{kY:List g_}{g:EvS}
theorem PSX.mk(h:∃t,PS X st t∧∀(D:Ends) (ρ:List VS.D) (σ:L2.St) (H P:Hp) (F:List az) (o:Out),StR X.K M ρ σ H P F→g ρ=some o→EndsOk X.K P u ML M' D o→t D σ H):PSX X u ML M st g M':=by
 obtain⟨t,p,q⟩:=h;exact fun pins s σ H D I ⟨ρ,P,F,o,S,hg,k⟩=>p pins s σ H D I (q D ρ σ H P F o S hg k)
theorem PSX.out(h:PSX X u ML M st g M'):∃t,PS X st t∧∀(D:Ends) (ρ:List VS.D) (σ:L2.St) (H P:Hp) (F:List az) (o:Out),StR X.K M ρ σ H P F→g ρ=some o→EndsOk X.K P u ML M' D o→t D σ H:=
 ⟨_,h,fun _ ρ _ _ P F o S hg k=>⟨ρ,P,F,o,S,hg,k⟩⟩
theorem PSsX.mk(h:∃t,PSs X kY t∧∀(D:Ends) (ρ:List VS.D) (σ:L2.St) (H P:Hp) (F:List az) (o:Out),StR X.K M ρ σ H P F→g ρ=some o→EndsOk X.K P u ML M' D o→t D σ H):PSsX X u ML M kY g M':=by
 obtain⟨t,p,q⟩:=h;exact fun pins s σ H D I ⟨ρ,P,F,o,S,hg,k⟩=>p pins s σ H D I (q D ρ σ H P F o S hg k)
theorem PSsX.out(h:PSsX X u ML M kY g M'):∃t,PSs X kY t∧∀(D:Ends) (ρ:List VS.D) (σ:L2.St) (H P:Hp) (F:List az) (o:Out),StR X.K M ρ σ H P F→g ρ=some o→EndsOk X.K P u ML M' D o→t D σ H:=
 ⟨_,h,fun _ ρ _ _ P F o S hg k=>⟨ρ,P,F,o,S,hg,k⟩⟩
end
def Wk(M M1:List Md):Prop:=∀(K:ag) (ρ:List D) (σ:L2.St) (H P:Hp) (F:List az),StR K M ρ σ H P F→∃F',StR K M1 ρ σ H P F'
theorem o9:Wk M M:=fun _ _ _ _ _ F S=>⟨F,S⟩
theorem Wk.trans(a:Wk M M1)(b:Wk M1 M2):Wk M M2:=fun K ρ σ H P F S=>by
 obtain⟨F1,S1⟩:=a K ρ σ H P F S;exact b K ρ σ H P F1 S1
theorem k8{M:List Md}(i:Nat)(h:M[i]?=some m:=by rfl):Wk M (M.set i .dead):=fun K ρ σ H P F S=>⟨F,S.dead h⟩
theorem a6p{M:List Md}(i:Nat)(h:M[i]?=some (.own u):=by rfl):Wk M (M.set i (.own .f)):=fun K ρ σ H P F S=>S.freeze h
def u3:EvS:=fun ρ=>some (.nx ρ)
def f7(a b:EvS):EvS:=fun ρ=>(a ρ).bind fun o=>match o with
 | .nx ρ'=>b ρ'
 | o=>some o
def i7(i:Nat)(f:EvE):EvS:=fun ρ=>(f ρ).bind fun d=>some (.nx (ρ.set i d))
def asP:D→Option (D × D)
 | .tuple [a,b]=>some (a,b)
 | _=>none
def a1J(i j:Nat)(f:EvE):EvS:=fun ρ=>(f ρ).bind fun d=>(asP d).bind fun p=>some (.nx ((ρ.set i p.1).set j p.2))
def l6(f:EvE):EvS:=fun ρ=>(f ρ).bind fun d=>some (.rt d)
def sEx(f:EvE):EvS:=fun ρ=>(f ρ).bind fun _=>some (.nx ρ)
def sIf(c:EvT)(a b:EvS):EvS:=fun ρ=>(c ρ).bind fun k=>if k then a ρ else b ρ
def sNo:EvS:=fun _=>none
def R4(set:List D→D→Option (List D))(g:EvS):List D→List D→Option Out
 | [],ρ=>some (.nx ρ)
 | d :: ds,ρ=>(set ρ d).bind fun ρ1=>(g ρ1).bind fun o=>match o with
  | .nx ρ'=>R4 set g ds ρ'
  | .ct ρ'=>R4 set g ds ρ'
  | .bk ρ'=>some (.nx ρ')
  | .rt d=>some (.rt d)
def u5(i:Nat):List D→D→Option (List D):=fun ρ d=>some (ρ.set i d)
def a6q(i j:Nat):List D→D→Option (List D):=fun ρ d=>(asP d).bind fun p=>some ((ρ.set i p.1).set j p.2)
def D5(fi:EvA)(set:List D→D→Option (List D))(g:EvS):EvS:=fun ρ=>(fi ρ).bind fun ds=>R4 set g ds ρ
def whL(c:EvT)(g:EvS):Nat→List D→Option Out
 | 0,_=>none
 | n + 1,ρ=>(c ρ).bind fun k=>if k then (g ρ).bind fun o=>match o with
  | .nx ρ'=>whL c g n ρ'
  | .ct ρ'=>whL c g n ρ'
  | .bk ρ'=>some (.nx ρ')
  | .rt d=>some (.rt d)
  else some (.nx ρ)
def sWh(n:List D→Nat)(c:EvT)(g:EvS):EvS:=fun ρ=>whL c g (n ρ) ρ
section
variable {K:ag}{M M1:List Md}{ρ:List D}{σ:L2.St}{H P:Hp}{F:List az}
theorem StR.pend(S:StR K M ρ σ H P F):Pend K [] [] [] M ρ σ H P F:=⟨rfl,rfl,S⟩
theorem Pend.store(h:Pend K (Mp ++ [.own u]) (ρp ++ [d]) (σp ++ [some v]) M ρ σ H P F)(lp:ρp.length=Mp.length)(lq:σp.length=Mp.length)(hm:M[i]?=some m) :
  Pend K Mp ρp σp (M.set i (.own u)) (ρ.set i d) (σ.set i (some v)) H P F:=by
 obtain⟨_,_,S⟩:=h;obtain⟨G,h1,h2,h3⟩:=S.all;obtain⟨G1,G2,rfl,h4,h5⟩:=h1.splitAt (by simp [lp]) (by simp [lq]);obtain⟨G3,G4,rfl,h6,h7⟩:=h4.splitAt lp lq;have h8:OwnTs K H F [u] [v] [d] G4:=R3 (us:=[u]) (vs:=[v]) h7;simp only [OwnTs] at h8;obtain⟨v',r,d',e,f,g,e1,e2,rfl,o,rfl,rfl,rfl⟩:=h8;cases e1
 cases e2
 obtain⟨d0,o0,f0,pre,post,q1,q2,q3,rfl,q5⟩:=h5.at_ hm;have q:=h6.join (q5 H F (.own u) d (some v) f (fun _ _=>rfl) (Same.refl _) ⟨v,rfl,o⟩);refine⟨lp,lq,⟨⟨_,q,F8 h2 fun a=>?_,fun a ha=>h3 a ?_⟩,S.lst,S.prot⟩⟩
 ·simp only [aY];lia
 ·simp only [aw,bV] at ha ⊢;rcases ha with z|z|z|z
  ·exact .inl (.inl z)
  ·exact .inr (.inl z)
  ·exact .inl (.inr z)
  ·exact .inr (.inr (.inr z))
theorem Pend.st(h:Pend K [] [] [] M ρ σ H P F):StR K M ρ σ H P F:=h.2.2
theorem Pend.one(h:Pend K ([] ++ [.own u]) ([] ++ [d]) ([] ++ [some v]) M ρ σ H P F):∃fp,Own K H F u v d fp∧fp.Nodup∧∀a∈fp,a∈F:=by
 obtain⟨_,_,S⟩:=h;obtain⟨G,h1,h2,h3⟩:=S.all;obtain⟨G1,G2,rfl,h4,h5⟩:=h1.splitAt (A:=[] ++ [.own u]) (ρ1:=[] ++ [d]) (σ1:=[] ++ [some v]) rfl rfl;have h8:OwnTs K H F [u] [v] [d] G1:=R3 (us:=[u]) (vs:=[v]) h4;simp only [OwnTs] at h8;obtain⟨v',r,d',e,f,g,e1,e2,rfl,o,rfl,rfl,rfl⟩:=h8;cases e1
 cases e2
 rw [bV] at h2 h3;exact⟨f,o,(bG.mp h2).1,fun a ha=>h3 a (av _ ha)⟩
def b3Y(u u1 u2:Ty):Prop:=(u=.f∧u1=.f∧u2=.f)∨(u=.i∧u1=.i∧u2=.i)∨u=.tp [u1,u2]
theorem Pend.untup(h:Pend K ([] ++ [.own u]) ([] ++ [.tuple [d1,d2]]) ([] ++ [some v]) M ρ σ H P F)(hp:b3Y u u1 u2) :
  ∃a v1 v2,v=.ref a∧SqT K H a [v1,v2]∧Pend K ([.own u1] ++ [.own u2]) ([d1] ++ [d2]) ([some v1] ++ [some v2]) M ρ σ H P F:=by
 obtain⟨_,_,S⟩:=h;obtain⟨G,h1,h2,h3⟩:=S.all;obtain⟨G1,G2,rfl,h4,h5⟩:=h1.splitAt (A:=[] ++ [.own u]) (ρ1:=[] ++ [.tuple [d1,d2]]) (σ1:=[] ++ [some v]) rfl rfl;have h8:OwnTs K H F [u] [v] [.tuple [d1,d2]] G1:=R3 (us:=[u]) (vs:=[v]) h4;simp only [OwnTs] at h8;obtain⟨v',r,d',e,f,g,e1,e2,rfl,o,rfl,rfl,rfl⟩:=h8;cases e1
 cases e2
 have key:∃a v1 v2 f1 f2,v=.ref a∧SqT K H a [v1,v2]∧f=f1 ++ f2∧Own K H F u1 v1 d1 f1∧Own K H F u2 v2 d2 f2:=by
  rcases hp with⟨rfl,rfl,rfl⟩|⟨rfl,rfl,rfl⟩|rfl
  ·obtain⟨rfl,o'⟩:=a7D o;obtain⟨a,xs,rfl,k1,k2⟩:=o'.tup_inv;obtain⟨v1,v2,rfl,k3,k4⟩:=a1i k2;refine⟨a,v1,v2,[],[],rfl,a0k k1 m5,rfl,?_,?_⟩ <;> simp only [Own]
   ·exact⟨trivial,k3⟩
   ·exact⟨trivial,k4⟩
  ·obtain⟨rfl,hi,o'⟩:=P7 o;obtain⟨a,xs,rfl,k1,k2⟩:=o'.tup_inv;obtain⟨v1,v2,rfl,k3,k4⟩:=a1i k2;simp only [imm,e6,aA] at hi;refine⟨a,v1,v2,[],[],rfl,a0k k1 m5,rfl,?_,?_⟩ <;> simp only [Own]
   ·exact⟨trivial,hi.1,k3⟩
   ·exact⟨trivial,hi.2.1,k4⟩
  ·simp only [Own,OwnTs] at o;obtain⟨a,xs,ds,rfl,k1,_,e0,v1,r,By,e',f1,g1,rfl,e2,rfl,o1,v2,r2,Bx,Bu,f2,g2,rfl,e3,rfl,o2,rfl,rfl,rfl⟩:=o;cases e0
   cases e2
   cases e3
   exact⟨a,v1,v2,f1,f2,rfl,SqT.of k1,by simp,o1,o2⟩
 obtain⟨a,v1,v2,f1,f2,rfl,k1,rfl,o1,o2⟩:=key;refine⟨a,v1,v2,rfl,k1,rfl,rfl,⟨⟨f1 ++ (f2 ++ G2),?_,by simpa using h2,fun a ha=>h3 a (by simpa using ha)⟩,S.lst,S.prot⟩⟩;exact k6 (m:=.own u1) ⟨v1,rfl,o1⟩ (k6 (m:=.own u2) ⟨v2,rfl,o2⟩ h5)
end
section
variable {X:Cx}{u t:Ty}{ML M M1 M2 M':List Md}{st:g_}{kY body yt:List g_}{g g1 g2:EvS}{e tg iter:Expr}{f:EvE}{fc:EvT}{fi:EvA}{c:Cat}{pos:eM}
theorem EndsOk.pre{K:ag}{P:Hp}{D:Ends}{o:Out}(h:EndsOk K P u ML M' D o)(hw:Wk M M'):EndsOk K P u ML M D o:=by
 cases o with
 | nx ρ=>exact fun σ H F S=>by obtain⟨F',S'⟩:=hw K ρ σ H P F S;exact h σ H F' S'
 | rt d=>exact h
 | bk ρ=>exact h
 | ct ρ=>exact h
theorem PSsX.weak(h:PSsX X u ML M1 kY g M2)(a:Wk M M1)(b:Wk M2 M'):PSsX X u ML M kY g M':=by
 obtain⟨t,p,q⟩:=h.out;refine .mk ⟨t,p,fun D ρ σ H P F o S hg k=>?_⟩;obtain⟨F1,S1⟩:=a _ ρ σ H P F S;exact q D ρ σ H P F1 o S1 hg (k.pre b)
theorem PSX.weak(h:PSX X u ML M1 st g M2)(a:Wk M M1)(b:Wk M2 M'):PSX X u ML M st g M':=by
 obtain⟨t,p,q⟩:=h.out;refine .mk ⟨t,p,fun D ρ σ H P F o S hg k=>?_⟩;obtain⟨F1,S1⟩:=a _ ρ σ H P F S;exact q D ρ σ H P F1 o S1 hg (k.pre b)
theorem s9:PSsX X u ML M [] u3 M:=.mk ⟨_,a7x,fun D ρ σ H P F o S hg k=>by cases hg;exact k σ H F S⟩
theorem c6(h1:PSX X u ML M st g1 M1)(h2:PSsX X u ML M1 kY g2 M'):PSsX X u ML M (st :: kY) (f7 g1 g2) M':=by
 obtain⟨t1,p1,q1⟩:=h1.out;obtain⟨t2,p2,q2⟩:=h2.out;refine .mk ⟨_,Q2 p1 p2,fun D ρ σ H P F o S hg k=>?_⟩;obtain⟨o1,h1,g1⟩:=bnd hg;refine q1 {D with nx:=t2 D} ρ σ H P F o1 S h1 ?_;cases o1 with
 | nx ρ'=>exact fun σ' H' F' S'=>q2 D ρ' σ' H' P F' o S' g1 k
 | rt d=>cases g1;exact k
 | bk ρ'=>cases g1;exact k
 | ct ρ'=>cases g1;exact k
theorem f6(h1:PSX X u ML M st g M1):PSsX X u ML M [st] g M1:=by
 obtain⟨t1,p1,q1⟩:=h1.out;exact .mk ⟨_,a3F p1,q1⟩
theorem i5(i:Nat)(hN:X.N.Nodup)(he:PMX X M e f t M1)(hi:X.N[i]?=some x:=by rfl)(hx:Loc X.env.scope x:=by first|exact bO rfl|exact bQ rfl)(hm:M1[i]?=some m:=by rfl)
  (hs:dQ e (some (.Name x px)) pos.line X.env=pure false:=by rfl) (hf:X.fn x=true∨X.env.scope.names.lookup x=some .local:=by first|exact .inl rfl|exact .inr rfl):PSX X u ML M (.Assign [.Name x px] e pos) (i7 i f) (M1.set i (.own t)):=by
 obtain⟨te,pe,qe⟩:=he;refine .mk ⟨_,a6a hN hi hx pe hs hf,fun D ρ σ H P F o S hg k=>?_⟩;obtain⟨d,h1,g1⟩:=bnd hg;cases g1
 exact qe [] [] [] ρ σ H P F d _ S.pend h1 fun v H' F' e S'=>k _ _ F' (S'.store rfl rfl hm).st
theorem a4b(i j:Nat){pt pk}(hN:X.N.Nodup)(hc:X.calm=true)(he:PMX X M e f t M1)(hp:b3Y t u1 u2)(hi:X.N[i]?=some x:=by rfl)(hj:X.N[j]?=some y:=by rfl)(hx:Loc X.env.scope x:=by first|exact bO rfl|exact bQ rfl)
  (hy:Loc X.env.scope y:=by first|exact bO rfl|exact bQ rfl) (kW:i≠j:=by decide) (nv:M1[i]?=some m1:=by rfl) (qG:M1[j]?=some m2:=by rfl)
  (Ay:X.fn x=true∨X.env.scope.names.lookup x=some .local:=by first|exact .inl rfl|exact .inr rfl) (sV:X.fn y=true∨X.env.scope.names.lookup y=some .local:=by first|exact .inl rfl|exact .inr rfl)
  (hl:(gI [.Name x px,.Name y py] X.env).length=2:=by rfl) (qY:(gI [.Name x px,.Name y py] X.env).findIdx? (·.1)=none:=by rfl)
  (hg1:PGs X [.Name x px,.Name y py] (Y2 (J4 i) (Y2 (J4 j) a9G)):=by exact o5 (o8 hN hi hx Ay) (o5 (o8 hN hj hy sV) G6))
  (hs:swapsWithSole [.Tuple [.Name x px,.Name y py] pk pt] e pos.line X.env=pure false:=by rfl) (hw:swappedStores [.Tuple [.Name x px,.Name y py] pk pt] e X.env=pure none:=by rfl)
  (h1:(gI [.Tuple [.Name x px,.Name y py] pk pt] X.env).map (·.2)=[mT (.Tuple [.Name x px,.Name y py] pk pt) X.env]:=by rfl) :
  PSX X u ML M (.Assign [.Tuple [.Name x px,.Name y py] pk pt] e pos) (a1J i j f) ((M1.set i (.own u1)).set j (.own u2)):=by
 obtain⟨te,pe,qe⟩:=he;refine .mk ⟨_,b4w pe (a0i hc hg1 hl qY) hs hw h1,fun D ρ σ H P F o S hg k=>?_⟩;obtain⟨d,h1,g1⟩:=bnd hg;obtain⟨⟨d1,d2⟩,h2,g2⟩:=bnd g1;cases g2
 have hd:d=.tuple [d1,d2]:=by
  match d,h2 with
  | .tuple [a,b],h2=>cases h2;rfl
 subst hd;refine qe [] [] [] ρ σ H P F _ _ S.pend h1 fun v H' F' e S'=>?_
 obtain⟨a,v1,v2,rfl,k1,S2⟩:=S'.untup hp;refine⟨a,_,rfl,k1,rfl,v1,[v2],rfl,v2,[],rfl,rfl,?_⟩;have S3:=S2.store (i:=j) rfl rfl qG;have vH:(M1.set j (.own u2))[i]?=some m1:=by rw [cX (eJ kW)];exact nv
 have S4:=(Pend.store (Mp:=[]) (ρp:=[]) (σp:=[]) (i:=i) S3 rfl rfl vH).st;rw [pw _ _ (eJ kW),pw _ _ (eJ kW),pw _ _ (eJ kW)] at S4;exact k _ _ F' S4
theorem i9(he:PMX X M e f u M1):PSX X u ML M (.Return (some e) pos) (l6 f) M':=by
 obtain⟨te,pe,qe⟩:=he;refine .mk ⟨_,a9E pe,fun D ρ σ H P F o S hg k=>?_⟩;obtain⟨d,h1,g1⟩:=bnd hg;cases g1
 refine qe [] [] [] ρ σ H P F d _ S.pend h1 fun v H' F' e S'=>?_
 obtain⟨fp,o,nd,sub⟩:=S'.one;refine k v H' fp (o.frame (J6 sub) u fun _ _=>rfl) nd (fun a ha=>?_) (S'.2.2.prot.trans m5);cases hP:P a with
 | none=>rfl
 | some o'=>
  have:=S'.2.2.prot _ _ hP;rw [a9X (sub a ha)] at this;cases this
theorem b2O(he:PX X M e f c)(hs:dQ e none pos.line X.env=pure false:=by rfl):PSX X u ML M (.Expr e pos) (sEx f) M:=by
 obtain⟨te,pe,qe⟩:=he.out;refine .mk ⟨_,N4 pe hs,fun D ρ σ H P F o S hg k=>?_⟩;obtain⟨d,h1,g1⟩:=bnd hg;cases g1
 exact qe ρ σ H P F d _ S.toE h1 fun v H' e _=>k σ H' F (S.grow e)
theorem A0(hc:PTX X M c0 fc)(ha:PSsX X u ML M body g1 M')(hb:PSsX X u ML M yt g2 M'):PSX X u ML M (.If c0 body yt pos) (sIf fc g1 g2) M':=by
 obtain⟨tc,pc,qc⟩:=hc.out;obtain⟨ta,pa,qa⟩:=ha.out;obtain⟨tb,pb,qb⟩:=hb.out;refine .mk ⟨_,b3R pc pa pb,fun D ρ σ H P F o S hg k=>?_⟩;obtain⟨b,h1,g1⟩:=bnd hg;refine qc ρ σ H P F b _ S.toE h1 fun H1 e1=>?_
 cases b with
 | true=>exact a3N (qa D ρ σ H1 P F o (S.grow e1) g1 k)
 | false=>exact a3M (qb D ρ σ H1 P F o (S.grow e1) g1 k)
theorem b6Q:PSX X u ML M st sNo M':=.mk ⟨_,a9F,fun D ρ σ H P F o S hg k=>by cases hg⟩
def b5a(K:ag)(M MB:List Md)(g:TG)(set:List D→D→Option (List D))(m:D→Prop):Prop:=
 ∀(ρ:List D) (σ:L2.St) (H P:Hp) (F:List az) (x:V) (d:D) (ρ':List D) (Q:L2.St→Hp→Prop),StR K M ρ σ H P F→Den K (cut H F) x d→m d→set ρ d=some ρ'→(∀σ' F',StR K MB ρ' σ' H P F'→Q σ' H)→g x σ H Q
def mI(d:D):Prop:=imm d=true
def mF(_:D):Prop:=True
theorem a4c(hm:M[i]?=some m:=by rfl):b5a K M (M.set i (.own .f)) (J4 i) (u5 i) mF:=by
 intro ρ σ H P F x d ρ' Q S hd _ hs q;cases hs
 exact q _ _ (S.set (u:=.f) (fp:=[]) hm (Same.refl _) (by simp only [Own,cu];exact⟨trivial,hd⟩) bw fun a ha=>(nomatch ha))
theorem E1(hm:M[i]?=some m:=by rfl):b5a K M (M.set i (.own .i)) (J4 i) (u5 i) mI:=by
 intro ρ σ H P F x d ρ' Q S hd hi hs q;cases hs
 exact q _ _ (S.set (u:=.i) (fp:=[]) hm (Same.refl _) (by simp only [Own,cu];exact⟨trivial,hi,hd⟩) bw fun a ha=>(nomatch ha))
theorem A1{set:List D→D→Option (List D)}{m:D→Prop}(hc:X.calm=true)(hp:oZ (bc X.prog X.w) X.A X.env X.xe)(hi:PIX X M tg iter fi)(hg:PG X tg gt)(hs:b5a X.K M MB gt set m)(hm:∀ρ ds,fi ρ=some ds→∀d∈ds,m d)(hb:PSsX X u M MB body g M)
  (hf:∀x,dR iter X.env x=pure x:=by intro _;rfl):PSX X u ML M (.For tg iter body [] pos) (D5 fi set g) M:=by
 obtain⟨wi,pi,qi⟩:=hi;obtain⟨tb,pb,qb⟩:=hb.out;refine .mk ⟨_,a9K hp hc pi hg pb hf,fun D ρ σ H P F o S sT k=>?_⟩;obtain⟨ds,h1,g1⟩:=bnd sT;refine qi ρ σ H P F ds _ S.toE h1 fun J xs Pr H1 e1 hw pK hx=>?_
 have S1:=S.grow e1;have pG:=hx.length;refine⟨fun i n σ' H'=>n=xs.length - i∧i≤xs.length∧∃ρ' F',StR X.K M ρ' σ' H' (cut H1 F) F'∧R4 set g (ds.drop i) ρ'=some o,⟨xs.length,by simp,bC _,ρ,F,⟨S1.all,S1.lst,Same.refl _⟩,g1⟩,?_⟩;rintro i n σ' H' ⟨rfl,hi,ρ',F',S',hfl⟩;have kG:Same (cut H1 F) (cut H' F'):=S'.prot;have q:=pK H' (kG.trans m5);by_cases iS:i < xs.length
 ·refine .inr ⟨hw.go i H' q iS,fun σ2 H2=>∃ρ2 F2,StR X.K M ρ2 σ2 H2 (cut H1 F) F2∧R4 set g (ds.drop (i + 1)) ρ2=some o,fun σ2 H2 ⟨ρ2,F2,S2,h2⟩=>⟨xs.length - (i + 1),by lia,rfl,iS,ρ2,F2,S2,h2⟩,fun x H2 hy=>?_⟩;obtain⟨rfl,ot⟩:=hw.yld i H' x H2 q iS hy;have lM:i < ds.length:=by lia
  have nQ:ds.drop i=ds[i] :: ds.drop (i + 1):=fW lM;rw [nQ] at hfl;obtain⟨ρ1,q_,g2⟩:=bnd (show (set ρ' ds[i]).bind _=some o from hfl);obtain⟨o1,hg1,g3⟩:=bnd g2;obtain⟨d',oU,vZ⟩:=(hx.up kG).getV ot;have ir:d'=ds[i]:=by rw [af lM] at oU;exact (aP oU).symm
  subst ir;refine hs ρ' σ' H2 (cut H1 F) F' x _ ρ1 _ S' vZ (hm ρ ds h1 _ (cS lM)) q_ fun σ3 F3 S3=>qb _ ρ1 σ3 H2 (cut H1 F) F3 o1 S3 hg1 ?_
  cases o1 with
  | nx ρ2=>exact fun σ4 H4 F4 S4=>⟨ρ2,F4,S4,g3⟩
  | ct ρ2=>exact fun σ4 H4 F4 S4=>⟨ρ2,F4,S4,g3⟩
  | bk ρ2=>
   have:o=.nx ρ2:=(aP g3).symm;subst this;exact fun σ4 H4 F4 S4=>k σ4 H4 F4 ⟨S4.all,S4.lst,S1.prot.trans S4.prot⟩
  | rt d=>
   have:o=.rt d:=(aP g3).symm;subst this;refine fun v H4 fp o nd fr e=>k v H4 fp o nd (fun a ha=>?_) (S1.prot.trans e)
   exact S1.prot.free (fr a ha)
 ·have e:i=xs.length:=by lia
  subst e;rw [pG,mq] at hfl;have:o=.nx ρ':=(aP hfl).symm;subst this;exact .inl ⟨hw.stop _ H' q (aD _),k σ' H' F' ⟨S'.all,S'.lst,S1.prot.trans S'.prot⟩⟩
theorem a1K(n:List D→Nat)(hp:oZ (bc X.prog X.w) X.A X.env X.xe)(hc:PTX X M c0 fc)(hb:PSsX X u M M body g M):PSX X u ML M (.While c0 body [] pos) (sWh n fc g) M:=by
 obtain⟨tc,pc,qc⟩:=hc.out;obtain⟨tb,pb,qb⟩:=hb.out;refine .mk ⟨_,a9H hp pc pb,fun D ρ σ H P F o S sT k=>?_⟩;refine⟨fun n σ' H'=>∃ρ' F',StR X.K M ρ' σ' H' P F'∧whL fc g n ρ'=some o,⟨n ρ,ρ,F,S,sT⟩,?_⟩;rintro n σ' H' ⟨ρ',F',S',hw⟩;cases n with
 | zero=>cases hw
 | succ n=>
  obtain⟨b,h1,g1⟩:=bnd (show (fc ρ').bind _=some o from hw);refine qc ρ' σ' H' P F' b _ S'.toE h1 fun H1 e1=>?_
  cases b with
  | true=>
   refine a3N ⟨fun σ2 H2=>∃ρ2 F2,StR X.K M ρ2 σ2 H2 P F2∧whL fc g n ρ2=some o,fun σ2 H2 z=>⟨n,jq _,z⟩,?_⟩;obtain⟨o1,hg1,g3⟩:=bnd (show (g ρ').bind _=some o from g1);refine qb _ ρ' σ' H1 P F' o1 (S'.grow e1) hg1 ?_;cases o1 with
   | nx ρ2=>exact fun σ4 H4 F4 S4=>⟨ρ2,F4,S4,g3⟩
   | ct ρ2=>exact fun σ4 H4 F4 S4=>⟨ρ2,F4,S4,g3⟩
   | bk ρ2=>
    have:o=.nx ρ2:=(aP g3).symm;subst this;exact fun σ4 H4 F4 S4=>k σ4 H4 F4 S4
   | rt d=>
    have:o=.rt d:=(aP g3).symm;subst this;exact k
  | false=>
   have:o=.nx ρ':=(aP g1).symm;subst this;exact a3M (k σ' H1 F' (S'.grow e1))
end
end VS
namespace VS
open PySem PySem.Spec L2
abbrev EvP:=List D→Option (List Nat)
def PPX(X:Cx)(M:List Md)(e:Expr)(i:Nat)(f:EvP):Prop:=
 ∃t,PE X e t∧∀(ρ:List D) (σ:L2.St) (H P:Hp) (F:List az) (p:List Nat) (Q:VK),StE X.K M ρ σ H P F→f ρ=some p→(∀v v0 H',Same H H'→σ[i]?=some (some v0)→wk H' v0 p v→Q v H')→t σ H Q
def q8:EvP:=fun _=>some []
def a7H(u:Ty)(d:D)(p:List Nat):Option (List D):=(dAt u d p).bind fun td=>match td with
 | (.l _,.list ds)=>some ds
 | (.tp _,.tuple ds)=>some ds
 | _=>none
section
variable {X:Cx}{u t w:Ty}{ML M M1 M':List Md}{e b pl:Expr}{f fb:EvE}{fp:EvP}{cb:Cat}{pos apos cx:eM}
theorem J0(i:Nat)(hN:X.N[i]?=some x:=by rfl)(hv:Vis X.env.scope x:=by first|exact bO rfl|exact bQ (bO rfl)|exact bQ (bQ rfl))(hd:(x == ("__debug__":bM))=false:=by decide)
  (hW:(x == ("__classdict__":bM))=false:=by decide) (hm:M[i]?=some (.own u):=by rfl):PPX X M (.Name x pos) i q8:=by
 refine⟨_,A5 hN hv hd hW,fun ρ σ H P F p Q S hf k=>?_⟩;cases hf
 obtain⟨v,f,e,_⟩:=S.get hm;exact⟨v,e,k v v H (Same.refl _) e rfl⟩
def B6(i:Nat)(u:Ty)(fp:EvP)(fe:EvE):EvS:=fun ρ=>(fp ρ).bind fun p=>(a7H u (ρ.getD i .none) p).bind fun ds=>(fe ρ).bind fun d=>if ds.length < 1000000 then some (.nx (ρ.set i (a1I (ρ.getD i .none) p (.list (ds ++ [d]))))) else none
def b6R(u:Ty)(fp:EvP)(t:Ty):Prop:=∀ρ p d td,fp ρ=some p→dAt u d p=some td→td.1=.l t
theorem Y9:b6R (.l t) q8 t:=fun ρ p d td h1 h2=>by
 cases h1
 have lr:some (Ty.l t,d)=some td:=h2;cases lr
 rfl
theorem b2P(ht:∀td,dAt u d p=some td→td.1=.l t)(hi:a7H u d p=some ds):dAt u d p=some (.l t,.list ds):=by
 obtain⟨⟨t',d'⟩,h1,h2⟩:=bnd hi;have e:t'=.l t:=ht _ h1;subst e;cases d' with
 | list es=>cases h2;exact h1
 | _=>cases h2
theorem O2(i:Nat)(hp:PPX X M pl i fp)(he:PMX X M e f t M1)(ht:b6R u fp t)(hm:M[i]?=some (.own u):=by rfl)(nv:M1[i]?=some (.own u):=by rfl)
  (eS:du pl "append" X.env (cO pl X.env)=cO pl X.env:=by rfl)
  (gO:((cP cx (aF [e] X.env)).all (fun x=>!x.1) && (iC cx (fy [] X.env)).all (fun x=>x.1.isSome)
   && decide ([e].length + ([]:List ei).length + (if ([]:List ei).isEmpty then 0 else 1) < 30))=true:=by rfl)
  (eR:(apos.endLine == cx.line)=true:=by rfl) (hs:aF [e] X.env=(false,cO e X.env) :: aF [] X.env:=by rfl) (eA:(cP cx (aF [] X.env)).any (·.1)=false:=by rfl)
  (k_:dQ (.Call (.Attribute pl "append" apos) [e] [] cx) none pos.line X.env=pure false:=by rfl) :
  PSX X w ML M (.Expr (.Call (.Attribute pl "append" apos) [e] [] cx) pos) (B6 i u fp f) M1:=by
 obtain⟨tp,pp,qp⟩:=hp;obtain⟨te,pe,qe⟩:=he;refine .mk ⟨_,N4 (a2M dg je jd U0 pp (l3 pe r9 hs) eS gO eR hs eA) k_,fun D ρ σ H P F o S hg k=>?_⟩;obtain⟨p,h1,g1⟩:=bnd hg;obtain⟨ds,h2,g2⟩:=bnd g1;obtain⟨d,h3,g3⟩:=bnd g2;by_cases hz:ds.length < 1000000
 ·rw [aE hz] at g3;cases g3
  refine qp ρ σ H P F p _ S.toE h1 fun v v0 H1 e1 xE hw=>?_
  have S1:=S.grow e1;obtain⟨v',f',e',o,_⟩:=S1.toE.get hm;rw [xE] at e';cases e'
  have pO:=b2P (fun td z=>ht ρ p _ td h1 z) h2;obtain⟨b,xs,fs,pre,post,rfl,r2,_,_,_⟩:=o.path p pO hw;refine⟨.inl ⟨rfl,xs,SqL.of r2⟩,qe [] [] [] ρ σ H1 P F d _ S1.pend h3 fun v1 H2 F2 e2 S2=>?_⟩;obtain⟨b',jt,e',rW,hl,S3,_⟩:=S2.put nv xE pO (b3X e2 hw);cases e'
  refine⟨b,jt,v1,rfl,rfl,rW,?_,k σ _ F2 S3⟩;rw [hl];exact eY hz (by rw [cV];decide)
 ·rw [aJ hz] at g3;cases g3
theorem E2(i:Nat)(hN:X.N.Nodup)(hc:X.calm=true)
  (hi:PIX X M tg iter fi) (C:N6 scope X.env.kindOf ys js X.N=true) (hg:∀cl Cl s H fp,PG (G7 X (tn ++ ys) scope cl Cl s H fp) tg g) (sS:TgR X.K g n pt) (Ag:mm=.i∨mm=.f)
  (sG:mm=.i→∀ρ ds,fi ρ=some ds→∀d∈ds,∀bs,pt d=some bs→e6 bs=true) (sy:tn.length=n)
  (ht:∀cl Cl s H fp,PTs (G7 X (tn ++ ys) scope cl Cl s H fp) ifs (spT X.K (R0 (.own mm) n M js) ft)) (he:∀cl Cl s H fp,PX (G7 X (tn ++ ys) scope cl Cl s H fp) (R0 (.own mm) n M js) elt fe (.new t))
  (ot:X.N[i]?=some x:=by rfl) (hx:Loc X.env.scope x:=by first|exact bO rfl|exact bQ rfl) (hm:M[i]?=some m:=by rfl)
  (k_:dQ (.ListComp elt [⟨tg,iter,ifs,0⟩] scope cps) (some (.Name x px)) pos.line X.env=pure true:=by rfl) (hs:∀x,dR iter X.env x=pure x:=by intro _;rfl)
  (hf:X.fn x=true∨X.env.scope.names.lookup x=some .local:=by first|exact .inl rfl|exact .inr rfl) :
  PSX X w ML M (.Assign [.Name x px] (.ListComp elt [⟨tg,iter,ifs,0⟩] scope cps) pos) (i7 i (m8 fi js pt ft fe)) (M.set i (.own (.l t))):=by
 obtain⟨wi,pi,qi⟩:=hi;refine .mk ⟨_,a4G (te:=spE X.K (R0 (.own mm) n M js) fe (.new t)) hc hN ot hx pi C hg ht he k_ hs hf,fun D ρ σ H P F o S kO k=>?_⟩;obtain⟨d,h1,g1⟩:=bnd kO;cases g1
 exact a3a qi sS Ag sG sy S.toE h1 fun v H' e ⟨fp,o,nd,fr⟩=>k _ _ _ (S.set hm e o nd fr)
end
def argsOk:List Ty→List D→Bool
 | [],[]=>true
 | .i :: us,d :: ds=>imm d && argsOk us ds
 | .f :: us,_ :: ds=>argsOk us ds
 | _,_=>false
def fnD(us:List Ty)(n:Nat)(g:EvS):List D→Option D:=fun ds=>if argsOk us ds then (g (ds ++ bu n .none)).bind fun o=>match o with
 | .rt d=>some d
 | _=>none
 else none
theorem a1l:∀{us:List Ty} {vs:List V} {ds:List D},argsOk us ds=true→DenAll K H vs ds→∀n,StAll K H [] (us.map .own ++ bu n .dead) (ds ++ bu n .none) (vs.map some ++ bu n none) []
 | [],vs,[],_,hd,n=>by
  rw [hd.nil_inv]
  induction n with
  | zero=>exact a0l
  | succ n ih=>exact k6 (K:=K) (H:=H) (F:=[]) (m:=.dead) (f:=[]) rfl ih
 | .i :: us,vs,d :: ds,h,hd,n=>by
  have h':imm d=true∧argsOk us ds=true:=by simpa [argsOk] using h
  obtain⟨v,r,rfl,h1,h2⟩:=hd.cons_inv;refine k6 (K:=K) (H:=H) (F:=[]) (m:=.own .i) (f:=[]) ⟨v,rfl,?_⟩ (a1l h'.2 h2 n);simp only [Own,a1g];exact⟨trivial,h'.1,h1⟩
 | .f :: us,vs,d :: ds,h,hd,n=>by
  have h':argsOk us ds=true:=by simpa [argsOk] using h
  obtain⟨v,r,rfl,h1,h2⟩:=hd.cons_inv;refine k6 (K:=K) (H:=H) (F:=[]) (m:=.own .f) (f:=[]) ⟨v,rfl,?_⟩ (a1l h' h2 n);simp only [Own,a1g];exact⟨trivial,h1⟩
 | .l _ :: us,vs,d :: ds,h,_,_=>by simp [argsOk] at h
 | .tp _ :: us,vs,d :: ds,h,_,_=>by simp [argsOk] at h
 | .d _ _ :: us,vs,d :: ds,h,_,_=>by simp [argsOk] at h
 | [],vs,d :: ds,h,_,_=>by simp [argsOk] at h
 | .i :: us,vs,[],h,_,_=>by simp [argsOk] at h
 | .f :: us,vs,[],h,_,_=>by simp [argsOk] at h
 | .l _ :: us,vs,[],h,_,_=>by simp [argsOk] at h
 | .tp _ :: us,vs,[],h,_,_=>by simp [argsOk] at h
 | .d _ _ :: us,vs,[],h,_,_=>by simp [argsOk] at h
open PyProof.Rows in
theorem b2Q{P:bB}{w:bU}{K:ag}{mg:bM→Option aj}{base:cm}{x:bM}{st:g_}{f:az}{fd:dC}{N ps:List bM}{k n:Nat}{us:List Ty}{u:Ty}{g:EvS}{M':List Md}(F:Fun K x x st f fd)(S:FnScope N ps (j6 st))(qx:us.length=ps.length)(hn:N.length=ps.length + n)
  (hb:∀(gg:aj) (A:bT) (outer:List tW) (s:au) (H:Hp) (E:XK),Room k (A.deeper (kj x (j6 st) s.heap.objs.size f gg))→PSsX (a2x CX0 P w K mg base N x (j6 st) f gg A outer s H E).nox u [] (us.map .own ++ bu n .dead) (B1 st) g M') :
  FnOk P w K mg base CX0 (k + 1) f fd ps (spD K ps.length (fnD us n g) u):=by
 refine F.ok S (fun vs H Q E h=>?_) (fun gg A outer s H vs Q E hr h=>?_)
 ·obtain⟨ds,d,hl,_⟩:=h;exact hl
 obtain⟨ds,d,hl,hd,hm,q⟩:=h;obtain⟨t,p,r⟩:=(hb gg A outer s H E hr).out;refine⟨t,p,?_⟩;unfold fnD at hm;by_cases ha:argsOk us ds=true
 ·rw [aE ha] at hm;obtain⟨o,h1,h2⟩:=bnd hm;cases o with
  | rt d'=>
   have lr:some d'=some d:=h2;cases lr
   have e:L2.start N vs=vs.map some ++ bu n none:=by
    unfold L2.start;rw [show N.length - vs.length=n by lia]
   rw [e];refine r _ (ds ++ bu n iJ) _ H H [] (.rt d) ⟨⟨[],a1l ha hd n,bw,fun a ha=>(nomatch ha)⟩,fun a ha=>(nomatch ha),by rw [a1g];exact Same.refl H⟩ h1 ?_;exact fun v H' fp o nd fr e=>q v H' fp e o nd fr
  | _=>cases h2
 ·rw [aJ ha] at hm;cases hm
end VS
namespace VS
open PySem PySem.Spec L2 PyProof.Rows
def C6(K:ag):List (bM × az):=Q0.filterMap fun x=>(Q1 K x).map fun p=>(x,p)
def a0q:List az→Bool
 | []=>true
 | a :: r=>!r.contains a && a0q r
def a1L(K:ag)(names:List bM):Bool:=a0q ((C6 K).map (·.2)) && (C6 K).all fun t=>(K.lookup t.2).isNone && names.contains t.1
theorem a1M:∀{l:List (bM × az)} {x y:bM} {p:az},a0q (l.map (·.2))=true→(x,p)∈l→(y,p)∈l→x=y
 | [],_,_,_,_,h,_=>(nomatch h)
 | (z,q) :: l,x,y,p,h,h1,h2=>by
  have h':((l.map (·.2)).contains q=false)∧a0q (l.map (·.2))=true:=by simpa [a0q] using h
  have xo:∀w,(w,q)∉l:=fun w hw=>by
   have:(l.map (·.2)).contains q=true:=by
    rw [rH];exact aK.mpr ⟨(w,q),hw,rfl⟩
   rw [h'.1] at this;cases this
  rcases aH.mp h1 with e1|e1
  ·rcases aH.mp h2 with e2|e2
   ·cases e1;cases e2;rfl
   ·cases e1;exact absurd e2 (xo y)
  ·rcases aH.mp h2 with e2|e2
   ·cases e2;exact absurd e1 (xo x)
   ·exact a1M h'.2 e1 e2
theorem a0P{K:ag}{x:bM}{p:az}(hx:x∈Q0)(h:Q1 K x=some p):(x,p)∈C6 K:=
 e_.mpr ⟨x,hx,by rw [h];rfl⟩
theorem B7{K:ag}{x:bM}{p:az}(h:(x,p)∈C6 K):x∈Q0∧Q1 K x=some p:=by
 obtain⟨y,hy,e⟩:=e_.mp h;cases q:Q1 K y with
 | none=>rw [q] at e;cases e
 | some r=>
  rw [q] at e;have e':(y,r)=(x,p):=aP e;cases e'
  exact⟨hy,q⟩
theorem a6r{K:ag}(e:a3E K cd=some p)(X:K.In h):∃c,cd=.ref c∧PySem.W.CodeHd h c p:=by
 unfold a3E at e
 split at e
 ·rename_i c
  split at e
  ·rename_i n dd vs sl hc
   split at e
   ·rename_i hn
    split at e
    ·rename_i P' file tf flags tg xy text tt yl AZ h7 h9 Ba
     split at e
     ·rename_i fA
      cases e
      have en:n="code":=by simpa using hn
      subst en;refine⟨c,rfl,_,vs,file,tf,flags,tg,xy,text,tt,X _ _ hc,rfl,rfl,yl,?_,?_,?_,?_,?_,bne_iff_ne.mp fA⟩
      ·simp [dh,yl]
      ·simp [dh,AZ]
      ·simp [dh,h7]
      ·simp [dh,h9]
      ·simp [dh,Ba]
     ·cases e
    ·cases e
   ·cases e
  ·cases e
 ·cases e
theorem a8H{K:ag}{h:cm}(e:Q1 K x=some p)(X:K.In h)(G:h.Ns cC mg) :
  ∃f oc od fd sl c,mg x=some (.ref f)∧K.lookup f=some ⟨oc,od,.func fd,sl⟩∧fd.code=.ref c∧PySem.W.CodeHd h c p:=by
 unfold Q1 at e
 split at e
 ·rename_i f hf
  split at e
  ·rename_i oc od fd sl hl
   obtain⟨c,hc,hd⟩:=a6r e X;exact⟨f,oc,od,fd,sl,c,kJ X G hf,hl,hc,hd⟩
  ·cases e
 ·cases e
def Tab0(K:ag)(h:cm):Prop:=∀x∈Q0,∀p,Q1 K x=some p→isCodeTable h p∧h.get? p=some {cls:=.none,data:=.fields #[]}
theorem b2R{q:bB}{loose:List bM}{uU:ExcName→Option aj}{mg mb:bM→Option aj}{h:cm}{K:ag}(T:Top q loose uU mg mb h)(X:K.In h)(ok:a1L K ((recsOf q).map (·.name))=true):Tab0 K h:=fun x hx p e=>by
 have hm:=a0P hx e;have hn:((K.lookup p).isNone && ((recsOf q).map (·.name)).contains x)=true:=by
  unfold a1L at ok;rw [aA] at ok;exact dc.mp ok.2 _ hm
 rw [aA,rH] at hn;obtain⟨d,hd,rfl⟩:=aK.mp hn.2;obtain⟨f,oc,od,fd,sl,c,h1,h2,h3,h4⟩:=a8H e X T.g;obtain⟨a,o,Bh,c',P',z1,z2,z3,z4,z5,z6⟩:=T.tab d hd;rw [h1] at z1;cases z1
 rw [X _ _ h2] at z2;cases z2
 have yQ:Data.func fd=Data.func Bh:=z3;cases yQ
 rw [h3] at z4;cases z4
 obtain⟨ob,vs,file,tf,flags,tg,xy,text,tt,y1,y2,y3,y4,_⟩:=h4;obtain⟨⟨BY,BQ,w1,w2,w3,w4⟩,w5⟩:=id z6;rw [y1] at w1;cases w1
 rw [y3] at w3;cases w3
 rw [y4] at w4;cases w4
 exact⟨z6.isCodeTable,w5⟩
def K4(K:ag)(H:Hp):Hp:=fun b=>match (C6 K).find? fun t=>t.2 == b with
 | some t=>some (.tbl #[.str (b2e t.1) 0])
 | none=>H b
theorem a8I{K:ag}{s₁:au}{vs:List aj} 
  (KX:K.In s₁.heap) (mQ:s₁.heap.Ns cC mg) (hb:s₁.heap.Ns jk mb) (AN:∀x:bM,x≠"__name__"→mb x=gh x) (vM:s₁.heap.NoLimit) (hg:s₁.gens=#[])
  (AM:∃bm ob,mg "__builtins__"=some (.ref bm)∧bm≠jk∧s₁.heap.get? bm=some ob∧ob.cls=.type "module"∧ob.dict=some jk∧ob.data=.plain)
  (oP:Tab0 K s₁.heap) (mP:a1L K names=true)
  (ha:s₁.heap.get? a=some {cls:=.type "list",data:=.seq vs.toArray}) (hi:IntsAre vs ns) (hl:ns.length≤aT) (hr:Room k lN)
  (F:∀base:cm,K.In base→base.Ns cC mg→FnOk P w K mg base CX k fa fd [x] sp) (tu:∀(s:au) (u:aj),lR s fd ⟨[u],[]⟩ [(x,u)])
  (pI:∀H:Hp,SqX K H a (ns.map V.int)→sp [.ref a] H (fun v _=>v=.bl true) fun _ _ _=>False)
  (wB:∀H e s',CX [] H s₁ (fun _ _ _=>False) e s'→False) :
  jF (bc P w) lN (.call (.ref fa) ⟨[.ref a],[]⟩) (fun r s'=>r=.ok (.ret (.bool true))∧OldK s₁.heap s'.heap∧s'.os=s₁.os∧mK s'.gens) s₁:=by
 have rv:=vals_ints hi;have uW:=hi.length;have zt:a0q ((C6 K).map (·.2))=true:=by unfold a1L at mP;rw [aA] at mP;exact mP.1
 have zr:∀t∈C6 K,K.lookup t.2=none:=fun t ht=>by
  unfold a1L at mP;rw [aA] at mP;have:=dc.mp mP.2 t ht;rw [aA] at this;exact oG.mp this.1
 have core:∀H0:Hp,SqX K H0 a (ns.map V.int)→HOk P w H0 s₁.heap→(∀b u,H0 b=some u→b=a∧∃o xs,u=.frz o (.lst xs))→(H0 a≠none→K.lookup a=none)→
   jF (bc P w) lN (.call (.ref fa) ⟨[.ref a],[]⟩) (fun r s'=>r=.ok (.ret (.bool true))∧OldK s₁.heap s'.heap∧s'.os=s₁.os∧mK s'.gens) s₁:=by
  intro H0 hS hok hA hK;have ju:∀b u,K4 K H0 b=some u→(∃x,(x,b)∈C6 K∧u=.tbl #[.str (b2e x) 0])∨((∀x,(x,b)∉C6 K)∧H0 b=some u):=fun b u e=>by
   unfold K4 at e
   split at e
   ·rename_i t ht
    cases e
    have h1:=iW ht;have h2:t.2=b:=wM.mp (ng (p:=fun t:bM × az=>t.2 == b) ht);refine .inl ⟨t.1,?_,rfl⟩;rw [←h2];exact h1
   ·rename_i ht
    refine .inr ⟨fun x hx=>?_,e⟩;have:=d_.mp ht _ hx;simp at this
  have tabAt:∀x p,(x,p)∈C6 K→K4 K H0 p=some (.tbl #[.str (b2e x) 0]):=fun x p hm=>by
   cases e:K4 K H0 p with
   | none=>
    unfold K4 at e
    split at e
    ·cases e
    ·rename_i ht
     have:=d_.mp ht _ hm;simp at this
   | some u=>
    rcases ju p u e with⟨y,hy,rfl⟩|⟨hn,_⟩
    ·rw [a1M zt hm hy]
    ·exact absurd hm (hn x)
  have nA:∀x,(x,a)∉C6 K:=fun x hx=>by
   have:=(oP x (B7 hx).1 a (B7 hx).2).2;rw [ha] at this;cases this
  have yF:K4 K H0 a=H0 a:=by
   cases e:K4 K H0 a with
   | none=>
    unfold K4 at e
    split at e
    ·cases e
    ·exact e.symm
   | some u=>
    rcases ju a u e with⟨y,hy,_⟩|⟨_,h⟩
    ·exact absurd hy (nA y)
    ·exact h.symm
  have pS:SqX K (K4 K H0) a (ns.map V.int):=by
   rcases hS with (h|⟨o,h⟩)|h
   ·exact .inl (.inl (yF.trans h))
   ·exact .inl (.inr ⟨o,yF.trans h⟩)
   ·exact .inr h
  have sI:HOk P w (K4 K H0) s₁.heap:=fun b u e=>by
   rcases ju b u e with⟨x,hx,rfl⟩|⟨hn,h⟩
   ·obtain⟨h1,h2⟩:=B7 hx;exact⟨#[],(oP x h1 b h2).2,trivial,fun pos cv z=>by cases z⟩
   ·obtain⟨rfl,o,xs,rfl⟩:=hA b u h;obtain⟨h1,h2⟩:=hok _ _ h;obtain⟨z,cE,n,r,e'⟩:=h2;exact⟨h1,z,cE,n,r,e'⟩
  have kR:∀{b:az} {o:eW},s₁.heap.get? b=some o→K4 K H0 b=none→(a3D s₁.heap (K4 K H0)).get? b=some o:=fun e n=>a9C e n
  have xl:∀{b:az} {o:eW},s₁.heap.get? b=some o→(∀ps,o.data≠.fields ps)→(∀cE n,o.data≠.seq cE n)→K4 K H0 b=none:=fun {b o} e d1 d2=>by
   cases q:K4 K H0 b with
   | none=>rfl
   | some u=>
    rcases ju b u q with⟨x,hx,rfl⟩|⟨hn,h⟩
    ·have:=(oP x (B7 hx).1 b (B7 hx).2).2;rw [e] at this;cases this
     exact absurd rfl (d1 _)
    ·obtain⟨rfl,_⟩:=hA b u h;rw [ha] at e;cases e
     exact absurd rfl (d2 _ _)
  have ub:∀{b:az} {m:bM→Option aj},s₁.heap.Ns b m→(a3D s₁.heap (K4 K H0)).Ns b m:=fun {b m} ⟨o,es,ep,e,d,r⟩=>⟨o,es,ep,kR e (xl e (fun ps z=>by rw [d] at z;cases z) fun cE n z=>by rw [d] at z;cases z),d,r⟩
  have yj:K.In (a3D s₁.heap (K4 K H0)):=fun b o e=>kR (KX b o e) (by
   cases q:K4 K H0 b with
   | none=>rfl
   | some u=>
    rcases ju b u q with⟨x,hx,rfl⟩|⟨hn,h⟩
    ·rw [zr _ hx] at e;cases e
    ·obtain⟨rfl,_⟩:=hA b u h;rw [hK (by rw [h];simp)] at e;cases e)
  have hM:Mod K mg (a3D s₁.heap (K4 K H0)):=⟨yj,ub mQ,⟨mb,ub hb,AN⟩,let⟨mc,h1,h2⟩:=vM;⟨mc,ub h1,h2⟩,
   let⟨bm,ob,b1,b2,b3,b4,b5,b6⟩:=AM;⟨bm,ob,b1,b2,kR b3 (xl b3 (fun ps z=>by rw [b6] at z;cases z) fun cE n z=>by rw [b6] at z;cases z),b4,b5,b6⟩⟩
  have e0:Env0 P w K mg (a3D s₁.heap (K4 K H0)) lN [] s₁ (K4 K H0):=⟨rfl,hM,fun b o e=>b2c e,Nat.le_of_eq (a8o _ _),trivial,fun b hb=>absurd (show b∈([]:List az) from hb) (by simp),sI,.of_eq hg,
   fun x hx p e=>⟨_,0,tabAt x p (a0P hx e),rfl⟩⟩
  refine gZ ((F _ yj (ub mQ)).run lN [] s₁ (K4 K H0) ⟨[.ref a],[]⟩ [.ref a] [.ref a] _ _ hr e0 (tu s₁ (.ref a)) (.cons rfl .nil) (pI _ pS)) fun r s' h=>?_
  cases r with
  | error e=>exact (wB _ e s' h).elim
  | ok fl=>
   cases fl with
   | next=>exact fO h
   | brk=>exact fO h
   | cont=>exact fO h
   | ret u=>
    obtain⟨v,H',os,bare,un,sH,r',q⟩:=h;have q':v=.bl true:=q;subst q';obtain rfl:u=kr true:=r';refine⟨rfl,⟨fun b o e=>?_,fun b o e=>un.there b o e (by simp)⟩,os,bare⟩;cases q:K4 K H0 b with
    | none=>exact .inl (un.keep b o e q (by intro z;exact absurd (show b∈([]:List az) from z) (by simp)) (by simp))
    | some u=>
     rcases ju b u q with⟨x,hx,rfl⟩|⟨hn,h⟩
     ·obtain⟨t1,t2⟩:=oP x (B7 hx).1 b (B7 hx).2;rw [e] at t2;cases t2
      obtain⟨more,e2⟩:=un.tbls b _ q;obtain⟨ps,e3,_⟩:=(show a7v H' s'.heap b _ from sH b _ e2);exact .inr (.inl ⟨t1,rfl,#[],ps,rfl,by simpa using e3⟩)
     ·obtain⟨rfl,ob,xs,rfl⟩:=hA b u h;have z2:=un.frzs b ob _ q;obtain⟨e1,_⟩:=sI b _ q;obtain⟨e2,_⟩:=sH b _ z2;rw [e] at e1;cases e1;exact .inl e2
 cases hk:K.lookup a with
 | some o=>
  have e:=KX a o hk;rw [ha] at e;cases e
  refine core (fun _=>none) (.inr ⟨vs,_,hk,by rw [uW];exact hl,rv⟩) (fun b u z=>by have z':(none:Option HO)=some u:=z;cases z') (fun b u z=>by have z':(none:Option HO)=some u:=z;cases z') fun z=>absurd rfl z
 | none=>
  refine core (fun b=>if b=a then some (.frz {cls:=.type "list",data:=.seq vs.toArray} (.lst (ns.map V.int))) else none) (.inl (.inr ⟨{cls:=.type "list",data:=.seq vs.toArray},aE rfl⟩)) (fun b u z=>?_) (fun b u z=>?_) fun _=>hk
  ·by_cases hb:b=a
   ·have z':=(aE hb).symm.trans z;cases z'
    subst hb;exact⟨ha,by rw [ae];exact hl,vs,_,rv,ha⟩
   ·have z':=(aJ hb).symm.trans z;cases z'
  ·by_cases hb:b=a
   ·have z':=(aE hb).symm.trans z;cases z'
    exact⟨hb,_,_,rfl⟩
   ·have z':=(aJ hb).symm.trans z;cases z'
theorem b0k{l:mV}{XP:(bM→Option aj)→cm→Prop}{YP:bU→cm→Prop}{d:DefRec}{K:Params→ag}{CX:bU→CXT}{sp:bU→Sp} 
  (hn:l.most=some n) (Ab:n≤aT) (s_:d.params.defaults=[]) (hr:Room k lN)
  (hY:∀(w:bU) (h:cm),YP w h→(K w.params).In h) (hT:∀w:bU,a1L (K w.params) ((recsOf q).map (·.name))=true)
  (F:∀(w:bU) (mg:bM→Option aj) (fa:az) (h:cm),(K w.params).In h→h.Ns cC mg→mg d.name=some (.ref fa)→
   ∃fd:dC,(∀(s:au) (u:aj),lR s fd ⟨[u],[]⟩ [(x,u)])∧
    ∀base:cm,(K w.params).In base→base.Ns cC mg→FnOk l.prog w (K w.params) mg base (CX w) k fa fd [x] (sp w))
  (pI:∀(w:bU) (H:Hp) (a:az) (ns:List Int),ns.length≤n→SqX (K w.params) H a (ns.map V.int)→sp w [.ref a] H (fun v _=>v=.bl true) fun _ _ _=>False)
  (wB:∀(w:bU) (H:Hp) (s:au) (e:aj) (s':au),CX w [] H s (fun _ _ _=>False) e s'→False) :
  PySem.W.WalkO q loose XP YP l.row.toRowW d [] (fun f vs=>wR f vs):=by
 refine Att.attach_call hn s_ fun w s₀ s₁ mg mb fa o pm cd doc a vs ns G Y ho hd hW sM qD hints hlen hg=>?_
 have KX:=hY w _ Y;obtain⟨fd,hb,hF⟩:=F w mg fa _ KX G.T.g sM;exact a8I KX G.T.g G.T.b G.T.builtins G.T.nolimit hg G.T.bmain (b2R G.T KX (hT w)) (hT w) qD hints (bI hlen Ab) hr hF hb (fun H hS=>pI w H a ns hlen hS) fun H e s'=>wB w H s₁ e s'
theorem a8J{l:mV}{XP:(bM→Option aj)→cm→Prop}{YP:bU→cm→Prop}{d:DefRec}{K:Params→ag}{m:List br→Option br}(hn:l.most=some 63)(s_:d.params.defaults=[])(hr:Room k lN)
  (hY:∀(w:bU) (h:cm),YP w h→(K w.params).In h) (hT:∀w:bU,a1L (K w.params) ((recsOf q).map (·.name))=true)
  (F:∀(w:bU) (mg:bM→Option aj) (fa:az) (h:cm),(K w.params).In h→h.Ns cC mg→mg d.name=some (.ref fa)→
   ∃fd:dC,(∀(s:au) (u:aj),lR s fd ⟨[u],[]⟩ [(x,u)])∧
    ∀base:cm,(K w.params).In base→base.Ns cC mg→FnOk l.prog w (K w.params) mg base CX0 k fa fd [x] (spD (K w.params) 1 m .i))
  (hm:∀ns:List Int,ns.length≤63→m [.list (ns.map .int)]=some (.bool true)) :
  PySem.W.WalkO q loose XP YP l.row.toRowW d [] (fun f vs=>wR f vs):=
 b0k (n:=63) (k:=k) (x:=x) (CX:=fun _=>CX0) (sp:=fun w=>spD (K w.params) 1 m .i) hn (by decide) s_ hr hY hT F
  (fun w H a ns hl hS=>⟨_,_,rfl,denAll_cons (den_list hS (DenAll.ints ns)) denAll_nil,hm ns hl,fun v H' fp _ o _ _=>(P7 o).2.2.bool_inv⟩) fun _ _ _ _ _ z=>z
end VS
namespace VS
open PySem PySem.Spec L2
theorem J9:∀(ρ ds:List D),e7 ρ=some ds→ds.length=0:=fun _ _ h=>by cases h;rfl
theorem j9(hr:∀(ρ ds:List D),r ρ=some ds→ds.length=n):∀(ρ ds:List D),a8 f r ρ=some ds→ds.length=n + 1:=fun _ _ h=>a8E hr h
theorem a6s:∀(ρ ds:List D),iI fi ρ=some ds→∀d∈ds,mI d:=fun ρ ds h d hd=>by
 have:=b0j rfl ρ ds h d hd [d] rfl;show imm d=true;simpa only [e6,gX] using this
theorem a8K:∀(ρ ds:List D),iR fa ρ=some ds→∀d∈ds,mI d:=fun ρ ds h d hd=>by
 have:=a4R rfl ρ ds h d hd [d] rfl;show imm d=true;simpa only [e6,gX] using this
end VS
namespace VS
open PySem L2
section
variable {a b c:EvE}{ρ ρ':List D}{d x y:D}
def l1(g:D→Option D):Option D→Option D
 | some x=>g x
 | none=>none
def l2(g:D→D→Option D):Option D→Option D→Option D
 | some x,some y=>g x y
 | _,_=>none
def lc(m:List D→Option D):Option (List D)→Option D
 | some xs=>m xs
 | none=>none
def a7I:Option D→Option (List D)→Option (List D)
 | some x,some xs=>some (x :: xs)
 | _,_=>none
def lB:Option D→Option Bool
 | some d=>asB d
 | none=>none
def lT:Option D→Option Bool
 | some d=>tr d
 | none=>none
def b6S:Option Bool→Option Bool
 | some b=>some !b
 | none=>none
def b5b:Option Bool→EvT→List D→Option Bool
 | some true,b,ρ=>b ρ
 | some false,_,_=>some false
 | none,_,_=>none
def orT:Option Bool→EvT→List D→Option Bool
 | some true,_,_=>some true
 | some false,b,ρ=>b ρ
 | none,_,_=>none
def b5c:Option D→EvE→List D→Option D
 | some (.bool true),b,ρ=>b ρ
 | some (.bool false),_,_=>some (.bool false)
 | _,_,_=>none
def orE:Option D→EvE→List D→Option D
 | some (.bool true),_,_=>some (.bool true)
 | some (.bool false),b,ρ=>b ρ
 | _,_,_=>none
def b6T:Option D→Option D
 | some (.bool b)=>some (.bool !b)
 | _=>none
def b5d:Option Bool→EvE→EvE→List D→Option D
 | some true,a,_,ρ=>a ρ
 | some false,_,b,ρ=>b ρ
 | none,_,_,_=>none
def b5e:Option Bool→EvS→EvS→List D→Option Out
 | some true,a,_,ρ=>a ρ
 | some false,_,b,ρ=>b ρ
 | none,_,_,_=>none
def thn:Option Out→EvS→Option Out
 | some (.nx ρ),b=>b ρ
 | some (.rt d),_=>some (.rt d)
 | some (.bk ρ),_=>some (.bk ρ)
 | some (.ct ρ),_=>some (.ct ρ)
 | none,_=>none
def b0l(i:Nat):Option D→List D→Option Out
 | some d,ρ=>some (.nx (ρ.set i d))
 | none,_=>none
def retS:Option D→Option Out
 | some d=>some (.rt d)
 | none=>none
def exS:Option D→List D→Option Out
 | some _,ρ=>some (.nx ρ)
 | none,_=>none
def b0m(i j:Nat):Option D→List D→Option Out
 | some (.tuple [x,y]),ρ=>some (.nx ((ρ.set i x).set j y))
 | _,_=>none
def b6U(set:List D→D→Option (List D))(g:EvS):Option (List D)→List D→Option Out
 | some ds,ρ=>R4 set g ds ρ
 | none,_=>none
def a2D:Option Out→Option D
 | some (.rt d)=>some d
 | _=>none
def listE:Option (List D)→Option D
 | some ds=>some (.list ds)
 | none=>none
def b5f:Option (List D)→Option D
 | some ds=>some (.tuple ds)
 | none=>none
theorem b8m:l1 g (some x)=g x:=rfl
theorem b2S:l2 g (some x) (some y)=g x y:=rfl
theorem b8n:lc m (some xs)=m xs:=rfl
theorem b2T:a7I (some x) (some xs)=some (x :: xs):=rfl
theorem b8o:lB (some (.bool k))=some k:=rfl
theorem b8p:lT (some d)=tr d:=rfl
theorem b5g:b6S (some k)=some !k:=rfl
theorem b5h:b5b (some true) t ρ=t ρ:=rfl
theorem b5i:b5b (some false) t ρ=some false:=rfl
theorem b6V:orT (some true) t ρ=some true:=rfl
theorem b6W:orT (some false) t ρ=t ρ:=rfl
theorem b5j:b5c (some (.bool true)) b ρ=b ρ:=rfl
theorem b5k:b5c (some (.bool false)) b ρ=some (.bool false):=rfl
theorem b6X:orE (some (.bool true)) b ρ=some (.bool true):=rfl
theorem b6Y:orE (some (.bool false)) b ρ=b ρ:=rfl
theorem b5l:b6T (some (.bool k))=some (.bool !k):=rfl
theorem b5m:b5d (some true) a b ρ=a ρ:=rfl
theorem b5n:b5d (some false) a b ρ=b ρ:=rfl
theorem b5o:b5e (some true) s t ρ=s ρ:=rfl
theorem b5p:b5e (some false) s t ρ=t ρ:=rfl
theorem X2:thn (some (.nx ρ)) s=s ρ:=rfl
theorem b5q:thn (some (.rt d)) s=some (.rt d):=rfl
theorem b5r:thn (some (.bk ρ)) s=some (.bk ρ):=rfl
theorem b5s:thn (some (.ct ρ)) s=some (.ct ρ):=rfl
theorem b0n:b0l i (some d) ρ=some (.nx (ρ.set i d)):=rfl
theorem b5t:retS (some d)=some (.rt d):=rfl
theorem b6Z:exS (some d) ρ=some (.nx ρ):=rfl
theorem b2U:b0m i j (some (.tuple [x,y])) ρ=some (.nx ((ρ.set i x).set j y)):=rfl
theorem a6t{set:List D→D→Option (List D)}:b6U set g (some ds) ρ=R4 set g ds ρ:=rfl
theorem b5u:a2D (some (.rt d))=some d:=rfl
theorem a7J:listE (some ds)=some (.list ds):=rfl
theorem b5v:b5f (some ds)=some (.tuple ds):=rfl
theorem v_var:a7 i ρ=some (ρ.getD i .none):=rfl
theorem v_c:eC d ρ=some d:=rfl
theorem v_1:e1 g a ρ=l1 g (a ρ):=by unfold e1;cases a ρ <;> rfl
theorem v_2:e2 g a b ρ=l2 g (a ρ) (b ρ):=by unfold e2;cases a ρ <;> cases b ρ <;> rfl
theorem b8q:eCl m f ρ=lc m (f ρ):=by unfold eCl;cases f ρ <;> rfl
theorem a6u:a8 a r ρ=a7I (a ρ) (r ρ):=by unfold a8;cases a ρ <;> cases r ρ <;> rfl
theorem b0o:e7 ρ=some []:=rfl
theorem b7a:tB a ρ=lB (a ρ):=by unfold tB;cases a ρ <;> rfl
theorem b8r:tV a ρ=lT (a ρ):=by unfold tV;cases a ρ <;> rfl
theorem b7b:tNo t ρ=b6S (t ρ):=by unfold tNo;cases t ρ <;> rfl
theorem b7c:tAn s t ρ=b5b (s ρ) t ρ:=by
 unfold tAn;cases s ρ with
 | none=>rfl
 | some k=>cases k <;> rfl
theorem b7d:a2C s t ρ=orT (s ρ) t ρ:=by
 unfold a2C;cases s ρ with
 | none=>rfl
 | some k=>cases k <;> rfl
theorem v_and:a2B a b ρ=b5c (a ρ) b ρ:=by
 unfold a2B;cases h:a ρ with
 | none=>rfl
 | some d=>cases d with
  | bool k=>cases k <;> rfl
  | _=>rfl
theorem v_or:eOr a b ρ=orE (a ρ) b ρ:=by
 unfold eOr;cases h:a ρ with
 | none=>rfl
 | some d=>cases d with
  | bool k=>cases k <;> rfl
  | _=>rfl
theorem v_not:b0c a ρ=b6T (a ρ):=by
 unfold b0c;cases h:a ρ with
 | none=>rfl
 | some d=>cases d <;> rfl
theorem b8s:eIf t a b ρ=b5d (t ρ) a b ρ:=by
 unfold eIf;cases t ρ with
 | none=>rfl
 | some k=>cases k <;> rfl
theorem b3Z:N9 f ρ=listE (f ρ):=by unfold N9;cases f ρ <;> rfl
theorem b4a:F6 f ρ=b5f (f ρ):=by unfold F6;cases f ρ <;> rfl
theorem V8:f7 s t ρ=thn (s ρ) t:=by
 unfold f7;cases s ρ with
 | none=>rfl
 | some o=>cases o <;> rfl
theorem a0Q:i7 i a ρ=b0l i (a ρ) ρ:=by unfold i7;cases a ρ <;> rfl
theorem b0p:l6 a ρ=retS (a ρ):=by unfold l6;cases a ρ <;> rfl
theorem b8t:sEx a ρ=exS (a ρ) ρ:=by unfold sEx;cases a ρ <;> rfl
theorem b5w:u3 ρ=some (.nx ρ):=rfl
theorem b0q:sIf t s s' ρ=b5e (t ρ) s s' ρ:=by
 unfold sIf;cases t ρ with
 | none=>rfl
 | some k=>cases k <;> rfl
theorem b4b{set:List D→D→Option (List D)}:D5 fi set g ρ=b6U set g (fi ρ) ρ:=by unfold D5;cases fi ρ <;> rfl
theorem b5x:a1J i j a ρ=b0m i j (a ρ) ρ:=by
 unfold a1J;cases h:a ρ with
 | none=>rfl
 | some d=>
  match d with
  | .tuple [x,y]=>rfl
  | .tuple []=>rfl
  | .tuple [_]=>rfl
  | .tuple (_ :: _ :: _ :: _)=>rfl
  | .none=>rfl
  | .bool _=>rfl
  | .int _=>rfl
  | .str _=>rfl
  | .list _=>rfl
  | .dict _=>rfl
theorem D6(h:argsOk us ds=true):fnD us n g ds=a2D (g (ds ++ bu n .none)):=by
 unfold fnD;rw [aE h];cases g (ds ++ bu n .none) with
 | none=>rfl
 | some o=>cases o <;> rfl
theorem v_add:j7 (.int i) (.int j)=some (.int (i + j)):=rfl
theorem v_sub:a1A (.int i) (.int j)=some (.int (i - j)):=rfl
theorem v_lt:dLt (.int i) (.int j)=some (.bool (decide (i < j))):=rfl
theorem b8u:dLe (.int i) (.int j)=some (.bool (decide (i≤j))):=rfl
theorem b8v:dGt (.int i) (.int j)=some (.bool (decide (j < i))):=rfl
theorem b8w:dGe (.int i) (.int j)=some (.bool (decide (j≤i))):=rfl
theorem v_mod(h:0 < j):p8 (.int i) (.int j)=some (.int (i % j)):=by
 show (if b4P i j=true then _ else _)=_;rw [aE (show b4P i j=true from aO h)]
theorem v_div(h:0 < j)(h':j < 1073741824):G8 (.int i) (.int j)=some (.int (i / j)):=by
 show (if b2B i j=true then _ else _)=_;rw [aE (by unfold b2B;rw [aO h,aO h'];rfl)]
theorem a0r{i j:Int}(h:i.natAbs < 2 ^ 64):x8 (.int i) (.int j)=some (.int (i * j)):=by
 show (if a8B i j=true then _ else _)=_;rw [aE (by unfold a8B;rw [aO h];rfl)]
theorem a0s{i j:Int}(h:j.natAbs < 2 ^ 64):x8 (.int i) (.int j)=some (.int (i * j)):=by
 show (if a8B i j=true then _ else _)=_;rw [aE (by unfold a8B;rw [aO h,Bool.or_true])]
theorem v_pow(h:b2C i j=true):a3S (.int i) (.int j)=some (.int (i ^ j.toNat)):=by
 show (if b2C i j=true then _ else _)=_;rw [aE h]
theorem b7e:dEq (.int i) (.int j)=some (.bool (decide (i=j))):=by
 show some (cw (false != aI (.int i) (.int j)))=_;have:aI (.int i) (.int j)=decide (i=j):=by
  show (i == j)=decide (i=j);exact gN i j
 rw [this];simp
theorem b7f:dNe (.int i) (.int j)=some (.bool (!decide (i=j))):=by
 show some (cw (true != aI (.int i) (.int j)))=_;have:aI (.int i) (.int j)=decide (i=j):=by
  show (i == j)=decide (i=j);exact gN i j
 rw [this];simp
theorem b5y:A8 [.list ds]=some (.int ds.length):=rfl
theorem b5z:A8 [.tuple ds]=some (.int ds.length):=rfl
theorem b7g:dIx (.list ds) (.int k)=atI ds k:=rfl
theorem b7h:dIx (.tuple ds) (.int k)=atI ds k:=rfl
theorem b7i:o6 (.list ds) (.int k)=atI ds k:=rfl
theorem b7j:i8 x y=l1 a3X (dIx x y):=by unfold i8;cases dIx x y <;> rfl
theorem a4U(h:imm d=true):a3X d=some d:=by unfold a3X;rw [aE h]
theorem b7k:b2D k (.bool i) (.bool j)=some (.bool (k != (i == j))):=rfl
theorem b2V:imm (.int i)=true:=by simp only [imm]
theorem n6(ns:List Int):e6 (ns.map .int)=true:=by
 induction ns with
 | nil=>simp only [cK,e6]
 | cons n ns ih=>simp only [aB,e6,imm,ih,eL]
theorem a1N{α:Type}{xs:List α}(h0:0≤k)(h:k < (xs.length:Int)):atI xs k=some (xs[k.toNat]'(by lia)):=by
 unfold L2.atI ixN;rw [aE h0,aE h];exact af (by lia)
def b2W(i:Nat):D→Option D→List D→Option Out
 | .list ds,some d,ρ=>if ds.length < 1000000 then some (.nx (ρ.set i (.list (ds ++ [d])))) else none
 | _,_,_=>none
theorem b7l:B6 i (.l t) q8 a ρ=b2W i (ρ.getD i .none) (a ρ) ρ:=by
 unfold B6 q8
 dsimp only [bP]
 cases h:ρ.getD i .none with
 | list ds=>
  cases a ρ with
  | none=>rfl
  | some d=>rfl
 | _=>cases a ρ <;> rfl
theorem a4d{ds:List D}(h:ds.length < 1000000):b2W i (.list ds) (some d) ρ=some (.nx (ρ.set i (.list (ds ++ [d])))):=by
 show (if ds.length < 1000000 then some (Out.nx (ρ.set i (.list (ds ++ [d])))) else none)=_;rw [aE h]
theorem a4V(h:a ρ=some (.int n))(h0:0≤n)(h1:n < 2 ^ 62):iR a ρ=some (A6 0 n.toNat):=by
 unfold iR;rw [h];show (if -(2 ^ 62)≤n∧n < 2 ^ 62 then some (A6 0 n.toNat) else none)=_;rw [aE ⟨by lia,h1⟩]
theorem a1O:(A6 lo n).length=n:=by unfold A6;simp
end
end VS
namespace VS
open PySem PySem.Spec L2
def fnN(us:List Ty)(n:Nat)(g:EvS):List D→Option D:=fun ds=>if argsOk us ds then (g (ds ++ bu n .none)).bind fun o=>match o with
 | .rt d=>some d
 | .nx _=>some .none
 | _=>none
 else none
end VS
namespace VS
open PySem PySem.Spec L2
open PyProof.Rows in
theorem b0r{P:bB}{w:bU}{K:ag}{mg:bM→Option aj}{base:cm}{x:bM}{st:g_}{f:az}{fd:dC}{N ps:List bM}{k n:Nat}{us:List Ty}{u:Ty}{g:EvS}{M':List Md}(F:Fun K x x st f fd)(S:FnScope N ps (j6 st))(qx:us.length=ps.length)(hn:N.length=ps.length + n)
  (hb:∀(gg:aj) (A:bT) (outer:List tW) (s:au) (H:Hp) (E:XK),Room k (A.deeper (kj x (j6 st) s.heap.objs.size f gg))→PSsX (a2x CX0 P w K mg base N x (j6 st) f gg A outer s H E).nox .i [] (us.map .own ++ bu n .dead) (B1 st) g M') (hu:u=.i:=by rfl) :
  FnOk P w K mg base CX0 (k + 1) f fd ps (spD K ps.length (fnN us n g) u):=by
 subst hu;refine F.ok S (fun vs H Q E h=>?_) (fun gg A outer s H vs Q E hr h=>?_)
 ·obtain⟨ds,d,hl,_⟩:=h;exact hl
 obtain⟨ds,d,hl,hd,hm,q⟩:=h;obtain⟨t,p,r⟩:=(hb gg A outer s H E hr).out;refine⟨t,p,?_⟩;unfold fnN at hm;by_cases ha:argsOk us ds=true
 ·rw [aE ha] at hm;obtain⟨o,h1,h2⟩:=bnd hm;have e:L2.start N vs=vs.map some ++ bu n none:=by
   unfold L2.start;rw [show N.length - vs.length=n by lia]
  have S0:StR K (us.map .own ++ bu n .dead) (ds ++ bu n iJ) (vs.map some ++ bu n none) H H []:=⟨⟨[],a1l ha hd n,bw,fun a ha=>(nomatch ha)⟩,fun a ha=>(nomatch ha),by rw [a1g];exact Same.refl H⟩;cases o with
  | rt d'=>
   have lr:some d'=some d:=h2;cases lr
   rw [e];exact r _ (ds ++ bu n iJ) _ H H [] (.rt d) S0 h1 fun v H' fp o nd fr e=>q v H' fp e o nd fr
  | nx ρ=>
   have lr:some iJ=some d:=h2;cases lr
   rw [e];refine r _ (ds ++ bu n iJ) _ H H [] (.nx ρ) S0 h1 fun σ' H' F' S'=>?_
   refine q .non H' [] (S'.prot.trans m5) ?_ bw fun a ha=>(nomatch ha)
   simp only [Own];exact⟨trivial,by simp only [imm],den_none⟩
  | _=>cases h2
 ·rw [aJ ha] at hm;cases hm
end VS
namespace VS
open PySem PySem.Spec L2
theorem X3:∀{l:List α} {l':List β},fS R l l'→∀{j:Nat} {x:α},l[j]?=some x→∃y,l'[j]?=some y∧R x y:=by
 intro l l' h
 induction h with
 | nil=>intro j x e;simp at e
 | cons r _ ih=>
  intro j x e;cases j with
  | zero=>cases e;exact⟨_,rfl,r⟩
  | succ j=>exact ih (by simpa using e)
theorem a4W:∀{l:List α} {l':List β},fS R l l'→∀{j:Nat} {y:β},l'[j]?=some y→∃x,l[j]?=some x∧R x y:=by
 intro l l' h
 induction h with
 | nil=>intro j x e;simp at e
 | cons r _ ih=>
  intro j x e;cases j with
  | zero=>cases e;exact⟨_,rfl,r⟩
  | succ j=>exact ih (by simpa using e)
section
variable {X:Cx}{pins:List (az × eW)}{σ:L2.St}{H:Hp}{s:au}{A:bT}{E:aj→au→Prop}{a:az}{es:List (D × V × V)}{o:eW}{ents:Array fR}{ep:Nat}{kt:Bool}{k:D}{kv:V}{key:aj}
theorem a0t(I:Inv X pins σ H s)(kk:keyOk kt k)(dk:Den X.K H kv k)(rk:RelV kv key):∃as,Reads s.heap key k as:=Den.reads I k (L8 _ kk.1) dk rk
theorem a0u(I:Inv X pins σ H s)(hu:A.units + 10 < dq)(kk:keyOk kt k)(dk:Den X.K H kv k)(rk:RelV kv key)(h:Q (hashD k) {s with toks:=s.toks + u4 k}):aQ (bc X.prog X.w) A (pyHash key) Q E s:=by
 obtain⟨as,r⟩:=a0t I kk dk rk;exact a1y k kk.1 (by have:=kk.2.1;lia) r h
theorem a0v(I:Inv X pins σ H s)(hu:A.units + 10 < dq)(ho:s.heap.get? a=some o)(hd:o.data=.dict ents ep)(hp:fS Q5 es ents.toList)(hn:(es.map (·.1)).Nodup)(hk:∀e∈es,keyOk kt e.1∧Den X.K H e.2.1 e.1)
  (kk:keyOk kt k) (dk:Den X.K H kv k) (rk:RelV kv key) (jD:(∀e∈es,e.1≠k)→Q none s) (jC:∀j e,es[j]?=some e→e.1=k→Q (some j) s) :
  aQ (bc X.prog X.w) A (dictFind a key (hashD k)) Q E s:=by
 cases kt with
 | false=>
  obtain⟨i,rfl⟩:=kk.2.2.2 rfl;cases dk.int_inv
  obtain⟨t,rfl⟩:=rk;have ent:∀(j:Nat) (x:fR),ents.toList[j]?=some x→∃e n u,es[j]?=some e∧e.1=.int n∧x.key=.int n u∧x.hash=hashInt n:=fun j x hx=>by
   obtain⟨e,he,h1,h2,_⟩:=a4W hp hx;obtain⟨k1,k2⟩:=hk e (ba he);obtain⟨n,en⟩:=k1.2.2.2 rfl;rw [en] at k2 h1;have e2:=k2.int_inv;rw [e2] at h2;obtain⟨u,nt⟩:=h2;exact⟨e,n,u,he,en,nt,by simpa [hashD] using h1⟩
  show aQ (bc X.prog X.w) A (dictFind a (.int i t) ((gf X.prog X.w).hash i)) Q E s;refine wpAny_dictFind_of (knd:=gf X.prog X.w) (k:=i) (by simp [gf,ly]) ho hd (fun x hx=>?_) ?_
  ·obtain⟨j,hj⟩:=bX.mp (fP.mpr hx);obtain⟨e,n,u,_,_,h3,h4⟩:=ent j x hj;exact⟨n,by rw [h3];simp [gf,ly],h4⟩
  ·cases hf:ents.findIdx? fun e=>(gf X.prog X.w).is i e.key with
   | none=>
    refine jD fun e he fH=>?_
    obtain⟨j,hj⟩:=bX.mp he;obtain⟨x,hx,_⟩:=X3 hp hj;obtain⟨e',n,u,h1,h2,h3,_⟩:=ent j x hx;rw [hj] at h1;cases h1
    rw [fH] at h2;cases h2
    have:=Array.findIdx?_eq_none_iff.mp hf x (fP.mp (ba hx));rw [h3] at this;simp [gf,ly] at this
   | some j=>
    obtain⟨iS,so,_⟩:=Array.findIdx?_eq_some_iff_getElem.mp hf;have hx:ents.toList[j]?=some ents[j]:=by simp [iS]
    obtain⟨e,n,u,h1,h2,h3,_⟩:=ent j _ hx;have qF:n=i:=by
     rw [h3] at so;simpa [gf,ly] using so
    subst qF;exact jC j e h1 h2
 | true=>
  obtain⟨ds,rfl⟩:=kk.2.2.1 rfl;obtain⟨p,rL,rfl,_,_⟩:=dk.tup_inv;cases (show key=a_ p from rk)
  obtain⟨as,zf⟩:=a0t I kk (dk) (show RelV (.ref p) (.ref p) from rfl);have build:∀{es:List (D × V × V)} {l:List fR},fS Q5 es l→(∀e∈es,keyOk true e.1∧Den X.K H e.2.1 e.1)→∃xs:List (D × az × aj),l=xs.map (fun x=>(⟨hashD x.1,.ref x.2.1,x.2.2⟩:fR))∧xs.map (·.1)=es.map (·.1)∧∀x∈xs,z7 x.1=true∧x.1.depth≤7∧∃as,Reads s.heap (.ref x.2.1) x.1 as:=by
   intro es l hp
   induction hp with
   | nil=>exact fun _=>⟨[],rfl,rfl,fun x hx=>(nomatch hx)⟩
   | @cons e x es l r _ ih=>
    intro hk;obtain⟨xs,i1,i2,i3⟩:=ih fun e he=>hk e (ah _ he)
    obtain⟨k1,k2⟩:=hk e aq;obtain⟨as,rr⟩:=a0t I k1 k2 r.2.1;obtain⟨ds,ed⟩:=k1.2.2.1 rfl;have:∃q,x.key=.ref q:=by
     rw [ed] at rr;cases zH:x.key with
     | ref q=>exact⟨q,rfl⟩
     | _=>rw [zH] at rr;cases rr
    obtain⟨q,hq⟩:=this;refine⟨(e.1,q,x.val) :: xs,?_,by rw [aB,aB,i2],fun y hy=>?_⟩
    ·rw [aB,←i1]
     congr 1;obtain⟨xh,xk,xv⟩:=x;simp only at hq;rw [show xh=hashD e.1 from r.1,hq]
    ·rcases aH.mp hy with z|z
     ·subst z;exact⟨k1.1,k1.2.1,as,by rw [hq] at rr;exact rr⟩
     ·exact i3 y z
  obtain⟨xs,x1,x2,x3⟩:=build hp hk;have idx:∀(j:Nat) (kk:D),(∃p,xs[j]?=some (kk,p))↔∃e,es[j]?=some e∧e.1=kk:=fun j kk=>by
   have:(xs.map (·.1))[j]?=(es.map (·.1))[j]?:=by rw [x2]
   rw [aN,aN] at this
   constructor
   ·rintro⟨q,hq⟩;rw [hq] at this;cases he:es[j]? with
    | none=>rw [he] at this;cases this
    | some e=>rw [he] at this;exact⟨e,rfl,(aP this).symm⟩
   ·rintro⟨e,he,hk⟩;rw [he] at this;cases hx:xs[j]? with
    | none=>rw [hx] at this;cases this
    | some x=>
     rw [hx] at this;have e1:x.1=e.1:=aP this;exact⟨x.2,by rw [←hk,←e1]⟩
  refine @wpAny_dictFind_heap X.prog X.w D a8A (a9W X.prog X.w) A E s a p o ents ep xs (.tuple ds) Q (by show A.units + 8 < dq;lia) ⟨kk.1,kk.2.1,as,zf⟩ ho hd x1 x3 (by rw [x2];exact hn) (fun h=>jD fun e he fH=>?_) (fun j q hj=>?_)
  ·obtain⟨j,hj⟩:=bX.mp he;obtain⟨q,hq⟩:=(idx j (.tuple ds)).mpr ⟨e,hj,fH⟩;exact h j q hq
  ·obtain⟨e,he,fH⟩:=(idx j (.tuple ds)).mp ⟨q,hj⟩;exact jC j e he fH
end
end VS
namespace VS
open PySem PySem.Spec L2
def A9(es:List (D × V × V))(k:D):Bool:=es.any fun e=>aI e.1 k
def K5(es:List (D × V × V))(k:D)(kv v:V):List (D × V × V):=if A9 es k then es.map fun e=>if aI e.1 k then (e.1,e.2.1,v) else e else es ++ [(k,kv,v)]
section
variable {X:Cx}{pins:List (az × eW)}{σ:L2.St}{H:Hp}{s:au}{A:bT}{E:aj→au→Prop}{a:az}{es:List (D × V × V)}{kt:Bool}{k:D}{kv v:V}{key val:aj}
theorem a6v(h:a3Q (ks ++ [x])=false):a3Q ks=false:=by
 cases ks with
 | nil=>rfl
 | cons e ks=>
  unfold a3Q at h ⊢
  split at h
  ·cases h
  ·rename_i hn
   split
   ·rename_i heq
    cases heq
    exact absurd rfl (hn _)
   ·rfl
theorem a6w{x:D × V × V}(h:N7 (es ++ [x])=false):N7 es=false:=by
 rw [N7,aR] at h;exact a6v h
theorem a3c(I:Inv X pins σ H s)(h:H a=some (i4 a es)):(a == dU)=false∧es.length≤aT∧(es.map (·.1)).Nodup∧∃o ents ep,s.heap.get? a=some o∧o.ExactDict∧o.data=.dict ents ep∧fS Q5 es ents.toList∧(N7 es=false→ep=es.length):=
 (show ObjOk X.prog X.w H s.heap a (i4 a es) from I.hok a _ h).1
theorem a8L(I:Inv X pins σ H s)(h:H a=some (i4 a es))(hL:N7 es=false):(a == dU)=false∧es.length≤aT∧(es.map (·.1)).Nodup∧∃o ents,s.heap.get? a=some o∧o.ExactDict∧o.data=.dict ents es.length∧fS Q5 es ents.toList:=
 let⟨a1,a2,a3,o,ents,_,r1,r2,r3,r4,r5⟩:=a3c I h;⟨a1,a2,a3,o,ents,r1,r2,r5 hL ▸ r3,r4⟩
theorem C7(I:Inv X pins σ H s)(h:H a=some (i4 a es)):(a == dU)=false∧es.length≤aT∧(es.map (·.1)).Nodup∧∃o ents ep,s.heap.get? a=some o∧o.ExactDict∧o.data=.dict ents ep∧fS Q5 es ents.toList:=
 let⟨a1,a2,a3,o,ents,ep,r1,r2,r3,r4,_⟩:=a3c I h;⟨a1,a2,a3,o,ents,ep,r1,r2,r3,r4⟩
theorem a4X(I:Inv X pins σ H s)(h:H a=some (i4 a es)){o:eW}{ents:Array fR}{ep:Nat}(h1:s.heap.get? a=some o)(h3:o.data=.dict ents ep)(hL:N7 es=false):ep=es.length:=by
 obtain⟨_,_,_,o',pX,g1,_,g3,_⟩:=a8L I h hL;rw [h1] at g1;cases g1
 rw [h3] at g3
 injection g3
theorem A3(I:Inv X pins σ H s)(h:H a=some (i4 a es)):s.TypeIs (.ref a) "dict":=by
 obtain⟨_,_,_,o,ents,ep,h1,h2,_⟩:=C7 I h;exact⟨o,h1,h2.1⟩
theorem a4e(I:Inv X pins σ H s)(h:H a=some (i4 a es)):∀b,a_ a=.ref b→∃ob,s.heap.get? b=some ob∧ob.dict=none:=fun b q=>by
 cases q
 obtain⟨_,_,_,o,ents,ep,h1,h2,_⟩:=C7 I h;exact⟨o,h1,h2.2.1⟩
theorem a0w{P:bB}{w:bU}{H':Hp}{h':cm}(hs:(a == dU)=false)(hl:es.length≤aT)(hn:(es.map (·.1)).Nodup){o:eW}{ents:Array fR}{ep:Nat}(h1:h'.get? a=some o)(h2:o.ExactDict)(h3:o.data=.dict ents ep)(he:N7 es=false→ep=es.length)(h4:fS Q5 es ents.toList):ObjOk P w H' h' a (i4 a es):=
 ⟨⟨hs,hl,hn,o,ents,ep,h1,h2,h3,h4,he⟩,⟨o,h1⟩,fun x1 x2 ⟨a1,a2,a3,o',pX,pW,b1,b2⟩ hk=>⟨a1,a2,a3,o',pX,pW,hk _ b1,b2⟩⟩
structure KeysAt (X:Cx) (H:Hp) (kt:Bool) (es:List (D × V × V)) (k:D) (kv:V):Prop where
 keys:∀e∈es,keyOk kt e.1∧Den X.K H e.2.1 e.1
 key:keyOk kt k
 den:Den X.K H kv k
theorem KeysAt.eqv(K:KeysAt X H kt es k kv){e:D × V × V}(he:e∈es):aI e.1 k=true↔e.1=k:=A7 e.1 k (K.keys e he).1.1 K.key.1
theorem get_dict(I:Inv X pins σ H s)(hu:A.units + 10 < dq)(h:H a=some (i4 a es))(K:KeysAt X H kt es k kv)(rk:RelV kv key) 
  (jD:A9 es k=false→∀s',Inv X pins σ H s'→Q none s') (jC:∀e∈es,e.1=k→∀x s',Inv X pins σ H s'→RelV e.2.2 x→Q (some x) s') :
  aQ (bc X.prog X.w) A (dictGet a key) Q E s:=by
 obtain⟨_,_,hn,o,ents,ep,h1,h2,h3,h4⟩:=C7 I h;unfold dictGet
 try with_reducible refine cM ?_
 refine ab (a0u I hu K.key K.den rk (ab (a0v (s:={s with toks:=s.toks + u4 k}) (I.tok (s.toks + u4 k)) hu h1 h3 h4 hn K.keys K.key K.den rk ?_ ?_)))
 ·intro lZ;refine ak (jD ?_ _ (I.tok _));unfold A9;rw [cH];exact fun e he hq=>lZ e he ((K.eqv he).mp hq)
 ·intro j e he fH;obtain⟨x,hx,r⟩:=X3 h4 he;refine ab (fV (s:={s with toks:=s.toks + u4 k}) h1 h3 ?_);have:ents[j]?=some x:=by rw [←bg];exact hx
  rw [this];exact ak (jC e (ba he) fH _ _ (I.tok _) r.2.2)
theorem Z0(hf:A9 es k=false):K5 es k kv v=es ++ [(k,kv,v)]:=by unfold K5;rw [hf];rfl
theorem a6x{α β:Type}{R:α→β→Prop}{l:List α}{l':List β}(h:fS R l l'){x:α}{y:β}(r:R x y):fS R (l ++ [x]) (l' ++ [y]):=by
 induction h with
 | nil=>exact .cons r .nil
 | cons q _ ih=>exact .cons q ih
theorem a8M(K:KeysAt X H kt es k kv)(hn:(es.map (·.1)).Nodup)(hf:A9 es k=false):((es ++ [(k,kv,v)]).map (·.1)).Nodup:=by
 rw [aR,bG];refine⟨hn,by simp,fun x hx y hy e=>?_⟩;simp only [aB,cK,ar] at hy;subst hy;subst e;obtain⟨e,he,rfl⟩:=aK.mp hx;unfold A9 at hf;rw [cH] at hf;exact hf e he ((K.eqv he).mpr rfl)
theorem a3d(I:Inv X pins σ H s)(h:H a=some (i4 a es))(K:KeysAt X H kt es k kv)(rk:RelV kv key)(rv:RelV v val)(hl:es.length < aT)(hf:A9 es k=false){t':Nat}{o:eW}{ents:Array fR}{ep:Nat}(h1:s.heap.get? a=some o)(h2:o.ExactDict)(h3:o.data=.dict ents ep)(h4:fS Q5 es ents.toList) :
  Inv X pins σ (upd H a (i4 a (es ++ [(k,kv,v)]))) {s with heap:=s.heap.update a (·.mapDictKeys (·.push ⟨hashD k,key,val⟩)),toks:=t'}:=by
 obtain⟨hs,_,hn,_⟩:=C7 I h;refine I.write (x:=a) (e:=a) (by rw [h];exact iG) (.inl rfl) (fun b q hb z=>((cy ..).2 b hb).trans z) ⟨_,cW _ h1 (iY (lG h3 _))⟩ ?_;refine a0w hs (by simp;lia) (a8M K hn hf) (cW _ h1 (iY (lG h3 _))) (h2.mapDictKeys _) (lG h3 _) (fun hL=>by rw [a4X I h h1 h3 (a6w hL),aM];rfl) ?_;have:=a6x h4 (x:=(k,kv,v)) (y:=⟨hashD k,key,val⟩) ⟨rfl,rk,rv⟩;obtain⟨l⟩:=ents;simpa using this
theorem a8N(I:Inv X pins σ H s)(hu:A.units + 10 < dq)(h:H a=some (i4 a es))(K:KeysAt X H kt es k kv)(rk:RelV kv key)(rv:RelV v val)(hl:es.length < aT){Q:aj→au→Prop}
  (jD:A9 es k=false→∀s',Inv X pins σ (upd H a (i4 a (es ++ [(k,kv,v)]))) s'→Q val s') (jC:∀e∈es,e.1=k→∀x s',Inv X pins σ H s'→RelV e.2.2 x→Q x s') :
  aQ (bc X.prog X.w) A (tJ a key val) Q E s:=by
 obtain⟨_,_,hn,o,ents,ep,h1,h2,h3,h4⟩:=C7 I h;have mO:ents.size≤aT:=by
  have:=iw h4;have e2:ents.toList.length=ents.size:=by simp
  lia
 unfold tJ
 try with_reducible refine cM ?_
 refine ab (a0u I hu K.key K.den rk (ab (a0v (s:={s with toks:=s.toks + u4 k}) (I.tok (s.toks + u4 k)) hu h1 h3 h4 hn K.keys K.key K.den rk ?_ ?_)))
 ·intro lZ;have hf:A9 es k=false:=by
   unfold A9;rw [cH];exact fun e he hq=>lZ e he ((K.eqv he).mp hq)
  refine ab (kl (ab (wpAny_updateDictKeys (hz:=mO) (s:={s with toks:=s.toks + u4 k}) h1 h3 (ak (jD hf _ (a3d (t':=s.toks + u4 k) I h K rk rv hl hf h1 h2 h3 h4))))))
 ·intro j e he fH;obtain⟨x,hx,r⟩:=X3 h4 he;refine ab (fV (s:={s with toks:=s.toks + u4 k}) h1 h3 ?_);have:ents[j]?=some x:=by rw [←bg];exact hx
  rw [this];exact ab (kl (ak (jC e (ba he) fH _ _ (I.tok (s.toks + u4 k)) r.2.2)))
theorem a6y(hp:fS Q5 es l)(hn:(es.map (·.1)).Nodup)(hk:∀e∈es,aI e.1 k=true↔e.1=k)(rv:RelV v val):∀{j:Nat} {e:D × V × V},es[j]?=some e→e.1=k→
  fS Q5 (es.map fun e=>if aI e.1 k then (e.1,e.2.1,v) else e) (l.modify j fun x=>{x with val:=val}):=by
 induction hp with
 | nil=>intro j e he;simp at he
 | @cons e0 x es l r hp ih=>
  intro j e he fH;rw [aB,bJ] at hn;have ny:∀e∈es,aI e.1 k=true↔e.1=k:=fun e he=>hk e (ah _ he)
  cases j with
  | zero=>
   cases he
   have h0:aI e0.1 k=true:=(hk _ aq).mpr fH;have iA:es.map (fun e=>if aI e.1 k then (e.1,e.2.1,v) else e)=es:=by
    have:∀e'∈es,(if aI e'.1 k then (e'.1,e'.2.1,v) else e')=e':=fun e' jO=>by
     rw [aJ];intro q;exact hn.1 (by rw [fH,←(ny e' jO).mp q];exact bK jO)
    rw [bS this,gD]
   rw [aB,aE h0,iA];exact .cons ⟨r.1,r.2.1,rv⟩ hp
  | succ j=>
   have jO:es[j]?=some e:=by simpa using he
   have fA:¬ aI e0.1 k=true:=fun q=>hn.1 (by rw [(hk _ aq).mp q,←fH];exact bK (ba jO))
   rw [aB,aJ fA];exact .cons r (ih hn.2 ny jO fH)
theorem Z4{es:List (D × V × V)}:(es.map fun e=>if aI e.1 k then (e.1,e.2.1,v) else e).map (·.1)=es.map (·.1):=by
 rw [bp];refine bS fun e _=>?_
 show (if aI e.1 k then (e.1,e.2.1,v) else e).1=e.1
 split <;> rfl
theorem set_dict(I:Inv X pins σ H s)(hu:A.units + 10 < dq)(h:H a=some (i4 a es))(K:KeysAt X H kt es k kv)(rk:RelV kv key)(rv:RelV v val)(hl:es.length < aT){Q:Unit→au→Prop}
  (hQ:∀s',Inv X pins σ (upd H a (i4 a (K5 es k kv v))) s'→Q () s'):aQ (bc X.prog X.w) A (dictSet a key val) Q E s:=by
 obtain⟨hs,_,hn,o,ents,ep,h1,h2,h3,h4⟩:=C7 I h;have mO:ents.size≤aT:=by
  have:=iw h4;have e2:ents.toList.length=ents.size:=by simp
  lia
 unfold dictSet
 try with_reducible refine cM ?_
 refine ab (a0u I hu K.key K.den rk ?_);unfold dictSetHashed
 try with_reducible refine cM ?_
 refine ab (a0v (s:={s with toks:=s.toks + u4 k}) (I.tok (s.toks + u4 k)) hu h1 h3 h4 hn K.keys K.key K.den rk ?_ ?_)
 ·intro lZ;have hf:A9 es k=false:=by
   unfold A9;rw [cH];exact fun e he hq=>lZ e he ((K.eqv he).mp hq)
  rw [Z0 hf] at hQ;exact ab (kl (wpAny_updateDictKeys (hz:=mO) (s:={s with toks:=s.toks + u4 k}) h1 h3 (hQ _ (a3d (t':=s.toks + u4 k) I h K rk rv hl hf h1 h2 h3 h4))))
 ·intro j e he fH;have hf:A9 es k=true:=by
   unfold A9;rw [gU];exact⟨e,ba he,(K.eqv (ba he)).mpr fH⟩
  have pW:K5 es k kv v=es.map fun e=>if aI e.1 k then (e.1,e.2.1,v) else e:=by unfold K5;rw [hf];rfl
  rw [pW] at hQ;refine ab (kl (ab (wpAny_updateDict (s:={s with toks:=s.toks + u4 k}) h1 h3 (wpAny_point (hQ _ ?_)))));refine I.write (x:=a) (e:=a) (t':=s.toks + u4 k) (by rw [h];exact iG) (.inl rfl) (fun b q hb z=>((cy ..).2 b hb).trans z) ⟨_,cW _ h1 (iY (o_ h3 _))⟩ ?_;refine a0w hs (by rw [ae];lia) (by rw [Z4];exact hn) (cW _ h1 (iY (o_ h3 _))) (h2.mapDict _) (o_ h3 _) (fun hL=>by rw [N7,Z4] at hL;rw [a4X I h h1 h3 hL,ae]) ?_;have:=a6y h4 hn (fun e he=>K.eqv he) rv he fH;obtain⟨l⟩:=ents;simpa using this
end
end VS
namespace VS
open PySem PySem.Spec L2
def b0s(i:Expr):Prop:=∀ov iv,pE i false ov iv=operate [ov,iv] (nU ov iv)
open PyProof.Rows in
theorem b8x{prog:bB}{w:bU}{A:bT}{E:aj→au→Prop}{s:au}{env:tW}{value slice:Expr}{pos:eM}{T id:String}{Q:aj→au→Prop}
  (hl:typeLookup (.type T) "__getitem__"=pure (some (.builtin id))) (hs:b0s slice)
  (h:aQ (bc prog w) A (cO value env) (fun o s₁=>aQ (bc prog w) A (cO slice env) (fun i s₂=>s₂.TypeIs o T∧aQ (bc prog w) A (nU o i) Q E s₂) E s₁) E s) :
  aQ (bc prog w) A (cO (.Subscript value slice pos) env) Q E s:=by
 refine PyProof.Rows.Subscript_ (dG h (fun o s₁ h₁=>dG h₁ (fun i s₂ h₂=>?_) fun _ _ x=>x) fun _ _ x=>x);obtain⟨hT,h₂⟩:=h₂;unfold subscriptTail;refine ab ?_;rw [getitemInPython_of_ne hT.not_modules];refine ab (gF hT hl ?_);have fin:aQ (bc prog w) A (pE slice false o i) (fun r s₃=>aQ (bc prog w) A (letTemporaryGo value o r >>= fun _=>pure r) Q E s₃) E s₂:=by
  rw [hs o i];exact wpAny_operating (dG h₂ (fun r s₃ h₃=>ab (wpAny_letTemporaryGo (ak h₃))) fun _ _ x=>x)
 first
  | exact ak (ab fin)
  | exact ab (ak (ab fin))
  | exact ab fin
section
variable {X:Cx}{pins:List (az × eW)}{σ:L2.St}{H:Hp}{s:au}{A:bT}{E:aj→au→Prop}{a:az}{es:List (D × V × V)}{kt:Bool}{k:D}{kv v:V}{key val:aj}
theorem a6z(hu:A.units + 12 < dq)(I:Inv X pins σ H s)(h:H a=some (i4 a es))(K:KeysAt X H kt es k kv)(rk:RelV kv key)(hh:A9 es k=true)
  (hQ:∀e∈es,e.1=k→∀x s',Inv X pins σ H s'→RelV e.2.2 x→Q x s'):aQ (bc X.prog X.w) A (nU (.ref a) key) Q E s:=by
 have hT:=A3 I h;unfold nU
 try with_reducible refine cM ?_
 refine ab (wpAny_sequenceKey hT (by decide) ?_);refine ab (cI (name:=ef "__getitem__") hT slot_dict_getitem (cq slot_dict_getitem hT entry_dict_getitem ?_ (args_dict_getitem _ _)));show aQ _ _ (dictGet a key >>= _) _ _ s;refine ab (get_dict (A:=A.in1) I (by show A.units + 1 + 10 < dq;lia) h K rk (fun hf=>by rw [hh] at hf;cases hf) fun e he fH x s' I' r=>?_);exact ak ⟨x,rfl,ak (hQ e he fH x s' I' r)⟩
theorem a6A(hu:A.units + 12 < dq)(I:Inv X pins σ H s)(h:H a=some (i4 a es))(K:KeysAt X H kt es k kv)(rk:RelV kv key)(rv:RelV v val)(hl:es.length < aT)
  (hQ:∀s',Inv X pins σ (upd H a (i4 a (K5 es k kv v))) s'→Q () s'):aQ (bc X.prog X.w) A (setItem (.ref a) key val) Q E s:=by
 have hT:=A3 I h;unfold setItem
 try with_reducible refine cM ?_
 refine ab (wpAny_sequenceKey hT (by decide) ?_);refine ab (cI (name:=ef "__setitem__") hT slot_dict_setitem (cq slot_dict_setitem hT entry_dict_setitem ?_ (args_dict_setitem _ _ _)));show aQ _ _ (Builtin.Dict.notOrdered "__setitem__" ⟨[.ref a,key,val],[]⟩ >>= _) _ _ s;refine ab (kL hT ?_);show aQ _ _ (dictSet a key val >>= _) _ _ s;exact ab (set_dict (A:=A.in1) I (by show A.units + 1 + 10 < dq;lia) h K rk rv hl fun s' I'=>ak ⟨.none,rfl,ak (hQ s' I')⟩)
theorem b2X(hu:A.units + 12 < dq)(I:Inv X pins σ H s)(h:H a=some (i4 a es))(K:KeysAt X H kt es k kv)(rk:RelV kv key)(rv:RelV v val)(hl:es.length < aT)
  (jD:A9 es k=false→∀s',Inv X pins σ (upd H a (i4 a (es ++ [(k,kv,v)]))) s'→Q val s') (jC:∀e∈es,e.1=k→∀x s',Inv X pins σ H s'→RelV e.2.2 x→Q x s') :
  aQ (bc X.prog X.w) A (call (.builtin "dict.setdefault") [.ref a,key,val]) Q E s:=by
 have hT:=A3 I h;obtain⟨hd,_⟩:=C7 I h;refine cq F.slot_dict_setdefault hT F.entry_dict_setdefault ?_ (F.args_dict_setdefault_3 _ _ _);unfold Builtin.«dict.setdefault»;refine ab ?_;unfold Builtin.Dict.keyAndDefault;refine ab (kL hT ?_);show aQ _ _ (pure (a,key,some val)) _ _ s;refine ak ?_;show aQ _ _ (if (a == dU)=true then _ else (tJ a key val >>= _)) _ _ s;rw [aJ (by rw [hd];exact bD)];exact ab (a8N (A:=A.in1) I (by show A.units + 1 + 10 < dq;lia) h K rk rv hl (fun hf s' I'=>ak ⟨_,rfl,jD hf s' I'⟩) fun e he fH x s' I' r=>ak ⟨_,rfl,jC e he fH x s' I' r⟩)
theorem b5A(I:Inv X pins σ H s)(h:H a=some (i4 a es))(hQ:∀t s',Inv X pins σ H s'→Q (.int es.length t) s'):aQ (bc X.prog X.w) A (call (.builtin "len") [.ref a]) Q E s:=by
 have hT:=A3 I h;obtain⟨hd,hl,_,o,ents,ep,h1,h2,h3,h4⟩:=C7 I h;have mO:ents.size=es.length:=by
  have:=iw h4;have e2:ents.toList.length=ents.size:=by simp
  lia
 have pL:(es.length:Int) < 2 ^ 63:=by
  have:aT < 2 ^ 62:=by decide
  lia
 refine jA kind_len plain_len entry_len (args_len1 _) ?_;unfold Builtin.«len»;refine ab (m:=oneArg "len" _) (ak ?_);refine ab (m:=callSpecial? (.ref a) (ef "__len__")) (cI (name:=ef "__len__") hT F.slot_dict_len (cq F.slot_dict_len hT F.entry_dict_len ?_ (F.args_dict_len_1 _)));show aQ _ _ (dictSize a >>= _) _ _ s;unfold dictSize;refine ab (ab (fV h1 h3 (ak ?_)));show aQ _ _ (Builtin.Dict.pendingCount a >>= _) _ _ s;refine ab (wpAny_pendingCount_other hd ?_);refine wpAny_ret_mkInt ?_;rw [Nat.add_zero,mO];refine ab (cM (ak ?_));refine ab (wpAny_letGo ?_);show aQ _ _ (if ((es.length:Nat):Int) < 0 then _ else _) _ _ _;rw [aJ (by lia)];show aQ _ _ (if ((es.length:Nat):Int)≥2 ^ 63 then _ else _) _ _ _;rw [aJ (by lia)];exact ab (wpAny_mkInt (ak ⟨_,rfl,hQ _ _ (I.tok _)⟩))
end
end VS
namespace VS
open PySem PySem.Spec L2
def G0(kvs:List (D × D))(k:D):Bool:=kvs.any fun p=>aI p.1 k
def D7(kvs:List (D × D))(k:D):Option D:=(kvs.find? fun p=>aI p.1 k).map (·.2)
def v5(kvs:List (D × D))(k d:D):List (D × D):=if G0 kvs k then kvs.map fun p=>if aI p.1 k then (p.1,d) else p else kvs ++ [(k,d)]
def B8(kt:Bool)(k:D):Bool:=z7 k && decide (k.depth≤7) && match k with
 | .tuple _=>kt
 | .int _=>!kt
 | _=>false
theorem O3(h:B8 kt k=true):keyOk kt k:=by
 unfold B8 at h;rw [aA,aA] at h;refine⟨h.1.1,bh h.1.2,fun e=>?_,fun e=>?_⟩
 ·subst e;cases k with
  | tuple ds=>exact⟨ds,rfl⟩
  | int i=>have:=h.2;simp at this
  | _=>have:=h.2;simp at this
 ·subst e;cases k with
  | int i=>exact⟨i,rfl⟩
  | tuple ds=>have:=h.2;simp at this
  | _=>have:=h.2;simp at this
def b2Y(kt:Bool):D→D→Option D
 | .dict kvs,k=>if B8 kt k then D7 kvs k else none
 | _,_=>none
def a7K:List D→Option D
 | [.dict kvs]=>some (.int kvs.length)
 | _=>none
theorem B0:∀{es:List (D × V × V)} {ds:List D},ds.length=es.length→G0 ((es.map (·.1)).zip ds) k=A9 es k
 | [],ds,_=>by simp [G0,A9]
 | e :: es,[],h=>by simp at h
 | e :: es,d :: ds,h=>by
  have ih:=B0 (k:=k) (es:=es) (ds:=ds) (by simpa using h);unfold G0 A9 at ih ⊢;simp only [aB,eZ,gW,ih]
theorem a1P:∀{es:List (D × V × V)} {ds:List D} {j:Nat} {e:D × V × V} {d:D},ds.length=es.length→(∀e∈es,aI e.1 k=true↔e.1=k)→(es.map (·.1)).Nodup→es[j]?=some e→e.1=k→ds[j]?=some d→D7 ((es.map (·.1)).zip ds) k=some d
 | [],ds,j,e,d,_,_,_,he,_,_=>by simp at he
 | e0 :: es,[],j,e,d,h,_,_,_,_,_=>by simp at h
 | e0 :: es,d0 :: ds,0,e,d,h,hk,_,he,fH,hd=>by
  cases he
  cases hd
  have:aI e0.1 k=true:=(hk _ aq).mpr fH;simp [D7,this]
 | e0 :: es,d0 :: ds,j + 1,e,d,h,hk,hn,he,fH,hd=>by
  rw [aB,bJ] at hn;have jO:es[j]?=some e:=by simpa using he
  have ir:ds[j]?=some d:=by simpa using hd
  have ih:=a1P (k:=k) (by simpa using h) (fun e he=>hk e (ah _ he)) hn.2 jO fH ir;have fA:aI e0.1 k=false:=by
   cases q:aI e0.1 k with
   | false=>rfl
   | true=>exact absurd (by rw [(hk _ aq).mp q,←fH];exact bK (ba jO)) hn.1
  unfold D7 at ih ⊢;simp only [aB,eZ,jI,fA];exact ih
theorem a3e(h:G0 kvs k=false):D7 kvs k=none:=by
 unfold G0 at h;rw [cH] at h;unfold D7;rw [d_.mpr fun p hp=>by simpa using h p hp];rfl
theorem a1Q(h:D7 kvs k=some d):G0 kvs k=true:=by
 cases q:G0 kvs k with
 | true=>rfl
 | false=>rw [a3e q] at h;cases h
theorem a3f(h:G0 kvs k=false):v5 kvs k d=kvs ++ [(k,d)]:=by unfold v5;rw [h];rfl
theorem R5{es:List (D × V × V)}{ds:List D}{k d:D}{kv v:V}(hl:ds.length=es.length):((es ++ [(k,kv,v)]).map (·.1)).zip (ds ++ [d])=(es.map (·.1)).zip ds ++ [(k,d)]:=by
 rw [aR,List.zip_append (by rw [ae];exact hl.symm)];rfl
theorem K7{v:V}:∀{es:List (D × V × V)} {ds:List D} {j:Nat} {e:D × V × V},ds.length=es.length→(∀e∈es,aI e.1 k=true↔e.1=k)→(es.map (·.1)).Nodup→es[j]?=some e→e.1=k→
  ((es.map (·.1)).zip ds).map (fun p=>if aI p.1 k then (p.1,d) else p)=(es.map (·.1)).zip (ds.set j d)
 | [],ds,j,e,_,_,_,he,_=>by simp at he
 | e0 :: es,[],j,e,h,_,_,_,_=>by simp at h
 | e0 :: es,d0 :: ds,0,e,h,hk,hn,he,fH=>by
  cases he
  rw [aB,bJ] at hn;have h0:aI e0.1 k=true:=(hk _ aq).mpr fH;have iA:((es.map (·.1)).zip ds).map (fun p=>if aI p.1 k then (p.1,d) else p)=(es.map (·.1)).zip ds:=by
   have:∀p∈(es.map (·.1)).zip ds,(if aI p.1 k then (p.1,d) else p)=p:=fun p hp=>by
    rw [aJ];intro q;have hm:=(jG hp).1;obtain⟨e',jO,hq⟩:=aK.mp hm;have nK:e'.1=p.1:=hq;rw [←nK] at q;exact hn.1 (by rw [fH,←(hk e' (ah _ jO)).mp q];exact bK jO)
   rw [bS this,gD]
  simp only [aB,eZ,kT,aE h0,iA]
 | e0 :: es,d0 :: ds,j + 1,e,h,hk,hn,he,fH=>by
  rw [aB,bJ] at hn;have jO:es[j]?=some e:=by simpa using he
  have ih:=K7 (k:=k) (d:=d) (v:=v) (ds:=ds) (by simpa using h) (fun e he=>hk e (ah _ he)) hn.2 jO fH;have fA:¬ aI e0.1 k=true:=fun q=>hn.1 (by rw [(hk _ aq).mp q,←fH];exact bK (ba jO))
  simp only [aB,eZ,iM,aJ fA,ih]
section
variable {K:ag}{H:Hp}{F:List az}
theorem Own.dict(h:Own K H F (.d kt u) v d fp):∃a es ds fs,v=.ref a∧H a=some (i4 a es)∧d=.dict ((es.map (·.1)).zip ds)∧fp=a :: fs∧(∀e∈es,keyOk kt e.1∧Den K (cut H F) e.2.1 e.1)∧ListAll (Own K H F u) (es.map (·.2.2)) ds fs∧ds.length=es.length∧(es.map (·.1)).Nodup:=by
 simp only [Own] at h;obtain⟨a,es,ds,fs,h1,h2,h3,h4,h5,h6⟩:=h;exact⟨a,es,ds,fs,h1,h2,h3,h4,h5.2,h6,by have:=h6.length;rw [ae] at this;exact this.symm,h5.1⟩
end
section
variable {X:Cx}{M:List Md}{a b e:Expr}{fa fb:EvE}{ca cb:Cat}{kt:Bool}{u:Ty}{pos:eM}
theorem keysAt(h:∀e∈es,keyOk kt e.1∧Den X.K (cut H F) e.2.1 e.1)(hk:B8 kt k=true)(hd:Den X.K H kv k):KeysAt X H kt es k kv:=
 ⟨fun e he=>⟨(h e he).1,(h e he).2.up m5⟩,O3 hk,hd⟩
def b8y(X:Cx)(td ty:TE):TE:=fun σ H Q=>td σ H fun x H1=>ty σ H1 fun y H2=>∃a es kt k,x=.ref a∧H2 a=some (i4 a es)∧KeysAt X H2 kt es k y∧A9 es k=true∧∀e∈es,e.1=k→Q e.2.2 H2
theorem b5B(hu:X.A.units + 64 < dq)(ho:PE X a td)(hi:PE X b ty)(hs:b0s b):PE X (.Subscript a b pos) (b8y X td ty):=by
 intro pins s σ H Q I h;refine b8x PySem.F.slot_dict_getitem.lookup hs (L2.thn (ho pins s σ H _ I h) fun u s1 ⟨x,H1,I1,rx,q1⟩=>L2.thn (hi pins s1 σ H1 _ I1 q1) fun iv s2 ⟨y,H2,I2,ry,p,es,kt,k,ex,hH,K,hh,q2⟩=>?_);subst ex;obtain rfl:u=a_ p:=rx;exact⟨A3 I2 hH,a6z (by lia) I2 hH K ry hh fun e he fH x s3 I3 r3=>⟨e.2.2,H2,I3,r3,q2 e he fH⟩⟩
theorem a8O(h:b2Y kt d k=some r):∃kvs,d=.dict kvs∧B8 kt k=true∧D7 kvs k=some r:=by
 cases d with
 | dict kvs=>
  have h':(if B8 kt k then D7 kvs k else none)=some r:=h;by_cases c:B8 kt k=true
  ·rw [aE c] at h';exact⟨kvs,rfl,c,h'⟩
  ·rw [aJ c] at h';cases h'
 | _=>cases h
theorem b0t{es:List (D × V × V)}{ds:List D}{e:D × V × V}(h6:ListAll (Own X.K H F u) (es.map (·.2.2)) ds fs)(hl:ds.length=es.length)(hn:(es.map (·.1)).Nodup)(K:KeysAt X H kt es k kv)(he:e∈es)(fH:e.1=k) :
  ∃(j:Nat) (d:D) (f:List az),es[j]?=some e∧ds[j]?=some d∧D7 ((es.map (·.1)).zip ds) k=some d∧Own X.K H F u e.2.2 d f∧∀x∈f,x∈fs:=by
 obtain⟨j,hj⟩:=bX.mp he;have iS:j < ds.length:=by rw [hl];exact (ay.mp hj).1
 obtain⟨w,f,pre,post,z1,z2,z3,_⟩:=h6.at_ (af iS);rw [aN,hj] at z1;cases z1
 refine⟨j,ds[j],f,hj,af iS,a1P hl (fun e he=>K.eqv he) hn hj fH (af iS),z2,fun x hx=>?_⟩;rw [z3];exact ao _ (av _ hx)
end
end VS
namespace VS
open PySem PySem.Spec L2
section
variable {X:Cx}{M:List Md}{a b e o:Expr}{es:List Expr}{fa fb:EvE}{ca cb:Cat}{kt:Bool}{u:Ty}{pos apos cx:eM}{to:TE}{t:TA}{name:bM}{id:String}{r:V→List V→Hp→VK→Prop}
theorem b5C(hu:X.A.units + 64 < dq)(ha:PX X M a fa (.bor (.d kt u)))(hb:PX X M b fb cb)(hs:b0s b:=by exact fun _ _=>rfl):PX X M (.Subscript a b pos) (e2 (b2Y kt) fa fb) (.bor u):=by
 obtain⟨ta,pa,qa⟩:=ha.out;obtain⟨tb,pb,qb⟩:=hb.out;refine .mk ⟨_,b5B hu pa pb hs,fun ρ σ H P F d Q S hf q=>?_⟩;obtain⟨x,y,h1,h2,h3⟩:=G9 hf;obtain⟨kvs,rfl,hk,hg⟩:=a8O h3;refine qa ρ σ H P F _ _ S h1 fun v H1 e1 ⟨fp,o,sub⟩=>qb ρ σ H1 P F y _ (S.grow e1) h2 fun w H2 e2 r2=>?_
 obtain⟨p,es,ds,fs,rfl,hH,hd,rfl,h5,h6,hl,hn⟩:=(o.grow e2).dict;cases hd
 have K:=keysAt (X:=X) h5 hk r2.den;refine⟨p,es,kt,y,rfl,hH,K,by rw [←B0 hl];exact a1Q hg,fun e he fH=>?_⟩;obtain⟨j,d',f,_,_,g',o',s'⟩:=b0t h6 hl hn K he fH;rw [hg] at g';cases g'
 exact q _ H2 (e1.trans e2) ⟨f,o',fun x hx=>sub x (ah _ (s' x hx))⟩
def b8z(r:V→List V→Hp→VK→Prop)(to:TE)(t:TA):TE:=fun σ H Q=>to σ H fun x H1=>(∃p es,x=.ref p∧H1 p=some (i4 p es))∧t σ H1 fun xs H2=>r x xs H2 Q
theorem b0u(slot:Slot "dict" name id)(sx:typeOf (.builtin id)=pure (.type "method_descriptor"))(hm:MtR X id r)(ho:PE X o to)(ha:PA X (e :: es) t)
  (eS:du o name X.env (cO o X.env)=cO o X.env:=by rfl)
  (gO:((cP cx (aF (e :: es) X.env)).all (fun x=>!x.1) && (iC cx (fy [] X.env)).all (fun x=>x.1.isSome)
   && decide ((e :: es).length + ([]:List ei).length + (if ([]:List ei).isEmpty then 0 else 1) < 30))=true:=by rfl)
  (eR:(apos.endLine == cx.line)=true:=by rfl) (hs:aF (e :: es) X.env=(false,cO e X.env) :: aF es X.env:=by rfl) (eA:(cP cx (aF es X.env)).any (·.1)=false:=by rfl) :
  PE X (.Call (.Attribute o name apos) (e :: es) [] cx) (b8z r to t):=by
 intro pins s σ H Q I h;refine yV eS gO eR rfl (L2.thn (ho pins s σ H _ I h) fun v s1 ⟨x,H1,I1,r1,⟨p,CC,ex,hH⟩,q1⟩=>?_);subst ex;obtain rfl:v=a_ p:=r1;refine⟨"dict",id,PySem.F.plainAttrs_dict,slot,sx,A3 I1 hH,a4e I1 hH,?_⟩;have hA:=ha cx pins s1 σ H1 _ I1 q1;rw [hs] at hA ⊢;refine kC (by show (false || (cP cx (aF es X.env)).any (·.1))=false;rw [eA] <;> rfl) (Calls.evalArgs_plain ?_);exact L2.thn hA fun us s2 ⟨vs,H2,I2,r2,q2⟩=>hm pins s2 σ H2 (.ref p) vs (.ref p) us Q I2 rfl r2 q2
theorem a8P:CallR X (.builtin "len") (fun xs H Q=>∃p es,xs=[V.ref p]∧H p=some (i4 p es)∧Q (.int es.length) H):=by
 intro pins s σ H xs us Q I rv h;obtain⟨p,es,rfl,hH,q⟩:=h;obtain⟨w,rfl,rw⟩:=rv.one;cases (show w=a_ p from rw)
 exact b5A I hH fun t s' I'=>⟨.int es.length,H,I',⟨t,rfl⟩,q⟩
theorem b2Z(hm:X.mg "len"=none)(ha:PX X M a fa (.bor (.d kt u)))(hg:Gl X "len":=by rfl)(he:aF [a] X.env=(false,cO a X.env) :: aF [] X.env:=by rfl)(gG:(cP pos (aF [] X.env)).any (·.1)=false:=by rfl) :
  PX X M (.Call (.Name "len" p) [a] [] pos) (eCl a7K (a8 fa e7)) (.new .i):=by
 obtain⟨ta,pa,qa⟩:=ha.out;refine .mk ⟨_,Q3 a8P hg hm PySem.boot_len (l3 pa r9 he) (by decide) (by decide) he gG,fun ρ σ H P F d Q S hf q=>?_⟩;obtain⟨xs,h1,h2⟩:=bnd hf;obtain⟨x,h3,h4⟩:=bnd h1;obtain⟨jt,h5,h6⟩:=bnd h4;cases h5
 cases h6
 have hx:∃kvs,x=.dict kvs∧d=.int kvs.length:=by
  cases x with
  | dict kvs=>cases h2;exact⟨kvs,rfl,rfl⟩
  | _=>cases h2
 obtain⟨kvs,rfl,rfl⟩:=hx;refine qa ρ σ H P F _ _ S h3 fun v H1 e1 ⟨fp,o,sub⟩=>?_
 obtain⟨p,es,ds,fs,rfl,hH,hd,_,_,_,hl,_⟩:=o.dict
 injection hd with hd
 have hlen:kvs.length=es.length:=by rw [hd,jH,ae,hl,lH]
 refine⟨p,es,rfl,hH,?_⟩;rw [←hlen];exact q _ H1 e1 (G5 (by simp only [imm]) den_int (S.lst' e1))
theorem a4Y(h:cm)(hb:dU < h.objs.size):ObjOk P w H (h.push {cls:=.type "dict",data:=.dict #[]}) h.objs.size (i4 h.objs.size []):=
 a0w (uz.mpr (eJ (bH hb))) (bC _) bw (aV _ rfl) ⟨rfl,rfl,rfl⟩ rfl (fun _=>rfl) .nil
theorem a4Z:PE X (.Dict [] [] pos) (fun _ H Q=>∀p,H p=none→Q (.ref p) (upd H p (i4 p []))):=fun pins s σ H Q I h=>
 wpAny_Dict_empty ⟨.ref s.heap.objs.size,_,I.laid (a:=s.heap.objs.size) (o:=i4 s.heap.objs.size []) (t':=s.toks) (fun _ _ q=>aC _ q) (aD _) (a4Y s.heap I.sysBelow),rfl,h _ (I.hok.fresh (aD _))⟩
theorem a5a(kt:Bool)(u:Ty):PX X M (.Dict [] [] pos) (eC (.dict [])) (.new (.d kt u)):=by
 refine .mk ⟨_,a4Z,fun ρ σ H P F d Q S hf q=>?_⟩;cases hf
 intro p hp;refine q _ _ (k9 hp _) ⟨[p],?_,by simp,fun a ha=>by rw [ar.mp ha];exact hp⟩;simp only [Own];exact⟨p,[],[],[],rfl,i6,rfl,rfl,⟨bw,fun e he=>(nomatch he)⟩,l7⟩
end
end VS
namespace VS
open PySem PySem.Spec L2
section
variable {K:ag}{H:Hp}{F:List az}
theorem StE.dict(S:StE K M ρ σ H P F)(hm:M[i]?=some (.own (.d kt u))) :
  ∃a es ds fs,σ[i]?=some (some (.ref a))∧H a=some (i4 a es)∧ρ.getD i .none=.dict ((es.map (·.1)).zip ds)∧(∀e∈es,keyOk kt e.1∧Den K (cut H F) e.2.1 e.1)∧ListAll (Own K H F u) (es.map (·.2.2)) ds fs∧ds.length=es.length∧(es.map (·.1)).Nodup:=by
 obtain⟨v,f,h1,o,_⟩:=S.get hm;obtain⟨a,es,ds,fs,rfl,h2,h3,_,h5,h6,h7,h8⟩:=o.dict;exact⟨a,es,ds,fs,h1,h2,h3,h5,h6,h7,h8⟩
theorem a1R:∀{es:List (D × V × V)} {j:Nat} {e:D × V × V},(es.map (·.1)).Nodup→(∀e∈es,aI e.1 k=true↔e.1=k)→es[j]?=some e→e.1=k→(es.map fun e=>if aI e.1 k then (e.1,e.2.1,v) else e).map (·.2.2)=(es.map (·.2.2)).set j v
 | [],j,e,_,_,hj,_=>by simp at hj
 | e0 :: es,0,e,hn,gP,hj,fH=>by
  rw [aB,bJ] at hn;cases hj
  have iA:es.map (fun e=>if aI e.1 k then (e.1,e.2.1,v) else e)=es:=by
   have:∀e'∈es,(if aI e'.1 k then (e'.1,e'.2.1,v) else e')=e':=fun e' jO=>by
    rw [aJ];intro q;exact hn.1 (by rw [fH,←(gP e' (ah _ jO)).mp q];exact bK jO)
   rw [bS this,gD]
  rw [aB,aE ((gP _ aq).mpr fH),iA];rfl
 | e0 :: es,j + 1,e,hn,gP,hj,fH=>by
  rw [aB,bJ] at hn;have uh:es[j]?=some e:=by simpa using hj
  have fA:¬ aI e0.1 k=true:=fun q=>hn.1 (by rw [(gP _ aq).mp q,←fH];exact bK (ba uh))
  rw [aB,aJ fA,aB,aB,iM,a1R hn.2 (fun e he=>gP e (ah _ he)) uh fH]
theorem Pend.dput(h:Pend K ([] ++ [.own u]) ([] ++ [d]) ([] ++ [some v]) M ρ σ H P F)(hm:M[i]?=some (.own (.d kt u)))(hk:keyOk kt k)(vR:Den K H kv k) :
  ∃a es ds fs,σ[i]?=some (some (.ref a))∧H a=some (i4 a es)∧ρ.getD i .none=.dict ((es.map (·.1)).zip ds)∧(∀e∈es,keyOk kt e.1∧Den K (cut H F) e.2.1 e.1)∧ListAll (Own K H F u) (es.map (·.2.2)) ds fs∧ds.length=es.length∧(es.map (·.1)).Nodup∧
   StR K M (ρ.set i (.dict (v5 ((es.map (·.1)).zip ds) k d))) σ (upd H a (i4 a (K5 es k kv v))) P F:=by
 obtain⟨_,_,S⟩:=h;obtain⟨G,h1,h2,h3⟩:=S.all;have jZ:StAll K H F (.own u :: M) (d :: ρ) (some v :: σ) G:=by simpa using h1
 simp only [StAll] at jZ;obtain⟨d',ρ',o',σ',fv,G2,e1,e2,rfl,⟨v',e3,ov⟩,h5⟩:=jZ;cases e1
 cases e2
 cases e3
 obtain⟨dd,oo,f,pre,post,q1,q2,⟨v2,rfl,q3⟩,rfl,q5⟩:=h5.at_ hm;obtain⟨a,es,ds,fs,rfl,r2,r3,rfl,r5,r6,hl,hn⟩:=q3.dict;have mR:a∈F:=h3 a (by simp);have eO:∀o,Same (cut H F) (cut (upd H a o) F):=fun o b o' hb=>by
  obtain⟨n1,n2⟩:=l5 hb;exact w9 n1 (by rw [g9 (show b≠a from fun z=>n1 (z ▸ mR))];exact n2)
 have cnt:∀b,b=a→(pre ++ post).count b=0∧fs.count b=0∧fv.count b=0:=fun b e=>by
  subst e;have:=cA.mp h2 b;simp only [aY,bo,fN] at this ⊢;exact⟨by lia,by lia,by lia⟩
 have kk:∀(l:List az) (o:HO),(∀b,b=a→l.count b=0)→∀b∈l,upd H a o b=H b:=fun l o hc b hb=>g9 fun z=>by
  have:=hc b z;rw [df] at this;exact this hb
 have sQ:Den K (cut H F) kv k:=vR.imm_out S.lst k (Q6 _ hk.1);have gP:∀e∈es,aI e.1 k=true↔e.1=k:=fun e he=>A7 e.1 k (r5 e he).1.1 hk.1
 have fin:∀(es':List (D × V × V)) (gn:List D) (jj:List az),(es'.map (·.1)).Nodup→(∀e∈es',keyOk kt e.1∧Den K (cut H F) e.2.1 e.1)→ListAll (Own K (upd H a (i4 a es')) F u) (es'.map (·.2.2)) gn jj→(∀b,jj.count b≤fs.count b + fv.count b)→
   StR K M (ρ.set i (.dict ((es'.map (·.1)).zip gn))) σ (upd H a (i4 a es')) P F:=fun es' gn jj qF ny ha jY=>by
  have o1:Own K (upd H a (i4 a es')) F (.d kt u) (.ref a) (.dict ((es'.map (·.1)).zip gn)) (a :: jj):=by
   simp only [Own];exact⟨a,es',gn,jj,rfl,i6,rfl,rfl,⟨qF,fun e he=>⟨(ny e he).1,(ny e he).2.up (eO _)⟩⟩,ha⟩
  have q:=q5 (upd H a (i4 a es')) F (.own (.d kt u)) (.dict ((es'.map (·.1)).zip gn)) (some (.ref a)) _ (kk _ _ fun b e=>(cnt b e).1) (eO _) ⟨_,rfl,o1⟩;rw [set_same (l:=σ) q2,set_same (l:=M) hm] at q;refine⟨⟨_,q,F8 h2 fun b=>?_,fun b hb=>?_⟩,fun b hb=>?_,S.prot.trans (eO _)⟩
  ·have:=jY b;simp only [aY,bo,cR];lia
  ·have hc:0 < (fv ++ (pre ++ (a :: fs ++ post))).count b:=by
    have h0:=cB.mpr hb;have:=jY b;simp only [aY,bo,cR] at h0 ⊢;lia
   exact h3 b (cB.mp hc)
  ·by_cases e:b=a
   ·subst e;exact⟨⟨i4 b es',trivial⟩,i6⟩
   ·obtain⟨ys,y⟩:=S.lst b hb;exact⟨ys,by rw [g9 e];exact y⟩
 refine⟨a,es,ds,fs,q2,r2,by rw [v6 q1];exact r3,r5,r6,hl,hn,?_⟩;cases hf:A9 es k with
 | false=>
  rw [Z0 hf,a3f (by rw [B0 hl];exact hf),←R5 (kv:=kv) (v:=v) hl];refine fin (es ++ [(k,kv,v)]) (ds ++ [d]) (fs ++ fv) ?_ ?_ ?_ fun b=>by rw [aY];exact aD _
  ·rw [aR,bG];refine⟨hn,by simp,fun x hx y hy e=>?_⟩;simp only [aB,cK,ar] at hy;subst hy;subst e;obtain⟨e,he,rfl⟩:=aK.mp hx;unfold A9 at hf;rw [cH] at hf;exact hf e he ((gP e he).mpr rfl)
  ·intro e he;rcases aw.mp he with z|z
   ·exact r5 e z
   ·rw [ar.mp z];exact⟨hk,sQ⟩
  ·rw [aR];refine (j8 (eO _) r6 (kk _ _ fun b e=>(cnt b e).2.1)).append ?_;have:=k7 (R:=Own K (upd H a (i4 a (es ++ [(k,kv,v)]))) F u) (ov.frame (eO _) u (kk _ _ fun b e=>(cnt b e).2.2)) l7
   rwa [bV] at this
 | true=>
  have hh:=hf;unfold A9 at hf;rw [gU] at hf;obtain⟨e,he,fH⟩:=hf;have nO:=(gP e he).mp fH;obtain⟨j,hj⟩:=bX.mp he;have ox:j < ds.length:=by rw [hl];exact (ay.mp hj).1
  have lX:K5 es k kv v=es.map fun e=>if aI e.1 k then (e.1,e.2.1,v) else e:=by unfold K5;rw [hh];rfl
  have lg:v5 ((es.map (·.1)).zip ds) k d=(es.map (·.1)).zip (ds.set j d):=by
   unfold v5;rw [B0 hl,hh];exact K7 (v:=v) hl gP hn hj nO
  have lj:(K5 es k kv v).map (·.1)=es.map (·.1):=by rw [lX];exact Z4
  rw [lg,←lj];obtain⟨w3,f3,a1,a2,s1,s2,me,s4⟩:=r6.zip (af ox);have nI:(K5 es k kv v).map (·.2.2)=(es.map (·.2.2)).set j v:=by
   rw [lX];exact a1R hn gP hj nO
  refine fin (K5 es k kv v) (ds.set j d) (a1 ++ (fv ++ a2)) (by rw [lj];exact hn) ?_ ?_ fun b=>by rw [me];simp only [aY];lia
  ·intro e' jO;rw [lX] at jO;obtain⟨e0,oy,rfl⟩:=aK.mp jO
   split
   ·exact r5 e0 oy
   ·exact r5 e0 oy
  ·rw [nI];have c5:∀b,b=a→(a1 ++ a2).count b=0:=fun b e=>by have:=(cnt b e).2.1;rw [me] at this;simp only [aY] at this ⊢;lia
   exact s4 _ F v d fv (kk _ _ c5) (eO _) (ov.frame (eO _) u (kk _ _ fun b e=>(cnt b e).2.2))
end
end VS
namespace VS
open PySem PySem.Spec L2
abbrev EvX:=List D→Option (D × List D)
def l0(kvs:List (D × D))(k d:D):List (D × D):=if G0 kvs k then kvs else kvs ++ [(k,d)]
def scal:D→Bool
 | .int _=>true
 | .bool _=>true
 | .none=>true
 | _=>false
def a1S(i:Nat)(kt:Bool)(fk fe:EvE):EvX:=fun ρ=>(fk ρ).bind fun k=>(fe ρ).bind fun d=>match ρ.getD i .none with
 | .dict kvs=>if B8 kt k && decide (kvs.length < 1000000) && scal d then some ((D7 kvs k).getD d,ρ.set i (.dict (l0 kvs k d))) else none
 | _=>none
def a5b(j:Nat)(f:EvX):EvS:=fun ρ=>(f ρ).bind fun p=>match p.2.getD j .none with
 | .list ds=>if ds.length < 1000000 then some (.nx (p.2.set j (.list (ds ++ [p.1])))) else none
 | _=>none
theorem b0v(h:scal d=true)(hd:Den K H v d):∀H',Den K H' v d:=by
 intro H';cases d with
 | int i=>cases hd.int_inv;exact den_int
 | bool i=>cases hd.bool_inv;exact den_bool
 | none=>cases hd.none_inv;exact den_none
 | _=>cases h
theorem b0w(h:scal d=true):imm d=true:=by
 cases d with
 | int i=>simp only [imm]
 | bool i=>simp only [imm]
 | none=>simp only [imm]
 | _=>cases h
def PXE(X:Cx)(M:List Md)(e:Expr)(f:EvX)(u:Ty)(M1:List Md):Prop:=
 ∃t,PE X e t∧∀(ρ:List D) (σ:L2.St) (H P:Hp) (F:List az) (d:D) (ρ':List D) (Q:VK),StR X.K M ρ σ H P F→f ρ=some (d,ρ')→
  (∀v H' F',Pend X.K ([] ++ [.own u]) ([] ++ [d]) ([] ++ [some v]) M1 ρ' σ H' P F'→Q v H')→t σ H Q
section
variable {X:Cx}{M M1 ML:List Md}{e k v:Expr}{fk fe fv:EvE}{f:EvX}{ck:Cat}{kt:Bool}{u w:Ty}{pos apos cx lS:eM}
def b7m(X:Cx)(td ty tv:TE):TS:=fun D σ H=>tv σ H fun v H1=>td σ H1 fun x H2=>ty σ H2 fun y H3=>∃a es kt k,x=.ref a∧H3 a=some (i4 a es)∧KeysAt X H3 kt es k y∧es.length < aT∧D.nx σ (upd H3 a (i4 a (K5 es k y v)))
theorem b3a(hu:X.A.units + 64 < dq)(ho:PE X o td)(hi:PE X k ty)(hv:PE X v tv)(hs:dQ v (some (.Subscript o k lS)) pos.line X.env=pure false) :
  PS X (.Assign [.Subscript o k lS] v pos) (b7m X td ty tv):=by
 intro pins s σ H D I h;refine wpAny_Assign_Subscript (L2.thn (hv pins s σ H _ I h) fun r s1 ⟨v,H1,I1,rv,q1⟩=>L2.thn (ho pins s1 σ H1 _ I1 q1) fun u s2 ⟨x,H2,I2,rx,q2⟩=>L2.thn (hi pins s2 σ H2 _ I2 q2) fun iv s3 ⟨y,H3,I3,ry,a,es,kt,k,ex,hH,K,hl,q3⟩=>?_) hs;subst ex;obtain rfl:u=a_ a:=rx;exact a6A (by lia) I3 hH K ry rv hl fun s4 I4=>⟨σ,_,I4,q3⟩
def b5D(X:Cx):V→List V→Hp→VK→Prop:=fun x xs H Q=>∃p es kt k y z,x=.ref p∧xs=[y,z]∧H p=some (i4 p es)∧KeysAt X H kt es k y∧es.length < aT∧(A9 es k=false→Q z (upd H p (i4 p (es ++ [(k,y,z)]))))∧∀e∈es,e.1=k→Q e.2.2 H
theorem a7L(hu:X.A.units + 64 < dq):MtR X "dict.setdefault" (b5D X):=by
 intro pins s σ H x xs v us Q I rx rv h;obtain⟨p,es,kt,k,y,z,rfl,rfl,hH,K,hl,q1,q2⟩:=h;cases (show v=a_ p from rx)
 obtain⟨w1,w2,rfl,r1,r2⟩:=vals2 rv;exact b2X (by lia) I hH K r1 r2 hl (fun hf s' I'=>⟨z,_,I',r2,q1 hf⟩) fun e he fH x s' I' r'=>⟨e.2.2,H,I',r',q2 e he fH⟩
theorem b0x(i:Nat)(hu:X.A.units + 64 < dq)(hk:PX X M k fk (.new .i))(he:PX X M e fe (.new .i))(hN:X.N[i]?=some x:=by rfl)(qu:Vis X.env.scope x:=by first|exact bO rfl|exact bQ (bO rfl)|exact bQ (bQ rfl))(hd:(x == ("__debug__":bM))=false:=by decide)
  (hW:(x == ("__classdict__":bM))=false:=by decide) (hm:M[i]?=some (.own (.d kt .i)):=by rfl) (eS:du (.Name x px) "setdefault" X.env (cO (.Name x px) X.env)=cO (.Name x px) X.env:=by rfl)
  (gO:((cP cx (aF [k,e] X.env)).all (fun x=>!x.1) && (iC cx (fy [] X.env)).all (fun x=>x.1.isSome)
   && decide (([k,e]:List Expr).length + ([]:List ei).length + (if ([]:List ei).isEmpty then 0 else 1) < 30))=true:=by rfl)
  (eR:(apos.endLine == cx.line)=true:=by rfl) (hs:aF [k,e] X.env=(false,cO k X.env) :: aF [e] X.env:=by rfl) (qz:aF [e] X.env=(false,cO e X.env) :: aF [] X.env:=by rfl) (eA:(cP cx (aF [e] X.env)).any (·.1)=false:=by rfl) :
  PXE X M (.Call (.Attribute (.Name x px) "setdefault" apos) [k,e] [] cx) (a1S i kt fk fe) .i M:=by
 obtain⟨tk,pk,qk⟩:=hk.out;obtain⟨te,pe,qe⟩:=he.out;refine⟨_,b0u mX mW (a7L hu) (A5 hN qu hd hW) (l3 pk (l3 pe r9 qz) hs) eS gO eR hs eA,fun ρ σ H P F d ρ' Q S hf q=>?_⟩;obtain⟨y,h1,g1⟩:=bnd hf;obtain⟨z,h2,g2⟩:=bnd g1;obtain⟨a,es,ds,fs,ha,hH,hρ,_⟩:=S.toE.dict hm;rw [hρ] at g2;have kP:(if (B8 kt y && decide (((es.map (·.1)).zip ds).length < 1000000) && scal z)=true then some ((D7 ((es.map (·.1)).zip ds) y).getD z,ρ.set i (.dict (l0 ((es.map (·.1)).zip ds) y z))) else none)=some (d,ρ'):=g2;by_cases c:(B8 kt y && decide (((es.map (·.1)).zip ds).length < 1000000) && scal z)=true
 ·rw [aE c] at kP
  injection kP with kP
  injection kP with ed eρ
  rw [aA,aA] at c;refine⟨.ref a,ha,⟨a,es,rfl,hH⟩,?_⟩;refine qk ρ σ H P F y _ S.toE h1 fun kv H1 e1 r1=>qe ρ σ H1 P F z _ (S.grow e1).toE h2 fun zv H2 e2 r2=>?_
  have S2:=S.grow (e1.trans e2);have mf:=r1.den.up e2;have own:∀(H':Hp) (F':List az),Own X.K H' ([] ++ F') .i zv z []:=fun H' F'=>by
   simp only [Own];exact⟨trivial,b0w c.2,b0v c.2 r2.den _⟩
  have S3:=S2.pend.new (Same.refl H2) (own H2 F) bw fun a ha=>(nomatch ha)
  obtain⟨a',es',gn,jj,ro,AW,sk,h5,h6,hl,hn,S4⟩:=S3.dput hm (O3 c.1.1) mf;rw [ha] at ro;cases ro
  rw [hρ] at sk
  injection sk with nM
  have K:KeysAt X H2 kt es' y kv:=keysAt h5 c.1.1 mf;have hlen:es'.length < aT:=by
   have e3:((es'.map (·.1)).zip gn).length=es'.length:=by rw [jH,ae,hl,lH]
   rw [←e3,←nM];exact eY (bh c.1.2) (by rw [cV];decide)
  refine⟨a,es',kt,y,kv,zv,rfl,rfl,AW,K,hlen,fun hf=>?_,fun e he fH=>?_⟩
  ·have lZ:G0 ((es.map (·.1)).zip ds) y=false:=by rw [nM,B0 hl];exact hf
   have eE:K5 es' y kv zv=es' ++ [(y,kv,zv)]:=Z0 hf;rw [←eE];have oA:d=z:=by rw [←ed,a3e lZ];rfl
   have qo:ρ'=ρ.set i (.dict (v5 ((es'.map (·.1)).zip gn) y z)):=by
    rw [←eρ,←nM];unfold l0 v5;rw [lZ];rfl
   rw [oA,qo] at q;exact q zv _ _ (S4.pend.new (Same.refl _) (own _ _) bw fun a ha=>(nomatch ha))
  ·obtain⟨j,d',f,_,_,g',o',_⟩:=b0t h6 hl hn K he fH;obtain⟨rfl,o2⟩:=P7 o';have oA:d=d':=by rw [←ed,nM,g'];rfl
   have qo:ρ'=ρ:=by
    rw [←eρ];unfold l0;rw [a1Q (by rw [nM];exact g'),aE rfl,←hρ];have hi:∃x,ρ[i]?=some x:=by
     obtain⟨G,q1,_⟩:=S.all;obtain⟨d0,_,_,_,_,z1,_⟩:=q1.at_ hm;exact⟨d0,z1⟩
    obtain⟨x,hx⟩:=hi;rw [v6 hx];exact set_same hx
   rw [oA,qo] at q;exact q _ H2 _ (S2.pend.new (Same.refl _) (by simp only [Own,cu];exact⟨trivial,o2⟩) bw fun a ha=>(nomatch ha))
 ·rw [aJ c] at kP;cases kP
end
end VS
namespace VS
open PySem PySem.Spec L2
section
variable {X:Cx}{M M1 ML:List Md}{e:Expr}{f:EvX}{u w t:Ty}{pos apos cx:eM}
theorem b3b(j:Nat)(he:PXE X M e f t M1)(hN:X.N[j]?=some x:=by rfl)(qu:Vis X.env.scope x:=by first|exact bO rfl|exact bQ (bO rfl)|exact bQ (bQ rfl))(hd:(x == ("__debug__":bM))=false:=by decide)
  (hW:(x == ("__classdict__":bM))=false:=by decide) (vI:M[j]?=some (.own (.l t)):=by rfl) (hm:M1[j]?=some (.own (.l t)):=by rfl) (hni:∀ρ p,f ρ=some p→p.2.getD j .none=ρ.getD j .none)
  (eS:du (.Name x px) "append" X.env (cO (.Name x px) X.env)=cO (.Name x px) X.env:=by rfl)
  (gO:((cP cx (aF [e] X.env)).all (fun x=>!x.1) && (iC cx (fy [] X.env)).all (fun x=>x.1.isSome)
   && decide ([e].length + ([]:List ei).length + (if ([]:List ei).isEmpty then 0 else 1) < 30))=true:=by rfl)
  (eR:(apos.endLine == cx.line)=true:=by rfl) (hs:aF [e] X.env=(false,cO e X.env) :: aF [] X.env:=by rfl) (eA:(cP cx (aF [] X.env)).any (·.1)=false:=by rfl)
  (k_:dQ (.Call (.Attribute (.Name x px) "append" apos) [e] [] cx) none pos.line X.env=pure false:=by rfl) :
  PSX X w ML M (.Expr (.Call (.Attribute (.Name x px) "append" apos) [e] [] cx) pos) (a5b j f) M1:=by
 obtain⟨te,pe,qe⟩:=he;refine .mk ⟨_,N4 (a2M dg je jd U0 (A5 hN qu hd hW) (l3 pe r9 hs) eS gO eR hs eA) k_,fun D ρ σ H P F o S hg k=>?_⟩;obtain⟨⟨d,ρ'⟩,h1,g1⟩:=bnd hg;have mD:=hni ρ _ h1;have hl:∃ds,ρ'.getD j .none=.list ds∧ds.length < 1000000∧o=.nx (ρ'.set j (.list (ds ++ [d]))):=by
  dsimp only at g1
  cases hx:ρ'.getD j .none with
  | list ds=>
   rw [hx] at g1;have mS:(if ds.length < 1000000 then some (Out.nx (ρ'.set j (.list (ds ++ [d])))) else none)=some o:=g1;by_cases c:ds.length < 1000000
   ·rw [aE c] at mS;exact⟨ds,rfl,c,(aP mS).symm⟩
   ·rw [aJ c] at mS;cases mS
  | _=>rw [hx] at g1;cases g1
 obtain⟨ds,hρ,hz,rfl⟩:=hl;obtain⟨v,fv,hv,ov,_⟩:=S.toE.get vI;have nL:∃a xs,v=.ref a∧H a=some (.lst xs):=by
  rw [←mD] at ov;rw [hρ] at ov;simp only [Own] at ov;rcases ov with⟨_,hi,_⟩|⟨a,xs,_,_,rfl,h2,_⟩
  ·simp only [imm] at hi;cases hi
  ·exact⟨a,xs,rfl,h2⟩
 obtain⟨a,xs,rfl,ha⟩:=nL;refine⟨.ref a,hv,.inl ⟨rfl,xs,SqL.of ha⟩,qe ρ σ H P F d ρ' _ S h1 fun v1 H2 F2 S2=>?_⟩;have pO:dAt (.l t) (ρ'.getD j .none) []=some (.l t,.list ds):=by rw [hρ];rfl
 obtain⟨b',jt,e',rW,hl,S3,_⟩:=S2.put hm hv pO (show wk H2 (.ref a) [] (.ref a) from rfl);cases e'
 rw [hρ] at S3;refine⟨a,jt,v1,rfl,rfl,rW,?_,k σ _ F2 S3⟩;rw [hl];exact eY hz (by rw [cV];decide)
theorem a6B(kW:i≠j):∀ρ p,a1S i kt fk fe ρ=some p→p.2.getD j .none=ρ.getD j .none:=fun ρ p h=>by
 obtain⟨k,_,g1⟩:=bnd h;obtain⟨d,_,g2⟩:=bnd g1;have key:∀x:D,(ρ.set i x).getD j .none=ρ.getD j .none:=fun x=>by
  rw [ai,ai,cX kW]
 cases hx:ρ.getD i .none with
 | dict kvs=>
  rw [hx] at g2;have kP:(if (B8 kt k && decide (kvs.length < 1000000) && scal d)=true then some ((D7 kvs k).getD d,ρ.set i (.dict (l0 kvs k d))) else none)=some p:=g2;by_cases c:(B8 kt k && decide (kvs.length < 1000000) && scal d)=true
  ·rw [aE c] at kP;cases kP;exact key _
  ·rw [aJ c] at kP;cases kP
 | _=>rw [hx] at g2;cases g2
end
end VS
namespace VS
open PySem PySem.Spec L2
def b0y(i:Nat)(f:EvE):EvS:=fun ρ=>(f ρ).bind fun d=>(asI d).bind fun n=>(asI (ρ.getD i .none)).bind fun m=>some (.nx (ρ.set i (.int (m + n))))
section
variable {X:Cx}{M ML:List Md}{e:Expr}{f:EvE}{c:Cat}{u:Ty}{pos pos':eM}
theorem b5E(i:Nat)(hN:X.N.Nodup)(he:PX X M e f c)(hi:X.N[i]?=some x:=by rfl)(hx:Loc X.env.scope x:=by first|exact bO rfl|exact bQ rfl)(hm:M[i]?=some (.own .i):=by rfl)(hf:X.fn x=true∨X.env.scope.names.lookup x=some .local:=by first|exact .inl rfl|exact .inr rfl) :
  PSX X u ML M (.AugAssign (.Name x pos') .Add e pos) (b0y i f) M:=by
 obtain⟨te,pe,qe⟩:=he.out;refine .mk ⟨_,b4x hN hi hx pe b4y hf,fun D ρ σ H P F o S hg k=>?_⟩;obtain⟨d,h1,g1⟩:=bnd hg;obtain⟨n,h2,g2⟩:=bnd g1;obtain⟨m,h3,g3⟩:=bnd g2;cases g3
 cases Q9 h2
 have h4:=Q9 h3;obtain⟨v,fv,hv,ov,_⟩:=S.toE.get hm;rw [h4] at ov;obtain⟨_,_,dv⟩:=P7 ov;have ev:=dv.int_inv;refine⟨v,hv,qe ρ σ H P F _ _ S.toE h1 fun w H1 e1 r1=>⟨m,n,ev,r1.den.int_inv,?_⟩⟩;have S1:=S.grow e1;have:=S1.set (u:=.i) (v:=.int (m + n)) (d:=.int (m + n)) (fp:=[]) hm (Same.refl _) (by simp only [Own,cu];exact⟨trivial,by simp only [imm],den_int⟩) bw fun a ha=>(nomatch ha)
 rw [set_same hm] at this;exact k _ _ _ this
end
def intsOf:List D→Option (List Int)
 | []=>some []
 | .int i :: r=>(intsOf r).map (i :: ·)
 | _=>none
def M6(i:Int)(r:List Int):Int:=r.foldl (fun a b=>if b > a then b else a) i
def V9:List D→Option D
 | [.list ds]=>(intsOf ds).bind fun is=>match is with
  | []=>none
  | i :: r=>some (.int (M6 i r))
 | _=>none
theorem R6:∀{ds:List D} {is:List Int},intsOf ds=some is→ds=is.map .int
 | [],is,h=>by cases h;rfl
 | .int i :: r,is,h=>by
  obtain⟨js,h1,rfl⟩:=cZ.mp (show (intsOf r).map (i :: ·)=some is from h);rw [aB,←R6 h1]
 | .none :: _,_,h|.bool _ :: _,_,h|.str _ :: _,_,h|.list _ :: _,_,h|.tuple _ :: _,_,h|.dict _ :: _,_,h=>nomatch h
theorem a6C(is:List Int):intsOf (is.map .int)=some is:=by
 induction is with
 | nil=>rfl
 | cons i is ih=>show (intsOf (is.map .int)).map (i :: ·)=_;rw [ih];rfl
theorem a7M:∀(r:List Int) (i:Int),i≤M6 i r∧(∀x∈r,x≤M6 i r)∧(M6 i r=i∨M6 i r∈r)
 | [],i=>⟨tU _,fun x hx=>(nomatch hx),.inl rfl⟩
 | y :: r,i=>by
  obtain⟨h1,h2,h3⟩:=a7M r (if y > i then y else i);have e:M6 i (y :: r)=M6 (if y > i then y else i) r:=rfl;rw [e];refine⟨?_,fun x hx=>?_,?_⟩
  ·by_cases c:y > i
   ·rw [aE c] at h1 ⊢;lia
   ·rw [aJ c] at h1 ⊢;exact h1
  ·rcases aH.mp hx with z|z
   ·subst z;by_cases c:x > i
    ·rw [aE c] at h1 ⊢;exact h1
    ·rw [aJ c] at h1 ⊢;lia
   ·exact h2 x z
  ·rcases h3 with z|z
   ·by_cases c:y > i
    ·rw [aE c] at z ⊢;exact .inr (by rw [z];exact aq)
    ·rw [aJ c] at z ⊢;exact .inl z
   ·exact .inr (ah _ z)
section
variable {X:Cx}
theorem a6D{ns:List Int}:∀{us:List aj},Vals (ns.map V.int) us→∃xs:List (Int × Tok),us=xs.map (fun p=>gM p.1 p.2)∧xs.map (·.1)=ns:=by
 induction ns with
 | nil=>intro us r;cases r;exact⟨[],rfl,rfl⟩
 | cons n ns ih=>
  intro us r;cases r with
  | cons r1 r2=>
   obtain⟨t,rfl⟩:=r1;obtain⟨xs,h1,h2⟩:=ih r2;exact⟨(n,t) :: xs,by rw [aB,←h1],by rw [aB,h2]⟩
theorem a8Q(hc:X.calm=true):CallR X (.builtin "max") (fun xs H Q=>∃(p:az) (i:Int) (r:List Int),xs=[.ref p]∧SqX X.K H p ((i :: r).map V.int)∧Q (.int (M6 i r)) H):=by
 intro pins s σ H xs us Q I rv h;obtain⟨p,i,r,rfl,hp,q⟩:=h;obtain⟨u,rfl,rx⟩:=vals1 rv;cases (show u=a_ p from rx)
 obtain⟨_,cE,n,nE,ho⟩:=hp.ok I;obtain⟨ys,h1,h2⟩:=a6D nE;have e1:cE.toArray=intItems ys.toArray:=by rw [h1];simp [intItems]
 have hl:s.heap.IsList p (intItems ys.toArray):=⟨_,ho,rfl,n,by rw [←e1]⟩;have hlen:ys.length=r.length + 1:=by have:=eG fL h2;simpa using this
 have num:∀j,j < ys.length→mB ys.toArray j=(i :: r).getD j 0:=fun j hj=>by
  have:(ys.map (·.1))[j]?=(i :: r)[j]?:=by rw [h2]
  unfold mB;rw [ai,←this];simp
 refine max_intList (I.ok.hd hc) hl (by simp;lia) fun v h' tk hv hk=>?_
 obtain⟨t,rfl⟩:=intItems_at hv;obtain⟨b1,b2⟩:=argBest_gt (mB ys.toArray) (ys.toArray.size - 1);have mO:ys.toArray.size=r.length + 1:=by simp [hlen]
 have hb:argBest (fun i j=>decide (mB ys.toArray i > mB ys.toArray j)) (ys.toArray.size - 1) < ys.length:=by lia
 have hm:mB ys.toArray (argBest (fun i j=>decide (mB ys.toArray i > mB ys.toArray j)) (ys.toArray.size - 1))=M6 i r:=by
  obtain⟨g1,g2,g3⟩:=a7M r i;generalize argBest (fun i j=>decide (mB ys.toArray i > mB ys.toArray j)) (ys.toArray.size - 1)=a at b1 b2 hb;have up:mB ys.toArray a≤M6 i r:=by
   rw [num a hb];have jN:(i :: r).getD a 0∈i :: r:=by
    rw [ai,af (by simp;lia)];exact cS _
   rcases aH.mp jN with z|z
   ·rw [z];exact g1
   ·exact g2 _ z
  have dn:M6 i r≤mB ys.toArray a:=by
   have jN:M6 i r∈i :: r:=by
    rcases g3 with z|z
    ·rw [z];exact aq
    ·exact ah _ z
   obtain⟨j,hj,ej⟩:=fK.mp jN;have uh:j < ys.length:=by simp at hj;lia
   have:=b2 j (by lia);rw [num j uh,ai,af hj] at this;have e3:((i :: r)[j]?).getD 0=(i :: r)[j]:=by rw [af hj];rfl
   simp only [gS] at this;lia
  lia
 rw [hm];exact⟨.int (M6 i r),H,I.kept (t':=tk) fun b o e=>hk b o e,⟨t,rfl⟩,q⟩
theorem a7N(hc:X.calm=true):a4I X (.builtin "max") V9:=by
 refine⟨_,a8Q hc,fun xs H ds d Q hd hg q=>?_⟩
 match ds,hg with
 | [.list es],hg=>
  obtain⟨is,h1,g1⟩:=bnd (show (intsOf es).bind _=some d from hg);cases is with
  | nil=>cases g1
  | cons i r=>
   cases g1
   obtain⟨v,rfl,h⟩:=U5 hd;obtain⟨a,ys,rfl,h2,h3⟩:=h.list_inv;have he:=R6 h1;subst he;have hv:ys=(i :: r).map V.int:=by
    clear h1 hg hd h h2 q;generalize (i :: r)=l at h3
    induction l generalizing ys with
    | nil=>exact h3.nil_inv
    | cons x l ih=>
     obtain⟨w,rs,rfl,k1,k2⟩:=h3.cons_inv;rw [k1.int_inv,ih _ k2];rfl
   subst hv;exact⟨a,i,r,rfl,h2,q _ (by simp only [imm]) fun _=>den_int⟩
 | [.none],hg|[.bool _],hg|[.str _],hg|[.dict _],hg|[.int _],hg|[.tuple _],hg=>cases hg
 | [],hg=>cases hg
 | d1 :: _ :: _,hg=>cases d1 <;> cases hg
end
end VS
namespace VS
open PySem PySem.Spec L2
def Itv(K:ag)(a:az)(n:Nat):It:=
 ⟨fun i H=>i < n∧∃xs,SqL K H a xs∧xs.length=n,fun i H x H'=>H'=H∧∀xs,SqL K H a xs→xs[n - 1 - i]?=some x,fun i _=>n≤i⟩
theorem b0z(a it:az)(n:Nat):Turn P w K tg (Itv K a n) [it] it (fun i h=>i≤n∧h.IsRevIter it a ((n:Int) - 1 - (i:Int))) where
 mem:=by simp
 obj:=fun i h st b hb=>by
  have e:b=it:=by simpa using hb
  subst e;obtain⟨_,o,e,c,d⟩:=st;exact⟨o,e,fun v z=>by rw [d] at z;cases z⟩
 keep:=fun i h h' st k=>⟨st.1,st.2.at fun o e=>k it (by simp) o e⟩
 item:=by
  intro X hP hw hK hc i pins s σ H E I hf st hg;subst hP hw hK;obtain⟨hi,xs,hq,pG⟩:=hg;obtain⟨cE,rv,p,hz⟩:=I.list hq;have iS:n - 1 - i < xs.length:=by lia
  obtain⟨u,hu,ru⟩:=rv.get (af iS);obtain⟨f0,f1,f2,f3,f4,f5⟩:=hf it (by simp);have e:(n:Int) - 1 - (i:Int)=((n - 1 - i:Nat):Int):=by lia
  have hit:=st.2;rw [e] at hit;refine wpAny_pyNext_rev_item hit p.isList (x:=u) (by simpa using hu) fun h' mr sb=>?_
  have e2:((n - 1 - i:Nat):Int) - 1=(n:Int) - 1 - ((i + 1:Nat):Int):=by lia
  rw [e2] at mr;have I1:Inv X pins σ H {s with heap:=h'}:=I.turned (t':=s.toks) (fun b o hb e=>(sb.2 b hb).trans e) f0 f1 f3 f4 f5;obtain⟨o,eo,c,d⟩:=id mr;exact⟨u,rfl,a9I (s:={s with heap:=h'}) eo c d (by decide) ⟨_,H,I1,ru,⟨rfl,fun ys hy=>by rw [I.list_inj hy hq];exact af iS⟩,⟨by lia,mr⟩,fun b hb=>(hf b hb).1⟩⟩
 done:=by
  intro X hP hw hK hc i pins s σ H E I hf st hg;subst hP hw hK;obtain⟨f0,f1,f2,f3,f4,f5⟩:=hf it (by simp);have hn:n≤i:=hg;have e:(n:Int) - 1 - (i:Int)=-1:=by have:=st.1;lia
  have hit:=st.2;rw [e] at hit;exact wpAny_pyNext_rev_end (I.ok.hd hc) hit fun h' eb=>⟨rfl,I.turned (t':=s.toks) (fun b o hb e=>eb b o hb e) f0 f1 f3 f4 f5⟩
 self:=fun _ _ _ _ _ st h=>wpAny_pyIter_revIter st.2 h
def iRv(a:EvE):EvA:=fun ρ=>(a ρ).bind fun d=>(asL d).bind fun ds=>some ds.reverse
section
variable {X:Cx}{M:List Md}{a b e tg:Expr}{fa fb:EvE}{ca cb:Cat}{pos p apos cx:eM}
def b7n(K:ag)(ta:TA):TI:=fun σ H R=>ta σ H fun vs H1=>∃a xs,vs=[.ref a]∧SqL K H1 a xs∧R (Itv K a xs.length) H1
open PyProof.Rows in
theorem b5F(hg:Gl X "reversed")(hm:X.mg "reversed"=none)(ha:PA X [a] ta)(hs:aF [a] X.env=[(false,cO a X.env)]:=by rfl):PI X tg (.Call (.Name "reversed" p) [a] [] pos) (b7n X.K ta):=by
 intro pins s σ H R I h;refine Call_ (a1u I hg hm PyProof.Rows.Boot.«reversed» (ik (L2.thn (ha pos pins s σ H _ I h) fun us s1 ⟨vs,H1,I1,r1,q1⟩=>?_) hs rfl));obtain⟨l,xs,e,hq,q⟩:=q1;subst e;cases r1 with
 | cons r rr=>
  cases rr
  cases (show _=a_ l from r)
  obtain⟨cE,rv,pl,hz⟩:=I1.list hq;have hlen:cE.toArray.size=xs.length:=by rw [aX];exact rv.length.symm
  refine call_reversed_list pl.isList ?_;refine wpAny_pyIter_revIter (it:=s1.heap.objs.size) (l:=l) (i:=(cE.toArray.size:Int) - 1) ⟨_,aV _ rfl,rfl,rfl⟩ ?_;refine⟨s1.heap.objs.size,[s1.heap.objs.size],_,_,H1,rfl,I1.kept (t':=s1.toks) fun b o e=>aC _ e,b0z l _ xs.length,⟨bC _,?_⟩,fun b hb=>?_,q⟩
  ·have e0:(xs.length:Int) - 1 - ((0:Nat):Int)=(cE.toArray.size:Int) - 1:=by rw [hlen];lia
   rw [e0];exact⟨_,aV _ rfl,rfl,rfl⟩
  ·have e:b=s1.heap.objs.size:=by simpa using hb
   subst e;exact I1.fpOk (aD _) (I1.hok.fresh (aD _))
theorem a8R{K:ag}{a:az}{xs:List V}:Walks (Itv K a xs.length) (fun H=>SqL K H a xs) xs.reverse where
 go:=fun i H h hi=>⟨by simpa using hi,xs,h,rfl⟩
 stop:=fun i H h hi=>by show xs.length≤i;simpa using hi
 yld:=fun i H x H' h hi y=>by
  refine⟨y.1,?_⟩;have gL:i < xs.length:=by simpa using hi
  rw [jR gL];exact y.2 xs h
theorem R7:∀{ds:List D} {xs:List V},DenAll K H xs ds→DenAll K H xs.reverse ds.reverse
 | [],_,h=>by rw [h.nil_inv];exact denAll_nil
 | d :: ds,_,h=>by
  obtain⟨v,r,rfl,h1,h2⟩:=h.cons_inv;rw [gC,gC];exact (R7 h2).append (denAll_cons h1 denAll_nil)
theorem b3c(hm:X.mg "reversed"=none)(h:PX X M a fa ca)(hc:frozen ca:=by trivial)(hg:Gl X "reversed":=by rfl)(he:aF [a] X.env=[(false,cO a X.env)]:=by rfl)(nP:aF [a] X.env=(false,cO a X.env) :: aF [] X.env:=by rfl) :
  PIX X M tg (.Call (.Name "reversed" p) [a] [] pos) (iRv fa):=by
 obtain⟨t,p,q⟩:=h.out;refine⟨_,b5F hg hm (l3 p r9 nP) he,fun ρ σ H P F ds R S hf k=>?_⟩;obtain⟨d,h1,g1⟩:=bnd hf;obtain⟨es,h2,g2⟩:=bnd g1;cases F7 h2
 cases g2
 refine q ρ σ H P F _ _ S h1 fun v H1 e1 r1=>?_
 obtain⟨aa,xs,rfl,k1,k2⟩:=(a1k hc r1).list_inv;exact⟨aa,xs,rfl,(Q7 k1 m5).l,k _ xs.reverse _ H1 e1 a8R (fun H2 e2=>(Q7 k1 e2).l) (R7 k2)⟩
def a1T:D→D→Option D
 | .list ds,y=>if aL ds && y.canLay0 && decide (y.depth≤60) then some (.int (ds.countP fun d=>aI d y)) else none
 | _,_=>none
def b5G(K:ag):V→List V→Hp→VK→Prop:=fun x xs H Q=>∃p ys ds y d,x=.ref p∧xs=[y]∧SqX K H p ys∧DenAll K H ys ds∧Den K H y d∧aL ds=true∧d.canLay0=true∧d.depth≤60∧Q (.int (ds.countP fun e=>aI e d)) H
theorem O4(r:hU h us ds as):∀{j:Nat} {u:aj},us[j]?=some u→∃d bs,ds[j]?=some d∧Reads h u d bs:=by
 induction ds generalizing us as with
 | nil=>intro j u hu;cases r;simp at hu
 | cons d ds ih=>
  intro j u hu;cases r with
  | cons r1 r2=>
   cases j with
   | zero=>cases hu;exact⟨_,_,rfl,r1⟩
   | succ j=>exact ih r2 (by simpa using hu)
open Classical in
noncomputable def a6E(h:cm)(d:D)(u:aj):Bool:=decide (∃d' bs,Reads h u d' bs∧d'.canLay0=true∧aI d' d=true)
theorem Z5{d e:D}(r:Reads h u e bs)(hl:e.canLay0=true):a6E h d u=aI e d:=by
 unfold a6E;cases q:aI e d with
 | true=>exact @aO _ (_) ⟨e,bs,r,hl,q⟩
 | false=>
  refine @bj _ (_) ?_;rintro⟨d',wL,r1,r2,r3⟩;rw [SeqAt.Reads.unique d' e u _ _ r2 r1 r,q] at r3;cases r3
theorem b0A(hu:X.A.units + 64 < dq):MtR X "list.count" (b5G X.K):=by
 intro pins s σ H x xs v us Q I rx rv h;obtain⟨p,ys,ds,y,d,rfl,rfl,hp,sY,hd,c1,c2,c3,q⟩:=h;cases (show v=a_ p from rx)
 obtain⟨w,rfl,rw⟩:=rv.one;obtain⟨_,cE,n,nE,ho⟩:=hp.ok I;obtain⟨as,ra⟩:=DenAll.reads I ds c1 sY nE;obtain⟨bs,rb⟩:=Den.reads I d c2 hd rw;have lay:∀{l:List D} {e:D},aL l=true→e∈l→e.canLay0=true:=by
  intro l
  induction l with
  | nil=>intro e _ he;cases he
  | cons x l ih=>
   intro e hl he;simp only [aL,aA] at hl;rcases aH.mp he with z|z
   ·rw [z];exact hl.1
   ·exact ih hl.2 z
 have cnt:∀{us:List aj} {ds:List D} {as:List az},hU s.heap us ds as→aL ds=true→us.countP (a6E s.heap d)=ds.countP fun e=>aI e d:=by
  intro us ds
  induction ds generalizing us with
  | nil=>intro as r _;cases r;rfl
  | cons d0 ds ih=>
   intro as r hl;simp only [aL,aA] at hl;cases r with
   | cons r1 r2=>rw [BJ,BJ,ih r2 hl.2,Z5 r1 hl.1]
 refine tN pZ ⟨_,ho,rfl⟩ PySem.F.entry_list_count (PySem.F.args_list_count_2 _ _) (SeqAt.list_countAt p cE.toArray n none #[] w (a6E s.heap d)) ⟨ho,fun u nt=>?_,⟨.int _,H,I.tok _,⟨_,rfl⟩,?_⟩⟩
 ·obtain⟨j,hj⟩:=bX.mp (show u∈cE by simpa using nt);obtain⟨e,wL,he,re⟩:=O4 ra hj;have hle:=lay c1 (ba he);rw [Z5 re hle];exact kd e d X.A.in1 s _ _ _ _ re rb hle c2 (by have:=jo e.depth d.depth;show X.A.units + 1 + _ < _;lia)
 ·have:=cnt ra c1;simp only [fY];rw [this];exact q
theorem b0B(hu:X.A.units + 64 < dq)(ha:PX X M a fa ca)(hb:PX X M b fb cb)(eS:du a "count" X.env (cO a X.env)=cO a X.env:=by rfl)
  (gO:((cP cx (aF [b] X.env)).all (fun x=>!x.1) && (iC cx (fy [] X.env)).all (fun x=>x.1.isSome)
   && decide (([b]:List Expr).length + ([]:List ei).length + (if ([]:List ei).isEmpty then 0 else 1) < 30))=true:=by rfl)
  (eR:(apos.endLine == cx.line)=true:=by rfl) (hs:aF [b] X.env=(false,cO b X.env) :: aF [] X.env:=by rfl) (eA:(cP cx (aF [] X.env)).any (·.1)=false:=by rfl) :
  PX X M (.Call (.Attribute a "count" apos) [b] [] cx) (e2 a1T fa fb) (.new .i):=by
 obtain⟨ta,pa,qa⟩:=ha.out;obtain⟨tb,pb,qb⟩:=hb.out;refine .mk ⟨_,a2M dg pZ PySem.F.type_list_count (b0A hu) pa (l3 pb r9 hs) eS gO eR hs eA,fun ρ σ H P F d Q S hf q=>?_⟩;obtain⟨x,y,h1,h2,h3⟩:=G9 hf;have hx:∃ds,x=.list ds∧(aL ds && y.canLay0 && decide (y.depth≤60))=true∧d=.int (ds.countP fun d=>aI d y):=by
  cases x with
  | list ds=>
   have rC:(if (aL ds && y.canLay0 && decide (y.depth≤60))=true then some (aU (ds.countP fun d=>aI d y)) else none)=some d:=h3;by_cases c:(aL ds && y.canLay0 && decide (y.depth≤60))=true
   ·rw [aE c] at rC;exact⟨ds,rfl,c,(aP rC).symm⟩
   ·rw [aJ c] at rC;cases rC
  | _=>cases h3
 obtain⟨ds,rfl,c,rfl⟩:=hx;rw [aA,aA] at c;refine qa ρ σ H P F _ _ S h1 fun v H1 e1 r1=>?_
 obtain⟨p,xs,rfl,k1,k2⟩:=r1.den.list_inv;refine⟨.inl ⟨rfl,xs,k1.l⟩,qb ρ σ H1 P F y _ (S.grow e1) h2 fun w H2 e2 r2=>?_⟩;exact⟨p,xs,ds,w,y,rfl,rfl,Q7 k1 e2,k2.up e2,r2.den,c.1.1,c.1.2,bh c.2,q _ H2 (e1.trans e2) (G5 (by simp only [imm]) den_int (S.lst' (e1.trans e2)))⟩
end
end VS
namespace VS
open PySem PySem.Spec L2
def PXL(X:Cx)(M:List Md)(i:Nat)(e:Expr)(f:EvE)(c:Cat):Prop:=
 ∃t,PE X e t∧∀(ρ:List D) (σ:L2.St) (H P:Hp) (F:List az) (d:D) (v:V) (Q:VK),StE X.K M ρ σ H P F→σ[i]?=some (some v)→Den X.K H v (ρ.getD i .none)→f ρ=some d→(∀v H',Same H H'→ResR X.K c H H' F v d→Q v H')→t σ H Q
def b3d(X:Cx)(M:List Md)(i:Nat)(es:List Expr)(f:EvA):Prop:=
 ∃t,PA X es t∧∀(ρ:List D) (σ:L2.St) (H P:Hp) (F:List az) (ds:List D) (v:V) (Q:List V→Hp→Prop),StE X.K M ρ σ H P F→σ[i]?=some (some v)→Den X.K H v (ρ.getD i .none)→f ρ=some ds→(∀vs H',Same H H'→DenAll X.K H' vs ds→Q vs H')→t σ H Q
section
variable {X:Cx}{M M1 M2 ML M':List Md}{a e e0:Expr}{es:List Expr}{f fa:EvE}{c ca:Cat}{i j:Nat}{u w t:Ty}{x y:bM}{pos p:eM}
theorem PXL.of(h:PX X M e f c):PXL X M i e f c:=by
 obtain⟨t,p,q⟩:=h.out;exact⟨t,p,fun ρ σ H P F d v Q S _ _ hf k=>q ρ σ H P F d Q S hf k⟩
theorem b0C(hN:X.N[i]?=some x:=by rfl)(hv:Vis X.env.scope x:=by first|exact bO rfl|exact bQ (bO rfl)|exact bQ (bQ rfl))(hd:(x == ("__debug__":bM))=false:=by decide)
  (hW:(x == ("__classdict__":bM))=false:=by decide):PXL X M i (.Name x pos) (a7 i) .tmp:=by
 refine⟨_,A5 hN hv hd hW,fun ρ σ H P F d v Q S hs v_ hf k=>?_⟩;cases hf
 exact⟨v,hs,k v H (Same.refl _) v_⟩
theorem b0D:b3d X M i [] e7:=⟨_,r9,fun ρ σ H P F ds v Q S _ _ hf q=>by cases hf;exact q [] H (Same.refl _) denAll_nil⟩
theorem a3g(ha:PXL X M i a fa ca)(hr:b3d X M i es fr)(hs:aF (a :: es) X.env=(false,cO a X.env) :: aF es X.env:=by rfl):b3d X M i (a :: es) (a8 fa fr):=by
 obtain⟨ta,pa,qa⟩:=ha;obtain⟨tr,pr,qr⟩:=hr;refine⟨_,l3 pa pr hs,fun ρ σ H P F ds v Q S hv hd hf q=>?_⟩;obtain⟨x,h1,hf⟩:=bnd hf;obtain⟨xs,h2,hf⟩:=bnd hf;cases hf
 exact qa ρ σ H P F _ v _ S hv hd h1 fun v1 H1 e1 r1=>qr ρ σ H1 P F _ v _ (S.grow e1) hv (hd.up e1) h2 fun vs H2 e2 r2=>q (v1 :: vs) H2 (e1.trans e2) (denAll_cons (r1.den.up e2) r2)
theorem b0E{k n:Nat}{ps:List bM}{m:List D→Option D}{f:EvA}(W:Has X.prog X.w X.K X.mg X.base x k ps (spD X.K n m u))(hr:Room k X.A)(h:b3d X M i (e0 :: es) f)(hu:u.shut=true:=by rfl)(hl:(e0 :: es).length=n:=by rfl)(hfl:∀ρ ds,f ρ=some ds→ds.length=(e0 :: es).length)
  (hg:Gl X x:=by rfl) (l_:(x == ("__debug__":bM))=false:=by decide) (he:aF (e0 :: es) X.env=(false,cO e0 X.env) :: aF es X.env:=by rfl) (gG:(cP pos (aF es X.env)).any (·.1)=false:=by rfl) :
  PXL X M i (.Call (.Name x p) (e0 :: es) [] pos) (eCl m f) (.new u):=by
 obtain⟨t,pa,qa⟩:=h;refine⟨_,a9U W hr pa hg l_ he gG,fun ρ σ H P F d v Q S hv v_ hf q=>?_⟩;obtain⟨ds,h1,hf⟩:=bnd hf;refine qa ρ σ H P F ds v _ S hv v_ h1 fun vs H1 e1 r1=>?_
 show spD X.K n m u (vs ++ []) H1 Q E0;rw [bV];refine⟨ds,d,by rw [r1.length,hfl ρ ds h1,hl],r1,hf,fun v H' fp e o nd fr=>q v H' (e1.trans e) ⟨fp,o.shut_out (fun a ha=>?_) u hu,nd,fun a ha=>e1.free (fr a ha)⟩⟩;rcases aw.mp ha with z|z
 ·exact o.lst u a z
 ·exact S.lst' (e1.trans e) a z
def U7(j i:Nat)(f:EvE):EvS:=fun ρ=>match ρ.getD j .none with
 | .list ds=>if ds.length < 1000000 then (f (ρ.set j (.list (ds ++ [ρ.getD i .none])))).bind fun d=>some (.nx ((ρ.set j (.list (ds ++ [ρ.getD i .none]))).set i d)) else none
 | _=>none
theorem a8S(j i:Nat){apos cx iy:eM}(kW:i≠j)(wy:X.N.Nodup)(wx:X.N[j]?=some x:=by rfl)(yf:X.N[i]?=some y:=by rfl)(hm:M[j]?=some (.own (.l t)):=by rfl)(vG:M[i]?=some (.own t):=by rfl)
  (hL:PXL X (M.set i .dead) i e f (.new t)) (iA:PSsX X w ML M kY g M')
  (vn:Vis X.env.scope x:=by first|exact bO rfl|exact bQ (bO rfl)|exact bQ (bQ rfl)) (wb:(x == ("__debug__":bM))=false:=by decide) (AH:(x == ("__classdict__":bM))=false:=by decide)
  (zM:Vis X.env.scope y:=by first|exact bO rfl|exact bQ (bO rfl)|exact bQ (bQ rfl)) (oU:(y == ("__debug__":bM))=false:=by decide) (AI:(y == ("__classdict__":bM))=false:=by decide)
  (vJ:Loc X.env.scope y:=by first|exact bO rfl|exact bQ rfl) (sV:X.fn y=true∨X.env.scope.names.lookup y=some .local:=by first|exact .inl rfl|exact .inr rfl)
  (eS:du (.Name x px) "append" X.env (cO (.Name x px) X.env)=cO (.Name x px) X.env:=by rfl)
  (gO:((cP cx (aF [.Name y py] X.env)).all (fun x=>!x.1) && (iC cx (fy [] X.env)).all (fun x=>x.1.isSome)
   && decide (([.Name y py]:List Expr).length + ([]:List ei).length + (if ([]:List ei).isEmpty then 0 else 1) < 30))=true:=by rfl)
  (eR:(apos.endLine == cx.line)=true:=by rfl) (hs:aF [.Name y py] X.env=(false,cO (.Name y py) X.env) :: aF [] X.env:=by rfl) (eA:(cP cx (aF [] X.env)).any (·.1)=false:=by rfl)
  (k_:dQ (.Call (.Attribute (.Name x px) "append" apos) [.Name y py] [] cx) none pos.line X.env=pure false:=by rfl) (qy:dQ e (some (.Name y pz)) iy.line X.env=pure false:=by rfl) :
  PSsX X w ML M (.Expr (.Call (.Attribute (.Name x px) "append" apos) [.Name y py] [] cx) pos :: .Assign [.Name y pz] e iy :: kY) (f7 (U7 j i f) g) M':=by
 obtain⟨te,pe,qe⟩:=hL;obtain⟨tr,pr,qr⟩:=iA.out;refine .mk ⟨_,Q2 (N4 (a2M dg je jd U0 (A5 wx vn wb AH) (l3 (A5 yf zM oU AI) r9 hs) eS gO eR hs eA) k_) (Q2 (a6a wy yf vJ pe qy sV) pr),fun D ρ σ H P F o S hg k=>?_⟩;obtain⟨o1,h1,g1⟩:=bnd hg;have hl:∃ds d,ρ.getD j .none=.list ds∧ds.length < 1000000∧f (ρ.set j (.list (ds ++ [ρ.getD i .none])))=some d∧o1=.nx ((ρ.set j (.list (ds ++ [ρ.getD i .none]))).set i d):=by
  unfold U7 at h1;cases hx:ρ.getD j .none with
  | list ds=>
   rw [hx] at h1;have jZ:(if ds.length < 1000000 then (f (ρ.set j (.list (ds ++ [ρ.getD i .none])))).bind fun d=>some (Out.nx ((ρ.set j (.list (ds ++ [ρ.getD i .none]))).set i d)) else none)=some o1:=h1;by_cases c:ds.length < 1000000
   ·rw [aE c] at jZ;obtain⟨d,z1,z2⟩:=bnd jZ;exact⟨ds,d,rfl,c,z1,(aP z2).symm⟩
   ·rw [aJ c] at jZ;cases jZ
  | _=>rw [hx] at h1;cases h1
 obtain⟨ds,d,hρ,hz,AA,rfl⟩:=hl;obtain⟨vj,fj,qw,uN,_⟩:=S.toE.get hm;have nL:∃a xs,vj=.ref a∧H a=some (.lst xs):=by
  rw [hρ] at uN;simp only [Own] at uN;rcases uN with⟨_,hi,_⟩|⟨a,xs,_,_,rfl,h2,_⟩
  ·simp only [imm] at hi;cases hi
  ·exact⟨a,xs,rfl,h2⟩
 obtain⟨a,xs,rfl,ha⟩:=nL;obtain⟨vi,su,S1⟩:=S.pend.move vG;have xS:(M.set i .dead)[j]?=some (.own (.l t)):=by rw [cX kW];exact hm
 have pO:dAt (.l t) (ρ.getD j .none) []=some (.l t,.list ds):=by rw [hρ];rfl
 obtain⟨b',jt,e',rW,hlen,S3,_⟩:=S1.put xS qw pO (show wk H (.ref a) [] (.ref a) from rfl);cases e'
 rw [hρ] at S3;refine⟨.ref a,qw,.inl ⟨rfl,xs,SqL.of ha⟩,vi,su,a,jt,vi,rfl,rfl,rW,by rw [hlen];exact eY hz (by rw [cV];decide),?_⟩;have wQ:StR X.K (M.set i .dead) (ρ.set j (.list (ds ++ [ρ.getD i .none]))) σ (upd H a (.lst (jt ++ [vi]))) P F:=S3;have kq:Den X.K (upd H a (.lst (jt ++ [vi]))) vi (ρ.getD i .none):=by
  obtain⟨v2,f2,xD,o2,_⟩:=wQ.toE.get xS;rw [qw] at xD;cases xD
  have ko:∃x,ρ[j]?=some x:=by
   obtain⟨G,q1,_⟩:=S.all;obtain⟨d0,_,_,_,_,z1,_⟩:=q1.at_ hm;exact⟨d0,z1⟩
  obtain⟨x0,qW⟩:=ko;have ox:j < ρ.length:=(ay.mp qW).1;have Au:(ρ.set j (.list (ds ++ [ρ.getD i .none]))).getD j .none=.list (ds ++ [ρ.getD i .none]):=by
   rw [ai,c_ ox];rfl
  rw [Au] at o2;simp only [Own] at o2;rcases o2 with⟨_,hi,_⟩|⟨a2,ys,es,fs,ea,h2,ed,_,la⟩
  ·simp only [imm] at hi;cases hi
  ·cases ea
   cases ed
   rw [i6] at h2;cases h2
   have mE:jt.length=ds.length:=hlen;obtain⟨v3,f3,_,_,e3,d3,_⟩:=la.at_ (k:=ds.length) (d:=ρ.getD i .none) (by simp);rw [←mE,cY (aD _),Nat.sub_self] at e3;cases e3
   exact d3.den
 have Av:(ρ.set j (.list (ds ++ [ρ.getD i .none]))).getD i .none=ρ.getD i .none:=by
  rw [ai,ai,cX (eJ kW)]
 refine qe _ σ _ P F d vi _ wQ.toE su (by rw [Av];exact kq) AA fun v4 H4 e4 r4=>?_
 obtain⟨fp,o4,n4,f4⟩:=r4;have Ah:(M.set i .dead)[i]?=some .dead:=by
  have lM:i < M.length:=(ay.mp vG).1;rw [c_ lM]
 have S5:=wQ.set Ah e4 o4 n4 f4;rw [jz,set_same vG] at S5;exact qr D _ _ _ P _ o S5 g1 k
end
end VS
namespace VS
open PySem PySem.Spec L2
theorem vals_ints:∀{vs:List aj} {ns:List Int},tP vs ns→Vals (ns.map V.int) vs
 | _,_,.nil=>.nil
 | _,_,.cons n t r=>.cons ⟨t,rfl⟩ (vals_ints r)
theorem a3h:∀{ns:List Int} {vs:List aj},Vals (ns.map V.int) vs→tP vs ns
 | [],vs,h=>by
  have h':Vals [] vs:=h;cases h'
  exact .nil
 | n :: ns,vs,h=>by
  have h':Vals (V.int n :: ns.map V.int) vs:=h;cases h' with
  | cons r rr=>
   obtain⟨t,rfl⟩:=r;exact .cons n t (a3h rr)
theorem b7o:∀ns:List Int,e6 (ns.map aU)=true
 | []=>by simp only [cK,e6]
 | n :: ns=>by simp only [aB,e6,imm,b7o ns,eL]
end VS
namespace VS
open PySem PySem.Spec L2
theorem a1m:∀{xs:List V} {us:List aj},xs.length=us.length→(∀(i:Nat) (x:V) (u:aj),xs[i]?=some x→us[i]?=some u→RelV x u)→Vals xs us
 | [],[],_,_=>.nil
 | [],_ :: _,h,_=>by simp at h
 | _ :: _,[],h,_=>by simp at h
 | x :: xs,u :: us,hl,h=>.cons (h 0 x u rfl rfl) (a1m (by simpa using hl) fun i x u h1 h2=>h (i + 1) x u (by simpa using h1) (by simpa using h2))
end VS
namespace VS
open PySem PySem.Spec L2
section
variable {K:ag}{M:List Md}{σ:L2.St}{P:Hp}{F:List az}{i:Nat}{b:az}
theorem StR.ext(hm:M[i]?=some (.own (.l .i)))(hs:σ[i]?=some (some (.ref b)))(hb:b∈F):∀(zs:List V) (es:List D) (ρ:List D) (H:Hp) (ds:List D) (xs:List V),StR K M ρ σ H P F→DenAll K (cut H F) zs es→e6 es=true→ρ[i]?=some (.list ds)→H b=some (.lst xs)→xs.length=ds.length→
  StR K M (ρ.set i (.list (ds ++ es))) σ (upd H b (.lst (xs ++ zs))) P F
 | zs,[],ρ,H,ds,xs,S,hd,hi,hr,hH,hl=>by
  rw [hd.nil_inv,bV,bV,set_same hr];have e:upd H b (.lst xs)=H:=by
   funext c
   by_cases z:c=b
   ·rw [z,i6,hH]
   ·rw [g9 z]
  rw [e];exact S
 | zs,d :: es,ρ,H,ds,xs,S,hd,hi,hr,hH,hl=>by
  obtain⟨v,r,rfl,h1,h2⟩:=hd.cons_inv;have gL:imm d=true∧e6 es=true:=by simpa only [e6,aA] using hi
  have pd:Pend K ([] ++ [.own .i]) ([] ++ [d]) ([] ++ [some v]) M ρ σ H P F:=by
   refine⟨rfl,rfl,?_⟩;obtain⟨G,g1,g2,g3⟩:=S.all;have sl:SlotR K H F (.own .i) (some v) d []:=⟨v,rfl,by simp only [Own];exact⟨trivial,gL.1,h1⟩⟩;exact⟨⟨[] ++ G,k6 sl g1,by simpa using g2,fun a ha=>g3 a (by simpa using ha)⟩,S.lst,S.prot⟩
  have pO:dAt (.l .i) (ρ.getD i .none) []=some (.l .i,.list ds):=by rw [v6 hr];rfl
  obtain⟨b',jt,e1,e2,e3,S2,_⟩:=pd.put (p:=[]) (w:=.ref b) hm hs pO rfl;cases e1
  rw [hH] at e2;cases e2
  have lM:i < ρ.length:=(ay.mp hr).1;have S3:StR K M (ρ.set i (.list (ds ++ [d]))) σ (upd H b (.lst (xs ++ [v]))) P F:=S2;have hc:Same (cut H F) (cut (upd H b (.lst (xs ++ [v]))) F):=fun c o hc=>by
   obtain⟨q1,q2⟩:=l5 hc;have ne:c≠b:=fun z=>q1 (by rw [z];exact hb)
   exact w9 q1 (by rw [g9 ne];exact q2)
  have ih:=StR.ext hm hs hb r es _ _ (ds ++ [d]) (xs ++ [v]) S3 (h2.up hc) gL.2 (by rw [c_ lM]) i6 (by rw [aM,aM,hl];rfl);rw [jz,a7u,be,be] at ih;exact ih
end
def a8T(i:Nat)(f:EvE):EvS:=fun ρ=>(f ρ).bind fun d=>match d,ρ.getD i .none with
 | .list es,.list ds=>if e6 es && decide (ds.length + es.length≤1000000) then some (.nx (ρ.set i (.list (ds ++ es)))) else none
 | _,_=>none
end VS
namespace VS
open PySem PySem.Spec L2
def a2E(neg:Bool):D→D→Option D
 | y,.list ds=>if aL ds && y.canLay0 && decide (y.depth≤60) then some (.bool (neg != ds.any fun d=>aI d y)) else none
 | _,_=>none
def b5H(K:ag)(neg:Bool):R2:=fun x y H Q=>∃p ys ds d,y=.ref p∧SqX K H p ys∧DenAll K H ys ds∧Den K H x d∧aL ds=true∧d.canLay0=true∧d.depth≤60∧Q (.bl (neg != ds.any fun e=>aI e d)) H
theorem b0F:∀{l:List D} {e:D},aL l=true→e∈l→e.canLay0=true:=by
 intro l
 induction l with
 | nil=>intro e _ he;cases he
 | cons x l ih=>
  intro e hl he;simp only [aL,aA] at hl;rcases aH.mp he with z|z
  ·rw [z];exact hl.1
  ·exact ih hl.2 z
section
variable {X:Cx}
theorem a3i{s:au}:∀{ds:List D} {us:List aj} {as:List az},hU s.heap us ds as→aL ds=true→us.any (a6E s.heap d)=ds.any fun e=>aI e d:=by
 intro ds
 induction ds with
 | nil=>intro us as r _;cases r;rfl
 | cons d0 ds ih=>
  intro us as r hl;simp only [aL,aA] at hl;cases r with
  | cons r1 r2=>rw [gW,gW,ih r2 hl.2,Z5 r1 hl.1]
theorem b5I(hu:X.A.units + 64 < dq):OpR X (bR .In) (b5H X.K false):=by
 intro pins s σ H x y v u Q I rx ry h;obtain⟨p,ys,ds,d,rfl,hp,sY,hd,c1,c2,c3,q⟩:=h;cases (show u=a_ p from ry)
 obtain⟨_,cE,n,nE,ho⟩:=hp.ok I;obtain⟨as,ra⟩:=DenAll.reads I ds c1 sY nE;obtain⟨bs,rb⟩:=Den.reads I d c2 hd rx;refine SeqAt.in_listAt (items:=cE.toArray) (a6E s.heap d) ⟨_,ho,rfl,n,rfl⟩ (fun u nt=>?_) ⟨.bl _,H,I,rfl,?_⟩
 ·obtain⟨j,hj⟩:=bX.mp (show u∈cE by simpa using nt);obtain⟨e,wL,he,re⟩:=O4 ra hj;have hle:=b0F c1 (ba he);rw [Z5 re hle];exact kd e d X.A.in1 s _ _ _ _ re rb hle c2 (by have:=jo e.depth d.depth;show X.A.units + 1 + _ < _;lia)
 ·rw [BK,a3i ra c1];simpa using q
theorem a8U(hu:X.A.units + 64 < dq):OpR X (bR .NotIn) (b5H X.K true):=by
 intro pins s σ H x y v u Q I rx ry h;obtain⟨p,ys,ds,d,rfl,hp,sY,hd,c1,c2,c3,q⟩:=h;cases (show u=a_ p from ry)
 obtain⟨_,cE,n,nE,ho⟩:=hp.ok I;obtain⟨as,ra⟩:=DenAll.reads I ds c1 sY nE;obtain⟨bs,rb⟩:=Den.reads I d c2 hd rx;refine SeqAt.notIn_listAt (items:=cE.toArray) (a6E s.heap d) ⟨_,ho,rfl,n,rfl⟩ (fun u nt=>?_) ⟨.bl _,H,I,rfl,?_⟩
 ·obtain⟨j,hj⟩:=bX.mp (show u∈cE by simpa using nt);obtain⟨e,wL,he,re⟩:=O4 ra hj;have hle:=b0F c1 (ba he);rw [Z5 re hle];exact kd e d X.A.in1 s _ _ _ _ re rb hle c2 (by have:=jo e.depth d.depth;show X.A.units + 1 + _ < _;lia)
 ·rw [BK,a3i ra c1];simpa using q
theorem b0G(ho:OpR X f (b5H X.K neg)):OpS X f (a2E neg):=by
 refine⟨_,ho,fun x y H a b d Q ha hb hg q=>?_⟩;cases b with
 | list ds=>
  have kO:(if aL ds && a.canLay0 && decide (a.depth≤60) then some (cw (neg != ds.any fun d=>aI d a)) else none)=some d:=hg;by_cases c:(aL ds && a.canLay0 && decide (a.depth≤60))=true
  ·rw [aE c] at kO;cases kO
   rw [aA,aA] at c;obtain⟨p,ys,rfl,k1,k2⟩:=hb.list_inv;exact⟨p,ys,ds,a,rfl,k1,k2,ha,c.1.1,c.1.2,bh c.2,q _ (by simp only [imm]) fun _=>den_bool⟩
  ·rw [aJ c] at kO;cases kO
 | _=>cases hg
theorem b5J(hu:X.A.units + 64 < dq):OpS X (bR .In) (a2E false):=b0G (b5I hu)
theorem a3j(hu:X.A.units + 64 < dq):OpS X (bR .NotIn) (a2E true):=b0G (a8U hu)
end
end VS
namespace VS
open PySem PySem.Spec L2
def frz:Md→Md
 | .own .i=>.own .i
 | .own _=>.own .f
 | m=>m
end VS
namespace VS
open PySem PySem.Spec L2
section
variable {K:ag}{M:List Md}{ρ:List D}{σ:L2.St}{H P:Hp}{F:List az}{i j:Nat}{t:Ty}{ds es:List D}
theorem StR.extendL(kW:i≠j)(h:StR K M ρ σ H P F)(hi:M[i]?=some (.own (.l t)))(hj:M[j]?=some (.own (.l t)))(sj:ρ.getD i .none=.list ds)(si:ρ.getD j .none=.list es) :
  ∃a b xs zs,σ[i]?=some (some (.ref a))∧σ[j]?=some (some (.ref b))∧H a=some (.lst xs)∧H b=some (.lst zs)∧xs.length=ds.length∧zs.length=es.length∧StR K (M.set j .dead) (ρ.set i (.list (ds ++ es))) σ (upd H a (.lst (xs ++ zs))) P F∧Den K (upd H a (.lst (xs ++ zs))) (.ref b) (.list es):=by
 obtain⟨G,h1,h2,h3⟩:=h.all;obtain⟨dj,oj,fj,oM,mz,yw,yu,⟨vj,rfl,Oj⟩,wK,Bm⟩:=h1.at_ hj;rw [v6 yw] at si;subst si;simp only [Own] at Oj;rcases Oj with⟨_,gL,_⟩|⟨b,zs,es',gs,rfl,uq,jO,rfl,yg⟩
 ·simp only [imm] at gL;cases gL
 cases jO
 rw [wK] at h2;have q1:=Bm H F .dead (.list es) (some (.ref b)) [] (fun _ _=>rfl) (Same.refl _) rfl;rw [set_same yw,set_same yu] at q1;have rd:(M.set j .dead)[i]?=some (.own (.l t)):=by rw [cX (eJ kW)];exact hi
 obtain⟨di,oi,f1,nF,kZ,Bq,yx,⟨vi,rfl,Oi⟩,Bp,Bo⟩:=q1.at_ rd;rw [v6 Bq] at sj;subst sj;simp only [Own] at Oi;rcases Oi with⟨_,gL,_⟩|⟨a,xs,gn,fi,rfl,tF,ir,rfl,yh⟩
 ·simp only [imm] at gL;cases gL
 cases ir
 have oW:oM ++ mz=nF ++ ((a :: fi) ++ kZ):=by simpa using Bp
 have apart:=a0n h2;have jN:∀x∈oM ++ mz,x∈F:=fun x hx=>h3 x (by rw [wK];exact mem_mid hx)
 have qJ:a∈oM ++ mz:=by rw [oW];simp
 have wo:a≠b:=fun z=>apart b aq (by rw [←z];exact qJ)
 have mR:a∈F:=jN a qJ;have pP:Same (cut H F) (cut (upd H a (.lst (xs ++ zs))) F):=fun c o' rj=>by
  obtain⟨r1,r2⟩:=l5 rj;have ne:c≠a:=fun z=>r1 (by rw [z];exact mR)
  exact w9 r1 (by rw [g9 ne];exact r2)
 have sJ:(nF ++ ((a :: fi) ++ kZ)).Nodup:=by rw [←oW];exact M3 h2
 have tD:a∉fi ++ kZ:=by
  have:=(bG.mp sJ).2.1;rw [bo,bJ] at this;exact this.1
 have tz:a∉nF:=fun z=>(bG.mp sJ).2.2 a z a (by simp) rfl
 have wm:a∉gs:=fun z=>apart a (ah _ z) qJ
 have LB:ListAll (Own K (upd H a (.lst (xs ++ zs))) F t) zs es gs:=yg.imp fun v d f hf _ q=>q.frame pP t fun x hx=>g9 fun z=>wm (by rw [←z];exact hf x hx)
 have LA:ListAll (Own K (upd H a (.lst (xs ++ zs))) F t) xs ds fi:=yh.imp fun v d f hf _ q=>q.frame pP t fun x hx=>g9 fun z=>tD (av _ (by rw [←z];exact hf x hx))
 have own:Own K (upd H a (.lst (xs ++ zs))) F (.l t) (.ref a) (.list (ds ++ es)) (a :: (fi ++ gs)):=by
  simp only [Own];exact .inr ⟨a,xs ++ zs,ds ++ es,fi ++ gs,rfl,i6,rfl,rfl,LA.append LB⟩
 have q2:=Bo _ _ (.own (.l t)) (.list (ds ++ es)) (some (.ref a)) (a :: (fi ++ gs)) (fun x hx=>g9 fun z=>by
  rcases aw.mp hx with y|y
  ·exact tz (by rw [←z];exact y)
  ·exact tD (ao _ (by rw [←z];exact y))) pP ⟨_,rfl,own⟩
 rw [set_same rd,set_same yx] at q2;have jY:∀x,(oM ++ mz).count x=(nF ++ ((a :: fi) ++ kZ)).count x:=fun x=>by rw [oW]
 refine⟨a,b,xs,zs,yx,yu,tF,uq,yh.length,yg.length,⟨⟨_,q2,F8 h2 fun x=>?_,fun x hx=>?_⟩,fun x hx=>?_,h.prot.trans pP⟩,den_list (.inl (.inl (by rw [g9 (eJ wo)];exact uq))) (ListAll.den (fun v d f q=>q.den) LB)⟩
 ·have:=jY x;simp only [aY,bo,cR] at this ⊢;lia
 ·have zI:x∈nF ++ ((a :: fi) ++ kZ)∨x∈gs:=by
   simp only [aw,aH,bo] at hx ⊢;rcases hx with z|z|(z|z)|z
   ·exact .inl (.inl z)
   ·exact .inl (.inr (.inl z))
   ·exact .inl (.inr (.inr (.inl z)))
   ·exact .inr z
   ·exact .inl (.inr (.inr (.inr z)))
  rcases zI with z|z
  ·exact jN x (by rw [oW];exact z)
  ·exact h3 x (by rw [wK];simp [z])
 ·by_cases z:x=a
  ·exact⟨⟨.lst (xs ++ zs),trivial⟩,by rw [z,i6]⟩
  ·rw [g9 z];exact h.lst x hx
end
end VS
namespace VS
open PySem PySem.Spec L2
def a5c(i:Nat)(f:EvE):EvS:=fun ρ=>(f ρ).bind fun d=>match d,ρ.getD i .none with
 | .list es,.list ds=>if ds.length + es.length≤1000000 then some (.nx (ρ.set i (.list (ds ++ es)))) else none
 | _,_=>none
section
variable {X:Cx}{t w:Ty}{ML M:List Md}{e:Expr}{f:EvE}{pos apos cx:eM}{x:bM}{px:eM}
theorem b3e(i:Nat)(he:PX X M e f (.new (.l t)))(hm:M[i]?=some (.own (.l t)):=by rfl)(hN:X.N[i]?=some x:=by rfl)(hv:Vis X.env.scope x:=by first|exact bO rfl|exact bQ (bO rfl)|exact bQ (bQ rfl))(hd:(x == ("__debug__":bM))=false:=by decide)
  (hW:(x == ("__classdict__":bM))=false:=by decide)
  (eS:du (.Name x px) "extend" X.env (cO (.Name x px) X.env)=cO (.Name x px) X.env:=by rfl)
  (gO:((cP cx (aF [e] X.env)).all (fun x=>!x.1) && (iC cx (fy [] X.env)).all (fun x=>x.1.isSome)
   && decide ([e].length + ([]:List ei).length + (if ([]:List ei).isEmpty then 0 else 1) < 30))=true:=by rfl)
  (eR:(apos.endLine == cx.line)=true:=by rfl) (hs:aF [e] X.env=(false,cO e X.env) :: aF [] X.env:=by rfl) (eA:(cP cx (aF [] X.env)).any (·.1)=false:=by rfl)
  (k_:dQ (.Call (.Attribute (.Name x px) "extend" apos) [e] [] cx) none pos.line X.env=pure false:=by rfl) :
  PSX X w ML M (.Expr (.Call (.Attribute (.Name x px) "extend" apos) [e] [] cx) pos) (a5c i f) M:=by
 obtain⟨te,pe,qe⟩:=he.out;refine .mk ⟨_,N4 (a2M dg oY oX a2N (A5 hN hv hd hW) (l3 pe r9 hs) eS gO eR hs eA) k_,fun D ρ σ H P F o S hg k=>?_⟩;obtain⟨d,h3,g3⟩:=bnd hg;have hl:∃es ds,d=.list es∧ρ.getD i .none=.list ds∧ds.length + es.length≤1000000∧o=.nx (ρ.set i (.list (ds ++ es))):=by
  cases d with
  | list es=>
   cases hr:ρ.getD i iJ with
   | list ds=>
    rw [hr] at g3;have md:(if ds.length + es.length≤1000000 then some (Out.nx (ρ.set i (.list (ds ++ es)))) else none)=some o:=g3;by_cases c:ds.length + es.length≤1000000
    ·rw [aE c] at md;exact⟨es,ds,rfl,rfl,c,(aP md).symm⟩
    ·rw [aJ c] at md;cases md
   | _=>rw [hr] at g3;cases g3
  | _=>cases g3
 obtain⟨es,ds,rfl,hr,hz,rfl⟩:=hl;obtain⟨v0,f0,e0,o0,rP⟩:=S.toE.get hm;rw [hr] at o0;simp only [Own] at o0;rcases o0 with⟨_,hi,_⟩|⟨b,xs,gn,fs,rfl,hH,ir,rfl,hL⟩
 ·simp only [imm] at hi;cases hi
 cases ir
 refine⟨.ref b,e0,.inl ⟨rfl,xs,SqL.of hH⟩,qe ρ σ H P F _ _ S.toE h3 fun v1 H1 e1 ⟨fp,o1,nd,fr⟩=>?_⟩;obtain⟨_,_,S1⟩:=S.pend.new e1 o1 nd fr;have BB:StR X.K (.own (.l t) :: M) (.list es :: ρ) (some v1 :: σ) H1 P (fp ++ F):=S1;obtain⟨a,b',uF,wZ,vc,vb,tF,uq,l1,l2,S4,_⟩:=BB.extendL (i:=i + 1) (j:=0) (by lia) (by simpa using hm) rfl (by simpa using hr) rfl;have ea:b=a:=by
  have:(some (some (V.ref b)):Option (Option V))=some (some (.ref a)):=by rw [←e0];simpa using vc
  cases this;rfl
 subst ea;cases (show (some (some v1):Option (Option V))=some (some (.ref b')) from vb)
 have sr:uF=xs:=by rw [e1 _ _ hH] at tF;cases tF;rfl
 subst sr;have mO:aT=16777216:=cV;refine⟨b,b',uF,wZ,rfl,rfl,tF,uq,by lia,k σ _ (fp ++ F) ?_⟩;obtain⟨G,q1,q2,q3⟩:=S4.all;have xi:StAll X.K (upd H1 b (.lst (uF ++ wZ))) (fp ++ F) (.dead :: M) (.list es :: ρ.set i (.list (ds ++ es))) (some (.ref b') :: σ) G:=q1;simp only [StAll] at xi;obtain⟨d,ρ',o',σ',f',g',z1,z2,rfl,z4,z5⟩:=xi;cases z1
 cases z2
 have yP:f'=[]:=z4;subst yP;exact⟨⟨g',z5,by simpa using q2,fun a ha=>q3 a (by simpa using ha)⟩,S4.lst,S4.prot⟩
end
end VS
namespace VS
open PySem PySem.Spec L2
open PyProof.Rows (KeyOrd mirror bubble getElem?_mirror_all getElem?_bubble mirror_perm bubble_perm)
open PySem.W (KasT kas_asc kas_desc kas_rev kas_tail3 kas_descPart kas_count kas_place kas_bin kas_sort)
section
variable {O:KeyOrd}{key:Nat→O.α}{N:Nat}{sh:au}{cmp:Nat→Nat→(Bool→au→Prop)→au→Prop}
def kyP(key:Nat→O.α)(p:Array Nat)(i:Nat):O.α:=key (p.getD i 0)
def UpTo(key:Nat→O.α)(p:Array Nat)(k:Nat):Prop:=∀i j,i≤j→j < k→O.kle (kyP key p i) (kyP key p j)
def DnTo(key:Nat→O.α)(p:Array Nat)(k:Nat):Prop:=∀i j,i≤j→j < k→O.kle (kyP key p j) (kyP key p i)
def AllN(N:Nat)(p:Array Nat):Prop:=p.toList.Perm (aG N)
def a5d(key:Nat→O.α)(N:Nat)(sh:au)(cmp:Nat→Nat→(Bool→au→Prop)→au→Prop):Prop:=
 ∀(i j:Nat) (C:Bool→au→Prop),i < N→j < N→C (O.blt (key i) (key j)) sh→cmp i j C sh
theorem AllN.size(h:AllN N p):p.size=N:=by
 have:=h.length_eq;simpa using this
theorem AllN.lt(h:AllN N p)(hi:i < N):p.getD i 0 < N:=by
 have hs:i < p.size:=by rw [h.size];exact hi
 have e:p.getD i 0=p[i]:=by simp [iO,hs]
 rw [e];have:p[i]∈p.toList:=by simp
 exact bx.mp (h.mem_iff.mp this)
theorem AllN.of{p q:Array Nat}(h:AllN N p)(hq:q.Perm p):AllN N q:=(Array.perm_iff_toList_perm.mp hq).trans h
theorem M7{p q:Array Nat}(h:p[i]?=q[j]?):kyP key p i=kyP key q j:=by
 unfold kyP
 congr 1;simp only [dh,h]
theorem a4f{p:Array Nat}(hj:j≤p.size)(k:Nat):kyP key (kas_rev p i j) k=if i≤k∧k < j then kyP key p (i + j - 1 - k) else kyP key p k:=by
 have z:=getElem?_mirror_all (i:=i) hj k;by_cases c:i≤k∧k < j
 ·rw [aE c] at z;rw [aE c];exact M7 z
 ·rw [aJ c] at z;rw [aJ c];exact M7 z
theorem a0x{p:Array Nat}(hj:j≤p.size)(he:∀k,i≤k→k < j→kyP key p k=kyP key p (j - 1))(k:Nat):kyP key (kas_rev p i j) k=kyP key p k:=by
 rw [a4f hj];by_cases c:i≤k∧k < j
 ·rw [aE c,he _ (by lia) (by lia),he k c.1 c.2]
 ·rw [aJ c]
theorem a7O{p:Array Nat}(hk:k < p.size)(hl:l≤k)(i:Nat):kyP key (bubble p k (k - l)) i=if i=l then kyP key p k else if l < i∧i≤k then kyP key p (i - 1) else kyP key p i:=by
 have z:=getElem?_bubble hk (k - l) (Nat.sub_le _ _) i;rw [show k - (k - l)=l by lia] at z;by_cases c:i=l
 ·rw [aE c] at z;rw [aE c];exact M7 z
 ·rw [aJ c] at z;rw [aJ c];by_cases c2:l < i∧i≤k
  ·rw [aE c2] at z;rw [aE c2];exact M7 z
  ·rw [aJ c2] at z;rw [aJ c2];exact M7 z
theorem UpTo.one:UpTo key p 1:=fun i j h1 h2=>by
 obtain rfl:i=j:=by lia
 exact eF _
theorem UpTo.step{p:Array Nat}{n:Nat}(h1:1≤n)(h:UpTo key p n)(hk:O.kle (kyP key p (n - 1)) (kyP key p n)):UpTo key p (n + 1):=fun i j a b=>by
 by_cases c:j < n
 ·exact h i j a c
 ·obtain rfl:j=n:=by lia
  by_cases e:i=j
  ·rw [e];exact eF _
  ·exact lQ (h i (j - 1) (by lia) (by lia)) hk
theorem DnTo.step{p:Array Nat}{n:Nat}(h1:1≤n)(h:DnTo key p n)(hk:O.kle (kyP key p n) (kyP key p (n - 1))):DnTo key p (n + 1):=fun i j a b=>by
 by_cases c:j < n
 ·exact h i j a c
 ·obtain rfl:j=n:=by lia
  by_cases e:i=j
  ·rw [e];exact eF _
  ·exact lQ hk (h i (j - 1) (by lia) (by lia))
theorem DnTo.congr(h:DnTo key p n)(e:∀k,kyP key q k=kyP key p k):DnTo key q n:=fun i j a b=>by rw [e,e];exact h i j a b
theorem a6F(hc:a5d key N sh cmp)(hp:AllN N p):∀(f n:Nat),1≤n→n + f≤N→UpTo key p n→
  (∀m,n≤m→m≤n + f→UpTo key p m→(m=n + f∨O.klt (kyP key p m) (kyP key p (m - 1)))→Q m sh)→(kas_asc p f n).kasWp cmp Q sh
 | 0,n,_,_,hu,q=>q n (aD _) (aD _) hu (.inl rfl)
 | f + 1,n,h1,h2,hu,q=>by
  unfold kas_asc;refine hc _ _ _ (hp.lt (by lia)) (hp.lt (by lia)) ?_;cases c:O.blt (kyP key p n) (kyP key p (n - 1)) with
  | true=>
   rw [show O.blt (key (p.getD n 0)) (key (p.getD (n - 1) 0))=true from c];dsimp only;rw [aE rfl];exact q n (aD _) (by lia) hu (.inr c)
  | false=>
   rw [show O.blt (key (p.getD n 0)) (key (p.getD (n - 1) 0))=false from c];dsimp only;rw [aJ bD];refine a6F hc hp f (n + 1) (by lia) (by lia) (hu.step h1 c) fun m m1 m2 mu mo=>q m (by lia) (by lia) mu ?_
   rcases mo with e|e
   ·exact .inl (by lia)
   ·exact .inr e
theorem a5e(hc:a5d key N sh cmp)(hp:AllN N p)(h1:1≤n)(h2:n≤N)(hd:DnTo key p n) 
  (q:∀m p',AllN N p'→1≤m→m≤N→UpTo key p' m→Q (m,p') sh):(kas_tail3 n N p).kasWp cmp Q sh:=by
 unfold kas_tail3;rw [jg];have nu:AllN N (kas_rev p 0 n):=hp.of (zx _ _ _ _);have hz:n≤p.size:=by rw [hp.size];exact h2
 refine a6F hc nu (N - n) n h1 (by lia) (fun i j a b=>?_) fun m m1 m2 mu _=>q m _ nu (by lia) (by lia) mu
 rw [a4f hz,a4f hz,aE ⟨bC _,by lia⟩,aE ⟨bC _,b⟩];exact hd _ _ (by lia) (by lia)
theorem a1n(hc:a5d key N sh cmp) 
  (q:∀p n e,AllN N p→1≤n→n≤N→DnTo key p n→e + 1≤n→(∀i,n - (e + 1)≤i→i < n→kyP key p i=kyP key p (n - 1))→Q (p,n,e) sh) :
  ∀(f:Nat) (p:Array Nat) (n e:Nat),AllN N p→1≤n→n + f≤N→DnTo key p n→e + 1≤n→(∀i,n - (e + 1)≤i→i < n→kyP key p i=kyP key p (n - 1))→(kas_desc f p n e).kasWp cmp Q sh
 | 0,p,n,e,hp,h1,h2,hd,he,hq=>q p n e hp h1 (by lia) hd he hq
 | f + 1,p,n,e,hp,h1,h2,hd,he,hq=>by
  unfold kas_desc;have hz:n≤p.size:=by rw [hp.size];lia
  refine hc _ _ _ (hp.lt (by lia)) (hp.lt (by lia)) ?_;cases c:O.blt (kyP key p n) (kyP key p (n - 1)) with
  | true=>
   rw [show O.blt (key (p.getD n 0)) (key (p.getD (n - 1) 0))=true from c];dsimp only;rw [aE rfl];have ir:DnTo key p (n + 1):=hd.step h1 (kU c);by_cases ce:e > 0
   ·rw [aE ce];refine a1n hc q f _ (n + 1) 0 (hp.of (zx _ _ _ _)) (by lia) (by lia) (ir.congr (a0x hz hq)) (by lia) fun i a b=>?_
    rw [show i=n + 1 - 1 by lia]
   ·rw [aJ ce];refine a1n hc q f _ (n + 1) 0 hp (by lia) (by lia) ir (by lia) fun i a b=>?_
    rw [show i=n + 1 - 1 by lia]
  | false=>
   rw [show O.blt (key (p.getD n 0)) (key (p.getD (n - 1) 0))=false from c];dsimp only;rw [aJ bD];refine hc _ _ _ (hp.lt (by lia)) (hp.lt (by lia)) ?_;cases c2:O.blt (kyP key p (n - 1)) (kyP key p n) with
   | true=>
    rw [show O.blt (key (p.getD (n - 1) 0)) (key (p.getD n 0))=true from c2];dsimp only;rw [aE rfl];exact q p n e hp h1 (by lia) hd he hq
   | false=>
    rw [show O.blt (key (p.getD (n - 1) 0)) (key (p.getD n 0))=false from c2];dsimp only;rw [aJ bD];have eq:kyP key p n=kyP key p (n - 1):=O.total _ _ c c2;refine a1n hc q f p (n + 1) (e + 1) hp (by lia) (by lia) (hd.step h1 (by rw [eq];exact eF _)) (by lia) fun i a b=>?_
    rw [show n + 1 - 1=n by lia];by_cases ci:i=n
    ·rw [ci]
    ·rw [eq];exact hq i (by lia) (by lia)
theorem a0R(hc:a5d key N sh cmp)(hp:AllN N p)(h2:n + 1≤N)(hd:DnTo key p (n + 1)) 
  (q:∀m p',AllN N p'→1≤m→m≤N→UpTo key p' m→Q (m,p') sh):(kas_descPart n N p).kasWp cmp Q sh:=by
 unfold kas_descPart;rw [jg];refine a1n hc (fun p' m e nu m1 m2 ir he hq=>?_) (N - (n + 1)) p (n + 1) 0 hp (by lia) (by lia) hd (by lia) fun i a b=>by rw [show i=n + 1 - 1 by lia]
 have hz:m≤p'.size:=by rw [nu.size];exact m2
 by_cases ce:e > 0
 ·simp only [ce,gc];exact a5e hc (nu.of (zx _ _ _ _)) m1 m2 (ir.congr (a0x hz hq)) q
 ·simp only [ce,cQ];exact a5e hc nu m1 m2 ir q
theorem b0H(hc:a5d key N sh cmp)(hp:AllN N p)(hN:1≤N) 
  (q:∀m p',AllN N p'→1≤m→m≤N→UpTo key p' m→Q (m,p') sh):(kas_count N p).kasWp cmp Q sh:=by
 unfold kas_count;rw [jg];refine a6F hc hp (N - 1) 1 (aD _) (by lia) UpTo.one fun m m1 m2 mu mo=>?_
 by_cases cN:(m == N)=true
 ·rw [aE cN];exact q m p hp m1 (by lia) mu
 ·rw [aJ cN];have Co:m≠N:=fun z=>cN (by simp [z])
  have iS:O.klt (kyP key p m) (kyP key p (m - 1)):=mo.resolve_left (by lia);have hz:m≤p.size:=by rw [hp.size];lia
  by_cases c1:m > 1
  ·rw [aE c1];refine hc _ _ _ (hp.lt (by lia)) (hp.lt (by lia)) ?_;cases c:O.blt (kyP key p 0) (kyP key p (m - 1)) with
   | true=>
    rw [show O.blt (key (p.getD 0 0)) (key (p.getD (m - 1) 0))=true from c];dsimp only;rw [aE rfl];exact q m p hp m1 (by lia) mu
   | false=>
    rw [show O.blt (key (p.getD 0 0)) (key (p.getD (m - 1) 0))=false from c];dsimp only;rw [aJ bD];have dN:∀k,0≤k→k < m→kyP key p k=kyP key p (m - 1):=fun k _ hk=>by
     have a1:=mu 0 k (bC _) hk;have a2:=mu k (m - 1) (by lia) (by lia);exact KeyOrd.kle_antisymm a2 (lQ (show O.kle (kyP key p (m - 1)) (kyP key p 0) from c) a1)
    refine a0R hc (hp.of (zx _ _ _ _)) (by lia) (DnTo.congr (p:=p) (fun i j a b=>?_) (a0x hz dN)) q;by_cases cj:j < m
    ·rw [dN i (bC _) (by lia),dN j (bC _) cj];exact eF _
    ·obtain rfl:j=m:=by lia
     by_cases ci:i=j
     ·rw [ci];exact eF _
     ·rw [dN i (bC _) (by lia)];exact kU iS
  ·rw [aJ c1];obtain rfl:m=1:=by lia
   refine a0R hc hp (by lia) (fun i j a b=>?_) q;by_cases ci:i=j
   ·rw [ci];exact eF _
   ·obtain rfl:i=0:=by lia
    obtain rfl:j=1:=by lia
    exact kU iS
theorem a1U(hc:a5d key N sh cmp)(hp:AllN N p)(hk:k < N)(hu:UpTo key p k) 
  (q:∀l,l≤k→(∀i,i < l→O.kle (kyP key p i) (kyP key p k))→(∀i,l≤i→i < k→O.klt (kyP key p k) (kyP key p i))→Q l sh) :
  ∀(f l r:Nat),r - l≤f→l≤r→r≤k→(∀i,i < l→O.kle (kyP key p i) (kyP key p k))→(∀i,r≤i→i < k→O.klt (kyP key p k) (kyP key p i))→(kas_place p k f l r).kasWp cmp Q sh
 | 0,l,r,h1,h2,h3,lo,hi=>by
  obtain rfl:l=r:=by lia
  exact q l h3 lo hi
 | f + 1,l,r,h1,h2,h3,lo,hi=>by
  unfold kas_place;by_cases c:l≥r
  ·rw [aE c];obtain rfl:l=r:=by lia
   exact q l h3 lo hi
  ·rw [aJ c];refine hc _ _ _ (hp.lt hk) (hp.lt (by lia)) ?_;cases c2:O.blt (kyP key p k) (kyP key p ((l + r) / 2)) with
   | true=>
    rw [show O.blt (key (p.getD k 0)) (key (p.getD ((l + r) / 2) 0))=true from c2];dsimp only;rw [aE rfl];exact a1U hc hp hk hu q f l ((l + r) / 2) (by lia) (by lia) (by lia) lo fun i a b=>KeyOrd.klt_of_klt_of_kle c2 (hu _ _ a b)
   | false=>
    rw [show O.blt (key (p.getD k 0)) (key (p.getD ((l + r) / 2) 0))=false from c2];dsimp only;rw [aJ bD];exact a1U hc hp hk hu q f ((l + r) / 2 + 1) r (by lia) (by lia) h3 (fun i a=>lQ (hu i ((l + r) / 2) (by lia) (by lia)) (show O.kle _ _ from c2)) hi
theorem b0I(hc:a5d key N sh cmp)(q:∀p,AllN N p→UpTo key p N→Q p sh) :
  ∀(f:Nat) (p:Array Nat) (k:Nat),k + f=N→AllN N p→UpTo key p k→(kas_bin f p k).kasWp cmp Q sh
 | 0,p,k,e,hp,hu=>by
  obtain rfl:k=N:=by lia
  exact q p hp hu
 | f + 1,p,k,e,hp,hu=>by
  unfold kas_bin;rw [jg];refine a1U hc hp (by lia) hu (fun l hl lo hi=>?_) k 0 k (by lia) (bC _) (aD _) (fun i a=>absurd a (CH _)) fun i a b=>by lia
  refine b0I hc q f _ (k + 1) (by lia) (hp.of (bubble_perm _ _ _)) fun i j a b=>?_
  have hk:k < p.size:=by rw [hp.size];lia
  rw [a7O hk hl,a7O hk hl];by_cases ci:i=l
  ·rw [aE ci];by_cases cj:j=l
   ·rw [aE cj];exact eF _
   ·rw [aJ cj,aE ⟨by lia,by lia⟩];exact kU (hi _ (by lia) (by lia))
  ·rw [aJ ci];by_cases yB:l < i∧i≤k
   ·rw [aE yB,aJ (by lia),aE ⟨by lia,by lia⟩];exact hu _ _ (by lia) (by lia)
   ·rw [aJ yB];by_cases cj:j=l
    ·rw [aE cj];exact lo i (by lia)
    ·rw [aJ cj];by_cases yA:l < j∧j≤k
     ·rw [aE yA];exact hu _ _ (by lia) (by lia)
     ·rw [aJ yA];exact hu _ _ (by lia) (by lia)
theorem b3f(hc:a5d key N sh cmp)(hN:1≤N)(q:∀p,AllN N p→UpTo key p N→Q p sh):(kas_sort N).kasWp cmp Q sh:=by
 unfold kas_sort;rw [jg];refine b0H hc (show AllN N (qO (aG N)) from eU _) hN fun m p hp m1 m2 mu=>?_
 by_cases c:m < N
 ·simp only [c,gc];refine b0I hc q (N - max m 1) p (max m 1) (by lia) hp ?_;rw [show max m 1=m by lia];exact mu
 ·simp only [c,cQ];obtain rfl:m=N:=by lia
  exact q p hp mu
end
end VS
namespace PySem
open Sem (wp)
set_option maxRecDepth 100000
def Heap.RawDict(hp:cm)(d:az)(rows:Array fR)(ep:Nat):Prop:=∃u,hp.get? d=some u∧u.ExactDict∧u.data=.dict rows ep
section
variable {prog:bB}{w:bU}{A:bT}{E:aj→au→Prop}{sh:au}{d it:az}{rows:Array fR}{ep i:Nat}
theorem Heap.RawDict.at{h h':cm}(x:h.RawDict d rows ep)(e:∀o,h.get? d=some o→h'.get? d=some o):h'.RawDict d rows ep:=let⟨u,hu,r⟩:=x;⟨u,e _ hu,r⟩
theorem Heap.RawDict.typeIs(x:sh.heap.RawDict d rows ep):sh.TypeIs (.ref d) "dict":=let⟨u,hu,r,_⟩:=x;⟨u,hu,r.1⟩
theorem b0J(h0:(d == dU)=false)(hm:sh.heap.RawDict d rows ep)
  (q:Q (.ref sh.heap.objs.size) {sh with heap:=sh.heap.push {cls:=.type "dict_keyiterator",data:=.fields #[.ref d,.int 0 0,.int rows.size 0,.int ep 0]}}) :
  aQ (bc prog w) A (oK (.ref d)) Q E sh:=by
 obtain⟨u,hu,hx,tm⟩:=id hm;refine nB hm.typeIs F.slot_dict_iter (cq F.slot_dict_iter hm.typeIs F.entry_dict_iter ?_ (F.args_dict_iter_1 _));unfold Builtin.«dict.__iter__»;refine ab ?_;unfold Builtin.Dict.dictSlotNone;refine ab (kL hm.typeIs ?_);show aQ _ _ (pure (a_ d)) _ _ sh;refine ak ?_;show aQ _ _ (CO d >>= _) _ _ sh;unfold CO;rw [aJ (by rw [h0];exact bD)];refine ab (ak (ab (fV hu tm (ab (qg hu tm ?_)))));refine ab (dw (ak ⟨_,rfl,"dict_keyiterator",_,⟨_,aV _ rfl,rfl⟩,dX.lookup,?_⟩));simpa [eN] using q
theorem b0K(hI:sh.heap.IsKeyIter it d i rows.size ep)(hm:sh.heap.RawDict d rows ep)(hi:i < rows.size)
  (q:∀h',h'.IsKeyIter it d (i + 1) rows.size ep→fG it sh.heap h'→Q (some rows[i].key) {sh with heap:=h'}):aQ (bc prog w) A (gH (.ref it)) Q E sh:=by
 obtain⟨x,hx,oO,ki⟩:=id hI;obtain⟨u,hu,_,sv⟩:=id hm;unfold gH;refine ab (ip (cI (name:=ef "__next__") hI.typeIs dX (cq dX hI.typeIs qf ?_ (pB _))));refine ab (ak (ab (ab ?_)))
 first|refine ab (fx hI.typeIs (ak ?_))|refine ab (gu hI.typeIs (ak ?_))
 refine ab (gY hx ki ?_);simp only [show qR "dict_keyiterator"=false from by decide,bA,cQ];show aQ _ _ (if (a_ d == bE)=true then _ else _) _ _ sh;rw [aJ (show ¬ (a_ d == bE)=true from bD)];refine ab (ak (ab (fV hu sv ?_)));rw [aJ (by simp)];refine ab (ak (ab (qg hu sv ?_)));rw [aJ (by simp)];refine ak ?_;simp only [show ¬ (i:Int) < 0 from by lia,cQ,aZ,bW hi];refine ab ?_
 first|refine ab (fx hI.typeIs (ak ?_))|refine ab (gu hI.typeIs (ak ?_))
 refine ab (BO hI.typeIs ?_);show aQ _ _ (setField (.ref it) 1 (eN ((i:Int) + 1)) >>= _) _ _ sh;refine ab (ff hx ki (by simp) ?_);have pU:(sh.heap.update it (wV (·.setIfInBounds 1 (eN ((i:Int) + 1))))).IsKeyIter it d (i + 1) rows.size ep:=
  ⟨_,cW _ hx (CG (jn ki _)),(eW.cls_mapFields ..).trans oO,by rw [jn ki];simp [eN]⟩
 refine ab (cM ?_);refine ab (BO (s:={sh with heap:=sh.heap.update it (wV (·.setIfInBounds 1 (eN ((i:Int) + 1))))}) pU.typeIs ?_);show aQ _ _ (pure rows[i].key) _ _ _;exact ak (ak ⟨_,rfl,ak (q _ pU (cy ..))⟩)
theorem b0L(hh:A.handled=none)(hI:sh.heap.IsKeyIter it d i rows.size ep)(hm:sh.heap.RawDict d rows ep)(hi:rows.size≤i)
  (q:∀h',cm.ExtBut it sh.heap h'→Q none {sh with heap:=h'}):aQ (bc prog w) A (gH (.ref it)) Q E sh:=by
 obtain⟨x,hx,oO,ki⟩:=id hI;obtain⟨u,hu,_,sv⟩:=id hm;unfold gH;refine ab (ip (cI (name:=ef "__next__") hI.typeIs dX (cq dX hI.typeIs qf ?_ (pB _))));refine ab (ak (ab (ab ?_)))
 first|refine ab (fx hI.typeIs (ak ?_))|refine ab (gu hI.typeIs (ak ?_))
 refine ab (gY hx ki ?_);simp only [show qR "dict_keyiterator"=false from by decide,bA,cQ];show aQ _ _ (if (a_ d == bE)=true then _ else _) _ _ sh;rw [aJ (show ¬ (a_ d == bE)=true from bD)];refine ab (ak (ab (fV hu sv ?_)));rw [aJ (by simp)];refine ab (ak (ab (qg hu sv ?_)));rw [aJ (by simp)];refine ak ?_;simp only [show ¬ (i:Int) < 0 from by lia,cQ,aZ,dr hi];refine ab ?_
 first|refine ab (fx hI.typeIs (ak ?_))|refine ab (gu hI.typeIs (ak ?_))
 show aQ _ _ (setField (.ref it) 0 .none >>= _) _ _ sh;refine ab (ff hx ki (by simp) ?_);show aQ _ _ (newExc (.type "StopIteration") [] >>= _) _ _ _;refine ab ?_;simp only [newExc,newTuple];refine ab (dw ?_ (by size_fits));refine ab (m:=lu _ _) (wpAny_of_eq (a:=bE) (by first|rfl|(simp only [lu];rfl)) ?_);refine dw ?_ (by size_fits);simp only [raiseNew];refine ab (wpAny_handled ?_);rw [show A.in1.handled=none from hh];refine ab (ak (wpAny_throw ?_));refine ab (jV (b:=true) (T:="StopIteration") ⟨_,aV _ rfl,rfl⟩ isSubtype_stop ?_);exact ak (q _ (((cy ..).extBut.push _).push _))
theorem a8V(hh:A.handled=none)(fA:d≠it):Walks prog w A it [it,d] [it] rows.size (fun i v=>∃e,rows[i]?=some e∧v=e.key) (fun i h=>h.IsKeyIter it d i rows.size ep∧h.RawDict d rows ep) where
 sub:=fun b hb=>aH.mpr (.inl (ar.mp hb))
 frame:=fun _ _ _ st hk=>⟨st.1.at fun o e=>hk it aq o e,st.2.at fun o e=>hk d (ah _ aq) o e⟩
 item:=fun i s Q E hi st q=>b0K st.1 st.2 hi fun h' hI hs=>q _ h' s.toks ⟨rows[i],bW hi,rfl⟩ ⟨hI,st.2.at fun o e=>hs.extBut d o fA e⟩ fun b o hb e=>hs.extBut b o (fun z=>hb (by rw [z];exact ar.mpr rfl)) e
 done:=fun s Q E st q=>b0L hh st.1 st.2 (aD _) fun h' he=>q h' s.toks fun b o hb e=>he b o (fun z=>hb (by rw [z];exact ar.mpr rfl)) e
 self:=fun _ _ _ _ st q=>wpAny_pyIter_keyiter st.1 q
theorem b3g(h0:(d == dU)=false):W.KdlSrc prog w "dict" d d rows.size (fun i v=>∃e,rows[i]?=some e∧v=e.key) (fun h=>h.RawDict d rows ep) where
 type:=fun _ hm=>hm.typeIs
 there:=fun h hm=>let⟨_,hu,_⟩:=hm;⟨aS hu,aS hu⟩
 keep:=fun _ _ hm hk=>hm.at fun o e=>hk d (.inl rfl) o e
 notList:=by decide
 notTuple:=by decide
 hint:=fun _ _ s _ hm q=>W.kdl_hint_dict (Heap.RawDict.typeIs (sh:=s) hm) q
 iter:=fun _ _ hh hm=>⟨_,_,(fun _ _ q=>b0J h0 hm q),a8V hh (let⟨_,hu,_⟩:=hm;bH (aS hu)),⟨⟨_,aV _ rfl,rfl,rfl⟩,hm.at fun _ e=>aC _ e⟩⟩
end
end PySem
namespace VS
open PySem PySem.Spec L2
open PyProof.Rows (KeyOrd SortKind SortSt keyKind' keyLt' seqObj listItems_at listUpdate_at seqEpoch_at arrOf failedOf get?_update_seq list_sort_plain general' tuples' size_push' slot_list_sort entry_list_sort args_list_sort kind_sorted plain_sorted entry_sorted args_sorted1)
open PySem.W (kas_sort kas_ask kas_item kat_run kat_snds)
section
variable {prog:bB}{w:bU}{A:bT}{E:aj→au→Prop}{sh:au}{vs:List aj}{κ:lP}{O:KeyOrd}{key:Nat→O.α}
def Kept(h h':cm):Prop:=∀b o,h.get? b=some o→h'.get? b=some o
theorem Kept.refl(h:cm):Kept h h:=fun _ _ e=>e
theorem Kept.trans(x:Kept h h')(y:Kept h' h2):Kept h h2:=fun b o e=>y b o (x b o e)
theorem Kept.push(x:Kept h h')(o:eW):Kept h (h'.push o):=fun b u e=>aC _ (x b u e)
theorem Kept.upd(x:Kept h h')(f:eW→eW)(ha:h.objs.size≤a):Kept h (h'.update a f):=fun b u e=>by
 rw [er _ _ (il (bF (aS e) ha))];exact x b u e
structure Sortable (prog:bB) (w:bU) (A:bT) (h0:cm) (ks:List aj) (κ:lP) (O:KeyOrd) (key:Nat→O.α):Prop where
 kind:2≤ks.length→∀(s:au) (E:aj→au→Prop) (Q:lP→au→Prop),Kept h0 s.heap→Q κ s→aQ (bc prog w) A (keyKind' ks.toArray) Q E s
 lt:∀(s:au) (i j:Nat) (C:Bool→au→Prop),Kept h0 s.heap→i < ks.length→j < ks.length→C (O.blt (key i) (key j)) s→aQ (bc prog w) A (keyLt' κ (ks.getD i bE) (ks.getD j bE)) C (fun _ _=>False) s
theorem a5f(S:Sortable prog w A h0 vs κ O key)(Am:Kept h0 sh.heap)(um:h0.objs.size≤a)(ho:sh.heap.get? a=some (ic "list" vs.toArray n))(rB:vs.length < 64)
  (q:∀(p:Array Nat) (h':cm) (e:Nat),AllN vs.length p→UpTo key p vs.length→Kept h0 h'→sh.heap.objs.size≤h'.objs.size→h'.get? a=some (ic "list" (p.toList.map fun i=>vs.getD i bE).toArray e)→P (.done (.ret .none)) {sh with heap:=h'}) :
  aQ (bc prog w) A (Builtin.«list.sort» ⟨[.ref a],[]⟩) P E sh:=by
 rw [list_sort_plain];have uk:a < sh.heap.objs.size:=aS ho;obtain⟨c1,o1⟩:∃c1,(sh.heap.update a (gJ fun _=>(#[]:Array aj))).get? a=some (ic "list" #[] c1):=⟨_,get?_update_seq ho fun _=>#[]⟩;have pJ:vs.length≤aT:=by rw [cV];lia
 refine ab (listItems_at ho rfl (ab (listUpdate_at ho rfl ?_ (by rw [aX];exact pJ) (bC _))));refine ab (seqEpoch_at o1 rfl (ab (wpAny_newTuple ?_ pJ)));refine ab (uG ?_ (bC _));refine cM ?_
 let lh:cm:=((sh.heap.update a (gJ fun _=>(#[]:Array aj))).push (ic "tuple" vs.toArray 0)).push (ic "list" #[] 0)
 have k2:Kept h0 lh:=((Am.upd _ um).push _).push _;have o2:lh.get? a=some (ic "list" #[] c1):=aC _ (aC _ o1);have z2:sh.heap.objs.size≤lh.objs.size:=by
  show _≤(((sh.heap.update a (gJ fun _=>(#[]:Array aj))).push (ic "tuple" vs.toArray 0)).push (ic "list" #[] 0)).objs.size;rw [size_push',size_push',cm.size_update];lia
 show aQ (bc prog w) A _ P E {sh with heap:=lh};have fin:∀p:Array Nat,AllN vs.length p→UpTo key p vs.length→P (.done (.ret .none)) {sh with heap:=lh.update a (gJ fun _=>(p.toList.map fun i=>vs.getD i bE).toArray)}:=fun p hp hu=>by
  obtain⟨c3,o3⟩:∃c3,(lh.update a (gJ fun _=>(p.toList.map fun i=>vs.getD i bE).toArray)).get? a=some (ic "list" (p.toList.map fun i=>vs.getD i bE).toArray c3):=⟨_,get?_update_seq o2 fun _=>_⟩;exact q p _ c3 hp hu (k2.upd _ um) (by rw [cm.size_update];exact z2) o3
 dsimp only
 by_cases h2:vs.toArray.size < 2
 ·rw [aE h2,aE h2];refine ab (ak ?_);rw [StateT.run_pure];refine ab (ak ?_);have mE:vs.length < 2:=by simpa using h2
  have f:=fin (qO (aG vs.length)) (eU _) fun i j a b=>by
   obtain rfl:i=j:=by lia
   exact eF _
  have e:(qO (aG vs.length)).toList.map (fun i=>vs.getD i bE)=vs:=by
   match vs,mE with
   | [],_=>rfl
   | [v],_=>rfl
   | _ :: _ :: _,h=>simp at h;lia
  rw [e] at f;have ez:(arrOf (SortSt.mk' general' (vs.toArray.zip vs.toArray) #[] 7 none)).map (·.2)=vs.toArray:=by
   show (vs.toArray.zip vs.toArray).map (·.2)=vs.toArray;simp [List.map_snd_zip]
  dsimp only
  rw [ez];refine ab (seqEpoch_at o2 rfl (ab (listUpdate_at o2 rfl ?_ (bC _) (by rw [aX];exact yJ pJ))));simp only [yC,bA,cQ];exact ak f
 ·rw [aJ h2,aJ h2];have Cr:¬ vs.length < 2:=by simpa using h2
  have mE:2≤vs.length:=by lia
  refine ab (S.kind mE {sh with heap:=lh} _ _ k2 ?_);refine ab (dG (kat_run (ks:=vs) (G:=fun p s'=>s'={sh with heap:=lh}∧AllN vs.length p∧UpTo key p vs.length) (Q:=fun mr s'=>s'={sh with heap:=lh}∧∃p:Array Nat,arrOf mr=p.map (kas_item (vs.toArray.zip vs.toArray))∧failedOf mr=none∧AllN vs.length p∧UpTo key p vs.length)
   rfl mE rB (fun p' mr s' a1 a2 a3 ⟨a4,a5,a6⟩=>⟨a4,p',a2,a3,a5,a6⟩)
   (b3f (key:=key) (fun i j C hi hj hC=>S.lt {sh with heap:=lh} i j C k2 hi hj hC) (by lia) fun p hp hu=>⟨rfl,hp,hu⟩)) ?_ fun _ _ e=>e)
  rintro⟨⟨⟩,mr⟩ s' ⟨rfl,p,AR,hf,hp,hu⟩
  dsimp only
  rw [kat_snds rfl AR];have gG:(p.toList.map fun i=>vs.getD i bE).length≤aT:=by rw [ae,hp.length_eq,bz];exact pJ
  refine ab (seqEpoch_at o2 rfl (ab (listUpdate_at o2 rfl ?_ (bC _) (by rw [aX];exact yJ gG))));rw [hf];simp only [yC,bA,cQ];exact ak (fin p hp hu)
def Gives(prog:bB)(w:bU)(A:bT)(sh:au)(r:aj)(vs:List aj):Prop:=
 ∀(E:aj→au→Prop) (Q:List aj→au→Prop),(∀(h':cm) (tk:Nat),Kept sh.heap h'→sh.heap.objs.size≤h'.objs.size→Q vs {sh with heap:=h',toks:=tk})→aQ (bc prog w) A (collect r) Q E sh
theorem a8W(hg:Gives prog w A.in1 sh r vs)(S:Sortable prog w A.in1.in1 sh.heap vs κ O key)(rB:vs.length < 64)
  (q:∀(p:Array Nat) (h':cm) (tk e:Nat) (z:az),AllN vs.length p→UpTo key p vs.length→Kept sh.heap h'→sh.heap.objs.size≤z→h'.get? z=some (ic "list" (p.toList.map fun i=>vs.getD i bE).toArray e)→Q (.ref z) {sh with heap:=h',toks:=tk}) :
  aQ (bc prog w) A (call (.builtin "sorted") [r]) Q E sh:=by
 refine jA kind_sorted plain_sorted entry_sorted (args_sorted1 _) ?_;unfold Builtin.«sorted»;refine ab (m:=checkCount "sorted" 1 1 _) (ak ?_);refine ab (hg _ _ fun h1 tk k1 z1=>?_);refine ab (uG ?_ (by rw [cV];lia));have oL:(h1.push (ic "list" vs.toArray 0)).get? h1.objs.size=some (ic "list" vs.toArray 0):=aV _ rfl;refine ab (cM (cq slot_list_sort ⟨_,oL,rfl⟩ entry_list_sort (a5f (sh:={sh with heap:=h1.push (ic "list" vs.toArray 0),toks:=tk}) S (k1.push _) z1 oL rB fun p h' e hp hu hk hz ho=>⟨_,rfl,?_⟩) (args_list_sort _)));exact ak ⟨_,rfl,q p h' tk e h1.objs.size hp hu hk z1 ho⟩
theorem a6G(hh:A.handled=none)(h0:(d == dU)=false)(hm:sh.heap.RawDict d rows ep)(hz:rows.size≤aT):Gives prog w A sh (.ref d) (rows.toList.map (·.key)):=fun E Q q=>by
 have hd:d < sh.heap.objs.size:=let⟨_,hu,_⟩:=hm;aS hu
 have fin:∀(h':cm) (tk:Nat) (acc:Array aj) (c:Nat),(∀b o,b≠sh.heap.objs.size→(sh.heap.push {cls:=.type "list",data:=.seq ([]:List aj).toArray}).get? b=some o→h'.get? b=some o)→
   h'.get? sh.heap.objs.size=some {cls:=.type "list",dict:=none,data:=.seq acc c,slots:=#[]}→ItemsOf (fun i v=>∃e,rows[i]?=some e∧v=e.key) acc rows.size→Q acc.toList {sh with heap:=h',toks:=tk}:=by
  intro h' tk acc c hk hS i_;have e:acc.toList=rows.toList.map (·.key):=by
   refine fE fun i=>?_
   rw [aN,bg,bg];by_cases c:i < rows.size
   ·obtain⟨x,hx⟩:∃x,acc[i]?=some x:=⟨_,bW (by rw [i_.1];exact c)⟩;obtain⟨y,h1,h2⟩:=i_.2 i x hx;rw [hx,h1,h2];rfl
   ·rw [dr (by rw [i_.1];lia),dr (by lia)];rfl
  rw [e];exact q h' tk (fun b o x=>hk b o (bH (aS x)) (aC _ x)) (dE (aS hS))
 unfold collect;refine ab (rN (eP kX ?_));rw [dM nz _];show aQ _ A.in1 (newList [] >>= fun l=>again (.builtin "list.__iadd__" ⟨[l,.ref d],[]⟩)) _ _ sh;refine ab (dw (ak ⟨iq gk _,eP mH ?_⟩));rw [dM gk _];show aQ _ A.in1 (jh (.ref sh.heap.objs.size) (.ref d) (.ref sh.heap.objs.size)) _ _ _;refine dG (W.kdl_extend (A:=A) (s:={sh with heap:=sh.heap.push {cls:=.type "list",data:=.seq ([]:List aj).toArray}})
  (R:=fun (g:BC) (s':au)=>∃(h':cm) (tk:Nat) (acc:Array aj) (c:Nat),g=.ok (.ret (.ref sh.heap.objs.size))∧s'={sh with heap:=h',toks:=tk}∧
   h'.get? sh.heap.objs.size=some {cls:=.type "list",dict:=none,data:=.seq acc c,slots:=#[]}∧Q acc.toList {sh with heap:=h',toks:=tk})
  (b3g (ep:=ep) h0) hh (hm.at fun o e=>aC _ e) sh.heap.objs.size (il hd) (il hd) (.ref sh.heap.objs.size) 0 (aV _ rfl)
  (fun h' tk acc c hk hS i_=>⟨h',tk,acc,c,rfl,rfl,hS,fin h' tk acc c hk hS i_⟩) hz) (fun g s' x=>?_) fun e s' x=>?_
 ·cases g with
  | done f=>
   obtain⟨h',tk,acc,c,e,rfl,hS,qq⟩:=x;cases e
   show aQ _ A (load sh.heap.objs.size >>= _) _ _ _;exact ab (km hS (ak qq))
  | again c₁=>
   refine⟨x.1,gZ x.2 fun g s₂ y=>?_⟩;obtain⟨h',tk,acc,c,rfl,rfl,hS,qq⟩:=y;show aQ _ A (load sh.heap.objs.size >>= _) _ _ _;exact ab (km hS (ak qq))
 ·obtain⟨_,_,_,_,e',_⟩:=x;cases e'
end
end VS
namespace VS
open PySem PySem.Spec L2
open PyProof.Rows (KeyOrd SortKind keyKind' keyLt' tuples' oneType' IntsAre oneLt')
open PySem.W (KatLex KatTups BoolBack)
def C0:List Int→List Int→Bool
 | [],[]=>false
 | [],_ :: _=>true
 | _ :: _,[]=>false
 | a :: x,b :: y=>if a=b then C0 x y else decide (a < b)
theorem a1V:∀a,C0 a a=false
 | []=>rfl
 | a :: x=>by rw [C0,aE rfl];exact a1V x
theorem O5:∀a b,C0 a b=false→C0 b a=false→a=b
 | [],[],_,_=>rfl
 | [],_ :: _,h,_=>by cases h
 | _ :: _,[],_,h=>by cases h
 | a :: x,b :: y,h1,h2=>by
  rw [C0] at h1 h2;by_cases c:a=b
  ·subst c;rw [aE rfl] at h1 h2;rw [O5 x y h1 h2]
  ·rw [aJ c] at h1;rw [aJ (fun z=>c z.symm)] at h2;have:=iz h1;have:=iz h2;lia
theorem O6:∀a b c,C0 a b=true→C0 b c=true→C0 a c=true
 | [],[],_,h,_=>by cases h
 | [],_ :: _,[],_,h=>by cases h
 | [],_ :: _,_ :: _,_,_=>rfl
 | _ :: _,[],_,h,_=>by cases h
 | _ :: _,_ :: _,[],_,h=>by cases h
 | a :: x,b :: y,c :: z,h1,h2=>by
  rw [C0] at h1 h2 ⊢;by_cases e1:a=b
  ·subst e1;rw [aE rfl] at h1;by_cases e2:a=c
   ·rw [aE e2] at h2 ⊢;exact O6 x y z h1 h2
   ·rw [aJ e2] at h2 ⊢;exact h2
  ·rw [aJ e1] at h1;have q1:=bh h1;by_cases e2:b=c
   ·subst e2;rw [aJ e1];exact h1
   ·rw [aJ e2] at h2;have q2:=bh h2;rw [aJ (by lia)];exact aO (by lia)
theorem a8X(h:C0 a b=true):C0 b a=false:=by
 cases c:C0 b a with
 | false=>rfl
 | true=>rw [←a1V a,O6 _ _ _ h c]
theorem b0M(a b c:List Int)(h:C0 a c=true):C0 a b=true∨C0 b c=true:=by
 cases h1:C0 a b with
 | true=>exact .inl rfl
 | false=>
  refine .inr ?_;cases h2:C0 b a with
  | true=>exact O6 _ _ _ h2 h
  | false=>rw [←O5 a b h1 h2];exact h
def OI:KeyOrd:=⟨List Int,C0,a1V,O6,b0M,O5⟩
def a6H(fin:Bool):List Int→List Int→Bool
 | n :: ns,m :: ms=>if n=m then a6H fin ns ms else decide (n < m)
 | _,_=>fin
theorem a7P:∀ns ms:List Int,a6H (decide (ns.length < ms.length)) ns ms=C0 ns ms
 | [],[]=>rfl
 | [],_ :: _=>by simp [a6H,C0]
 | _ :: _,[]=>by simp [a6H,C0]
 | n :: ns,m :: ms=>by
  rw [a6H,C0,←a7P ns ms];simp
def a5g(kt:Bool)(h:cm)(v:aj)(ns:List Int):Prop:=
 if kt then ∃a o xs m,v=.ref a∧h.get? a=some o∧o.cls=.type "tuple"∧o.data=.seq xs m∧IntsAre xs.toList ns else ∃n t,v=.int n t∧ns=[n]
theorem a0S(h:IntsAre vs ns):vs.length=ns.length:=by
 induction h with
 | nil=>rfl
 | cons _ _ _ ih=>rw [aW,aW,ih]
section
variable {prog:bB}{w:bU}{A:bT}{s:au}{Q:Bool→au→Prop}
theorem b0N:∀{xs:List aj} {ns:List Int},IntsAre xs ns→∀{ys:List aj} {ms:List Int},IntsAre ys ms→∀(i:Nat) (b fin:Bool),Q (a6H fin ns ms) s→KatLex prog w A b fin Q (xs.zip ys) i s
 | _,_,.nil,_,_,_,_,_,_,q=>q
 | _,_,.cons _ _ _,_,_,.nil,_,_,_,q=>q
 | _,_,.cons n t hx,_,_,.cons m t' hy,i,b,fin,q=>by
  rw [eZ];refine W.kat_cons (wpAny_eqBool_int ?_);rw [a6H] at q;by_cases c:n=m
  ·rw [aE c] at q;rw [show (n == m)=true by simp [c]];exact W.kat_yes (b0N hx hy (i + 1) b fin q)
  ·rw [aJ c] at q;rw [show (n == m)=false by simp [c]];refine W.kat_no ?_;cases b && i == 0 with
   | true=>exact PyProof.Rows.oneLt_int q
   | false=>exact W.kat_one _ _ (wpAny_lt_int q)
theorem a7Q:∀{vs:List aj} {nss:List (List Int)},vs.length=nss.length→(∀i,i < vs.length→a5g true h (vs.getD i bE) (nss.getD i []))→(∀i,i < vs.length→nss.getD i []≠[])→
  ∃fs,KatTups h vs fs∧fs.length=vs.length∧∀v∈fs,∃n t,v=gM n t
 | [],_,_,_,_=>⟨[],trivial,rfl,fun _ h=>(nomatch h)⟩
 | v :: vs,[],hl,_,_=>by simp at hl
 | v :: vs,ns :: nss,hl,hv,fA=>by
  obtain⟨fs,h1,h2,h3⟩:=a7Q (vs:=vs) (nss:=nss) (by simpa using hl) (fun i hi=>by have:=hv (i + 1) (by simpa using hi);simpa using this) fun i hi=>by have:=fA (i + 1) (by simpa using hi);simpa using this
  obtain⟨a,o,xs,m,e,ho,hc,hd,hx⟩:=(show a5g true h v ns from hv 0 (BF _));have hn:ns≠[]:=fA 0 (BF _);obtain⟨x,qW,n,t,zG⟩:∃x,xs[0]?=some x∧∃n t,x=gM n t:=by
   cases qt:xs.toList with
   | nil=>rw [qt] at hx;cases hx;exact absurd rfl hn
   | cons x r=>
    rw [qt] at hx;cases hx with
    | cons n t _=>exact⟨_,by rw [←bg,qt];rfl,n,t,rfl⟩
  refine⟨x :: fs,⟨⟨a,o,xs,m,e,ho,hc,hd,qW⟩,h1⟩,by rw [aW,aW,h2],fun y hy=>?_⟩;rcases aH.mp hy with z|z
  ·rw [z];exact⟨n,t,zG⟩
  ·exact h3 y z
theorem a1o(x:a5g kt h v ns)(k:Kept h h'):a5g kt h' v ns:=by
 cases kt with
 | false=>exact x
 | true=>
  obtain⟨a,o,xs,m,e,ho,r⟩:=(show ∃a o xs m,v=.ref a∧h.get? a=some o∧o.cls=.type "tuple"∧o.data=.seq xs m∧IntsAre xs.toList ns from x);exact (show ∃a o xs m,v=.ref a∧h'.get? a=some o∧o.cls=.type "tuple"∧o.data=.seq xs m∧IntsAre xs.toList ns from⟨a,o,xs,m,e,k _ _ ho,r⟩)
def b0O(kt:Bool):lP:=if kt then tuples' true else oneType'
theorem W1{vs:List aj}{nss:List (List Int)}(hl:vs.length=nss.length)(hv:∀i,i < vs.length→a5g kt h0 (vs.getD i bE) (nss.getD i []))
  (fA:kt=true→2≤vs.length→∀i,i < vs.length→nss.getD i []≠[]):Sortable prog w A h0 vs (b0O kt) OI (fun i=>nss.getD i []) where
 kind:=fun h2 s E Q hk q=>by
  cases kt with
  | false=>
   refine W.kas_kind (T:=eV "int") h2 (fun v qX=>?_) rfl rfl q;obtain⟨i,hi⟩:=bX.mp qX;have iS:=(ay.mp hi).1;obtain⟨n,t,e,_⟩:=(show ∃n t,vs.getD i bE=.int n t∧nss.getD i []=[n] from hv i iS);rw [ai,hi] at e;cases e
   exact fun A Q E s _ q=>ak q
  | true=>
   obtain⟨fs,h1,lr,h3⟩:=a7Q hl (fun i hi=>a1o (hv i hi) hk) (fA rfl h2);refine W.kat_kind (T:=eV "int") h1 (by lia) (fun v qX=>?_) rfl q;obtain⟨n,t,rfl⟩:=h3 v qX;exact fun A Q E s _ q=>ak q
 lt:=fun s i j C hk hi hj q=>by
  have vi:=a1o (hv i hi) hk;have vj:=a1o (hv j hj) hk;cases kt with
  | false=>
   obtain⟨n,t,e1,e2⟩:=(show ∃n t,vs.getD i bE=.int n t∧nss.getD i []=[n] from vi);obtain⟨m,t',e3,e4⟩:=(show ∃n t,vs.getD j bE=.int n t∧nss.getD j []=[n] from vj);rw [e1,e3];refine W.kat_lt_int ?_;have q':C (C0 (nss.getD i []) (nss.getD j [])) s:=q;rw [e2,e4,C0] at q';by_cases c:n=m
   ·rw [aE c] at q';rw [show decide (n < m)=false from bj (by lia)];exact q'
   ·rw [aJ c] at q';exact q'
  | true=>
   obtain⟨a,o,xs,k,e1,ho,hc,hd,hx⟩:=(show ∃a o xs m,vs.getD i bE=.ref a∧s.heap.get? a=some o∧o.cls=.type "tuple"∧o.data=.seq xs m∧IntsAre xs.toList (nss.getD i []) from vi);obtain⟨a',o',ys,k',e2,kH,pQ,ir,hy⟩:=(show ∃a o xs m,vs.getD j bE=.ref a∧s.heap.get? a=some o∧o.cls=.type "tuple"∧o.data=.seq xs m∧IntsAre xs.toList (nss.getD j []) from vj);rw [e1,e2];refine W.kat_lt ho hd kH ir (b0N hx hy 0 true _ ?_);have z1:=a0S hx;have z2:=a0S hy;rw [bL] at z1 z2;rw [z1,z2,a7P];exact q
end
end VS
namespace VS
open PySem PySem.Spec L2
open PyProof.Rows (IntsAre seqObj)
def a8Y(n:List Int):List (List Int)→List (List Int)
 | []=>[n]
 | m :: ms=>if C0 m n then m :: a8Y n ms else n :: m :: ms
def K6:List (List Int)→List (List Int)
 | []=>[]
 | n :: ns=>a8Y n (K6 ns)
def leL(a b:List Int):Prop:=C0 b a=false
theorem a8Z(h1:leL a b)(h2:leL b c):leL a c:=PyProof.Rows.KeyOrd.kle_trans (O:=OI) h1 h2
theorem a0y(n:List Int):∀ms,(a8Y n ms).Perm (n :: ms)
 | []=>eU _
 | m :: ms=>by
  unfold a8Y;by_cases c:C0 m n=true
  ·rw [aE c];exact ((a0y n ms).cons m).trans (oq n m ms)
  ·rw [aJ c]
theorem q9:∀ns,(K6 ns).Perm ns
 | []=>eU _
 | n :: ns=>(a0y n (K6 ns)).trans ((q9 ns).cons n)
theorem a0T(n:List Int):∀ms:List (List Int),ms.Pairwise leL→(a8Y n ms).Pairwise leL
 | [],_=>List.pairwise_singleton ..
 | m :: ms,h=>by
  unfold a8Y;obtain⟨h1,h2⟩:=iN.mp h;by_cases c:C0 m n=true
  ·rw [aE c];refine iN.mpr ⟨fun x hx=>?_,a0T n ms h2⟩;rcases aH.mp ((a0y n ms).mem_iff.mp hx) with z|z
   ·rw [z];exact a8X c
   ·exact h1 x z
  ·rw [aJ c];have xQ:leL n m:=by simpa [leL] using c
   refine iN.mpr ⟨fun x hx=>?_,h⟩;rcases aH.mp hx with z|z
   ·rw [z];exact xQ
   ·exact a8Z xQ (h1 x z)
theorem K8:∀ns:List (List Int),(K6 ns).Pairwise leL
 | []=>lK
 | n :: ns=>a0T n _ (K8 ns)
theorem a0z{a b:List (List Int)}(hp:a.Perm b)(ha:a.Pairwise leL):a=K6 b:=
 List.Perm.eq_of_pairwise (fun x y _ _ h1 h2=>O5 _ _ h2 h1) ha (K8 b) (hp.trans (q9 b).symm)
def kD(kt:Bool)(ns:List Int):D:=if kt then .tuple (ns.map .int) else .int (ns.headD 0)
def b5K(kt:Bool):D→Option (List Int)
 | .int n=>if kt then none else some [n]
 | .tuple ds=>if kt then intsOf ds else none
 | _=>none
def a1W(kt:Bool):List D→Option (List (List Int))
 | []=>some []
 | d :: ds=>(b5K kt d).bind fun ns=>(a1W kt ds).bind fun r=>some (ns :: r)
def okK(kt:Bool)(nss:List (List Int)):Bool:=decide (nss.length < 64) && (!kt || decide (nss.length < 2) || nss.all fun ns=>!ns.isEmpty)
def a6I(kt:Bool)(ks:List D):Option D:=(a1W kt ks).bind fun nss=>if okK kt nss then some (.list ((K6 nss).map (kD kt))) else none
theorem a9a(h:b5K kt d=some ns):d=kD kt ns∧(kt=false→ns.length=1):=by
 cases d with
 | int n=>
  cases kt with
  | true=>cases h
  | false=>cases h;exact⟨rfl,fun _=>rfl⟩
 | tuple ds=>
  cases kt with
  | false=>cases h
  | true=>
   have h':intsOf ds=some ns:=h;cases R6 h'
   exact⟨rfl,fun z=>by cases z⟩
 | _=>cases h
theorem X4:∀{ds:List D} {nss:List (List Int)},a1W kt ds=some nss→ds=nss.map (kD kt)∧(kt=false→∀ns∈nss,ns.length=1)
 | [],nss,h=>by cases h;exact⟨rfl,fun _ _ z=>(nomatch z)⟩
 | d :: ds,nss,h=>by
  obtain⟨ns,h1,h⟩:=bnd (show (b5K kt d).bind _=some nss from h);obtain⟨r,h2,h3⟩:=bnd h;cases h3
  obtain⟨e1,e2⟩:=a9a h1;obtain⟨e3,e4⟩:=X4 h2;refine⟨by rw [aB,←e1,←e3],fun z x hx=>?_⟩;rcases aH.mp hx with y|y
  ·rw [y];exact e2 z
  ·exact e4 z x y
theorem b5L(kt:Bool)(ns:List Int):imm (kD kt ns)=true:=by
 cases kt with
 | false=>simp only [kD,bA,cQ,imm]
 | true=>simp only [kD,gc,imm];exact b7o ns
theorem a4g(kt:Bool):∀nss:List (List Int),e6 (nss.map (kD kt))=true
 | []=>by simp only [cK,e6]
 | ns :: nss=>by simp only [aB,e6,b5L,a4g kt nss,eL]
theorem a5h:∀{ns:List Int} {xs:List V},DenAll K H xs (ns.map .int)→xs=ns.map V.int:=by
 intro ns
 induction ns with
 | nil=>intro xs h;exact h.nil_inv
 | cons n ns ih=>
  intro xs h;obtain⟨v,r,rfl,h1,h2⟩:=h.cons_inv;rw [h1.int_inv,ih h2];rfl
section
variable {X:Cx}{pins:List (az × eW)}{σ:L2.St}{H:Hp}{s:au}
theorem a4h(I:Inv X pins σ H s)(h:Den X.K H v (kD kt ns))(r:RelV v u)(h1:kt=false→ns.length=1):a5g kt s.heap u ns:=by
 cases kt with
 | false=>
  have h':Den X.K H v (.int (ns.headD 0)):=h;rw [h'.int_inv] at r;obtain⟨t,rfl⟩:=r;refine (show ∃n t',gM (ns.headD 0) t=.int n t'∧ns=[n] from⟨_,_,rfl,?_⟩)
  match ns,h1 rfl with
  | [n],_=>rfl
 | true=>
  have h':Den X.K H v (.tuple (ns.map .int)):=h;obtain⟨a,xs,rfl,h2,h3⟩:=h'.tup_inv;cases a5h h3
  cases (show u=a_ a from r)
  obtain⟨cE,rv,⟨o,ho,hc,n,hd⟩,_⟩:=I.tuple h2;exact (show ∃a' o xs m,a_ a=.ref a'∧s.heap.get? a'=some o∧o.cls=.type "tuple"∧o.data=.seq xs m∧IntsAre xs.toList ns from⟨a,o,cE.toArray,n,rfl,ho,hc,hd,by simpa using a3h rv⟩)
theorem a7R{key:Nat→List Int}{p:Array Nat}(hp:AllN N p)(hu:UpTo (O:=OI) key p N):(p.toList.map key).Pairwise leL:=by
 rw [iV];intro i j hi hj kW;rw [ae,bL,hp.size] at hi hj;have z:=hu i j (dE kW) hj;have e:∀k (hk:k < N),kyP (O:=OI) key p k=(p.toList.map key)[k]'(by rw [ae,bL,hp.size];exact hk):=fun k hk=>by
  have ny:k < p.size:=by rw [hp.size];exact hk
  simp only [kyP,dW,Array.getElem_toList]
  congr 1;simp [iO,ny]
 rw [e i hi,e j hj] at z;exact z
theorem L1:∀{l:List α} {p:List Nat},p.Perm (aG l.length)→(p.map fun i=>l.getD i d).Perm l:=by
 intro l p h;refine (h.map _).trans (CN ?_);refine fE fun i=>?_
 rw [aN];by_cases c:i < l.length
 ·rw [eQ c,mY,af c,ai,af c];rfl
 ·rw [cT (by simpa using c),cT (by simpa using c)];rfl
theorem sorted_out{nss:List (List Int)}(I:Inv X pins σ H s)(hg:Gives X.prog X.w X.A.in1 s r us)(rv:Vals xs us)(hd:DenAll X.K H xs (nss.map (kD kt)))
  (h1:kt=false→∀ns∈nss,ns.length=1) (hk:okK kt nss=true) (q:∀z out,H z=none→DenAll X.K H out ((K6 nss).map (kD kt))→Q (.ref z) (upd H z (.lst out))) :
  aQ (bc X.prog X.w) X.A (call (.builtin "sorted") [r]) (EP X pins σ Q) X.xe s:=by
 have hlen:xs.length=nss.length:=by rw [hd.length,ae]
 have xF:us.length=nss.length:=by rw [←rv.length];exact hlen
 rw [okK,aA] at hk;have rB:nss.length < 64:=bh hk.1;have rel:∀i,i < us.length→RelV (xs.getD i .non) (us.getD i bE)∧Den X.K H (xs.getD i .non) (kD kt (nss.getD i [])):=fun i hi=>by
  have gL:i < nss.length:=by lia
  have e1:(nss.map (kD kt))[i]?=some (kD kt (nss.getD i [])):=by rw [aN,af gL,ai,af gL];rfl
  obtain⟨v,hv,dv⟩:=hd.get e1;obtain⟨u,hu,ru⟩:=rv.get hv;rw [ai,hv,ai,hu];exact⟨ru,dv⟩
 refine a8W (κ:=b0O kt) (O:=OI) (key:=fun i=>nss.getD i []) hg (W1 xF (fun i hi=>a4h I (rel i hi).2 (rel i hi).1 fun z=>?_) fun Aj h2 i hi=>?_) (by lia) fun p h' tk e z hp hu Ak hz ho=>?_
 ·have gL:i < nss.length:=by lia
  rw [ai,af gL];exact h1 z _ (cS gL)
 ·have gL:i < nss.length:=by lia
  have hb:=hk.2;rw [Aj] at hb;have lr:¬ nss.length < 2:=by lia
  simp only [eK,Bool.false_or,bj lr,dc,Bool.not_eq_true',List.isEmpty_eq_false_iff] at hb;rw [ai,af gL];exact hb _ (cS gL)
 ·rw [xF] at hp hu;have oS:H z=none:=I.hok.fresh hz;have gG:p.toList.length=nss.length:=by rw [hp.length_eq,bz]
  have hv:Vals (p.toList.map fun i=>xs.getD i .non) (p.toList.map fun i=>us.getD i bE):=by
   refine a1m (by rw [ae,ae]) fun i x u g1 g2=>?_
   rw [aN] at g1 g2;obtain⟨j,j1,rfl⟩:=cZ.mp g1;rw [j1] at g2;cases g2
   have:j∈aG nss.length:=hp.mem_iff.mp (ba j1);exact (rel j (by have:=bx.mp this;lia)).1
  refine⟨.ref z,_,I.laid (a:=z) (o:=.lst (p.toList.map fun i=>xs.getD i .non)) (t':=tk) Ak hz ⟨by rw [ae,gG,cV];lia,_,e,hv,ho⟩,rfl,q z _ oS ?_⟩;rw [←a0z (a:=p.toList.map fun i=>nss.getD i []) (L1 hp) (a7R hp hu),bp];have:∀l:List Nat,(∀j∈l,j < nss.length)→DenAll X.K H (l.map fun i=>xs.getD i .non) (l.map (kD kt ∘ fun i=>nss.getD i [])):=by
   intro l
   induction l with
   | nil=>intro _;exact denAll_nil
   | cons j l ih=>intro hj;exact denAll_cons (rel j (by have:=hj j aq;lia)).2 (ih fun k hk=>hj k (ah _ hk))
  exact this _ fun j hj=>bx.mp (hp.mem_iff.mp hj)
end
section
variable {X:Cx}{M:List Md}{a:Expr}{fa:EvE}{ca:Cat}{pos p:eM}
theorem a6J(hc:X.calm=true)(kt:Bool):CallR X (.builtin "sorted") (fun xs H Q=>∃p es nss,xs=[.ref p]∧H p=some (i4 p es)∧DenAll X.K H (es.map (·.2.1)) (nss.map (kD kt))∧(kt=false→∀ns∈nss,ns.length=1)∧okK kt nss=true∧∀z out,H z=none→DenAll X.K H out ((K6 nss).map (kD kt))→Q (.ref z) (upd H z (.lst out))):=by
 intro pins s σ H xs us Q I rv h;obtain⟨p,es,nss,rfl,hH,hd,h1,hk,q⟩:=h;obtain⟨u,rfl,rx⟩:=vals1 rv;cases (show u=a_ p from rx)
 obtain⟨h0,hl,hn,o,ents,ep,g1,g2,g3,g4⟩:=C7 I hH;refine sorted_out I (a6G (by simpa using I.ok.hd hc) h0 ⟨o,g1,g2,g3⟩ (by have z:=iw g4;have z2:ents.toList.length=ents.size:=bL;lia)) ?_ hd h1 hk q;have:∀{es:List (D × V × V)} {l:List fR},fS Q5 es l→Vals (es.map (·.2.1)) (l.map (·.key)):=by
  intro es l h
  induction h with
  | nil=>exact .nil
  | cons r _ ih=>exact .cons r.2.1 ih
 exact this g4
def b5M:D→Option (List D)
 | .dict kvs=>some (kvs.map (·.1))
 | _=>none
def X5(kt:Bool)(a:EvE):EvE:=fun ρ=>(a ρ).bind fun d=>(b5M d).bind (a6I kt)
theorem a0U:∀{kvs:List (D × D)} {es:List (D × V × V)},DenKV K H es kvs→DenAll K H (es.map (·.2.1)) (kvs.map (·.1))
 | [],es,h=>by
  simp only [DenKV] at h;subst h;exact denAll_nil
 | (k,d) :: r,es,h=>by
  simp only [DenKV] at h;obtain⟨e,q,rfl,h2,h3,h4,h5⟩:=h;exact denAll_cons h3 (a0U h5)
theorem a5i(kt:Bool)(hc:X.calm=true)(hm:X.mg "sorted"=none)(ha:PX X M a fa ca)(hg:Gl X "sorted":=by rfl)(he:aF [a] X.env=(false,cO a X.env) :: aF [] X.env:=by rfl)(gG:(cP pos (aF [] X.env)).any (·.1)=false:=by rfl) :
  PX X M (.Call (.Name "sorted" p) [a] [] pos) (X5 kt fa) (.new (.l .i)):=by
 obtain⟨ta,pa,qa⟩:=ha.out;refine .mk ⟨_,Q3 (a6J hc kt) hg hm PyProof.Rows.Boot.«sorted» (l3 pa r9 he) (by decide) (by decide) he gG,fun ρ σ H P F d Q S hf q=>?_⟩;obtain⟨x,h1,g1⟩:=bnd hf;obtain⟨ks,h2,g2⟩:=bnd g1;obtain⟨nss,h3,g3⟩:=bnd (show (a1W kt ks).bind _=some d from g2);obtain⟨e1,e2⟩:=X4 h3;by_cases c:okK kt nss=true
 ·rw [aE c] at g3;cases g3
  cases x with
  | dict kvs=>
   cases h2
   refine qa ρ σ H P F _ _ S h1 fun v H1 w1 r1=>?_
   obtain⟨pp,es,rfl,k1,k2⟩:=r1.den.dict_inv;refine⟨pp,es,nss,rfl,k1,by rw [←e1];exact a0U k2,e2,c,fun z out hz ho=>q _ _ (w1.trans (k9 hz _)) ?_⟩;exact U4 ho (a4g kt _) w1 hz (S.lst' w1)
  | _=>cases h2
 ·rw [aJ c] at g3;cases g3
end
end VS
namespace VS
open PySem PySem.Spec L2
section
variable {K:ag}{H:Hp}{F:List az}{kt:Bool}{u:Ty}
theorem M8(mR:a∈F)(o:HO):Same (cut H F) (cut (upd H a o) F):=fun b o' hb=>by
 obtain⟨n1,n2⟩:=l5 hb;exact w9 n1 (by rw [g9 (show b≠a from fun z=>n1 (z ▸ mR))];exact n2)
theorem b0P(o:Own K H F (.d kt u) (.ref a) (.dict kvs) f)(rg:∀b∈f,b∈F)(jT:(fv ++ f).Nodup)(hk:keyOk kt k)(sQ:Den K (cut H F) kv k)(ov:Own K H F u v d fv) :
  ∃es,H a=some (i4 a es)∧(∀e∈es,keyOk kt e.1∧Den K (cut H F) e.2.1 e.1)∧es.length=kvs.length∧a∈f∧∃f',Own K (upd H a (i4 a (K5 es k kv v))) F (.d kt u) (.ref a) (.dict (v5 kvs k d)) f'∧∀b,f'.count b≤f.count b + fv.count b:=by
 obtain⟨a',es,ds,fs,ea,r2,r3,rfl,r5,r6,hl,hn⟩:=o.dict;cases ea
 injection r3 with r3
 subst r3;have mR:a∈F:=rg a aq;have eO:∀o,Same (cut H F) (cut (upd H a o) F):=M8 mR;have cnt:fs.count a=0∧fv.count a=0:=by
  have:=cA.mp jT a;simp only [aY,fN] at this;exact⟨by lia,by lia⟩
 have kk:∀(l:List az) (o:HO),l.count a=0→∀b∈l,upd H a o b=H b:=fun l o hc b hb=>g9 fun z=>by
  subst z;rw [df] at hc;exact hc hb
 have gP:∀e∈es,aI e.1 k=true↔e.1=k:=fun e he=>A7 e.1 k (r5 e he).1.1 hk.1
 have hlen:es.length=((es.map (·.1)).zip ds).length:=by rw [jH,ae,hl,lH]
 refine⟨es,r2,r5,hlen,aq,?_⟩;have fin:∀(es':List (D × V × V)) (gn:List D) (jj:List az),(es'.map (·.1)).Nodup→(∀e∈es',keyOk kt e.1∧Den K (cut H F) e.2.1 e.1)→ListAll (Own K (upd H a (i4 a es')) F u) (es'.map (·.2.2)) gn jj→(∀b,jj.count b≤fs.count b + fv.count b)→
   ∃f',Own K (upd H a (i4 a es')) F (.d kt u) (.ref a) (.dict ((es'.map (·.1)).zip gn)) f'∧∀b,f'.count b≤(a :: fs).count b + fv.count b:=fun es' gn jj qF ny ha jY=>by
  refine⟨a :: jj,?_,fun b=>?_⟩
  ·simp only [Own];exact⟨a,es',gn,jj,rfl,i6,rfl,rfl,⟨qF,fun e he=>⟨(ny e he).1,(ny e he).2.up (eO _)⟩⟩,ha⟩
  ·have:=jY b;simp only [cR];lia
 cases hf:A9 es k with
 | false=>
  rw [Z0 hf,a3f (by rw [B0 hl];exact hf),←R5 (kv:=kv) (v:=v) hl];refine fin (es ++ [(k,kv,v)]) (ds ++ [d]) (fs ++ fv) ?_ ?_ ?_ fun b=>by rw [aY];exact aD _
  ·rw [aR,bG];refine⟨hn,by simp,fun x hx y hy e=>?_⟩;simp only [aB,cK,ar] at hy;subst hy;subst e;obtain⟨e,he,rfl⟩:=aK.mp hx;unfold A9 at hf;rw [cH] at hf;exact hf e he ((gP e he).mpr rfl)
  ·intro e he;rcases aw.mp he with z|z
   ·exact r5 e z
   ·rw [ar.mp z];exact⟨hk,sQ⟩
  ·rw [aR];refine (j8 (eO _) r6 (kk _ _ cnt.1)).append ?_;have:=k7 (R:=Own K (upd H a (i4 a (es ++ [(k,kv,v)]))) F u) (ov.frame (eO _) u (kk _ _ cnt.2)) l7
   rwa [bV] at this
 | true=>
  have hh:=hf;unfold A9 at hf;rw [gU] at hf;obtain⟨e,he,fH⟩:=hf;have nO:=(gP e he).mp fH;obtain⟨j,hj⟩:=bX.mp he;have ox:j < ds.length:=by rw [hl];exact (ay.mp hj).1
  have lX:K5 es k kv v=es.map fun e=>if aI e.1 k then (e.1,e.2.1,v) else e:=by unfold K5;rw [hh];rfl
  have lg:v5 ((es.map (·.1)).zip ds) k d=(es.map (·.1)).zip (ds.set j d):=by
   unfold v5;rw [B0 hl,hh];exact K7 (v:=v) hl gP hn hj nO
  have lj:(K5 es k kv v).map (·.1)=es.map (·.1):=by rw [lX];exact Z4
  rw [lg,←lj];obtain⟨w3,f3,a1,a2,s1,s2,me,s4⟩:=r6.zip (af ox);have nI:(K5 es k kv v).map (·.2.2)=(es.map (·.2.2)).set j v:=by
   rw [lX];exact a1R hn gP hj nO
  refine fin (K5 es k kv v) (ds.set j d) (a1 ++ (fv ++ a2)) (by rw [lj];exact hn) ?_ ?_ fun b=>by rw [me];simp only [aY];lia
  ·intro e' jO;rw [lX] at jO;obtain⟨e0,oy,rfl⟩:=aK.mp jO
   split
   ·exact r5 e0 oy
   ·exact r5 e0 oy
  ·rw [nI];have c5:(a1 ++ a2).count a=0:=by have:=cnt.1;rw [me] at this;simp only [aY] at this ⊢;lia
   exact s4 _ F v d fv (kk _ _ c5) (eO _) (ov.frame (eO _) u (kk _ _ cnt.2))
theorem StR.dval(S:StR K M ρ σ H P F)(hm:M[i]?=some (.own (.d kt u)))(hk:keyOk kt k) :
  ∃a0 es ds,σ[i]?=some (some (.ref a0))∧H a0=some (i4 a0 es)∧ρ.getD i .none=.dict ((es.map (·.1)).zip ds)∧ds.length=es.length∧(∀e∈es,keyOk kt e.1∧Den K (cut H F) e.2.1 e.1)∧(es.map (·.1)).Nodup∧
   ∀e∈es,e.1=k→∃d f,D7 ((es.map (·.1)).zip ds) k=some d∧Own K H F u e.2.2 d f∧f.Nodup∧(∀b∈f,b∈F)∧
    ∀(H':Hp) (a:az) (o':MuO) (d':D) (f':List az),Same H H'→a∈f→Own K (upd H' a o'.1) F u e.2.2 d' f'→(∀b,f'.count b≤f.count b)→StR K M (ρ.set i (.dict (v5 ((es.map (·.1)).zip ds) k d'))) σ (upd H' a o'.1) P F:=by
 obtain⟨G,h1,h2,h3⟩:=S.all;obtain⟨dd,oo,f,pre,post,q1,q2,⟨v2,rfl,q3⟩,rfl,q5⟩:=h1.at_ hm;obtain⟨a0,es,ds,fs,rfl,r2,r3,rfl,r5,r6,hl,hn⟩:=q3.dict;refine⟨a0,es,ds,q2,r2,by rw [v6 q1];exact r3,hl,r5,hn,fun e he fH=>?_⟩;have gP:∀e∈es,aI e.1 k=true↔e.1=k:=fun e he=>A7 e.1 k (r5 e he).1.1 hk.1
 obtain⟨j,hj⟩:=bX.mp he;have ox:j < ds.length:=by rw [hl];exact (ay.mp hj).1
 obtain⟨w3,f3,a1,a2,s1,s2,me,s4⟩:=r6.zip (af ox);have hw:w3=e.2.2:=by rw [aN,hj] at s1;exact (aP s1).symm
 subst hw;have cnt:∀b,b∈f3→(pre ++ post).count b=0∧b≠a0∧(a1 ++ a2).count b=0∧f3.count b=1:=fun b hb=>by
  have z:=cA.mp h2 b;have z2:=cB.mpr hb;rw [me] at z;simp only [aY,bo,cR] at z ⊢;refine⟨by lia,fun e=>?_,by lia,by lia⟩;subst e;simp only [jm,gc] at z;lia
 have rg:∀b∈f3,b∈F:=fun b hb=>h3 b (by rw [me];simp [hb])
 refine⟨ds[j],f3,a1P hl gP hn hj fH (af ox),s2,?_,rg,fun H' a o' d' f' gr ha o hc=>?_⟩
 ·refine cA.mpr fun b=>?_
  by_cases c:b∈f3
  ·rw [(cnt b c).2.2.2];exact aD _
  ·rw [df.mpr c];exact bC _
 ·obtain⟨c1,c2,c3,c4⟩:=cnt a ha;have mR:=rg a ha;have eO:Same (cut H F) (cut (upd H' a o'.1) F):=(F5 gr).trans (M8 mR _);have kk:∀(l:List az),l.count a=0→(∀b∈l,b∈F)→∀b∈l,upd H' a o'.1 b=H b:=fun l hc vN b hb=>by
   rw [g9 fun z=>?_]
   ·exact S.toE.keep gr b (vN b hb)
   ·subst z;rw [df] at hc;exact hc hb
  have lg:v5 ((es.map (·.1)).zip ds) k d'=(es.map (·.1)).zip (ds.set j d'):=by
   unfold v5;rw [B0 hl,show A9 es k=true from gU.mpr ⟨e,he,(gP e he).mpr fH⟩];exact K7 (v:=V.non) hl gP hn hj fH
  have vq:(es.map (·.2.2)).set j e.2.2=es.map (·.2.2):=set_same (by rw [aN,hj];rfl);have o1:Own K (upd H' a o'.1) F (.d kt u) (.ref a0) (.dict ((es.map (·.1)).zip (ds.set j d'))) (a0 :: (a1 ++ (f' ++ a2))):=by
   simp only [Own];refine⟨a0,es,ds.set j d',_,rfl,by rw [g9 (eJ c2)];exact gr _ _ r2,rfl,rfl,⟨hn,fun e he=>⟨(r5 e he).1,(r5 e he).2.up eO⟩⟩,?_⟩;have:=s4 (upd H' a o'.1) F e.2.2 d' f' (kk _ c3 fun b hb=>h3 b (by rw [me];rcases aw.mp hb with z|z <;> simp [z])) eO o;rw [vq] at this;exact this
  have q:=q5 (upd H' a o'.1) F (.own (.d kt u)) (.dict ((es.map (·.1)).zip (ds.set j d'))) (some (.ref a0)) _ (kk _ c1 fun b hb=>h3 b (mem_mid hb)) eO ⟨_,rfl,o1⟩;rw [set_same (l:=σ) q2,set_same (l:=M) hm] at q;rw [lg];refine⟨⟨_,q,F8 h2 fun b=>?_,fun b hb=>?_⟩,fun b hb=>?_,S.prot.trans eO⟩
  ·have:=hc b;rw [me];simp only [aY,bo,cR];lia
  ·have hp:0 < (pre ++ (a0 :: fs ++ post)).count b:=by
    have h0:=cB.mpr hb;have:=hc b;rw [me];simp only [aY,bo,cR] at h0 ⊢;lia
   exact h3 b (cB.mp hp)
  ·by_cases e:b=a
   ·subst e;exact⟨o',i6⟩
   ·obtain⟨ys,y⟩:=S.lst b hb;exact⟨ys,by rw [g9 e];exact gr _ _ y⟩
theorem Pend.dnew(h:Pend K ([] ++ [.own u]) ([] ++ [d]) ([] ++ [some v]) M ρ σ H P F)(hm:M[i]?=some (.own (.d kt u)))(hk:keyOk kt k)(vR:Den K H kv k) :
  ∃a0 es ds fv,σ[i]?=some (some (.ref a0))∧H a0=some (i4 a0 es)∧ρ.getD i .none=.dict ((es.map (·.1)).zip ds)∧ds.length=es.length∧(∀e∈es,keyOk kt e.1∧Den K (cut H F) e.2.1 e.1)∧(es.map (·.1)).Nodup∧Own K H F u v d fv∧fv.Nodup∧(∀b∈fv,b∈F∧b≠a0)∧
   (A9 es k=false→∀(H':Hp) (a:az) (o':MuO) (d':D) (f':List az),Same (upd H a0 (i4 a0 (es ++ [(k,kv,v)]))) H'→a∈fv→Own K (upd H' a o'.1) F u v d' f'→(∀b,f'.count b≤fv.count b)→
    StR K M (ρ.set i (.dict ((es.map (·.1)).zip ds ++ [(k,d')]))) σ (upd H' a o'.1) P F):=by
 obtain⟨_,_,S⟩:=h;obtain⟨G,h1,h2,h3⟩:=S.all;have jZ:StAll K H F (.own u :: M) (d :: ρ) (some v :: σ) G:=by simpa using h1
 simp only [StAll] at jZ;obtain⟨d0,ρ',BW,σ',fv,G2,e1,e2,rfl,⟨v',e3,ov⟩,h5⟩:=jZ;cases e1
 cases e2
 cases e3
 obtain⟨dd,oo,f,pre,post,q1,q2,⟨v2,rfl,q3⟩,rfl,q5⟩:=h5.at_ hm;obtain⟨a0,es,ds,fs,rfl,r2,r3,rfl,r5,r6,hl,hn⟩:=q3.dict;have um:a0∈F:=h3 a0 (by simp);have sQ:Den K (cut H F) kv k:=vR.imm_out S.lst k (Q6 _ hk.1);have gP:∀e∈es,aI e.1 k=true↔e.1=k:=fun e he=>A7 e.1 k (r5 e he).1.1 hk.1
 have cnt:∀b,b∈fv→(pre ++ post).count b=0∧b≠a0∧fs.count b=0∧fv.count b=1:=fun b hb=>by
  have z:=cA.mp h2 b;have z2:=cB.mpr hb;simp only [aY,bo,cR] at z ⊢;refine⟨by lia,fun e=>?_,by lia,by lia⟩;subst e;simp only [jm,gc] at z;lia
 have tL:(pre ++ post).count a0=0∧fs.count a0=0:=by
  have z:=cA.mp h2 a0;simp only [aY,bo,fN] at z ⊢;exact⟨by lia,by lia⟩
 refine⟨a0,es,ds,fv,q2,r2,by rw [v6 q1];exact r3,hl,r5,hn,ov,?_,fun b hb=>⟨h3 b (by simp [hb]),(cnt b hb).2.1⟩,fun hf H' a o' d' f' gr ha o hc=>?_⟩
 ·refine cA.mpr fun b=>?_
  by_cases c:b∈fv
  ·rw [(cnt b c).2.2.2];exact aD _
  ·rw [df.mpr c];exact bC _
 ·obtain⟨c1,c2,c3,c4⟩:=cnt a ha;have mR:a∈F:=h3 a (by simp [ha]);have eO:Same (cut H F) (cut (upd H' a o'.1) F):=((M8 um _).trans (F5 gr)).trans (M8 mR _);have kk:∀(l:List az),l.count a=0→l.count a0=0→(∀b∈l,b∈F)→∀b∈l,upd H' a o'.1 b=H b:=fun l hc uj vN b hb=>by
   have n1:b≠a:=fun z=>by subst z;rw [df] at hc;exact hc hb
   have n0:b≠a0:=fun z=>by subst z;rw [df] at uj;exact uj hb
   rw [g9 n1];obtain⟨ys,q⟩:=S.lst b (vN b hb);rw [q];exact gr _ _ (by rw [g9 n0];exact q)
  have xW:upd H' a o'.1 a0=some (i4 a0 (es ++ [(k,kv,v)])):=by rw [g9 (eJ c2)];exact gr _ _ i6
  have o1:Own K (upd H' a o'.1) F (.d kt u) (.ref a0) (.dict (((es ++ [(k,kv,v)]).map (·.1)).zip (ds ++ [d']))) (a0 :: (fs ++ f')):=by
   simp only [Own];refine⟨a0,es ++ [(k,kv,v)],ds ++ [d'],_,rfl,xW,rfl,rfl,⟨?_,fun e he=>?_⟩,?_⟩
   ·rw [aR,bG];refine⟨hn,by simp,fun x hx y hy e=>?_⟩;simp only [aB,cK,ar] at hy;subst hy;subst e;obtain⟨e,he,rfl⟩:=aK.mp hx;unfold A9 at hf;rw [cH] at hf;exact hf e he ((gP e he).mpr rfl)
   ·rcases aw.mp he with z|z
    ·exact⟨(r5 e z).1,(r5 e z).2.up eO⟩
    ·rw [ar.mp z];exact⟨hk,sQ.up eO⟩
   ·rw [aR];refine (j8 eO r6 (kk _ c3 tL.2 fun b hb=>h3 b (by simp [hb]))).append ?_;have:=k7 (R:=Own K (upd H' a o'.1) F u) o l7
    rwa [bV] at this
  rw [R5 (kv:=kv) (v:=v) hl] at o1;have q:=q5 (upd H' a o'.1) F (.own (.d kt u)) (.dict ((es.map (·.1)).zip ds ++ [(k,d')])) (some (.ref a0)) _ (kk _ c1 tL.1 fun b hb=>h3 b (ao _ (mem_mid hb))) eO ⟨_,rfl,o1⟩;rw [set_same (l:=σ) q2,set_same (l:=M) hm] at q;refine⟨⟨_,q,F8 h2 fun b=>?_,fun b hb=>?_⟩,fun b hb=>?_,S.prot.trans eO⟩
  ·have:=hc b;simp only [aY,bo,cR];lia
  ·have hp:0 < (fv ++ (pre ++ (a0 :: fs ++ post))).count b:=by
    have h0:=cB.mpr hb;have:=hc b;simp only [aY,bo,cR] at h0 ⊢;lia
   exact h3 b (cB.mp hp)
  ·by_cases e:b=a
   ·subst e;exact⟨o',i6⟩
   ·by_cases e0:b=a0
    ·subst e0;exact⟨⟨i4 b (es ++ [(k,kv,v)]),trivial⟩,xW⟩
    ·obtain⟨ys,y⟩:=S.lst b hb;exact⟨ys,by rw [g9 e];exact gr _ _ (by rw [g9 e0];exact y)⟩
theorem StR.ded(S:StR K M ρ σ H P F)(hm:M[y]?=some .dead)(v:Option V):StR K M ρ (σ.set y v) H P F:=by
 obtain⟨G,h1,h2,h3⟩:=S.all;obtain⟨dd,oo,f,pre,post,q1,q2,q3,rfl,q5⟩:=h1.at_ hm;have q:=q5 H F .dead dd v f (fun _ _=>rfl) (Same.refl _) q3;rw [set_same (l:=M) hm,set_same (l:=ρ) q1] at q;exact⟨⟨_,q,h2,h3⟩,S.lst,S.prot⟩
end
theorem b0Q(h:H a=some o):upd H a o=H:=funext fun b=>by
 by_cases c:b=a
 ·rw [c,i6,h]
 ·rw [g9 c]
theorem a0A(hk:z7 k=true)(h:G0 kvs k=false):D7 (kvs ++ [(k,d)]) k=some d:=by
 unfold D7;unfold G0 at h;rw [cH] at h;rw [List.find?_append,d_.mpr fun p hp=>by simpa using h p hp];simp [(A7 k k hk hk).mpr rfl]
theorem a1X(hk:z7 k=true)(h:G0 kvs k=false):v5 (kvs ++ [(k,d)]) k d'=kvs ++ [(k,d')]:=by
 have hh:G0 (kvs ++ [(k,d)]) k=true:=a1Q (a0A hk h);unfold G0 at h;rw [cH] at h;unfold v5;rw [hh,aE rfl,aR]
 congr 1
 ·have:∀p∈kvs,(if aI p.1 k then (p.1,d') else p)=p:=fun p hp=>aJ (h p hp)
  rw [bS this,gD]
 ·simp [(A7 k k hk hk).mpr rfl]
def R8(i:Nat)(kt kt2:Bool)(fk fj fv:EvE):EvS:=fun ρ=>(fk ρ).bind fun k=>match ρ.getD i .none with
 | .dict kvs=>if B8 kt k && decide (kvs.length < 1000000) then
   (fv (ρ.set i (.dict (l0 kvs k (.dict []))))).bind fun d=>(fj (ρ.set i (.dict (l0 kvs k (.dict []))))).bind fun j=>match D7 (l0 kvs k (.dict [])) k with
    | some (.dict nH)=>if B8 kt2 j && decide (nH.length < 1000000) then some (.nx ((ρ.set i (.dict (l0 kvs k (.dict [])))).set i (.dict (v5 (l0 kvs k (.dict [])) k (.dict (v5 nH j d)))))) else none
    | _=>none
  else none
 | _=>none
section
variable {X:Cx}{M M' ML:List Md}{k j v:Expr}{fk fj fv:EvE}{kt kt2:Bool}{w:Ty}{pos apos cx lS iy kQ:eM}
theorem a6K(i y:Nat)(hu:X.A.units + 64 < dq)(wy:X.N.Nodup)(hk:PX X M k fk (.new .i))(hj:PX X M j fj (.new .i))(hv:PX X M v fv (.new .i))(iA:PSsX X w ML M kY g M')
  (hN:X.N[i]?=some x:=by rfl) (ye:X.N[y]?=some yn:=by rfl) (hm:M[i]?=some (.own (.d kt (.d kt2 .i))):=by rfl) (sL:M[y]?=some .dead:=by rfl)
  (qu:Vis X.env.scope x:=by first|exact bO rfl|exact bQ (bO rfl)|exact bQ (bQ rfl)) (hd:(x == ("__debug__":bM))=false:=by decide) (hW:(x == ("__classdict__":bM))=false:=by decide)
  (zL:Vis X.env.scope yn:=by first|exact bO rfl|exact bQ (bO rfl)|exact bQ (bQ rfl)) (vY:(yn == ("__debug__":bM))=false:=by decide) (AF:(yn == ("__classdict__":bM))=false:=by decide)
  (vJ:Loc X.env.scope yn:=by first|exact bO rfl|exact bQ rfl) (sV:X.fn yn=true∨X.env.scope.names.lookup yn=some .local:=by first|exact .inl rfl|exact .inr rfl)
  (eS:du (.Name x px) "setdefault" X.env (cO (.Name x px) X.env)=cO (.Name x px) X.env:=by rfl)
  (gO:((cP cx (aF [k,.Dict [] [] kQ] X.env)).all (fun x=>!x.1) && (iC cx (fy [] X.env)).all (fun x=>x.1.isSome)
   && decide (([k,.Dict [] [] kQ]:List Expr).length + ([]:List ei).length + (if ([]:List ei).isEmpty then 0 else 1) < 30))=true:=by rfl)
  (eR:(apos.endLine == cx.line)=true:=by rfl) (hs:aF [k,.Dict [] [] kQ] X.env=(false,cO k X.env) :: aF [.Dict [] [] kQ] X.env:=by rfl) (qz:aF [.Dict [] [] kQ] X.env=(false,cO (.Dict [] [] kQ) X.env) :: aF [] X.env:=by rfl)
  (eA:(cP cx (aF [.Dict [] [] kQ] X.env)).any (·.1)=false:=by rfl)
  (k_:dQ (.Call (.Attribute (.Name x px) "setdefault" apos) [k,.Dict [] [] kQ] [] cx) (some (.Name yn pz)) pos.line X.env=pure false:=by rfl)
  (qy:dQ v (some (.Subscript (.Name yn py) j lS)) iy.line X.env=pure false:=by rfl) :
  PSsX X w ML M (.Assign [.Name yn pz] (.Call (.Attribute (.Name x px) "setdefault" apos) [k,.Dict [] [] kQ] [] cx) pos :: .Assign [.Subscript (.Name yn py) j lS] v iy :: kY) (f7 (R8 i kt kt2 fk fj fv) g) M':=by
 obtain⟨tk,pk,qk⟩:=hk.out;obtain⟨tj,pj,qj⟩:=hj.out;obtain⟨tv,pv,qv⟩:=hv.out;obtain⟨tr,pr,qr⟩:=iA.out;refine .mk ⟨_,Q2 (a6a wy ye vJ (b0u mX mW (a7L hu) (A5 hN qu hd hW) (l3 pk (l3 a4Z r9 qz) hs) eS gO eR hs eA) k_ sV) (Q2 (b3a hu (A5 ye zL vY AF) pj pv qy) pr),fun D ρ σ H P F o S hg kk=>?_⟩;obtain⟨o1,h1,g1⟩:=bnd hg;obtain⟨y0,zF,h1⟩:=bnd h1;obtain⟨a,es,ds,fs,ha,hH,hρ,_⟩:=S.toE.dict hm;rw [hρ] at h1
 let kvs:List (VS.D × VS.D):=(es.map (·.1)).zip ds
 have jZ:(if (B8 kt y0 && decide (kvs.length < 1000000))=true then (fv (ρ.set i (.dict (l0 kvs y0 (.dict []))))).bind fun d=>(fj (ρ.set i (.dict (l0 kvs y0 (.dict []))))).bind fun j=>match D7 (l0 kvs y0 (.dict [])) y0 with
    | some (.dict nH)=>if B8 kt2 j && decide (nH.length < 1000000) then some (Out.nx ((ρ.set i (.dict (l0 kvs y0 (.dict [])))).set i (.dict (v5 (l0 kvs y0 (.dict [])) y0 (.dict (v5 nH j d)))))) else none
    | _=>none
  else none)=some o1:=h1
 by_cases c:(B8 kt y0 && decide (kvs.length < 1000000))=true
 ·rw [aE c] at jZ;obtain⟨d0,AE,jZ⟩:=bnd jZ;obtain⟨j0,pM,jZ⟩:=bnd jZ;rw [aA] at c;have lM:i < ρ.length:=by
   obtain⟨G,q1,_⟩:=S.all;obtain⟨d0,_,_,_,_,z1,_⟩:=q1.at_ hm;exact (ay.mp z1).1
  have Ct:i≠y:=fun z=>by
   subst z;rw [hm] at sL;cases sL
  have ve:y < σ.length:=by
   obtain⟨G,q1,_⟩:=S.all;obtain⟨_,_,_,_,_,_,z1,_⟩:=q1.at_ sL;exact (ay.mp z1).1
  have fin:∀(H1:Hp) (F1:List az) (v1:V) (d1:VS.D) (f1:List az),StR X.K M (ρ.set i (.dict (l0 kvs y0 (.dict [])))) σ H1 P F1→D7 (l0 kvs y0 (.dict [])) y0=some d1→Own X.K H1 F1 (.d kt2 .i) v1 d1 f1→f1.Nodup→(∀b∈f1,b∈F1)→
    (∀(H':Hp) (a:az) (o':MuO) (d':VS.D) (f':List az),Same H1 H'→a∈f1→Own X.K (upd H' a o'.1) F1 (.d kt2 .i) v1 d' f'→(∀b,f'.count b≤f1.count b)→StR X.K M (ρ.set i (.dict (v5 (l0 kvs y0 (.dict [])) y0 d'))) σ (upd H' a o'.1) P F1)→
    tv (σ.set y (some v1)) H1 fun v H2=>∃x,(σ.set y (some v1))[y]?=some (some x)∧tj (σ.set y (some v1)) H2 fun y' H3=>∃a es kt k,x=.ref a∧H3 a=some (i4 a es)∧KeysAt X H3 kt es k y'∧es.length < aT∧tr D (σ.set y (some v1)) (upd H3 a (i4 a (K5 es k y' v))):=by
   intro H1 F1 v1 d1 f1 S1 As ow jT rg cl;have S2:=S1.ded sL (some v1);refine qv _ _ H1 P F1 d0 _ S2.toE AE fun vv H2 e2 r2=>⟨v1,c_ ve,qj _ _ H2 P F1 j0 _ (S2.grow e2).toE pM fun jv H3 e3 r3=>?_⟩
   rw [As] at jZ;obtain⟨a1,qM,ux,Bf,Bj,_,Bs,_⟩:=ow.dict;subst Bj;subst Bs;have lr:(if (B8 kt2 j0 && decide (((qM.map (·.1)).zip ux).length < 1000000))=true then some (Out.nx ((ρ.set i (.dict (l0 kvs y0 (.dict [])))).set i (.dict (v5 (l0 kvs y0 (.dict [])) y0 (.dict (v5 ((qM.map (·.1)).zip ux) j0 d0)))))) else none)=some o1:=jZ;by_cases c2:(B8 kt2 j0 && decide (((qM.map (·.1)).zip ux).length < 1000000))=true
   ·rw [aE c2] at lr;cases lr
    rw [aA] at c2;have S3:=S2.grow (e2.trans e3);obtain⟨tG,zo,_⟩:=r2;obtain⟨rfl,im,dv⟩:=P7 zo;have zp:Own X.K H3 F1 .i vv d0 []:=by
     simp only [Own];exact⟨trivial,im,dv.up (F5 e3)⟩
    have Ao:Den X.K (cut H3 F1) jv j0:=r3.den.imm_out S3.lst j0 (Q6 _ (O3 c2.1).1);obtain⟨es',z1,z2,z3,z4,f',o',AG⟩:=b0P (fv:=[]) (ow.grow (e2.trans e3)) rg (by simpa using jT) (O3 c2.1) Ao zp;refine⟨a1,es',kt2,j0,rfl,z1,keysAt z2 c2.1 r3.den,by rw [z3];exact eY (bh c2.2) (by rw [cV];decide),?_⟩;have S4:=cl H3 a1 ⟨i4 a1 (K5 es' j0 jv vv),trivial⟩ _ f' (e2.trans e3) z4 o' fun b=>by have:=AG b;simpa using this
    have S5:=S4.ded sL (some (.ref a1));refine qr D _ _ _ P F1 o S5 ?_ kk;have g2:g ((ρ.set i (.dict (l0 kvs y0 (.dict [])))).set i (.dict (v5 (l0 kvs y0 (.dict [])) y0 (.dict (v5 ((qM.map (·.1)).zip ux) j0 d0)))))=some o:=g1;rw [jz] at g2;exact g2
   ·rw [aJ c2] at lr;cases lr
  refine⟨.ref a,ha,⟨a,es,rfl,hH⟩,qk ρ σ H P F y0 _ S.toE zF fun kv H1 w1 r1=>fun z hz=>?_⟩;have w2:Same H1 (upd H1 z (i4 z [])):=k9 hz _;have S2:=S.grow (w1.trans w2);have mf:Den X.K (upd H1 z (i4 z [])) kv y0:=r1.den.up w2;have sq:z7 y0=true:=(O3 c.1).1;have xT:∀{es':List (VS.D × V × V)} {gn:List VS.D},ρ.getD i .none=.dict ((es'.map (·.1)).zip gn)→gn.length=es'.length→kvs=(es'.map (·.1)).zip gn∧es'.length < aT:=fun {es' gn} hq hl=>by
   rw [hρ] at hq
   injection hq with hq
   refine⟨hq,?_⟩;have e3:((es'.map (·.1)).zip gn).length=es'.length:=by rw [jH,ae,hl,lH]
   rw [←e3,←hq];exact eY (bh c.2) (by rw [cV];decide)
  cases hK:G0 kvs y0 with
  | true=>
   have qL:l0 kvs y0 (.dict [])=kvs:=by unfold l0;rw [hK];rfl
   have eρ:ρ.set i (.dict kvs)=ρ:=set_same (by rw [←hρ,ai,af lM];rfl);obtain⟨a0,es',gn,t1,t2,t3,t4,t5,t6,t7⟩:=S2.dval (k:=y0) hm (O3 c.1);rw [ha] at t1;cases t1
   obtain⟨ek,mO⟩:=xT t3 t4;refine⟨a,es',kt,y0,kv,.ref z,rfl,rfl,t2,keysAt t5 c.1 mf,mO,fun hf=>?_,fun e he fH=>?_⟩
   ·rw [ek,B0 t4,hf] at hK;cases hK
   ·obtain⟨d1,f1,x1,x2,x3,x4,x5⟩:=t7 e he fH;refine fin _ F e.2.2 d1 f1 (by rw [qL,eρ];exact S2) (by rw [qL,ek];exact x1) x2 x3 x4 fun H' a' o' d' f' mS kP md wG=>?_
    rw [qL,ek];exact x5 H' a' o' d' f' mS kP md wG
  | false=>
   have oz:Own X.K (upd H1 z (i4 z [])) ([z] ++ F) (.d kt2 .i) (.ref z) (.dict []) [z]:=by
    simp only [Own];exact⟨z,[],[],[],rfl,i6,rfl,rfl,⟨bw,fun e he=>(nomatch he)⟩,l7⟩
   have P1:=(S.grow w1).pend.new w2 oz (by simp) fun b hb=>by rw [ar.mp hb];exact hz
   have qL:l0 kvs y0 (.dict [])=kvs ++ [(y0,.dict [])]:=by unfold l0;rw [hK];rfl
   obtain⟨a0,es',gn,tG,t1,t2,t3,t4,t5,t6,t7,t8,t9,yZ⟩:=P1.dnew (k:=y0) (kv:=kv) hm (O3 c.1) mf;rw [ha] at t1;cases t1
   obtain⟨ek,mO⟩:=xT t3 t4;have hE:A9 es' y0=false:=by rw [←B0 t4,←ek];exact hK
   refine⟨a,es',kt,y0,kv,.ref z,rfl,rfl,t2,keysAt t5 c.1 mf,mO,fun hf=>?_,fun e he fH=>?_⟩
   ·obtain⟨z',_,_,jj,ez,zz,_,Br,_⟩:=t7.dict;cases ez
    have xB:z∈tG:=by rw [Br];exact aq
    have zD:z≠a:=(t9 z xB).2;have mR:a∈[z] ++ F:=by
     obtain⟨_,_,PS⟩:=P1;have:=PS.lst;obtain⟨v0,f0,mS,kP,md⟩:=S.toE.get hm;rw [ha] at mS;cases mS
     obtain⟨a9,_,_,_,e9,_,_,f9,_⟩:=kP.dict;cases e9
     exact ao _ (md a (by rw [f9];exact aq))
    have key:=yZ hf;have rZ:Own X.K (upd (upd H1 z (i4 z [])) a (i4 a (es' ++ [(y0,kv,.ref z)]))) ([z] ++ F) (.d kt2 .i) (.ref z) (.dict []) tG:=t7.frame (M8 mR _) _ fun b hb=>g9 (t9 b hb).2
    have mD:upd (upd (upd H1 z (i4 z [])) a (i4 a (es' ++ [(y0,kv,.ref z)]))) z (i4 z [])=upd (upd H1 z (i4 z [])) a (i4 a (es' ++ [(y0,kv,.ref z)])):=b0Q (by rw [g9 zD,i6]);refine fin _ ([z] ++ F) (.ref z) (.dict []) tG ?_ (by rw [qL];exact a0A sq hK) rZ t8 (fun b hb=>(t9 b hb).1) fun H' a' o' d' f' mS kP md wG=>?_
    ·have:=key _ z ⟨i4 z [],trivial⟩ (.dict []) tG (Same.refl _) xB (by rw [mD];exact rZ) fun b=>aD _
     rw [mD,←ek,←qL] at this;exact this
    ·rw [qL,a1X sq hK,ek];exact key H' a' o' d' f' mS kP md wG
   ·exact absurd ((KeysAt.eqv (keysAt t5 c.1 mf) he).mpr fH) (by
     unfold A9 at hE;rw [cH] at hE;exact hE e he)
 ·rw [aJ c] at jZ;cases jZ
end
end VS
namespace VS
open PySem PySem.Spec L2
section
variable {K:ag}{H:Hp}{F:List az}
theorem StR.relist(S:StR K M ρ σ H P F)(hm:M[i]?=some (.own (.l .i)))(hs:σ[i]?=some (some (.ref b)))(hr:ρ.getD i .none=.list ds)(hd:DenAll K (cut H F) zs es)(hi:e6 es=true) :
  StR K M (ρ.set i (.list es)) σ (upd H b (.lst zs)) P F:=by
 obtain⟨G,h1,h2,h3⟩:=S.all;obtain⟨dd,oo,f,pre,post,q1,q2,⟨v2,rfl,q3⟩,rfl,q5⟩:=h1.at_ hm;rw [hs] at q2;cases q2
 rw [v6 q1] at hr;subst hr;simp only [Own] at q3;rcases q3 with⟨_,hx,_⟩|⟨a,xs,gn,fs,ea,hH,_,rfl,hL⟩
 ·simp only [imm] at hx;cases hx
 cases ea
 have tx:b∈F:=h3 b (by simp);have cnt:(pre ++ post).count b=0:=by
  have z:=cA.mp h2 b;simp only [aY,bo,fN] at z ⊢;lia
 have eO:Same (cut H F) (cut (upd H b (.lst zs)) F):=M8 tx _;have o1:Own K (upd H b (.lst zs)) F (.l .i) (.ref b) (.list es) [b]:=by
  simp only [Own];refine .inr ⟨b,zs,es,[],rfl,i6,rfl,rfl,ListAll.of_den (hd.up eO) fun v d hx q=>?_⟩;simp only [Own];exact⟨trivial,z9 hi hx,q⟩
 have q:=q5 (upd H b (.lst zs)) F (.own (.l .i)) (.list es) (some (.ref b)) [b] (fun c hc=>g9 fun z=>by subst z;rw [df] at cnt;exact cnt hc) eO ⟨_,rfl,o1⟩;rw [set_same (l:=σ) hs,set_same (l:=M) hm] at q;refine⟨⟨_,q,F8 h2 fun c=>?_,fun c hc=>h3 c ?_⟩,fun c hc=>?_,S.prot.trans eO⟩
 ·simp only [aY,bo,cR,cu,List.count_nil];lia
 ·simp only [aw,aH,bo,fT,or_false] at hc ⊢;rcases hc with z|z|z
  ·exact .inl z
  ·exact .inr (.inl z)
  ·exact .inr (.inr (.inr (by simpa using z)))
 ·by_cases e:c=b
  ·subst e;exact⟨⟨.lst zs,trivial⟩,i6⟩
  ·obtain⟨ys,y⟩:=S.lst c hc;exact⟨ys,by rw [g9 e];exact y⟩
theorem a0V:∀{ds es:List D} {xs ys:List V},DenAll K H' xs ds→DenAll K H' ys es→DenAll K H' (xs ++ ys) (ds ++ es)
 | [],es,xs,ys,h,h'=>by rw [h.nil_inv];exact h'
 | d :: ds,es,xs,ys,h,h'=>by
  obtain⟨v,r,rfl,h1,h2⟩:=h.cons_inv;exact denAll_cons h1 (a0V h2 h')
theorem a1Y:∀{ds:List D} {xs:List V},DenAll K H' xs ds→DenAll K H' xs.reverse ds.reverse
 | [],xs,h=>by rw [h.nil_inv];exact denAll_nil
 | d :: ds,xs,h=>by
  obtain⟨v,r,rfl,h1,h2⟩:=h.cons_inv;rw [gC,gC];exact a0V (a1Y h2) (denAll_cons h1 denAll_nil)
theorem a6L:∀{ds:List D},e6 ds=true→e6 ds.reverse=true:=fun {ds} h=>by
 have key:∀l:List D,(∀d∈l,imm d=true)→e6 l=true:=by
  intro l
  induction l with
  | nil=>intro _;simp only [e6]
  | cons d l ih=>intro hl;simp only [e6,aA];exact⟨hl d aq,ih fun x hx=>hl x (ah _ hx)⟩
 exact key _ fun d hd=>z9 h (mj.mp hd)
end
def b8A:V→List V→Hp→VK→Prop:=fun x vs H Q=>∃l xs,x=.ref l∧vs=[]∧H l=some (.lst xs)∧Q .non (upd H l (.lst xs.reverse))
def b5N(i:Nat):EvS:=fun ρ=>match ρ.getD i .none with
 | .list ds=>some (.nx (ρ.set i (.list ds.reverse)))
 | _=>none
section
variable {X:Cx}{u w:Ty}{ML M M1:List Md}{e e2:Expr}{f:EvX}{f2:EvE}{c2:Cat}{pos apos cx:eM}{x:bM}{px:eM}
theorem b5O:MtM X "list.reverse" b8A:=by
 intro pins s σ H x vs v us Q I rx rv h;obtain⟨l,xs,rfl,rfl,hH,q⟩:=h;cases rx
 have qx:=rv.zero;subst qx;obtain⟨z,cE,n,r,hl,e⟩:=I.lstM hH;refine tN oE ⟨_,e,rfl⟩ PySem.F.entry_list_reverse (PySem.F.args_list_reverse_1 _) (PySem.AutoSeq1.list_reverse_list_0 l cE.toArray n (by rw [aX];lia)) ⟨e,?_⟩;refine⟨.non,_,I.lset (its':=cE.reverse) (ys:=xs.reverse) hH e (by simp) ?_ (by rw [uD];exact z),rfl,q⟩;have pL:xs.reverse.length=cE.reverse.length:=by simp [hl]
 refine a1m pL fun i x u h1 h2=>?_
 have hi:i < xs.length:=by have:=(ay.mp h1).1;simpa using this
 rw [jR hi] at h1;rw [jR (by lia)] at h2;obtain⟨u',nt,ru⟩:=r.get h1;rw [hl,h2] at nt;cases nt
 exact ru
theorem b5P(i:Nat)(hm:M[i]?=some (.own (.l .i)):=by rfl)(hN:X.N[i]?=some x:=by rfl)(hv:Vis X.env.scope x:=by first|exact bO rfl|exact bQ (bO rfl)|exact bQ (bQ rfl))(hd:(x == ("__debug__":bM))=false:=by decide)
  (hW:(x == ("__classdict__":bM))=false:=by decide) (eS:du (.Name x px) "reverse" X.env (cO (.Name x px) X.env)=cO (.Name x px) X.env:=by rfl) (eR:(apos.endLine == cx.line)=true:=by rfl)
  (k_:dQ (.Call (.Attribute (.Name x px) "reverse" apos) [] [] cx) none pos.line X.env=pure false:=by rfl) :
  PSX X w ML M (.Expr (.Call (.Attribute (.Name x px) "reverse" apos) [] [] cx) pos) (b5N i) M:=by
 refine .mk ⟨_,N4 (b4N dg oE PySem.F.type_list_reverse b5O (A5 hN hv hd hW) eS eR) k_,fun D ρ σ H P F o S hg k=>?_⟩;obtain⟨v,f,qX,ov,hf⟩:=S.toE.get hm;unfold b5N at hg;cases hρ:ρ.getD i .none with
 | list ds=>
  rw [hρ] at hg ov;cases hg
  simp only [Own] at ov;rcases ov with⟨_,hi,_⟩|⟨a,xs,gn,fs,rfl,h1,h2,rfl,h3⟩
  ·simp only [imm] at hi;cases hi
  ·cases h2
   have kq:DenAll X.K (cut H F) xs ds:=ListAll.den (R:=fun v d f=>Own X.K H F .i v d f) (fun v d f q=>(P7 q).2.2) h3;have vT:e6 ds=true:=by
    have:∀{ds:List VS.D} {xs:List V} {fs:List az},ListAll (Own X.K H F .i) xs ds fs→e6 ds=true:=by
     intro ds
     induction ds with
     | nil=>intro _ _ _;simp only [e6]
     | cons d ds ih=>
      intro xs fs h;obtain⟨v,r,f,g,_,_,q1,q2⟩:=h.cons_inv;simp only [e6,aA];exact⟨(P7 q1).2.1,ih q2⟩
    exact this h3
   exact⟨_,qX,.inl ⟨rfl,xs,SqL.of h1⟩,a,xs,rfl,rfl,h1,k σ _ F (S.relist hm qX hρ (a1Y kq) (a6L vT))⟩
 | _=>rw [hρ] at hg;cases hg
end
theorem a3k:∀{ds:List D} {xs:List V} {fs:List az},ListAll (Own K H F (.tp [u1,u2])) xs ds fs→∃ws es gs,ListAll (Own K H F u2) ws es gs∧D9 pt2 tT (a7 1) [] ds=some es∧
  ws.length=xs.length∧(∀(i:Nat) (x:V),xs[i]?=some x→∃t v1 v2,x=V.ref t∧H t=some (.tup [v1,v2])∧ws[i]?=some v2)∧∀b,gs.count b≤fs.count b
 | [],xs,fs,h=>by
  obtain⟨rfl,rfl⟩:=h.nil_inv;exact⟨[],[],[],l7,rfl,rfl,fun i x hx=>by simp at hx,fun b=>aD _⟩
 | d :: ds,xs,fs,h=>by
  obtain⟨v,r,f,g,rfl,rfl,h1,h2⟩:=h.cons_inv;obtain⟨ws,es,gs,a1,a2,a3,a4,a5⟩:=a3k h2;simp only [Own,OwnTs] at h1;obtain⟨t,vs,dd,rfl,hH,_,rfl,v1,r1,d1,e1,f1,g1,rfl,rfl,rfl,o1,v2,r2,d2,e2,f2,g2,rfl,rfl,rfl,o2,rfl,rfl,rfl⟩:=h1;refine⟨v2 :: ws,d2 :: es,f2 ++ gs,k7 o2 a1,?_,by simp [a3],fun i x hx=>?_,fun b=>?_⟩
  ·simp only [D9,pt2,tT,bP,gc];show (D9 pt2 tT (a7 1) [] ds).bind (fun ys=>some (d2 :: ys))=some (d2 :: es);rw [a2];rfl
  ·cases i with
   | zero=>cases hx;exact⟨t,v1,v2,rfl,hH,rfl⟩
   | succ i=>exact a4 i x (by simpa using hx)
  ·have:=a5 b;simp only [aY,List.count_nil];lia
section
variable {X:Cx}{M:List Md}{xn yn:bM}{scope:gA}{a tg:Expr}{pos py:eM}{fa:EvE}{u1 u2:Ty}
theorem a6M(hc:X.calm=true)(ha:PX X M a fa (.new (.l (.tp [u1,u2]))))(C:N6 scope X.env.kindOf [] [] X.N=true)(hg:∀cl Cl s H fp,PG (G7 X ([xn,yn] ++ []) scope cl Cl s H fp) tg (b2j X.K 2 (Y2 (J4 0) (Y2 (J4 1) a9G))))
  (he:∀cl Cl s H fp,PE (G7 X ([xn,yn] ++ []) scope cl Cl s H fp) (.Name yn py) (b2f 1)) (hs:∀x,dR a X.env x=pure x:=by intro _;rfl) :
  PX X M (.ListComp (.Name yn py) [⟨tg,a,[],0⟩] scope pos) (m8 (iL fa) [] pt2 tT (a7 1)) (.new (.l u2)):=by
 obtain⟨ta,pa,qa⟩:=ha.out;refine .mk ⟨_,a4F (te:=b2f 1) hc (a3G pa) C hg (fun _ _ _ _ _=>a7A) he hs,fun ρ σ H P F d Q S hf q=>?_⟩;obtain⟨ds,h1,g1⟩:=bnd hf;obtain⟨d0,h0,hL⟩:=bnd h1;cases F7 hL
 by_cases hz:ds.length≤1000000
 ·rw [aE hz] at g1;obtain⟨res,h2,g2⟩:=bnd g1;cases g2
  refine qa ρ σ H P F _ _ S h0 fun v H1 e1 ⟨fp,o,nd,fr⟩=>?_
  simp only [Own] at o;rcases o with⟨_,hi,_⟩|⟨aa,xs,gn,fs,rfl,hH,hd,rfl,dN⟩
  ·simp only [imm] at hi;cases hi
  cases hd
  obtain⟨ws,es,gs,a1,a2,a3,a4,a5⟩:=a3k dN;have uA:D9 pt2 tT (a7 1) (([]:List Nat).map fun j=>ρ.getD j .none) ds=some es:=a2;rw [uA] at h2;cases h2
  have pG:xs.length≤1000000:=by rw [dN.length];exact hz
  refine⟨aa,rfl,⟨xs,SqL.of hH⟩,fun Dl hD=>?_⟩;have Cv:aa≠Dl:=fun z=>by rw [z,hD] at hH;cases hH
  have pH:∀(ys:List V) (b:az) (o:HO),H1 b=some o→upd H1 Dl (.lst ys) b=some o:=fun ys b o hb=>by
   rw [g9 fun z=>by rw [z,hD] at hb;cases hb];exact hb
  refine a2Z (J8 (xs:=xs)) (fun i ys σ' H'=>σ'.length=2∧H'=upd H1 Dl (.lst ys)∧ys=ws.take i) ⟨rfl,rfl,by rw [og]⟩ ?_ ?_ ?_
  ·rintro i ys σ' H' ⟨_,rfl,_⟩;exact SqL.of (pH ys aa _ hH)
  ·rintro i x ys σ' H' ot ⟨mE,rfl,rfl⟩;obtain⟨t,v1,v2,rfl,ht,hw⟩:=a4 i x ot;have lM:i < ws.length:=(ay.mp hw).1
   match σ',mE with
   | [o1,o2],_=>
    refine⟨t,[v1,v2],rfl,SqT.of (pH _ t _ ht),rfl,v1,[v2],rfl,v2,[],rfl,rfl,?_⟩;simp only [b6J,gc];refine⟨v2,rfl,i6,?_,rfl,?_,?_⟩
    ·rw [gT];refine kS (bI (jo _ _) (by rw [a3];exact pG)) ?_;rw [cV];decide
    ·rw [a7u]
    ·rw [List.take_succ,hw];rfl
  ·rintro ys σ' H' ⟨_,rfl,rfl⟩;rw [jy (Nat.le_of_eq a3)];have sub:∀b∈gs,b∈fs:=fun b hb=>cB.mp (bF (cB.mpr hb) (a5 b))
   have hfl:∀b∈gs,∃ys:MuO,H1 b=some ys.1:=fun b hb=>a1.lst (u:=u2) (fun v d f q=>q.lst u2) b hb
   have AX:Dl∉gs:=fun z=>by obtain⟨ys,w⟩:=hfl Dl z;rw [hD] at w;cases w
   have rj:Same (cut H1 (aa :: fs ++ F)) (cut (upd H1 Dl (.lst ws)) (Dl :: gs ++ F)):=fun b o hb=>by
    obtain⟨n1,n2⟩:=l5 hb;have AO:b≠Dl:=fun z=>by rw [z,hD] at n2;cases n2
    refine w9 (fun z=>?_) (pH ws b o n2);rcases aw.mp z with z|z
    ·rcases aH.mp z with z|z
     ·exact AO z
     ·exact n1 (av _ (ah _ (sub b z)))
    ·exact n1 (ao _ z)
   refine q (.ref Dl) _ (e1.trans (k9 hD _)) ⟨Dl :: gs,?_,bJ.mpr ⟨AX,F8 (bJ.mp nd).2 a5⟩,fun b hb=>?_⟩
   ·simp only [Own];refine .inr ⟨Dl,ws,_,gs,rfl,i6,rfl,rfl,j8 rj a1 fun b hb=>?_⟩;obtain⟨ys,w⟩:=hfl b hb;rw [w];exact pH ws b _ w
   ·rcases aH.mp hb with z|z
    ·rw [z];exact e1.free hD
    ·exact fr b (ah _ (sub b z))
 ·rw [aJ hz] at g1;cases g1
end
end VS
namespace VS
open PySem PySem.Spec L2
def b0R(z:az)(j:Int):HO:=.ext fun h=>∃t u v,IsRange h z 0 j 1 t u v
section
variable {X:Cx}{M ML:List Md}{a:Expr}{fa:EvE}{ca:Cat}{w:Ty}{pos iy p p2:eM}
theorem a5j:CallR X (.type "range") (fun xs H Q=>∃j,xs=[.int j]∧∀z,H z=none→Q (.ref z) (upd H z (b0R z j))):=by
 intro pins s σ H xs us Q I rv h;obtain⟨j,rfl,q⟩:=h;obtain⟨u,rfl,rx⟩:=vals1 rv;obtain⟨t,rfl⟩:=rx;refine call_range_1 ⟨.ref s.heap.objs.size,_,I.laid (a:=s.heap.objs.size) (o:=b0R s.heap.objs.size j) (t':=s.toks + 1 + 1) (fun _ _ q=>aC _ q) (aD _) ?_,rfl,q _ (I.hok.fresh (aD _))⟩;exact⟨⟨_,_,_,IsRange.new ..⟩,⟨_,aV _ rfl⟩,fun x1 x2 ⟨t,u,v,ho⟩ hk=>⟨t,u,v,hk _ ho⟩⟩
theorem a6N(hc:X.calm=true):CallR X (.type "list") (fun xs H Q=>∃p j,xs=[.ref p]∧H p=some (b0R p j)∧-(2 ^ 62)≤j∧j≤1000000∧∀l,H l=none→Q (.ref l) (upd H l (.lst ((aG j.toNat).map fun (k:Nat)=>V.int (0 + k))))):=by
 intro pins s σ H xs us Q I rv h;obtain⟨p,j,rfl,hH,h1,h2,q⟩:=h;obtain⟨u,rfl,rx⟩:=vals1 rv;cases (show u=a_ p from rx)
 obtain⟨t,u,v,hr⟩:=(show ObjOk X.prog X.w H s.heap p (b0R p j) from I.hok p _ hH).1;have hn:yM 0 j 1=j.toNat:=by rw [rangeSize_one];split <;> lia
 refine call_list_range (n:=j.toNat) (I.ok.hd hc) hr (small_one (by decide) (by decide) h1 (by lia)) hn (by lia) fun h' tk acc c hk ho i_=>?_
 have hz:aT=16777216:=cV;refine⟨.ref s.heap.objs.size,_,I.laid (t':=tk) hk (aD _) (show ObjOk X.prog X.w _ h' _ (.lst ((aG j.toNat).map fun (k:Nat)=>V.int (0 + k))) from⟨by rw [ae,bz];lia,acc.toList,c,?_,by rw [Array.toArray_toList];exact ho⟩),rfl,q _ (I.hok.fresh (aD _))⟩;refine a1m (by rw [ae,bz,bL];exact i_.1.symm) fun i x u g1 g2=>?_
 rw [bg] at g2;obtain⟨t',rfl⟩:=i_.2 i u g2;rw [aN] at g1;have hi:i < j.toNat:=by have:=(Array.getElem?_eq_some_iff.mp g2).1;rw [i_.1] at this;exact this
 rw [eQ hi] at g1;cases g1
 exact⟨t',by simp⟩
def a1Z(a:EvE):EvE:=fun ρ=>(a ρ).bind fun d=>(asI d).bind fun n=>if -(2 ^ 62)≤n∧n≤1000000 then some (.list (A6 0 n.toNat)) else none
theorem a5k(hc:X.calm=true)(hm:X.mg "list"=none)(Af:X.mg "range"=none)(ha:PX X M a fa ca)(hg:Gl X "list":=by rfl)(sS:Gl X "range":=by rfl)(he:aF [a] X.env=(false,cO a X.env) :: aF [] X.env:=by rfl)(gG:(cP iy (aF [] X.env)).any (·.1)=false:=by rfl)
  (nP:aF [.Call (.Name "range" p2) [a] [] iy] X.env=(false,cO (.Call (.Name "range" p2) [a] [] iy) X.env) :: aF [] X.env:=by rfl) (qB:(cP pos (aF [] X.env)).any (·.1)=false:=by rfl) :
  PX X M (.Call (.Name "list" p) [.Call (.Name "range" p2) [a] [] iy] [] pos) (a1Z fa) (.new (.l .i)):=by
 obtain⟨ta,pa,qa⟩:=ha.out;refine .mk ⟨_,L6 (a6N hc) hg hm PyProof.Rows.Boot.«list» (l3 (L6 a5j sS Af PyProof.Rows.boot_range (l3 pa r9 he) (by decide) (by decide) he gG) r9 nP) (by decide) (by decide) nP qB,fun ρ σ H P F d Q S hf q=>?_⟩;obtain⟨x,h1,g1⟩:=bnd hf;obtain⟨n,h2,g2⟩:=bnd g1;cases Q9 h2
 by_cases c:-(2 ^ 62)≤n∧n≤1000000
 ·rw [aE c] at g2;cases g2
  refine qa ρ σ H P F _ _ S h1 fun v H1 e1 r1=>⟨n,by rw [r1.den.int_inv],fun z hz=>⟨z,n,rfl,i6,c.1,c.2,fun l hl=>?_⟩⟩
  have e2:=e1.trans (k9 hz (b0R z n));exact q _ _ (e2.trans (k9 hl _)) (U4 a2Y (Y8 _ _) e2 hl (S.lst' e2))
 ·rw [aJ c] at g2;cases g2
theorem b3h(i:Nat){apos cx px:eM}(he:PX X M e f (.bor (.l .i)))(hm:M[i]?=some (.own (.l .i)):=by rfl)(hN:X.N[i]?=some x:=by rfl)(hv:Vis X.env.scope x:=by first|exact bO rfl|exact bQ (bO rfl)|exact bQ (bQ rfl))(hd:(x == ("__debug__":bM))=false:=by decide)
  (hW:(x == ("__classdict__":bM))=false:=by decide)
  (eS:du (.Name x px) "extend" X.env (cO (.Name x px) X.env)=cO (.Name x px) X.env:=by rfl)
  (gO:((cP cx (aF [e] X.env)).all (fun x=>!x.1) && (iC cx (fy [] X.env)).all (fun x=>x.1.isSome)
   && decide ([e].length + ([]:List ei).length + (if ([]:List ei).isEmpty then 0 else 1) < 30))=true:=by rfl)
  (eR:(apos.endLine == cx.line)=true:=by rfl) (hs:aF [e] X.env=(false,cO e X.env) :: aF [] X.env:=by rfl) (eA:(cP cx (aF [] X.env)).any (·.1)=false:=by rfl)
  (k_:dQ (.Call (.Attribute (.Name x px) "extend" apos) [e] [] cx) none pos.line X.env=pure false:=by rfl) :
  PSX X w ML M (.Expr (.Call (.Attribute (.Name x px) "extend" apos) [e] [] cx) pos) (a8T i f) M:=by
 obtain⟨te,pe,qe⟩:=he.out;refine .mk ⟨_,N4 (a2M dg oY oX a2N (A5 hN hv hd hW) (l3 pe r9 hs) eS gO eR hs eA) k_,fun D ρ σ H P F o S hg k=>?_⟩;obtain⟨d,h3,g3⟩:=bnd hg;obtain⟨v0,f0,e0,o0,rP⟩:=S.toE.get hm;cases d with
 | list es=>
  cases hr:ρ.getD i iJ with
  | list ds=>
   rw [hr] at g3 o0;have md:(if e6 es && decide (ds.length + es.length≤1000000) then some (Out.nx (ρ.set i (.list (ds ++ es)))) else none)=some o:=g3;by_cases c:(e6 es && decide (ds.length + es.length≤1000000))=true
   ·rw [aE c] at md;cases md
    rw [aA] at c;have c2:=bh c.2;simp only [Own] at o0;rcases o0 with⟨_,hi,_⟩|⟨b,xs,gn,fs,rfl,hH,ir,rfl,hL⟩
    ·simp only [imm] at hi;cases hi
    cases ir
    have tx:b∈F:=rP b aq;refine⟨.ref b,e0,.inl ⟨rfl,xs,SqL.of hH⟩,qe ρ σ H P F _ _ S.toE h3 fun v1 H1 e1 ⟨fp,o1,y_⟩=>?_⟩;have S1:=S.grow e1;simp only [Own] at o1;rcases o1 with⟨_,hi,_⟩|⟨b1,zs,es',Bf,rfl,ur,oA,rfl,yi⟩
    ·simp only [imm] at hi;cases hi
    cases oA
    have kq:DenAll X.K (cut H1 F) zs es:=ListAll.den (R:=fun v d f=>Own X.K H1 F .i v d f) (fun v d f q=>(P7 q).2.2) yi;have zR:ρ[i]?=some (.list ds):=by
     rw [ai] at hr;cases q:ρ[i]? with
     | none=>rw [q] at hr;cases hr
     | some x=>rw [q] at hr;exact eG some hr
    have lz:zs.length=es.length:=yi.length;have lx:xs.length=ds.length:=hL.length;have hz:aT=16777216:=cV;refine⟨b,b1,xs,zs,rfl,rfl,e1 _ _ hH,ur,by lia,?_⟩;exact k σ _ _ (StR.ext hm e0 tx zs es ρ H1 ds xs S1 kq c.1 zR (e1 _ _ hH) lx)
   ·rw [aJ c] at md;cases md
  | _=>rw [hr] at g3;cases g3
 | _=>cases g3
end
end VS
namespace VS
open PySem PySem.Spec L2
theorem b8B:∀{us:List α},us.length=1→∃a,us=[a]
 | [a],_=>⟨a,rfl⟩
theorem len2:∀{us:List α},us.length=2→∃a b,us=[a,b]
 | [a,b],_=>⟨a,b,rfl⟩
theorem b8C:∀{us:List α},us.length=3→∃a b c,us=[a,b,c]
 | [a,b,c],_=>⟨a,b,c,rfl⟩
theorem b8D:∀{us:List α},us.length=4→∃a b c d,us=[a,b,c,d]
 | [a,b,c,d],_=>⟨a,b,c,d,rfl⟩
theorem b8E:∀{us:List α},us.length=5→∃a b c d e,us=[a,b,c,d,e]
 | [a,b,c,d,e],_=>⟨a,b,c,d,e,rfl⟩
theorem b8F:∀{us:List α},us.length=6→∃a b c d e f,us=[a,b,c,d,e,f]
 | [a,b,c,d,e,f],_=>⟨a,b,c,d,e,f,rfl⟩
end VS
namespace VS
open PySem PySem.Spec L2
section
variable {X:Cx}{M ML:List Md}{iter tg c0:Expr}{f:EvE}{fc:EvT}{u1 u2:Ty}{y:bM}{py uL uZ pos:eM}
theorem a9b(i j:Nat)(hc:X.calm=true)(hp:oZ (bc X.prog X.w) X.A X.env X.xe)(hi:PX X M iter f (.new (.l (.tp [u1,u2]))))(hg:PG X tg (b2j X.K 2 (Y2 (J4 i) (Y2 (J4 j) a9G))))(ht:PTX X ((M.set i (.own .f)).set j (.own .f)) c0 fc)
  (kW:i≠j:=by decide) (nv:M[i]?=some .dead:=by rfl) (qG:M[j]?=some .dead:=by rfl) (wx:X.N[j]?=some y:=by rfl) (vn:Vis X.env.scope y:=by first|exact bO rfl|exact bQ (bO rfl)|exact bQ (bQ rfl)) (wb:(y == ("__debug__":bM))=false:=by decide)
  (we:(y == ("__classdict__":bM))=false:=by decide) (hf:∀x,dR iter X.env x=pure x:=by intro _;rfl) :
  PSX X u2 ML M (.For tg iter [.If c0 [.Return (some (.Name y py)) uL] [] uZ] [] pos) (D5 (iL f) (a6q i j) (sIf fc (l6 (a7 j)) u3)) M:=by
 obtain⟨ti,pi,qi⟩:=hi.out;obtain⟨tc,pc,qc⟩:=ht.out;refine .mk ⟨_,a9K hp hc (a3G pi) hg (a3F (b3R pc (a3F (a9E (A5 wx vn wb we))) a7x)) hf,fun D ρ σ H P F o S sT k=>?_⟩;obtain⟨ds,h1,g1⟩:=bnd sT;obtain⟨d0,h0,Bb⟩:=bnd (show (f ρ).bind _=some ds from h1);cases F7 Bb
 refine qi ρ σ H P F (.list ds) _ S.toE h0 fun v H1 e1 ⟨fp,ow,nd,fr⟩=>?_
 simp only [Own] at ow;rcases ow with⟨_,gL,_⟩|⟨a,xs,gn,fs,rfl,ur,e,rfl,dN⟩
 ·simp only [imm] at gL;cases gL
 cases e
 have dN:ListAll (Own X.K H1 (a :: fs ++ F) (.tp [u1,u2])) xs ds fs:=by
  have e9:(Own X.K H1 (a :: fs ++ F) (.tp [u1,u2]))=fun x yT yS=>∃wN xs ds,x=V.ref wN∧H1 wN=some (HO.tup xs)∧¬wN∈a :: fs ++ F∧yT=nZ ds∧OwnTs X.K H1 (a :: fs ++ F) [u1,u2] xs ds yS:=by
   funext x y z
   simp only [Own]
  rw [e9];exact dN
 have S1:=S.grow e1;have pG:xs.length=ds.length:=dN.length;have uu:∀b∈a :: fs,b∉F:=fun b hb hF=>by
  obtain⟨ys,q⟩:=S.lst b hF;rw [fr b hb] at q;cases q
 refine⟨a,rfl,⟨xs,SqL.of ur⟩,?_⟩;refine⟨fun n mm σ' H'=>mm=xs.length - n∧n≤xs.length∧∃ρ' F',StR X.K M ρ' σ' H' (cut H1 F) F'∧R4 (a6q i j) (sIf fc (l6 (a7 j)) u3) (ds.drop n) ρ'=some o,⟨xs.length,by simp,bC _,ρ,F,⟨S1.all,S1.lst,Same.refl _⟩,g1⟩,?_⟩;rintro n mm σ' H' ⟨rfl,hn,ρ',F',S',hfl⟩;have kG:Same (cut H1 F) (cut H' F'):=S'.prot;have keep:∀b o',b∉F→H1 b=some o'→cut H' F' b=some o':=fun b o' hb ho=>kG b o' (w9 hb ho)
 have ro:H' a=some (.lst xs):=(l5 (keep a _ (uu a aq) ur)).2;by_cases iS:n < xs.length
 ·refine .inr ⟨J8.go n H' (SqL.of ro) iS,fun σ2 H2=>∃ρ2 F2,StR X.K M ρ2 σ2 H2 (cut H1 F) F2∧R4 (a6q i j) (sIf fc (l6 (a7 j)) u3) (ds.drop (n + 1)) ρ2=some o,fun σ2 H2 ⟨ρ2,F2,S2,h2⟩=>⟨xs.length - (n + 1),by lia,rfl,iS,ρ2,F2,S2,h2⟩,fun x H2 hy=>?_⟩;obtain⟨rfl,ot⟩:=J8.yld n H' x H2 (SqL.of ro) iS hy;have lM:n < ds.length:=by lia
  rw [fW lM] at hfl;obtain⟨ρ1,q_,g2⟩:=bnd (show (a6q i j ρ' ds[n]).bind _=some o from hfl);obtain⟨o1,hg1,g3⟩:=bnd g2;obtain⟨v',f',pre,post,z1,z2,me,zC⟩:=dN.zip (af lM);clear zC;rw [ot] at z1;cases z1
  generalize ds[n]=dn at q_ z2;obtain⟨⟨d1,d2⟩,h2,kP⟩:=bnd q_;cases kP
  have AD:dn=.tuple [d1,d2]:=by
   match dn,h2 with
   | .tuple [a,b],h2=>cases h2;rfl
  subst AD;simp only [Own,OwnTs] at z2;obtain⟨a2,BN,CB,rfl,k1,k0,e0,v1,r,By,e',f1,oD,rfl,e2,rfl,zm,v2,r2,Bx,Bu,f2,oC,rfl,e3,rfl,uM,rfl,rfl,rfl⟩:=z2;cases e0
  cases e2
  cases e3
  have wq:a2∉F:=fun z=>k0 (ao _ z)
  have sW:∀b∈f1,b∈a :: fs:=fun b hb=>ah _ (by rw [me];simp [hb])
  have ui:∀b∈f2,b∈a :: fs:=fun b hb=>ah _ (by rw [me];simp [hb])
  have Bw:Own X.K H2 F' .f v1 d1 []:=by
   have q:=zm.freeze (F':=F) (fun b hb=>ao _ hb) (fun b hb=>uu b (sW b hb));exact q.frame kG _ fun b hb=>(nomatch hb)
  have Bv:Own X.K H2 F' .f v2 d2 []:=by
   have q:=uM.freeze (F':=F) (fun b hb=>ao _ hb) (fun b hb=>uu b (ui b hb));exact q.frame kG _ fun b hb=>(nomatch hb)
  refine⟨a2,_,rfl,SqT.of (l5 (keep a2 _ wq k1)).2,rfl,v1,[v2],rfl,v2,[],rfl,rfl,?_⟩;have T1:=S'.set (i:=i) (fp:=[]) nv (Same.refl _) Bw bw fun a ha=>(nomatch ha)
  have T2:=T1.set (i:=j) (m:=.dead) (fp:=[]) (by rw [cX kW];exact qG) (Same.refl _) Bv bw fun a ha=>(nomatch ha)
  have ox:j < σ'.length:=by
   obtain⟨G,q1,_⟩:=S'.all;obtain⟨_,_,_,_,_,_,z1,_⟩:=q1.at_ qG;exact (ay.mp z1).1
  have An:j < ρ'.length:=by
   obtain⟨G,q1,_⟩:=S'.all;obtain⟨_,_,_,_,_,z1,_⟩:=q1.at_ qG;exact (ay.mp z1).1
  obtain⟨b,hb,g4⟩:=bnd (show (fc ((ρ'.set i d1).set j d2)).bind _=some o1 from hg1);refine qc _ _ H2 (cut H1 F) F' b _ T2.toE hb fun H3 e3=>?_
  cases b with
  | true=>
   have g5:(some (Out.rt (((ρ'.set i d1).set j d2).getD j .none)))=some o1:=g4;rw [v6 (c_ (by rw [CJ];exact An))] at g5;cases g5
   have g6:(some (Out.rt d2))=some o:=g3;cases g6
   refine a3N ⟨v2,c_ (by rw [CJ];exact ox),k v2 H3 f2 (uM.frame (fun b o' hb=>?_) _ fun b hb=>?_) ?_ (fun b hb=>?_) fun b o' hb=>?_⟩
   ·obtain⟨n1,n2⟩:=l5 hb;refine w9 (fun z=>n1 (av _ (ui b z))) (e3 _ _ (l5 (keep b o' (fun z=>n1 (ao _ z)) n2)).2)
   ·obtain⟨ys,q⟩:=uM.lst _ b hb;rw [q];exact e3 _ _ (l5 (keep b _ (uu b (ui b hb)) q)).2
   ·have:=(bJ.mp nd).2;rw [me] at this;exact this.sublist (((pq f2 []).trans (iU f1 _)).trans ((pq _ post).trans (iU pre _)))
   ·cases hP:P b with
    | none=>rfl
    | some o'=>
     have:=(l5 (S.prot b o' hP)).2;rw [fr b (ui b hb)] at this;cases this
   ·obtain⟨n1,n2⟩:=l5 (S.prot b o' hb);exact e3 _ _ (l5 (keep b o' n1 (e1 _ _ n2))).2
  | false=>
   have g5:(some (Out.nx ((ρ'.set i d1).set j d2)))=some o1:=g4;cases g5
   have U1:=S'.kill nv d1 (some v1);rw [set_same (l:=M) nv] at U1;have U2:=U1.kill qG d2 (some v2);rw [set_same (l:=M) qG] at U2;exact a3M ⟨_,F',U2.grow e3,g3⟩
 ·have e:n=xs.length:=by lia
  subst e;rw [pG,mq] at hfl;have:o=.nx ρ':=(aP hfl).symm;subst this;exact .inl ⟨J8.stop _ H' (SqL.of ro) (aD _),k σ' H' F' ⟨S'.all,S'.lst,S1.prot.trans S'.prot⟩⟩
end
end VS
namespace VS
open PySem PySem.Spec L2
open PyProof.Rows (KeyOrd SortKind SortSt keyKind' keyLt' seqObj listItems_at listUpdate_at seqEpoch_at arrOf failedOf get?_update_seq general' size_push' ksk_end ksk_tail)
open PySem.W (kas_sort kas_ask kas_item kat_run kat_snds)
section
variable {prog:bB}{w:bU}{A:bT}{E:aj→au→Prop}{sh:au}{vs ks:List aj}{κ:lP}{O:KeyOrd}{key:Nat→O.α}{R:cm→Prop}
structure SortableR (prog:bB) (w:bU) (A:bT) (R:cm→Prop) (ks:List aj) (κ:lP) (O:KeyOrd) (key:Nat→O.α):Prop where
 kind:2≤ks.length→∀(s:au) (E:aj→au→Prop) (Q:lP→au→Prop),R s.heap→Q κ s→aQ (bc prog w) A (keyKind' ks.toArray) Q E s
 lt:∀(s:au) (i j:Nat) (C:Bool→au→Prop),R s.heap→i < ks.length→j < ks.length→C (O.blt (key i) (key j)) s→aQ (bc prog w) A (keyLt' κ (ks.getD i bE) (ks.getD j bE)) C (fun _ _=>False) s
end
end VS
namespace VS
open PySem PySem.Spec L2 PyProof.Rows
structure LamScope (N ps ys:List bM) (sc:gA) (cl:List (bM × az)):Prop where
 kind:sc.kind=.function
 co:sc.isCoroutine=false
 gen:sc.isGenerator=false
 nd:N.Nodup
 pre:N=ps ++ ys
 par:∀x∈ps,sc.names.lookup x=some .local
 fre:∀y∈ys,sc.names.lookup y=some .free
 ncell:∀x∈sc.names,x.2≠.cell
 has:(sc.names.all fun x=>x.2 != .free || (cl.lookup x.1).isSome)=true
end VS
namespace VS
open PySem
abbrev Up(xs:List Nat):Prop:=xs.Pairwise (· < ·)
def AtB(xs:List Nat)(j p:Nat):Prop:=p≤xs.length∧(∀i (h:i < xs.length),i < p→xs[i] < j)∧∀i (h:i < xs.length),p≤i→¬ xs[i] < j
theorem W2(h:Up xs)(hk:k < xs.length)(hi:i < k):xs[i] < xs[k]:=iV.mp h i k (by lia) hk hi
theorem AtB.uniq(a:AtB xs j p)(b:AtB xs j q):p=q:=by
 rcases lI p q with c|c|c
 ·exact absurd (b.2.1 p (by have:=b.1;lia) c) (a.2.2 p (by have:=b.1;lia) (aD _))
 ·exact c
 ·exact absurd (a.2.1 q (by have:=a.1;lia) c) (b.2.2 q (by have:=a.1;lia) (aD _))
theorem b0S{xs:Array Nat}(hs:Up xs.toList):∀(f lo hi:Nat),lo≤hi→hi≤xs.size→hi≤lo + f→(∀i (h:i < xs.toList.length),i < lo→xs.toList[i] < j)→(∀i (h:i < xs.toList.length),hi≤i→¬ xs.toList[i] < j)→
  AtB xs.toList j (nX xs j f lo hi):=by
 intro f
 induction f with
 | zero=>
  intro lo hi h1 h2 h3 a b;have e:lo=hi:=by lia
  subst e;rw [nX];exact⟨by simpa using h2,a,b⟩
 | succ f ih=>
  intro lo hi h1 h2 h3 a b;rw [nX];by_cases c:lo < hi
  ·rw [aE c];have hm:(lo + hi) / 2 < xs.size:=by lia
   have rd:(lo + hi) / 2 < xs.toList.length:=by simpa using hm
   have eg:xs.getD ((lo + hi) / 2) j=xs.toList[(lo + hi) / 2]:=by simp [iO,hm]
   simp only [eg];by_cases d:xs.toList[(lo + hi) / 2] < j
   ·rw [aE d];refine ih _ _ (by lia) h2 (by lia) (fun i gL hl=>?_) b;rcases bZ i ((lo + hi) / 2) with z|z
    ·exact eY (W2 hs rd z) d
    ·have:i=(lo + hi) / 2:=by lia
     subst this;exact d
   ·rw [aJ d];refine ih _ _ (by lia) (by lia) (by lia) a (fun i gL hl=>?_);rcases bZ ((lo + hi) / 2) i with z|z
    ·have:=W2 hs gL z;lia
    ·have:i=(lo + hi) / 2:=by lia
     subst this;exact d
  ·rw [aJ c];have e:lo=hi:=by lia
   subst e;exact⟨by simpa using h2,a,b⟩
theorem below_at{xs:Array Nat}(hs:Up xs.toList)(j:Nat):AtB xs.toList j (dy xs j):=by
 unfold dy;exact b0S hs _ _ _ (bC _) (aD _) (by lia) (fun i _ h=>by lia) (fun i h h'=>by simp at h;lia)
theorem a6O{xs:Array Nat}(hs:Up xs.toList):dy xs 0=0:=(below_at hs 0).uniq ⟨bC _,fun _ _ h=>by lia,fun _ _ _=>by lia⟩
theorem a6P{xs:Array Nat}(hs:Up xs.toList)(hi:i < xs.toList.length):dy xs (xs.toList[i] + 1)=i + 1:=by
 refine (below_at hs _).uniq ⟨hi,fun k hk h=>?_,fun k hk h=>?_⟩
 ·rcases bZ k i with z|z
  ·have:=W2 hs hi z;lia
  ·have:k=i:=by lia
   subst this;lia
 ·have:=W2 hs hk (show i < k by lia);lia
theorem b5Q(hs:Up xs)(h:AtB xs j p)(hj:j∉xs):Up (xs.take p ++ j :: xs.drop p):=by
 have h1:∀x∈xs.take p,x < j:=fun x hx=>by
  obtain⟨i,hi,rfl⟩:=fK.mp hx;rw [gT] at hi;rw [List.getElem_take];exact h.2.1 i (by lia) (by lia)
 have h2:∀x∈xs.drop p,j < x:=fun x hx=>by
  obtain⟨i,hi,rfl⟩:=fK.mp hx;rw [BI] at hi;have z:=h.2.2 (p + i) (by lia) (by lia);rw [List.getElem_drop];have:xs[p + i]'(by lia)≠j:=fun e=>hj (e ▸ cS _)
  lia
 rw [Up,List.pairwise_append,iN];refine⟨hs.take,⟨h2,hs.drop⟩,fun a ha b hb=>?_⟩;rcases aH.mp hb with rfl|hb
 ·exact h1 a ha
 ·exact eY (h1 a ha) (h2 b hb)
theorem a4i(f:Nat→Option Nat):Up (((aG n).filterMap fun j=>(f j).map (j,·)).map (·.1)):=by
 rw [Up,iZ,List.pairwise_filterMap];refine List.pairwise_lt_range.imp fun {a b} wo x hx y hy=>?_
 obtain⟨_,_,rfl⟩:=cZ.mp hx;obtain⟨_,_,rfl⟩:=cZ.mp hy;exact wo
end VS
namespace VS
open PySem PySem.Spec L2
def B3(w:bU)(o:eW)(es:Array (Int × aj))(ep:Nat)(t:eH)(P:Prop):Prop:=
 o.ExactSet∧o.data=.set es ep t∧t.fits es.size=true∧Up t.place.toList∧t.led=!w.params.followText "set-order"∧es.size < scanBound∧P
end VS
namespace VS
open PySem PySem.Spec L2
section
variable {prog:bB}{w:bU}{A:bT}{E:aj→au→Prop}{sh:au}
def a2a(w:bU):eW:={cls:=.type "set",dict:=none,data:=.set #[] 0 (.fresh 0 0 (!w.params.followText "set-order"))}
theorem b3i(a:aj)(h:Q (.ref sh.heap.objs.size) {sh with heap:=sh.heap.push (a2a w)}) :
  jF (bc prog w) A (.call (.builtin "set.__new__") ⟨[.type "set",a],[]⟩) (wants Q E) sh:=by
 refine codeAny_of_tree (show aQ _ A.in1 (checkBuiltinCall "set.__new__" ⟨[.type "set",a],[]⟩ >>= fun _=>again (.builtin "set.__new__" ⟨[.type "set",a],[]⟩)) _ _ sh from ?_);refine ab (wpAny_of_eq (by exact F.newCall_set_1 a) (ak ⟨iq (by exact F.plain_set_new) _,eP (by exact F.entry_set_new) ?_⟩));rw [dM (by exact F.plain_set_new) _];unfold Builtin.«set.__new__»;unfold Builtin.Frozenset.newClass;have lW:=@sub_set_self;obtain⟨hp,g,d,tk,os⟩:=sh
 dsimp only
 wp_walk
 refine oH (ak (by
  dsimp only
  simp only [newObj];exact ab (wpAny_alloc (ak (ak h)))))
end
end VS
namespace PySem.F
theorem entry_set_iterA:entryFor table "set.__iter__"=some Builtin.«frozenset.__iter__»:=entryFor_alias (id':="frozenset.__iter__") (by kernel_rfl) rfl (by decide +kernel) (by kernel_rfl)
theorem slot_sit_next:Slot "set_iterator" "__next__" "set_iterator.__next__":=Slot.of (owner:="set_iterator") (n:="__next__") (by rw [typeLookup_type,CD];kernel_rfl) (by decide +kernel) (by decide +kernel) (by decide +kernel) (by first|exact .inl (by decide +kernel)|exact .inr (by decide +kernel)) (by rw [sg];kernel_rfl)
theorem entry_sit_next:entryFor table "set_iterator.__next__"=some Builtin.«set_iterator.__next__»:=entryFor_of_tree (by kernel_rfl)
theorem a3l:Manifest.owners.lookup (String.ofList ['r','o','t','a','r','e','t','i','_','t','e','s'].reverse)=some Manifest.sig_set_iterator:=by kernel_rfl
theorem args_sit_next(a:aj):argsOk "set_iterator.__next__" ⟨[a],[]⟩:=by
 unfold argsOk;rw [signature?_of (id:="set_iterator.__next__") (n:=['_','_','t','x','e','n','_','_']) (o:=['r','o','t','a','r','e','t','i','_','t','e','s']) (by kernel_rfl) (by exact a3l)];kernel_rfl
theorem slot_sit_iter:Slot "set_iterator" "__iter__" "set_iterator.__iter__":=Slot.of (owner:="set_iterator") (n:="__iter__") (by rw [typeLookup_type,CD];kernel_rfl) (by decide +kernel) (by decide +kernel) (by decide +kernel) (by first|exact .inl (by decide +kernel)|exact .inr (by decide +kernel)) (by rw [sg];kernel_rfl)
theorem args_sit_iter(a:aj):argsOk "set_iterator.__iter__" ⟨[a],[]⟩:=by
 unfold argsOk;rw [signature?_of (id:="set_iterator.__iter__") (n:=['_','_','r','e','t','i','_','_']) (o:=['r','o','t','a','r','e','t','i','_','t','e','s']) (by kernel_rfl) (by exact a3l)];kernel_rfl
theorem entry_sit_iter:entryFor table "set_iterator.__iter__"=some Builtin.«dict_keyiterator.__iter__»:=entryFor_alias (id':="dict_keyiterator.__iter__") (by kernel_rfl) rfl (by decide +kernel) (by kernel_rfl)
end PySem.F
namespace VS
open PySem PySem.Spec L2
theorem X6:∀{l:List α} {i:Nat} (h:i < l.length),(l[i] :: l.eraseIdx i).Perm l
 | a :: l,0,_=>by simp
 | a :: l,i + 1,h=>by
  have h':i < l.length:=by simpa using h
  simp only [List.getElem_cons_succ,List.eraseIdx_cons_succ];exact (oq a l[i] _).trans (kh a (X6 h'))
section
variable {M:Model}{A:bT}{E:aj→au→Prop}{sh:au}
theorem a6Q(hn:n≠0)(q:∀i d,i < n→Q i {sh with drawn:=d}):aQ M A (choose src n) Q E sh:=fun Γ p hΓ=>by
 show Sem.wp M Γ (.choose src n .pure) _ _ p sh;rw [Sem.wp_choose];exact⟨hn,by simpa using q _ _ (oe _ (Nat.pos_of_ne_zero hn))⟩
theorem b0T:∀(n:Nat) (xs:List α) (sh:au) (Q:List α→au→Prop),n=xs.length→(∀ys d,ys.Perm xs→Q ys {sh with drawn:=d})→aQ M A (drawOrder n xs) Q E sh:=by
 intro n
 induction n with
 | zero=>
  intro xs sh Q e q;cases xs with
  | nil=>exact ak (q [] sh.drawn (eU _))
  | cons _ _=>cases e
 | succ n ih=>
  intro xs sh Q e q;cases xs with
  | nil=>cases e
  | cons x xs=>
   rw [drawOrder];refine ab (a6Q (by simp) fun i d hi=>?_)
   ·rw [af hi]
    dsimp only
    refine ab (ih _ _ _ (by rw [tS,aE hi];simp only [aW] at e ⊢;lia) fun ys d' hp=>?_);exact ak (q _ _ (by
     refine (kh _ hp).trans ?_;exact X6 hi))
   ·simp
theorem b3j(next:Nat→Nat):∀(f k:Nat) (left:List α) (out:Array α),f=left.length→(zk next f k left out).toList.Perm (out.toList ++ left):=by
 intro f
 induction f with
 | zero=>
  intro k left out e;cases left with
  | nil=>simp [zk]
  | cons _ _=>cases e
 | succ f ih=>
  intro k left out e;have h0:0 < left.length:=by lia
  have hm:next k % left.length < left.length:=oe _ h0;rw [zk,af hm]
  dsimp only
  refine (ih _ _ _ (by rw [tS,aE hm];lia)).trans ?_;rw [Array.toList_push,be];exact rJ _ (X6 hm)
theorem a9c(next:Nat→Nat)(xs:Array α):(jX next xs).toList.Perm xs.toList:=by
 have:=b3j next xs.size 0 xs.toList #[] (by simp);simpa [jX] using this
end
end VS
namespace VS
open PySem PySem.Spec L2
def SIt(h:cm)(it:az)(first:aj)(i:Nat)(z:az)(n ep:Nat):Prop:=∃o,h.get? it=some o∧o.cls=.type "set_iterator"∧o.data=.fields #[first,.int i 0,.ref z,.int n 0,.int ep 0]
section
variable {prog:bB}{w:bU}{A:bT}{E:aj→au→Prop}{sh:au}{it z:az}{first:aj}{i n ep:Nat}{o:eW}{es:Array (Int × aj)}{t:eH}{ms:Prop}
theorem SIt.at{h h':cm}(x:SIt h it first i z n ep)(k:∀o,h.get? it=some o→h'.get? it=some o):SIt h' it first i z n ep:=let⟨o,e,r⟩:=x;⟨o,k _ e,r⟩
theorem SIt.typ(x:SIt sh.heap it first i z n ep):sh.TypeIs (.ref it) "set_iterator":=let⟨o,e,r,_⟩:=x;⟨o,e,r⟩
theorem SIt.put{h:cm}(hx:∃o,h.get? it=some o∧o.cls=.type "set_iterator"∧o.data=.fields vs):∃o,(h.update it (wV (·.setIfInBounds j x))).get? it=some o∧o.cls=.type "set_iterator"∧o.data=.fields (vs.setIfInBounds j x):=
 let⟨o,e,c,d⟩:=hx;⟨_,cW _ e (CG (jn d _)),(eW.cls_mapFields ..).trans c,jn d _⟩
theorem O7(q:Q (w.params.followText "set-order") sh):aQ (bc prog w) A setsByText Q E sh:=by
 unfold setsByText;exact ab (oH (ak q))
theorem a5l(ho:sh.heap.get? z=some o)(r:B3 w o es ep t ms)(ma:w.params.followText "set-order"=false)(hp:t.plain=true∨es.size≤1)(pJ:dy t.place sl=i)
  (q:(∀h:i < es.size,∀nx,dy t.place nx=i + 1→Q (some (es[i].2,nx)) sh)∧(¬ i < es.size→Q none sh)):aQ (bc prog w) A (qT z sl k pW) Q E sh:=by
 obtain⟨_,hd,hf,hu,hl,hb,he⟩:=id r;unfold qT;refine ab (de ho hd hf (ab (O7 ?_)));rw [ma,aJ bD];have AB:¬ (!t.plain && decide (es.size > 1))=true:=by
  rcases hp with c|c
  ·simp [c]
  ·simp;lia
 dsimp only
 refine iQ (fun c=>absurd c AB) fun _=>?_
 refine ab (show aQ _ _ (if (!t.led && !es.isEmpty)=true then _ else _) _ _ _ from ?_);rw [aJ (by rw [hl,ma];simp)];refine ak ?_;have qA:t.place.size=es.size:=by simp only [eH.fits,aA,wM] at hf;exact hf.1
 rw [pJ];by_cases c:i < es.size
 ·have c':i < t.place.size:=by lia
  rw [bW c,bW c'];refine ak (q.1 c _ ?_);have:=a6P hu (i:=i) (by simpa using c');simpa using this
 ·rw [dr (by lia)];exact ak (q.2 c)
theorem a7S(ho:sh.heap.get? z=some o)(r:B3 w o es ep t ms)(ma:w.params.followText "set-order"=true)
  (q:Q ((jX (w.params.setOrder z ep) es)[k]?.map fun e=>(e.2,sl)) sh):aQ (bc prog w) A (qT z sl k ep) Q E sh:=by
 obtain⟨_,hd,hf,_⟩:=id r;unfold qT;refine ab (de ho hd hf (ab (O7 ?_)));rw [ma,aE rfl];rw [aJ (by simp)];refine ab ?_;unfold setWalk;refine ab (de ho hd hf (ab (O7 ?_)));rw [ma,aE rfl];exact ab (oH (ak (ak q)))
theorem a5m{v:aj}{Φ:Nat→Prop}{Q:Option aj→au→Prop}(hI:SIt sh.heap it first i z es.size ep)(ho:sh.heap.get? z=some o)(r:B3 w o es ep t ms){sl:Nat}(sW:first=.int sl 0)
  (hn:∀(A':bT) (E':aj→au→Prop) (Q':Option (aj × Nat)→au→Prop),(∀nx,Φ nx→Q' (some (v,nx)) sh)→aQ (bc prog w) A' (qT z sl i ep) Q' E' sh)
  (q:∀nx h',Φ nx→SIt h' it (.int nx 0) (i + 1) z es.size ep→fG it sh.heap h'→Q (some v) {sh with heap:=h'}):aQ (bc prog w) A (gH (.ref it)) Q E sh:=by
 subst sW;obtain⟨x,hx,oO,ki⟩:=id hI;obtain⟨_,hd,hf,_⟩:=id r;unfold gH;refine ab (ip (cI (name:=ef "__next__") hI.typ F.slot_sit_next (cq F.slot_sit_next hI.typ F.entry_sit_next ?_ (F.args_sit_next _))));unfold Builtin.«set_iterator.__next__»;refine ab (m:=rV "__next__" 0 _) (ak ?_);refine ab (gY hx ki ?_)
 dsimp only
 refine ab (gm ho hd hf ?_);rw [aJ (by simp)];simp only [aZ];refine ab (hn _ _ _ fun nx e=>?_)
 dsimp only
 refine ab (ff hx ki (by simp) ?_);obtain⟨x1,ue,wj,oA⟩:=SIt.put (it:=it) (x:=eN (nx:Nat)) (j:=0) ⟨x,hx,oO,ki⟩;refine ab (ff ue oA (by simp) ?_);obtain⟨x2,vh,pP,hd2⟩:=SIt.put (it:=it) (x:=eN ((i:Int) + 1)) (j:=1) ⟨x1,ue,wj,oA⟩;refine ak ⟨_,rfl,ak (q nx _ e ⟨x2,vh,pP,?_⟩ ((cy ..).trans (cy ..)))⟩;rw [hd2];simp [eN]
theorem a5n(hh:A.handled=none)(q:∀h',(∀b o,sh.heap.get? b=some o→h'.get? b=some o)→Q none {sh with heap:=h'}) :
  aQ (bc prog w) A.in1 (newExc (.type "StopIteration") [] >>= fun e=>(raiseNew e:Sem PySem.Fin)) (fun fin s'=>∃v,fin=Fin.done (Flow.ret v)∧aQ (bc prog w) A (pure (some v)) Q E s') (fun e s'=>aQ (bc prog w) A (isInstance e (eV "StopIteration") >>= fun b=>if b=true then pure none else throw e) Q E s') sh:=by
 refine ab ?_;simp only [newExc,newTuple];refine ab (dw ?_ (by size_fits));refine ab (m:=lu _ _) (wpAny_of_eq (a:=bE) (by first|rfl|(simp only [lu];rfl)) ?_);refine dw ?_ (by size_fits);simp only [raiseNew];refine ab (wpAny_handled ?_);rw [show A.in1.handled=none from hh];refine ab (ak (wpAny_throw ?_));refine ab (jV (b:=true) (T:="StopIteration") ⟨_,aV _ rfl,rfl⟩ isSubtype_stop ?_);exact ak (q _ fun b o e=>aC _ (aC _ e))
theorem a7T{Q:Option aj→au→Prop}(hh:A.handled=none)(hI:SIt sh.heap it first i z es.size ep)(ho:sh.heap.get? z=some o)(r:B3 w o es ep t ms){sl:Nat}(sW:first=.int sl 0)
  (hn:∀(A':bT) (E':aj→au→Prop) (Q':Option (aj × Nat)→au→Prop),Q' none sh→aQ (bc prog w) A' (qT z sl i ep) Q' E' sh)
  (q:∀h',cm.ExtBut it sh.heap h'→Q none {sh with heap:=h'}):aQ (bc prog w) A (gH (.ref it)) Q E sh:=by
 subst sW;obtain⟨x,hx,oO,ki⟩:=id hI;obtain⟨_,hd,hf,_⟩:=id r;unfold gH;refine ab (ip (cI (name:=ef "__next__") hI.typ F.slot_sit_next (cq F.slot_sit_next hI.typ F.entry_sit_next ?_ (F.args_sit_next _))));unfold Builtin.«set_iterator.__next__»;refine ab (m:=rV "__next__" 0 _) (ak ?_);refine ab (gY hx ki ?_)
 dsimp only
 refine ab (gm ho hd hf ?_);rw [aJ (by simp)];simp only [aZ];refine ab (hn _ _ _ ?_)
 dsimp only
 refine ab (ff hx ki (by simp) ?_);exact a5n hh fun h' k=>q h' fun b o hb e=>k b o ((cy ..).extBut b o hb e)
theorem a9d{ps:List Nat}(hI:SIt sh.heap it (.ref tp) i z es.size ep)(ho:sh.heap.get? z=some o)(r:B3 w o es ep t ms)(ht:sh.heap.get? tp=some {cls:=.type "tuple",data:=.seq (ps.map fun i=>eN (i:Nat)).toArray})(hp:ps[i]?=some p)(iS:p < es.size)
  (q:∀h',SIt h' it (.ref tp) (i + 1) z es.size ep→fG it sh.heap h'→Q (some es[p].2) {sh with heap:=h'}):aQ (bc prog w) A (gH (.ref it)) Q E sh:=by
 obtain⟨x,hx,oO,ki⟩:=id hI;obtain⟨_,hd,hf,_⟩:=id r;unfold gH;refine ab (ip (cI (name:=ef "__next__") hI.typ F.slot_sit_next (cq F.slot_sit_next hI.typ F.entry_sit_next ?_ (F.args_sit_next _))));unfold Builtin.«set_iterator.__next__»;refine ab (m:=rV "__next__" 0 _) (ak ?_);refine ab (gY hx ki ?_)
 dsimp only
 refine ab (gm ho hd hf ?_);rw [aJ (by simp)];simp only [aZ];refine ab ?_;unfold seqItems?;refine ab (km ht ?_);refine ak ?_;have e1:(ps.map fun i=>eN (i:Nat)).toArray[i]?=some (eN (p:Nat)):=by rw [jQ,aN,hp];rfl
 dsimp only
 rw [e1];show aQ _ _ (setNextDrawn z (p:Int).toNat ep >>= fun x=>setField (.ref it) 1 (eN ((i:Int) + 1)) >>= fun _=>ret x) _ _ _;refine ab ?_;unfold setNextDrawn;refine ab (de ho hd hf ?_)
 dsimp only
 rw [aJ (by simp),aZ,bW iS];refine ab (ak (ak ?_));refine ab (ff hx ki (by simp) ?_);obtain⟨x2,vh,pP,hd2⟩:=SIt.put (it:=it) (x:=eN ((i:Int) + 1)) (j:=1) ⟨x,hx,oO,ki⟩;refine ak ⟨_,rfl,ak (q _ ⟨x2,vh,pP,?_⟩ (cy ..))⟩;rw [hd2];simp [eN]
theorem a4j{ps:List Nat}(hh:A.handled=none)(hI:SIt sh.heap it (.ref tp) i z es.size ep)(ho:sh.heap.get? z=some o)(r:B3 w o es ep t ms)(ht:sh.heap.get? tp=some {cls:=.type "tuple",data:=.seq (ps.map fun i=>eN (i:Nat)).toArray})(hp:ps[i]?=none)
  (q:∀h',cm.ExtBut it sh.heap h'→Q none {sh with heap:=h'}):aQ (bc prog w) A (gH (.ref it)) Q E sh:=by
 obtain⟨x,hx,oO,ki⟩:=id hI;obtain⟨_,hd,hf,_⟩:=id r;unfold gH;refine ab (ip (cI (name:=ef "__next__") hI.typ F.slot_sit_next (cq F.slot_sit_next hI.typ F.entry_sit_next ?_ (F.args_sit_next _))));unfold Builtin.«set_iterator.__next__»;refine ab (m:=rV "__next__" 0 _) (ak ?_);refine ab (gY hx ki ?_)
 dsimp only
 refine ab (gm ho hd hf ?_);rw [aJ (by simp)];simp only [aZ];refine ab ?_;unfold seqItems?;refine ab (km ht (ak ?_));have e1:(ps.map fun i=>eN (i:Nat)).toArray[i]?=none:=by rw [jQ,aN,hp];rfl
 dsimp only
 rw [e1]
 dsimp only
 refine ab (ff hx ki (by simp) ?_);obtain⟨x1,ue,wj,oA⟩:=SIt.put (it:=it) (x:=eN 0) (j:=0) ⟨x,hx,oO,ki⟩;refine ab (ff ue oA (by simp) ?_);exact a5n hh fun h' k=>q h' fun b o hb e=>k b o (((cy ..).trans (cy ..)).extBut b o hb e)
theorem a2b(hI:SIt sh.heap it first i z n ep)(q:Q (.ref it) sh):aQ (bc prog w) A (oK (.ref it)) Q E sh:=
 nB hI.typ F.slot_sit_iter (cq F.slot_sit_iter hI.typ F.entry_sit_iter (show aQ _ _ (ret (.ref it)) _ _ sh from ak ⟨_,rfl,"set_iterator",_,hI.typ,F.slot_sit_next.lookup,q⟩) (F.args_sit_iter _))
end
end VS
namespace VS
open PySem PySem.Spec L2
section
variable {prog:bB}{w:bU}{A:bT}{E:aj→au→Prop}{sh:au}{it z tp:az}{ep:Nat}{o:eW}{es:Array (Int × aj)}{t:eH}{ms:Prop}
theorem b0U(hh:A.handled=none)(r:B3 w o es ep t ms)(ma:w.params.followText "set-order"=false)(hp:t.plain=true∨es.size≤1)(ne:z≠it) :
  ke prog w A it [it,z] [it] (es.toList.map (·.2)).length (fun i v=>(es.toList.map (·.2))[i]?=some v) (fun i h=>(∃sl:Nat,SIt h it (.int sl 0) i z es.size ep∧dy t.place sl=i)∧h.get? z=some o) where
 sub:=fun b hb=>aH.mpr (.inl (ar.mp hb))
 frame:=fun _ _ _ st k=>let⟨⟨sl,a,b⟩,c⟩:=st;⟨⟨sl,a.at fun o e=>k it aq o e,b⟩,k z (ah _ aq) _ c⟩
 item:=fun i s Q E hi st q=>by
  obtain⟨⟨sl,a,b⟩,c⟩:=st;have gL:i < es.size:=by simpa using hi
  exact a5m (Φ:=fun nx=>dy t.place nx=i + 1) (v:=es[i].2) a c r rfl (fun A' E' Q' q'=>a5l c r ma hp b ⟨fun h nx qE=>q' nx qE,fun h=>absurd gL h⟩) fun nx h' qE pU sb=>
   q _ h' s.toks (by rw [aN,bg,bW gL];rfl) ⟨⟨nx,pU,qE⟩,sb.extBut z o ne c⟩ fun b o hb e=>sb.extBut b o (fun y=>hb (by rw [y];exact ar.mpr rfl)) e
 done:=fun s Q E st q=>by
  obtain⟨⟨sl,a,b⟩,c⟩:=st;refine a7T hh a c r rfl (fun A' E' Q' q'=>a5l c r ma hp b ⟨fun h=>absurd h (by simp),fun _=>q'⟩) fun h' he=>q h' s.toks fun b o hb e=>he b o (fun y=>hb (by rw [y];exact ar.mpr rfl)) e
 self:=fun _ _ _ _ st q=>let⟨⟨_,a,_⟩,_⟩:=st;a2b a q
theorem b3k(hh:A.handled=none)(r:B3 w o es ep t ms)(ma:w.params.followText "set-order"=true)(ne:z≠it) :
  ke prog w A it [it,z] [it] ((jX (w.params.setOrder z ep) es).toList.map (·.2)).length (fun i v=>((jX (w.params.setOrder z ep) es).toList.map (·.2))[i]?=some v) (fun i h=>SIt h it (.int (0:Nat) 0) i z es.size ep∧h.get? z=some o) where
 sub:=fun b hb=>aH.mpr (.inl (ar.mp hb))
 frame:=fun _ _ _ st k=>let⟨a,c⟩:=st;⟨a.at fun o e=>k it aq o e,k z (ah _ aq) _ c⟩
 item:=fun i s Q E hi st q=>by
  obtain⟨a,c⟩:=st;have gL:i < (jX (w.params.setOrder z ep) es).size:=by simpa using hi
  exact a5m (Φ:=fun nx=>nx=0) (v:=(jX (w.params.setOrder z ep) es)[i].2) a c r rfl (fun A' E' Q' q'=>a7S c r ma (by rw [bW gL];exact q' 0 rfl)) fun nx h' qE pU sb=>
   q _ h' s.toks (by rw [aN,bg,bW gL];rfl) ⟨qE ▸ pU,sb.extBut z o ne c⟩ fun b o hb e=>sb.extBut b o (fun y=>hb (by rw [y];exact ar.mpr rfl)) e
 done:=fun s Q E st q=>by
  obtain⟨a,c⟩:=st;refine a7T hh a c r rfl (fun A' E' Q' q'=>a7S c r ma (by rw [dr (by simp)];exact q')) fun h' he=>q h' s.toks fun b o hb e=>he b o (fun y=>hb (by rw [y];exact ar.mpr rfl)) e
 self:=fun _ _ _ _ st q=>a2b st.1 q
theorem b0V{ps:List Nat}(hh:A.handled=none)(r:B3 w o es ep t ms)(qA:∀p∈ps,p < es.size)(ne:z≠it)(ne2:tp≠it) :
  ke prog w A it [it,z,tp] [it] (ps.map fun p=>(es.toList.map (·.2)).getD p .none).length (fun i v=>(ps.map fun p=>(es.toList.map (·.2)).getD p .none)[i]?=some v) (fun i h=>SIt h it (.ref tp) i z es.size ep∧h.get? z=some o∧h.get? tp=some {cls:=.type "tuple",data:=.seq (ps.map fun i=>eN (i:Nat)).toArray}) where
 sub:=fun b hb=>aH.mpr (.inl (ar.mp hb))
 frame:=fun _ _ _ st k=>let⟨a,c,d⟩:=st;⟨a.at fun o e=>k it aq o e,k z (ah _ aq) _ c,k tp (ah _ (ah _ aq)) _ d⟩
 item:=fun i s Q E hi st q=>by
  obtain⟨a,c,d⟩:=st;have gL:i < ps.length:=by simpa using hi
  have iS:=qA _ (cS gL);exact a9d (p:=ps[i]) a c r d (af gL) iS fun h' pU sb=>
   q _ h' s.toks (by rw [aN,af gL,mY,ai,aN,bg,bW iS];rfl) ⟨pU,sb.extBut z o ne c,sb.extBut tp _ ne2 d⟩ fun b o hb e=>sb.extBut b o (fun y=>hb (by rw [y];exact ar.mpr rfl)) e
 done:=fun s Q E st q=>by
  obtain⟨a,c,d⟩:=st;exact a4j hh a c r d (cT (by simp)) fun h' he=>q h' s.toks fun b o hb e=>he b o (fun y=>hb (by rw [y];exact ar.mpr rfl)) e
 self:=fun _ _ _ _ st q=>a2b st.1 q
theorem b0W(ho:sh.heap.get? z=some o)(r:B3 w o es ep t ms)
  (q:∀(it:az) (h':cm) (d:Drawn) (fp:List az) (St:Nat→cm→Prop) (ord:List aj),ord.Perm (es.toList.map (·.2))→(∀A':bT,A'.handled=none→ke prog w A' it fp [it] ord.length (fun i v=>ord[i]?=some v) St)→St 0 h'→sh.heap.objs.size≤it→(∀b∈fp,b=z∨sh.heap.objs.size≤b)→
   (∀b o,sh.heap.get? b=some o→h'.get? b=some o)→Q (.ref it) {sh with heap:=h',drawn:=d}):aQ (bc prog w) A (oK (.ref z)) Q E sh:=by
 obtain⟨hex,hd,hf,hu,hl,hb,he⟩:=id r;have hT:sh.TypeIs (.ref z) "set":=⟨o,ho,hex.1⟩;have lz:=aS ho;refine nB hT F.slot_set_iter (cq F.slot_set_iter hT F.entry_set_iterA ?_ (F.args_set_iter_1 _));unfold Builtin.«frozenset.__iter__» Builtin.Frozenset.slot0;refine ab (m:=rV "__iter__" 0 _ >>= _) (ab (ak (show aQ _ _ (pure z) _ _ _ from ak ?_)));unfold Builtin.Frozenset.sizeOf;refine ab (ab (gm ho hd hf (ak ?_)));unfold setDrawn;refine ab (ab (de ho hd hf (ab (O7 (ak ?_)))))
 dsimp only
 have tail:∀(first:aj) (qS:au),qS.heap.get? z=some o→(∀o1:eW,o1={cls:=.type "set_iterator",data:=.fields #[first,.int (0:Nat) 0,.ref z,.int es.size 0,.int ep 0]}→Q (.ref qS.heap.objs.size) {qS with heap:=qS.heap.push o1})→
   aQ (bc prog w) A.in1 (setEpoch z >>= fun e=>newFields "set_iterator" [first,eN 0,.ref z,eN es.size,eN e] >>= fun v=>ret v) (fun fin s'=>∃v,fin=Fin.done (Flow.ret v)∧∃T' r,s'.TypeIs v T'∧typeLookup (eV T') (ef "__next__")=pure (some r)∧Q v s') E qS:=fun first qS h1 q1=>by
  refine ab (wpAny_setEpoch_of h1 hd hf ?_);unfold newFields;refine ab (dw (ak ⟨_,rfl,"set_iterator",_,⟨_,aV _ rfl,rfl⟩,F.slot_sit_next.lookup,?_⟩));exact q1 _ (by simp [eN])
 refine iQ (fun c=>?_) fun c=>?_
 ·rw [aA] at c;refine ab (b0T _ _ _ _ (by simp) fun ps d hp=>?_);have jN:∀p∈ps,p < es.size:=fun p h=>bx.mp (hp.mem_iff.mp h)
  refine ab (wpAny_newTuple ?_ (by rw [ae,hp.length_eq,bz];exact fits_of_scanBound hb));refine tail _ _ (aC _ ho) fun o1 e1=>?_
  refine q _ _ d [(sh.heap.push {cls:=.type "tuple",data:=.seq (ps.map fun i=>eN (i:Nat)).toArray}).objs.size,z,sh.heap.objs.size] _ _ ?_ (fun A' hA=>b0V (ps:=ps) (tp:=sh.heap.objs.size) hA r jN ?_ ?_) ⟨⟨o1,aV _ (by rw [e1];rfl),by rw [e1],by rw [e1]⟩,aC _ (aC _ ho),aC _ (aV _ rfl)⟩ ?_ ?_ fun b o e=>aC _ (aC _ e)
  ·exact L1 (l:=es.toList.map (·.2)) (by simpa using hp)
  ·rw [dB];exact bH (gB lz)
  ·rw [dB];exact bH (jq _)
  ·rw [dB];exact mJ _
  ·intro b rm;rw [dB] at rm;simp only [aH,fT,or_false] at rm;rcases rm with rfl|rfl|rfl
   ·exact .inr (mJ _)
   ·exact .inl rfl
   ·exact .inr (aD _)
 ·refine ab (ak (tail _ _ ho fun o1 e1=>?_));have pN:∀b∈[sh.heap.objs.size,z],b=z∨sh.heap.objs.size≤b:=by
   intro b rm;simp only [aH,fT,or_false] at rm;rcases rm with rfl|rfl
   ·exact .inr (aD _)
   ·exact .inl rfl
  have hI:SIt (sh.heap.push o1) sh.heap.objs.size (.int (0:Nat) 0) 0 z es.size ep:=⟨o1,aV _ (by rw [e1];rfl),by rw [e1],by rw [e1];rfl⟩;have ud:(sh.heap.push o1).get? z=some o:=aC _ ho;cases ma:w.params.followText "set-order" with
  | true=>
   exact q _ _ sh.drawn [sh.heap.objs.size,z] _ _ ((a9c _ es).map _) (fun A' hA=>b3k hA r ma (bH lz)) ⟨hI,ud⟩ (aD _) pN fun b o e=>aC _ e
  | false=>
   have gG:t.plain=true∨es.size≤1:=by
    rw [ma] at c;have c':¬ (!t.plain && decide (es.size > 1))=true:=fun z=>c (show (!false && (!t.plain && decide (es.size > 1)))=true from by rw [z];rfl)
    cases h:t.plain with
    | true=>exact .inl rfl
    | false=>
     rw [h] at c';simp at c';exact .inr (by lia)
   exact q _ _ sh.drawn [sh.heap.objs.size,z] _ _ (eU _) (fun A' hA=>b0U hA r ma gG (bH lz)) ⟨⟨0,hI,a6O hu⟩,ud⟩ (aD _) pN fun b o e=>aC _ e
theorem b0X(hT:sh.TypeIs (.ref z) "set")(h:Q false sh):aQ (bc prog w) A (rK (.ref z)) Q E sh:=by
 unfold rK;refine ab (gF hT (by exact PySem.F.slot_set_len.lookup) ?_);generalize xY:("set.__len__":String)=zB
 wp_delta
 rw [show splitId zB=some ("set","__len__") from by subst xY;decide +kernel];subst xY;refine ab (jV (T:="set") (b:=true) hT (by rw [sg];kernel_rfl) (iQ (fun y=>absurd y (by decide)) fun _=>iQ (fun _=>?_) fun y=>absurd (by decide +kernel) y));exact ab (yU hT (ak h))
end
end VS
namespace VS
open PySem PySem.Spec L2
open PyProof.Rows (KeyOrd SortKind seqObj size_push' slot_list_sort entry_list_sort args_list_sort kind_sorted plain_sorted entry_sorted args_sorted1)
section
variable {prog:bB}{w:bU}{A:bT}{E:aj→au→Prop}{sh:au}{z:az}{ep:Nat}{o:eW}{es:Array (Int × aj)}{t:eH}{ms:Prop}
theorem a5o(hh:A.handled=none)(ho:sh.heap.get? z=some o)(r:B3 w o es ep t ms)
  (q:∀(vs:List aj) (h':cm) (tk:Nat) (d:Drawn),vs.Perm (es.toList.map (·.2))→Kept sh.heap h'→sh.heap.objs.size≤h'.objs.size→Q vs {sh with heap:=h',toks:=tk,drawn:=d}):aQ (bc prog w) A (collect (.ref z)) Q E sh:=by
 have lz:=aS ho
 let L:eW:={cls:=.type "list",data:=.seq #[]}
 have vd:(sh.heap.push L).get? z=some o:=aC _ ho;have AS:au.TypeIs {sh with heap:=sh.heap.push L} (.ref z) "set":=⟨o,vd,r.1.1⟩;have AL:es.size≤aT:=fits_of_scanBound r.2.2.2.2.2.1
 let S:az:=sh.heap.objs.size
 have key:∀(it:az) (fp:List az) (St:Nat→cm→Prop) (ord:List aj) (d:Drawn) (W:∀A':bT,A'.handled=none→ke prog w A' it fp [it] ord.length (fun i v=>ord[i]?=some v) St),ord.Perm (es.toList.map (·.2))→S∉fp→sh.heap.objs.size≤it→
   ∀(h:cm) (c1 tk:Nat),St 0 h→(∀b o,b≠S→(sh.heap.push L).get? b=some o→h.get? b=some o)→h.get? S=some {cls:=.type "list",data:=.seq #[] c1}→
   jF (bc prog w) A (.builtin "list.extend.loop" ⟨[.ref S,.ref it,.ref S],[]⟩) (fun g s'=>∃(h':cm) (tk:Nat) (d:Drawn) (acc:Array aj) (c:Nat),g=.ok (.ret (.ref S))∧s'={sh with heap:=h',toks:=tk,drawn:=d}∧h'.get? S=some {cls:=.type "list",dict:=none,data:=.seq acc c,slots:=#[]}∧Q acc.toList {sh with heap:=h',toks:=tk,drawn:=d}) {sh with heap:=h,toks:=tk,drawn:=d}:=by
  intro it fp St ord d W hp nf hit h c1 tk st k hS;have hn:ord.length≤aT:=by rw [hp.length_eq];simpa using AL
  refine PySem.codeAny_extend_loopS (W A.in1 (by simpa using hh)).toS hn S nf (.ref S) ord.length 0 _ #[] c1 rfl (bC _) st hS (ItemsOf.nil _) fun s' acc c' m pS i_=>?_
  rw [Moved.eq_with m];refine⟨s'.heap,s'.toks,d,acc,c',rfl,rfl,pS,?_⟩;have e:acc.toList=ord:=by
   refine fE fun i=>?_
   rw [bg];by_cases c:i < ord.length
   ·obtain⟨x,hx⟩:∃x,acc[i]?=some x:=⟨_,bW (by rw [i_.1];exact c)⟩;rw [hx];exact (i_.2 i x hx).symm
   ·rw [dr (by rw [i_.1];lia),cT (by lia)]
  rw [e];refine q ord s'.heap s'.toks d hp (fun b o x=>m.heap b o (fun hm=>?_) (k b o (bH (aS x)) (aC _ x))) (dE (aS pS));have lb:=aS x;rcases aH.mp hm with e'|e'
  ·exact absurd (e' ▸ lb) (dS _)
  ·exact absurd lb (by rw [ar.mp e'];exact Nat.not_lt.mpr hit)
 unfold collect;refine ab (rN (eP (by exact kX) ?_));rw [dM (by exact nz) _];show aQ _ A.in1 (newList [] >>= fun l=>again (.builtin "list.__iadd__" ⟨[l,.ref z],[]⟩)) _ _ sh;refine ab (dw (ak ⟨iq (by exact gk) _,eP (by exact mH) ?_⟩));rw [dM (by exact gk) _];show aQ _ A.in1 (jh (.ref S) (.ref z) (.ref S)) _ _ {sh with heap:=sh.heap.push L};have yc:S≠z:=il lz;unfold jh;refine ab (yU (T:="set") AS ?_);have h1:wY (.ref S) (.ref z)=false:=by simp [wY,yc]
 simp only [h1,show (eV "set" == eV "list")=false from by decide,show (eV "set" == eV "tuple")=false from by decide,Bool.or_false,bA,cQ];refine ab (b0W (sh:={sh with heap:=sh.heap.push L}) vd r fun it h' d fp St ord hp W st hit pN k=>?_);have vS:sh.heap.objs.size≤it:=bI (by show _≤(sh.heap.push L).objs.size;rw [dB];exact mJ _) hit;have nf:S∉fp:=fun y=>by
  rcases pN S y with e|e
  ·exact yc e
  ·have e':(sh.heap.push L).objs.size≤S:=e;rw [dB] at e';exact absurd e' (Nat.not_succ_le_self _)
 have tE:h'.get? S=some {cls:=.type "list",data:=.seq #[] 0}:=k S _ (aV _ rfl);have ud:h'.get? z=some o:=k z _ vd;have last:∀(h2:cm) (c1:Nat),St 0 h2→(∀b o,b≠S→(sh.heap.push L).get? b=some o→h2.get? b=some o)→h2.get? S=some {cls:=.type "list",data:=.seq #[] c1}→_:=fun h2 c1 a b c=>gZ (key it fp St ord d W hp nf vS h2 c1 sh.toks a b c) (R':=fun r s'=>match r with
       | Except.ok (Flow.ret v)=>aQ (bc prog w) A (match v with|a_ a=>load a >>= fun u=>(match u.data with|Data.seq xs _=>pure xs.toList|_=>jB "internal:collect")|_=>jB "internal:collect") Q E s'
       | Except.ok _=>False
       | Except.error e=>E e s') fun g s2 y=>by
  obtain⟨h3,tk,d3,acc,c,rfl,rfl,e1,qq⟩:=y;show aQ _ A (load S >>= _) _ _ _;exact ab (km e1 (ak qq))
 refine ab (cM (b0X ⟨o,ud,r.1.1⟩ ?_));refine iQ (fun _=>?_) (fun _=>ak ⟨iq (by exact oF) _,last h' 0 st (fun b o _ e=>k b o e) tE⟩);refine ab (kl (ab ?_));show aQ _ _ (updateSeq S (·.push .none) >>= fun _=>updateSeq S (·.pop)) _ _ _;refine ab (wpAny_updateSeq tE rfl ?_);have uo:=cW (gJ (·.push bE)) tE rfl;refine wpAny_updateSeq (hz:=by seq_fits) uo rfl ?_;have wu:=cW (gJ (·.pop)) uo rfl;refine ak ⟨iq (by exact oF) _,last _ _ ?_ (fun b o hb e=>?_) wu⟩
 ·exact (W A hh).frame 0 _ _ st fun b hb o e=>by
   have yb:S≠b:=fun y=>nf (by rw [y];exact hb)
   exact (er _ _ yb).trans ((er _ _ yb).trans e)
 ·exact (er _ _ (eJ hb)).trans ((er _ _ (eJ hb)).trans (k b o e))
end
end VS
namespace VS
open PySem PySem.Spec L2
section
variable {X:Cx}{pins:List (az × eW)}{σ:L2.St}{H:Hp}{s:au}
theorem a9e(I:Inv X pins σ H s)(d:Drawn):Inv X pins σ H {s with drawn:=d}:=⟨I.ok,I.os,I.bare,I.base,I.loc,I.cell,I.free,I.freeC,I.pin,I.hok,I.len⟩
end
end VS
namespace VS
open PySem
def lpN(m:Nat)(h:Int):Nat→Nat × Nat
 | 0=>(dH h % (m + 1),dH h)
 | c + 1=>eH.leap m (lpN m h c).1 (lpN m h c).2
def lpI(m:Nat)(h:Int)(c:Nat):Nat:=(lpN m h c).1
def rl(m i:Nat):Nat:=iT m i - i
def qP(m:Nat)(h:Int):Nat→Nat × Nat
 | 0=>(0,0)
 | n + 1=>if (qP m h n).2 < rl m (lpI m h (qP m h n).1) then ((qP m h n).1,(qP m h n).2 + 1) else ((qP m h n).1 + 1,0)
def jP(m:Nat)(h:Int)(n:Nat):Nat:=lpI m h (qP m h n).1 + (qP m h n).2
def prb(m:Nat)(h:Int)(n:Nat):eH.Probe:={j:=jP m h n,more:=rl m (lpI m h (qP m h n).1) - (qP m h n).2,i:=lpI m h (qP m h n).1,perturb:=(lpN m h (qP m h n).1).2,dummy:=none}
theorem b0Y(m i:Nat):rl m i≤9:=by unfold rl iT;split <;> lia
theorem b0Z(m:Nat)(h:Int)(n:Nat):(qP m h n).2≤rl m (lpI m h (qP m h n).1):=by
 cases n with
 | zero=>exact bC _
 | succ n=>
  rw [qP]
  split
  ·rename_i c;exact c
  ·exact bC _
theorem a7U(t:eH)(h:Int)(n:Nat):t.advance (prb t.mask h n)=prb t.mask h (n + 1):=by
 unfold eH.advance;by_cases c:(qP t.mask h n).2 < rl t.mask (lpI t.mask h (qP t.mask h n).1)
 ·rw [aE (show (prb t.mask h n).more > 0 from Nat.sub_pos_of_lt c)];have e:qP t.mask h (n + 1)=((qP t.mask h n).1,(qP t.mask h n).2 + 1):=by rw [qP,aE c]
  unfold prb jP;rw [e];simp only [eH.Probe.mk.injEq,and_true];exact⟨by lia,by lia⟩
 ·rw [aJ (show ¬ (prb t.mask h n).more > 0 from by show ¬ (_ - _ > 0);lia)];have e:qP t.mask h (n + 1)=((qP t.mask h n).1 + 1,0):=by rw [qP,aJ c]
  unfold prb jP;rw [e];rfl
theorem a2c{m:Nat}{h:Int}{n c:Nat}(e:qP m h n=(c,0)):∀k,k≤rl m (lpI m h c)→qP m h (n + k)=(c,k)
 | 0,_=>e
 | k + 1,hk=>by
  have ih:=a2c e k (by lia);show qP m h ((n + k) + 1)=_;rw [qP,ih,aE (show k < rl m (lpI m h c) by lia)]
theorem a7V(m:Nat)(h:Int):∀c,∃n,n≤10 * c∧qP m h n=(c,0)
 | 0=>⟨0,aD _,rfl⟩
 | c + 1=>by
  obtain⟨n,hn,e⟩:=a7V m h c;refine⟨n + rl m (lpI m h c) + 1,by have:=b0Y m (lpI m h c);lia,?_⟩;rw [qP,a2c e _ (aD _),aJ (dS _)]
theorem b3l(h:Int):dH h < 2 ^ 64:=by
 unfold dH;have:=cL h (show (0:Int) < 2 ^ 64 by decide);have:=cG h (show (2 ^ 64:Int)≠0 by decide);lia
theorem a5p(m:Nat)(h:Int):∀c,(lpN m h c).2=dH h / 32 ^ c
 | 0=>by rw [lpN,Nat.pow_zero,Nat.div_one]
 | c + 1=>by
  show (lpN m h c).2 / 32=_;rw [a5p m h c,Nat.div_div_eq_div_mul,Nat.pow_succ]
theorem a9f(m:Nat)(h:Int){c:Nat}(hc:13≤c):(lpN m h c).2=0:=by
 rw [a5p];refine Nat.div_eq_of_lt (bF (b3l h) (bI (show 2 ^ 64≤32 ^ 13 by decide) (Nat.pow_le_pow_right (by decide) hc)))
def itr(m:Nat):Nat→Nat→Nat
 | 0,i=>i
 | r + 1,i=>(itr m r i * 5 + 1) % (m + 1)
theorem a7W(m:Nat)(h:Int):∀r,lpI m h (13 + r)=itr m r (lpI m h 13)
 | 0=>rfl
 | r + 1=>by
  show ((lpN m h (13 + r)).1 * 5 + 1 + (lpN m h (13 + r)).2 / 32) % (m + 1)=_;rw [a9f m h (by lia),Nat.zero_div,Nat.add_zero,itr,←a7W m h r];rfl
theorem b1a(m:Nat)(h:Int)(c:Nat):lpI m h c < m + 1:=by
 cases c with
 | zero=>exact oe _ (Nat.succ_pos _)
 | succ c=>exact oe _ (Nat.succ_pos _)
theorem b3m{m:Nat}(hm:m=7∨m=31):∀i,i < m + 1→∀j,j < m + 1→∃r,r < m + 1∧itr m r i=j:=by
 rcases hm with rfl|rfl
 ·decide +kernel
 ·decide +kernel
theorem b1b{m:Nat}(hm:m=7∨m=31)(h:Int){j:Nat}(hj:j < m + 1):∃c,c < m + 15∧lpI m h c=j:=by
 obtain⟨r,hr,e⟩:=b3m hm (lpI m h 13) (b1a _ _ _) j hj;exact⟨13 + r,by lia,by rw [a7W];exact e⟩
theorem b5R{m:Nat}(hm:m=7∨m=31)(h:Int){j:Nat}(hj:j < m + 1):∃n,n < 10 * (m + 15)∧jP m h n=j:=by
 obtain⟨c,hc,e⟩:=b1b hm h hj;obtain⟨n,hn,q⟩:=a7V m h c;exact⟨n,by lia,by unfold jP;rw [q];exact e⟩
theorem b4c(m:Nat)(h:Int)(n:Nat):jP m h n < m + 1:=by
 have a:=b0Z m h n;have b:=b1a m h (qP m h n).1;unfold jP;unfold rl iT at a
 split at a <;> lia
theorem a6R{m:Nat}(hm:m=7∨m=31)(h:Int){L:List Nat}(hL:L.length≤m):∃e,e < 10 * (m + 15)∧jP m h e∉L∧∀k,k < e→jP m h k∈L:=by
 have ex:∃j,j < m + 1∧j∉L:=by
  apply cJ;intro c;have hs:aG (m + 1) ⊆ L:=fun j hj=>cJ fun n=>c ⟨j,bx.mp hj,n⟩
  have:=(mi (n:=m + 1)).length_le_of_subset hs;rw [bz] at this;lia
 obtain⟨j,hj,nj⟩:=ex;obtain⟨n,hn,e⟩:=b5R hm h hj;have key:∀n,jP m h n∉L→∃e,e≤n∧jP m h e∉L∧∀k,k < e→jP m h k∈L:=by
  intro n
  induction n using Nat.strongRecOn with
  | ind n ih=>
   intro hn;by_cases c:∃k,k < n∧jP m h k∉L
   ·obtain⟨k,hk,Al⟩:=c;obtain⟨e,he,x⟩:=ih k hk Al;exact⟨e,by lia,x⟩
   ·exact⟨n,aD _,hn,fun k hk=>cJ fun z=>c ⟨k,hk,z⟩⟩
 obtain⟨e',he,x,y⟩:=key n (by rw [e];exact nj);exact⟨e',by lia,x,y⟩
theorem slot_of{t:eH}(hs:Up t.place.toList)(hd:t.dummies=#[])(j:Nat):(j∉t.place.toList∧t.slot j=.empty)∨∃i,t.place[i]?=some j∧t.slot j=.live i:=by
 unfold eH.slot
 dsimp only
 by_cases c:t.place[dy t.place j]?=some j
 ·exact .inr ⟨_,c,by rw [aE (by rw [c];exact jm _)]⟩
 ·refine .inl ⟨fun hj=>c ?_,?_⟩
  ·obtain⟨i,hi,e⟩:=fK.mp hj;have hb:dy t.place j=i:=by
    refine (below_at hs j).uniq ⟨dE hi,fun k hk z=>?_,fun k hk z=>?_⟩
    ·have:=W2 hs hi z;lia
    ·rcases bZ i k with y|y
     ·have:=W2 hs hk y;lia
     ·have:k=i:=by lia
      subst this;lia
   rw [hb,←e,←bg,af hi]
  ·rw [aJ (by simpa using c),aJ];unfold BA;rw [hd];simp
theorem b7p{t:eH}{hs:Nat→Int}{h:Int}(hu:Up t.place.toList)(hd:t.dummies=#[]):∀f n e,n≤e→e < n + f→jP t.mask h e∉t.place.toList→(∀k,n≤k→k < e→jP t.mask h k∈t.place.toList)→
  (hJ t hs h f (prb t.mask h n)=some (.empty (jP t.mask h e) none)∧∀k,n≤k→k < e→∀i,t.place[i]?=some (jP t.mask h k)→hs i≠h)∨
  ∃q i,n≤q∧q < e∧t.place[i]?=some (jP t.mask h q)∧t.slot (jP t.mask h q)=.live i∧hs i=h∧hJ t hs h f (prb t.mask h n)=some (.candidate (jP t.mask h q) i (prb t.mask h (q + 1)))∧∀k,n≤k→k < q→∀i,t.place[i]?=some (jP t.mask h k)→hs i≠h:=by
 intro f
 induction f with
 | zero=>intro n e h1 h2;lia
 | succ f ih=>
  intro n e h1 h2 h3 h4;rw [hJ];have uniq:∀{i k j:Nat},t.place[i]?=some j→t.place[k]?=some j→i=k:=fun {i k j} a b=>by
   rw [←bg] at a b;obtain⟨a1,a2⟩:=ay.mp a;obtain⟨b1,b2⟩:=ay.mp b;rcases lI i k with z|z|z
   ·have:=W2 hu b1 z;lia
   ·exact z
   ·have:=W2 hu a1 z;lia
  rcases slot_of hu hd (jP t.mask h n) with⟨a,b⟩|⟨i,a,b⟩
  ·have:n=e:=by
    apply cJ;intro c;exact a (h4 n (aD _) (by lia))
   subst this;rw [show t.slot (prb t.mask h n).j=.empty from b];exact .inl ⟨rfl,fun k k1 k2=>by lia⟩
  ·have fA:n≠e:=fun c=>by
    subst c;exact h3 (by rw [←bg] at a;exact ba a)
   rw [show t.slot (prb t.mask h n).j=.live i from b]
   dsimp only
   by_cases c:hs i=h
   ·rw [aE (by simpa using c)];exact .inr ⟨n,i,aD _,by lia,a,b,c,by rw [a7U];rfl,fun k k1 k2=>by lia⟩
   ·rw [aJ (by simpa using c),a7U];have here:∀i',t.place[i']?=some (jP t.mask h n)→hs i'≠h:=fun i' e'=>by rw [uniq e' a];exact c
    rcases ih (n + 1) e (by lia) (by lia) h3 (fun k k1 k2=>h4 k (by lia) k2) with⟨x,y⟩|⟨q,i2,q1,q2,q3,q4,q5,q6,q7⟩
    ·refine .inl ⟨x,fun k k1 k2 i'=>?_⟩;rcases bZ n k with z|z
     ·exact y k z k2 i'
     ·have:k=n:=by lia
      subst this;exact here i'
    ·refine .inr ⟨q,i2,by lia,q2,q3,q4,q5,q6,fun k k1 k2 i'=>?_⟩;rcases bZ n k with z|z
     ·exact q7 k z k2 i'
     ·have:k=n:=by lia
      subst this;exact here i'
end VS
namespace VS
open PySem PySem.Spec L2
section
variable {prog:bB}{w:bU}{A:bT}{E:aj→au→Prop}{s:au}
abbrev TK(prog:bB)(w:bU)(h:cm)(ks:List Int)(a:az):Prop:=IsTupleKey (gf prog w) h ks a
abbrev hT(prog:bB)(w:bU)(ks:List Int):Int:=tupleKeyHash (gf prog w) ks
theorem items_int{ks:List Int}{vs:List aj}(h:ItemsAre (gf prog w) ks vs):∀v∈vs,∃n t,v=.int n t:=by
 induction h with
 | nil=>intro v hv;cases hv
 | cons h1 _ ih=>
  intro v hv;rcases aH.mp hv with rfl|hv
  ·obtain⟨t,rfl⟩:=nV h1;exact⟨_,t,rfl⟩
  ·exact ih v hv
theorem a7X{ks:List Int}{a:az}{Q:Bool→au→Prop}(hk:TK prog w s.heap ks a)(h:Q false s):aQ (bc prog w) A (ofAClassStatement 8 (.ref a)) Q E s:=by
 have hT:=hk.typeIs;obtain⟨o,items,n,ho,_,hd,hi⟩:=hk;unfold ofAClassStatement;refine ab (yU hT ?_)
 dsimp only
 refine ab (ak ?_);simp only [eK,bA,cQ];refine ab (rM ho hd ?_)
 dsimp only
 refine ab ?_;show aQ _ _ (forIn items _ _) _ _ s;rw [←iP];refine jW _ (fun rest r s'=>r.1=none∧s'=s∧∀v∈rest,∃n t,v=gM n t) _ ?_ ?_ _ _ ⟨rfl,rfl,items_int hi⟩
 ·rintro v rest r s' ⟨hr,rfl,dN⟩;obtain⟨i,t,rfl⟩:=dN v aq;refine ab (show aQ _ _ (pure false) _ _ _ from ak ?_);simp only [bA,cQ];exact ak ⟨rfl,rfl,fun u hu=>dN u (ah _ hu)⟩
 ·rintro⟨r1,r2⟩ s' ⟨hr,rfl,_⟩;simp only at hr;subst hr;exact ak h
theorem b3n{ks:List Int}{a:az}{Q:Bool→au→Prop}(hk:TK prog w s.heap ks a)(h:Q true s):aQ (bc prog w) A (pR 8 (.ref a)) Q E s:=by
 have hT:=hk.typeIs;obtain⟨o,items,n,ho,_,hd,hi⟩:=hk;unfold pR;refine ab (gF hT hV.lookup ?_)
 dsimp only
 refine ab (rM ho hd ?_);refine ab ?_;show aQ _ _ (forIn items _ _) _ _ s;rw [←iP];refine jW _ (fun rest r s'=>r.1=none∧s'=s∧∀v∈rest,∃n t,v=gM n t) _ ?_ ?_ _ _ ⟨rfl,rfl,items_int hi⟩
 ·rintro v rest r s' ⟨hr,rfl,dN⟩;obtain⟨i,t,rfl⟩:=dN v aq;rw [show pR 7 (gM i t)=pure true from by unfold pR;rfl];refine ab (ak ?_);simp only [eK,bA,cQ];exact ak ⟨rfl,rfl,fun u hu=>dN u (ah _ hu)⟩
 ·rintro⟨r1,r2⟩ s' ⟨hr,rfl,_⟩;simp only at hr;subst hr;exact ak h
theorem b5S{kx:List Int}{ax:az}{ys:List aj}{Q:Bool→au→Prop}(hx:TK prog w s.heap kx ax)(hy:∀y∈ys,∃b ky,y=.ref b∧TK prog w s.heap ky b)(h:Q false s):aQ (bc prog w) A (searchCouldBeSeen (.ref ax) ys) Q E s:=by
 unfold searchCouldBeSeen;refine ab ?_;refine jW _ (fun rest r s'=>r.1=none∧s'=s∧∀y∈rest,∃b ky,y=a_ b∧TK prog w s.heap ky b) _ ?_ ?_ _ _ ⟨rfl,rfl,hy⟩
 ·rintro v rest r s' ⟨hr,rfl,dN⟩;obtain⟨b,ky,rfl,hb⟩:=dN v aq;have pF:∀y∈rest,∃b ky,y=a_ b∧TK prog w s'.heap ky b:=fun u hu=>dN u (ah _ hu)
  dsimp only
  split
  ·exact ak ⟨rfl,rfl,pF⟩
  ·refine ab (BP hx ?_);simp only [eK,bA,cQ];refine ab (BP hb ?_);simp only [eK,bA,cQ];refine ab (a7X hx ?_);simp only [bA,cQ];refine ab (a7X hb ?_);simp only [bA,cQ];exact ak ⟨rfl,rfl,pF⟩
 ·rintro⟨r1,r2⟩ s' ⟨hr,rfl,_⟩;simp only at hr;subst hr;exact ak h
end
end VS
namespace VS
open PySem PySem.Spec L2
abbrev RowT:=(Int × aj) × Nat × List Int
def Pth(m:Nat)(h:Int)(j:Nat)(L:List Nat):Prop:=∃n,n < 10 * (m + 15)∧jP m h n=j∧∀k,k < n→jP m h k∈L
structure TabT (t:eH) (es:Array (Int × aj)) (Z:List RowT):Prop where
 mask:t.mask=7∨t.mask=31
 dum:t.dummies=#[]
 few:Z.length≤t.mask
 up:Up t.place.toList
 pl:t.place.toList=Z.map (·.2.1)
 es:es.toList=Z.map (·.1)
 pth:∀z∈Z,Pth t.mask z.1.1 z.2.1 t.place.toList
theorem TabT.fits{t:eH}{es:Array (Int × aj)}{Z:List RowT}(T:TabT t es Z):t.fits es.size=true:=by
 have a:t.place.size=Z.length:=by rw [←bL,T.pl,ae]
 have b:es.size=Z.length:=by rw [←bL,T.es,ae]
 have c:t.fill=Z.length:=by unfold eH.fill;rw [T.dum,a];rfl
 unfold eH.fits;rw [a,b,c];simp [T.few]
theorem TabT.row{t:eH}{es:Array (Int × aj)}{Z:List RowT}(T:TabT t es Z){i j:Nat}(h:t.place[i]?=some j):∃z∈Z,es[i]?=some z.1∧z.2.1=j∧Z[i]?=some z:=by
 rw [←bg,T.pl,aN] at h;obtain⟨z,hz,e⟩:=cZ.mp h;exact⟨z,ba hz,by rw [←bg,T.es,aN,hz];rfl,e,hz⟩
section
variable {prog:bB}{w:bU}{A:bT}{E:aj→au→Prop}{s:au}
def a7Y(prog:bB)(w:bU)(h:cm)(Z:List RowT):Prop:=∀z∈Z,z.1.1=hT prog w z.2.2∧∃b,z.1.2=.ref b∧TK prog w h z.2.2 b
theorem b1c{a:az}{o:eW}{es:Array (Int × aj)}{ep:Nat}{t:eH}{Z:List RowT}{kx:List Int}{ax:az}{e:Nat}{Q:SetFound→au→Prop}(ho:s.heap.get? a=some o)(hd:o.data=.set es ep t)(T:TabT t es Z)(R:a7Y prog w s.heap Z)(hx:TK prog w s.heap kx ax)(hu:A.units < dq)
  (he:e < 10 * (t.mask + 15)) (h1:jP t.mask (hT prog w kx) e∉t.place.toList) (h2:∀k,k < e→jP t.mask (hT prog w kx) k∈t.place.toList) (q1:kx∈Z.map (·.2.2)→Q (.there none) s) (q2:kx∉Z.map (·.2.2)→Q (.free (jP t.mask (hT prog w kx) e) false) s) :
  ∀(F n:Nat) (st:Option eH.Probe),st.getD (t.probeStart (hT prog w kx))=prb t.mask (hT prog w kx) n→n≤e→e - n < F→(∀k,k < n→∀z∈Z,z.2.1=jP t.mask (hT prog w kx) k→z.2.2≠kx)→aQ (bc prog w) A (mw a (.ref ax) (hT prog w kx) true F st) Q E s:=by
 intro F
 induction F with
 | zero=>intro n st _ _ h;lia
 | succ F ih=>
  intro n st Bl hn hF lZ;have hf:=T.fits;have gw:t.gaveWay=false:=by unfold eH.gaveWay;rcases T.mask with m|m <;> rw [m] <;> rfl
  unfold mw;refine ab (de ho hd hf ?_)
  dsimp only
  rw [gw];simp only [bA,cQ];rw [Bl];unfold eH.probe;have hs:∀i j,t.place[i]?=some j→∃z∈Z,es[i]?=some z.1∧z.2.1=j∧((es[i]?).map (fun e:Int × aj=>e.1)).getD 0=z.1.1:=fun i j hi=>by
   obtain⟨z,z1,z2,z3,_⟩:=T.row hi;exact⟨z,z1,z2,z3,by rw [z2];rfl⟩
  have g:=b7p (t:=t) (hs:=fun i=>((es[i]?).map (fun e:Int × aj=>e.1)).getD 0) (h:=hT prog w kx) T.up T.dum (10 * dI t.mask) n e hn (by unfold dI;lia) h1 (fun k _ k2=>h2 k k2);rcases g with⟨g1,g2⟩|⟨q,i,g1,g2,g3,g4,g5,g6,g7⟩
  ·have mS:hJ t _ (hT prog w kx) (10 * dI t.mask) (prb t.mask (hT prog w kx) n)=_:=g1
   erw [mS]
   dsimp only
   refine ak (q2 fun c=>?_);obtain⟨z,hz,ez⟩:=aK.mp c;obtain⟨n',_,p1,p2⟩:=T.pth z hz;have eh:z.1.1=hT prog w kx:=by rw [(R z hz).1,ez]
   rw [eh] at p1 p2;have lt:n' < e:=by
    apply cJ;intro z';rcases bZ e n' with y|y
    ·exact h1 (p2 e y)
    ·have:n'=e:=by lia
     subst this;exact h1 (by rw [p1,T.pl];exact aK.mpr ⟨z,hz,rfl⟩)
   rcases bZ n' n with y|y
   ·exact lZ n' y z hz p1.symm ez
   ·obtain⟨i,hi⟩:=fM hz;have pi:t.place[i]?=some z.2.1:=by rw [←bg,T.pl,aN,hi];rfl
    refine g2 n' y lt i (by rw [p1];exact pi) ?_;show ((es[i]?).map (fun e:Int × aj=>e.1)).getD 0=_;rw [←bg,T.es,aN,hi];exact eh
  ·have Bd:hJ t _ (hT prog w kx) (10 * dI t.mask) (prb t.mask (hT prog w kx) n)=_:=g6
   erw [Bd]
   dsimp only
   obtain⟨z,hz,z2,z3,z4⟩:=T.row g3;obtain⟨r1,b,r2,r3⟩:=R z hz;have tail:aQ (bc prog w) A (do
     let some (_,y):=es[i]?|jB "internal:set-entry"
     let equal ←holding [y] (eqBool y (.ref ax))
     let (es',_,t') ←setState a
     if true && equal then return .there none
     let some same:=t'.sameMemory t.moves t.mask|jB "set.changed-during-lookup:is-the-new-block-at-the-old-address"
     let rQ ←match (if same then t'.slot (jP t.mask (hT prog w kx) q) else .empty) with
      | .live i'=>match es'[i']? with
       | some (_,y')=>do pure (if ←isSame y' y then some i' else none)
       | none=>pure none
      | _=>pure none
     match rQ with
     | none=>rule "set.search.anew";mw a (.ref ax) (hT prog w kx) true F none
     | some i'=>if equal then return .there (some i') else mw a (.ref ax) (hT prog w kx) true F (some (prb t.mask (hT prog w kx) (q + 1)))) Q E s:=by
    rw [z2,show z.1=(z.1.1,a_ b) from tQ rfl r2]
    dsimp only
    refine ab (cM (wpAny_eqBool_tuple hu r3 hx ?_));refine ab (de ho hd hf ?_)
    dsimp only
    by_cases c:z.2.2=kx
    ·rw [aE (by simpa using c)];exact ak (q1 (aK.mpr ⟨z,hz,c⟩))
    ·rw [aJ (by simpa using c)];have sm:t.sameMemory t.moves t.mask=some true:=by unfold eH.sameMemory;rw [aE (jm _)]
     rw [sm]
     dsimp only
     rw [aE rfl,g4]
     dsimp only
     rw [z2,show z.1=(z.1.1,a_ b) from tQ rfl r2]
     dsimp only
     refine ab (wpAny_isSame_ref_self (ab (ak ?_)));rw [aE rfl]
     dsimp only
     rw [aJ (by simpa using c)];refine ih (q + 1) _ rfl (by lia) (by lia) fun k hk z' mN e'=>?_
     rcases bZ k n with y|y
     ·exact lZ k y z' mN e'
     ·obtain⟨i',gL⟩:=fM mN;have pi:t.place[i']?=some z'.2.1:=by rw [←bg,T.pl,aN,gL];rfl
      rcases bZ k q with x|x
      ·intro ek;refine g7 k y x i' (by rw [pi,e']) ?_;show ((es[i']?).map (fun e:Int × aj=>e.1)).getD 0=_;rw [←bg,T.es,aN,gL];show z'.1.1=_;rw [(R z' mN).1,ek]
      ·have:k=q:=by lia
       subst this;have ii:i'=i:=by
        rw [←bg] at pi g3;obtain⟨a1,a2⟩:=ay.mp pi;obtain⟨b1,b2⟩:=ay.mp g3;rcases lI i' i with u|u|u
        ·have:=W2 T.up b1 u;lia
        ·exact u
        ·have:=W2 T.up a1 u;lia
       subst ii;have:z'=z:=aP (gL.symm.trans z4);subst this;exact c
   cases hl:t.led with
   | true=>
    simp only [eK,bA,cQ];exact tail
   | false=>
    simp only [Bool.not_false,gc];refine ab (b5S hx (fun y hy=>?_) ?_)
    ·obtain⟨e0,oy,rfl⟩:=aK.mp hy;have vX:e0∈es.toList:=(Array.mem_filter.mp (fP.mp oy)).1 |> fP.mpr;rw [T.es] at vX;obtain⟨z',mN,rfl⟩:=aK.mp vX;obtain⟨_,b',e1,e2⟩:=R z' mN;exact⟨b',_,e1,e2⟩
    ·simp only [bA,cQ];exact tail
end
end VS
namespace VS
open PySem
theorem b1d(m:Nat)(h:Int):∀n,n≤10 * (qP m h n).1 + (qP m h n).2
 | 0=>bC _
 | n + 1=>by
  have ih:=b1d m h n;have a:=b0Z m h n;have b:=b0Y m (lpI m h (qP m h n).1);rw [qP]
  split
  ·dsimp only;lia
  ·dsimp only;lia
theorem b5T(m i:Nat):iT m i + 1 - i=rl m i + 1:=by unfold rl iT;split <;> lia
theorem b3o{m:Nat}{h:Int}{ow:Array (Option Nat)}:∀(f c n0:Nat),qP m h n0=(c,0)→(∃c',c≤c'∧c' < c + f∧ow.getD (lpI m h c') (some 0)=none)→
  ∃n,fF m ow f (lpN m h c).1 (lpN m h c).2=some (jP m h n)∧ow.getD (jP m h n) (some 0)=none∧n0≤n∧(qP m h n).1 < c + f∧∀k,n0≤k→k < n→ow.getD (jP m h k) (some 0)≠none:=by
 intro f
 induction f with
 | zero=>rintro c n0 _ ⟨c',a,b,_⟩;lia
 | succ f ih=>
  intro c n0 e ⟨c',a,b,d⟩;have jr:∀k,k≤rl m (lpI m h c)→jP m h (n0 + k)=lpI m h c + k:=fun k hk=>by unfold jP;rw [a2c e k hk]
  rw [fF,b5T];cases hf:(aG (rl m (lpN m h c).1 + 1)).find? fun k=>(ow.getD ((lpN m h c).1 + k) (some 0)).isNone with
  | some k=>
   dsimp only
   have h1:=ng hf;have h2:=bx.mp (iW hf);have hk:k≤rl m (lpI m h c):=by show k≤rl m (lpN m h c).1;lia
   refine⟨n0 + k,by rw [jr k hk];rfl,?_,by lia,by rw [a2c e k hk];show c < _;lia,fun k' k1 k2=>?_⟩
   ·rw [jr k hk];exact oG.mp h1
   ·obtain⟨r,rfl⟩:∃r,k'=n0 + r:=⟨k' - n0,by lia⟩;rw [jr r (by lia)];intro z;have hp:=(List.find?_range_eq_some (i:=k) (n:=rl m (lpN m h c).1 + 1)).mp hf;have:=hp.2.2 r (by lia);rw [show ow.getD ((lpN m h c).1 + r) (some 0)=none from z] at this;simp at this
  | none=>
   dsimp only
   have hn:=d_.mp hf;have all:∀k,k≤rl m (lpI m h c)→ow.getD (lpI m h c + k) (some 0)≠none:=fun k hk z=>by
    have:=hn k (bx.mpr (show k < rl m (lpN m h c).1 + 1 by show k < rl m (lpI m h c) + 1;lia));rw [show ow.getD ((lpN m h c).1 + k) (some 0)=none from z] at this;simp at this
   have fA:c'≠c:=fun z=>by subst z;exact all 0 (bC _) d
   have e1:qP m h (n0 + rl m (lpI m h c) + 1)=(c + 1,0):=by rw [qP,a2c e _ (aD _),aJ (dS _)]
   obtain⟨n,g1,g2,g3,g4,g5⟩:=ih (c + 1) _ e1 ⟨c',by lia,by lia,d⟩;refine⟨n,g1,g2,by lia,by lia,fun k k1 k2=>?_⟩;rcases bZ (n0 + rl m (lpI m h c)) k with z|z
   ·exact g5 k (by lia) k2
   ·obtain⟨r,rfl⟩:∃r,k=n0 + r:=⟨k - n0,by lia⟩;rw [jr r (by lia)];exact all r (by lia)
structure OwnS (m:Nat) (hs:List Int) (ow:Array (Option Nat)) (S:List Nat):Prop where
 sz:ow.size=m + 1
 len:S.length≤hs.length
 has:∀i j:Nat,S[i]?=some j→j < m + 1∧ow.getD j none=some i
 only:∀j i:Nat,ow.getD j none=some i→S[i]?=some j
 pth:∀(i j:Nat) (h:Int),S[i]?=some j→hs[i]?=some h→∃n,n < 10 * (m + 15)∧jP m h n=j∧∀k,k < n→jP m h k∈S
theorem a9g{ow:Array (Option Nat)}{m j:Nat}(hz:ow.size=m + 1)(hj:j < m + 1):ow.getD j (some 0)=ow.getD j none:=by simp [iO,hz,hj]
theorem b1e{m:Nat}(hm:m=7∨m=31){hs:List Int}{ow:Array (Option Nat)}{S:List Nat}(O:OwnS m hs ow S){h:Int}(hh:hs[S.length]?=some h)(few:S.length≤m) :
  ∃j,fF m ow (dI m) (dH h % (m + 1)) (dH h)=some j∧OwnS m hs (ow.setIfInBounds j (some S.length)) (S ++ [j]):=by
 have ex:∃j,j < m + 1∧j∉S:=by
  apply cJ;intro c;have:=(mi (n:=m + 1)).length_le_of_subset (l₂:=S) fun j hj=>cJ fun n=>c ⟨j,bx.mp hj,n⟩
  rw [bz] at this;lia
 have j_:∀j,j < m + 1→(ow.getD j (some 0)=none↔j∉S):=fun j hj=>by
  rw [a9g O.sz hj]
  constructor
  ·intro e hS;obtain⟨i,hi⟩:=fM hS;rw [(O.has i j hi).2] at e;cases e
  ·intro hS;cases e:ow.getD j none with
   | none=>rfl
   | some i=>exact absurd (ba (O.only j i e)) hS
 obtain⟨j0,pM,zu⟩:=ex;obtain⟨c',pQ,Bt⟩:=b1b hm h pM;obtain⟨n,g1,g2,_,g4,g5⟩:=b3o (m:=m) (h:=h) (ow:=ow) (dI m) 0 0 rfl ⟨c',bC _,by unfold dI;lia,by rw [Bt];exact (j_ j0 pM).mpr zu⟩;have jl:=b4c m h n;have nS:jP m h n∉S:=(j_ _ jl).mp g2;have nb:n < 10 * (m + 15):=by
  have a:=b1d m h n;have b:=b0Z m h n;have d:=b0Y m (lpI m h (qP m h n).1);unfold dI at g4;lia
 have pre:∀k,k < n→jP m h k∈S:=fun k hk=>cJ fun z=>g5 k (bC _) hk ((j_ _ (b4c m h k)).mpr z)
 have gd:∀j,(ow.setIfInBounds (jP m h n) (some S.length)).getD j none=if j=jP m h n then some S.length else ow.getD j none:=fun j=>by
  by_cases c:j=jP m h n
  ·subst c;rw [aE rfl];simp [iO,O.sz,jl]
  ·rw [aJ c];simp only [iO,pD]
   split
   ·rw [nq,Array.getElem_setIfInBounds_ne (by assumption) (eJ c)];rfl
   ·rfl
 refine⟨jP m h n,g1,?_⟩;have hl:S.length < hs.length:=(ay.mp hh).1;refine⟨by rw [pD];exact O.sz,by rw [aM];exact hl,fun i j hi=>?_,fun j i hi=>?_,fun i j h' hi qH=>?_⟩
 ·rcases bZ i S.length with z|z
  ·rw [eD z] at hi;obtain⟨a,b⟩:=O.has i j hi;refine⟨a,?_⟩;rw [gd,aJ (fun e:j=jP m h n=>nS (e ▸ ba hi))];exact b
  ·rw [cY z] at hi;obtain⟨q,hq⟩:=ay.mp hi;have:i=S.length:=by simp at q;lia
   subst this;simp at hq;subst hq;exact⟨jl,by rw [gd,aE rfl]⟩
 ·rw [gd] at hi;by_cases c:j=jP m h n
  ·rw [aE c] at hi;cases hi
   subst c;simp
  ·rw [aJ c] at hi;have:=O.only j i hi;rw [eD (ay.mp this).1];exact this
 ·rcases bZ i S.length with z|z
  ·rw [eD z] at hi;obtain⟨n',a,b,d⟩:=O.pth i j h' hi qH;exact⟨n',a,b,fun k hk=>av _ (d k hk)⟩
  ·rw [cY z] at hi;obtain⟨q,hq⟩:=ay.mp hi;have:i=S.length:=by simp at q;lia
   subst this;simp at hq;subst hq;have:h'=h:=aP (qH.symm.trans hh);subst this;exact⟨n,nb,rfl,fun k hk=>av _ (pre k hk)⟩
theorem b3p{m:Nat}(hm:m=7∨m=31){hs:Array Int}(few:hs.size≤m):∃(ow:Array (Option Nat)) (S:List Nat),nW m hs=some ow∧OwnS m hs.toList ow S∧S.length=hs.size:=by
 have key:∀(rest done:List Int) (ow:Array (Option Nat)) (S:List Nat),done ++ rest=hs.toList→OwnS m hs.toList ow S→S.length=done.length→
   ∃(ua:Array (Option Nat)) (S':List Nat),rest.foldl (fun (acc:Option (Array (Option Nat) × Nat)) h=>do
    let (owner,k) ←acc
    let j ←fF m owner (dI m) (dH h % (m + 1)) (dH h)
    pure (owner.setIfInBounds j (some k),k + 1)) (some (ow,S.length))=some (ua,S'.length)∧OwnS m hs.toList ua S'∧S'.length=hs.size:=by
  intro rest
  induction rest with
  | nil=>
   intro done ow S e O l;refine⟨ow,S,rfl,O,?_⟩;rw [l,←bL,←e,bV]
  | cons h rest ih=>
   intro done ow S e O l;have hh:hs.toList[S.length]?=some h:=by rw [←e,l,cY (aD _),Nat.sub_self];rfl
   have hl:S.length≤m:=by
    have:=(ay.mp hh).1;have z:hs.toList.length=hs.size:=bL;lia
   obtain⟨j,g1,g2⟩:=b1e hm O hh hl;obtain⟨ua,S',k1,k2⟩:=ih (done ++ [h]) _ (S ++ [j]) (by rw [be];exact e) g2 (by simp [l]);refine⟨ua,S',?_,k2⟩;rw [List.foldl_cons];show om _ (do let j ←fF m ow (dI m) (dH h % (m + 1)) (dH h);pure (ow.setIfInBounds j (some S.length),S.length + 1)) rest=_;rw [g1];show om _ (some (ow.setIfInBounds j (some S.length),S.length + 1)) rest=_;rw [aM] at k1;exact k1
 have O0:OwnS m hs.toList (jL (m + 1) none) []:=by
  refine⟨by simp,bC _,fun i j h=>by simp at h,fun j i h=>?_,fun i j h e=>by simp at e⟩
  exfalso
  simp only [iO,Array.size_replicate] at h
  split at h
  ·rw [nq,Array.getElem_replicate] at h;cases h
  ·cases h
 obtain⟨ow,S,g1,g2,g3⟩:=key hs.toList [] (jL (m + 1) none) [] rfl O0 rfl;refine⟨ow,S,?_,g2,g3⟩;unfold nW;rw [←Array.foldl_toList];show Option.map _ (om _ (some (jL (m + 1) none,0)) hs.toList)=_;rw [show om _ (some (jL (m + 1) (none:Option Nat),0)) hs.toList=_ from g1];rfl
end VS
namespace VS
open PySem PySem.Spec L2
theorem W3{α β:Type}{f:α→Option β}{g:α→β}:∀(l:List α),(∀x∈l,f x=some (g x))→l.filterMap f=l.map g
 | [],_=>rfl
 | x :: l,h=>by rw [ij,h x aq,aB,W3 l fun y hy=>h y (ah _ hy)]
theorem b1f{t:eH}{es:Array (Int × aj)}{Z:List RowT}(T:TabT t es Z){wn:Nat}(hw:eH.sizeAbove wn=32)(few:Z.length≤18) :
  ∃(t':eH) (order:Array Nat) (Z':List RowT),t.relaid (es.map (·.1)) wn=some (t',order)∧TabT t' (order.filterMap (es[·]?)) Z'∧(order.filterMap (es[·]?)).size=es.size∧(Z'.map (·.2.2)).Perm (Z.map (·.2.2))∧(∀z'∈Z',∃z∈Z,z'.1=z.1∧z'.2.2=z.2.2)∧t'.led=t.led∧t'.mask=31∧Z'.length=Z.length:=by
 have rF:es.size=Z.length:=by rw [←bL,T.es,ae]
 obtain⟨ow,S,g1,O,g3⟩:=b3p (m:=31) (.inr rfl) (hs:=es.map (·.1)) (by rw [Array.size_map];lia);rw [Array.size_map,rF] at g3
 let live:List (Nat × Nat):=(aG 32).filterMap fun j=>(ow.getD j none).map (j,·)
 have mem:∀p:Nat × Nat,p∈live↔S[p.2]?=some p.1:=fun p=>by
  constructor
  ·intro hp;obtain⟨j,hj,e⟩:=e_.mp hp;obtain⟨i,hi,rfl⟩:=cZ.mp e;exact O.only j i hi
  ·intro hp;obtain⟨a,b⟩:=O.has _ _ hp;exact e_.mpr ⟨p.1,bx.mpr a,by rw [b];rfl⟩
 have up:Up (live.map (·.1)):=a4i _;have lt:∀p∈live,p.2 < Z.length:=fun p hp=>by
  have:=(ay.mp ((mem p).mp hp)).1;lia
 have zq:(live.map (·.2)).Nodup:=by
  rw [List.Nodup,iZ];have:=iZ.mp up;refine this.imp_of_mem fun {p q} hp hq h e=>?_
  have a:=(mem p).mp hp;have b:=(mem q).mp hq;rw [e,b] at a;have:=aP a;lia
 have perm:(live.map (·.2)).Perm (aG Z.length):=(oh zq mi).mpr fun i=>by
  rw [aK,bx]
  constructor
  ·rintro⟨p,hp,rfl⟩;exact lt p hp
  ·intro hi;have:i < S.length:=by lia
   exact⟨(S[i],i),(mem _).mpr (af this),rfl⟩
 let d:RowT:=((0,.none),0,[])
 let Z':List RowT:=live.map fun p=>((Z.getD p.2 d).1,p.1,(Z.getD p.2 d).2.2)
 have oV:∀i,i < Z.length→Z[i]?=some (Z.getD i d):=fun i hi=>by rw [ai,af hi];rfl
 have yq:((live.map (·.2)).toArray.filterMap (es[·]?)).toList=Z'.map (·.1):=by
  rw [Array.toList_filterMap,fY,List.filterMap_map,bp];refine W3 _ fun p hp=>?_
  show es[p.2]?=some (Z.getD p.2 d).1;rw [←bg,T.es,aN,oV _ (lt p hp)];rfl
 have zl:Z'.length=Z.length:=by
  have:=perm.length_eq;rw [ae,bz] at this;rw [ae];exact this
 refine⟨{mask:=31,place:=(live.map (·.1)).toArray,dummies:=#[],finger:=t.finger,led:=t.led,moves:=t.movedTo 31,plain:=t.plain},(live.map (·.2)).toArray,Z',?_,⟨.inr rfl,rfl,by rw [zl];show _≤31;lia,by rw [fY];exact up,by rw [fY,bp];rfl,yq,fun z' mN=>?_⟩,?_,?_,fun z' mN=>?_,rfl,rfl,zl⟩
 ·unfold eH.relaid eH.laid;rw [hw];show (nW 31 (es.map fun e:Int × aj=>e.1)).bind _=_;rw [g1];rfl
 ·obtain⟨p,hp,rfl⟩:=aK.mp mN;have hs:(es.map (·.1)).toList[p.2]?=some (Z.getD p.2 d).1.1:=by
   rw [Array.toList_map,T.es,bp,aN,oV _ (lt p hp)];rfl
  obtain⟨n,a,b,c⟩:=O.pth _ _ _ ((mem p).mp hp) hs;refine⟨n,a,b,fun k hk=>?_⟩;obtain⟨i,hi⟩:=fM (c k hk);rw [fY];exact aK.mpr ⟨(_,i),(mem _).mpr hi,rfl⟩
 ·rw [←bL,yq,ae,zl,rF]
 ·have e1:Z'.map (·.2.2)=(live.map (·.2)).map fun i=>(Z.getD i d).2.2:=by rw [bp,bp];rfl
  have e2:Z.map (·.2.2)=(aG Z.length).map fun i=>(Z.getD i d).2.2:=by
   refine fE fun i=>?_
   rw [aN,aN];rcases bZ i Z.length with h|h
   ·rw [oV i h,eQ h];rfl
   ·rw [cT h,cT (by rw [bz];exact h)];rfl
  rw [e1,e2];exact perm.map _
 ·obtain⟨p,hp,rfl⟩:=aK.mp mN;exact⟨Z.getD p.2 d,ba (oV _ (lt p hp)),rfl,rfl⟩
theorem TabT.put{t:eH}{es:Array (Int × aj)}{Z:List RowT}(T:TabT t es Z){h:Int}{x:aj}{ks:List Int}{e:Nat}(few:Z.length < t.mask)(he:e < 10 * (t.mask + 15))(h1:jP t.mask h e∉t.place.toList)(h2:∀k,k < e→jP t.mask h k∈t.place.toList) :
  ∃Z',TabT (t.put (jP t.mask h e)).1 (cD es (t.put (jP t.mask h e)).2 (h,x)) Z'∧(t.put (jP t.mask h e)).1.mask=t.mask∧(t.put (jP t.mask h e)).1.led=t.led∧(Z').Perm (((h,x),jP t.mask h e,ks) :: Z):=by
 let p:=dy t.place (jP t.mask h e)
 have dm:(t.put (jP t.mask h e)).1.dummies=#[]:=by
  show (if BA t.dummies _ then _ else t.dummies)=_;rw [T.dum];rw [aJ];unfold BA;simp
 have pl:(t.put (jP t.mask h e)).1.place.toList=t.place.toList.take p ++ jP t.mask h e :: t.place.toList.drop p:=wO _ _ _;have pm:(Z.take p ++ ((h,x),jP t.mask h e,ks) :: Z.drop p).Perm (((h,x),jP t.mask h e,ks) :: Z):=by
  refine List.perm_middle.trans (kh _ ?_);rw [rG]
 have sub:∀j,j∈t.place.toList→j∈(t.put (jP t.mask h e)).1.place.toList:=fun j hj=>by
  rw [pl];rw [←rG p t.place.toList] at hj;rcases aw.mp hj with z|z
  ·exact av _ z
  ·exact ao _ (ah _ z)
 refine⟨Z.take p ++ ((h,x),jP t.mask h e,ks) :: Z.drop p,⟨T.mask,dm,?_,?_,?_,?_,fun z hz=>?_⟩,rfl,rfl,pm⟩
 ·rw [pm.length_eq];exact few
 ·rw [pl];exact b5Q T.up (below_at T.up _) h1
 ·rw [pl,T.pl,aR,aB,kK,List.map_drop]
 ·rw [show (cD es (t.put (jP t.mask h e)).2 (h,x)).toList=_ from wO _ _ _,T.es,aR,aB,kK,List.map_drop];rfl
 ·rcases aH.mp (pm.mem_iff.mp hz) with rfl|hz
  ·exact⟨e,he,rfl,fun k hk=>sub _ (h2 k hk)⟩
  ·obtain⟨n,a,b,c⟩:=T.pth z hz;exact⟨n,a,b,fun k hk=>sub _ (c k hk)⟩
section
variable {prog:bB}{w:bU}{A:bT}{E:aj→au→Prop}{sh:au}
theorem TK.keeps{h h':cm}{ks:List Int}{b a:az}{o:eW}{es:Array (Int × aj)}{ep:Nat}{t:eH}(x:TK prog w h ks b)(ho:h.get? a=some o)(hd:o.data=.set es ep t)(hs:fG a h h'):TK prog w h' ks b:=by
 obtain⟨o',items,n,kH,hc,ir,hi⟩:=x;have fA:b≠a:=by
  rintro rfl;obtain rfl:o'=o:=aP (kH.symm.trans ho);rw [hd] at ir;exact nomatch ir
 exact⟨o',items,n,(hs.2 b fA).trans kH,hc,ir,hi⟩
def SetT(prog:bB)(w:bU)(ps:List (az × List Int))(h:cm)(a:az)(ms:List (List Int)):Prop:=∃o es ep t Z,h.get? a=some o∧o.ExactSet∧o.data=.set es ep t∧TabT t es Z∧t.led=(!w.params.followText "set-order")∧a7Y prog w h Z∧(Z.map (·.2.2)).Perm ms∧Z.length * 5 < t.mask * 3∧∀z∈Z,∃b,z.1.2=.ref b∧(b,z.2.2)∈ps
theorem a3m{a:az}{o:eW}{es es':Array (Int × aj)}{ep:Nat}{t t':eH}(ho:sh.heap.get? a=some o)(hd:o.data=.set es ep t):(sh.heap.update a (kz es' t')).get? a=some {o with data:=.set es' (ep + 1) t'}:=by
 have z:=cW (kz es' t') ho (by rw [putSet_of es' t' hd];rfl)
 rwa [putSet_of es' t' hd] at z
theorem b7q{ps:List (az × List Int)}{a:az}{ms:List (List Int)}{kx:List Int}{ax:az}{Q:Bool→au→Prop}(hS:SetT prog w ps sh.heap a ms)(hx:TK prog w sh.heap kx ax)(qA:(ax,kx)∈ps)(hu:A.units < dq)(hr:ms.length≤16)
  (q:∀b h',fG a sh.heap h'→SetT prog w ps h' a (if kx∈ms then ms else ms ++ [kx])→Q b {sh with heap:=h'}):aQ (bc prog w) A (setAddHashed a (.ref ax) (hT prog w kx)) Q E sh:=by
 obtain⟨o,es,ep,t,Z,ho,hX,hd,T,hl,R,hp,hf,hm⟩:=hS;have zl:Z.length=ms.length:=by have:=hp.length_eq;rwa [ae] at this
 have few:Z.length < t.mask:=by rcases T.mask with m|m <;> rw [m] at hf ⊢ <;> lia
 have plen:t.place.toList.length≤t.mask:=by rw [T.pl,ae];lia
 obtain⟨e,he,h1,h2⟩:=a6R T.mask (hT prog w kx) plen;unfold setAddHashed setAddHashedIn;refine cM (ab (de ho hd T.fits ?_))
 dsimp only
 rw [show byScan (.ref ax) es=false from by unfold byScan aj.scannable;rfl];simp only [bA,cQ];unfold setSearch;refine ab (b1c ho hd T R hx hu he h1 h2 (fun c=>?_) (fun c=>?_) 100000 0 none rfl (bC _) (by rcases T.mask with m|m <;> rw [m] at he <;> lia) (fun k hk=>by lia))
 ·have z:=q false sh.heap (fG.refl a _) (by rw [aE (hp.mem_iff.mp c)];exact⟨o,es,ep,t,Z,ho,hX,hd,T,hl,R,hp,hf,hm⟩);exact ak z
 ·rw [aJ (fun m=>c (hp.mem_iff.mpr m))] at q
  dsimp only
  refine ab (de ho hd T.fits ?_)
  dsimp only
  obtain⟨Z1,T1,m1,l1,p1⟩:=T.put (x:=.ref ax) (ks:=kx) few he h1 h2;generalize t.put (jP t.mask (hT prog w kx) e)=P at T1 m1 l1 ⊢;obtain⟨t1,pp⟩:=P
  dsimp only at T1 m1 l1 ⊢
  have R1:a7Y prog w sh.heap Z1:=fun z hz=>by
   rcases aH.mp (p1.mem_iff.mp hz) with rfl|hz
   ·exact⟨rfl,ax,rfl,hx⟩
   ·exact R z hz
  have nv:∀z∈Z1,∃b,z.1.2=.ref b∧(b,z.2.2)∈ps:=fun z hz=>by
   rcases aH.mp (p1.mem_iff.mp hz) with rfl|hz
   ·exact⟨ax,rfl,qA⟩
   ·exact hm z hz
  have k1:(Z1.map (·.2.2)).Perm (ms ++ [kx]):=by
   refine (p1.map (·.2.2)).trans ?_;rw [aB];exact (kh _ hp).trans (List.perm_append_singleton kx ms).symm
  have z1:Z1.length=ms.length + 1:=by rw [p1.length_eq,aW,zl]
  have qM:(cD es pp (hT prog w kx,a_ ax)).size=ms.length + 1:=by rw [←bL,T1.es,ae,z1]
  have tail:∀t2:eH,TabT t2 (cD es pp (hT prog w kx,.ref ax)) Z1→t2.mask=t.mask→t2.led=t.led→
    aQ (bc prog w) A (storeSet a (cD es pp (hT prog w kx,.ref ax)) t2 >>= fun _=>if (!false && t2.tooFull)=true then (setRelay a (tO (es.size + 1)) >>= fun _=>pure true) else pure true) Q E sh:=by
   intro t2 T2 m2 l2;refine ab (wpAny_storeSet_of ho hd ?_ (by rw [qM];exact bI (show ms.length + 1≤1000 by lia) (by decide)));have o2:=a3m (es':=cD es pp (hT prog w kx,.ref ax)) (t':=t2) ho hd;have sb:=cy sh.heap a (kz (cD es pp (hT prog w kx,.ref ax)) t2);have R2:a7Y prog w (sh.heap.update a (kz (cD es pp (hT prog w kx,.ref ax)) t2)) Z1:=fun z hz=>let⟨a1,b,a2,a3⟩:=R1 z hz;⟨a1,b,a2,a3.keeps ho hd sb⟩
   have fill:t2.fill=Z1.length:=by unfold eH.fill;rw [T2.dum,←bL,T2.pl,ae];rfl
   split
   ·rename_i tf
    have tf:t2.fill * 5≥t2.mask * 3:=by simpa [eH.tooFull] using tf
    rw [fill,z1,m2] at tf;have m7:t.mask=7:=by
     rcases T.mask with m|m
     ·exact m
     ·rw [m] at tf hf;lia
    have ml:ms.length=4:=by rw [m7] at tf hf;rw [zl] at hf;lia
    have rF:es.size=4:=by rw [←bL,T.es,ae,zl,ml]
    rw [rF];obtain⟨t3,order,Z3,r1,T3,r3,r4,r5,r6,r7,r8⟩:=b1f T2 (wn:=tO (4 + 1)) (by decide +kernel) (by lia);unfold setRelay;refine ab (ab (de o2 rfl T2.fits ?_))
    dsimp only
    rw [aJ (by decide +kernel)];refine ab (show aQ (bc prog w) A (do
     let some (t,order):=t2.relaid ((cD es pp (hT prog w kx,a_ ax)).map (·.1)) (tO (4 + 1))|jB "internal:set-table-without-room"
     let es':=order.filterMap ((cD es pp (hT prog w kx,a_ ax))[·]?)
     if es'.size != (cD es pp (hT prog w kx,a_ ax)).size then jB "internal:set-table-lost-an-element"
     pure (es',t)) _ _ _ from ?_)
    rw [r1]
    dsimp only
    rw [r3,aJ (by simp)];refine ak ?_
    dsimp only
    refine wpAny_storeSet_of o2 rfl ?_ (by rw [r3,qM];exact bI (show ms.length + 1≤1000 by lia) (by decide));have xf:=sb.trans (cy _ a (kz (order.filterMap ((cD es pp (hT prog w kx,a_ ax))[·]?)) t3));refine ak (q true _ xf ⟨_,_,_,t3,Z3,a3m (sh:={sh with heap:=sh.heap.update a (kz (cD es pp (hT prog w kx,.ref ax)) t2)}) o2 rfl,hX,rfl,T3,by rw [r6,l2,hl],fun z hz=>?_,r4.trans k1,by rw [r8,z1,r7,ml];decide,fun z hz=>?_⟩)
    ·obtain⟨z',mN,e1,e2⟩:=r5 z hz;obtain⟨a1,b,a2,a3⟩:=R1 z' mN;rw [e1,e2];exact⟨a1,b,a2,a3.keeps ho hd xf⟩
    ·obtain⟨z',mN,e1,e2⟩:=r5 z hz;rw [e1,e2];exact nv z' mN
   ·rename_i tf
    have tf:¬ t2.fill * 5≥t2.mask * 3:=by simpa [eH.tooFull] using tf
    rw [fill] at tf;exact ak (q true _ sb ⟨_,_,_,t2,Z1,o2,hX,rfl,T2,by rw [l2,hl],R2,k1,by lia,nv⟩)
  cases gG:t1.plain with
  | true=>
   rw [aE rfl];refine ab (b3n hx ?_);rw [aE rfl];exact tail t1 T1 m1 l1
  | false=>
   simp only [bA,cQ];refine ab (ak ?_);rw [aE rfl];exact tail t1 T1 m1 l1
end
end VS
namespace VS
open PySem PySem.Spec L2
section
variable {prog:bB}{w:bU}{A:bT}{E:aj→au→Prop}{sh:au}{R:BC→au→Prop}{I:az}{fp wr:List az}{G:Array GenState→Array GenState→Prop}{n:Nat}{P:Nat→aj→Prop}{St:Nat→au→Prop}
def J1:List (List Int)→List (List Int)→List (List Int)
 | ms,[]=>ms
 | ms,k :: ks=>J1 (if k∈ms then ms else ms ++ [k]) ks
theorem a9h{ps:List (az × List Int)}(Wk:WalksS prog w A.in1 I fp wr G n P St)(z:az)(hz:z∉fp)(kss:List (List Int))(hn:kss.length=n)(vo:∀i v,P i v→∃b k,v=.ref b∧kss[i]?=some k∧(b,k)∈ps)(qA:∀p∈ps,p.1≠z∧p.1∉wr)(hu:A.units + 1 < dq) :
  ∀(k i:Nat) (s:au) (ms:List (List Int)),n - i=k→i≤n→ms.length + (n - i)≤16→St i s→SetT prog w ps s.heap z ms→(∀p∈ps,TK prog w s.heap p.2 p.1)→(∀s',Moved (z :: wr) G s s'→SetT prog w ps s'.heap z (J1 ms (kss.drop i))→R (.ok (.ret .none)) s')→
   jF (bc prog w) A (.builtin "set.update.loop" ⟨[.ref z,.ref I],[]⟩) R s:=by
 have hw:z∉wr:=fun h=>hz (Wk.sub _ h)
 have up:∀b∈wr,b∈z :: wr:=fun b h=>ah _ h
 have mv:∀{s s':au} {ms:List (List Int)},Moved wr G s s'→(∀p∈ps,TK prog w s.heap p.2 p.1)→SetT prog w ps s.heap z ms→SetT prog w ps s'.heap z ms∧∀p∈ps,TK prog w s'.heap p.2 p.1:=fun {s s' ms} m hK hS=>by
  have keep:∀p∈ps,TK prog w s'.heap p.2 p.1:=fun p hp=>let⟨o,cE,q,a1,a2⟩:=hK p hp;⟨o,cE,q,m.heap _ _ (qA p hp).2 a1,a2⟩
  obtain⟨o,es,ep,t,Z,h1,h2,h3,h4,h5,h6,h7,h8,h9⟩:=hS;exact⟨⟨o,es,ep,t,Z,m.heap z o hw h1,h2,h3,h4,h5,fun y hy=>let⟨a1,b,a2,a3⟩:=h6 y hy;let⟨b',c1,c2⟩:=h9 y hy;⟨a1,b',c1,keep _ c2⟩,h7,h8,h9⟩,keep⟩
 intro k
 induction k with
 | zero=>
  intro i s ms hk hi hm st hS hK hR;obtain rfl:i=n:=by lia
  rw [qQ (by lia)] at hR;refine eP (by exact ku) ?_;rw [dM (by exact fX) _];show aQ _ A.in1 (gH (a_ I) >>= _) _ _ s;refine ab (Wk.done s _ _ st fun s' m=>(show aQ _ A.in1 (ret bE) _ _ s' from ak (hR s' (m.mono up) (mv m hK hS).1)))
 | succ k ih=>
  intro i s ms hk hi hm st hS hK hR;have lt:i < n:=by lia
  refine eP (by exact ku) ?_;rw [dM (by exact fX) _];show aQ _ A.in1 (gH (a_ I) >>= _) _ _ s;refine ab (Wk.item i s _ _ lt st fun v s1 hP zc m=>?_);obtain⟨b,kx,rfl,ek,hb⟩:=vo i v hP;obtain⟨tE,wz⟩:=mv m hK hS;show aQ _ A.in1 (holding [a_ b] (setAdd z (.ref b)) >>= fun _=>_) _ _ s1;refine ab (cM ?_);unfold setAdd;refine cM (ab ((tupleKind (gf prog w)).pyHash (k:=kx) (show A.in1.units < dq from hu) (wz _ hb) ?_));refine b7q (sh:={s1 with toks:=s1.toks + (tupleKind (gf prog w)).draws kx}) (ms:=ms) tE (wz _ hb) hb hu (by lia) fun bb h' sb uo=>?_
  have hd:kss.drop i=kx :: kss.drop (i + 1):=by
   obtain⟨q,e⟩:=ay.mp ek;rw [fW q,e]
  rw [hd] at hR;have hl:(if kx∈ms then ms else ms ++ [kx]).length≤ms.length + 1:=by
   split
   ·lia
   ·simp
  refine ak ⟨iq (by exact fX) _,ih (i + 1) _ _ (by lia) lt (by lia) (Wk.frame _ s1 _ _ zc (BG _ _) fun c hc o e=>?_) uo (fun p hp=>?_) fun s2 m2 wu=>?_⟩
  ·rw [sb.2 c (fun x:c=z=>hz (x ▸ hc))];exact e
  ·obtain⟨o,cE,q,a1,a2⟩:=wz p hp;exact⟨o,cE,q,(sb.2 _ (qA p hp).1).trans a1,a2⟩
  ·refine hR s2 (Moved.trans Wk.gtrans ((m.mono up).then_heap (BG _ _) fun c o hc e=>?_) m2) wu;rw [sb.2 c (fun x:c=z=>hc (x ▸ aq))];exact e
theorem a9i(ps:List (az × List Int)){h:cm}{a:az}(e:h.get? a=some (a2a w)):SetT prog w ps h a []:=
 ⟨a2a w,#[],0,.fresh 0 0 (!w.params.followText "set-order"),[],e,⟨rfl,rfl,rfl⟩,rfl,⟨.inl rfl,rfl,bC _,lK,rfl,rfl,fun _ h=>(nomatch h)⟩,rfl,fun _ h=>(nomatch h),eU _,show 0 * 5 < 7 * 3 by decide,fun _ h=>(nomatch h)⟩
theorem a9j{ps:List (az × List Int)}{l:az}{items:Array aj}{kss:List (List Int)}{Q:aj→au→Prop}(hh:A.handled=none)(hl:sh.heap.IsList l items)(hn:kss.length=items.size)(hi:∀(i:Nat) (v:aj),items[i]?=some v→∃b k,v=.ref b∧kss[i]?=some k∧(b,k)∈ps)(hK:∀p∈ps,TK prog w sh.heap p.2 p.1)(hb:items.size≤16)(hu:A.units + 10 < dq)
  (h:∀(h':cm) (tk:Nat),SetT prog w ps h' sh.heap.objs.size (J1 [] kss)→(∀b o,sh.heap.get? b=some o→h'.get? b=some o)→Q (.ref sh.heap.objs.size) {sh with heap:=h',toks:=tk}) :
  aQ (bc prog w) A (call (.type "set") [.ref l]) Q E sh:=by
 obtain⟨cl,tl,Ae⟩:=(by exact gj.mro);have g1:=(by exact gj.made);have g2:=(by exact gj.sub);refine wpAny_call (codeAny_of_tree (show aQ _ _ (callAny (.type "set") _) _ _ _ from ?_));refine ak ⟨Code.quiet_builtin _ (by decide +kernel),eP (by exact F.entry_type_call) ?_⟩;rw [bT.under_plain (by exact weight_type_call_type "set" [.ref l] []) rfl];have g3:=(by exact gj.notType);have g4:=(by exact gj.canCreate);have g5:=(by exact F.typeCall_set_1 (.ref l))
 repeat (any_goals first|assumption|wp_step)
 refine gZ (b3i (.ref l) (E:=E) (Q:=fun v s1=>v=.ref sh.heap.objs.size∧s1={sh with heap:=sh.heap.push (a2a w)}) ⟨rfl,rfl⟩) fun r s1 hr=>?_
 cases r with
 | error e=>exact hr
 | ok fl=>
  cases fl with
  | ret v=>
   obtain⟨rfl,rfl⟩:=hr;have hS:(sh.heap.push (a2a w)).get? sh.heap.objs.size=some (a2a w):=aV _ rfl;have hT:au.TypeIs {sh with heap:=sh.heap.push (a2a w)} (.ref sh.heap.objs.size) "set":=⟨_,hS,rfl⟩;have g6:=(by exact gj.init.lookup);have g7:=(by exact gj.init.bind (.ref sh.heap.objs.size))
   repeat (any_goals first|assumption|wp_step)
   refine gZ (codeAny_call_builtin (R:=wants (fun r s2=>r=.none∧∃h' tk,s2={sh with heap:=h',toks:=tk}∧SetT prog w ps h' sh.heap.objs.size (J1 [] kss)∧(∀b o,sh.heap.get? b=some o→h'.get? b=some o)) E) (by exact gj.init.plain) (by exact F.entry_set_init) (check_set_init_1 hT ?_)) fun r2 s2 sD=>?_
   ·obtain⟨ol,xO,ri,nl,x_⟩:=hl;obtain⟨oc,od,BX,os⟩:=ol;simp only at ri x_;subst ri;subst x_;have vD:(sh.heap.push (a2a w)).get? l=some {cls:=.type "list",dict:=od,data:=.seq items nl,slots:=os}:=aC _ xO;have k1:=(by exact F.sub_list_set);have k2:=(by exact F.sub_list_frozenset);have k3:(eV "list" == eV "dict")=false:=by decide +kernel
    have xV:(sh.heap.push (a2a w)).IsList l items:=⟨_,vD,rfl,nl,rfl⟩;unfold Builtin.«set.__init__» noKeywords;unfold Builtin.Frozenset.updateFrom;generalize AV:oK=PI
    wp_walk
    subst AV;refine nC xV (ab (rN ?_));have lt:l < sh.heap.objs.size:=aS xO;have qH:A.in1.in1.in1.handled=none:=by simp [hh]
    have ne:l≠(sh.heap.push (a2a w)).objs.size:=by rw [dB];exact bH (gB lt)
    have nf:sh.heap.objs.size∉[(sh.heap.push (a2a w)).objs.size,l]:=by
     rw [dB];simp only [aH,fT,or_false,not_or];exact⟨bH (jq _),il lt⟩
    have zy:∀p∈ps,p.1 < sh.heap.objs.size:=fun p hp=>let⟨_,_,_,a1,_⟩:=hK p hp;aS a1
    refine a9h (ps:=ps) ((Walks.list qH _ l ne items).toS) sh.heap.objs.size nf kss hn hi (fun p hp=>?_) (by simp only [bT.in1_units];lia) (items.size - 0) 0 _ [] rfl (bC _) (by simpa using hb) ⟨⟨_,aV _ rfl,rfl,rfl⟩,xV.push _⟩ (a9i ps (aC _ hS)) (fun p hp=>?_) fun s' m pS=>?_
    ·have:=zy p hp;simp only [aH,fT,or_false,dB];exact⟨bH this,bH (gB this)⟩
    ·obtain⟨o,cE,q,a1,a2⟩:=hK p hp;exact⟨o,cE,q,aC _ (aC _ a1),a2⟩
    ·obtain⟨h',g',d',yY,uO⟩:=s';have e1:g'=sh.gens:=m.gens;have e2:d'=sh.drawn:=m.drawn;have e3:uO=sh.os:=m.os;subst e1 e2 e3;show aQ _ _ _ _ _ _;refine ak (show aQ _ _ (ret bE) _ _ _ from ak ⟨rfl,h',yY,rfl,pS,fun b o e=>?_⟩);have lb:=aS e;refine m.heap b o ?_ (aC _ (aC _ e));simp only [aH,fT,or_false,not_or,dB];exact⟨bH lb,bH (gB lb)⟩
   ·cases r2 with
    | error e=>exact sD
    | ok Bg=>
     cases Bg with
     | ret r=>
      obtain⟨rfl,h',tk,rfl,pS,ny⟩:=sD
      repeat (any_goals first|assumption|wp_step)
      exact h _ _ pS ny
     | _=>exact sD.elim
  | _=>exact hr.elim
end
end VS
namespace VS
open PySem PySem.Spec L2
open PyProof.Rows (KeyOrd SortKind seqObj size_push' slot_list_sort entry_list_sort args_list_sort kind_sorted plain_sorted entry_sorted args_sorted1 IntsAre)
theorem a4k{α β:Type}{f:α→β}:∀{vs l:List β},vs.Perm l→∀Z:List α,l=Z.map f→∃Z':List α,Z'.Perm Z∧vs=Z'.map f:=by
 intro vs l h
 induction h with
 | nil=>intro Z e;exact⟨Z,eU _,e⟩
 | cons x _ ih=>
  intro Z e;cases Z with
  | nil=>cases e
  | cons z Z=>
   rw [aB] at e
   injection e with e1 e2
   obtain⟨Z',p,q⟩:=ih Z e2;exact⟨z :: Z',p.cons z,by rw [aB,←q,e1]⟩
 | swap x y l=>
  intro Z e
  match Z,e with
  | a :: b :: Z,e=>
   rw [aB,aB] at e
   injection e with e1 e2
   injection e2 with e2 e3
   exact⟨b :: a :: Z,oq a b Z,by rw [aB,aB,e1,e2,e3]⟩
 | trans _ _ va u_=>
  intro Z e;obtain⟨Z1,p1,q1⟩:=u_ Z e;obtain⟨Z2,p2,q2⟩:=va Z1 q1;exact⟨Z2,p2.trans p1,q2⟩
section
variable {prog:bB}{w:bU}{A:bT}{E:aj→au→Prop}{sh:au}{z:az}
theorem a5q{ks:List Int}{vs:List aj}(h:ItemsAre (gf prog w) ks vs):IntsAre vs ks:=by
 induction h with
 | nil=>exact .nil
 | cons h1 _ ih=>
  obtain⟨t,rfl⟩:=nV h1;exact .cons _ t ih
theorem b5U{h:cm}{ks:List Int}{b:az}(x:TK prog w h ks b):a5g true h (.ref b) ks:=by
 obtain⟨o,cE,n,h1,h2,h3,h4⟩:=x;exact (show ∃a' o xs m,a_ b=.ref a'∧h.get? a'=some o∧o.cls=.type "tuple"∧o.data=.seq xs m∧IntsAre xs.toList ks from⟨b,o,cE,n,rfl,h1,h2,h3,a5q h4⟩)
theorem a5r{ps:List (az × List Int)}{ms:List (List Int)}{Q:aj→au→Prop}(hh:A.handled=none)(hS:SetT prog w ps sh.heap z ms)(rB:ms.length < 17)(fA:ms.length < 2∨∀k∈ms,k≠[])
  (q:∀(out:List (az × List Int)) (h':cm) (tk e:Nat) (d:Drawn) (y:az),out.map (·.2)=K6 ms→(∀p∈out,p∈ps)→Kept sh.heap h'→sh.heap.objs.size≤y→h'.get? y=some (ic "list" (out.map fun p=>a_ p.1).toArray e)→Q (.ref y) {sh with heap:=h',toks:=tk,drawn:=d}) :
  aQ (bc prog w) A (call (.builtin "sorted") [.ref z]) Q E sh:=by
 obtain⟨o,es,ep,t,Z,ho,hX,hd,T,hl,R,hp,hf,hm⟩:=hS;have zl:Z.length=ms.length:=by have:=hp.length_eq;rwa [ae] at this
 have rF:es.size=ms.length:=by rw [←bL,T.es,ae,zl]
 refine jA kind_sorted plain_sorted entry_sorted (args_sorted1 _) ?_;unfold Builtin.«sorted»;refine ab (m:=checkCount "sorted" 1 1 _) (ak ?_);refine ab (a5o (A:=A.in1) (by simpa using hh) ho (show B3 w o es ep t True from⟨hX,hd,T.fits,T.up,hl,by rw [rF];exact bF rB (by decide),trivial⟩) fun vs h1 tk d hv k1 z1=>?_);rw [T.es,bp] at hv;obtain⟨Z',pz,rfl⟩:=a4k hv Z rfl;have yO:Z'.length=ms.length:=by rw [pz.length_eq,zl]
 obtain⟨nss,mQ⟩:∃nss:List (List Int),nss=Z'.map (·.2.2):=⟨_,rfl⟩;have kp:nss.Perm ms:=by rw [mQ];exact (pz.map _).trans hp
 have nl:nss.length=Z'.length:=by rw [mQ,ae]
 have rows:∀z∈Z',∃b,z.1.2=.ref b∧(b,z.2.2)∈ps∧TK prog w sh.heap z.2.2 b:=fun y hy=>by
  obtain⟨b,e1,e2⟩:=hm y (pz.mem_iff.mp hy);obtain⟨_,b',e3,e4⟩:=R y (pz.mem_iff.mp hy);rw [e1] at e3;cases e3
  exact⟨b,e1,e2,e4⟩
 have vO:(Z'.map ((fun e:Int × aj=>e.2) ∘ fun y:RowT=>y.1)).length < 64:=by rw [ae,yO];lia
 refine ab (uG ?_ (by rw [cV];lia));have oL:(h1.push (ic "list" (Z'.map ((fun e:Int × aj=>e.2) ∘ fun y:RowT=>y.1)).toArray 0)).get? h1.objs.size=some (ic "list" (Z'.map ((fun e:Int × aj=>e.2) ∘ fun y:RowT=>y.1)).toArray 0):=aV _ rfl;have gz:∀i,i < Z'.length→∃y∈Z',Z'[i]?=some y∧(Z'.map ((fun e:Int × aj=>e.2) ∘ fun y:RowT=>y.1)).getD i bE=y.1.2∧nss.getD i []=y.2.2:=fun i hi=>by
  refine⟨Z'[i],cS hi,af hi,?_,?_⟩
  ·rw [ai,aN,af hi];rfl
  ·rw [mQ,ai,aN,af hi];rfl
 have S:Sortable prog w A.in1.in1 h1 (Z'.map ((fun e:Int × aj=>e.2) ∘ fun y:RowT=>y.1)) (b0O true) OI (fun i=>nss.getD i []):=by
  refine W1 (nss:=nss) (by rw [ae,nl]) (fun i hi=>?_) fun _ h2 i hi=>?_
  ·rw [ae] at hi;obtain⟨y,hy,_,e1,e2⟩:=gz i hi;obtain⟨b,b1,_,b3⟩:=rows y hy;rw [e1,e2,b1];exact a1o (b5U b3) k1
  ·rw [ae] at hi h2;obtain⟨y,hy,_,_,e2⟩:=gz i hi;rw [e2];rcases fA with c|c
   ·lia
   ·exact c _ (kp.mem_iff.mp (by rw [mQ];exact aK.mpr ⟨y,hy,rfl⟩))
 refine ab (cM (cq slot_list_sort ⟨_,oL,rfl⟩ entry_list_sort (a5f (sh:={sh with heap:=h1.push (ic "list" (Z'.map ((fun e:Int × aj=>e.2) ∘ fun y:RowT=>y.1)).toArray 0),toks:=tk,drawn:=d}) S ((Kept.refl _).push _) (aD _) oL vO fun p h' e lh hu hk hz zX=>⟨_,rfl,?_⟩) (args_list_sort _)));rw [ae] at lh hu;have pm:∀j∈p.toList,j < Z'.length:=fun j hj=>bx.mp (lh.mem_iff.mp hj)
 let adr:aj→az:=fun v=>match v with|.ref b=>b|_=>0
 let dd:RowT:=((0,.none),0,[])
 let out:List (az × List Int):=p.toList.map fun i=>(adr (Z'.getD i dd).1.2,(Z'.getD i dd).2.2)
 have gd:∀i,i < Z'.length→Z'.getD i dd∈Z'∧nss.getD i []=(Z'.getD i dd).2.2∧(Z'.map ((fun e:Int × aj=>e.2) ∘ fun y:RowT=>y.1)).getD i bE=(Z'.getD i dd).1.2:=fun i hi=>by
  obtain⟨y,hy,e0,e1,e2⟩:=gz i hi;have:Z'.getD i dd=y:=by rw [ai,e0];rfl
  rw [this];exact⟨hy,e2,e1⟩
 have Ca:=fun b o (hb:sh.heap.get? b=some o)=>k1 b o hb
 refine ak ⟨_,rfl,q out h' tk e d h1.objs.size ?_ (fun p' nu=>?_) (k1.trans hk) z1 ?_⟩
 ·have e1:out.map (·.2)=p.toList.map fun i=>nss.getD i []:=by
   rw [bp];exact bS fun i hi=>((gd i (pm i hi)).2.1).symm
  rw [e1];refine a0z ((L1 (l:=nss) (by rw [nl];exact lh)).trans kp) (a7R lh hu)
 ·obtain⟨i,hi,rfl⟩:=aK.mp nu;obtain⟨b,b1,b2,_⟩:=rows _ (gd i (pm i hi)).1;rw [b1];exact b2
 ·rw [zX]
  congr 2;have:out.map (fun p=>a_ p.1)=p.toList.map fun i=>(Z'.map ((fun e:Int × aj=>e.2) ∘ fun y:RowT=>y.1)).getD i bE:=by
   rw [bp];refine bS fun i hi=>?_
   obtain⟨b,b1,_,_⟩:=rows _ (gd i (pm i hi)).1;rw [(gd i (pm i hi)).2.2,b1];show a_ (adr (Z'.getD i dd).1.2)=_;rw [b1]
  rw [this]
end
end VS
namespace VS
open PySem PySem.Spec L2
open PyProof.Rows (IntsAre seqObj)
section
variable {prog:bB}{w:bU}
def SetP(prog:bB)(w:bU)(ps:List (az × List Int))(h:cm)(a:az)(ms:List (List Int)):Prop:=∃o es ep t Z,h.get? a=some o∧o.ExactSet∧o.data=.set es ep t∧TabT t es Z∧t.led=(!w.params.followText "set-order")∧(∀z∈Z,z.1.1=hT prog w z.2.2)∧(Z.map (·.2.2)).Perm ms∧Z.length * 5 < t.mask * 3∧∀z∈Z,∃b,z.1.2=.ref b∧(b,z.2.2)∈ps
theorem SetT.toP{ps:List (az × List Int)}{h:cm}{a:az}{ms:List (List Int)}(x:SetT prog w ps h a ms):SetP prog w ps h a ms:=let⟨o,es,ep,t,Z,h1,h2,h3,h4,h5,h6,h7⟩:=x;⟨o,es,ep,t,Z,h1,h2,h3,h4,h5,fun z hz=>(h6 z hz).1,h7⟩
theorem SetP.toT{ps:List (az × List Int)}{h:cm}{a:az}{ms:List (List Int)}(x:SetP prog w ps h a ms)(hK:∀p∈ps,TK prog w h p.2 p.1):SetT prog w ps h a ms:=let⟨o,es,ep,t,Z,h1,h2,h3,h4,h5,h6,h7,h8,h9⟩:=x;⟨o,es,ep,t,Z,h1,h2,h3,h4,h5,fun z hz=>let⟨b,e1,e2⟩:=h9 z hz;⟨h6 z hz,b,e1,hK _ e2⟩,h7,h8,h9⟩
theorem b1g{vs:List aj}{ks:List Int}(h:IntsAre vs ks):ItemsAre (gf prog w) ks vs:=by
 induction h with
 | nil=>exact .nil
 | cons n t _ ih=>exact .cons (intKind_is _ _ _ _) ih
theorem b4d{h:cm}{b:az}{ks:List Int}(x:a5g true h (.ref b) ks):TK prog w h ks b:=by
 obtain⟨a,o,xs,m,e,h1,h2,h3,h4⟩:=(show ∃a' o xs m,a_ b=.ref a'∧h.get? a'=some o∧o.cls=.type "tuple"∧o.data=.seq xs m∧IntsAre xs.toList ks from x);cases e
 exact⟨o,xs,m,h1,h2,h3,b1g h4⟩
theorem Z6:∀(ks ms:List (List Int)) (k:List Int),k∈J1 ms ks↔k∈ms∨k∈ks
 | [],ms,k=>by simp [J1]
 | x :: ks,ms,k=>by
  rw [J1,Z6 ks,aH];by_cases c:x∈ms
  ·rw [aE c]
   constructor
   ·rintro (h|h)
    ·exact .inl h
    ·exact .inr (.inr h)
   ·rintro (h|rfl|h)
    ·exact .inl h
    ·exact .inl c
    ·exact .inr h
  ·rw [aJ c,aw,ar]
   constructor
   ·rintro ((h|h)|h)
    ·exact .inl h
    ·exact .inr (.inl h)
    ·exact .inr (.inr h)
   ·rintro (h|h|h)
    ·exact .inl (.inl h)
    ·exact .inl (.inr h)
    ·exact .inr h
theorem a5s:∀(ks ms:List (List Int)),(J1 ms ks).length≤ms.length + ks.length
 | [],ms=>by simp [J1]
 | x :: ks,ms=>by
  rw [J1,aW];refine bI (a5s ks _) ?_
  split
  ·lia
  ·rw [aM,bY];lia
end
def adV:V→az
 | .ref a=>a
 | _=>0
def a5t(ys:List V)(nss:List (List Int)):List (az × List Int):=(ys.zip nss).map fun p=>(adV p.1,p.2)
section
variable {X:Cx}{M:List Md}{a:Expr}{fa:EvE}{ca:Cat}{pos iy p p2:eM}{pins:List (az × eW)}{σ:L2.St}{H:Hp}{s:au}
theorem a7Z{K:ag}{H:Hp}:∀{ys:List V} {nss:List (List Int)},DenAll K H ys (nss.map (kD true))→ys.length=nss.length∧(∀(i:Nat) (y:V),ys[i]?=some y→∃k,nss[i]?=some k∧y=.ref (adV y)∧(adV y,k)∈a5t ys nss)∧∀p∈a5t ys nss,Den K H (.ref p.1) (kD true p.2):=by
 intro ys nss h;have hl:ys.length=nss.length:=by rw [h.length,ae]
 have one:∀(i:Nat) (k:List Int),nss[i]?=some k→∃y,ys[i]?=some y∧y=.ref (adV y)∧Den K H y (kD true k):=fun i k hk=>by
  obtain⟨v,hv,dv⟩:=h.get (show (nss.map (kD true))[i]?=some (kD true k) by rw [aN,hk];rfl);obtain⟨b,xs,rfl,_,_⟩:=(show Den K H v (.tuple (k.map .int)) from dv).tup_inv;exact⟨_,hv,rfl,dv⟩
 refine⟨hl,fun i y hy=>?_,fun p hp=>?_⟩
 ·have hi:i < nss.length:=by rw [←hl];exact (ay.mp hy).1
  obtain⟨y',h1,h2,h3⟩:=one i nss[i] (af hi);have:y'=y:=aP (h1.symm.trans hy);subst this;refine⟨_,af hi,h2,aK.mpr ⟨(y',nss[i]),ba (i:=i) ?_,rfl⟩⟩;rw [iX];exact⟨hy,af hi⟩
 ·obtain⟨⟨y,k⟩,hz,rfl⟩:=aK.mp hp;obtain⟨i,hi⟩:=fM hz;obtain⟨g1,g2⟩:=iX.mp hi;obtain⟨y',h1,h2,h3⟩:=one i k g2;have:y'=y:=aP (h1.symm.trans g1);subst this;show Den K H (.ref (adV y')) (kD true k);rw [←h2];exact h3
theorem a6S(hc:X.calm=true)(hu:X.A.units + 64 < dq):CallR X (.type "set") (fun xs H Q=>∃(p:az) (ys:List V) (nss:List (List Int)),xs=[.ref p]∧SqX X.K H p ys∧DenAll X.K H ys (nss.map (kD true))∧nss.length≤16∧∀z,H z=none→Q (.ref z) (upd H z (.ext fun h=>SetP X.prog X.w (a5t ys nss) h z (J1 [] nss)))):=by
 intro pins s σ H xs us Q I rv h;obtain⟨p,ys,nss,rfl,hp,hd,hn,q⟩:=h;obtain⟨u,rfl,rx⟩:=vals1 rv;cases (show u=a_ p from rx)
 obtain⟨_,cE,n,nE,ho⟩:=hp.ok I;have hl:s.heap.IsList p cE.toArray:=⟨_,ho,rfl,n,rfl⟩;obtain⟨hlen,AQ,kq⟩:=a7Z hd;have hK:∀q∈a5t ys nss,TK X.prog X.w s.heap q.2 q.1:=fun q hq=>b4d (a4h (kt:=true) I (kq q hq) (show RelV (.ref q.1) (.ref q.1) from rfl) fun z=>by cases z)
 have hz:cE.length=nss.length:=by rw [←nE.length,hlen]
 refine a9j (ps:=a5t ys nss) (kss:=nss) (I.ok.hd hc) hl (by rw [aX,hz]) (fun i v hv=>?_) hK (by rw [aX,hz];exact hn) (by lia) fun h' tk hS hk=>?_
 ·rw [jQ] at hv;have hi:i < ys.length:=by rw [nE.length];exact (ay.mp hv).1
  obtain⟨k,k1,k2,k3⟩:=AQ i ys[i] (af hi);obtain⟨u,nt,ru⟩:=nE.get (af hi);have:u=v:=aP (nt.symm.trans hv);subst this;rw [k2] at ru;exact⟨_,k,show u=a_ _ from ru,k1,k3⟩
 ·have oS:H s.heap.objs.size=none:=I.hok.fresh (aD _);exact⟨.ref s.heap.objs.size,_,I.laid (a:=s.heap.objs.size) (o:=.ext fun h=>SetP X.prog X.w (a5t ys nss) h s.heap.objs.size (J1 [] nss)) (t':=tk) hk (aD _) ⟨hS.toP,let⟨o,_,_,_,_,e,_⟩:=hS;⟨o,e⟩,fun _ _ x k=>let⟨o,es,ep,t,Z,e,r⟩:=x;⟨o,es,ep,t,Z,k _ e,r⟩⟩,rfl,q _ oS⟩
theorem a5u(hc:X.calm=true):CallR X (.builtin "sorted") (fun xs H Q=>∃p ms ps,xs=[V.ref p]∧H p=some (.ext fun h=>SetP X.prog X.w ps h p ms)∧(∀q∈ps,Den X.K H (.ref q.1) (kD true q.2))∧ms.length < 17∧(ms.length < 2∨∀k∈ms,k≠[])∧∀z out,H z=none→DenAll X.K H out ((K6 ms).map (kD true))→Q (.ref z) (upd H z (.lst out))):=by
 intro pins s σ H xs us Q I rv h;obtain⟨p,ms,ps,rfl,hH,kq,A_,fA,q⟩:=h;obtain⟨u,rfl,rx⟩:=vals1 rv;cases (show u=a_ p from rx)
 obtain⟨hP,_,_⟩:=(show (SetP X.prog X.w ps s.heap p ms)∧_∧_ from I.hok p _ hH);have hK:∀q∈ps,TK X.prog X.w s.heap q.2 q.1:=fun q hq=>b4d (a4h (kt:=true) I (kq q hq) (show RelV (.ref q.1) (.ref q.1) from rfl) fun z=>by cases z)
 refine a5r (I.ok.hd hc) (hP.toT hK) A_ fA fun out h' tk e d y ho hm hk hy hl=>?_
 have hn:H y=none:=I.hok.fresh hy;have ol:out.length=ms.length:=by have:=eG fL ho;rw [ae,(q9 ms).length_eq] at this;exact this
 have dn:∀l:List (az × List Int),(∀q∈l,q∈ps)→DenAll X.K H (l.map fun q=>V.ref q.1) ((l.map (·.2)).map (kD true))∧Vals (l.map fun q=>V.ref q.1) (l.map fun q=>a_ q.1):=by
  intro l
  induction l with
  | nil=>intro _;exact⟨denAll_nil,.nil⟩
  | cons x l ih=>
   intro hx;obtain⟨i1,i2⟩:=ih fun q hq=>hx q (ah _ hq)
   exact⟨denAll_cons (kq x (hx x aq)) i1,.cons rfl i2⟩
 obtain⟨d1,d2⟩:=dn out hm;rw [ho] at d1;exact⟨.ref y,_,a9e (I.laid (a:=y) (o:=.lst (out.map fun q=>V.ref q.1)) (t':=tk) hk hy ⟨by rw [ae,ol,cV];lia,_,e,d2,hl⟩) d,rfl,q y _ hn d1⟩
def b3q(nss:List (List Int)):Bool:=decide (nss.length≤16) && (decide ((J1 [] nss).length < 2) || nss.all fun ns=>!ns.isEmpty)
def M9(a:EvE):EvE:=fun ρ=>(a ρ).bind fun d=>(asL d).bind fun ds=>(a1W true ds).bind fun nss=>if b3q nss then some (.list ((K6 (J1 [] nss)).map (kD true))) else none
theorem a5v(hc:X.calm=true)(hu:X.A.units + 64 < dq)(hm:X.mg "set"=none)(xR:X.mg "sorted"=none)(ha:PX X M a fa ca)(hg:Gl X "set":=by rfl)(vU:Gl X "sorted":=by rfl)(he:aF [a] X.env=(false,cO a X.env) :: aF [] X.env:=by rfl)(gG:(cP iy (aF [] X.env)).any (·.1)=false:=by rfl)
  (nP:aF [.Call (.Name "set" p2) [a] [] iy] X.env=(false,cO (.Call (.Name "set" p2) [a] [] iy) X.env) :: aF [] X.env:=by rfl) (qB:(cP pos (aF [] X.env)).any (·.1)=false:=by rfl) :
  PX X M (.Call (.Name "sorted" p) [.Call (.Name "set" p2) [a] [] iy] [] pos) (M9 fa) (.new (.l .i)):=by
 obtain⟨ta,pa,qa⟩:=ha.out;refine .mk ⟨_,Q3 (a5u hc) vU xR PyProof.Rows.Boot.«sorted» (l3 (L6 (a6S hc hu) hg hm PyProof.Rows.Boot.«set» (l3 pa r9 he) (by decide) (by decide) he gG) r9 nP) (by decide) (by decide) nP qB,fun ρ σ H P F d Q S hf q=>?_⟩;obtain⟨x,h1,g1⟩:=bnd hf;obtain⟨ds,h2,g2⟩:=bnd g1;obtain⟨nss,h3,g3⟩:=bnd g2;cases F7 h2
 obtain⟨e1,_⟩:=X4 h3;by_cases c:b3q nss=true
 ·rw [aE c] at g3;cases g3
  rw [b3q,aA,fq,gv,gv] at c;refine qa ρ σ H P F _ _ S h1 fun v H1 w1 r1=>?_
  obtain⟨pp,ys,rfl,k1,k2⟩:=r1.den.list_inv;rw [e1] at k2;refine⟨pp,ys,nss,rfl,k1,k2,c.1,fun z hz=>?_⟩;have e2:=k9 hz (.ext fun h=>SetP X.prog X.w (a5t ys nss) h z (J1 [] nss));refine⟨z,_,a5t ys nss,rfl,i6,fun q hq=>((a7Z k2).2.2 q hq).up e2,by have:=a5s nss [];simp at this;lia,?_,fun y out hy ho=>?_⟩
  ·rcases c.2 with c|c
   ·exact .inl c
   ·refine .inr fun k hk=>?_
    rcases (Z6 nss [] k).mp hk with z|z
    ·cases z
    ·have:=dc.mp c k z;intro e;subst e;cases this
  ·exact q _ _ ((w1.trans e2).trans (k9 hy _)) (U4 ho (a4g true _) (w1.trans e2) hy (S.lst' (w1.trans e2)))
 ·rw [aJ c] at g3;cases g3
end
end VS
namespace L2
open PySem
theorem Has.u(h:Has P w K mg base x i ps sp)(l:i≤j:=by decide):Has P w K mg base x j ps sp:=h.up l
end L2
namespace VS
open PySem PySem.Spec PyProof.Rows L2
structure DP (K:ag) (mg:bM→Option aj) (x:bM) (st:g_):Prop where
 ex:∃f fd,Fun K x x st f fd∧jx K cC x=some (some (.ref f))∧mg x=some (.ref f)
section
variable {P:bB}{w:bU}{K:ag}{mg:bM→Option aj}{base h:cm}{x:bM}{st:g_}{N ps:List bM}{k n:Nat}{us:List Ty}{u wt:Ty}{g:EvS}{sp:Sp}
theorem b7r{f:az}{oc:aj}{od an:Option az}{nG:Array (Option aj)}{kV doc pm gg ct:aj}(X:K.In h)(G:h.Ns cC mg)(a:jx K cC x=some (some (.ref f)))(l:K.lookup f=some ⟨oc,od,.func (eX x x (N5 st) (B1 st) (j6 st) .none kV doc pm an gg ct),nG⟩)
  (c:kg K gg x=true) (k:fJ K (.ref f)=true):DP K mg x st:=⟨_,_,b4O l c k,a,kJ X G a⟩
theorem b8G(X:K.In h)(G:h.Ns cC mg)(a:jx K cC x=some (some (.int i t))):∃t,mg x=some (.int i t):=⟨t,kJ X G a⟩
abbrev BBy(x:bM)(st:g_)(ps:List bM):Prop:=∀(kV doc pm:aj) (an:Option az) (gg ct:aj) (us:List aj),us.length=ps.length→bindArgs (eX x x (N5 st) (B1 st) (j6 st) .none kV doc pm an gg ct) ⟨us,[]⟩=pure (ps.zip us)
theorem n8(d:DP K mg x st)(h:∀f fd,Fun K x x st f fd→FnOk P w K mg base CX0 k f fd ps sp)(b:BBy x st ps:=by intro _ _ _ _ _ _ us hl;first|(obtain⟨_,rfl⟩:=b8B hl;rfl)|(obtain⟨_,_,rfl⟩:=len2 hl;rfl)|(obtain⟨_,_,_,rfl⟩:=b8C hl;rfl)|(obtain⟨_,_,_,_,rfl⟩:=b8D hl;rfl)|(obtain⟨_,_,_,_,_,rfl⟩:=b8E hl;rfl)|(obtain⟨_,_,_,_,_,_,rfl⟩:=b8F hl;rfl)):Has P w K mg base x k ps sp:=by
 obtain⟨f,fd,F,a,m⟩:=d.ex;exact⟨f,fd,h f fd F,F.binds b,F.kp,m⟩
theorem fnF(F:Fun K x x st f fd)(N:List bM)(hb:∀(S:FnScope N ps (j6 st)) (gg:aj) (A:bT) (outer:List tW) (s:au) (H:Hp) (E:XK),Room k (A.deeper (kj x (j6 st) s.heap.objs.size f gg))→PSsX (a2x CX0 P w K mg base N x (j6 st) f gg A outer s H E).nox u [] (us.map .own ++ bu n .dead) (B1 st) g [])
  (S:FnScope N ps (j6 st):=by exact⟨rfl,rfl,rfl,by decide +kernel,rfl,by decide +kernel,by decide +kernel⟩) (qx:us.length=ps.length:=by rfl) (hn:N.length=ps.length + n:=by rfl):FnOk P w K mg base CX0 (k + 1) f fd ps (spD K ps.length (fnD us n g) u):=b2Q F S qx hn (hb S)
theorem b8H(F:Fun K x x st f fd)(N:List bM)(M':List Md)(hb:∀(S:FnScope N ps (j6 st)) (gg:aj) (A:bT) (outer:List tW) (s:au) (H:Hp) (E:XK),Room k (A.deeper (kj x (j6 st) s.heap.objs.size f gg))→PSsX (a2x CX0 P w K mg base N x (j6 st) f gg A outer s H E).nox .i [] (us.map .own ++ bu n .dead) (B1 st) g M')
  (S:FnScope N ps (j6 st):=by exact⟨rfl,rfl,rfl,by decide +kernel,rfl,by decide +kernel,by decide +kernel⟩) (qx:us.length=ps.length:=by rfl) (hn:N.length=ps.length + n:=by rfl):FnOk P w K mg base CX0 (k + 1) f fd ps (spD K ps.length (fnN us n g) .i):=b0r F S qx hn (hb S)
theorem b5V(vW:mg x=some (.ref fa))(d:DP K mg x st)(h:∀base:cm,K.In base→base.Ns cC mg→∀fd,Fun K x x st fa fd→FnOk P w K mg base CX0 k fa fd [p] sp)(b:∀(kV doc pm:aj) (an:Option az) (gg ct v:aj),bindArgs (eX x x (N5 st) (B1 st) (j6 st) .none kV doc pm an gg ct) ⟨[v],[]⟩=pure [(p,v)]:=by intros;rfl) :
  ∃fd:dC,(∀(s:au) (v:aj),lR s fd ⟨[v],[]⟩ [(p,v)])∧∀base:cm,K.In base→base.Ns cC mg→FnOk P w K mg base CX0 k fa fd [p] sp:=by
 obtain⟨f,fd,F,a,m⟩:=d.ex;rw [vW] at m;cases m
 refine⟨fd,fun s v=>?_,fun base X G=>h base X G fd F⟩;obtain⟨oc,od,kV,doc,pm,an,gg,ct,nG,rfl,lk,hW⟩:=F.ex;exact .of_eq (b kV doc pm an gg ct v)
end
section
variable {X:Cx}{M:List Md}{e e0:Expr}{es:List Expr}{fe:EvE}{f:EvA}{c:Cat}{u:Ty}{pos p:eM}{x:bM}
abbrev mdF:Md:=.own .f
abbrev mdI:Md:=.own .i
abbrev mdL:Md:=.own (.l .i)
abbrev D8:Md:=.own (.l (.l .i))
abbrev mdD:Md:=.dead
theorem c8(i:Nat)(hN:X.N[i]?=some x:=by rfl)(hv:Vis X.env.scope x:=by first|exact bO rfl|exact bQ (bO rfl)|exact bQ (bQ rfl))(hd:(x == ("__debug__":bM))=false:=by decide)(hW:(x == ("__classdict__":bM))=false:=by decide)(hm:M[i]?=some (.own .f):=by rfl):PX X M (.Name x pos) (a7 i) (.bor .f):=p9 i hN hv hd hW hm
theorem c9(i:Nat)(hN:X.N[i]?=some x:=by rfl)(hv:Vis X.env.scope x:=by first|exact bO rfl|exact bQ (bO rfl)|exact bQ (bQ rfl))(hd:(x == ("__debug__":bM))=false:=by decide)(hW:(x == ("__classdict__":bM))=false:=by decide)(hm:M[i]?=some (.own .i):=by rfl):PX X M (.Name x pos) (a7 i) (.bor .i):=p9 i hN hv hd hW hm
theorem p6(i:Nat)(hN:X.N[i]?=some x:=by rfl)(hv:Vis X.env.scope x:=by first|exact bO rfl|exact bQ (bO rfl)|exact bQ (bQ rfl))(hd:(x == ("__debug__":bM))=false:=by decide)(hW:(x == ("__classdict__":bM))=false:=by decide)(hm:M[i]?=some (.own (.l .i)):=by rfl):PX X M (.Name x pos) (a7 i) (.bor (.l .i)):=p9 i hN hv hd hW hm
theorem x9(i:Nat)(hN:X.N.Nodup)(hi:X.N[i]?=some x:=by rfl)(hx:Loc X.env.scope x:=by first|exact bO rfl|exact bQ rfl)(hf:X.fn x=true∨X.env.scope.names.lookup x=some .local:=by first|exact .inl rfl|exact .inr rfl|assumption):PG X (.Name x pos) (J4 i):=o8 hN hi hx hf
theorem v8(hm:X.mg "len"=none)(h:PX X M e fe c)(hg:Gl X "len":=by rfl)(he:aF [e] X.env=(false,cO e X.env) :: aF [] X.env:=by rfl)(gG:(cP pos (aF [] X.env)).any (·.1)=false:=by rfl):PX X M (.Call (.Name "len" p) [e] [] pos) (eCl A8 (a8 fe e7)) (.new .i):=a1E b4U hm PySem.boot_len (b7 h g8 he) hg (by decide) (by decide) he gG
theorem l8(W:Has X.prog X.w X.K X.mg X.base x k ps (spD X.K n m u))(hr:Room k X.A)(h:PAX X M (e0 :: es) f)(hu:u.shut=true:=by rfl)(hl:(e0 :: es).length=n:=by rfl)(hfl:∀ρ ds,f ρ=some ds→ds.length=(e0 :: es).length:=by first|exact j9 J9|exact j9 (j9 J9)|exact j9 (j9 (j9 J9))|exact j9 (j9 (j9 (j9 J9)))|exact j9 (j9 (j9 (j9 (j9 J9)))))
  (hg:Gl X x:=by rfl) (l_:(x == ("__debug__":bM))=false:=by decide) (he:aF (e0 :: es) X.env=(false,cO e0 X.env) :: aF es X.env:=by rfl) (gG:(cP pos (aF es X.env)).any (·.1)=false:=by rfl) :
  PX X M (.Call (.Name x p) (e0 :: es) [] pos) (eCl m f) (.new u):=U6 W hr h hu hl hfl hg l_ he gG
theorem C8(hu:X.A.units + 64 < dq:=by exact Room.units (by assumption)):OpS X (bR .Eq) dEq:=os_eq hu
theorem b1h(hu:X.A.units + 64 < dq:=by exact Room.units (by assumption)):OpS X (bR .NotEq) dNe:=b6L hu
end
end VS
namespace VS
open PySem L2
section
variable {a b c:EvE}{ρ:List D}{d x y:D}
def chE(g':D→D→Option D):Option D→Option D→EvE→List D→Option D
 | some (.bool true),some y,c,ρ=>l2 g' (some y) (c ρ)
 | some (.bool false),some _,_,_=>some (.bool false)
 | _,_,_,_=>none
theorem b8I:eCh g g' a b c ρ=chE g' (l2 g (a ρ) (b ρ)) (b ρ) c ρ:=by
 unfold eCh;cases a ρ with
 | none=>rfl
 | some x=>
  cases b ρ with
  | none=>rfl
  | some y=>
   show (g x y).bind _=chE g' (g x y) (some y) c ρ;cases g x y with
   | none=>rfl
   | some z=>
    cases z with
    | bool k=>
     cases k with
     | false=>rfl
     | true=>cases h:c ρ <;> simp [chE,asB,h,l2]
    | _=>rfl
theorem b1i:chE g' (some (.bool true)) (some y) c ρ=l2 g' (some y) (c ρ):=rfl
theorem b7s:chE g' (some (.bool false)) (some y) c ρ=some (.bool false):=rfl
theorem b8J:(true == true)=true:=rfl
theorem b8K:(true == false)=false:=rfl
theorem b8L:(false == true)=false:=rfl
theorem b8M:(false == false)=true:=rfl
theorem b8N:(true != true)=false:=rfl
theorem b8O:(true != false)=true:=rfl
theorem b8P:(false != true)=true:=rfl
theorem b8Q:(false != false)=false:=rfl
theorem trB:tr (.bool k)=some k:=rfl
theorem b7t:asB (.bool k)=some k:=rfl
theorem b1j:isN .none=true:=rfl
theorem b3r:isN (.int i)=false:=rfl
theorem b1k:isN (.bool i)=false:=rfl
theorem b1l:isN (.list ds)=false:=rfl
theorem b3s:isN (.tuple ds)=false:=rfl
theorem b5W:a4J k x .none=some (.bool (k != isN x)):=rfl
theorem a9k:isInt (.int i)=true:=rfl
theorem a6T:isInt (.bool i)=true:=rfl
theorem a6U:isInt .none=false:=rfl
theorem a6V:isInt (.list ds)=false:=rfl
theorem a9l:isInt (.tuple ds)=false:=rfl
theorem a9m:isInt (.str s)=false:=rfl
theorem a6W:isInt (.dict s)=false:=rfl
theorem a6X:isBool (.int i)=false:=rfl
theorem a5w:isBool (.bool i)=true:=rfl
theorem a5x:isBool .none=false:=rfl
theorem a5y:isBool (.list ds)=false:=rfl
theorem a6Y:isBool (.tuple ds)=false:=rfl
theorem a6Z:isBool (.str s)=false:=rfl
theorem a5z:isBool (.dict s)=false:=rfl
theorem isList_list:isList (.list ds)=true:=rfl
theorem isList_int:isList (.int i)=false:=rfl
theorem a5A:isList .none=false:=rfl
theorem isList_bool:isList (.bool i)=false:=rfl
theorem a7a:isList (.tuple ds)=false:=rfl
theorem isList_str:isList (.str s)=false:=rfl
theorem isList_dict:isList (.dict s)=false:=rfl
theorem a5B:a3Z (.tuple ds)=true:=rfl
theorem isTuple_list:a3Z (.list ds)=false:=rfl
theorem isTuple_int:a3Z (.int i)=false:=rfl
def lIs:Option D→Option D
 | some d=>b0g d
 | none=>none
theorem b1m:eI a ρ=lIs (a ρ):=by unfold eI;cases a ρ <;> rfl
theorem b1n(h:e6 ds=true):lIs (some (.list ds))=some (.list ds):=by
 show (if e6 ds=true then some (eT ds) else none)=_;rw [aE h]
def a5C:Option D→Option D
 | some (.list ds)=>some (.list ds)
 | some (.tuple ds)=>some (.list ds)
 | _=>none
theorem a4l:J7 a ρ=a5C (a ρ):=by
 unfold J7;cases a ρ with
 | none=>rfl
 | some d=>cases d <;> rfl
theorem b7u:a5C (some (.list ds))=some (.list ds):=rfl
theorem b7v:a5C (some (.tuple ds))=some (.list ds):=rfl
def lL:Option D→Option (List D)
 | some d=>asL d
 | none=>none
theorem b5X:iL a ρ=lL (a ρ):=by unfold iL;cases a ρ <;> rfl
theorem b8R:lL (some (.list ds))=some ds:=rfl
def lII:Option (List D)→Option (List D)
 | some ds=>if e6 ds then some ds else none
 | none=>none
theorem b7w:iI f ρ=lII (f ρ):=by unfold iI;cases f ρ <;> rfl
theorem a2d(h:f ρ=some ds)(hi:e6 ds=true):iI f ρ=some ds:=by rw [b7w,h];show (if e6 ds=true then some ds else none)=_;rw [aE hi]
theorem X7{ds:List D}(h:ds.length < 1000000):b2W i (.list ds) (some d) ρ=some (.nx (ρ.set i (.list (ds ++ [d])))):=a4d h
theorem b5Y:u5 i ρ d=some (ρ.set i d):=rfl
theorem b5Z:a6q i j ρ (.tuple [x,y])=some ((ρ.set i x).set j y):=rfl
theorem b7x:pt1 d=some [d]:=rfl
theorem b7y:pt2 (.tuple [x,y])=some [x,y]:=rfl
theorem b8S:tT ρ=some true:=rfl
end
theorem E9(P:List D→Prop)(h1:∃ρ,o=some (.nx ρ)∧P ρ)(h2:∀ρ,P ρ→a2D (s ρ)=R):a2D (thn o s)=R:=by
 obtain⟨ρ,rfl,h⟩:=h1;exact h2 ρ h
theorem K0{R:Option D→Prop}(P:List D→Prop)(h1:∃ρ,o=some (.nx ρ)∧P ρ)(h2:∀ρ,P ρ→R (a2D (s ρ))):R (a2D (thn o s)):=by
 obtain⟨ρ,rfl,h⟩:=h1;exact h2 ρ h
theorem a5D(f:D→D):∀{ds:List D},(∀d∈ds,∃bs,pt d=some bs∧g (bs ++ cs)=some (f d))→D9 pt tT g cs ds=some (ds.map f)
 | [],_=>rfl
 | d :: ds,h=>by
  obtain⟨bs,h1,h2⟩:=h d aq;have ih:=a5D f (ds:=ds) fun e he=>h e (ah _ he)
  show (pt d).bind _=_;rw [h1];show (g (bs ++ cs)).bind _=_;rw [h2];show (D9 pt tT g cs ds).bind _=_;rw [ih];rfl
theorem a2e{js:List Nat}(f:D→D)(hf:fi ρ=some ds)(hl:ds.length≤1000000)(h:∀d∈ds,∃bs,pt d=some bs∧g (bs ++ js.map fun j=>ρ.getD j .none)=some (f d)) :
  m8 fi js pt tT g ρ=some (.list (ds.map f)):=by
 unfold m8;rw [hf];show (if ds.length≤1000000 then _ else none)=_;rw [aE hl,a5D f h];rfl
theorem a4m{js:List Nat}(f:Nat→D)(ha:a ρ=some (.int n))(h0:0≤n)(h1:n≤1000000)(h:∀k:Nat,(k:Int) < n→g (.int k :: js.map fun j=>ρ.getD j .none)=some (f k)) :
  m8 (iR a) js pt1 tT g ρ=some (.list ((aG n.toNat).map f)):=by
 rw [a2e (ds:=A6 0 n.toNat) (fun d=>match d with|.int i=>f i.toNat|_=>.none) (a4V ha h0 (by lia)) (by rw [a1O];lia)]
 ·unfold A6;rw [bp]
  congr 2;refine bS fun k _=>?_
  show f (0 + (k:Int)).toNat=f k
  congr 1;lia
 ·intro d hd;unfold A6 at hd;obtain⟨k,hk,rfl⟩:=aK.mp hd;have:=bx.mp hk;refine⟨_,rfl,?_⟩;have e:(0:Int) + (k:Int)=k:=by lia
  rw [e];exact h k (by lia)
theorem E3(f:α→D)(h:∀x,imm (f x)=true):∀xs:List α,e6 (xs.map f)=true
 | []=>by simp only [cK,e6]
 | x :: xs=>by simp only [aB,e6,h x,E3 f h xs,eL]
end VS
namespace Prog
open PySem L2 VS
abbrev iD(ns:List Int):D:=.list (ns.map .int)
end Prog
namespace VS
open PySem L2
mutual
theorem eqv_refl:∀d:D,d.canLay0=true→aI d d=true
 | .none,_=>by simp [aI]
 | .bool b,_=>by simp [aI]
 | .int i,_=>by simp [aI]
 | .str x,_=>by simp [aI]
 | .list xs,h=>by
  simp only [cn] at h;simp only [aI];exact eqvAll_refl xs h
 | .tuple xs,h=>by
  simp only [cn] at h;simp only [aI];exact eqvAll_refl xs h
 | .dict _,h=>by simp [cn] at h
theorem eqvAll_refl:∀xs:List D,aL xs=true→b_ xs xs=true
 | [],_=>by simp only [b_]
 | x :: xs,h=>by
  simp only [aL,aA] at h;simp only [b_,aA];exact⟨eqv_refl x h.1,eqvAll_refl xs h.2⟩
end
theorem b1o{a b:D}(ha:a.canLay0=true)(hb:b.canLay0=true)(hd:a.depth≤60):dEq a b=some (.bool (aI a b)):=by
 unfold dEq a8C;rw [ha,hb,aO hd];simp
theorem b7z{a b:D}(ha:a.canLay0=true)(hb:b.canLay0=true)(hd:a.depth≤60):dNe a b=some (.bool (!aI a b)):=by
 unfold dNe a8C;rw [ha,hb,aO hd];simp
theorem b4e{a:D}(ha:a.canLay0=true)(hd:a.depth≤60):dEq a a=some (.bool true):=by rw [b1o ha ha hd,eqv_refl a ha]
theorem b7A{a:D}(ha:a.canLay0=true)(hd:a.depth≤60):dNe a a=some (.bool false):=by rw [b7z ha ha hd,eqv_refl a ha];rfl
theorem J2(f:α→D)(h:∀x,(f x).canLay0=true):∀xs:List α,aL (xs.map f)=true
 | []=>by simp only [cK,aL]
 | x :: xs=>by simp only [aB,aL,h x,J2 f h xs,eL]
theorem E4(f:α→D)(n:Nat)(h:∀x,(f x).depth≤n):∀xs:List α,cU (xs.map f)≤n
 | []=>by simp only [cK,cU];exact bC _
 | x :: xs=>by
  simp only [aB,cU];exact Nat.max_le.mpr ⟨h x,E4 f n h xs⟩
theorem b3t:(aU i).canLay0=true:=by simp only [cn]
theorem U8:(aU i).depth=0:=by simp only [dA]
theorem lay_ints(ns:List Int):(eT (ns.map .int)).canLay0=true:=by
 simp only [cn];exact J2 _ (fun _=>b3t) ns
theorem a2f(ns:List Int):(eT (ns.map .int)).depth≤1:=by
 simp only [dA];have:=E4 aU 0 (fun x=>by rw [U8];exact aD _) ns;lia
theorem a2g:∀(xs ys:List Int),b_ (xs.map aU) (ys.map aU)=decide (xs=ys)
 | [],[]=>by simp [b_]
 | [],_ :: _=>by simp [b_]
 | _ :: _,[]=>by simp [b_]
 | x :: xs,y :: ys=>by
  have:aI (.int x) (.int y)=decide (x=y):=by
   show (x == y)=decide (x=y);exact gN x y
  simp only [aB,b_,this,a2g xs ys,nh];by_cases h1:x=y <;> by_cases h2:xs=ys <;> simp [h1,h2]
theorem b7B{xs ys:List Int}:dEq (.list (xs.map .int)) (.list (ys.map .int))=some (.bool (decide (xs=ys))):=by
 rw [b1o (lay_ints _) (lay_ints _) (bI (a2f _) (by decide))];simp only [aI,a2g]
def b7C:Option D→Option D→Option D
 | some (.list ds),some (.list es)=>if ds.length + es.length≤aT then some (.list (ds ++ es)) else none
 | _,_=>none
theorem a5E:a6m a b ρ=b7C (a ρ) (b ρ):=by
 unfold a6m;cases a ρ with
 | none=>rfl
 | some x=>
  cases x with
  | list ds=>
   cases b ρ with
   | none=>rfl
   | some y=>cases y <;> rfl
  | _=>cases b ρ <;> rfl
theorem a7b{ds es:List D}(h:ds.length + es.length≤16777216):b7C (some (.list ds)) (some (.list es))=some (.list (ds ++ es)):=by
 show (if ds.length + es.length≤aT then _ else _)=_;rw [aE (show ds.length + es.length≤aT from h)]
def lSl:Option D→Option (Option Int)→Option (Option Int)→Option D
 | some (.list ds),some l,some h=>some (.list (cutD ds l h))
 | _,_,_=>none
theorem b3u:eSl a lo hi ρ=lSl (a ρ) (lo ρ) (hi ρ):=by
 unfold eSl;cases a ρ with
 | none=>rfl
 | some x=>
  cases x with
  | list ds=>
   cases lo ρ with
   | none=>rfl
   | some y=>cases hi ρ <;> rfl
  | _=>cases lo ρ <;> cases hi ρ <;> rfl
theorem b1p:lSl (some (.list ds)) (some l) (some h)=some (.list (cutD ds l h)):=rfl
theorem a8a:oNo ρ=some none:=rfl
def lO:Option D→Option (Option Int)
 | some (.int i)=>some (some i)
 | _=>none
theorem a8b:oSo a ρ=lO (a ρ):=by
 unfold oSo;cases a ρ with
 | none=>rfl
 | some x=>cases x <;> rfl
theorem b3v:lO (some (.int i))=some (some i):=rfl
theorem b1q{ds:List D}{k:Int}(h0:0≤k)(h1:k≤ds.length):cutD ds none (some k)=ds.take k.toNat:=by
 unfold cutD HT.sIx
 dsimp only
 rw [aJ (by lia),List.drop_zero,Nat.sub_zero,m_ (by lia)]
theorem a3n(f:α→Bool):∀xs:List α,a0N (xs.map fun x=>cw (f x))=some (xs.map f)
 | []=>rfl
 | x :: xs=>by
  show (a0N (xs.map fun x=>cw (f x))).map (f x :: ·)=_;rw [a3n f xs];rfl
theorem v_all(f:α→Bool)(xs:List α):b4X [.list (xs.map fun x=>cw (f x))]=some (.bool (xs.all f)):=by
 show (a0N (xs.map fun x=>cw (f x))).map (fun bs=>cw (bs.all id))=_;rw [a3n];simp [List.all_map]
end VS
namespace VS
open PySem L2
theorem y8{xs:List Int}:lIs (some (.list (xs.map .int)))=some (.list (xs.map .int)):=b1n (n6 _)
theorem b7D{xs:List Int}{k:Int}(h0:0≤k)(h1:k≤xs.length):lSl (some (.list (xs.map .int))) (some none) (some (some k))=some (.list ((xs.take k.toNat).map .int)):=by
 rw [b1p,b1q h0 (by simpa using h1),kK]
end VS
namespace VS
open PySem L2
theorem a4n:aI (.int x) (.int y)=decide (x=y):=by
 show (x == y)=decide (x=y);exact gN x y
end VS
namespace VS
open PySem L2
theorem at0{α:Type}{x:α}{xs:List α}:L2.atI (x :: xs) 0=some x:=by
 unfold L2.atI ixN;rw [aE (by decide),aE (by simp only [aW];lia)];rfl
theorem at1{α:Type}{x y:α}{xs:List α}:L2.atI (x :: y :: xs) 1=some y:=by
 unfold L2.atI ixN;rw [aE (by decide),aE (by simp only [aW];lia)];rfl
end VS
namespace VS
open PySem L2
theorem C9{enc:α→D}{set:List D→D→Option (List D)}{xs:List α}(I:List α→List D→Prop)(h0:I [] ρ)
  (step:∀pre x post,xs=pre ++ x :: post→∀ρ,I pre ρ→∃ρ1 ρ2,set ρ (enc x)=some ρ1∧g ρ1=some (.nx ρ2)∧I (pre ++ [x]) ρ2) :
  ∃ρ',R4 set g (xs.map enc) ρ=some (.nx ρ')∧I xs ρ':=by
 have key:∀(post pre:List α) (ρ:List D),xs=pre ++ post→I pre ρ→∃ρ',R4 set g (post.map enc) ρ=some (.nx ρ')∧I xs ρ':=by
  intro post
  induction post with
  | nil=>
   intro pre ρ e h;rw [bV] at e;subst e;exact⟨ρ,rfl,h⟩
  | cons x post ih=>
   intro pre ρ e h;obtain⟨ρ1,ρ2,h1,h2,h3⟩:=step pre x post e ρ h;obtain⟨ρ',h4,h5⟩:=ih (pre ++ [x]) ρ2 (by rw [e,be];rfl) h3;refine⟨ρ',?_,h5⟩;show (set ρ (enc x)).bind _=_;rw [h1];show (g ρ1).bind _=_;rw [h2];exact h4
 exact key xs [] ρ rfl h0
theorem a0B:A6 0 n=(aG n).map fun (k:Nat)=>aU k:=by
 unfold A6;refine bS fun k _=>?_
 show aU (0 + (k:Int))=.int k;rw [Int.zero_add]
theorem a5F(h:aG n=pre ++ x :: post):x=pre.length∧x < n∧pre=aG x:=by
 have hx:(aG n)[pre.length]?=some x:=by rw [h];simp
 have iS:pre.length < n:=by have:=eG fL h;simp at this;lia
 rw [eQ iS] at hx;have e:x=pre.length:=(aP hx).symm;refine⟨e,by lia,?_⟩;have:=eG (List.take pre.length) h;rw [List.take_append_of_le_length (aD _),List.take_length,CI,m_ (by lia)] at this;rw [e,this]
theorem E5{set:List D→D→Option (List D)}(I:Nat→List D→Prop)(h0:I 0 ρ)
  (step:∀k,k < n→∀ρ,I k ρ→∃ρ1 ρ2,set ρ (.int k)=some ρ1∧g ρ1=some (.nx ρ2)∧I (k + 1) ρ2) :
  ∃ρ',R4 set g (A6 0 n) ρ=some (.nx ρ')∧I n ρ':=by
 rw [a0B];obtain⟨ρ',h1,h2⟩:=C9 (enc:=fun (k:Nat)=>aU k) (set:=set) (g:=g) (xs:=aG n) (ρ:=ρ) (fun pre ρ=>I pre.length ρ) h0 fun pre x post e ρ h=>by
  obtain⟨e1,e2,_⟩:=a5F e;subst e1;obtain⟨ρ1,ρ2,a,b,c⟩:=step pre.length e2 ρ h;exact⟨ρ1,ρ2,a,b,by rw [aM];exact c⟩
 rw [bz] at h2;exact⟨ρ',h1,h2⟩
def big:Int:=10 ^ 60
theorem b1r:1000 < big:=by decide
abbrev j5:=List (List (Int × Int))
def stD(p:Int × Int):D:=.tuple [.int p.1,.int p.2]
def rwD(r:List (Int × Int)):D:=.list (r.map stD)
def rowAt(m:j5)(s:Int):List (Int × Int):=m.getD s.toNat []
def stp(m:j5)(s a:Int):Int × Int:=(rowAt m s).getD a.toNat (0,0)
structure WF (m:j5) (k:Nat):Prop where
 pos:0 < m.length
 le:m.length≤30
 k1:1≤k
 k5:k≤5
 rows:∀r∈m,r.length=k
 next:∀r∈m,∀p∈r,0≤p.2∧p.2 < (m.length:Int)
theorem E6{m:j5}{s:Int}(h0:0≤s)(h1:s < m.length):rowAt m s∈m:=by
 unfold rowAt;rw [ai,af (by lia)];exact cS _
theorem WF.row{m:j5}{k:Nat}(w:WF m k){s:Int}(h0:0≤s)(h1:s < m.length):(rowAt m s).length=k:=w.rows _ (E6 h0 h1)
theorem b3w{m:j5}{k:Nat}(w:WF m k){s a:Int}(h0:0≤s)(h1:s < m.length)(h2:0≤a)(h3:a < k):stp m s a∈rowAt m s:=by
 have:=w.row h0 h1;unfold stp;rw [ai,af (by lia)];exact cS _
theorem WF.nx{m:j5}{k:Nat}(w:WF m k){s a:Int}(h0:0≤s)(h1:s < m.length)(h2:0≤a)(h3:a < k):0≤(stp m s a).2∧(stp m s a).2 < (m.length:Int):=w.next _ (E6 h0 h1) _ (b3w w h0 h1 h2 h3)
theorem a4o{m:j5}{s:Int}(h0:0≤s)(h1:s < m.length):L2.atI (m.map rwD) s=some (rwD (rowAt m s)):=by
 rw [a1N h0 (by rw [ae];exact h1),dW];unfold rowAt;rw [ai,af (by lia)];rfl
theorem a9n{r:List (Int × Int)}{a:Int}(h0:0≤a)(h1:a < r.length):dIx (rwD r) (.int a)=some (stD (r.getD a.toNat (0,0))):=by
 show L2.atI (r.map stD) a=_;rw [a1N h0 (by rw [ae];exact h1),dW,ai,af (by lia)];rfl
theorem b7E:dIx (stD p) (.int 0)=some (.int p.1):=rfl
theorem b7F:dIx (stD p) (.int 1)=some (.int p.2):=rfl
theorem a4p:imm (stD p)=true:=by unfold stD;simp only [imm,e6,eL]
theorem b6a:a3X (stD p)=some (stD p):=a4U a4p
theorem b3x:a3X (.int i)=some (.int i):=a4U b2V
theorem b7G:A8 [rwD r]=some (.int r.length):=by
 show some (aU ((r.map stD).length:Nat))=_;rw [ae]
theorem b3y:b0m i j (some (stD p)) ρ=some (.nx ((ρ.set i (.int p.1)).set j (.int p.2))):=rfl
theorem a7c(p:Int × Int):(stD p).canLay0=true:=by unfold stD;simp [cn,aL]
theorem b6b(r:List (Int × Int)):(rwD r).canLay0=true:=by unfold rwD;simp only [cn];exact J2 _ a7c r
theorem b1s(m:j5):(eT (m.map rwD)).canLay0=true:=by simp only [cn];exact J2 _ b6b m
theorem a2h(p:Int × Int):(stD p).depth≤1:=by unfold stD;simp [dA,cU]
theorem b1t(r:List (Int × Int)):(rwD r).depth≤2:=by
 unfold rwD;simp only [dA];have:=E4 stD 1 a2h r;lia
theorem a7d(m:j5):(eT (m.map rwD)).depth≤60:=by
 simp only [dA];have:=E4 rwD 2 b1t m;lia
def b8(m:j5):Int→List Int→List Int × Int
 | s,[]=>([],s)
 | s,a :: p=>((stp m s a).1 :: (b8 m (stp m s a).2 p).1,(b8 m (stp m s a).2 p).2)
theorem A4(m:j5):∀(p q:List Int) (s:Int),b8 m s (p ++ q)=((b8 m s p).1 ++ (b8 m (b8 m s p).2 q).1,(b8 m (b8 m s p).2 q).2)
 | [],q,s=>rfl
 | a :: p,q,s=>by
  show ((stp m s a).1 :: (b8 m (stp m s a).2 (p ++ q)).1,(b8 m (stp m s a).2 (p ++ q)).2)=_;rw [A4 m p q];rfl
theorem v9(m:j5):∀(p:List Int) (s:Int),(b8 m s p).1.length=p.length
 | [],s=>rfl
 | a :: p,s=>by
  show (b8 m (stp m s a).2 p).1.length + 1=_;rw [v9 m p];rfl
theorem l4{m:j5}{k:Nat}(w:WF m k):∀(p:List Int) (s:Int),0≤s→s < m.length→(∀a∈p,0≤a∧a < (k:Int))→0≤(b8 m s p).2∧(b8 m s p).2 < (m.length:Int)
 | [],s,h0,h1,_=>⟨h0,h1⟩
 | a :: p,s,h0,h1,h=>by
  have ha:=h a aq;have hn:=w.nx h0 h1 ha.1 ha.2;exact l4 w p _ hn.1 hn.2 fun b hb=>h b (ah _ hb)
theorem a2i(m:j5)(p:List Int)(a s:Int):b8 m s (p ++ [a])=((b8 m s p).1 ++ [(stp m (b8 m s p).2 a).1],(stp m (b8 m s p).2 a).2):=by
 rw [A4];rfl
end VS
namespace VS
open PySem L2
def b8T:Option Out→Option D
 | some (.rt d)=>some d
 | some (.nx _)=>some .none
 | _=>none
theorem b7H(h:argsOk us ds=true):fnN us n g ds=b8T (g (ds ++ bu n .none)):=by
 unfold fnN;rw [aE h];cases g (ds ++ bu n .none) with
 | none=>rfl
 | some o=>cases o <;> rfl
end VS
namespace VS
open PySem L2
theorem b6c:a5C (some (rwD r))=some (rwD r):=rfl
theorem b7I:lIs (some (rwD r))=some (rwD r):=b1n (E3 _ (fun _=>a4p) r)
theorem b6d{m:j5}(h:a ρ=some (.list (m.map rwD)))(hl:m.length≤1000):m8 (iL a) [] pt1 tT (eI (J7 (a7 0))) ρ=some (.list (m.map rwD)):=by
 rw [a2e (ds:=m.map rwD) id]
 ·rw [List.map_id]
 ·rw [b5X,h];rfl
 ·rw [ae];lia
 ·intro d hd;obtain⟨r,_,rfl⟩:=aK.mp hd;refine⟨_,rfl,?_⟩;show eI (J7 (a7 0)) [rwD r]=some (rwD r);rw [b1m,a4l];show lIs (a5C (some (rwD r)))=_;rw [b6c,b7I]
end VS
namespace Prog
open PySem L2 VS
def top(i:Nat):g_:=PySem.Challenge.pw_probewell_k27_whole_home_foretells.main.body.getD i (.Pass ⟨0,0,0,0⟩)
structure Bn (K:ag) (mg:bM→Option aj):Prop where
 d0:DP K mg "_law_cell_at" (top 28)
 d1:DP K mg "_law_cells" (top 29)
 d2:DP K mg "_law_copied" (top 32)
 d3:DP K mg "_law_answer" (top 31)
 d4:DP K mg "_law_machine" (top 33)
 d5:DP K mg "_law_probe" (top 34)
 d6:DP K mg "renumbered" (top 16)
 d7:DP K mg "finer_level" (top 15)
 d8:DP K mg "levels_of" (top 14)
 d9:DP K mg "unlike_pair" (top 26)
 d10:DP K mg "first_parting" (top 18)
 d11:DP K mg "first_unlike" (top 17)
 d12:DP K mg "walked" (top 11)
 d13:DP K mg "ends_from" (top 24)
 d14:DP K mg "parted" (top 25)
 d15:DP K mg "home" (top 23)
 d16:DP K mg "_law_walked" (top 35)
 d17:DP K mg "is_whole" (top 4)
 d18:DP K mg "is_below" (top 5)
 d19:DP K mg "is_probe" (top 10)
 d20:DP K mg "asks_of" (top 7)
 d21:DP K mg "need_probe" (top 12)
 d22:DP K mg "ends" (top 20)
 d23:DP K mg "homed" (top 21)
 d24:DP K mg "_law_whole" (top 30)
 d25:DP K mg "_law_states" (top 36)
 d26:DP K mg "_law_foretold" (top 37)
 d27:DP K mg "tells_end" (top 22)
 d28:DP K mg "law" (top 38)
 all_:mg "all"=none
 bool_:mg "bool"=none
 int_:mg "int"=none
 isinstance_:mg "isinstance"=none
 len_:mg "len"=none
 list_:mg "list"=none
 max_:mg "max"=none
 min_:mg "min"=none
 range_:mg "range"=none
 reversed_:mg "reversed"=none
 set_:mg "set"=none
 sorted_:mg "sorted"=none
 tuple_:mg "tuple"=none
 MOST_ASKED_:∃t,mg "MOST_ASKED"=some (.int 13000 t)
structure Bk (P:bB) (w:bU) (K:ag) (mg:bM→Option aj) (base:cm):Prop extends Bn K mg
variable {P:bB}{w:bU}{K:ag}{mg:bM→Option aj}{base:cm}
abbrev HB(_:Bk P w K mg base):=Has P w K mg base
theorem b8U:(["_law_t","_law_many","_law_rows","_law_cell"]:List bM).Nodup:=by decide +kernel
theorem b8V:(["_law_k","_law_table","_law_xs"]:List bM).Nodup:=by decide +kernel
theorem b7J:(["answer","after","numbers"]:List bM).Nodup:=by decide +kernel
theorem b8W:(["row"]:List bM).Nodup:=by decide +kernel
theorem b8X:(["level","one","other"]:List bM).Nodup:=by decide +kernel
theorem b8Y:(["answers","found"]:List bM).Nodup:=by decide +kernel
theorem b7K:(["answers","group"]:List bM).Nodup:=by decide +kernel
theorem b8Z:(["ask","many"]:List bM).Nodup:=by decide +kernel
theorem b9a:(["_law_t","_law_table","_law_asked"]:List bM).Nodup:=by decide +kernel
theorem b4f:(["answers","states"]:List bM).Nodup:=by decide +kernel
theorem b7L:(["_law_row"]:List bM).Nodup:=by decide +kernel
theorem b7M:(["_law_s","_law_table","_law_asked"]:List bM).Nodup:=by decide +kernel
theorem b4g:(["_law_one","_law_states_here"]:List bM).Nodup:=by decide +kernel
theorem b7N:(["_law_key"]:List bM).Nodup:=by decide +kernel
def b_law_cell_at:EvS:=(f7 (sIf (tB (e2 dLt (a7 1) (eCl A8 (a8 (a7 0) e7)))) (l6 (e2 i8 (a7 0) (a7 1))) u3) (l6 (eC (.int 0))))
def m_law_cell_at:=fnD [.f,.i] 0 b_law_cell_at
abbrev W4(B:Bk P w K mg base)(k:Nat):=HB B "_law_cell_at" k ["_law_script","_law_k"] (spD K 2 m_law_cell_at .i)
theorem ok_law_cell_at(B:Bk P w K mg base):W4 B 1:=
 n8 B.d0 fun _ _ F=>fnF F ["_law_script","_law_k"] fun _ _ _ _ _ _ _ _=>by exact c6 (A0 (M':=[mdF,mdI]) (l9 a2U (c9 1) (v8 B.len_ (c8 0))) (f6 (i9 (b9 (m3 (c8 0) (c9 1))))) s9) (f6 (i9 (b9 c7)))
def b_law_cells:EvS:=(f7 (i7 2 (N9 e7)) (f7 (i7 3 (eC (.int 48271))) (f7 (D5 (iR (a7 1)) (u5 4) (f7 (i7 5 (e2 p8 (eCl m_law_cell_at (a8 (a7 0) (a8 (a7 4) e7))) (e2 a3S (eC (.int 10)) (eC (.int 64))))) (f7 (i7 3 (e2 p8 (e2 j7 (e2 j7 (e2 j7 (e2 x8 (a7 3) (eC (.int 69621))) (e2 x8 (a7 5) (eC (.int 40014)))) (e2 x8 (a7 4) (a7 4))) (eC (.int 1))) (eC (.int 2147483563)))) (sIf (tB (e2 dLt (a7 4) (eCl A8 (a8 (a7 0) e7)))) (B6 2 (.l .i) q8 (a7 5)) (B6 2 (.l .i) q8 (a7 3)))))) (l6 (a7 2)))))
def m_law_cells:=fnD [.f,.i] 4 b_law_cells
abbrev R9(B:Bk P w K mg base)(k:Nat):=HB B "_law_cells" k ["_law_script","_law_many"] (spD K 2 m_law_cells (.l .i))
theorem ok_law_cells(B:Bk P w K mg base)(gR:W4 B 1):R9 B 2:=
 n8 B.d1 fun _ _ F=>fnF F ["_law_script","_law_many","_law_found","_law_number","_law_k","_law_cell"] fun sc _ _ _ _ _ _ hr=>by exact c6 (i5 2 (t:=(.l .i)) sc.nd (b9 (C4 (n:=0) (u:=.i) p5))) (c6 (i5 3 (t:=.i) sc.nd (b9 c7)) (c6 (A1 (M:=[mdF,mdI,mdL,mdI,mdD,mdD]) (MB:=[mdF,mdI,mdL,mdI,mdI,mdD]) rfl bN (y6 B.range_ (c9 1)) (x9 4 sc.nd) E1 a8K (PSsX.weak (M2:=[mdF,mdI,mdL,mdI,mdI,mdI]) (c6 (i5 5 (t:=.i) sc.nd (b9 (f8 o7 (l8 gR hr (b7 (c8 0) (b7 (c9 4) g8))) (f8 a1B c7 c7)))) (c6 (i5 3 (t:=.i) sc.nd (b9 (f8 o7 (f8 u8 (f8 u8 (f8 u8 (f8 C2 (c9 3) c7) (f8 C2 (c9 5) c7)) (f8 C2 (c9 4) (c9 4))) c7) c7))) (f6 (A0 (M':=[mdF,mdI,mdL,mdI,mdI,mdI]) (l9 a2U (c9 4) (v8 B.len_ (c8 0))) (f6 (O2 2 (u:=(.l .i)) (t:=.i) (J0 2 (u:=(.l .i))) (b9 (PX.newi (c9 5))) Y9)) (f6 (O2 2 (u:=(.l .i)) (t:=.i) (J0 2 (u:=(.l .i))) (b9 (PX.newi (c9 3))) Y9)))))) o9 ((k8 4).trans (k8 5)))) (f6 (i9 (E8 2 (u:=(.l .i)))))))
def b_law_copied:EvS:=(f7 (i7 3 (N9 e7)) (f7 (D5 (iR (a7 1)) (u5 4) (sIf (tB (e2 dLt (a7 4) (a7 2))) (B6 3 (.l .i) q8 (e2 p8 (e2 j7 (a7 4) (e2 G8 (e2 i8 (a7 0) (eC (.int 0))) (eC (.int 1000)))) (a7 2))) (B6 3 (.l .i) q8 (e2 p8 (e2 i8 (a7 0) (e2 j7 (eC (.int 3)) (a7 4))) (a7 2))))) (f7 (sIf (tB (e2 dEq (e2 p8 (e2 G8 (e2 i8 (a7 0) (eC (.int 1))) (eC (.int 20))) (eC (.int 2))) (eC (.int 1)))) (b5N 3) u3) (l6 (a7 3)))))
def m_law_copied:=fnD [.f,.i,.i] 2 b_law_copied
abbrev Z7(B:Bk P w K mg base)(k:Nat):=HB B "_law_copied" k ["_law_xs","_law_n","_law_many"] (spD K 3 m_law_copied (.l .i))
theorem ok_law_copied(B:Bk P w K mg base):Z7 B 1:=
 n8 B.d2 fun _ _ F=>fnF F ["_law_xs","_law_n","_law_many","_law_rows","_law_s"] fun sc _ _ _ _ _ _ hr=>by exact c6 (i5 3 (t:=(.l .i)) sc.nd (b9 (C4 (n:=0) (u:=.i) p5))) (c6 (A1 (M:=[mdF,mdI,mdI,mdL,mdD]) (MB:=[mdF,mdI,mdI,mdL,mdI]) rfl bN (y6 B.range_ (c9 1)) (x9 4 sc.nd) E1 a8K (PSsX.weak (M2:=[mdF,mdI,mdI,mdL,mdI]) (f6 (A0 (M':=[mdF,mdI,mdI,mdL,mdI]) (l9 a2U (c9 4) (c9 2)) (f6 (O2 3 (u:=(.l .i)) (t:=.i) (J0 3 (u:=(.l .i))) (b9 (f8 o7 (f8 u8 (c9 4) (f8 C3 (m3 (c8 0) c7) c7)) (c9 2))) Y9)) (f6 (O2 3 (u:=(.l .i)) (t:=.i) (J0 3 (u:=(.l .i))) (b9 (f8 o7 (m3 (c8 0) (f8 u8 c7 (c9 4))) (c9 2))) Y9)))) o9 (k8 4))) (c6 (A0 (M':=[mdF,mdI,mdI,mdL,mdD]) (l9 C8 (f8 o7 (f8 C3 (m3 (c8 0) c7) c7) c7) c7) (f6 (b5P 3)) s9) (f6 (i9 (E8 3 (u:=(.l .i)))))))
def b_law_answer:EvS:=(f7 (i7 2 (e2 a1A (e2 p8 (e2 G8 (e2 i8 (a7 1) (eC (.int 2))) (eC (.int 1000))) (e2 a1A (e2 x8 (eC (.int 2)) (e2 a3S (eC (.int 10)) (eC (.int 60)))) (eC (.int 2)))) (e2 a1A (e2 a3S (eC (.int 10)) (eC (.int 60))) (eC (.int 1))))) (f7 (sIf (tB (e2 dEq (e2 p8 (e2 G8 (e2 i8 (a7 1) (eC (.int 1))) (eC (.int 5))) (eC (.int 4))) (eC (.int 1)))) (l6 (e2 j7 (a7 2) (e2 p8 (a7 0) (eC (.int 2))))) u3) (f7 (sIf (tB (e2 dEq (e2 p8 (e2 G8 (e2 i8 (a7 1) (eC (.int 1))) (eC (.int 5))) (eC (.int 4))) (eC (.int 2)))) (l6 (e2 a1A (e2 p8 (a7 0) (eC (.int 3))) (eC (.int 1)))) u3) (f7 (sIf (tB (e2 dEq (e2 p8 (e2 G8 (e2 i8 (a7 1) (eC (.int 1))) (eC (.int 5))) (eC (.int 4))) (eC (.int 3)))) (l6 (e2 a1A (e2 p8 (a7 0) (e2 a1A (e2 x8 (eC (.int 2)) (e2 a3S (eC (.int 10)) (eC (.int 60)))) (eC (.int 1)))) (e2 a1A (e2 a3S (eC (.int 10)) (eC (.int 60))) (eC (.int 1))))) u3) (l6 (e2 p8 (a7 0) (eC (.int 2))))))))
def m_law_answer:=fnD [.i,.f] 1 b_law_answer
abbrev Z8(B:Bk P w K mg base)(k:Nat):=HB B "_law_answer" k ["_law_number","_law_xs"] (spD K 2 m_law_answer .i)
theorem ok_law_answer(B:Bk P w K mg base):Z8 B 1:=
 n8 B.d3 fun _ _ F=>fnF F ["_law_number","_law_xs","_law_low"] fun sc _ _ _ _ _ _ hr=>by exact c6 (i5 2 (t:=.i) sc.nd (b9 (f8 Q8 (f8 o7 (f8 C3 (m3 (c8 1) c7) c7) (f8 Q8 (f8 C2 c7 (f8 a1B c7 c7)) c7)) (f8 Q8 (f8 a1B c7 c7) c7)))) (c6 (A0 (M':=[mdI,mdF,mdI]) (l9 C8 (f8 o7 (f8 C3 (m3 (c8 1) c7) c7) c7) c7) (f6 (i9 (b9 (f8 u8 (c9 2) (f8 o7 (c9 0) c7))))) s9) (c6 (A0 (M':=[mdI,mdF,mdI]) (l9 C8 (f8 o7 (f8 C3 (m3 (c8 1) c7) c7) c7) c7) (f6 (i9 (b9 (f8 Q8 (f8 o7 (c9 0) c7) c7)))) s9) (c6 (A0 (M':=[mdI,mdF,mdI]) (l9 C8 (f8 o7 (f8 C3 (m3 (c8 1) c7) c7) c7) c7) (f6 (i9 (b9 (f8 Q8 (f8 o7 (c9 0) (f8 Q8 (f8 C2 c7 (f8 a1B c7 c7)) c7)) (f8 Q8 (f8 a1B c7 c7) c7))))) s9) (f6 (i9 (b9 (f8 o7 (c9 0) c7)))))))
def b_law_machine:EvS:=(f7 (i7 3 (eCl m_law_cells (a8 (a7 0) (a8 (eC (.int 3)) e7)))) (f7 (i7 4 (e2 j7 (eC (.int 1)) (e2 p8 (e2 o6 (a7 3) (eC (.int 0))) (a7 1)))) (f7 (sIf (tB (e2 dEq (e2 p8 (e2 G8 (e2 o6 (a7 3) (eC (.int 0))) (a7 1)) (eC (.int 8))) (eC (.int 3)))) (i7 4 (e2 j7 (eC (.int 1)) (e2 p8 (e2 G8 (e2 o6 (a7 3) (eC (.int 0))) (e2 x8 (eC (.int 8)) (a7 1))) (a7 2)))) u3) (f7 (i7 5 (e2 j7 (eC (.int 1)) (e2 p8 (e2 o6 (a7 3) (eC (.int 1))) (eC (.int 5))))) (f7 (i7 6 (a7 4)) (f7 (sIf (tB (e2 dGt (e2 p8 (e2 o6 (a7 3) (eC (.int 2))) (eC (.int 3))) (eC (.int 0)))) (i7 6 (e2 j7 (eC (.int 1)) (e2 p8 (e2 G8 (e2 o6 (a7 3) (eC (.int 2))) (eC (.int 3))) (a7 4)))) u3) (f7 (i7 7 (eCl m_law_cells (a8 (a7 0) (a8 (e2 j7 (e2 j7 (eC (.int 3)) (a7 4)) (e2 x8 (e2 x8 (eC (.int 2)) (a7 4)) (a7 5))) e7)))) (f7 (i7 8 (eCl m_law_copied (a8 (a7 7) (a8 (a7 4) (a8 (a7 6) e7))))) (f7 (i7 9 (N9 e7)) (f7 (D5 (iR (a7 4)) (u5 10) (f7 (i7 11 (N9 e7)) (f7 (D5 (iR (a7 5)) (u5 12) (f7 (i7 13 (e2 o6 (a7 7) (e2 j7 (e2 j7 (e2 j7 (eC (.int 3)) (a7 4)) (e2 x8 (e2 o6 (a7 8) (a7 10)) (a7 5))) (a7 12)))) (f7 (i7 14 (m8 (iR (a7 4)) [6,8,13] pt1 (tB (e2 dEq (e2 o6 (a7 2) (a7 0)) (e2 p8 (a7 3) (a7 1)))) (a7 0))) (f7 (i7 15 (e2 o6 (a7 7) (e2 j7 (e2 j7 (e2 j7 (e2 j7 (eC (.int 3)) (a7 4)) (e2 x8 (a7 4) (a7 5))) (e2 x8 (a7 10) (a7 5))) (a7 12)))) (B6 11 (.l .i) q8 (F6 (a8 (eCl m_law_answer (a8 (e2 G8 (a7 13) (a7 6)) (a8 (a7 7) e7))) (a8 (e2 o6 (a7 14) (e2 p8 (a7 15) (eCl A8 (a8 (a7 14) e7)))) e7)))))))) (B6 9 (.l (.l .i)) q8 (a7 11))))) (l6 (a7 9))))))))))))
def m_law_machine:=fnD [.f,.i,.i] 13 b_law_machine
abbrev W5(B:Bk P w K mg base)(k:Nat):=HB B "_law_machine" k ["_law_script","_law_small","_law_large"] (spD K 3 m_law_machine (.l (.l .i)))
theorem ok_law_machine(B:Bk P w K mg base)(eu:R9 B 2)(h_:Z7 B 2)(ia:Z8 B 2):W5 B 3:=
 n8 B.d4 fun _ _ F=>fnF F ["_law_script","_law_small","_law_large","_law_first","_law_n","_law_asks","_law_many","_law_xs","_law_rows","_law_table","_law_s","_law_row","_law_a","_law_cell","_law_copies","_law_pick"] fun sc _ _ _ _ _ _ hr=>by exact c6 (i5 3 (t:=(.l .i)) sc.nd (b9 (l8 eu hr (b7 (c8 0) (b7 c7 g8))))) (c6 (i5 4 (t:=.i) sc.nd (b9 (f8 u8 c7 (f8 o7 (v7 (p6 3) c7) (c9 1))))) (c6 (A0 (M':=[mdF,mdI,mdI,mdL,mdI,mdD,mdD,mdD,mdD,mdD,mdD,mdD,mdD,mdD,mdD,mdD]) (l9 C8 (f8 o7 (f8 C3 (v7 (p6 3) c7) (c9 1)) c7) c7) (f6 (i5 4 (t:=.i) sc.nd (b9 (f8 u8 c7 (f8 o7 (f8 C3 (v7 (p6 3) c7) (f8 C2 c7 (c9 1))) (c9 2)))))) s9) (c6 (i5 5 (t:=.i) sc.nd (b9 (f8 u8 c7 (f8 o7 (v7 (p6 3) c7) c7)))) (c6 (i5 6 (t:=.i) sc.nd (b9 (PX.newi (c9 4)))) (c6 (A0 (M':=[mdF,mdI,mdI,mdL,mdI,mdI,mdI,mdD,mdD,mdD,mdD,mdD,mdD,mdD,mdD,mdD]) (l9 a9Y (f8 o7 (v7 (p6 3) c7) c7) c7) (f6 (i5 6 (t:=.i) sc.nd (b9 (f8 u8 c7 (f8 o7 (f8 C3 (v7 (p6 3) c7) c7) (c9 4)))))) s9) (c6 (i5 7 (t:=(.l .i)) sc.nd (b9 (l8 eu hr (b7 (c8 0) (b7 (f8 u8 (f8 u8 c7 (c9 4)) (f8 C2 (f8 C2 c7 (c9 4)) (c9 5))) g8))))) (c6 (i5 8 (t:=(.l .i)) sc.nd (b9 (l8 h_ hr (b7 (p6 7) (b7 (c9 4) (b7 (c9 6) g8)))))) (c6 (i5 9 (t:=(.l (.l .i))) sc.nd (b9 (C4 (n:=0) (u:=(.l .i)) p5))) (c6 (A1 (M:=[mdF,mdI,mdI,mdL,mdI,mdI,mdI,mdL,mdL,D8,mdD,mdD,mdD,mdD,mdD,mdD]) (MB:=[mdF,mdI,mdI,mdL,mdI,mdI,mdI,mdL,mdL,D8,mdI,mdD,mdD,mdD,mdD,mdD]) rfl bN (y6 B.range_ (c9 4)) (x9 10 sc.nd) E1 a8K (PSsX.weak (M2:=[mdF,mdI,mdI,mdL,mdI,mdI,mdI,mdL,mdL,D8,mdI,mdD,mdD,mdD,mdD,mdD]) (c6 (i5 11 (t:=(.l .i)) sc.nd (b9 (C4 (n:=0) (u:=.i) p5))) (c6 (A1 (M:=[mdF,mdI,mdI,mdL,mdI,mdI,mdI,mdL,mdL,D8,mdI,mdL,mdD,mdD,mdD,mdD]) (MB:=[mdF,mdI,mdI,mdL,mdI,mdI,mdI,mdL,mdL,D8,mdI,mdL,mdI,mdD,mdD,mdD]) rfl bN (y6 B.range_ (c9 5)) (x9 12 sc.nd) E1 a8K (PSsX.weak (M2:=[mdF,mdI,mdI,mdL,mdI,mdI,mdI,mdL,mdL,D8,mdI,mdL,mdI,mdI,mdL,mdI]) (c6 (i5 13 (t:=.i) sc.nd (b9 (PX.newi (v7 (p6 7) (f8 u8 (f8 u8 (f8 u8 c7 (c9 4)) (f8 C2 (v7 (p6 8) (c9 10)) (c9 5))) (c9 12)))))) (c6 (E2 14 (t:=.i) sc.nd rfl (tn:=["_law_t"]) (ys:=["_law_many","_law_rows","_law_cell"]) (js:=[6,8,13]) (mm:=.i) (y6 B.range_ (c9 4)) rfl (fun _ _ _ _ _=>o8 (i:=0) b8U rfl (bO rfl) (.inr rfl)) E7 (.inl rfl) a4R rfl (fun _ _ _ _ _=>b4Z (l9 C8 (v7 (p6 2) (c9 0)) (f8 o7 (c9 3) (c9 1)))) (fun _ _ _ _ _=>(PX.newi (c9 0)))) (c6 (i5 15 (t:=.i) sc.nd (b9 (PX.newi (v7 (p6 7) (f8 u8 (f8 u8 (f8 u8 (f8 u8 c7 (c9 4)) (f8 C2 (c9 4) (c9 5))) (f8 C2 (c9 10) (c9 5))) (c9 12)))))) (f6 (O2 11 (u:=(.l .i)) (t:=.i) (J0 11 (u:=(.l .i))) (b9 (Y7 (n:=2) (p0 (u:=.i) (l8 ia hr (b7 (f8 C3 (c9 13) (c9 6)) (b7 (p6 7) g8))) (p0 (u:=.i) (PX.newi (v7 (p6 14) (f8 o7 (c9 15) (v8 B.len_ (p6 14))))) p5)))) Y9))))) o9 ((((k8 12).trans (k8 13)).trans (k8 14)).trans (k8 15)))) (f6 (O2 9 (u:=(.l (.l .i))) (t:=(.l .i)) (J0 9 (u:=(.l (.l .i)))) (E8 11 (u:=(.l .i))) Y9)))) o9 (k8 10))) (f6 (i9 (E8 9 (u:=(.l (.l .i)))))))))))))))
def b_law_probe:EvS:=(f7 (i7 2 (eCl m_law_cells (a8 (a7 0) (a8 (eC (.int 5)) e7)))) (f7 (i7 3 (eCl (a1j false) (a8 (eCl A8 (a8 (a7 0) e7)) (a8 (eC (.int 63)) e7)))) (f7 (sIf (tB (e2 dEq (e2 p8 (e2 o6 (a7 2) (eC (.int 3))) (eC (.int 3))) (eC (.int 1)))) (i7 3 (e2 p8 (e2 G8 (e2 o6 (a7 2) (eC (.int 3))) (eC (.int 3))) (eC (.int 7)))) u3) (f7 (sIf (tB (e2 dEq (e2 p8 (e2 o6 (a7 2) (eC (.int 4))) (eC (.int 64))) (eC (.int 9)))) (i7 3 (e2 p8 (e2 G8 (e2 o6 (a7 2) (eC (.int 4))) (eC (.int 64))) (e2 j7 (eC (.int 1)) (e2 G8 (eC (.int 500)) (eCl A8 (a8 (a7 1) e7)))))) u3) (f7 (i7 2 (eCl m_law_cells (a8 (a7 0) (a8 (a7 3) e7)))) (l6 (m8 (iR (a7 3)) [1,2] pt1 tT (e2 p8 (e2 p8 (e2 j7 (e2 x8 (e2 o6 (a7 2) (a7 0)) (eC (.int 16807))) (e2 x8 (e2 x8 (a7 0) (a7 0)) (eC (.int 48271)))) (eC (.int 1000003))) (eCl A8 (a8 (e2 dIx (a7 1) (eC (.int 0))) e7))))))))))
def m_law_probe:=fnD [.f,.f] 2 b_law_probe
abbrev a0W(B:Bk P w K mg base)(k:Nat):=HB B "_law_probe" k ["_law_script","_law_table"] (spD K 2 m_law_probe (.l .i))
theorem ok_law_probe(B:Bk P w K mg base)(eu:R9 B 2):a0W B 3:=
 n8 B.d5 fun _ _ F=>fnF F ["_law_script","_law_table","_law_xs","_law_many"] fun sc _ _ _ _ _ _ hr=>by exact c6 (i5 2 (t:=(.l .i)) sc.nd (b9 (l8 eu hr (b7 (c8 0) (b7 c7 g8))))) (c6 (i5 3 (t:=.i) sc.nd (b9 (a1E (b4W rfl) B.min_ PyProof.Rows.Boot.«min» (b7 (v8 B.len_ (c8 0)) (b7 c7 g8))))) (c6 (A0 (M':=[mdF,mdF,mdL,mdI]) (l9 C8 (f8 o7 (v7 (p6 2) c7) c7) c7) (f6 (i5 3 (t:=.i) sc.nd (b9 (f8 o7 (f8 C3 (v7 (p6 2) c7) c7) c7)))) s9) (c6 (A0 (M':=[mdF,mdF,mdL,mdI]) (l9 C8 (f8 o7 (v7 (p6 2) c7) c7) c7) (f6 (i5 3 (t:=.i) sc.nd (b9 (f8 o7 (f8 C3 (v7 (p6 2) c7) c7) (f8 u8 c7 (f8 C3 c7 (v8 B.len_ (c8 1)))))))) s9) (c6 (i5 2 (t:=(.l .i)) sc.nd (b9 (l8 eu hr (b7 (c8 0) (b7 (c9 3) g8))))) (f6 (i9 (b9 (O1 rfl (tn:=["_law_k"]) (ys:=["_law_table","_law_xs"]) (js:=[1,2]) (m:=.i) (y6 B.range_ (c9 3)) rfl (fun _ _ _ _ _=>o8 (i:=0) b8V rfl (bO rfl) (.inr rfl)) E7 (.inl rfl) a4R rfl (fun _ _ _ _ _=>B2) (fun _ _ _ _ _=>(f8 o7 (f8 o7 (f8 u8 (f8 C2 (v7 (p6 2) (c9 0)) c7) (f8 C2 (f8 C2 (c9 0) (c9 0)) c7)) c7) (v8 B.len_ (C5 (PX.newf (c8 1)) c7))))))))))))
def Z9:EvS:=(l6 (m8 (iI (iL (a7 0))) [1] pt2 tT (F6 (a8 (a7 0) (a8 (e2 i8 (a7 2) (a7 1)) e7)))))
def m9:=fnD [.f,.f] 0 Z9
abbrev O8(B:Bk P w K mg base)(k:Nat):=HB B "renumbered" k ["row","numbers"] (spD K 2 m9 (.l .i))
theorem a2F(B:Bk P w K mg base):O8 B 1:=
 n8 B.d6 fun _ _ F=>fnF F ["row","numbers"] fun _ _ _ _ _ _ _ _=>by exact f6 (i9 (b9 (O1 rfl (tn:=["answer","after"]) (ys:=["numbers"]) (js:=[1]) (m:=.i) (PIX.i (m6 (PX.newf (c8 0)))) rfl (fun _ _ _ _ _=>a0i rfl (o5 (o8 (i:=0) b7J rfl (bO rfl) (.inr rfl)) (o5 (o8 (i:=1) b7J rfl (bO rfl) (.inr rfl)) G6))) a4a (.inl rfl) b6P rfl (fun _ _ _ _ _=>B2) (fun _ _ _ _ _=>(Y7 (n:=2) (p0 (u:=.i) (PX.newi (c9 0)) (p0 (u:=.i) (m3 (c8 2) (c9 1)) p5)))))))
def W6:EvS:=(f7 (i7 2 (eC (.dict []))) (f7 (i7 3 (N9 e7)) (f7 (D5 (iL (a7 0)) (u5 4) (f7 (i7 5 (a0O (eCl m9 (a8 (a7 4) (a8 (a7 1) e7))))) (a5b 3 (a1S 2 true (a7 5) (eCl a7K (a8 (a7 2) e7)))))) (l6 (a7 3)))))
def u9:=fnD [.f,.f] 4 W6
abbrev W7(B:Bk P w K mg base)(k:Nat):=HB B "finer_level" k ["machine","level"] (spD K 2 u9 (.l .i))
theorem a2j(B:Bk P w K mg base)(eB:O8 B 1):W7 B 2:=
 n8 B.d7 fun _ _ F=>fnF F ["machine","level","numbers","finer","row","seen"] fun sc _ _ _ _ _ _ hr=>by exact c6 (i5 2 (t:=(.d true .i)) sc.nd (b9 (a5a true .i))) (c6 (i5 3 (t:=(.l .i)) sc.nd (b9 (C4 (n:=0) (u:=.i) p5))) (c6 (A1 (M:=[mdF,mdF,.own (.d true .i),mdL,mdD,mdD]) (MB:=[mdF,mdF,.own (.d true .i),mdL,mdF,mdD]) rfl bN (m6 (PX.newf (c8 0))) (x9 4 sc.nd) a4c (fun _ _ _ _ _=>trivial) (PSsX.weak (M2:=[mdF,mdF,.own (.d true .i),mdL,mdF,mdI]) (c6 (i5 5 (t:=.i) sc.nd (b9 (a1H B.tuple_ (l8 eB hr (b7 (c8 4) (b7 (c8 1) g8)))))) (f6 (b3b 3 (t:=.i) (b0x 2 (kt:=true) (by exact hr.units) (PX.newi (c9 5)) (b2Z (kt:=true) (u:=.i) B.len_ (p9 2 (u:=(.d true .i))))) (hni:=a6B (by decide))))) o9 ((k8 4).trans (k8 5)))) (f6 (i9 (E8 3 (u:=(.l .i)))))))
def a0X:EvS:=(f7 (i7 1 (N9 (a8 (m8 (iL (a7 0)) [] pt1 tT (eC (.int 0))) e7))) (f7 (i7 2 (eCl u9 (a8 (a7 0) (a8 (e2 o6 (a7 1) (eC (.int (-1)))) e7)))) (f7 (sWh (fun _=>1000000) (tB (e2 dGt (eCl V9 (a8 (a7 2) e7)) (eCl V9 (a8 (e2 o6 (a7 1) (eC (.int (-1)))) e7)))) (f7 (U7 1 2 (eCl u9 (a8 (a7 0) (a8 (a7 2) e7)))) u3)) (l6 (a7 1)))))
def F9:=fnD [.f] 2 a0X
abbrev S6(B:Bk P w K mg base)(k:Nat):=HB B "levels_of" k ["machine"] (spD K 1 F9 (.l (.l .i)))
theorem a4q(B:Bk P w K mg base)(f_:W7 B 2):S6 B 3:=
 n8 B.d8 fun _ _ F=>fnF F ["machine","levels","finer"] fun sc _ _ _ _ _ _ hr=>by exact c6 (i5 1 (t:=(.l (.l .i))) sc.nd (b9 (C4 (n:=1) (u:=(.l .i)) (p0 (u:=(.l .i)) (O1 rfl (tn:=["row"]) (ys:=[]) (js:=[]) (m:=.f) (m6 (PX.newf (c8 0))) rfl (fun _ _ _ _ _=>o8 (i:=0) b8W rfl (bO rfl) (.inr rfl)) E7 (.inr rfl) a3b rfl (fun _ _ _ _ _=>B2) (fun _ _ _ _ _=>c7)) p5)))) (c6 (i5 2 (t:=(.l .i)) sc.nd (b9 (l8 f_ hr (b7 (c8 0) (b7 (v7 (p9 1 (u:=(.l (.l .i)))) (a1C)) g8))))) (c6 (a1K (M:=[mdF,D8,mdL]) (fun _=>1000000) bN (l9 a9Y (a1E (a7N rfl) B.max_ PyProof.Rows.Boot.«max» (b7 (p6 2) g8)) (a1E (a7N rfl) B.max_ PyProof.Rows.Boot.«max» (b7 (v7 (p9 1 (u:=(.l (.l .i)))) (a1C)) g8))) (a8S 1 2 (t:=(.l .i)) (by decide) sc.nd rfl rfl rfl rfl (b0E (u:=(.l .i)) f_ hr (a3g (PXL.of (c8 0)) (a3g (b0C) (b0D))) (hfl:=(j9 (j9 J9)))) s9)) (f6 (i9 (E8 1 (u:=(.l (.l .i))))))))
def W8:EvS:=(f7 (D5 (iL (a7 0)) (u5 2) (D5 (iI (iL (a7 2))) (u5 3) (sIf (tB (e2 dNe (e2 i8 (a7 1) (a7 3)) (e2 i8 (a7 1) (e2 i8 (a7 2) (eC (.int 0)))))) (l6 (F6 (a8 (e2 i8 (a7 2) (eC (.int 0))) (a8 (a7 3) e7)))) u3))) (l6 (eC .none)))
def m4:=fnD [.f,.f] 2 W8
abbrev L3(B:Bk P w K mg base)(k:Nat):=HB B "unlike_pair" k ["groups","finest"] (spD K 2 m4 .i)
theorem a2k(B:Bk P w K mg base):L3 B 1:=
 n8 B.d9 fun _ _ F=>fnF F ["groups","finest","states","state"] fun sc _ _ _ _ _ _ hr=>by exact c6 (A1 (M:=[mdF,mdF,mdD,mdD]) (MB:=[mdF,mdF,mdF,mdD]) rfl bN (m6 (PX.newf (c8 0))) (x9 2 sc.nd) a4c (fun _ _ _ _ _=>trivial) (PSsX.weak (M2:=[mdF,mdF,mdF,mdD]) (f6 (A1 (M:=[mdF,mdF,mdF,mdD]) (MB:=[mdF,mdF,mdF,mdI]) rfl bN (PIX.i (m6 (PX.newf (c8 2)))) (x9 3 sc.nd) E1 a6s (PSsX.weak (M2:=[mdF,mdF,mdF,mdI]) (f6 (A0 (M':=[mdF,mdF,mdF,mdI]) (l9 b1h (m3 (c8 1) (c9 3)) (m3 (c8 1) (m3 (c8 2) c7))) (f6 (i9 (b9 (Y7 (n:=2) (p0 (u:=.i) (m3 (c8 2) c7) (p0 (u:=.i) (PX.newi (c9 3)) p5)))))) s9)) o9 (k8 3)))) o9 (k8 2))) (f6 (i9 (b9 a3V)))
def P8:EvS:=(f7 (i7 2 (eC (.int 0))) (f7 (sWh (fun _=>1000000) (tB (e2 dEq (e2 i8 (a7 0) (a7 2)) (e2 i8 (a7 1) (a7 2)))) (b0y 2 (eC (.int 1)))) (l6 (a7 2))))
def u6:=fnD [.f,.f] 1 P8
abbrev P9(B:Bk P w K mg base)(k:Nat):=HB B "first_parting" k ["seen","against"] (spD K 2 u6 .i)
theorem a0C(B:Bk P w K mg base):P9 B 1:=
 n8 B.d10 fun _ _ F=>fnF F ["seen","against","ask"] fun sc _ _ _ _ _ _ hr=>by exact c6 (i5 2 (t:=.i) sc.nd (b9 c7)) (c6 (a1K (M:=[mdF,mdF,mdI]) (fun _=>1000000) bN (l9 C8 (m3 (c8 0) (c9 2)) (m3 (c8 1) (c9 2))) (f6 (b5E 2 sc.nd c7))) (f6 (i9 (b9 (PX.newi (c9 2))))))
def S7:EvS:=(f7 (i7 4 (e2 a1T (m8 (iL (a7 1)) [2,3] pt1 tT (e2 dEq (e2 i8 (a7 0) (a7 1)) (e2 i8 (a7 0) (a7 2)))) (eC (.bool true)))) (f7 (sIf (tB (e2 dEq (a7 4) (eCl A8 (a8 (a7 1) e7)))) (l6 (eC .none)) u3) (f7 (i7 5 (N9 e7)) (f7 (D5 (iRv (eSl (a7 1) oNo (oSo (a7 4)))) (u5 6) (f7 (i7 7 (eCl u6 (a8 (eCl m9 (a8 (e2 dIx (a7 0) (a7 2)) (a8 (a7 6) e7))) (a8 (eCl m9 (a8 (e2 dIx (a7 0) (a7 3)) (a8 (a7 6) e7))) e7)))) (f7 (B6 5 (.l .i) q8 (a7 7)) (f7 (i7 2 (e2 i8 (e2 i8 (e2 dIx (a7 0) (a7 2)) (a7 7)) (eC (.int 1)))) (i7 3 (e2 i8 (e2 i8 (e2 dIx (a7 0) (a7 3)) (a7 7)) (eC (.int 1)))))))) (l6 (a7 5))))))
def w6:=fnD [.f,.f,.i,.i] 4 S7
abbrev S8(B:Bk P w K mg base)(k:Nat):=HB B "first_unlike" k ["machine","levels","one","other"] (spD K 4 w6 (.l .i))
theorem a1e(B:Bk P w K mg base)(eB:O8 B 1)(gi:P9 B 1):S8 B 2:=
 n8 B.d11 fun _ _ F=>fnF F ["machine","levels","one","other","many","probe","level","ask"] fun sc _ _ _ _ _ _ hr=>by exact c6 (i5 4 (t:=.i) sc.nd (b9 (b0B (by exact hr.units) (O1 rfl (tn:=["level"]) (ys:=["one","other"]) (js:=[2,3]) (m:=.f) (m6 (PX.newf (c8 1))) rfl (fun _ _ _ _ _=>o8 (i:=0) b8X rfl (bO rfl) (.inr rfl)) E7 (.inr rfl) a3b rfl (fun _ _ _ _ _=>B2) (fun _ _ _ _ _=>(a0o C8 (m3 (c8 0) (c9 1)) (m3 (c8 0) (c9 2))))) M5))) (c6 (A0 (M':=[mdF,mdF,mdI,mdI,mdI,mdD,mdD,mdD]) (l9 C8 (c9 4) (v8 B.len_ (c8 1))) (f6 (i9 (b9 (PX.itol (u:=.i) a3V)))) s9) (c6 (i5 5 (t:=(.l .i)) sc.nd (b9 (C4 (n:=0) (u:=.i) p5))) (c6 (A1 (M:=[mdF,mdF,mdI,mdI,mdI,mdL,mdD,mdD]) (MB:=[mdF,mdF,mdI,mdI,mdI,mdL,mdF,mdD]) rfl bN (b3c B.reversed_ (PX.frz (MkL.fz (a4P (PX.newf (c8 1)) a4N (a4O (c9 4)))))) (x9 6 sc.nd) a4c (fun _ _ _ _ _=>trivial) (PSsX.weak (M2:=[mdF,mdF,mdI,mdI,mdI,mdL,mdF,mdI]) (c6 (i5 7 (t:=.i) sc.nd (b9 (l8 gi hr (b7 (l8 eB hr (b7 (C5 (PX.newf (c8 0)) (c9 2)) (b7 (c8 6) g8))) (b7 (l8 eB hr (b7 (C5 (PX.newf (c8 0)) (c9 3)) (b7 (c8 6) g8))) g8))))) (c6 (O2 5 (u:=(.l .i)) (t:=.i) (J0 5 (u:=(.l .i))) (b9 (PX.newi (c9 7))) Y9) (c6 (i5 2 (t:=.i) sc.nd (b9 (m3 (m3 (C5 (PX.newf (c8 0)) (c9 2)) (c9 7)) c7))) (f6 (i5 3 (t:=.i) sc.nd (b9 (m3 (m3 (C5 (PX.newf (c8 0)) (c9 3)) (c9 7)) c7))))))) o9 ((k8 6).trans (k8 7)))) (f6 (i9 (E8 5 (u:=(.l .i))))))))
def a5G:EvS:=(f7 (i7 3 (N9 e7)) (f7 (D5 (iI (iL (a7 2))) (u5 4) (f7 (i7 5 (e2 i8 (e2 dIx (a7 0) (a7 1)) (a7 4))) (f7 (B6 3 (.l .i) q8 (e2 i8 (a7 5) (eC (.int 0)))) (i7 1 (e2 i8 (a7 5) (eC (.int 1))))))) (l6 (F6 (a8 (a7 3) (a8 (a7 1) e7))))))
def S9:=fnD [.f,.i,.f] 3 a5G
abbrev a5H(B:Bk P w K mg base)(k:Nat):=HB B "walked" k ["machine","state","probe"] (spD K 3 S9 (.tp [(.l .i),.i]))
theorem a9o(B:Bk P w K mg base):a5H B 1:=
 n8 B.d12 fun _ _ F=>fnF F ["machine","state","probe","answers","ask","step"] fun sc _ _ _ _ _ _ _=>by exact c6 (i5 3 (t:=(.l .i)) sc.nd (b9 (C4 (n:=0) (u:=.i) p5))) (c6 (A1 (M:=[mdF,mdI,mdF,mdL,mdD,mdD]) (MB:=[mdF,mdI,mdF,mdL,mdI,mdD]) rfl bN (PIX.i (m6 (PX.newf (c8 2)))) (x9 4 sc.nd) E1 a6s (PSsX.weak (M2:=[mdF,mdI,mdF,mdL,mdI,mdI]) (c6 (i5 5 (t:=.i) sc.nd (b9 (m3 (C5 (PX.newf (c8 0)) (c9 1)) (c9 4)))) (c6 (O2 3 (u:=(.l .i)) (t:=.i) (J0 3 (u:=(.l .i))) (b9 (m3 (c9 5) c7)) Y9) (f6 (i5 1 (t:=.i) sc.nd (b9 (m3 (c9 5) c7)))))) o9 ((k8 4).trans (k8 5)))) (f6 (i9 (b2N (a4T (u:=(.l .i)) (E8 3 (u:=(.l .i))) (a4T (u:=.i) (b9 (PX.newi (c9 1))) (b2M)))))))
def a0Y:EvS:=(f7 (i7 3 (eC (.dict []))) (f7 (D5 (iI (iL (a7 1))) (u5 4) (f7 (i7 5 (eCl S9 (a8 (a7 0) (a8 (a7 4) (a8 (a7 2) e7))))) (f7 (R8 3 true false (a0O (e2 dIx (a7 5) (eC (.int 0)))) (e2 i8 (a7 5) (eC (.int 1))) (eC (.bool true))) u3))) (l6 (m8 (iI (iL (X5 true (a7 3)))) [3] pt1 tT (F6 (a8 (eI (J7 (a7 0))) (a8 (X5 false (e2 (b2Y true) (a7 1) (a7 0))) e7)))))))
def B9:=fnD [.f,.f,.f] 4 a0Y
abbrev T0(B:Bk P w K mg base)(k:Nat):=HB B "ends_from" k ["machine","states","probe"] (spD K 3 B9 (.l (.tp [(.l .i),(.l .i)])))
theorem a4r(B:Bk P w K mg base)(ka:a5H B 1):T0 B 2:=
 n8 B.d13 fun _ _ F=>fnF F ["machine","states","probe","found","state","told","beside"] fun sc _ _ _ _ _ _ hr=>by exact c6 (i5 3 (t:=(.d true (.d false .i))) sc.nd (b9 (a5a true (.d false .i)))) (c6 (A1 (M:=[mdF,mdF,mdF,.own (.d true (.d false .i)),mdD,mdD,mdD]) (MB:=[mdF,mdF,mdF,.own (.d true (.d false .i)),mdI,mdD,mdD]) rfl bN (PIX.i (m6 (PX.newf (c8 1)))) (x9 4 sc.nd) E1 a6s (PSsX.weak (M2:=[mdF,mdF,mdF,.own (.d true (.d false .i)),mdI,.own (.tp [(.l .i),.i]),mdD]) (c6 (i5 5 (t:=(.tp [(.l .i),.i])) sc.nd (b9 (l8 ka hr (b7 (c8 0) (b7 (c9 4) (b7 (c8 2) g8)))))) (a6K 3 6 (kt:=true) (kt2:=false) (by exact hr.units) sc.nd (a1H B.tuple_ (b6N (p9 5 (u:=(.tp [(.l .i),.i]))) c7)) (m3 (p9 5 (u:=(.tp [(.l .i),.i]))) c7) M5 s9)) o9 ((k8 4).trans (k8 5)))) (f6 (i9 (b9 (O1 rfl (tn:=["answers"]) (ys:=["found"]) (js:=[3]) (m:=.i) (PIX.i (m6 (PX.frz (a5i true rfl B.sorted_ (p9 3 (u:=(.d true (.d false .i)))))))) rfl (fun _ _ _ _ _=>o8 (i:=0) b8Y rfl (bO rfl) (.inr rfl)) E7 (.inl rfl) b0j rfl (fun _ _ _ _ _=>B2) (fun _ _ _ _ _=>(b4T (us:=[(.l .i),(.l .i)]) (p0 (u:=(.l .i)) (MkL.i (I9 B.list_ (PX.newi (c9 0)))) (p0 (u:=(.l .i)) (a5i false rfl B.sorted_ (b5C (kt:=true) (u:=(.d false .i)) (by exact hr.units) (p9 1 (u:=(.d true (.d false .i)))) (c9 0))) p5)))))))))
def a5I:EvS:=(f7 (i7 3 (N9 e7)) (f7 (D5 (iL (a7 1)) (u5 4) (a5c 3 (m8 (iL (eCl B9 (a8 (a7 0) (a8 (a7 4) (a8 (a7 2) e7))))) [] pt2 tT (a7 1)))) (l6 (a7 3))))
def K1:=fnD [.f,.f,.f] 2 a5I
abbrev a5J(B:Bk P w K mg base)(k:Nat):=HB B "parted" k ["machine","groups","probe"] (spD K 3 K1 (.l (.l .i)))
theorem a9p(B:Bk P w K mg base)(fD:T0 B 2):a5J B 3:=
 n8 B.d14 fun _ _ F=>fnF F ["machine","groups","probe","found","states"] fun sc _ _ _ _ _ _ hr=>by exact c6 (i5 3 (t:=(.l (.l .i))) sc.nd (b9 (C4 (n:=0) (u:=(.l .i)) p5))) (c6 (A1 (M:=[mdF,mdF,mdF,D8,mdD]) (MB:=[mdF,mdF,mdF,D8,mdF]) rfl bN (m6 (PX.newf (c8 1))) (x9 4 sc.nd) a4c (fun _ _ _ _ _=>trivial) (PSsX.weak (M2:=[mdF,mdF,mdF,D8,mdF]) (f6 (b3e 3 (t:=(.l .i)) (a6M (xn:="answers") (yn:="group") (u1:=(.l .i)) (u2:=(.l .i)) rfl (U6 (u:=(.l (.tp [(.l .i),(.l .i)]))) fD hr (b7 (c8 0) (b7 (c8 4) (b7 (c8 2) g8))) (hfl:=(j9 (j9 (j9 J9))))) rfl (fun _ _ _ _ _=>a0i rfl (o5 (o8 (i:=0) b7K rfl (bO rfl) (.inr rfl)) (o5 (o8 (i:=1) b7K rfl (bO rfl) (.inr rfl)) G6))) (fun _ _ _ _ _=>A5 (i:=1) rfl (bO rfl))))) o9 (k8 4))) (f6 (i9 (E8 3 (u:=(.l (.l .i)))))))
def b1u:EvS:=(f7 (i7 1 (eCl F9 (a8 (a7 0) e7))) (f7 (i7 2 (N9 e7)) (f7 (i7 3 (N9 (a8 (a1Z (eCl A8 (a8 (a7 0) e7))) e7))) (f7 (i7 4 (eCl m4 (a8 (a7 3) (a8 (e2 o6 (a7 1) (eC (.int (-1)))) e7)))) (f7 (sWh (fun _=>1000000) (tB (e2 (a4J true) (a7 4) (eC .none))) (f7 (i7 5 (eCl w6 (a8 (a7 0) (a8 (a7 1) (a8 (e2 i8 (a7 4) (eC (.int 0))) (a8 (e2 i8 (a7 4) (eC (.int 1))) e7)))))) (f7 (a8T 2 (a7 5)) (f7 (i7 3 (eCl K1 (a8 (a7 0) (a8 (a7 3) (a8 (a7 5) e7))))) (i7 4 (eCl m4 (a8 (a7 3) (a8 (e2 o6 (a7 1) (eC (.int (-1)))) e7)))))))) (l6 (a7 2)))))))
def a4s:=fnD [.f] 5 b1u
abbrev b1v(B:Bk P w K mg base)(k:Nat):=HB B "home" k ["machine"] (spD K 1 a4s (.l .i))
theorem b3z(B:Bk P w K mg base)(fB:S6 B 3)(dO:L3 B 3)(gy:S8 B 3)(kc:a5J B 3):b1v B 4:=
 n8 B.d15 fun _ _ F=>fnF F ["machine","levels","probe","groups","pair","behind"] fun sc _ _ _ _ _ _ hr=>by exact c6 (i5 1 (t:=(.l (.l .i))) sc.nd (b9 (l8 fB hr (b7 (c8 0) g8)))) (c6 (i5 2 (t:=(.l .i)) sc.nd (b9 (C4 (n:=0) (u:=.i) p5))) (c6 (i5 3 (t:=(.l (.l .i))) sc.nd (b9 (C4 (n:=1) (u:=(.l .i)) (p0 (u:=(.l .i)) (a5k rfl B.list_ B.range_ (v8 B.len_ (c8 0))) p5)))) (c6 (i5 4 (t:=.i) sc.nd (b9 (l8 dO hr (b7 (p9 3 (u:=(.l (.l .i)))) (b7 (v7 (p9 1 (u:=(.l (.l .i)))) (a1C)) g8))))) (c6 (a1K (M:=[mdF,D8,mdL,D8,mdI,mdD]) (fun _=>1000000) bN (l9 b2F (c9 4) a3V) (PSsX.weak (M2:=[mdF,D8,mdL,D8,mdI,mdL]) (c6 (i5 5 (t:=(.l .i)) sc.nd (b9 (l8 gy hr (b7 (c8 0) (b7 (p9 1 (u:=(.l (.l .i)))) (b7 (m3 (c9 4) c7) (b7 (m3 (c9 4) c7) g8))))))) (c6 (b3h 2 (p6 5)) (c6 (i5 3 (t:=(.l (.l .i))) sc.nd (b9 (l8 kc hr (b7 (c8 0) (b7 (p9 3 (u:=(.l (.l .i)))) (b7 (p6 5) g8)))))) (f6 (i5 4 (t:=.i) sc.nd (b9 (l8 dO hr (b7 (p9 3 (u:=(.l (.l .i)))) (b7 (v7 (p9 1 (u:=(.l (.l .i)))) (a1C)) g8))))))))) o9 (k8 5))) (f6 (i9 (E8 2 (u:=(.l .i)))))))))
def b_law_walked:EvS:=(f7 (i7 3 (N9 e7)) (f7 (D5 (iI (iL (a7 2))) (u5 4) (f7 (a1J 5 1 (e2 i8 (e2 dIx (a7 0) (a7 1)) (a7 4))) (B6 3 (.l .i) q8 (a7 5)))) (l6 (F6 (a8 (a0O (a7 3)) (a8 (a7 1) e7))))))
def m_law_walked:=fnD [.f,.i,.f] 3 b_law_walked
abbrev O9(B:Bk P w K mg base)(k:Nat):=HB B "_law_walked" k ["_law_table","_law_state","_law_probe_here"] (spD K 3 m_law_walked .i)
theorem ok_law_walked(B:Bk P w K mg base):O9 B 1:=
 n8 B.d16 fun _ _ F=>fnF F ["_law_table","_law_state","_law_probe_here","_law_found","_law_ask","_law_answer_here"] fun sc _ _ _ _ _ _ _=>by exact c6 (i5 3 (t:=(.l .i)) sc.nd (b9 (C4 (n:=0) (u:=.i) p5))) (c6 (A1 (M:=[mdF,mdI,mdF,mdL,mdD,mdD]) (MB:=[mdF,mdI,mdF,mdL,mdI,mdD]) rfl bN (PIX.i (m6 (PX.newf (c8 2)))) (x9 4 sc.nd) E1 a6s (PSsX.weak (M2:=[mdF,mdI,mdF,mdL,mdI,mdI]) (c6 (a4b 5 1 (t:=.i) (u1:=.i) (u2:=.i) sc.nd rfl (b9 (m3 (C5 (PX.newf (c8 0)) (c9 1)) (c9 4))) (.inr (.inl ⟨rfl,rfl,rfl⟩)) (hg1:=o5 (x9 5 sc.nd) (o5 (x9 1 sc.nd) G6))) (f6 (O2 3 (u:=(.l .i)) (t:=.i) (J0 3 (u:=(.l .i))) (b9 (PX.newi (c9 5))) Y9))) o9 ((k8 4).trans (k8 5)))) (f6 (i9 (b9 (Y7 (n:=2) (p0 (u:=.i) (a1H B.tuple_ (p6 3)) (p0 (u:=.i) (PX.newi (c9 1)) p5)))))))
def a2l:EvS:=(l6 (a2B (e1 (fun d=>some (.bool (isInt d))) (a7 0)) (b0c (e1 (fun d=>some (.bool (isBool d))) (a7 0)))))
def P0:=fnD [.f] 0 a2l
abbrev a2m(B:Bk P w K mg base)(k:Nat):=HB B "is_whole" k ["thing"] (spD K 1 P0 .i)
theorem a5K(B:Bk P w K mg base):a2m B 1:=
 n8 B.d17 fun _ _ F=>fnF F ["thing"] fun _ _ _ _ _ _ _ _=>by exact f6 (i9 (b9 (X0 (X1 a7F B.isinstance_ B.int_ PyProof.Rows.Boot.«int» (c8 0)) (a0p (b0e (X1 a4M B.isinstance_ B.bool_ PyProof.Rows.Boot.«bool» (c8 0)))))))
def a2n:EvS:=(l6 (a2B (eCl P0 (a8 (a7 0) e7)) (eCh dLe dLt (eC (.int 0)) (a7 0) (a7 1))))
def P2:=fnD [.f,.i] 0 a2n
abbrev a2o(B:Bk P w K mg base)(k:Nat):=HB B "is_below" k ["thing","bound"] (spD K 2 P2 .i)
theorem a5L(B:Bk P w K mg base)(ja:a2m B 1):a2o B 2:=
 n8 B.d18 fun _ _ F=>fnF F ["thing","bound"] fun _ _ _ _ _ _ _ hr=>by exact f6 (i9 (b9 (X0 (l8 ja hr (b7 (c8 0) g8)) (a0p (b0d a7C a2U c7 (c8 0) (c9 1))))))
def a2p:EvS:=(l6 (a2B (e1 (fun d=>some (.bool (isList d))) (a7 0)) (a2B (e2 dLe (eCl A8 (a8 (a7 0) e7)) (eC (.int 13000))) (eCl b4X (a8 (m8 (iL (a7 0)) [1] pt1 tT (eCl P2 (a8 (a7 0) (a8 (a7 1) e7)))) e7)))))
def P3:=fnD [.f,.i] 0 a2p
abbrev a2q(B:Bk P w K mg base)(k:Nat):=HB B "is_probe" k ["thing","many"] (spD K 2 P3 .i)
theorem a5M(B:Bk P w K mg base)(jc:a2o B 2):a2q B 3:=
 n8 B.d19 fun _ _ F=>fnF F ["thing","many"] fun _ _ _ _ _ _ _ hr=>by exact f6 (i9 (b9 (X0 (X1 a1G B.isinstance_ B.list_ PyProof.Rows.Boot.«list» (c8 0)) (X0 (a0o a7C (v8 B.len_ (c8 0)) (b2H B.MOST_ASKED_)) (a0p (a1E (b4Y rfl) B.all_ PyProof.Rows.Boot.«all» (b7 (O1 rfl (tn:=["ask"]) (ys:=["many"]) (js:=[1]) (m:=.f) (m6 (PX.newf (c8 0))) rfl (fun _ _ _ _ _=>o8 (i:=0) b8Z rfl (bO rfl) (.inr rfl)) E7 (.inr rfl) a3b rfl (fun _ _ _ _ _=>B2) (fun _ _ _ _ _=>(l8 jc hr (b7 (c8 0) (b7 (c9 1) g8))))) g8)))))))
def a3o:EvS:=(l6 (eCl A8 (a8 (e2 dIx (a7 0) (eC (.int 0))) e7)))
def U9:=fnD [.f] 0 a3o
abbrev a3p(B:Bk P w K mg base)(k:Nat):=HB B "asks_of" k ["machine"] (spD K 1 U9 .i)
theorem a7e(B:Bk P w K mg base):a3p B 1:=
 n8 B.d20 fun _ _ F=>fnF F ["machine"] fun _ _ _ _ _ _ _ _=>by exact f6 (i9 (b9 (v8 B.len_ (C5 (PX.newf (c8 0)) c7))))
def a0a:EvS:=(sIf (tNo (tV (eCl P3 (a8 (a7 1) (a8 (eCl U9 (a8 (a7 0) e7)) e7))))) sNo u3)
def D1:=fnN [.f,.f] 0 a0a
abbrev a0b(B:Bk P w K mg base)(k:Nat):=HB B "need_probe" k ["machine","thing"] (spD K 2 D1 .i)
theorem a2G(B:Bk P w K mg base)(jb:a2q B 3)(jw:a3p B 3):a0b B 4:=
 n8 B.d21 fun _ _ F=>b8H F ["machine","thing"] [.own .f,.own .f] fun _ _ _ _ _ _ _ hr=>by exact f6 (A0 (M':=[mdF,mdF]) (H9 (N8 (l8 jb hr (b7 (c8 1) (b7 (l8 jw hr (b7 (c8 0) g8)) g8))))) (f6 (b6Q)) s9)
def b1w:EvS:=(f7 (sEx (eCl D1 (a8 (a7 0) (a8 (a7 1) e7)))) (l6 (eCl B9 (a8 (a7 0) (a8 (a1Z (eCl A8 (a8 (a7 0) e7))) (a8 (a7 1) e7))))))
def L4:=fnD [.f,.f] 0 b1w
abbrev a4t(B:Bk P w K mg base)(k:Nat):=HB B "ends" k ["machine","probe"] (spD K 2 L4 (.l (.tp [(.l .i),(.l .i)])))
theorem b3A(B:Bk P w K mg base)(fD:T0 B 4)(hZ:a0b B 4):a4t B 5:=
 n8 B.d22 fun _ _ F=>fnF F ["machine","probe"] fun _ _ _ _ _ _ _ hr=>by exact c6 (b2O (l8 hZ hr (b7 (c8 0) (b7 (c8 1) g8)))) (f6 (i9 (b9 (U6 (u:=(.l (.tp [(.l .i),(.l .i)]))) fD hr (b7 (c8 0) (b7 (a5k rfl B.list_ B.range_ (v8 B.len_ (c8 0))) (b7 (c8 1) g8))) (hfl:=(j9 (j9 (j9 J9))))))))
def a8c:EvS:=(f7 (D5 (iL (eCl L4 (a8 (a7 0) (a8 (a7 1) e7)))) (a6q 3 4) (sIf (tB (e2 dEq (a7 3) (a7 2))) (l6 (a7 4)) u3)) (l6 (N9 e7)))
def V0:=fnD [.f,.f,.f] 2 a8c
abbrev a8d(B:Bk P w K mg base)(k:Nat):=HB B "homed" k ["machine","probe","answers"] (spD K 3 V0 (.l .i))
theorem b1x(B:Bk P w K mg base)(ib:a4t B 5):a8d B 6:=
 n8 B.d23 fun _ _ F=>fnF F ["machine","probe","answers","told","states"] fun sc _ _ _ _ _ _ hr=>by exact c6 (a9b 3 4 (u1:=(.l .i)) (u2:=(.l .i)) rfl bN (U6 (u:=(.l (.tp [(.l .i),(.l .i)]))) ib hr (b7 (c8 0) (b7 (c8 1) g8)) (hfl:=(j9 (j9 J9)))) (a0i rfl (o5 (x9 3 sc.nd) (o5 (x9 4 sc.nd) G6))) (l9 C8 (c8 3) (c8 2))) (f6 (i9 (b9 (C4 (n:=0) (u:=.i) p5))))
def b_law_whole:EvS:=(l6 (a2B (e1 (fun d=>some (.bool (isInt d))) (a7 0)) (b0c (e1 (fun d=>some (.bool (isBool d))) (a7 0)))))
def m_law_whole:=fnD [.f] 0 b_law_whole
abbrev T4(B:Bk P w K mg base)(k:Nat):=HB B "_law_whole" k ["_law_found"] (spD K 1 m_law_whole .i)
theorem ok_law_whole(B:Bk P w K mg base):T4 B 1:=
 n8 B.d24 fun _ _ F=>fnF F ["_law_found"] fun _ _ _ _ _ _ _ _=>by exact f6 (i9 (b9 (X0 (X1 a7F B.isinstance_ B.int_ PyProof.Rows.Boot.«int» (c8 0)) (a0p (b0e (X1 a4M B.isinstance_ B.bool_ PyProof.Rows.Boot.«bool» (c8 0)))))))
def b_law_states:EvS:=(f7 (sIf (tNo (tV (e1 (fun d=>some (.bool (isList d))) (a7 0)))) (l6 (eC (.bool false))) u3) (f7 (D5 (iR (eCl A8 (a8 (a7 0) e7))) (u5 2) (f7 (sIf (a2C (tNo (tV (eCl m_law_whole (a8 (e2 dIx (a7 0) (a7 2)) e7)))) (tNo (tB (eCh dLe dLt (eC (.int 0)) (e2 dIx (a7 0) (a7 2)) (a7 1))))) (l6 (eC (.bool false))) u3) (sIf (tAn (tB (e2 dGt (a7 2) (eC (.int 0)))) (tB (e2 dGe (e2 dIx (a7 0) (e2 a1A (a7 2) (eC (.int 1)))) (e2 dIx (a7 0) (a7 2))))) (l6 (eC (.bool false))) u3))) (l6 (eC (.bool true)))))
def m_law_states:=fnD [.f,.i] 1 b_law_states
abbrev a0c(B:Bk P w K mg base)(k:Nat):=HB B "_law_states" k ["_law_found","_law_n"] (spD K 2 m_law_states .i)
theorem ok_law_states(B:Bk P w K mg base)(fC:T4 B 1):a0c B 2:=
 n8 B.d25 fun _ _ F=>fnF F ["_law_found","_law_n","_law_k"] fun sc _ _ _ _ _ _ hr=>by exact c6 (A0 (M':=[mdF,mdI,mdD]) (H9 (N8 (X1 a1G B.isinstance_ B.list_ PyProof.Rows.Boot.«list» (c8 0)))) (f6 (i9 (b9 M5))) s9) (c6 (A1 (M:=[mdF,mdI,mdD]) (MB:=[mdF,mdI,mdI]) rfl bN (y6 B.range_ (v8 B.len_ (c8 0))) (x9 2 sc.nd) E1 a8K (PSsX.weak (M2:=[mdF,mdI,mdI]) (c6 (A0 (M':=[mdF,mdI,mdI]) (PWX.pt (a3W (H9 (N8 (l8 fC hr (b7 (C5 (PX.newf (c8 0)) (c9 2)) g8)))) (a1h (H9 (a2V a7C a2U c7 (C5 (PX.newf (c8 0)) (c9 2)) (c9 1)))))) (f6 (i9 (b9 M5))) s9) (f6 (A0 (M':=[mdF,mdI,mdI]) (PWX.pt (b2I (l9 a9Y (c9 2) c7) (b0f (l9 b6K (C5 (PX.newf (c8 0)) (f8 Q8 (c9 2) c7)) (C5 (PX.newf (c8 0)) (c9 2)))))) (f6 (i9 (b9 M5))) s9))) o9 (k8 2))) (f6 (i9 (b9 M5))))
def b_law_foretold:EvS:=(f7 (a1J 5 6 (eCl m_law_walked (a8 (a7 0) (a8 (a7 4) (a8 (a7 2) e7))))) (f7 (i7 7 (eCl V0 (a8 (a7 1) (a8 (eI (J7 (a7 2))) (a8 (eI (J7 (a7 5))) e7))))) (f7 (sIf (a2C (tNo (tV (eCl m_law_states (a8 (a7 7) (a8 (eCl A8 (a8 (a7 0) e7)) e7))))) (tB (e2 (a2E true) (a7 6) (a7 7)))) (l6 (eC (.bool false))) u3) (f7 (a1J 8 9 (eCl m_law_walked (a8 (a7 0) (a8 (a7 6) (a8 (a7 3) e7))))) (f7 (i7 10 (m8 (iR (eCl A8 (a8 (a7 0) e7))) [0,2] pt1 tT (eCl m_law_walked (a8 (a7 1) (a8 (a7 0) (a8 (a7 2) e7)))))) (f7 (D5 (iI (iL (a7 7))) (u5 11) (sIf (a2C (tB (e2 (a2E true) (F6 (a8 (a7 5) (a8 (a7 11) e7))) (a7 10))) (tB (e2 dNe (e2 i8 (eCl m_law_walked (a8 (a7 0) (a8 (a7 11) (a8 (a7 3) e7)))) (eC (.int 0))) (a7 8)))) (l6 (eC (.bool false))) u3)) (f7 (i7 7 (eCl V0 (a8 (a7 1) (a8 (eI (a6m (a7 2) (a7 3))) (a8 (eI (a6m (eI (J7 (a7 5))) (eI (J7 (a7 8))))) e7))))) (l6 (a2B (eCl m_law_states (a8 (a7 7) (a8 (eCl A8 (a8 (a7 0) e7)) e7))) (e2 (a2E false) (a7 9) (a7 7)))))))))))
def m_law_foretold:=fnD [.f,.f,.f,.f,.i] 7 b_law_foretold
abbrev T5(B:Bk P w K mg base)(k:Nat):=HB B "_law_foretold" k ["_law_table","_law_handed","_law_asked","_law_rest","_law_s"] (spD K 5 m_law_foretold .i)
theorem ok_law_foretold(B:Bk P w K mg base)(dD:O9 B 6)(jU:a8d B 6)(gq:a0c B 6):T5 B 7:=
 n8 B.d26 fun _ _ F=>fnF F ["_law_table","_law_handed","_law_asked","_law_rest","_law_s","_law_key","_law_end","_law_states_here","_law_due","_law_last","_law_all_ends","_law_state"] fun sc _ _ _ _ _ _ hr=>by exact c6 (a4b 5 6 (t:=.i) (u1:=.i) (u2:=.i) sc.nd rfl (b9 (l8 dD hr (b7 (c8 0) (b7 (c9 4) (b7 (c8 2) g8))))) (.inr (.inl ⟨rfl,rfl,rfl⟩)) (hg1:=o5 (x9 5 sc.nd) (o5 (x9 6 sc.nd) G6))) (c6 (i5 7 (t:=(.l .i)) sc.nd (b9 (l8 jU hr (b7 (c8 1) (b7 (MkL.i (I9 B.list_ (PX.newf (c8 2)))) (b7 (MkL.i (I9 B.list_ (PX.newi (c9 5)))) g8)))))) (c6 (A0 (M':=[mdF,mdF,mdF,mdF,mdI,mdI,mdI,mdL,mdD,mdD,mdD,mdD]) (PWX.pt (a3W (H9 (N8 (l8 gq hr (b7 (p6 7) (b7 (v8 B.len_ (c8 0)) g8))))) (a1h (l9 (a3j (by exact hr.units)) (c9 6) (p6 7))))) (f6 (i9 (b9 M5))) s9) (c6 (a4b 8 9 (t:=.i) (u1:=.i) (u2:=.i) sc.nd rfl (b9 (l8 dD hr (b7 (c8 0) (b7 (c9 6) (b7 (c8 3) g8))))) (.inr (.inl ⟨rfl,rfl,rfl⟩)) (hg1:=o5 (x9 8 sc.nd) (o5 (x9 9 sc.nd) G6))) (c6 (E2 10 (t:=.i) sc.nd rfl (tn:=["_law_t"]) (ys:=["_law_table","_law_asked"]) (js:=[0,2]) (mm:=.i) (y6 B.range_ (v8 B.len_ (c8 0))) rfl (fun _ _ _ _ _=>o8 (i:=0) b9a rfl (bO rfl) (.inr rfl)) E7 (.inl rfl) a4R rfl (fun _ _ _ _ _=>B2) (fun _ _ _ _ _=>(l8 dD hr (b7 (c8 1) (b7 (c9 0) (b7 (c8 2) g8)))))) (c6 (PSX.weak (M1:=[mdF,mdF,mdF,mdF,mdI,mdI,mdI,mdF,mdI,mdI,mdL,mdD]) (A1 (M:=[mdF,mdF,mdF,mdF,mdI,mdI,mdI,mdF,mdI,mdI,mdL,mdD]) (MB:=[mdF,mdF,mdF,mdF,mdI,mdI,mdI,mdF,mdI,mdI,mdL,mdI]) rfl bN (PIX.i (m6 (PX.newf (c8 7)))) (x9 11 sc.nd) E1 a6s (PSsX.weak (M2:=[mdF,mdF,mdF,mdF,mdI,mdI,mdI,mdF,mdI,mdI,mdL,mdI]) (f6 (A0 (M':=[mdF,mdF,mdF,mdF,mdI,mdI,mdI,mdF,mdI,mdI,mdL,mdI]) (PWX.pt (a3W (l9 (a3j (by exact hr.units)) (Y7 (n:=2) (p0 (u:=.i) (PX.newi (c9 5)) (p0 (u:=.i) (PX.newi (c9 11)) p5))) (p6 10)) (a1h (l9 b1h (m3 (l8 dD hr (b7 (c8 0) (b7 (c9 11) (b7 (c8 3) g8)))) c7) (c9 8))))) (f6 (i9 (b9 M5))) s9)) o9 (k8 11))) (a6p 7) o9) (c6 (i5 7 (t:=(.l .i)) sc.nd (b9 (l8 jU hr (b7 (c8 1) (b7 (MkL.i (a6n (PX.newf (c8 2)) (PX.newf (c8 3)))) (b7 (MkL.i (a6n (MkL.i (I9 B.list_ (PX.newi (c9 5)))) (MkL.i (I9 B.list_ (PX.newi (c9 8)))))) g8)))))) (f6 (i9 (b9 (X0 (l8 gq hr (b7 (p6 7) (b7 (v8 B.len_ (c8 0)) g8))) (a0p (a0o (b5J (by exact hr.units)) (c9 9) (p6 7)))))))))))))
def a0Z:EvS:=(f7 (i7 2 (m8 (iL (eCl L4 (a8 (a7 0) (a8 (a7 1) e7)))) [] pt2 tT (a7 1))) (l6 (e2 (a4J false) (eCl m4 (a8 (a7 2) (a8 (e2 dIx (eCl F9 (a8 (a7 0) e7)) (eC (.int (-1)))) e7))) (eC .none))))
def A2:=fnD [.f,.f] 1 a0Z
abbrev a1a(B:Bk P w K mg base)(k:Nat):=HB B "tells_end" k ["machine","probe"] (spD K 2 A2 .i)
theorem a4u(B:Bk P w K mg base)(fB:S6 B 5)(dO:L3 B 5)(ib:a4t B 5):a1a B 6:=
 n8 B.d27 fun _ _ F=>fnF F ["machine","probe","groups"] fun sc _ _ _ _ _ _ hr=>by exact c6 (E2 2 (t:=.f) sc.nd rfl (tn:=["answers","states"]) (ys:=[]) (js:=[]) (mm:=.f) (m6 (PX.frz (U6 (u:=(.l (.tp [(.l .i),(.l .i)]))) ib hr (b7 (c8 0) (b7 (c8 1) g8)) (hfl:=(j9 (j9 J9)))))) rfl (fun _ _ _ _ _=>a0i rfl (o5 (o8 (i:=0) b4f rfl (bO rfl) (.inr rfl)) (o5 (o8 (i:=1) b4f rfl (bO rfl) (.inr rfl)) G6))) a4a (.inr rfl) a3b rfl (fun _ _ _ _ _=>B2) (fun _ _ _ _ _=>(PX.newf (c8 1)))) (f6 (i9 (b9 (a0o b4R (l8 dO hr (b7 (p9 2 (u:=(.l .f))) (b7 (C5 (PX.frz (l8 fB hr (b7 (c8 0) g8))) (a1C)) g8))) a3V))))
def b_law:EvS:=(f7 (i7 1 (eCl m_law_machine (a8 (a7 0) (a8 (eC (.int 6)) (a8 (eC (.int 12)) e7))))) (f7 (i7 2 (eCl m_law_probe (a8 (a7 0) (a8 (a7 1) e7)))) (f7 (i7 3 (m8 (iL (a7 1)) [] pt1 tT (eI (J7 (a7 0))))) (f7 (i7 4 (eCl a4s (a8 (a7 3) e7))) (f7 (sIf (tNo (tV (e1 (fun d=>some (.bool (isList d))) (a7 4)))) (l6 (eC (.bool false))) u3) (f7 (D5 (iI (iL (a7 4))) (u5 5) (sIf (a2C (tNo (tV (eCl m_law_whole (a8 (a7 5) e7)))) (tNo (tB (eCh dLe dLt (eC (.int 0)) (a7 5) (eCl A8 (a8 (e2 dIx (a7 1) (eC (.int 0))) e7)))))) (l6 (eC (.bool false))) u3)) (f7 (D5 (iR (eCl A8 (a8 (a7 1) e7))) (u5 6) (sIf (tNo (tV (eCl m_law_foretold (a8 (a7 1) (a8 (a7 3) (a8 (eI (J7 (a7 4))) (a8 (a7 2) (a8 (a7 6) e7)))))))) (l6 (eC (.bool false))) u3)) (f7 (D5 (iI (iL (N9 (a8 (eC (.int 0)) (a8 (e2 G8 (eCl A8 (a8 (a7 2) e7)) (eC (.int 2))) (a8 (eCl A8 (a8 (a7 2) e7)) e7)))))) (u5 7) (sIf (tB (e2 (b2D true) (eCl A2 (a8 (a7 3) (a8 (eI (a6m (a7 4) (eI (eSl (a7 2) oNo (oSo (a7 7)))))) e7))) (eC (.bool true)))) (l6 (eC (.bool false))) u3)) (f7 (i7 8 (m8 (iR (eCl A8 (a8 (a7 1) e7))) [1,4] pt1 tT (e2 i8 (eCl m_law_walked (a8 (a7 1) (a8 (a7 0) (a8 (a7 2) e7)))) (eC (.int 0))))) (f7 (i7 9 (m8 (iL (eCl L4 (a8 (a7 3) (a8 (eI (J7 (a7 4))) e7)))) [] pt2 tT (a7 0))) (l6 (a2B (e2 dEq (a7 9) (m8 (iI (iL (M9 (a7 8)))) [] pt1 tT (eI (J7 (a7 0))))) (e2 dEq (a7 3) (a7 1))))))))))))))
def m_law:=fnD [.f] 9 b_law
theorem ok_law(B:Bk P w K mg base)(gQ:W5 B 7)(iF:a0W B 7)(mh:b1v B 7)(dD:O9 B 7)(ib:a4t B 7)(fC:T4 B 7)(gx:T5 B 7)(iE:a1a B 7)(F:Fun K "law" "law" (top 38) f fd):FnOk P w K mg base CX0 8 f fd ["_law_script"] (spD K 1 m_law .i):=
 fnF F ["_law_script","_law_table","_law_rest","_law_handed","_law_asked","_law_ask","_law_s","_law_k","_law_keys","_law_lists"] fun sc _ _ _ _ _ _ hr=>by exact c6 (i5 1 (t:=(.l (.l .i))) sc.nd (b9 (l8 gQ hr (b7 (c8 0) (b7 c7 (b7 c7 g8)))))) (c6 (i5 2 (t:=(.l .i)) sc.nd (b9 (l8 iF hr (b7 (c8 0) (b7 (p9 1 (u:=(.l (.l .i)))) g8))))) (c6 (PSX.weak (M1:=[mdF,mdF,mdL,mdD,mdD,mdD,mdD,mdD,mdD,mdD]) (E2 3 (t:=(.l .i)) sc.nd rfl (tn:=["_law_row"]) (ys:=[]) (js:=[]) (mm:=.f) (m6 (PX.newf (c8 1))) rfl (fun _ _ _ _ _=>o8 (i:=0) b7L rfl (bO rfl) (.inr rfl)) E7 (.inr rfl) a3b rfl (fun _ _ _ _ _=>B2) (fun _ _ _ _ _=>(MkL.i (I9 B.list_ (PX.newf (c8 0)))))) (a6p 1) o9) (c6 (i5 4 (t:=(.l .i)) sc.nd (b9 (l8 mh hr (b7 (p9 3 (u:=(.l (.l .i)))) g8)))) (c6 (A0 (M':=[mdF,mdF,mdL,D8,mdL,mdD,mdD,mdD,mdD,mdD]) (H9 (N8 (X1 a1G B.isinstance_ B.list_ PyProof.Rows.Boot.«list» (p6 4)))) (f6 (i9 (b9 M5))) s9) (c6 (PSX.weak (M1:=[mdF,mdF,mdL,D8,mdF,mdD,mdD,mdD,mdD,mdD]) (A1 (M:=[mdF,mdF,mdL,D8,mdF,mdD,mdD,mdD,mdD,mdD]) (MB:=[mdF,mdF,mdL,D8,mdF,mdI,mdD,mdD,mdD,mdD]) rfl bN (PIX.i (m6 (PX.newf (c8 4)))) (x9 5 sc.nd) E1 a6s (PSsX.weak (M2:=[mdF,mdF,mdL,D8,mdF,mdI,mdD,mdD,mdD,mdD]) (f6 (A0 (M':=[mdF,mdF,mdL,D8,mdF,mdI,mdD,mdD,mdD,mdD]) (PWX.pt (a3W (H9 (N8 (l8 fC hr (b7 (c9 5) g8)))) (a1h (H9 (a2V a7C a2U c7 (c9 5) (v8 B.len_ (C5 (PX.newf (c8 1)) c7))))))) (f6 (i9 (b9 M5))) s9)) o9 (k8 5))) (a6p 4) o9) (c6 (A1 (M:=[mdF,mdF,mdL,D8,mdF,mdD,mdD,mdD,mdD,mdD]) (MB:=[mdF,mdF,mdL,D8,mdF,mdD,mdI,mdD,mdD,mdD]) rfl bN (y6 B.range_ (v8 B.len_ (c8 1))) (x9 6 sc.nd) E1 a8K (PSsX.weak (M2:=[mdF,mdF,mdL,D8,mdF,mdD,mdI,mdD,mdD,mdD]) (f6 (A0 (M':=[mdF,mdF,mdL,D8,mdF,mdD,mdI,mdD,mdD,mdD]) (H9 (N8 (l8 gx hr (b7 (c8 1) (b7 (p9 3 (u:=(.l (.l .i)))) (b7 (MkL.i (I9 B.list_ (PX.newf (c8 4)))) (b7 (p6 2) (b7 (c9 6) g8)))))))) (f6 (i9 (b9 M5))) s9)) o9 (k8 6))) (c6 (A1 (M:=[mdF,mdF,mdL,D8,mdF,mdD,mdD,mdD,mdD,mdD]) (MB:=[mdF,mdF,mdL,D8,mdF,mdD,mdD,mdI,mdD,mdD]) rfl bN (PIX.i (m6 (PX.frz (C4 (n:=3) (u:=.i) (p0 (u:=.i) c7 (p0 (u:=.i) (f8 C3 (v8 B.len_ (p6 2)) c7) (p0 (u:=.i) (v8 B.len_ (p6 2)) p5))))))) (x9 7 sc.nd) E1 a6s (PSsX.weak (M2:=[mdF,mdF,mdL,D8,mdF,mdD,mdD,mdI,mdD,mdD]) (f6 (A0 (M':=[mdF,mdF,mdL,D8,mdF,mdD,mdD,mdI,mdD,mdD]) (l9 b2G (l8 iE hr (b7 (p9 3 (u:=(.l (.l .i)))) (b7 (MkL.i (a6n (PX.newf (c8 4)) (MkL.i (a4P (p6 2) a4N (a4O (c9 7)))))) g8))) M5) (f6 (i9 (b9 M5))) s9)) o9 (k8 7))) (c6 (E2 8 (t:=.i) sc.nd rfl (tn:=["_law_s"]) (ys:=["_law_table","_law_asked"]) (js:=[1,4]) (mm:=.i) (y6 B.range_ (v8 B.len_ (c8 1))) rfl (fun _ _ _ _ _=>o8 (i:=0) b7M rfl (bO rfl) (.inr rfl)) E7 (.inl rfl) a4R rfl (fun _ _ _ _ _=>B2) (fun _ _ _ _ _=>(m3 (l8 dD hr (b7 (c8 1) (b7 (c9 0) (b7 (c8 2) g8)))) c7))) (c6 (E2 9 (t:=.f) sc.nd rfl (tn:=["_law_one","_law_states_here"]) (ys:=[]) (js:=[]) (mm:=.f) (m6 (PX.frz (U6 (u:=(.l (.tp [(.l .i),(.l .i)]))) ib hr (b7 (p9 3 (u:=(.l (.l .i)))) (b7 (MkL.i (I9 B.list_ (PX.newf (c8 4)))) g8)) (hfl:=(j9 (j9 J9)))))) rfl (fun _ _ _ _ _=>a0i rfl (o5 (o8 (i:=0) b4g rfl (bO rfl) (.inr rfl)) (o5 (o8 (i:=1) b4g rfl (bO rfl) (.inr rfl)) G6))) a4a (.inr rfl) a3b rfl (fun _ _ _ _ _=>B2) (fun _ _ _ _ _=>(PX.newf (c8 0)))) (f6 (i9 (b9 (X0 (a0o C8 (p9 9 (u:=(.l .f))) (O1 rfl (tn:=["_law_key"]) (ys:=[]) (js:=[]) (m:=.i) (PIX.i (m6 (PX.frz (a5v rfl (by exact hr.units) B.set_ B.sorted_ (p6 8))))) rfl (fun _ _ _ _ _=>o8 (i:=0) b7N rfl (bO rfl) (.inr rfl)) E7 (.inl rfl) b0j rfl (fun _ _ _ _ _=>B2) (fun _ _ _ _ _=>(MkL.i (I9 B.list_ (PX.newi (c9 0))))))) (a0p (a0o C8 (p9 3 (u:=(.l (.l .i)))) (c8 1))))))))))))))))
end Prog
namespace VS
open PySem L2
abbrev Ky:=List (Int × Int)
theorem snoc_ind{P:List α→Prop}(h0:P [])(h1:∀l x,P l→P (l ++ [x]))(l:List α):P l:=by
 have h:∀r:List α,P r.reverse:=by
  intro r
  induction r with
  | nil=>exact h0
  | cons x r ih=>rw [gC];exact h1 _ _ ih
 have:=h l.reverse
 rwa [List.reverse_reverse] at this
def a2r(seen:List Ky)(x:Ky):List Ky:=if x∈seen then seen else seen ++ [x]
def ded(ks:List Ky):List Ky:=ks.foldl a2r []
theorem D2(ks:List Ky)(x:Ky):ded (ks ++ [x])=a2r (ded ks) x:=by unfold ded;rw [yK];rfl
theorem F0(h:x∈s):a2r s x=s:=aE h
theorem D3(h:x∉s):a2r s x=s ++ [x]:=aJ h
theorem b1y:y∈a2r s x↔y∈s∨y=x:=by
 by_cases h:x∈s
 ·rw [F0 h];exact⟨bO,fun z=>z.elim id fun e=>e ▸ h⟩
 ·rw [D3 h];simp
theorem D4:y∈ded ks↔y∈ks:=by
 induction ks using snoc_ind with
 | h0=>simp [ded]
 | h1 l x ih=>rw [D2,b1y,ih];simp
theorem a8e(ks:List Ky):(ded ks).length≤ks.length:=by
 induction ks using snoc_ind with
 | h0=>simp [ded]
 | h1 l x ih=>
  rw [D2,aM,bY];by_cases h:x∈ded l
  ·rw [F0 h];lia
  ·rw [D3 h,aM,bY];lia
theorem b1z(h:y∈s):(a2r s x).idxOf y=s.idxOf y:=by
 by_cases c:x∈s
 ·rw [F0 c]
 ·rw [D3 c,lJ,aE h]
theorem b3B{s:List Ky}{x y:Ky}(hx:x∈s)(h:s.idxOf x=s.idxOf y):x=y:=by
 have h1:=pA.mpr hx;have e1:s[s.idxOf x]'h1=x:=wW h1;have h2:s.idxOf y < s.length:=by rw [←h];exact h1
 have e2:s[s.idxOf y]'h2=y:=wW h2;rw [←e1,←e2]
 congr 1
theorem a8f(h:ks≠[]):∃x∈ks,(ded ks).idxOf x + 1=(ded ks).length:=by
 induction ks using snoc_ind with
 | h0=>exact absurd rfl h
 | h1 l x ih=>
  rw [D2];by_cases c:x∈ded l
  ·have hl:l≠[]:=fun e=>by subst e;simp [ded] at c
   obtain⟨y,hy,e⟩:=ih hl;exact⟨y,av _ hy,by rw [F0 c];exact e⟩
  ·refine⟨x,by simp,?_⟩;rw [D3 c,lJ,aJ c,aM];simp
def a0D(ks:List Ky):List Int:=ks.map fun x=>(((ded ks).idxOf x:Nat):Int)
theorem a5N(ks:List Ky):(a0D ks).length=ks.length:=ae ..
theorem a0E{α:Type}(f g:α→Ky)(ps:List α):(∀p∈ps,∀q∈ps,g p=g q→f p=f q)→(ded (ps.map f)).length≤(ded (ps.map g)).length∧((ded (ps.map g)).length≤(ded (ps.map f)).length→∀p∈ps,∀q∈ps,f p=f q→g p=g q):=by
 induction ps using snoc_ind with
 | h0=>exact fun _=>⟨aD _,fun _ p hp=>nomatch hp⟩
 | h1 l x ih=>
  intro h;obtain⟨i1,i2⟩:=ih fun p hp q hq=>h p (av _ hp) q (av _ hq)
  rw [aR,aR,dZ,dZ,D2,D2];have hx:x∈l ++ [x]:=by simp
  by_cases cg:g x∈ded (l.map g)
  ·obtain⟨q,hq,eq⟩:=aK.mp (D4.mp cg);have yr:f q=f x:=h q (av _ hq) x hx eq;have cf:f x∈ded (l.map f):=D4.mpr (aK.mpr ⟨q,hq,yr⟩);rw [F0 cg,F0 cf];refine⟨i1,fun hle p hp r hr e=>?_⟩;have key:∀p∈l,f p=f x→g p=g x:=fun p hp e=>(i2 hle p hp q hq (e.trans yr.symm)).trans eq
   rcases aw.mp hp with z|z <;> rcases aw.mp hr with y|y
   ·exact i2 hle p z r y e
   ·cases ar.mp y;exact key p z e
   ·cases ar.mp z;exact (key r y e.symm).symm
   ·cases ar.mp z;cases ar.mp y;rfl
  ·by_cases cf:f x∈ded (l.map f)
   ·rw [F0 cf,D3 cg,aM,bY];exact⟨by lia,fun hle=>by lia⟩
   ·rw [D3 cf,D3 cg,aM,aM,bY,bY];refine⟨by lia,fun hle p hp r hr e=>?_⟩;have no:∀p∈l,f p≠f x:=fun p hp e=>cf (D4.mpr (aK.mpr ⟨p,hp,e⟩))
    rcases aw.mp hp with z|z <;> rcases aw.mp hr with y|y
    ·exact i2 (by lia) p z r y e
    ·cases ar.mp y;exact absurd e (no p z)
    ·cases ar.mp z;exact absurd e.symm (no r y)
    ·cases ar.mp z;cases ar.mp y;rfl
def rn(r:Ky)(ls:List Int):Ky:=r.map fun p=>(p.1,ls.getD p.2.toNat 0)
theorem a0F(r:Ky)(ls:List Int):(rn r ls).length=r.length:=ae ..
def lvl(m:j5):Nat→List Int
 | 0=>m.map fun _=>0
 | d + 1=>a0D (m.map fun r=>rn r (lvl m d))
def kf(m:j5):Nat→Ky→Ky
 | 0,_=>[]
 | d + 1,r=>rn r (lvl m d)
def cls(m:j5)(d:Nat):Nat:=(ded (m.map (kf m d))).length
def lv(m:j5)(d:Nat)(s:Int):Int:=(lvl m d).getD s.toNat 0
theorem P4(m:j5):∀d,(lvl m d).length=m.length
 | 0=>ae ..
 | d + 1=>by unfold lvl;rw [a5N,ae]
theorem y9(m:j5)(s:Int):lv m 0 s=0:=by
 unfold lv lvl;rw [ai,aN];cases m[s.toNat]? <;> rfl
theorem a8g{m:j5}{d:Nat}{s:Int}(h0:0≤s)(h1:s < m.length):lv m (d + 1) s=(((ded (m.map (kf m (d + 1)))).idxOf (rn (rowAt m s) (lvl m d)):Nat):Int):=by
 have h2:s.toNat < m.length:=by lia
 show (a0D (m.map fun r=>rn r (lvl m d))).getD s.toNat 0=_;unfold a0D rowAt;rw [ai,aN,aN,ai,af h2];rfl
theorem a4v{m:j5}{d:Nat}{s t:Int}(h0:0≤s)(h1:s < m.length)(h2:0≤t)(h3:t < m.length):lv m (d + 1) s=lv m (d + 1) t↔rn (rowAt m s) (lvl m d)=rn (rowAt m t) (lvl m d):=by
 rw [a8g h0 h1,a8g h2 h3];refine⟨fun h=>?_,fun h=>by rw [h]⟩;exact b3B (D4.mpr (aK.mpr ⟨_,E6 h0 h1,rfl⟩)) (Int.ofNat_inj.mp h)
theorem b7O{r r':Ky}{ls:List Int}(hl:r.length=r'.length):rn r ls=rn r' ls↔∀a:Nat,a < r.length→(r.getD a (0,0)).1=(r'.getD a (0,0)).1∧ls.getD (r.getD a (0,0)).2.toNat 0=ls.getD (r'.getD a (0,0)).2.toNat 0:=by
 unfold rn
 constructor
 ·intro h a ha;have e:(r.map fun p=>(p.1,ls.getD p.2.toNat 0))[a]?=(r'.map fun p=>(p.1,ls.getD p.2.toNat 0))[a]?:=by rw [h]
  rw [aN,aN,af ha,af (by lia)] at e;rw [ai,ai,af ha,af (by lia)];simp only [mY,yI,Prod.mk.injEq] at e;exact e
 ·intro h;refine List.ext_getElem (by rw [ae,ae,hl]) fun a h1 h2=>?_
  rw [ae] at h1 h2;have:=h a h1;rw [ai,ai,af h1,af h2] at this;rw [dW,dW];exact tQ this.1 this.2
theorem K9{m:j5}{k d:Nat}(w:WF m k){s t:Int}(h0:0≤s)(h1:s < m.length)(h2:0≤t)(h3:t < m.length) :
  lv m (d + 1) s=lv m (d + 1) t↔∀a:Int,0≤a→a < k→(stp m s a).1=(stp m t a).1∧lv m d (stp m s a).2=lv m d (stp m t a).2:=by
 rw [a4v h0 h1 h2 h3,b7O (by rw [w.row h0 h1,w.row h2 h3]),w.row h0 h1];refine⟨fun h a a0 a1=>h a.toNat (by lia),fun h a ha=>?_⟩;have:=h a (by lia) (by lia);unfold stp lv at this
 rwa [aZ] at this
theorem a1p{m:j5}{k:Nat}(w:WF m k):∀(d:Nat) {s t:Int},0≤s→s < m.length→0≤t→t < m.length→lv m (d + 1) s=lv m (d + 1) t→lv m d s=lv m d t
 | 0,s,t,_,_,_,_,_=>by rw [y9,y9]
 | d + 1,s,t,h0,h1,h2,h3,h=>by
  rw [K9 w h0 h1 h2 h3] at h ⊢;intro a a0 a1;have ha:=h a a0 a1;have n1:=w.nx h0 h1 a0 a1;have n2:=w.nx h2 h3 a0 a1;exact⟨ha.1,a1p w d n1.1 n1.2 n2.1 n2.2 ha.2⟩
theorem b7P{m:j5}{k:Nat}(w:WF m k){s t:Int}(h0:0≤s)(h1:s < m.length)(h2:0≤t)(h3:t < m.length){d e:Nat}(ya:d≤e)(h:lv m e s=lv m e t):lv m d s=lv m d t:=by
 obtain⟨j,rfl⟩:=Nat.le.dest ya;clear ya
 induction j with
 | zero=>exact h
 | succ j ih=>exact ih (a1p w (d + j) h0 h1 h2 h3 h)
theorem b1A{m:j5}{r:Ky}(h:r∈m):∃s:Int,0≤s∧s < m.length∧rowAt m s=r:=by
 obtain⟨i,hi,e⟩:=List.getElem_of_mem h;refine⟨i,by lia,by lia,?_⟩;unfold rowAt;rw [aZ,ai,af hi];exact e
theorem b1B{m:j5}{d:Nat}{s t:Int}(h0:0≤s)(h1:s < m.length)(h2:0≤t)(h3:t < m.length):kf m d (rowAt m s)=kf m d (rowAt m t)↔lv m d s=lv m d t:=by
 cases d with
 | zero=>rw [y9,y9];exact⟨fun _=>rfl,fun _=>rfl⟩
 | succ d=>rw [a4v h0 h1 h2 h3];rfl
theorem b1C{m:j5}{k:Nat}(w:WF m k)(d:Nat):cls m d≤cls m (d + 1)∧(cls m (d + 1)≤cls m d→∀s t:Int,0≤s→s < m.length→0≤t→t < m.length→lv m d s=lv m d t→lv m (d + 1) s=lv m (d + 1) t):=by
 obtain⟨c1,c2⟩:=a0E (kf m d) (kf m (d + 1)) m fun p hp q hq e=>by
  obtain⟨s,h0,h1,rfl⟩:=b1A hp;obtain⟨t,h2,h3,rfl⟩:=b1A hq;rw [b1B h0 h1 h2 h3] at e ⊢;exact a1p w d h0 h1 h2 h3 e
 refine⟨c1,fun hc s t h0 h1 h2 h3 e=>?_⟩;rw [←b1B h0 h1 h2 h3] at e ⊢;exact c2 hc _ (E6 h0 h1) _ (E6 h2 h3) e
theorem a1q(m:j5)(d:Nat):cls m d≤m.length:=by
 have:=a8e (m.map (kf m d));rw [ae] at this;exact this
theorem V1(w:WF m k)(d:Nat):1≤cls m d:=by
 have hm:m≠[]:=fun e=>by have:=w.pos;rw [e] at this;exact absurd this (by decide)
 obtain⟨x,_,e⟩:=a8f (ks:=m.map (kf m d)) (fun e=>hm (uC.mp e));unfold cls;lia
theorem a7f{m:j5}{k:Nat}(w:WF m k){D:Nat}(hD:∀s t:Int,0≤s→s < m.length→0≤t→t < m.length→lv m D s=lv m D t→lv m (D + 1) s=lv m (D + 1) t):∀(d:Nat) (s t:Int),0≤s→s < m.length→0≤t→t < m.length→lv m D s=lv m D t→lv m d s=lv m d t
 | 0,s,t,_,_,_,_,_=>by rw [y9,y9]
 | d + 1,s,t,h0,h1,h2,h3,h=>by
  rw [K9 w h0 h1 h2 h3];have h':=(K9 w h0 h1 h2 h3).mp (hD s t h0 h1 h2 h3 h);intro a a0 a1;have n1:=w.nx h0 h1 a0 a1;have n2:=w.nx h2 h3 a0 a1;exact⟨(h' a a0 a1).1,a7f w hD d _ _ n1.1 n1.2 n2.1 n2.2 (h' a a0 a1).2⟩
def fp:Ky→Ky→Nat
 | x :: xs,y :: ys=>if x=y then fp xs ys + 1 else 0
 | _,_=>0
theorem a4w:∀{r r':Ky},r.length=r'.length→r≠r'→fp r r' < r.length∧r.getD (fp r r') (0,0)≠r'.getD (fp r r') (0,0)∧∀i < fp r r',r.getD i (0,0)=r'.getD i (0,0)
 | [],[],_,h=>absurd rfl h
 | [],_ :: _,h,_=>by simp at h
 | _ :: _,[],h,_=>by simp at h
 | x :: xs,y :: ys,hl,h=>by
  by_cases c:x=y
  ·subst c;have ih:=a4w (r:=xs) (r':=ys) (by simpa using hl) (fun e=>h (by rw [e]));have e:fp (x :: xs) (x :: ys)=fp xs ys + 1:=aE rfl;rw [e];refine⟨by rw [aW];lia,?_,fun i hi=>?_⟩
   ·rw [fZ,fZ];exact ih.2.1
   ·cases i with
    | zero=>rfl
    | succ i=>rw [fZ,fZ];exact ih.2.2 i (by lia)
  ·have e:fp (x :: xs) (y :: ys)=0:=aJ c;rw [e];exact⟨by rw [aW];lia,by rw [kB,kB];exact c,fun i hi=>absurd hi (by lia)⟩
def fa(m:j5)(d:Nat)(s t:Int):Int:=(fp (rn (rowAt m s) (lvl m d)) (rn (rowAt m t) (lvl m d)):Nat)
theorem a4x{r:Ky}(h:i < r.length):(rn r ls).getD i (0,0)=((r.getD i (0,0)).1,ls.getD (r.getD i (0,0)).2.toNat 0):=by
 unfold rn;rw [ai,aN,af h,ai,af h];rfl
theorem a4y{m:j5}{k d:Nat}(w:WF m k){s t:Int}(h0:0≤s)(h1:s < m.length)(h2:0≤t)(h3:t < m.length)(h:lv m (d + 1) s≠lv m (d + 1) t) :
  (0≤fa m d s t∧fa m d s t < k)∧((stp m s (fa m d s t)).1≠(stp m t (fa m d s t)).1∨lv m d (stp m s (fa m d s t)).2≠lv m d (stp m t (fa m d s t)).2)∧
  ∀a:Int,0≤a→a < fa m d s t→(stp m s a).1=(stp m t a).1∧lv m d (stp m s a).2=lv m d (stp m t a).2:=by
 have l1:=w.row h0 h1;have l2:=w.row h2 h3;rw [ne_eq,a4v h0 h1 h2 h3] at h;obtain⟨f1,f2,f3⟩:=a4w (r:=rn (rowAt m s) (lvl m d)) (r':=rn (rowAt m t) (lvl m d)) (by rw [a0F,a0F,l1,l2]) h;rw [a0F,l1] at f1;refine⟨⟨by unfold fa;lia,by unfold fa;lia⟩,?_,fun a a0 a1=>?_⟩
 ·rw [a4x (by lia),a4x (by lia)] at f2;unfold stp lv fa;rw [aZ];by_cases c:((rowAt m s).getD (fp (rn (rowAt m s) (lvl m d)) (rn (rowAt m t) (lvl m d))) (0,0)).1=((rowAt m t).getD (fp (rn (rowAt m s) (lvl m d)) (rn (rowAt m t) (lvl m d))) (0,0)).1
  ·exact .inr fun e=>f2 (tQ c e)
  ·exact .inl c
 ·unfold fa at a1;have:=f3 a.toNat (by lia);rw [a4x (by lia),a4x (by lia)] at this;unfold stp lv;have e1:=eG Prod.fst this;have e2:=eG Prod.snd this;exact⟨e1,e2⟩
def fu(m:j5):Nat→Int→Int→List Int
 | 0,_,_=>[]
 | d + 1,s,t=>fa m d s t :: fu m d (stp m s (fa m d s t)).2 (stp m t (fa m d s t)).2
theorem b1D(m:j5):∀(d:Nat) (s t:Int),(fu m d s t).length=d
 | 0,_,_=>rfl
 | d + 1,s,t=>by show (fu m d _ _).length + 1=_;rw [b1D m d]
theorem a2s(hp:∀d,p (d + 1)=true→p d=true):∀N:Nat,∃c,(aG N).countP p=c∧c≤N∧(∀d < c,p d=true)∧∀d,c≤d→d < N→p d=false
 | 0=>⟨0,rfl,aD _,fun d h=>absurd h (by lia),fun d _ h=>absurd h (by lia)⟩
 | N + 1=>by
  obtain⟨c,e,hc,h1,h2⟩:=a2s hp N;rw [nc,List.countP_append,e];by_cases cN:p N=true
  ·have AJ:c=N:=by
    rcases bZ c N with z|z
    ·have down:∀j i,i + j=N→p i=true:=by
      intro j
      induction j with
      | zero=>intro i e;rw [show i=N by lia];exact cN
      | succ j ih=>intro i e;exact hp i (ih (i + 1) (by lia))
     have:=h2 c (aD _) z;rw [down (N - c) c (by lia)] at this;cases this
    ·lia
   subst AJ;refine⟨c + 1,by simp [cN],aD _,fun d hd=>?_,fun d hd ir=>absurd ir (by lia)⟩;rcases bZ d c with z|z
   ·exact h1 d z
   ·rw [show d=c by lia];exact cN
  ·refine⟨c,by simp [cN],by lia,h1,fun d hd ir=>?_⟩;rcases bZ d N with z|z
   ·exact h2 d hd z
   ·rw [show d=N by lia];simpa using cN
end VS
namespace VS
open PySem L2
theorem b6e:a7K [.dict kvs]=some (.int kvs.length):=rfl
theorem a4z(h:a ρ=some (.list ds))(hi:e6 ds=true):a0O a ρ=some (.tuple ds):=by
 unfold a0O;rw [h];exact a4U (by simp only [imm];exact hi)
theorem b6f(hk:fk ρ=some k)(he:fe ρ=some e)(hd:ρ.getD i .none=.dict kvs)(hK:B8 kt k=true)(hl:kvs.length < 1000000)(hs:scal e=true)(hj:ρ.getD j .none=.list ds)(kW:i≠j)(mE:ds.length < 1000000) :
  a5b j (a1S i kt fk fe) ρ=some (.nx ((ρ.set i (.dict (l0 kvs k e))).set j (.list (ds ++ [(D7 kvs k).getD e])))):=by
 have hx:a1S i kt fk fe ρ=some ((D7 kvs k).getD e,ρ.set i (.dict (l0 kvs k e))):=by
  unfold a1S;rw [hk];show (fe ρ).bind _=_;rw [he];show (match ρ.getD i .none with|.dict kvs=>_|_=>_)=_;rw [hd];show (if _ then _ else _)=_;rw [aE (by rw [hK,aO hl,hs];rfl)]
 have Ap:(ρ.set i (.dict (l0 kvs k e))).getD j .none=.list ds:=by
  rw [←hj,ai,ai,cX kW]
 unfold a5b;rw [hx];show (match (ρ.set i (.dict (l0 kvs k e))).getD j .none with|.list ds=>_|_=>_)=_;rw [Ap];show (if _ then _ else _)=_;rw [aE mE]
theorem a1r{I:Nat→List D→Prop}{Q:List D→Prop}(B:Nat)(step:∀j ρ,I j ρ→j≤B∧((c ρ=some false∧Q ρ)∨(c ρ=some true∧∃ρ',g ρ=some (.nx ρ')∧I (j + 1) ρ'))):∀n j ρ,I j ρ→B < n + j→∃ρ',whL c g n ρ=some (.nx ρ')∧Q ρ'
 | 0,j,ρ,h,hn=>absurd (step j ρ h).1 (by lia)
 | n + 1,j,ρ,h,hn=>by
  rcases (step j ρ h).2 with⟨e,q⟩|⟨e,ρ',e2,h2⟩
  ·refine⟨ρ,?_,q⟩;show (c ρ).bind _=_;rw [e];rfl
  ·obtain⟨ρ2,e3,q⟩:=a1r B step n (j + 1) ρ' h2 (by lia);refine⟨ρ2,?_,q⟩;show (c ρ).bind _=_;rw [e];show (g ρ).bind _=_;rw [e2];exact e3
theorem b6g:sWh (fun _=>n) c g ρ=whL c g n ρ:=rfl
theorem b9b(h:a ρ=some (.list ds)):iRv a ρ=some ds.reverse:=by
 unfold iRv;rw [h];rfl
theorem b1E(p q:Int × Int):aI (stD p) (stD q)=decide (p=q):=by
 unfold stD;simp only [aI,b_,a4n];rcases p with⟨a,b⟩
 rcases q with⟨c,d⟩
 by_cases h1:a=c <;> by_cases h2:b=d <;> simp [h1,h2]
theorem a8h:∀xs ys:Ky,b_ (xs.map stD) (ys.map stD)=decide (xs=ys)
 | [],[]=>by simp [b_]
 | [],_ :: _=>by simp [b_]
 | _ :: _,[]=>by simp [b_]
 | x :: xs,y :: ys=>by
  simp only [aB,b_,b1E,a8h xs ys,nh];by_cases h1:x=y <;> by_cases h2:xs=ys <;> simp [h1,h2]
theorem b6h:dEq (stD p) (stD q)=some (.bool (decide (p=q))):=by
 rw [b1o (a7c p) (a7c q) (bI (a2h p) (by decide)),b1E]
def N0(x:Ky):D:=.tuple (x.map stD)
theorem a5O(x y:Ky):aI (N0 x) (N0 y)=decide (x=y):=by
 unfold N0;simp only [aI];exact a8h x y
theorem a2t:∀x:Ky,n9 (x.map stD)=true
 | []=>rfl
 | p :: x=>by
  show (z7 (stD p) && n9 (x.map stD))=true;rw [a2t x];rfl
theorem a9q(x:Ky):B8 true (N0 x)=true:=by
 have h1:z7 (N0 x)=true:=a2t x;have h2:(N0 x).depth≤7:=by
  unfold N0;simp only [dA];have:=E4 stD 1 a2h x;lia
 unfold B8;rw [h1,aO h2];rfl
def dz:List Ky→Nat→List (D × D)
 | [],_=>[]
 | x :: xs,i=>(N0 x,.int i) :: dz xs (i + 1)
theorem a7g:∀(s:List Ky) (i:Nat),(dz s i).length=s.length
 | [],_=>rfl
 | x :: s,i=>by show (dz s (i + 1)).length + 1=_;rw [a7g s];rfl
theorem a8i:∀(s:List Ky) (x:Ky) (i:Nat),dz (s ++ [x]) i=dz s i ++ [(N0 x,.int ((i + s.length:Nat):Int))]
 | [],x,i=>rfl
 | y :: s,x,i=>by
  show (N0 y,aU i) :: dz (s ++ [x]) (i + 1)=_;rw [a8i s x (i + 1)];show _=(N0 y,aU i) :: (dz s (i + 1) ++ _);rw [aW,jf,Nat.add_comm 1]
theorem a8j:∀(s:List Ky) (x:Ky) (i:Nat),G0 (dz s i) (N0 x)=decide (x∈s)
 | [],x,i=>by simp [G0,dz]
 | y :: s,x,i=>by
  have ih:=a8j s x (i + 1);unfold G0 at ih ⊢;show (aI (N0 y) (N0 x) || (dz s (i + 1)).any _)=_;rw [ih,a5O];by_cases h:y=x
  ·simp [h]
  ·have:¬ x=y:=fun e=>h e.symm
   simp [h,this]
theorem a8k:∀(s:List Ky) (x:Ky) (i:Nat),D7 (dz s i) (N0 x)=if x∈s then some (.int ((i + s.idxOf x:Nat):Int)) else none
 | [],x,i=>by simp [D7,dz]
 | y :: s,x,i=>by
  have ih:=a8k s x (i + 1);unfold D7 at ih ⊢;show (List.find? _ ((N0 y,aU i) :: dz s (i + 1))).map _=_;rw [jI,a5O];by_cases h:y=x
  ·subst h;simp
  ·have h':¬ x=y:=fun e=>h e.symm
   rw [bj h];show Option.map _ (List.find? _ (dz s (i + 1)))=_;rw [ih];have e:(y :: s).idxOf x=s.idxOf x + 1:=by
    rw [List.idxOf_cons,beq_false_of_ne h];rfl
   rw [e,jf,Nat.add_comm 1];by_cases c:x∈s
   ·rw [aE c,aE (ah _ c)]
   ·rw [aJ c,aJ (by simp [h',c])]
theorem b3C(s:List Ky)(x:Ky):l0 (dz s 0) (N0 x) (.int (s.length:Nat))=dz (a2r s x) 0:=by
 unfold l0;rw [a8j];by_cases c:x∈s
 ·rw [aO c,aE rfl,F0 c]
 ·rw [bj c,aJ (by decide),D3 c,a8i,Nat.zero_add]
theorem b3D(s:List Ky)(x:Ky):(D7 (dz s 0) (N0 x)).getD (.int (s.length:Nat))=.int (((a2r s x).idxOf x:Nat):Int):=by
 rw [a8k];by_cases c:x∈s
 ·rw [aE c,F0 c,Nat.zero_add];rfl
 ·rw [aJ c,D3 c,lJ,aJ c];simp
theorem a0G:∀(r:List Int) (i:Int),M6 i r∈i :: r∧∀x∈i :: r,x≤M6 i r
 | [],i=>⟨by simp [M6],fun x hx=>by simp at hx;rw [hx];exact tU _⟩
 | y :: r,i=>by
  have e:M6 i (y :: r)=M6 (if y > i then y else i) r:=rfl;rw [e];by_cases c:y > i
  ·rw [aE c];obtain⟨h1,h2⟩:=a0G r y;refine⟨ah _ h1,fun x hx=>?_⟩;rcases aH.mp hx with z|z
   ·have:=h2 y (by simp);lia
   ·exact h2 x z
  ·rw [aJ c];obtain⟨h1,h2⟩:=a0G r i;refine⟨?_,fun x hx=>?_⟩
   ·rcases aH.mp h1 with z|z
    ·rw [z];simp
    ·exact ah _ (ah _ z)
   ·rcases aH.mp hx with z|z
    ·rw [z];exact h2 i (by simp)
    ·rcases aH.mp z with y'|y'
     ·have:=h2 i (by simp);lia
     ·exact h2 x (ah _ y')
theorem b1F{ns:List Int}(h1:n∈ns)(h2:∀x∈ns,x≤n):V9 [.list (ns.map .int)]=some (.int n):=by
 show (intsOf (ns.map aU)).bind _=_;rw [a6C];cases ns with
 | nil=>cases h1
 | cons i r=>
  obtain⟨g1,g2⟩:=a0G r i;have a:=h2 _ g1;have b:=g2 _ h1;show some (aU (M6 i r))=_;rw [show M6 i r=n by lia]
theorem b3E(h:ks≠[]):V9 [.list ((a0D ks).map .int)]=some (.int ((ded ks).length - 1)):=by
 obtain⟨x,hx,e⟩:=a8f h;refine b1F ?_ fun y hy=>?_
 ·exact aK.mpr ⟨x,hx,by lia⟩
 ·obtain⟨z,hz,rfl⟩:=aK.mp hy;have:=pA.mpr (D4.mpr hz);lia
theorem a8l(w:WF m k):∀d,V9 [.list ((lvl m d).map .int)]=some (.int (cls m d - 1))
 | 0=>by
  have hm:m≠[]:=fun e=>by have:=w.pos;rw [e] at this;exact absurd this (by decide)
  have hc:cls m 0=1:=by
   have h1:=V1 w 0;unfold cls at h1 ⊢;have:∀l:j5,(ded (l.map (kf m 0))).length≤1:=by
    intro l
    induction l using snoc_ind with
    | h0=>simp [ded]
    | h1 l x ih=>
     rw [aR,dZ,D2];by_cases c:kf m 0 x∈ded (l.map (kf m 0))
     ·rw [F0 c];exact ih
     ·have:l=[]:=by
       cases l with
       | nil=>rfl
       | cons y l=>exact absurd (D4.mpr (aK.mpr ⟨y,by simp,rfl⟩)) c
      subst this;simp [a2r,ded]
   have:=this m;lia
  rw [hc];refine b1F ?_ fun y hy=>?_
  ·cases m with
   | nil=>exact absurd rfl hm
   | cons r m=>exact aK.mpr ⟨r,by simp,rfl⟩
  ·obtain⟨z,_,rfl⟩:=aK.mp hy
   decide
 | d + 1=>by
  have hm:m≠[]:=fun e=>by have:=w.pos;rw [e] at this;exact absurd this (by decide)
  exact b3E (ks:=m.map fun r=>rn r (lvl m d)) fun e=>hm (uC.mp e)
theorem v_count{bs:List Bool}:a1T (.list (bs.map .bool)) (.bool true)=some (.int (bs.countP id)):=by
 have h1:aL (bs.map cw)=true:=J2 _ (fun x=>by simp only [cn]) bs;show (if (aL (bs.map cw) && (cw true).canLay0 && decide ((cw true).depth≤60))=true then some (aU ((bs.map cw).countP fun d=>aI d (.bool true))) else none)=_;rw [h1,aE (by simp [cn,dA])];rw [CM]
 congr 3
 congr 1
 funext b
 cases b <;> rfl
end VS
namespace VS
open PySem L2
theorem a3q(p:α→Bool)(f:α→D):∀{xs:List α},(∀x∈xs,∃bs,pt (enc x)=some bs∧t (bs ++ cs)=some (p x)∧(p x=true→g (bs ++ cs)=some (f x)))→D9 pt t g cs (xs.map enc)=some ((xs.filter p).map f)
 | [],_=>rfl
 | x :: xs,h=>by
  obtain⟨bs,h1,h2,h3⟩:=h x aq;have ih:=a3q p f (xs:=xs) fun e he=>h e (ah _ he)
  show (pt (enc x)).bind _=_;rw [h1];show (t (bs ++ cs)).bind _=_;rw [h2];cases c:p x with
  | true=>
   rw [List.filter_cons_of_pos c];show (g (bs ++ cs)).bind _=_;rw [h3 c];show (D9 pt t g cs (xs.map enc)).bind _=_;rw [ih];rfl
  | false=>
   rw [List.filter_cons_of_neg (by rw [c];decide)];exact ih
theorem b3F{js:List Nat}(p:Nat→Bool)(f:Nat→D)(hf:fi ρ=some (A6 0 n))(hl:n≤1000000)(h:∀k:Nat,k < n→t (.int k :: js.map fun j=>ρ.getD j .none)=some (p k)∧(p k=true→g (.int k :: js.map fun j=>ρ.getD j .none)=some (f k))) :
  m8 fi js pt1 t g ρ=some (.list (((aG n).filter p).map f)):=by
 unfold m8;rw [hf];show (if (A6 0 n).length≤1000000 then _ else none)=_;rw [aE (by rw [a1O];exact hl),a0B,a3q (enc:=fun (k:Nat)=>aU k) p f]
 ·rfl
 ·intro x hx;have:=h x (bx.mp hx);exact⟨[.int x],rfl,this.1,this.2⟩
end VS
namespace VS
open PySem L2
theorem a3r{l:List Int}(h:i < l.length):l.getD i 0∈l:=by
 rw [ai,af h];exact cS _
end VS
namespace VS
open PySem L2
theorem a3s(f:α→D):∀{xs:List α},(∀x∈xs,∃bs,pt (enc x)=some bs∧g (bs ++ cs)=some (f x))→D9 pt tT g cs (xs.map enc)=some (xs.map f)
 | [],_=>rfl
 | x :: xs,h=>by
  obtain⟨bs,h1,h2⟩:=h x aq;have ih:=a3s f (xs:=xs) fun e he=>h e (ah _ he)
  show (pt (enc x)).bind _=_;rw [h1];show (g (bs ++ cs)).bind _=_;rw [h2];show (D9 pt tT g cs (xs.map enc)).bind _=_;rw [ih];rfl
theorem V2{js:List Nat}{xs:List α}(f:α→D)(hf:fi ρ=some (xs.map enc))(hl:xs.length≤1000000)(h:∀x∈xs,∃bs,pt (enc x)=some bs∧g (bs ++ js.map fun j=>ρ.getD j .none)=some (f x)) :
  m8 fi js pt tT g ρ=some (.list (xs.map f)):=by
 unfold m8;rw [hf];show (if (xs.map enc).length≤1000000 then _ else none)=_;rw [aE (by rw [ae];exact hl),a3s f h];rfl
end VS
namespace VS
open PySem L2
section
variable {β α:Type}[DecidableEq β]
def dd1(W:List (β × α))(c:β × α):List (β × α):=if c.1∈W.map (·.1) then W else W ++ [c]
def dd(W C:List (β × α)):List (β × α):=C.foldl dd1 W
variable {W C C':List (β × α)}{c:β × α}{t:β}
end
theorem nodup_range{n:Nat}:∀{l:List Int},l.Nodup→(∀x∈l,0≤x∧x < (n:Int))→l.length≤n:=by
 induction n with
 | zero=>
  intro l _ h;cases l with
  | nil=>exact aD _
  | cons x l=>have:=h x (by simp);lia
 | succ n ih=>
  intro l hd h;have h1:=ih (l:=l.erase (n:Int)) (hd.erase _) fun x hx=>by
   have h2:=(List.Nodup.mem_erase_iff hd).mp hx;have:=h x h2.2;have:=h2.1;lia
  have h2:=List.length_erase (a:=(n:Int)) (l:=l);by_cases c:(n:Int)∈l
  ·rw [aE c] at h2;lia
  ·rw [aJ c] at h2;lia
def wl:List Int→List Int→Prop
 | a :: p,b :: q=>a < b∨(a=b∧wl p q)
 | _,_=>False
def bf(p q:List Int):Prop:=p.length < q.length∨(p.length=q.length∧wl p q)
abbrev a9r:=List (Int × List Int)
def b7Q(m:j5)(k:Nat)(e:Int × List Int):a9r:=(aG k).map fun (a:Nat)=>((stp m e.1 a).2,e.2 ++ [(a:Int)])
abbrev W0:a9r:=[(0,[])]
abbrev Sor(W:a9r):Prop:=W.Pairwise fun a b=>bf a.2 b.2
structure Met (m:j5) (k:Nat) (dn W:a9r):Prop where
 eq:W=dd W0 (dn.flatMap (b7Q m k))
 pre:∃nw,W=dn ++ nw
 sor:Sor W
 ql:∀e∈W,e.2.length≤dn.length
structure AllMet (m:j5) (k:Nat) (W:a9r):Prop where
 eq:W=dd W0 (W.flatMap (b7Q m k))
 sor:Sor W
 range:∀e∈W,0≤e.1∧e.1 < (m.length:Int)
 ql:∀e∈W,e.2.length≤W.length
end VS
namespace VS
open PySem L2
section
variable {α:Type}
variable {enc:α→D}{W:List (Int × α)}{t:Int}{x:α}
theorem dKey_i{t:Int}:B8 false (.int t)=true:=rfl
end
end VS
namespace VS
open PySem L2
abbrev PW:=List ((Int × Int) × List Int)
theorem b7R(hf:f ρ=some (.list es))(hi:ρ.getD i .none=.list ds)(vT:e6 es=true)(hl:ds.length + es.length≤1000000):a8T i f ρ=some (.nx (ρ.set i (.list (ds ++ es)))):=by
 unfold a8T;rw [hf,bP,hi];simp only [vT,aO hl,eL,gc]
end VS
namespace VS
open PySem L2
theorem N1{ns:List Int}{j:Int}(a:0≤j)(b:j < ns.length):L2.atI (ns.map aU) j=some (.int (ns.getD j.toNat 0)):=by
 rw [a1N a (by rw [ae];exact b),dW];rw [ai,af (by lia)];rfl
end VS
local macro_rules | `(tactic| walk_at "ev")=>`(tactic| simp -implicitDefEqProofs (disch:=first | omega | assumption | decide) only [VS.v_var,VS.v_c,VS.v_1,VS.v_2,VS.b8q,VS.a6u,VS.b0o,VS.b7a,VS.b8r,VS.b7b,VS.b7c,VS.b7d,VS.v_and,VS.v_or,VS.v_not,VS.b8s,VS.b3Z,VS.b4a,VS.V8,VS.a0Q,VS.b0p,VS.b8t,VS.b5w,VS.b0q,VS.b4b,VS.b5x,VS.b8m,VS.b2S,VS.b8n,VS.b2T,VS.b8o,VS.b8p,VS.b5g,VS.b5h,VS.b5i,VS.b6V,VS.b6W,VS.b5j,VS.b5k,VS.b6X,VS.b6Y,VS.b5l,VS.b5m,VS.b5n,VS.b5o,VS.b5p,VS.X2,VS.b5q,VS.b5r,VS.b5s,VS.b0n,VS.b5t,VS.b6Z,VS.b2U,VS.a6t,VS.b5u,VS.a7J,VS.b5v,VS.v_add,VS.v_sub,VS.v_lt,VS.b8u,VS.b8v,VS.b8w,VS.b7e,VS.b7f,VS.b5y,VS.b5z,VS.b7g,VS.b7h,VS.b7i,VS.b7j,VS.b7k,VS.b7l,VS.v_mod,VS.v_div,VS.b8I,VS.b1i,VS.b7s,VS.trB,VS.b7t,VS.b5W,VS.b1j,VS.b3r,VS.b1k,VS.b1l,VS.b3s,VS.a9k,VS.a6T,VS.a6U,VS.a6V,VS.a9l,VS.a9m,VS.a6W,VS.a6X,VS.a5w,VS.a5x,VS.a5y,VS.a6Y,VS.a6Z,VS.a5z,VS.isList_list,VS.isList_int,VS.a5A,VS.isList_bool,VS.a7a,VS.isList_str,VS.isList_dict,VS.a5B,VS.isTuple_list,VS.isTuple_int,VS.b1m,VS.b1n,VS.a4l,VS.b7u,VS.b7v,VS.b5X,VS.b8R,VS.a2d,VS.X7,VS.b5Y,VS.b5Z,VS.b7x,VS.b7y,VS.b8S,VS.at0,VS.at1,VS.b7E,VS.b7F,VS.b6a,VS.b3x,VS.b7G,VS.b3y,kB,fZ,kT,iM,ig,kA,bo,cu,bV,eK,Bool.not_false,pC,gX,Bool.false_and,Bool.and_false,VS.b8J,VS.b8K,VS.b8L,VS.b8M,VS.b8N,VS.b8O,VS.b8P,VS.b8Q,decide_true,decide_false,ae,aB,cK])
namespace Prog
open PySem L2 VS
theorem T6{ns:List Int}{j:Int}(a:0≤j)(b:j < ns.length):L2.atI (ns.map aU) j=some (.int (ns.getD j.toNat 0)):=by
 rw [a1N a (by rw [ae];exact b),dW];rw [ai,af (by lia)];rfl
end Prog
namespace Prog
open PySem L2 VS
theorem L5{r:Ky}{ls:List Int}(hn:∀p∈r,0≤p.2∧p.2 < (ls.length:Int))(hl:r.length≤1000):m9 [rwD r,iD ls]=some (rwD (rn r ls)):=by
 unfold m9;rw [D6 (by simp [VS.argsOk])];unfold Z9;rw [b0p,a2e (ds:=r.map stD) (fun d=>match d with|.tuple [.int a,.int b]=>stD (a,ls.getD b.toNat 0)|_=>.none)]
 ·rw [bp];show some (eT (r.map _))=_;unfold rwD rn;rw [bp];rfl
 ·exact a2d (by unfold rwD;walk_at "ev") (E3 _ (fun _=>a4p) r)
 ·rw [ae];lia
 ·intro d hd;obtain⟨p,hp,rfl⟩:=aK.mp hd;have:=hn p hp;refine⟨[.int p.1,.int p.2],rfl,?_⟩;show F6 _ [.int p.1,.int p.2,.list (ls.map .int)]=some (stD (p.1,ls.getD p.2.toNat 0));walk_at "ev";rw [T6 this.1 this.2];walk_at "ev";rfl
theorem b1G{m:j5}{ls:List Int}(hn:∀r∈m,∀p∈r,0≤p.2∧p.2 < (ls.length:Int))(hl:∀r∈m,r.length≤1000)(hm:m.length≤1000):u9 [.list (m.map rwD),iD ls]=some (iD (a0D (m.map fun r=>rn r ls))):=by
 unfold u9;rw [D6 (by simp [VS.argsOk])];unfold W6;walk_at "ev";refine E9 (fun ρ=>∃x y z,ρ=[.list (m.map rwD),iD ls,x,iD (a0D (m.map fun r=>rn r ls)),y,z]) ?_ ?_
 ·obtain⟨ρ',h1,x,y,rfl⟩:=C9 (enc:=rwD) (set:=u5 4) (xs:=m) (g:=f7 (i7 5 (a0O (eCl m9 (a8 (a7 4) (a8 (a7 1) e7))))) (a5b 3 (a1S 2 true (a7 5) (eCl a7K (a8 (a7 2) e7)))))
   (ρ:=[.list (m.map rwD),iD ls,.dict [],.list [],.none,.none])
   (fun pre ρ=>∃x y,ρ=[.list (m.map rwD),iD ls,.dict (dz (ded (pre.map fun r=>rn r ls)) 0),iD (a0D (pre.map fun r=>rn r ls)),x,y])
   ⟨.none,.none,rfl⟩ (by
    rintro pre r post e ρ ⟨x,y,rfl⟩;have hr:r∈m:=by rw [e];simp
    have hlen:pre.length < m.length:=by rw [e];simp
    have hd:=a8e (pre.map fun r=>rn r ls);rw [ae] at hd;refine⟨_,[.list (m.map rwD),iD ls,.dict (dz (ded ((pre ++ [r]).map fun r=>rn r ls)) 0),iD (a0D ((pre ++ [r]).map fun r=>rn r ls)),rwD r,N0 (rn r ls)],rfl,?_,_,_,rfl⟩;walk_at "ev";rw [a4z (ds:=(rn r ls).map stD) (by walk_at "ev";exact L5 (hn r hr) (hl r hr)) (E3 _ (fun _=>a4p) _)];walk_at "ev";rw [b6f (k:=N0 (rn r ls)) (e:=.int ((ded (pre.map fun r=>rn r ls)).length:Nat)) (kvs:=dz (ded (pre.map fun r=>rn r ls)) 0) (ds:=(a0D (pre.map fun r=>rn r ls)).map .int) (by rfl) (by walk_at "ev";rw [b6e,a7g]) (by rfl) (a9q _) (by rw [a7g];lia) (by rfl) (by rfl) (by decide) (by rw [ae,a5N,ae];lia)];rw [b3C,b3D,aR,dZ,D2];have vF:a0D ((pre.map fun r=>rn r ls) ++ [rn r ls])=a0D (pre.map fun r=>rn r ls) ++ [(((a2r (ded (pre.map fun r=>rn r ls)) (rn r ls)).idxOf (rn r ls):Nat):Int)]:=by
     unfold a0D;rw [aR,dZ,D2]
     congr 1;refine bS fun y hy=>?_
     rw [b1z (D4.mpr hy)]
    rw [vF];unfold iD;rw [aR];rfl)
  exact⟨_,h1,_,_,_,rfl⟩
 ·rintro ρ ⟨x,y,z,rfl⟩;walk_at "ev"
end Prog
namespace VS
open PySem L2
theorem b1H{i j:Nat}{f:EvE}{ρ ds:List D}{d:D}(h:ρ.getD j .none=.list ds)(hl:ds.length < 1000000)(hf:f (ρ.set j (.list (ds ++ [ρ.getD i .none])))=some d):U7 j i f ρ=some (.nx ((ρ.set j (.list (ds ++ [ρ.getD i .none]))).set i d)):=by
 unfold U7;rw [h];show (if _ then _ else _)=_;rw [aE hl,hf];rfl
theorem a0d{α:Type}{f:Nat→α}{j:Nat}:L2.atI ((aG (j + 1)).map f) (-1)=some (f j):=by
 unfold L2.atI ixN;rw [ae,bz,aJ (by decide),aE (by lia)];show ((aG (j + 1)).map f)[((j + 1:Nat) + (-1:Int)).toNat]?=_;rw [show (((j + 1:Nat):Int) + (-1:Int)).toNat=j by lia,aN,eQ (by lia)];rfl
end VS
namespace Prog
open PySem L2 VS
theorem a3t{m:j5}{k:Nat}(w:WF m k)(d:Nat):u9 [.list (m.map rwD),iD (lvl m d)]=some (iD (lvl m (d + 1))):=by
 refine b1G (fun r hr p hp=>?_) (fun r hr=>by rw [w.rows r hr];have:=w.k5;lia) (by have:=w.le;lia);rw [P4];exact w.next r hr p hp
theorem a3u{m:j5}{k:Nat}(w:WF m k):∃D:Nat,F9 [.list (m.map rwD)]=some (.list ((aG (D + 1)).map fun d=>iD (lvl m d)))∧D + 1≤m.length∧(∀i < D,cls m i < cls m (i + 1))∧
  ∀s t:Int,0≤s→s < m.length→0≤t→t < m.length→lv m D s=lv m D t→lv m (D + 1) s=lv m (D + 1) t:=by
 unfold F9;rw [D6 (by simp [VS.argsOk])];unfold a0X;have hle:=w.le;have h0:m8 (iL (a7 0)) [] pt1 tT (eC (.int 0)) [.list (m.map rwD),.none,.none]=some (iD (lvl m 0)):=by
  rw [a2e (ds:=m.map rwD) (fun _=>.int 0)]
  ·rw [bp];show _=some (eT ((m.map fun _=>(0:Int)).map .int));rw [bp];rfl
  ·walk_at "ev"
  ·rw [ae];lia
  ·exact fun d hd=>⟨[d],rfl,rfl⟩
 walk_at "ev";show ∃D,a2D (thn (b0l 1 (listE (a7I (m8 (iL (a7 0)) [] pt1 tT (eC (.int 0)) [.list (m.map rwD),.none,.none]) (some []))) [.list (m.map rwD),.none,.none]) _)=_∧_;rw [h0];walk_at "ev";rw [show L2.atI [iD (lvl m 0)] (-1)=some (iD (lvl m 0)) from a0d (f:=fun d=>iD (lvl m d)) (j:=0)];walk_at "ev";rw [a3t w 0];walk_at "ev";rw [b6g];obtain⟨ρ',h1,D,rfl,q1,q2⟩:=a1r (c:=tB (e2 dGt (eCl V9 (a8 (a7 2) e7)) (eCl V9 (a8 (e2 o6 (a7 1) (eC (.int (-1)))) e7)))) (g:=f7 (U7 1 2 (eCl u9 (a8 (a7 0) (a8 (a7 2) e7)))) u3)
  (I:=fun j ρ=>ρ=[.list (m.map rwD),.list ((aG (j + 1)).map fun d=>iD (lvl m d)),iD (lvl m (j + 1))]∧∀i < j,cls m i < cls m (i + 1))
  (Q:=fun ρ=>∃j,ρ=[.list (m.map rwD),.list ((aG (j + 1)).map fun d=>iD (lvl m d)),iD (lvl m (j + 1))]∧(∀i < j,cls m i < cls m (i + 1))∧cls m (j + 1)≤cls m j) 30
  (by
   rintro j ρ ⟨rfl,hc⟩;have up:∀i≤j,i + 1≤cls m i:=by
    intro i
    induction i with
    | zero=>intro _;exact V1 w 0
    | succ i ih=>intro hi;have:=ih (by lia);have:=hc i (by lia);lia
   have hj:=up j (aD _);have ri:=a1q m j;refine⟨by lia,?_⟩;have hW:tB (e2 dGt (eCl V9 (a8 (a7 2) e7)) (eCl V9 (a8 (e2 o6 (a7 1) (eC (.int (-1)))) e7))) [.list (m.map rwD),.list ((aG (j + 1)).map fun d=>iD (lvl m d)),iD (lvl m (j + 1))]=some (decide (cls m j < cls m (j + 1))):=by
    walk_at "ev";rw [a0d (f:=fun d=>iD (lvl m d))];walk_at "ev";unfold iD;rw [a8l w,a8l w];walk_at "ev";have h1:=V1 w j;have h2:=V1 w (j + 1)
    congr 1;exact decide_eq_decide.mpr (by lia)
   rw [hW];by_cases c:cls m j < cls m (j + 1)
   ·refine .inr ⟨by rw [aO c],[.list (m.map rwD),.list ((aG (j + 2)).map fun d=>iD (lvl m d)),iD (lvl m (j + 2))],?_,rfl,fun i hi=>?_⟩
    ·rw [V8,b1H (ds:=(aG (j + 1)).map fun d=>iD (lvl m d)) (d:=iD (lvl m (j + 2))) (by rfl) (by rw [ae,bz];lia) (by walk_at "ev";exact a3t w (j + 1))];walk_at "ev";rw [nc (n:=j + 1),aR];rfl
    ·rcases bZ i j with z|z
     ·exact hc i z
     ·rw [show i=j by lia];exact c
   ·exact .inl ⟨by rw [bj c],j,rfl,hc,by lia⟩) 1000000 0 [.list (m.map rwD),.list [iD (lvl m 0)],iD (lvl m 1)] ⟨rfl,fun i hi=>absurd hi (by lia)⟩ (by lia)
 rw [h1];walk_at "ev";have up:∀i≤D,i + 1≤cls m i:=by
  intro i
  induction i with
  | zero=>intro _;exact V1 w 0
  | succ i ih=>intro hi;have:=ih (by lia);have:=q1 i (by lia);lia
 have hj:=up D (aD _);have ri:=a1q m D;exact⟨D,rfl,by lia,q1,fun s t s0 s1 t0 t1 h=>(b1C w D).2 q2 s t s0 s1 t0 t1 h⟩
end Prog
namespace VS
open PySem L2
theorem b7S{i:Nat}{f:EvE}{ρ:List D}{n k:Int}(hf:f ρ=some (.int n))(h:ρ.getD i .none=.int k):b0y i f ρ=some (.nx (ρ.set i (.int (k + n)))):=by
 unfold b0y;rw [hf,h];rfl
def mny(m:j5)(D:Nat)(s t:Int):Nat:=(aG (D + 1)).countP fun d=>decide (lv m d s=lv m d t)
def a5P(m:j5)(D:Nat)(s t:Int):br:=if mny m D s t=D + 1 then .none else .list ((fu m (mny m D s t) s t).map .int)
theorem a5Q{m:j5}{k:Nat}(w:WF m k)(D:Nat){s t:Int}(h0:0≤s)(h1:s < m.length)(h2:0≤t)(h3:t < m.length):1≤mny m D s t∧mny m D s t≤D + 1∧(∀d < mny m D s t,lv m d s=lv m d t)∧∀d,mny m D s t≤d→d≤D→lv m d s≠lv m d t:=by
 obtain⟨c,e,c1,c2,c3⟩:=a2s (p:=fun d=>decide (lv m d s=lv m d t)) (fun d hd=>aO (a1p w d h0 h1 h2 h3 (bh hd))) (D + 1);have e':mny m D s t=c:=e;rw [e'];refine⟨?_,c1,fun d hd=>bh (c2 d hd),fun d hd ir=>iz (c3 d hd (by lia))⟩;rcases bZ 0 c with z|z
 ·exact z
 ·have:=iz (c3 0 (by lia) (by lia));exact absurd (by rw [y9,y9]) this
end VS
namespace Prog
open PySem L2 VS
theorem a7h{r r':Ky}(hl:r.length=r'.length)(fA:r≠r')(h5:r.length≤1000):u6 [rwD r,rwD r']=some (.int (fp r r':Nat)):=by
 unfold u6;rw [D6 (by simp [VS.argsOk])];unfold P8;walk_at "ev";rw [b6g];obtain⟨f1,f2,f3⟩:=a4w hl fA;obtain⟨ρ',h1,rfl⟩:=a1r (c:=tB (e2 dEq (e2 i8 (a7 0) (a7 2)) (e2 i8 (a7 1) (a7 2)))) (g:=b0y 2 (eC (.int 1)))
  (I:=fun j ρ=>ρ=[rwD r,rwD r',.int (j:Nat)]∧j≤fp r r') (Q:=fun ρ=>ρ=[rwD r,rwD r',.int (fp r r':Nat)]) 1000
  (by
   rintro j ρ ⟨rfl,hj⟩;refine⟨by lia,?_⟩;have hc:tB (e2 dEq (e2 i8 (a7 0) (a7 2)) (e2 i8 (a7 1) (a7 2))) [rwD r,rwD r',.int (j:Nat)]=some (decide (r.getD j (0,0)=r'.getD j (0,0))):=by
    walk_at "ev";rw [a9n (by lia) (by lia),a9n (by lia) (by lia)];walk_at "ev";rw [b6h];walk_at "ev";rw [aZ]
   rw [hc];rcases bZ j (fp r r') with z|z
   ·refine .inr ⟨by rw [aO (f3 j z)],[rwD r,rwD r',.int ((j + 1:Nat):Int)],?_,rfl,z⟩;rw [b7S (n:=1) (k:=(j:Nat)) rfl rfl];rfl
   ·have e:j=fp r r':=by lia
    subst e;exact .inl ⟨by rw [bj f2],rfl⟩) 1000000 0 [rwD r,rwD r',.int 0] ⟨rfl,bC _⟩ (by lia)
 rw [h1];walk_at "ev"
theorem a1b{m:j5}{k:Nat}(w:WF m k)(qU mn:D):∀(c:Nat) (s t:Int) (p:List Int) (x y:D),0≤s→s < m.length→0≤t→t < m.length→(c≠0→lv m c s≠lv m c t)→lv m (c - 1) s=lv m (c - 1) t→p.length + c < 1000000→
  ∃s' t' x' y',R4 (u5 6) (f7 (i7 7 (eCl u6 (a8 (eCl m9 (a8 (e2 dIx (a7 0) (a7 2)) (a8 (a7 6) e7))) (a8 (eCl m9 (a8 (e2 dIx (a7 0) (a7 3)) (a8 (a7 6) e7))) e7)))) (f7 (B6 5 (.l .i) q8 (a7 7)) (f7 (i7 2 (e2 i8 (e2 i8 (e2 dIx (a7 0) (a7 2)) (a7 7)) (eC (.int 1)))) (i7 3 (e2 i8 (e2 i8 (e2 dIx (a7 0) (a7 3)) (a7 7)) (eC (.int 1)))))))
   ((aG c).map fun d=>iD (lvl m d)).reverse [.list (m.map rwD),qU,.int s,.int t,mn,iD p,x,y]=some (.nx [.list (m.map rwD),qU,.int s',.int t',mn,iD (p ++ fu m c s t),x',y'])
 | 0,s,t,p,x,y,_,_,_,_,_,_,_=>by
  refine⟨s,t,x,y,?_⟩;show some _=some _;rw [show fu m 0 s t=[] from rfl,bV]
 | c + 1,s,t,p,x,y,h0,h1,h2,h3,fA,heq,hlen=>by
  rw [nc,aR,List.reverse_append];have oR:=fA (by lia);obtain⟨⟨a0,a1⟩,f2,_⟩:=a4y w h0 h1 h2 h3 oR;have n1:=w.nx h0 h1 a0 a1;have n2:=w.nx h2 h3 a0 a1;have l1:=w.row h0 h1;have l2:=w.row h2 h3;have Cs:=w.k5;have qE:c≠0→lv m c (stp m s (fa m c s t)).2≠lv m c (stp m t (fa m c s t)).2:=fun hc=>by
   obtain⟨c',rfl⟩:∃c',c=c' + 1:=⟨c - 1,by lia⟩;have:=(K9 w h0 h1 h2 h3).mp heq _ a0 a1;exact f2.resolve_left (fun z=>z this.1)
  have zZ:lv m (c - 1) (stp m s (fa m c s t)).2=lv m (c - 1) (stp m t (fa m c s t)).2:=by
   cases c with
   | zero=>rw [y9,y9]
   | succ c'=>exact ((K9 w h0 h1 h2 h3).mp heq _ a0 a1).2
  obtain⟨s',t',x',y',ih⟩:=a1b w qU mn c (stp m s (fa m c s t)).2 (stp m t (fa m c s t)).2 (p ++ [fa m c s t]) (iD (lvl m c)) (.int (fa m c s t)) n1.1 n1.2 n2.1 n2.2 qE zZ (by rw [aM];simp only [bY];lia);refine⟨s',t',x',y',?_⟩;show (u5 6 _ (iD (lvl m c))).bind _=_;show Option.bind (f7 _ _ [.list (m.map rwD),qU,.int s,.int t,mn,iD p,iD (lvl m c),y]) _=_;have hb:f7 (i7 7 (eCl u6 (a8 (eCl m9 (a8 (e2 dIx (a7 0) (a7 2)) (a8 (a7 6) e7))) (a8 (eCl m9 (a8 (e2 dIx (a7 0) (a7 3)) (a8 (a7 6) e7))) e7)))) (f7 (B6 5 (.l .i) q8 (a7 7)) (f7 (i7 2 (e2 i8 (e2 i8 (e2 dIx (a7 0) (a7 2)) (a7 7)) (eC (.int 1)))) (i7 3 (e2 i8 (e2 i8 (e2 dIx (a7 0) (a7 3)) (a7 7)) (eC (.int 1)))))) [.list (m.map rwD),qU,.int s,.int t,mn,iD p,iD (lvl m c),y]
    = some (.nx [.list (m.map rwD),qU,.int (stp m s (fa m c s t)).2,.int (stp m t (fa m c s t)).2,mn,iD (p ++ [fa m c s t]),iD (lvl m c),.int (fa m c s t)]):=by
   walk_at "ev";rw [a4o h0 h1,a4o h2 h3];walk_at "ev";rw [L5 (fun q hq=>by rw [P4];exact w.next _ (E6 h0 h1) q hq) (by lia),L5 (fun q hq=>by rw [P4];exact w.next _ (E6 h2 h3) q hq) (by lia)];walk_at "ev";rw [a7h (by rw [a0F,a0F,l1,l2]) (fun e=>oR ((a4v h0 h1 h2 h3).mpr e)) (by rw [a0F,l1];lia)];walk_at "ev";unfold iD;rw [a4d (by rw [ae];lia)];walk_at "ev";have yG:fa m c s t < ((rowAt m s).length:Int):=by rw [l1];exact a1
   have uA:fa m c s t < ((rowAt m t).length:Int):=by rw [l2];exact a1
   unfold fa at a0 yG uA;rw [a4o h0 h1];walk_at "ev";rw [a9n a0 yG];walk_at "ev";rw [a4o h2 h3];walk_at "ev";rw [a9n a0 uA];walk_at "ev";rw [aR];rfl
  rw [hb];have xA:=ih;rw [be] at xA;exact xA
theorem a9s{m:j5}{k:Nat}(w:WF m k){D:Nat}(hD:D≤1000){s t:Int}(h0:0≤s)(h1:s < m.length)(h2:0≤t)(h3:t < m.length):w6 [.list (m.map rwD),.list ((aG (D + 1)).map fun d=>iD (lvl m d)),.int s,.int t]=some (a5P m D s t):=by
 unfold w6;rw [D6 (by simp [VS.argsOk,imm])];unfold S7;obtain⟨c1,c2,c3,c4⟩:=a5Q w D h0 h1 h2 h3;have hc:e2 a1T (m8 (iL (a7 1)) [2,3] pt1 tT (e2 dEq (e2 i8 (a7 0) (a7 1)) (e2 i8 (a7 0) (a7 2)))) (eC (.bool true)) [.list (m.map rwD),.list ((aG (D + 1)).map fun d=>iD (lvl m d)),.int s,.int t,.none,.none,.none,.none]=some (.int (mny m D s t)):=by
  rw [v_2,V2 (enc:=fun d=>iD (lvl m d)) (xs:=aG (D + 1)) (fun d=>.bool (decide (lv m d s=lv m d t)))]
  ·have e:(aG (D + 1)).map (fun d=>cw (decide (lv m d s=lv m d t)))=((aG (D + 1)).map fun d=>decide (lv m d s=lv m d t)).map cw:=by rw [bp];rfl
   rw [e,v_c,b2S,v_count,CM];rfl
  ·walk_at "ev"
  ·rw [bz];lia
  ·intro d hd;refine⟨[iD (lvl m d)],rfl,?_⟩;show e2 dEq _ _ [iD (lvl m d),.int s,.int t]=_;walk_at "ev";rw [T6 h0 (by rw [P4];exact h1),T6 h2 (by rw [P4];exact h3)];walk_at "ev";rfl
 rw [bo,bo,bo,bo,cu,V8,a0Q];show a2D (thn (b0l 4 (e2 a1T (m8 (iL (a7 1)) [2,3] pt1 tT (e2 dEq (e2 i8 (a7 0) (a7 1)) (e2 i8 (a7 0) (a7 2)))) (eC (.bool true)) [.list (m.map rwD),.list ((aG (D + 1)).map fun d=>iD (lvl m d)),.int s,.int t,.none,.none,.none,.none]) [.list (m.map rwD),.list ((aG (D + 1)).map fun d=>iD (lvl m d)),.int s,.int t,.none,.none,.none,.none]) _)=_;rw [hc];walk_at "ev";rw [bz];by_cases c:mny m D s t=D + 1
 ·rw [aO (show ((mny m D s t:Nat):Int)=((D + 1:Nat):Int) by lia)];walk_at "ev";unfold a5P;rw [aE c]
 ·rw [bj (show ¬ ((mny m D s t:Nat):Int)=((D + 1:Nat):Int) by lia)];walk_at "ev";rw [b9b (ds:=(aG (mny m D s t)).map fun d=>iD (lvl m d))]
  ·obtain⟨s',t',x',y',h⟩:=a1b w (.list ((aG (D + 1)).map fun d=>iD (lvl m d))) (.int (mny m D s t:Nat)) (mny m D s t) s t [] .none .none h0 h1 h2 h3 (fun _=>c4 _ (aD _) (by lia)) (c3 _ (by lia)) (by simp only [CK];lia);walk_at "ev";have h':=h;unfold iD at h' ⊢;rw [cK] at h';rw [h'];walk_at "ev";unfold a5P;rw [aJ c]
  ·rw [b3u];walk_at "ev";rw [a8a,a8b];walk_at "ev";rw [b3v,b1p,b1q (by lia) (by rw [ae,bz];lia),←kK,aZ,CI,m_ (by lia)]
end Prog
namespace VS
open PySem L2
theorem a8m{m:j5}{k:Nat}(w:WF m k):∀(c:Nat) (s t:Int),0≤s→s < m.length→0≤t→t < m.length→(c≠0→lv m c s≠lv m c t)→lv m (c - 1) s=lv m (c - 1) t→∀a∈fu m c s t,0≤a∧a < (k:Int)
 | 0,s,t,_,_,_,_,_,_,a,ha=>nomatch ha
 | c + 1,s,t,h0,h1,h2,h3,fA,heq,a,ha=>by
  obtain⟨⟨a0,a1⟩,f2,_⟩:=a4y w h0 h1 h2 h3 (fA (by lia));rcases aH.mp ha with e|ha
  ·rw [e];exact⟨a0,a1⟩
  ·have n1:=w.nx h0 h1 a0 a1;have n2:=w.nx h2 h3 a0 a1;refine a8m w c _ _ n1.1 n1.2 n2.1 n2.2 (fun hc=>?_) ?_ a ha
   ·obtain⟨c',rfl⟩:∃c',c=c' + 1:=⟨c - 1,by lia⟩;exact f2.resolve_left fun z=>z ((K9 w h0 h1 h2 h3).mp heq _ a0 a1).1
   ·cases c with
    | zero=>rw [y9,y9]
    | succ c'=>exact ((K9 w h0 h1 h2 h3).mp heq _ a0 a1).2
theorem a9t{m:j5}{k:Nat}(w:WF m k){N:Nat}{s t:Int}(h0:0≤s)(h1:s < m.length)(h2:0≤t)(h3:t < m.length)(h:lv m N s≠lv m N t) :
  a5P m N s t=.list ((fu m (mny m N s t) s t).map .int)∧mny m N s t≤N∧1≤mny m N s t∧lv m (mny m N s t) s≠lv m (mny m N s t) t∧(∀d < mny m N s t,lv m d s=lv m d t)∧∀d,lv m d s≠lv m d t→mny m N s t≤d:=by
 obtain⟨c1,c2,c3,c4⟩:=a5Q w N h0 h1 h2 h3;have hc:mny m N s t≠N + 1:=fun e=>h (c3 N (by lia))
 unfold a5P;rw [aJ hc];refine⟨rfl,by lia,c1,c4 _ (aD _) (by lia),c3,fun d hd=>?_⟩;rcases bZ d (mny m N s t) with z|z
 ·exact absurd (c3 d z) hd
 ·exact z
end VS
namespace Prog
open PySem L2 VS
abbrev GA:=List (List Int × List Int)
def p7(a:List Int):D:=.tuple (a.map .int)
def V5(es:List Int):List (D × D):=es.map fun e=>(aU e,cw true)
def K2(dd:GA):List (D × D):=dd.map fun q=>(p7 q.1,br.dict (V5 q.2))
def a1f(e:Int)(es:List Int):List Int:=if e∈es then es else es ++ [e]
def b1I(a:List Int)(e:Int)(dd:GA):GA:=if a∈dd.map (·.1) then dd.map fun q=>if q.1=a then (q.1,a1f e q.2) else q else dd ++ [(a,[e])]
def N2(dd:GA)(a:List Int):Option (List Int):=(dd.find? fun q=>decide (q.1=a)).map (·.2)
theorem a2u(a b:List Int):aI (p7 a) (p7 b)=decide (a=b):=by
 unfold p7;simp only [aI];exact a2g a b
theorem a1c:∀a:List Int,n9 (a.map aU)=true
 | []=>by simp only [cK,n9]
 | n :: a=>by simp only [aB,n9,z7,a1c a,eL]
theorem X8(a:List Int):(p7 a).depth≤7:=by
 unfold p7;simp only [dA];have:=E4 aU 0 (fun _=>by rw [U8];exact aD _) a;lia
theorem V3(a:List Int):z7 (p7 a)=true:=by
 unfold p7;simp only [z7];exact a1c a
theorem a3v(a:List Int):B8 true (p7 a)=true:=by
 unfold B8;rw [V3,aO (X8 a)];rfl
theorem dKey_i(e:Int):B8 false (.int e)=true:=by
 unfold B8;rw [show z7 (.int e)=true by simp only [z7],show (aU e).depth=0 from U8];rfl
theorem V4(a:List Int):∀dd:GA,G0 (K2 dd) (p7 a)=decide (a∈dd.map (·.1))
 | []=>rfl
 | q :: dd=>by
  have ih:=V4 a dd;unfold G0 K2 at ih ⊢;rw [aB,gW,ih,a2u,aB,jK];simp only [fq,gv,aH];exact oN eq_comm
theorem a0H(a:List Int):∀dd:GA,D7 (K2 dd) (p7 a)=(N2 dd a).map fun es=>br.dict (V5 es)
 | []=>rfl
 | q :: dd=>by
  have ih:=a0H a dd;unfold D7 K2 N2 at ih ⊢;rw [aB,jI,jI,a2u];by_cases c:q.1=a
  ·rw [aO c];rfl
  ·rw [bj c];exact ih
theorem b1J(e:Int)(es:List Int):v5 (V5 es) (.int e) (.bool true)=V5 (a1f e es):=by
 have hh:∀es:List Int,G0 (V5 es) (.int e)=decide (e∈es):=by
  intro es
  induction es with
  | nil=>rfl
  | cons x es ih=>
   unfold G0 V5 at ih ⊢;rw [aB,gW,ih,a4n,jK];simp only [fq,gv,aH];exact oN eq_comm
 unfold v5 a1f;rw [hh];by_cases c:e∈es
 ·rw [aO c,aE rfl,aE c];unfold V5;rw [bp];refine bS fun x _=>?_
  show (if aI (aU x) (aU e)=true then (aU x,cw true) else (aU x,cw true))=_
  split <;> rfl
 ·rw [bj c,aJ c];unfold V5;rw [aJ bD,aR];rfl
theorem T7{dd:GA}(h:a∈dd.map (·.1)):∃es,N2 dd a=some es∧(a,es)∈dd:=by
 unfold N2;cases hf:dd.find? fun q=>decide (q.1=a) with
 | none=>
  obtain⟨q,hq,rfl⟩:=aK.mp h;have:=d_.mp hf q hq;simp at this
 | some q=>
  have h1:=ng hf;have h2:=iW hf;have:q.1=a:=bh h1;subst this;exact⟨q.2,rfl,h2⟩
theorem b1K{dd:GA}(hn:(dd.map (·.1)).Nodup)(h:q∈dd):N2 dd q.1=some q.2:=by
 obtain⟨es,h1,h2⟩:=T7 (bK (f:=(·.1)) h);rw [h1];have key:∀{dd:GA},(dd.map (·.1)).Nodup→q∈dd→(q.1,es)∈dd→es=q.2:=by
  intro dd
  induction dd with
  | nil=>intro _ h;cases h
  | cons x dd ih=>
   intro hn h h2;rw [aB,bJ] at hn;rcases aH.mp h with z|z
   ·rcases aH.mp h2 with y|y
    ·rw [z,←y]
    ·exact absurd (by rw [←z];exact bK (f:=(·.1)) y) hn.1
   ·rcases aH.mp h2 with y|y
    ·exact absurd (by rw [←y];exact bK (f:=(·.1)) z) hn.1
    ·exact ih hn.2 z y
 rw [key hn h h2]
theorem a7i{dd:GA}(es:List Int)(h:a∈dd.map (·.1)):v5 (K2 dd) (p7 a) (.dict (V5 es))=K2 (dd.map fun q=>if q.1=a then (q.1,es) else q):=by
 unfold v5;rw [V4,aO h,aE rfl];unfold K2;rw [bp,bp];refine bS fun q _=>?_
 show (if aI (p7 q.1) (p7 a)=true then _ else _)=_;rw [a2u];by_cases c:q.1=a
 ·simp only [c,decide_true,gc,Function.comp]
 ·simp only [c,decide_false,cQ,Function.comp,bA]
theorem a9u{ρ:List D}{dd:GA}(hk:fk ρ=some (p7 a))(hd:ρ.getD i .none=.dict (K2 dd))(hn:(dd.map (·.1)).Nodup)(hv:∀x,fv (ρ.set i x)=some (.bool true))(hj:∀x,fj (ρ.set i x)=some (.int e))
  (hl:dd.length < 1000) (mE:∀q∈dd,q.2.length < 1000):R8 i true false fk fj fv ρ=some (.nx (ρ.set i (.dict (K2 (b1I a e dd))))):=by
 have sO:(K2 dd).length=dd.length:=ae ..;unfold R8;rw [hk,bP,hd];show (if (B8 true (p7 a) && decide ((K2 dd).length < 1000000))=true then _ else _)=_;rw [aE (by rw [a3v,sO,aO (by lia)];rfl),hv,bP,hj,bP];unfold l0 b1I;rw [V4];by_cases c:a∈dd.map (·.1)
 ·rw [aO c,aE rfl,aE c];obtain⟨es,h1,h2⟩:=T7 c;rw [a0H,h1];show (if (B8 false (.int e) && decide ((V5 es).length < 1000000))=true then _ else none)=_;have:=mE _ h2;rw [aE (by rw [dKey_i,show (V5 es).length=es.length from ae ..,aO (show es.length < 1000000 by have h3:es.length < 1000:=this;lia)];rfl),b1J,a7i _ c,jz]
  congr 4
  congr 1;refine bS fun q hq=>?_
  by_cases c2:q.1=a
  ·rw [aE c2,aE c2];have:=b1K hn hq;rw [c2,h1] at this;rw [aP this]
  ·rw [aJ c2,aJ c2]
 ·have hh:G0 (K2 dd) (p7 a)=false:=by rw [V4,bj c]
  rw [bj c,aJ bD,aJ c,a0A (V3 a) hh];show (if (B8 false (.int e) && decide (([]:List (D × D)).length < 1000000))=true then _ else none)=_;rw [aE (by rw [dKey_i];rfl),a1X (V3 a) hh,jz];unfold K2;rw [aR];rfl
def C1(f:Int→List Int × Int)(ss:List Int):GA:=ss.foldl (fun dd s=>b1I (f s).1 (f s).2 dd) []
theorem a3w(f:Int→List Int × Int)(ss:List Int)(s:Int):C1 f (ss ++ [s])=b1I (f s).1 (f s).2 (C1 f ss):=by unfold C1;rw [yK];rfl
theorem b1L:x∈a1f e es↔x∈es∨x=e:=by
 unfold a1f;by_cases c:e∈es
 ·rw [aE c];exact⟨.inl,fun h=>h.elim id fun z=>z ▸ c⟩
 ·rw [aJ c,aw,ar]
theorem a7j{es:List Int}(h:es.Nodup):(a1f e es).Nodup:=by
 unfold a1f;by_cases c:e∈es
 ·rw [aE c];exact h
 ·rw [aJ c,bG];exact⟨h,by simp,fun x hx y hy z=>c (by rw [←ar.mp hy,←z];exact hx)⟩
theorem b1M:(a1f e es).length≤es.length + 1:=by
 unfold a1f
 split
 ·lia
 ·rw [aM];simp
structure DdOk (f:Int→List Int × Int) (ss:List Int) (dd:GA):Prop where
 nd:(dd.map (·.1)).Nodup
 keys:∀a,a∈dd.map (·.1)↔∃s∈ss,(f s).1=a
 mem:∀q∈dd,∀e,e∈q.2↔∃s∈ss,f s=(q.1,e)
 nd2:∀q∈dd,q.2.Nodup
 len:dd.length≤ss.length
 len2:∀q∈dd,q.2.length≤ss.length
theorem J3(f:Int→List Int × Int)(ss:List Int):DdOk f ss (C1 f ss):=by
 refine snoc_ind (P:=fun ss=>DdOk f ss (C1 f ss)) ?_ ?_ ss
 ·exact⟨bw,fun a=>⟨fun h=>(nomatch h),fun⟨s,h,_⟩=>(nomatch h)⟩,fun q h=>(nomatch h),fun q h=>(nomatch h),aD _,fun q h=>(nomatch h)⟩
 ·intro ss s ih;rw [a3w];unfold b1I;by_cases c:(f s).1∈(C1 f ss).map (·.1)
  ·rw [aE c];have hk:((C1 f ss).map fun q=>if q.1=(f s).1 then (q.1,a1f (f s).2 q.2) else q).map (·.1)=(C1 f ss).map (·.1):=by
    rw [bp];refine bS fun q _=>?_
    show (if q.1=(f s).1 then (q.1,a1f (f s).2 q.2) else q).1=q.1
    split <;> rfl
   refine⟨by rw [hk];exact ih.nd,fun a=>?_,fun q hq e=>?_,fun q hq=>?_,?_,fun q hq=>?_⟩
   ·rw [hk,ih.keys]
    constructor
    ·rintro⟨t,h1,h2⟩;exact⟨t,av _ h1,h2⟩
    ·rintro⟨t,h1,h2⟩;rcases aw.mp h1 with z|z
     ·exact⟨t,z,h2⟩
     ·rw [ar.mp z] at h2;rw [h2] at c;exact (ih.keys a).mp c
   ·obtain⟨q0,h0,rfl⟩:=aK.mp hq;by_cases c2:q0.1=(f s).1
    ·rw [aE c2];show e∈a1f (f s).2 q0.2↔∃t∈ss ++ [s],f t=(q0.1,e);rw [b1L,ih.mem q0 h0]
     constructor
     ·rintro (⟨t,h1,h2⟩|rfl)
      ·exact⟨t,av _ h1,h2⟩
      ·exact⟨s,by simp,by rw [c2]⟩
     ·rintro⟨t,h1,h2⟩;rcases aw.mp h1 with z|z
      ·exact .inl ⟨t,z,h2⟩
      ·rw [ar.mp z] at h2;exact .inr (by rw [h2])
    ·rw [aJ c2,ih.mem q0 h0]
     constructor
     ·rintro⟨t,h1,h2⟩;exact⟨t,av _ h1,h2⟩
     ·rintro⟨t,h1,h2⟩;rcases aw.mp h1 with z|z
      ·exact⟨t,z,h2⟩
      ·rw [ar.mp z] at h2;exact absurd (by rw [h2]) c2
   ·obtain⟨q0,h0,rfl⟩:=aK.mp hq;by_cases c2:q0.1=(f s).1
    ·rw [aE c2];exact a7j (ih.nd2 q0 h0)
    ·rw [aJ c2];exact ih.nd2 q0 h0
   ·rw [ae,aM];have:=ih.len;lia
   ·obtain⟨q0,h0,rfl⟩:=aK.mp hq;have:=ih.len2 q0 h0;rw [aM];by_cases c2:q0.1=(f s).1
    ·rw [aE c2];have h2:=b1M (e:=(f s).2) (es:=q0.2);simp only [bY];lia
    ·rw [aJ c2];lia
  ·rw [aJ c];have lZ:∀t∈ss,(f t).1≠(f s).1:=fun t ht z=>c ((ih.keys _).mpr ⟨t,ht,z⟩)
   refine⟨?_,fun a=>?_,fun q hq e=>?_,fun q hq=>?_,?_,fun q hq=>?_⟩
   ·rw [aR,bG];refine⟨ih.nd,by simp,fun x hx y hy z=>c ?_⟩;rw [dZ,ar] at hy;rw [←hy,←z];exact hx
   ·rw [aR,aw,ih.keys]
    constructor
    ·rintro (⟨t,h1,h2⟩|h)
     ·exact⟨t,av _ h1,h2⟩
     ·exact⟨s,by simp,(ar.mp h).symm⟩
    ·rintro⟨t,h1,h2⟩;rcases aw.mp h1 with z|z
     ·exact .inl ⟨t,z,h2⟩
     ·rw [ar.mp z] at h2;exact .inr (by rw [h2];simp)
   ·rcases aw.mp hq with z|z
    ·rw [ih.mem q z]
     constructor
     ·rintro⟨t,h1,h2⟩;exact⟨t,av _ h1,h2⟩
     ·rintro⟨t,h1,h2⟩;rcases aw.mp h1 with y|y
      ·exact⟨t,y,h2⟩
      ·rw [ar.mp y] at h2;exact absurd (by rw [h2];exact bK (f:=(·.1)) z) c
    ·rw [ar.mp z];show e∈[(f s).2]↔∃t∈ss ++ [s],f t=((f s).1,e);rw [ar]
     constructor
     ·rintro rfl;exact⟨s,by simp,rfl⟩
     ·rintro⟨t,h1,h2⟩;rcases aw.mp h1 with y|y
      ·exact absurd (by rw [h2]) (lZ t y)
      ·rw [ar.mp y] at h2;rw [h2]
   ·rcases aw.mp hq with z|z
    ·exact ih.nd2 q z
    ·rw [ar.mp z];simp
   ·rw [aM,aM];have:=ih.len;simp only [bY];lia
   ·rw [aM];rcases aw.mp hq with z|z
    ·have:=ih.len2 q z;simp only [bY];lia
    ·rw [ar.mp z];simp only [bY];lia
def a0e(es:List Int):List Int:=(K6 (es.map fun e=>[e])).map fun l=>l.headD 0
theorem N3(es:List Int):(a0e es).Perm es:=by
 unfold a0e;refine ((q9 _).map _).trans (CN ?_);rw [bp];exact gD es
theorem a3x(es:List Int):K6 (es.map fun e=>[e])=(a0e es).map fun e=>[e]:=by
 unfold a0e;rw [bp];have:∀l∈K6 (es.map fun e=>[e]),((fun e=>[e]) ∘ fun l:List Int=>l.headD 0) l=l:=fun l hl=>by
  obtain⟨e,_,rfl⟩:=aK.mp ((q9 _).mem_iff.mp hl);rfl
 rw [bS this,gD]
theorem X9:∀as:List (List Int),a1W true (as.map p7)=some as
 | []=>rfl
 | a :: as=>by
  have h:intsOf (a.map aU)=some a:=by
   induction a with
   | nil=>rfl
   | cons n a ih=>rw [aB];show (intsOf (a.map aU)).map (n :: ·)=_;rw [ih];rfl
  rw [aB];show (intsOf (a.map aU)).bind _=_;rw [h,bP,X9 as];rfl
theorem a2v:∀es:List Int,a1W false (es.map aU)=some (es.map fun e=>[e])
 | []=>rfl
 | e :: es=>by
  rw [aB];show (some [e]).bind _=_;rw [bP,a2v es];rfl
theorem b3G{dd:GA}(h:a ρ=some (.dict (K2 dd)))(hl:dd.length < 64)(fA:dd.length < 2∨∀q∈dd,q.1≠[]):X5 true a ρ=some (.list ((K6 (dd.map (·.1))).map p7)):=by
 unfold X5;rw [h,bP];show (some ((K2 dd).map (·.1))).bind _=_;have e:(K2 dd).map (·.1)=(dd.map (·.1)).map p7:=by unfold K2;rw [bp,bp];rfl
 rw [bP,e];unfold a6I;rw [X9,bP,aE]
 ·rfl
 ·unfold okK;rw [ae,aO hl,pC];rcases fA with z|z
  ·rw [aO z];rfl
  ·have:((dd.map (·.1)).all fun ns=>!ns.isEmpty)=true:=by
    rw [dc];intro ns mQ;obtain⟨q,hq,rfl⟩:=aK.mp mQ;have:=z q hq;simpa using this
   rw [this,Bool.or_true]
theorem b3H(h:a ρ=some (.dict (V5 es)))(hl:es.length < 64):X5 false a ρ=some (iD (a0e es)):=by
 unfold X5;rw [h,bP];show (some ((V5 es).map (·.1))).bind _=_;have e:(V5 es).map (·.1)=es.map aU:=by unfold V5;rw [bp];rfl
 rw [bP,e];unfold a6I;rw [a2v,bP,aE (by unfold okK;rw [ae,aO hl];rfl),a3x,bp];rfl
def n5(f:Int→List Int × Int)(ss:List Int):GA:=(K6 ((C1 f ss).map (·.1))).map fun a=>(a,a0e ((N2 (C1 f ss) a).getD []))
theorem P5(f:Int→List Int × Int)(ss:List Int):(n5 f ss).map (·.1)=K6 ((C1 f ss).map (·.1)):=by
 unfold n5;rw [bp];exact gD _
theorem b1N(f:Int→List Int × Int)(ss:List Int):((n5 f ss).map (·.1)).Nodup:=by
 rw [P5];exact (q9 _).nodup_iff.mpr (J3 f ss).nd
theorem a3y:a∈(n5 f ss).map (·.1)↔∃s∈ss,(f s).1=a:=by
 rw [P5,(q9 _).mem_iff];exact (J3 f ss).keys a
theorem y7(h:q∈n5 f ss):(∃es,(q.1,es)∈C1 f ss∧q.2=a0e es)∧∀e,e∈q.2↔∃s∈ss,f s=(q.1,e):=by
 unfold n5 at h;obtain⟨a,ha,rfl⟩:=aK.mp h;obtain⟨es,h1,h2⟩:=T7 ((q9 _).mem_iff.mp ha);refine⟨⟨es,h2,by rw [h1];rfl⟩,fun e=>?_⟩;show e∈a0e ((N2 (C1 f ss) a).getD [])↔_;rw [h1,gS,(N3 es).mem_iff];exact (J3 f ss).mem _ h2 e
theorem a0I(f:Int→List Int × Int)(ss:List Int):(n5 f ss).length≤ss.length:=by
 unfold n5;rw [ae,(q9 _).length_eq,ae];exact (J3 f ss).len
theorem a7k(h:q∈n5 f ss):q.2.length≤ss.length:=by
 obtain⟨⟨es,h1,h2⟩,_⟩:=y7 h;rw [h2,(N3 es).length_eq];exact (J3 f ss).len2 _ h1
theorem T8(h:s∈ss):∃q∈n5 f ss,q.1=(f s).1∧(f s).2∈q.2:=by
 obtain⟨q,hq,e⟩:=aK.mp (a3y.mpr ⟨s,h,rfl⟩);exact⟨q,hq,e,((y7 hq).2 _).mpr ⟨s,h,by rw [e]⟩⟩
theorem b1O(h:q∈n5 f ss):q.2≠[]:=by
 obtain⟨s,hs,e⟩:=a3y.mp (bK (f:=(·.1)) h);intro z;have:=((y7 h).2 (f s).2).mpr ⟨s,hs,by rw [←e]⟩;rw [z] at this;cases this
end Prog
namespace Prog
open PySem L2 VS
theorem a9v{m:j5}{k:Nat}(w:WF m k){p:List Int}{s:Int}(h0:0≤s)(h1:s < m.length)(hp:∀x∈p,0≤x∧x < (k:Int))(hl:p.length≤13000) :
  S9 [.list (m.map rwD),.int s,.list (p.map .int)]=some (.tuple [.list ((b8 m s p).1.map .int),.int (b8 m s p).2]):=by
 unfold S9;rw [D6 (by simp [VS.argsOk,imm])];unfold a5G;walk_at "ev";rw [a2d (ds:=p.map .int) (by walk_at "ev") (n6 p)];walk_at "ev";refine E9 (fun ρ=>∃x y:D,ρ=[.list (m.map rwD),.int (b8 m s p).2,.list (p.map .int),.list ((b8 m s p).1.map .int),x,y]) ?_ ?_
 ·obtain⟨ρ',h2,x,y,rfl⟩:=C9 (enc:=aU) (set:=u5 4) (xs:=p) (ρ:=[.list (m.map rwD),.int s,.list (p.map .int),.list [],.none,.none])
   (g:=(f7 (i7 5 (e2 i8 (e2 dIx (a7 0) (a7 1)) (a7 4))) (f7 (B6 3 (.l .i) q8 (e2 i8 (a7 5) (eC (.int 0)))) (i7 1 (e2 i8 (a7 5) (eC (.int 1)))))))
   (fun pre ρ=>∃x y:D,ρ=[.list (m.map rwD),.int (b8 m s pre).2,.list (p.map .int),.list ((b8 m s pre).1.map .int),x,y]) ⟨_,_,rfl⟩ (by
    rintro pre a post e ρ ⟨x,y,rfl⟩;have jM:∀b∈pre,0≤b∧b < (k:Int):=fun b hb=>hp b (by rw [e];exact av _ hb)
    have ha:=hp a (by rw [e];simp);have hs:=l4 w pre s h0 h1 jM;have hr:=w.row hs.1 hs.2;have hlen:pre.length < 13000:=by have:=eG fL e;simp at this;lia
    refine⟨_,[.list (m.map rwD),.int (b8 m s (pre ++ [a])).2,.list (p.map .int),.list ((b8 m s (pre ++ [a])).1.map .int),.int a,stD (stp m (b8 m s pre).2 a)],rfl,?_,_,_,rfl⟩;walk_at "ev";rw [a4o hs.1 hs.2];walk_at "ev";rw [a9n ha.1 (by lia)];walk_at "ev";rw [a4d (by rw [ae,v9];lia)];walk_at "ev";rw [a2i,aR];rfl)
  exact⟨_,h2,_,_,rfl⟩
 ·rintro ρ ⟨x,y,rfl⟩;walk_at "ev"
end Prog
namespace Prog
open PySem L2 VS
theorem b7T{dd:GA}{a es:List Int}(h:N2 dd a=some es):b2Y true (.dict (K2 dd)) (p7 a)=some (.dict (V5 es)):=by
 show (if B8 true (p7 a)=true then D7 (K2 dd) (p7 a) else none)=_;rw [aE (a3v a),a0H,h];rfl
theorem a0f(a:List Int):imm (p7 a)=true:=by unfold p7;simp only [imm];exact n6 a
theorem b6i{i:Nat}{f:EvE}{ρ ds es:List D}(hf:f ρ=some (.list es))(hi:ρ.getD i .none=.list ds)(hl:ds.length + es.length≤1000000):a5c i f ρ=some (.nx (ρ.set i (.list (ds ++ es)))):=by
 unfold a5c;rw [hf,hi];show (if _ then _ else _)=_
 first|rw [aE hl]|(rw [aO hl];rfl)
theorem a0g{m:j5}{k:Nat}(w:WF m k){ss p:List Int}(hs:∀s∈ss,0≤s∧s < (m.length:Int))(hp:∀x∈p,0≤x∧x < (k:Int))(hl:p.length≤13000)(pJ:ss.length < 64) :
  B9 [.list (m.map rwD),iD ss,iD p]=some (.list ((n5 (fun s=>b8 m s p) ss).map fun q=>.tuple [iD q.1,iD q.2])):=by
 unfold B9;rw [D6 (by simp [VS.argsOk])];unfold a0Y;walk_at "ev";rw [a2d (ds:=ss.map .int) (by walk_at "ev") (n6 ss)];walk_at "ev";refine E9 (fun ρ=>∃x y z,ρ=[.list (m.map rwD),iD ss,iD p,.dict (K2 (C1 (fun s=>b8 m s p) ss)),x,y,z]) ?_ ?_
 ·obtain⟨ρ',h1,x,y,z,rfl⟩:=C9 (enc:=aU) (set:=u5 4) (xs:=ss) (g:=(f7 (i7 5 (eCl S9 (a8 (a7 0) (a8 (a7 4) (a8 (a7 2) e7))))) (f7 (R8 3 true false (a0O (e2 dIx (a7 5) (eC (.int 0)))) (e2 i8 (a7 5) (eC (.int 1))) (eC (.bool true))) u3))) (ρ:=[.list (m.map rwD),iD ss,iD p,.dict [],.none,.none,.none])
   (fun pre ρ=>∃x y z,ρ=[.list (m.map rwD),iD ss,iD p,.dict (K2 (C1 (fun s=>b8 m s p) pre)),x,y,z]) ⟨_,_,_,rfl⟩ (by
    rintro pre s post e ρ ⟨x,y,z,rfl⟩;have h0:=hs s (by rw [e];simp);have ok:=J3 (fun s=>b8 m s p) pre;have gG:pre.length < 64:=by have:=eG fL e;simp at this;lia
    refine⟨_,[.list (m.map rwD),iD ss,iD p,.dict (K2 (C1 (fun s=>b8 m s p) (pre ++ [s]))),.int s,.tuple [iD (b8 m s p).1,.int (b8 m s p).2],z],rfl,?_,_,_,_,rfl⟩;walk_at "ev";rw [a9v w h0.1 h0.2 hp hl];walk_at "ev";rw [a9u (a:=(b8 m s p).1) (e:=(b8 m s p).2) (dd:=C1 (fun s=>b8 m s p) pre) (a4z (ds:=(b8 m s p).1.map .int) (by walk_at "ev") (n6 _)) (by rfl) ok.nd (fun x=>rfl) (fun x=>by walk_at "ev") (by have:=ok.len;lia) (fun q hq=>by have:=ok.len2 q hq;lia)];walk_at "ev";rw [a3w])
  exact⟨_,h1,_,_,_,rfl⟩
 ·rintro ρ ⟨x,y,z,rfl⟩;have ok:=J3 (fun s=>b8 m s p) ss;have hlen:(C1 (fun s=>b8 m s p) ss).length < 64:=by have:=ok.len;lia
  have fA:(C1 (fun s=>b8 m s p) ss).length < 2∨∀q∈C1 (fun s=>b8 m s p) ss,q.1≠[]:=by
   by_cases c:p=[]
   ·refine .inl ?_;have dN:∀a∈(C1 (fun s=>b8 m s p) ss).map (·.1),a=[]:=fun a ha=>by
     obtain⟨s,_,h⟩:=(ok.keys a).mp ha;rw [←h,c];rfl
    have jT:=ok.nd;generalize hg:(C1 (fun s=>b8 m s p) ss)=g at dN jT
    match g,dN,jT with
    | [],_,_=>simp
    | [_],_,_=>simp
    | q :: q' :: g,dN,jT=>
     have e1:=dN q.1 (by simp);have e2:=dN q'.1 (by simp);rw [aB,bJ] at jT;exact absurd (by rw [e1,←e2];simp) jT.1
   ·refine .inr fun q hq z=>c ?_
    obtain⟨s,_,h⟩:=(ok.keys q.1).mp (bK (f:=(·.1)) hq);have h2:=v9 m p s;rw [show (b8 m s p).1=q.1 from h,z] at h2;exact p_.mp h2.symm
  rw [b0p,V2 (enc:=p7) (xs:=K6 ((C1 (fun s=>b8 m s p) ss).map (·.1))) (fun a=>.tuple [iD a,iD (a0e ((N2 (C1 (fun s=>b8 m s p) ss) a).getD []))])]
  ·unfold n5;rw [bp];rfl
  ·exact a2d (by rw [b5X,b3G (dd:=C1 (fun s=>b8 m s p) ss) (by rfl) hlen fA];rfl) (E3 _ a0f _)
  ·rw [(q9 _).length_eq,ae];lia
  ·intro a ha;obtain⟨es,h1,h2⟩:=T7 ((q9 _).mem_iff.mp ha);have sX:=ok.len2 _ h2;refine⟨[p7 a],rfl,?_⟩;rw [h1,gS];show F6 _ [p7 a,.dict (K2 (C1 (fun s=>b8 m s p) ss))]=_;rw [b4a,a6u,a6u,b0o,b3H (es:=es) (by rw [v_2,v_var,v_var];exact b7T h1) (by have:es.length≤ss.length:=sX;lia),b1m,a4l,v_var];show b5f (a7I (lIs (a5C (some (p7 a)))) _)=_;rw [show a5C (some (p7 a))=some (.list (a.map .int)) from rfl,y8];rfl
def z0(m:j5)(gs:List (List Int))(p:List Int):List (List Int):=gs.flatMap fun g=>(n5 (fun s=>b8 m s p) g).map (·.2)
theorem a9w{m:j5}{k:Nat}(w:WF m k){gs:List (List Int)}{p:List Int}(hs:∀g∈gs,∀s∈g,0≤s∧s < (m.length:Int))(hp:∀x∈p,0≤x∧x < (k:Int))(hl:p.length≤13000)(vU:∀g∈gs,g.length < 64)(hn:gs.length≤1000) :
  K1 [.list (m.map rwD),.list (gs.map iD),iD p]=some (.list ((z0 m gs p).map iD)):=by
 unfold K1;rw [D6 (by simp [VS.argsOk])];unfold a5I;walk_at "ev";refine E9 (fun ρ=>∃x,ρ=[.list (m.map rwD),.list (gs.map iD),iD p,.list ((z0 m gs p).map iD),x]) ?_ ?_
 ·obtain⟨ρ',h1,x,_,rfl⟩:=C9 (enc:=iD) (set:=u5 4) (xs:=gs) (g:=(a5c 3 (m8 (iL (eCl B9 (a8 (a7 0) (a8 (a7 4) (a8 (a7 2) e7))))) [] pt2 tT (a7 1)))) (ρ:=[.list (m.map rwD),.list (gs.map iD),iD p,.list [],.none])
   (fun pre ρ=>∃x,(z0 m pre p).length≤64 * pre.length∧ρ=[.list (m.map rwD),.list (gs.map iD),iD p,.list ((z0 m pre p).map iD),x]) ⟨_,aD _,rfl⟩ (by
    rintro pre g post e ρ ⟨x,hle,rfl⟩;have hg:g∈gs:=by rw [e];simp
    have gG:pre.length < 1000:=by have:=eG fL e;simp at this;lia
    have sX:=a0I (fun s=>b8 m s p) g;have Aw:=vU g hg;have xH:z0 m (pre ++ [g]) p=z0 m pre p ++ (n5 (fun s=>b8 m s p) g).map (·.2):=by
     unfold z0;rw [List.flatMap_append,List.flatMap_singleton]
    refine⟨_,[.list (m.map rwD),.list (gs.map iD),iD p,.list ((z0 m (pre ++ [g]) p).map iD),iD g],rfl,?_,_,?_,rfl⟩
    ·rw [b6i (ds:=(z0 m pre p).map iD) (es:=((n5 (fun s=>b8 m s p) g).map (·.2)).map iD) ?_ (by rfl) (by rw [ae,ae,ae];lia)]
     ·rw [xH,aR];rfl
     ·rw [V2 (enc:=fun q:List Int × List Int=>nZ [iD q.1,iD q.2]) (xs:=n5 (fun s=>b8 m s p) g) (fun q=>iD q.2)]
      ·rw [bp];rfl
      ·walk_at "ev";rw [a0g w (hs g hg) hp hl Aw];rfl
      ·lia
      ·intro q _;exact⟨[iD q.1,iD q.2],rfl,rfl⟩
    ·rw [xH,aM,aM,ae];simp only [bY];lia)
  exact⟨_,h1,_,rfl⟩
 ·rintro ρ ⟨x,rfl⟩;walk_at "ev"
end Prog
namespace VS
open PySem L2
theorem a0J{α:Type}{enc:α→D}{set:List D→D→Option (List D)}{g:EvS}{xs:List α}{ρ:List D}(I:List α→List D→Prop)(R:D→Prop)(h0:I [] ρ)
  (step:∀pre x post,xs=pre ++ x :: post→∀ρ,I pre ρ→∃ρ1,set ρ (enc x)=some ρ1∧((∃ρ2,g ρ1=some (.nx ρ2)∧I (pre ++ [x]) ρ2)∨∃d,g ρ1=some (.rt d)∧R d)) :
  (∃ρ',R4 set g (xs.map enc) ρ=some (.nx ρ')∧I xs ρ')∨∃d,R4 set g (xs.map enc) ρ=some (.rt d)∧R d:=by
 have key:∀(post pre:List α) (ρ:List D),xs=pre ++ post→I pre ρ→(∃ρ',R4 set g (post.map enc) ρ=some (.nx ρ')∧I xs ρ')∨∃d,R4 set g (post.map enc) ρ=some (.rt d)∧R d:=by
  intro post
  induction post with
  | nil=>
   intro pre ρ e h;rw [bV] at e;subst e;exact .inl ⟨ρ,rfl,h⟩
  | cons x post ih=>
   intro pre ρ e h;obtain⟨ρ1,h1,h2⟩:=step pre x post e ρ h;rcases h2 with⟨ρ2,h2,h3⟩|⟨d,h2,h3⟩
   ·rcases ih (pre ++ [x]) ρ2 (by rw [e,be];rfl) h3 with⟨ρ',h4,h5⟩|⟨d,h4,h5⟩
    ·refine .inl ⟨ρ',?_,h5⟩;show (set ρ (enc x)).bind _=_;rw [h1];show (g ρ1).bind _=_;rw [h2];exact h4
    ·refine .inr ⟨d,?_,h5⟩;show (set ρ (enc x)).bind _=_;rw [h1];show (g ρ1).bind _=_;rw [h2];exact h4
   ·refine .inr ⟨d,?_,h3⟩;show (set ρ (enc x)).bind _=_;rw [h1];show (g ρ1).bind _=_;rw [h2];rfl
 exact key xs [] ρ rfl h0
end VS
namespace VS
open PySem L2
theorem a3z{α:Type}[DecidableEq α]:∀{l l':List α},l.Nodup→(∀x∈l,x∈l')→l.length≤l'.length
 | [],l',_,_=>bC _
 | x :: l,l',h,hs=>by
  rw [bJ] at h;have hx:=hs x aq;have ih:=a3z (l:=l) (l':=l'.erase x) h.2 fun y hy=>by
   have fA:y≠x:=fun z=>h.1 (z ▸ hy)
   exact (List.mem_erase_of_ne fA).mpr (hs y (ah _ hy))
  have hl:=List.length_erase_of_mem hx;have:=gE hx;rw [aW];lia
theorem b6j(ks:List Ky):(ded ks).Nodup:=by
 refine snoc_ind (P:=fun ks=>(ded ks).Nodup) bw (fun l x ih=>?_) ks;rw [D2];unfold a2r;by_cases c:x∈ded l
 ·rw [aE c];exact ih
 ·rw [aJ c,bG];exact⟨ih,by simp,fun y hy z hz e=>c (by rw [←ar.mp hz,←e];exact hy)⟩
def k1(cl:Int→Int)(s:Int):Ky:=[(cl s,0)]
def encL(a:List Int):Ky:=a.map fun x=>(x,0)
theorem a5R:∀{a b:List Int},encL a=encL b→a=b
 | [],[],_=>rfl
 | [],_ :: _,h=>by cases h
 | _ :: _,[],h=>by cases h
 | x :: a,y :: b,h=>by
  unfold encL at h;rw [aB,aB] at h
  injection h with h1 h2
  injection h1 with h1
  rw [h1,a5R (a:=a) (b:=b) h2]
def dcg(cl:Int→Int)(g:List Int):Nat:=(ded (g.map (k1 cl))).length
theorem b3I{cl:Int→Int}{g:List Int}(h:g≠[]):1≤dcg cl g:=by
 match g,h with
 | s :: g,_=>
  have:k1 cl s∈ded ((s :: g).map (k1 cl)):=D4.mpr (by simp);exact gE this
theorem b1P{α β:Type}{f:α→β}(hf:∀x y,f x=f y→x=y):∀{l:List α},l.Nodup→(l.map f).Nodup
 | [],_=>bw
 | x :: l,h=>by
  rw [bJ] at h;rw [aB,bJ];refine⟨fun z=>?_,b1P hf h.2⟩;obtain⟨y,hy,e⟩:=aK.mp z;exact h.1 (hf _ _ e ▸ hy)
theorem a5S(cl:Int→Int):∀(Q:List (List Int × List Int)),(Q.map (·.1)).Nodup→∃B:List Ky,B.Nodup∧B.length=(Q.map fun q=>dcg cl q.2).sum∧∀x∈B,∃q∈Q,∃e∈q.2,x=k1 cl e ++ encL q.1
 | [],_=>⟨[],bw,rfl,fun x h=>(nomatch h)⟩
 | q :: Q,h=>by
  rw [aB,bJ] at h;obtain⟨B,h1,h2,h3⟩:=a5S cl Q h.2;refine⟨(ded (q.2.map (k1 cl))).map (· ++ encL q.1) ++ B,?_,?_,?_⟩
  ·rw [bG];refine⟨b1P (fun x y e=>List.append_cancel_right e) (b6j _),h1,fun x hx y hy e=>?_⟩;obtain⟨z,hz,rfl⟩:=aK.mp hx;obtain⟨e0,oy,rfl⟩:=aK.mp (D4.mp hz);obtain⟨q',nK,e1,vX,rfl⟩:=h3 y hy;have:encL q.1=encL q'.1:=by
    unfold k1 at e
    injection e
   exact h.1 (by rw [a5R this];exact bK (f:=(·.1)) nK)
  ·rw [aM,ae,h2,aB,pf];rfl
  ·intro x hx;rcases aw.mp hx with z|z
   ·obtain⟨y,hy,rfl⟩:=aK.mp z;obtain⟨e0,oy,rfl⟩:=aK.mp (D4.mp hy);exact⟨q,aq,e0,oy,rfl⟩
   ·obtain⟨q',nK,r⟩:=h3 x z;exact⟨q',ah _ nK,r⟩
end VS
namespace Prog
open PySem L2 VS
theorem b1Q{cl:Int→Int}{f:Int→List Int × Int}{g:List Int}(h:∀s∈g,∀t∈g,cl s=cl t→(f s).1=(f t).1∧cl (f s).2=cl (f t).2):((n5 f g).map fun q=>dcg cl q.2).sum≤dcg cl g:=by
 obtain⟨B,h1,h2,h3⟩:=a5S cl (n5 f g) (b1N f g);rw [←h2];refine bI (a3z (l':=ded (g.map fun s=>k1 cl (f s).2 ++ encL (f s).1)) h1 fun x hx=>?_) ?_
 ·obtain⟨q,hq,e,he,rfl⟩:=h3 x hx;obtain⟨s,hs,es⟩:=((y7 hq).2 e).mp he;refine D4.mpr (aK.mpr ⟨s,hs,?_⟩);rw [es]
 ·refine (a0E (fun s=>k1 cl (f s).2 ++ encL (f s).1) (k1 cl) g fun s hs t ht e=>?_).1;unfold k1 at e
  injection e with e
  injection e with e
  obtain⟨z1,z2⟩:=h s hs t ht e;show k1 cl (f s).2 ++ encL (f s).1=k1 cl (f t).2 ++ encL (f t).1;unfold k1;rw [z1,z2]
theorem a5T{m:j5}{cl:Int→Int}{p:List Int}:∀{gs:List (List Int)},(∀g∈gs,∀s∈g,∀t∈g,cl s=cl t→(b8 m s p).1=(b8 m t p).1∧cl (b8 m s p).2=cl (b8 m t p).2)→((z0 m gs p).map (dcg cl)).sum≤(gs.map (dcg cl)).sum
 | [],_=>aD _
 | g :: gs,h=>by
  have ih:=a5T (gs:=gs) fun g' hg=>h g' (ah _ hg)
  have h1:=b1Q (f:=fun s=>b8 m s p) (h g aq);have e:z0 m (g :: gs) p=(n5 (fun s=>b8 m s p) g).map (·.2) ++ z0 m gs p:=by unfold z0;rw [yL]
  rw [e,aR,List.sum_append,aB,pf,bp];exact Nat.add_le_add h1 ih
theorem b1R{f:Int→List Int × Int}{g:List Int}{s t:Int}(hs:s∈g)(ht:t∈g)(h:(f s).1≠(f t).1):2≤(n5 f g).length:=by
 obtain⟨q,hq,e1,_⟩:=T8 (f:=f) hs;obtain⟨q',nK,e2,_⟩:=T8 (f:=f) ht;have fA:q≠q':=fun z=>h (by rw [←e1,←e2,z])
 match hr:n5 f g,hq,nK with
 | [],hq,_=>cases hq
 | [x],hq,nK=>exact absurd ((ar.mp hq).trans (ar.mp nK).symm) fA
 | _ :: _ :: _,_,_=>simp
theorem a5U{m:j5}{p:List Int}:∀{gs:List (List Int)},(∀g∈gs,g≠[])→gs.length≤(z0 m gs p).length∧∀g∈gs,∀s∈g,∀t∈g,(b8 m s p).1≠(b8 m t p).1→gs.length + 1≤(z0 m gs p).length
 | [],_=>⟨aD _,fun g hg=>(nomatch hg)⟩
 | g :: gs,h=>by
  obtain⟨i1,i2⟩:=a5U (m:=m) (p:=p) (gs:=gs) fun g' hg=>h g' (ah _ hg)
  have e:z0 m (g :: gs) p=(n5 (fun s=>b8 m s p) g).map (·.2) ++ z0 m gs p:=by unfold z0;rw [yL]
  have h1:1≤(n5 (fun s=>b8 m s p) g).length:=by
   match g,h g aq with
   | s :: g,_=>
    obtain⟨q,hq,_⟩:=T8 (f:=fun s=>b8 m s p) (aq (a:=s) (l:=g));exact gE hq
  rw [e,aM,ae,aW];refine⟨by lia,fun g' kO s hs t ht fA=>?_⟩;rcases aH.mp kO with z|z
  ·subst z;have:=b1R (f:=fun s=>b8 m s p) hs ht fA;lia
  ·have:=i2 g' z s hs t ht fA;lia
theorem part_mem{m:j5}{gs:List (List Int)}{p g':List Int}(h:g'∈z0 m gs p):∃g∈gs,∃q∈n5 (fun s=>b8 m s p) g,q.2=g':=by
 unfold z0 at h;obtain⟨g,hg,h⟩:=BH.mp h;obtain⟨q,hq,e⟩:=aK.mp h;exact⟨g,hg,q,hq,e⟩
theorem P6{m:j5}{k:Nat}(w:WF m k){D:Nat}(hD:∀s t:Int,0≤s→s < m.length→0≤t→t < m.length→lv m D s=lv m D t→lv m (D + 1) s=lv m (D + 1) t) :
  ∀(p:List Int) (s t:Int),0≤s→s < m.length→0≤t→t < m.length→(∀a∈p,0≤a∧a < (k:Int))→lv m D s=lv m D t→(b8 m s p).1=(b8 m t p).1∧lv m D (b8 m s p).2=lv m D (b8 m t p).2
 | [],s,t,_,_,_,_,_,h=>⟨rfl,h⟩
 | a :: p,s,t,s0,s1,t0,t1,hp,h=>by
  have ha:=hp a aq;have qY:=(K9 w s0 s1 t0 t1).mp (hD s t s0 s1 t0 t1 h) a ha.1 ha.2;have n1:=w.nx s0 s1 ha.1 ha.2;have n2:=w.nx t0 t1 ha.1 ha.2;obtain⟨z1,z2⟩:=P6 w hD p _ _ n1.1 n1.2 n2.1 n2.2 (fun b hb=>hp b (ah _ hb)) qY.2;exact⟨by show (stp m s a).1 :: _=(stp m t a).1 :: _;rw [qY.1,z1],z2⟩
theorem a5V{m:j5}{k:Nat}(w:WF m k):∀(c:Nat) (s t:Int),0≤s→s < m.length→0≤t→t < m.length→lv m c s≠lv m c t→(b8 m s (fu m c s t)).1≠(b8 m t (fu m c s t)).1
 | 0,s,t,_,_,_,_,h=>by rw [y9,y9] at h;exact absurd rfl h
 | c + 1,s,t,s0,s1,t0,t1,h=>by
  obtain⟨f1,f2,_⟩:=a4y w s0 s1 t0 t1 h;show (stp m s (fa m c s t)).1 :: _≠(stp m t (fa m c s t)).1 :: _;intro e
  injection e with e1 e2
  have n1:=w.nx s0 s1 f1.1 f1.2;have n2:=w.nx t0 t1 f1.1 f1.2;exact a5V w c _ _ n1.1 n1.2 n2.1 n2.2 (f2.resolve_left fun z=>z e1) e2
structure HomeI (m:j5) (k D j:Nat) (probe:List Int) (gs:List (List Int)):Prop where
 asks:∀a∈probe,0≤a∧a < (k:Int)
 plen:probe.length≤j * (cls m D - 1)
 gok:∀g∈gs,g≠[]∧g.length≤m.length∧∀s∈g,0≤s∧s < (m.length:Int)
 cnt:j + 1≤gs.length
 phi:(gs.map (dcg (lv m D))).sum≤cls m D
 rel:∀s t:Int,0≤s→s < m.length→0≤t→t < m.length→(b8 m s probe).1=(b8 m t probe).1→∃g∈gs,(b8 m s probe).2∈g∧(b8 m t probe).2∈g
theorem b1S{cl:Int→Int}:∀{gs:List (List Int)},(∀g∈gs,g≠[])→gs.length≤(gs.map (dcg cl)).sum
 | [],_=>aD _
 | g :: gs,h=>by
  have ih:=b1S (cl:=cl) (gs:=gs) fun g' hg=>h g' (ah _ hg)
  have:=b3I (cl:=cl) (h g aq);rw [aB,pf,aW];lia
theorem HomeI.few{m:j5}{k D j:Nat}{probe:List Int}{gs:List (List Int)}(h:HomeI m k D j probe gs):gs.length≤cls m D:=bI (b1S fun g hg=>(h.gok g hg).1) h.phi
theorem a5W{m:j5}{k:Nat}(w:WF m k)(D:Nat):HomeI m k D 0 [] [(aG m.length).map fun (s:Nat)=>(s:Int)]:=by
 refine⟨fun a ha=>(nomatch ha),bC _,fun g hg=>?_,aD _,?_,fun s t s0 s1 t0 t1 _=>⟨_,aq,?_,?_⟩⟩
 ·rw [ar.mp hg];refine⟨fun z=>?_,by simp,fun s hs=>?_⟩
  ·have h1:=eG fL z;have h2:=w.pos;rw [ae,bz,CK] at h1;lia
  ·obtain⟨i,hi,rfl⟩:=aK.mp hs;have:=bx.mp hi;exact⟨by lia,by lia⟩
 ·rw [dZ,List.sum_singleton];unfold dcg cls;have e:m.map (kf m D)=((aG m.length).map fun (s:Nat)=>(s:Int)).map fun s=>kf m D (rowAt m s):=by
   rw [bp];refine fE fun i=>?_
   rw [aN,aN];by_cases c:i < m.length
   ·rw [eQ c,af c];show some (kf m D m[i])=some (kf m D (rowAt m (i:Int)));unfold rowAt;rw [aZ,ai,af c];rfl
   ·rw [cT (by lia),cT (by rw [bz];lia)];rfl
  rw [e];refine (a0E (k1 (lv m D)) (fun s=>kf m D (rowAt m s)) _ fun p hp q hq h=>?_).1;obtain⟨i,hi,rfl⟩:=aK.mp hp;obtain⟨j,hj,rfl⟩:=aK.mp hq;have:=bx.mp hi;have:=bx.mp hj;unfold k1;rw [(b1B (by lia) (by lia) (by lia) (by lia)).mp h]
 ·exact aK.mpr ⟨s.toNat,bx.mpr (by lia),by show ((s.toNat:Nat):Int)=s;lia⟩
 ·exact aK.mpr ⟨t.toNat,bx.mpr (by lia),by show ((t.toNat:Nat):Int)=t;lia⟩
theorem a7l{m:j5}{k:Nat}(w:WF m k){D j:Nat}(hD:∀s t:Int,0≤s→s < m.length→0≤t→t < m.length→lv m D s=lv m D t→lv m (D + 1) s=lv m (D + 1) t){probe p:List Int}{gs:List (List Int)}(H:HomeI m k D j probe gs)(hp:∀a∈p,0≤a∧a < (k:Int))(gG:p.length≤cls m D - 1)
  {g:List Int} (hg:g∈gs) {a b:Int} (ha:a∈g) (hb:b∈g) (fA:(b8 m a p).1≠(b8 m b p).1):HomeI m k D (j + 1) (probe ++ p) (z0 m gs p):=by
 have oR:∀g∈gs,g≠[]:=fun g hg=>(H.gok g hg).1
 refine⟨fun x hx=>?_,?_,fun g' kO=>?_,?_,?_,fun s t s0 s1 t0 t1 h=>?_⟩
 ·rcases aw.mp hx with z|z
  ·exact H.asks x z
  ·exact hp x z
 ·rw [aM,Nat.add_mul,Nat.one_mul];have:=H.plen;lia
 ·obtain⟨g0,sU,q,hq,rfl⟩:=part_mem kO;obtain⟨z1,z2,z3⟩:=H.gok g0 sU;refine⟨b1O hq,bI (a7k hq) z2,fun e he=>?_⟩;obtain⟨s,hs,es⟩:=((y7 hq).2 e).mp he;have h3:=z3 s hs;have:=l4 w p s h3.1 h3.2 hp;rw [show b8 m s p=(q.1,e) from es] at this;exact this
 ·have:=(a5U (m:=m) (p:=p) oR).2 g hg a ha b hb fA;have:=H.cnt;lia
 ·refine bI (a5T fun g0 sU s hs t ht e=>?_) H.phi;have h3:=(H.gok g0 sU).2.2;exact P6 w hD p s t (h3 s hs).1 (h3 s hs).2 (h3 t ht).1 (h3 t ht).2 hp e
 ·rw [A4,A4] at h;have hl:(b8 m s probe).1.length=(b8 m t probe).1.length:=by rw [v9,v9]
  obtain⟨e1,e2⟩:=ni h hl;obtain⟨g0,sU,x1,x2⟩:=H.rel s t s0 s1 t0 t1 e1;obtain⟨q,hq,y1,y2⟩:=T8 (f:=fun s=>b8 m s p) x1;refine⟨q.2,?_,?_,?_⟩
  ·unfold z0;exact BH.mpr ⟨g0,sU,bK (f:=(·.2)) hq⟩
  ·rw [A4];exact y2
  ·rw [A4];refine ((y7 hq).2 _).mpr ⟨_,x2,?_⟩;rw [y1];show b8 m (b8 m t probe).2 p=((b8 m (b8 m s probe).2 p).1,_);rw [e2]
end Prog
namespace Prog
open PySem L2 VS
def prO:Option (Int × Int)→D
 | none=>.none
 | some p=>.tuple [.int p.1,.int p.2]
theorem T9{gs:List (List Int)}{ls:List Int}(hs:∀g∈gs,∀s∈g,0≤s∧s < (ls.length:Int)) :
  ∃r:Option (Int × Int),m4 [.list (gs.map iD),iD ls]=some (prO r)∧(r=none→∀g∈gs,∀s∈g,∀t∈g,ls.getD s.toNat 0=ls.getD t.toNat 0)∧
   ∀p,r=some p→∃g∈gs,p.1∈g∧p.2∈g∧ls.getD p.1.toNat 0≠ls.getD p.2.toNat 0:=by
 unfold m4;rw [D6 (by simp [VS.argsOk])];unfold W8;walk_at "ev";rcases a0J (enc:=iD) (set:=u5 2) (xs:=gs) (g:=(D5 (iI (iL (a7 2))) (u5 3) (sIf (tB (e2 dNe (e2 i8 (a7 1) (a7 3)) (e2 i8 (a7 1) (e2 i8 (a7 2) (eC (.int 0)))))) (l6 (F6 (a8 (e2 i8 (a7 2) (eC (.int 0))) (a8 (a7 3) e7)))) u3))) (ρ:=[.list (gs.map iD),iD ls,.none,.none])
   (fun pre ρ=>(∀g∈pre,∀s∈g,∀t∈g,ls.getD s.toNat 0=ls.getD t.toNat 0)∧∃x y,ρ=[.list (gs.map iD),iD ls,x,y])
   (fun d=>∃p:Int × Int,d=prO (some p)∧∃g∈gs,p.1∈g∧p.2∈g∧ls.getD p.1.toNat 0≠ls.getD p.2.toNat 0) ⟨fun g hg=>(nomatch hg),_,_,rfl⟩ (by
    rintro pre g post e ρ ⟨jM,x,y,rfl⟩;have hg:g∈gs:=by rw [e];simp
    refine⟨_,rfl,?_⟩;show (∃ρ2,(D5 (iI (iL (a7 2))) (u5 3) (sIf (tB (e2 dNe (e2 i8 (a7 1) (a7 3)) (e2 i8 (a7 1) (e2 i8 (a7 2) (eC (.int 0)))))) (l6 (F6 (a8 (e2 i8 (a7 2) (eC (.int 0))) (a8 (a7 3) e7)))) u3)) [.list (gs.map iD),iD ls,iD g,y]=some (.nx ρ2)∧_)∨∃d,(D5 (iI (iL (a7 2))) (u5 3) (sIf (tB (e2 dNe (e2 i8 (a7 1) (a7 3)) (e2 i8 (a7 1) (e2 i8 (a7 2) (eC (.int 0)))))) (l6 (F6 (a8 (e2 i8 (a7 2) (eC (.int 0))) (a8 (a7 3) e7)))) u3)) [.list (gs.map iD),iD ls,iD g,y]=some (.rt d)∧_;have hi:iI (iL (a7 2)) [.list (gs.map iD),iD ls,iD g,y]=some (g.map .int):=a2d (by walk_at "ev") (n6 g);rw [b4b,hi];rcases a0J (enc:=aU) (set:=u5 3) (xs:=g) (g:=(sIf (tB (e2 dNe (e2 i8 (a7 1) (a7 3)) (e2 i8 (a7 1) (e2 i8 (a7 2) (eC (.int 0)))))) (l6 (F6 (a8 (e2 i8 (a7 2) (eC (.int 0))) (a8 (a7 3) e7)))) u3)) (ρ:=[.list (gs.map iD),iD ls,iD g,y])
     (fun pre ρ=>(∀s∈pre,ls.getD s.toNat 0=ls.getD (g.headD 0).toNat 0)∧∃y,ρ=[.list (gs.map iD),iD ls,iD g,y])
     (fun d=>∃p:Int × Int,d=prO (some p)∧∃g∈gs,p.1∈g∧p.2∈g∧ls.getD p.1.toNat 0≠ls.getD p.2.toNat 0) ⟨fun g hg=>(nomatch hg),_,rfl⟩ (by
      rintro pr s po e9 ρ ⟨pK,y',rfl⟩;have ug:s∈g:=by rw [e9];simp
      have ou:=hs g hg s ug;have fA:g≠[]:=fun z=>by rw [z] at ug;cases ug
      obtain⟨h0,r0,eg⟩:∃h0 r0,g=h0 :: r0:=by
       cases g with
       | nil=>exact absurd rfl fA
       | cons a b=>exact⟨a,b,rfl⟩
      have hh:h0∈g:=by rw [eg];exact aq
      have qH:=hs g hg h0 hh;have Aq:g.headD 0=h0:=by rw [eg];rfl
      refine⟨_,rfl,?_⟩;have ht:((tB (e2 dNe (e2 i8 (a7 1) (a7 3)) (e2 i8 (a7 1) (e2 i8 (a7 2) (eC (.int 0))))))) [.list (gs.map iD),iD ls,iD g,.int s]=some (decide (¬ ls.getD s.toNat 0=ls.getD h0.toNat 0)):=by
       rw [eg];walk_at "ev";rw [T6 ou.1 ou.2,T6 qH.1 qH.2];walk_at "ev";rw [←decide_not]
      show (∃ρ2,(sIf (tB (e2 dNe (e2 i8 (a7 1) (a7 3)) (e2 i8 (a7 1) (e2 i8 (a7 2) (eC (.int 0)))))) (l6 (F6 (a8 (e2 i8 (a7 2) (eC (.int 0))) (a8 (a7 3) e7)))) u3) [.list (gs.map iD),iD ls,iD g,.int s]=some (.nx ρ2)∧_)∨∃d,(sIf (tB (e2 dNe (e2 i8 (a7 1) (a7 3)) (e2 i8 (a7 1) (e2 i8 (a7 2) (eC (.int 0)))))) (l6 (F6 (a8 (e2 i8 (a7 2) (eC (.int 0))) (a8 (a7 3) e7)))) u3) [.list (gs.map iD),iD ls,iD g,.int s]=some (.rt d)∧_;rw [b0q,ht];by_cases c:ls.getD s.toNat 0=ls.getD h0.toNat 0
      ·refine .inl ⟨[.list (gs.map iD),iD ls,iD g,.int s],by rw [bj (fun z=>z c)];rfl,fun t zN=>?_,_,rfl⟩;rcases aw.mp zN with z|z
       ·exact pK t z
       ·rw [ar.mp z,Aq];exact c
      ·refine .inr ⟨prO (some (h0,s)),?_,(h0,s),rfl,g,hg,hh,ug,fun z=>c z.symm⟩;rw [aO c,eg];walk_at "ev";rfl) with⟨ρ',h1,h2,y',rfl⟩|⟨d,h1,h2⟩
    ·refine .inl ⟨_,by rw [a6t];exact h1,fun g' kO s hs t ht=>?_,_,_,rfl⟩;rcases aw.mp kO with z|z
     ·exact jM g' z s hs t ht
     ·rw [ar.mp z] at hs ht;rw [h2 s hs,h2 t ht]
    ·exact .inr ⟨d,by rw [a6t];exact h1,h2⟩) with⟨ρ',h1,h2,x,y,rfl⟩|⟨d,h1,p,rfl,h2⟩
 ·rw [h1];walk_at "ev";exact⟨none,rfl,fun _=>h2,fun p hp=>by cases hp⟩
 ·rw [h1];walk_at "ev";exact⟨some p,rfl,fun z=>(nomatch z),fun p' nu=>by cases nu;exact h2⟩
theorem a8n(h:a ρ=some (.int n))(hn:n≤1000):a1Z a ρ=some (iD ((aG n).map fun (s:Nat)=>(s:Int))):=by
 unfold a1Z;rw [h,bP];show (some (n:Int)).bind _=_;rw [bP,aE ⟨by lia,by lia⟩,aZ,a0B];unfold iD;rw [bp];rfl
theorem b3J{m:j5}{k:Nat}(w:WF m k):∃(D:Nat) (probe:List Int),a4s [.list (m.map rwD)]=some (iD probe)∧D + 1≤m.length∧(∀a∈probe,0≤a∧a < (k:Int))∧probe.length≤(cls m D - 1) * (cls m D - 1)∧
  (∀s t:Int,0≤s→s < m.length→0≤t→t < m.length→lv m D s=lv m D t→lv m (D + 1) s=lv m (D + 1) t)∧
  ∀s t:Int,0≤s→s < m.length→0≤t→t < m.length→(b8 m s probe).1=(b8 m t probe).1→lv m D (b8 m s probe).2=lv m D (b8 m t probe).2:=by
 obtain⟨D,vK,rz,pH,hD⟩:=a3u w;have hn:=w.le;have ri:=a1q m D;have up:∀i≤D,i + 1≤cls m i:=by
  intro i
  induction i with
  | zero=>intro _;exact V1 w 0
  | succ i ih=>intro hi;have:=ih (by lia);have:=pH i (by lia);lia
 have wj:=up D (aD _);have sO:=P4 m D;refine⟨D,?_⟩;unfold a4s;rw [D6 (by simp [VS.argsOk])];unfold b1u;walk_at "ev";rw [vK];walk_at "ev";rw [a8n (n:=m.length) (by walk_at "ev") (by lia)];walk_at "ev";have pairs:∀{gs:List (List Int)},(∀g∈gs,∀s∈g,0≤s∧s < (m.length:Int))→∃r:Option (Int × Int),m4 [.list (gs.map iD),iD (lvl m D)]=some (prO r)∧(r=none→∀g∈gs,∀s∈g,∀t∈g,lv m D s=lv m D t)∧
   ∀p,r=some p→∃g∈gs,p.1∈g∧p.2∈g∧lv m D p.1≠lv m D p.2:=fun {gs} h=>T9 fun g hg s hs=>by rw [sO];exact h g hg s hs
 have st:=a5W w D;obtain⟨r0,e0,n0,s0⟩:=pairs (gs:=[(aG m.length).map fun (s:Nat)=>(s:Int)]) fun g hg=>(st.gok g hg).2.2
 rw [a0d (f:=fun d=>iD (lvl m d))];walk_at "ev";rw [show m4 [.list [iD ((aG m.length).map fun (s:Nat)=>(s:Int))],iD (lvl m D)]=some (prO r0) from e0];walk_at "ev";have hw:=a1r (c:=(tB (e2 (a4J true) (a7 4) (eC .none)))) (g:=(f7 (i7 5 (eCl w6 (a8 (a7 0) (a8 (a7 1) (a8 (e2 i8 (a7 4) (eC (.int 0))) (a8 (e2 i8 (a7 4) (eC (.int 1))) e7)))))) (f7 (a8T 2 (a7 5)) (f7 (i7 3 (eCl K1 (a8 (a7 0) (a8 (a7 3) (a8 (a7 5) e7))))) (i7 4 (eCl m4 (a8 (a7 3) (a8 (e2 o6 (a7 1) (eC (.int (-1)))) e7))))))))
  (I:=fun j ρ=>∃(probe:List Int) (gs:List (List Int)) (r:Option (Int × Int)) (x:VS.D),HomeI m k D j probe gs∧(r=none→∀g∈gs,∀s∈g,∀t∈g,lv m D s=lv m D t)∧(∀p,r=some p→∃g∈gs,p.1∈g∧p.2∈g∧lv m D p.1≠lv m D p.2)∧ρ=[.list (m.map rwD),.list ((aG (D + 1)).map fun d=>iD (lvl m d)),iD probe,.list (gs.map iD),prO r,x])
  (Q:=fun ρ=>∃(j:Nat) (probe:List Int) (gs:List (List Int)) (x y:VS.D),HomeI m k D j probe gs∧(∀g∈gs,∀s∈g,∀t∈g,lv m D s=lv m D t)∧ρ=[.list (m.map rwD),.list ((aG (D + 1)).map fun d=>iD (lvl m d)),iD probe,.list (gs.map iD),x,y]) 30 (by
   rintro j ρ ⟨probe,gs,r,x,H,zS,vy,rfl⟩;have gO:=H.few;have jY:=H.cnt;refine⟨by lia,?_⟩;cases r with
   | none=>exact .inl ⟨by rfl,j,probe,gs,_,_,H,zS rfl,rfl⟩
   | some p=>
    obtain⟨g,hg,g1,g2,fA⟩:=vy p rfl;have b1:=(H.gok g hg).2.2 _ g1;have b2:=(H.gok g hg).2.2 _ g2;obtain⟨t1,t2,t3,t4,t5,_⟩:=a9t w b1.1 b1.2 b2.1 b2.2 fA;have iB:=a8m w (mny m D p.1 p.2) p.1 p.2 b1.1 b1.2 b2.1 b2.2 (fun _=>t4) (t5 _ (by lia));have nN:=b1D m (mny m D p.1 p.2) p.1 p.2;have qC:=a5V w (mny m D p.1 p.2) p.1 p.2 b1.1 b1.2 b2.1 b2.2 t4;have H':=a7l w hD H iB (by rw [nN];lia) hg g1 g2 qC;have vA:=H.plen;have hj:j≤29:=by lia
    have gG:probe.length≤900:=bI vA (bI (n_ hj (show cls m D - 1≤29 by lia)) (by lia));obtain⟨r',e1,n1,s1⟩:=pairs (gs:=z0 m gs (fu m (mny m D p.1 p.2) p.1 p.2)) fun g hg=>(H'.gok g hg).2.2
    refine .inr ⟨by rfl,[.list (m.map rwD),.list ((aG (D + 1)).map fun d=>iD (lvl m d)),iD (probe ++ fu m (mny m D p.1 p.2) p.1 p.2),.list ((z0 m gs (fu m (mny m D p.1 p.2) p.1 p.2)).map iD),prO r',iD (fu m (mny m D p.1 p.2) p.1 p.2)],?_,_,_,r',_,H',n1,s1,rfl⟩;show (f7 (i7 5 (eCl w6 (a8 (a7 0) (a8 (a7 1) (a8 (e2 i8 (a7 4) (eC (.int 0))) (a8 (e2 i8 (a7 4) (eC (.int 1))) e7)))))) (f7 (a8T 2 (a7 5)) (f7 (i7 3 (eCl K1 (a8 (a7 0) (a8 (a7 3) (a8 (a7 5) e7))))) (i7 4 (eCl m4 (a8 (a7 3) (a8 (e2 o6 (a7 1) (eC (.int (-1)))) e7))))))) [.list (m.map rwD),.list ((aG (D + 1)).map fun d=>iD (lvl m d)),iD probe,.list (gs.map iD),.tuple [.int p.1,.int p.2],x]=_;walk_at "ev";rw [a9s w (by lia) b1.1 b1.2 b2.1 b2.2,t1];walk_at "ev";rw [b7R (ds:=probe.map .int) (es:=(fu m (mny m D p.1 p.2) p.1 p.2).map .int) (by rfl) (by rfl) (n6 _) (by rw [ae,ae,nN];lia),←aR];walk_at "ev";rw [show K1 [.list (m.map rwD),.list (gs.map iD),.list ((fu m (mny m D p.1 p.2) p.1 p.2).map .int)]=_ from a9w w (fun g hg=>(H.gok g hg).2.2) iB (by rw [nN];lia) (fun g hg=>by have:=(H.gok g hg).2.1;lia) (by lia)];walk_at "ev";rw [a0d (f:=fun d=>iD (lvl m d))];walk_at "ev";rw [e1];walk_at "ev") 1000000 0 [.list (m.map rwD),.list ((aG (D + 1)).map fun d=>iD (lvl m d)),.list [],.list [iD ((aG m.length).map fun (s:Nat)=>(s:Int))],prO r0,.none] ⟨[],_,r0,_,st,n0,s0,rfl⟩ (by lia)
 obtain⟨ρ',h1,j,probe,gs,x,y,H,dN,rfl⟩:=hw;rw [b6g,h1];walk_at "ev";refine⟨probe,rfl,rz,H.asks,?_,hD,fun s t s0 s1 t0 t1 e=>?_⟩
 ·have gO:=H.few;have jY:=H.cnt;exact bI H.plen (tR _ (by lia))
 ·obtain⟨g,hg,x1,x2⟩:=H.rel s t s0 s1 t0 t1 e;exact dN g hg _ x1 _ x2
end Prog
namespace Prog
open PySem L2 VS
def a2w(d:D)(k:Int):Bool:=match d with
 | .int i=>decide (0≤i) && decide (i < k)
 | _=>false
theorem b1T(d:D):P0 [d]=some (.bool (isInt d && !isBool d)):=by
 unfold P0;rw [D6 (by simp [VS.argsOk])];unfold a2l;walk_at "ev";cases isInt d <;> walk_at "ev"
theorem b1U(d:D)(k:Int):P2 [d,.int k]=some (.bool (a2w d k)):=by
 unfold P2;rw [D6 (by simp [VS.argsOk,imm])];unfold a2n;walk_at "ev";rw [b1T];cases d with
 | int i=>
  walk_at "ev";show _=some (cw (decide (0≤i) && decide (i < k)));by_cases c:0≤i
  ·rw [aO c];walk_at "ev"
  ·rw [bj c];walk_at "ev"
 | _=>walk_at "ev";rfl
def a7m(d:D)(k:Int):Bool:=match d with
 | .list ds=>decide (ds.length≤13000) && ds.all (a2w · k)
 | _=>false
theorem b1V(d:D)(k:Int):P3 [d,.int k]=some (.bool (a7m d k)):=by
 unfold P3;rw [D6 (by simp [VS.argsOk,imm])];unfold a2p;cases d with
 | list ds=>
  walk_at "ev";show _=some (cw (decide (ds.length≤13000) && ds.all (a2w · k)));by_cases c:ds.length≤13000
  ·rw [aO (by lia:(ds.length:Int)≤13000),aO c];walk_at "ev";rw [a2e (ds:=ds) (fun d=>.bool (a2w d k))]
   ·walk_at "ev";rw [v_all];rfl
   ·walk_at "ev"
   ·lia
   ·intro d _;refine⟨[d],rfl,?_⟩;walk_at "ev";exact b1U d k
  ·rw [bj (by lia:¬ (ds.length:Int)≤13000),bj c];walk_at "ev"
 | _=>walk_at "ev";rfl
theorem a5X{p:List Int}{k:Int}(h:∀x∈p,0≤x∧x < k)(hl:p.length≤13000):a7m (.list (p.map .int)) k=true:=by
 unfold a7m;rw [aA];refine⟨by simpa using hl,?_⟩;rw [List.all_map,dc];intro x hx;have:=h x hx;simp [a2w,this.1,this.2]
end Prog
local macro_rules | `(tactic| walk_at "evm")=>`(tactic| first | (walk_at "ev";repeat (simp -implicitDefEqProofs (disch:=first | omega | assumption | decide) only [VS.a0r,VS.a0s,VS.N1];try walk_at "ev")) | (simp -implicitDefEqProofs (disch:=first | omega | assumption | decide) only [VS.a0r,VS.a0s,VS.N1];repeat (first | walk_at "ev" | simp -implicitDefEqProofs (disch:=first | omega | assumption | decide) only [VS.a0r,VS.a0s,VS.N1])))
namespace Prog
open PySem L2 VS
local macro_rules | `(tactic| walk_at "ev1")=>`(tactic| simp -implicitDefEqProofs only [VS.V8,VS.a0Q,VS.b3Z,VS.b0o,VS.a7J,VS.b0n,VS.X2,kT,iM])
def L0:Int:=10 ^ 64
theorem b1W:1000 < L0:=by decide
theorem a7n(ns:List Int)(k:Int)(h0:0≤k):∃c:Int,m_law_cell_at [.list (ns.map .int),.int k]=some (.int c):=by
 unfold m_law_cell_at;rw [D6 (by simp [VS.argsOk,imm])];unfold b_law_cell_at;walk_at "evm";by_cases c:k < (ns.length:Int)
 ·rw [aO c];walk_at "evm";exact⟨_,rfl⟩
 ·rw [bj c];walk_at "evm";exact⟨_,rfl⟩
theorem a0h(ns:List Int)(n:Nat)(h1:n≤20000):∃xs:List Int,m_law_cells [.list (ns.map .int),.int n]=some (.list (xs.map .int))∧xs.length=n∧∀x∈xs,0≤x:=by
 unfold m_law_cells;rw [D6 (by simp [VS.argsOk,imm])];unfold b_law_cells;walk_at "evm";rw [a4V (n:=n) (by walk_at "evm") (by lia) (by lia),aZ];walk_at "evm";refine K0 (R:=fun o=>∃xs:List Int,o=some (.list (xs.map .int))∧xs.length=n∧∀x∈xs,0≤x) (fun ρ=>∃(xs:List Int) (q:Int) (y z:D),xs.length=n∧(∀x∈xs,0≤x)∧ρ=[.list (ns.map .int),.int n,.list (xs.map .int),.int q,y,z]) ?_ ?_
 ·obtain⟨ρ',g1,xs,q,y,z,e1,e2,e3,rfl⟩:=E5 (n:=n) (set:=u5 4) (g:=(f7 (i7 5 (e2 p8 (eCl m_law_cell_at (a8 (a7 0) (a8 (a7 4) e7))) (e2 a3S (eC (.int 10)) (eC (.int 64))))) (f7 (i7 3 (e2 p8 (e2 j7 (e2 j7 (e2 j7 (e2 x8 (a7 3) (eC (.int 69621))) (e2 x8 (a7 5) (eC (.int 40014)))) (e2 x8 (a7 4) (a7 4))) (eC (.int 1))) (eC (.int 2147483563)))) (sIf (tB (e2 dLt (a7 4) (eCl A8 (a8 (a7 0) e7)))) (B6 2 (.l .i) q8 (a7 5)) (B6 2 (.l .i) q8 (a7 3)))))) (ρ:=[.list (ns.map .int),.int n,.list [],.int 48271,.none,.none])
   (fun j ρ=>∃(xs:List Int) (q:Int) (y z:D),xs.length=j∧(∀x∈xs,0≤x)∧0≤q∧ρ=[.list (ns.map .int),.int n,.list (xs.map .int),.int q,y,z]) ⟨[],48271,_,_,rfl,fun x hx=>(nomatch hx),by decide,rfl⟩ (by
    rintro j hj ρ ⟨xs,q,y,z,e1,e2,e3,rfl⟩;obtain⟨c,hc⟩:=a7n ns j (by lia);have hq:=cG (q * 69621 + c % L0 * 40014 + (j:Int) * j + 1) (show (2147483563:Int)≠0 by decide);have hp:=b1W;have uj:=cG c (show L0≠0 by lia);have yz:(10 ^ (64:Int).toNat:Int)=L0:=by decide
    by_cases cl:(j:Int) < ns.length
    ·refine⟨_,[.list (ns.map .int),.int n,.list ((xs ++ [c % L0]).map .int),.int ((q * 69621 + c % L0 * 40014 + (j:Int) * j + 1) % 2147483563),.int j,.int (c % L0)],rfl,?_,xs ++ [c % L0],_,_,_,by rw [aM,e1];rfl,?_,hq,rfl⟩
     ·walk_at "evm";rw [hc,v_pow (i:=10) (j:=64) (by decide),yz];generalize L0=T at hp;walk_at "evm";rw [aO cl];walk_at "evm";rw [X7 (by rw [ae];lia),aR];rfl
     ·intro x hx;rcases aw.mp hx with z|z
      ·exact e2 x z
      ·rw [ar.mp z];exact uj
    ·refine⟨_,[.list (ns.map .int),.int n,.list ((xs ++ [(q * 69621 + c % L0 * 40014 + (j:Int) * j + 1) % 2147483563]).map .int),.int ((q * 69621 + c % L0 * 40014 + (j:Int) * j + 1) % 2147483563),.int j,.int (c % L0)],rfl,?_,xs ++ [(q * 69621 + c % L0 * 40014 + (j:Int) * j + 1) % 2147483563],_,_,_,by rw [aM,e1];rfl,?_,hq,rfl⟩
     ·walk_at "evm";rw [hc,v_pow (i:=10) (j:=64) (by decide),yz];generalize L0=T at hp;walk_at "evm";rw [bj cl];walk_at "evm";rw [X7 (by rw [ae];lia),aR];rfl
     ·intro x hx;rcases aw.mp hx with z|z
      ·exact e2 x z
      ·rw [ar.mp z];exact hq)
  exact⟨_,g1,xs,q,y,z,e1,e2,rfl⟩
 ·rintro ρ ⟨xs,q,y,z,e1,e2,rfl⟩;walk_at "evm";exact⟨xs,rfl,e1,e2⟩
theorem a1s{xs:List Int}(h:∀x∈xs,0≤x)(i:Nat):0≤xs.getD i 0:=by
 rw [ai];cases e:xs[i]? with
 | none=>exact tU _
 | some y=>exact h y (ba e)
end Prog
namespace Prog
open PySem L2 VS
theorem b1X:a3S (.int 10) (.int 60)=some (.int big):=by rw [v_pow (i:=10) (j:=60) (by decide)];rfl
local macro_rules | `(tactic| walk_at "evq")=>`(tactic| first | (walk_at "ev";repeat (simp -implicitDefEqProofs (disch:=first | omega | assumption | decide) only [Prog.b1X,VS.a0r,VS.a0s,VS.N1];try walk_at "ev")) | (simp -implicitDefEqProofs (disch:=first | omega | assumption | decide) only [Prog.b1X,VS.a0r,VS.a0s,VS.N1];repeat (first | walk_at "ev" | simp -implicitDefEqProofs (disch:=first | omega | assumption | decide) only [Prog.b1X,VS.a0r,VS.a0s,VS.N1])))
theorem a9x(q:Int)(xs:List Int)(h:3≤xs.length):∃v:Int,m_law_answer [.int q,.list (xs.map .int)]=some (.int v):=by
 have Bz:=b1r;unfold m_law_answer;rw [D6 (by simp [VS.argsOk,imm])];unfold b_law_answer;walk_at "evq";generalize decide (xs.getD (1:Int).toNat 0 / 5 % 4=1)=b1;cases b1 with
 | true=>
  walk_at "evq";exact⟨_,rfl⟩
 | false=>
  walk_at "evq";generalize decide (xs.getD (1:Int).toNat 0 / 5 % 4=2)=b2;cases b2 with
  | true=>
   walk_at "evq";exact⟨_,rfl⟩
  | false=>
   walk_at "evq";generalize decide (xs.getD (1:Int).toNat 0 / 5 % 4=3)=b3;cases b3 with
   | true=>
    walk_at "evq";exact⟨_,rfl⟩
   | false=>
    walk_at "evq";exact⟨_,rfl⟩
theorem a9y(xs:List Int)(n q:Nat)(h:3 + n≤xs.length)(q1:1≤q)(qn:q≤n)(uT:n≤30)(hx:∀x∈xs,0≤x) :
  ∃rows:List Int,m_law_copied [.list (xs.map .int),.int n,.int q]=some (.list (rows.map .int))∧rows.length=n∧(∀r∈rows,0≤r∧r < (q:Int))∧∀c:Int,0≤c→c < q→c∈rows:=by
 unfold m_law_copied;rw [D6 (by simp [VS.argsOk,imm])];unfold b_law_copied;walk_at "evq";rw [a4V (n:=n) (by walk_at "evq") (by lia) (by lia),aZ];walk_at "evq"
 let o:Int:=xs.getD (0:Int).toNat 0 / 1000
 refine K0 (R:=fun e=>∃rows:List Int,e=some (.list (rows.map .int))∧rows.length=n∧(∀r∈rows,0≤r∧r < (q:Int))∧∀c:Int,0≤c→c < q→c∈rows) (fun ρ=>∃(rows:List Int) (x:D),rows.length=n∧(∀r∈rows,0≤r∧r < (q:Int))∧(∀i:Nat,i < q→((i:Int) + o) % q∈rows)∧ρ=[.list (xs.map .int),.int n,.int q,.list (rows.map .int),x]) ?_ ?_
 ·obtain⟨ρ',h1,rows,x,h2,h3,h4,rfl⟩:=E5 (n:=n) (set:=u5 4) (g:=(sIf (tB (e2 dLt (a7 4) (a7 2))) (B6 3 (.l .i) q8 (e2 p8 (e2 j7 (a7 4) (e2 G8 (e2 i8 (a7 0) (eC (.int 0))) (eC (.int 1000)))) (a7 2))) (B6 3 (.l .i) q8 (e2 p8 (e2 i8 (a7 0) (e2 j7 (eC (.int 3)) (a7 4))) (a7 2))))) (ρ:=[.list (xs.map .int),.int n,.int q,.list [],.none])
   (fun j ρ=>∃(rows:List Int) (x:D),rows.length=j∧(∀r∈rows,0≤r∧r < (q:Int))∧(∀i:Nat,i < q→i < j→((i:Int) + o) % q∈rows)∧ρ=[.list (xs.map .int),.int n,.int q,.list (rows.map .int),x])
   ⟨[],_,rfl,fun r hr=>(nomatch hr),fun i _ hi=>absurd hi (CH _),rfl⟩ (by
    rintro j hj ρ ⟨rows,x,h2,h3,h4,rfl⟩;have put:∀v:Int,(j < q→v=((j:Int) + o) % q)→0≤v→v < (q:Int)→(sIf (tB (e2 dLt (a7 4) (a7 2))) (B6 3 (.l .i) q8 (e2 p8 (e2 j7 (a7 4) (e2 G8 (e2 i8 (a7 0) (eC (.int 0))) (eC (.int 1000)))) (a7 2))) (B6 3 (.l .i) q8 (e2 p8 (e2 i8 (a7 0) (e2 j7 (eC (.int 3)) (a7 4))) (a7 2)))) [.list (xs.map .int),.int n,.int q,.list (rows.map .int),.int j]=some (.nx [.list (xs.map .int),.int n,.int q,.list ((rows ++ [v]).map .int),.int j])→
      ∃ρ1 ρ2,u5 4 [.list (xs.map .int),.int n,.int q,.list (rows.map .int),x] (.int j)=some ρ1∧(sIf (tB (e2 dLt (a7 4) (a7 2))) (B6 3 (.l .i) q8 (e2 p8 (e2 j7 (a7 4) (e2 G8 (e2 i8 (a7 0) (eC (.int 0))) (eC (.int 1000)))) (a7 2))) (B6 3 (.l .i) q8 (e2 p8 (e2 i8 (a7 0) (e2 j7 (eC (.int 3)) (a7 4))) (a7 2)))) ρ1=some (.nx ρ2)∧∃(rows:List Int) (x:D),rows.length=j + 1∧(∀r∈rows,0≤r∧r < (q:Int))∧(∀i:Nat,i < q→i < j + 1→((i:Int) + o) % q∈rows)∧ρ2=[.list (xs.map .int),.int n,.int q,.list (rows.map .int),x]:=by
     intro v hv v0 v1 hg;refine⟨_,_,rfl,hg,rows ++ [v],_,by rw [aM,h2];rfl,fun r hr=>?_,fun i hi kW=>?_,rfl⟩
     ·rcases aw.mp hr with z|z
      ·exact h3 r z
      ·rw [ar.mp z];exact⟨v0,v1⟩
     ·rcases bZ i j with z|z
      ·exact av _ (h4 i hi z)
      ·have e:i=j:=by lia
       subst e;rw [←hv hi];simp
    by_cases c:(j:Int) < q
    ·refine put (((j:Int) + o) % q) (fun _=>rfl) (cG _ (by lia)) (cL _ (by lia)) ?_;walk_at "evq";rw [aO c];walk_at "evq";rw [X7 (by rw [ae];lia),aR];rfl
    ·refine put (xs.getD (3 + (j:Int)).toNat 0 % q) (fun z=>by lia) (cG _ (by lia)) (cL _ (by lia)) ?_;walk_at "evq";rw [bj c];walk_at "evq";rw [X7 (by rw [ae];lia),aR];rfl)
  exact⟨_,h1,rows,x,h2,h3,fun i hi=>h4 i hi (by lia),rfl⟩
 ·rintro ρ ⟨rows,x,h2,h3,h4,rfl⟩;have xa:∀c:Int,0≤c→c < q→c∈rows:=fun c c0 c1=>by
   have h:=h4 ((c - o) % q).toNat (by have:=cL (c - o) (show (0:Int) < q by lia);have:=cG (c - o) (show (q:Int)≠0 by lia);lia);rw [dt (cG (c - o) (by lia)),Int.emod_add_emod,Int.sub_add_cancel,Int.emod_eq_of_lt c0 c1] at h;exact h
  walk_at "evq";generalize decide (xs.getD (1:Int).toNat 0 / 20 % 2=1)=b;cases b with
  | false=>
   walk_at "evq";exact⟨rows,rfl,h2,h3,xa⟩
  | true=>
   walk_at "evq";show ∃r,a2D (thn (some (.nx [.list (xs.map .int),.int n,.int q,.list (rows.map .int).reverse,x])) _)=_∧_;walk_at "evq";refine⟨rows.reverse,by rw [List.map_reverse],by rw [uD];exact h2,fun r hr=>h3 r (mj.mp hr),fun c c0 c1=>mj.mpr (xa c c0 c1)⟩
end Prog
namespace Prog
open PySem L2 VS
theorem a7o(ns:List Int)(sm la:Nat)(s1:1≤sm)(s2:sm≤30)(l1:1≤la)(l2:la≤30):∃(m:j5) (k:Nat),m_law_machine [.list (ns.map .int),.int sm,.int la]=some (.list (m.map rwD))∧WF m k∧m.length≤max sm la:=by
 unfold m_law_machine;rw [D6 (by simp [VS.argsOk,imm])];unfold b_law_machine;walk_at "evm";obtain⟨fi,Az,Cb,xj⟩:=a0h ns 3 (by lia);have vV:m_law_cells [.list (ns.map .int),.int 3]=some (.list (fi.map .int)):=Az;rw [vV];walk_at "evm";have f0:0≤fi.getD (0:Int).toNat 0:=a1s xj _;have f1:0≤fi.getD (1:Int).toNat 0:=a1s xj _;have q0:=cG (fi.getD (0:Int).toNat 0) (show (sm:Int)≠0 by lia);have q1:=cL (fi.getD (0:Int).toNat 0) (show (0:Int) < sm by lia);refine K0 (R:=fun o=>∃(m:j5) (k:Nat),o=some (.list (m.map rwD))∧WF m k∧m.length≤max sm la) (fun ρ=>∃n:Nat,1≤n∧n≤30∧n≤max sm la∧ρ=[.list (ns.map .int),.int sm,.int la,.list (fi.map .int),.int n,.none,.none,.none,.none,.none,.none,.none,.none,.none,.none,.none]) ?_ ?_
 ·cases decide (fi.getD (0:Int).toNat 0 / (sm:Int) % 8=3) with
  | true=>
   have r0:=cG (fi.getD (0:Int).toNat 0 / (8 * (sm:Int))) (show (la:Int)≠0 by lia);have r1:=cL (fi.getD (0:Int).toNat 0 / (8 * (sm:Int))) (show (0:Int) < la by lia);refine⟨_,(by walk_at "evm";exact rfl),(1 + fi.getD (0:Int).toNat 0 / (8 * (sm:Int)) % la).toNat,by lia,by lia,by lia,?_⟩;rw [dt (by lia)]
  | false=>
   refine⟨_,(by walk_at "evm";exact rfl),(1 + fi.getD (0:Int).toNat 0 % (sm:Int)).toNat,by lia,by lia,by lia,?_⟩;rw [dt (by lia)]
 rintro ρ ⟨n,n1,uT,BZ,rfl⟩;walk_at "evm";obtain⟨k,hk,k1,k5⟩:∃k:Nat,1 + fi.getD (1:Int).toNat 0 % 5=(k:Int)∧1≤k∧k≤5:=⟨(1 + fi.getD (1:Int).toNat 0 % 5).toNat,by lia,by lia,by lia⟩;rw [hk];refine K0 (R:=fun o=>∃(m:j5) (k:Nat),o=some (.list (m.map rwD))∧WF m k∧m.length≤max sm la) (fun ρ=>∃q:Nat,1≤q∧q≤n∧ρ=[.list (ns.map .int),.int sm,.int la,.list (fi.map .int),.int n,.int k,.int q,.none,.none,.none,.none,.none,.none,.none,.none,.none]) ?_ ?_
 ·cases decide (fi.getD (2:Int).toNat 0 % 3 > 0) with
  | true=>
   have r0:=cG (fi.getD (2:Int).toNat 0 / 3) (show (n:Int)≠0 by lia);have r1:=cL (fi.getD (2:Int).toNat 0 / 3) (show (0:Int) < n by lia);refine⟨_,(by walk_at "evm";exact rfl),(1 + fi.getD (2:Int).toNat 0 / 3 % n).toNat,by lia,by lia,?_⟩;rw [dt (by lia)]
  | false=>
   exact⟨_,(by walk_at "evm"),n,n1,aD _,rfl⟩
 rintro ρ ⟨q,zg,qn,rfl⟩;walk_at "evm";have Cn:n * k≤30 * 5:=n_ uT k5;obtain⟨xs,qt,xr,t_⟩:=a0h ns (3 + n + 2 * n * k) (by rw [Nat.mul_assoc];lia);have ec:(3 + (n:Int) + 2 * (n:Int) * (k:Int))=((3 + n + 2 * n * k:Nat):Int):=by rw [nk,nk,jJ,jJ];rfl
 rw [ec,qt];have en:(2:Int) * (n:Int) * (k:Int)=(n:Int) * k + (n:Int) * k:=by rw [Int.mul_assoc,Int.two_mul]
 have Cp:(xs.length:Int)=3 + n + ((n:Int) * k + (n:Int) * k):=by rw [xr,←ec,en]
 have z_:0≤(n:Int) * (k:Int):=Int.mul_nonneg (by lia) (by lia);walk_at "evm";obtain⟨rows,sA,xt,rX,rT⟩:=a9y xs n q (by lia) zg qn uT t_;rw [sA];walk_at "evm";rw [a4V (n:=n) (by walk_at "evm") (by lia) (by lia),aZ];walk_at "evm";have Bz:=b1r;have row:∀s:Nat,s < n→∀(tab:D) (y z u v:D),∃(r:List (Int × Int)) (x' y' z' u':D),r.length=k∧(∀p∈r,0≤p.2∧p.2 < (n:Int))∧
   (D5 (iR (a7 5)) (u5 12) (f7 (i7 13 (e2 o6 (a7 7) (e2 j7 (e2 j7 (e2 j7 (eC (.int 3)) (a7 4)) (e2 x8 (e2 o6 (a7 8) (a7 10)) (a7 5))) (a7 12)))) (f7 (i7 14 (m8 (iR (a7 4)) [6,8,13] pt1 (tB (e2 dEq (e2 o6 (a7 2) (a7 0)) (e2 p8 (a7 3) (a7 1)))) (a7 0))) (f7 (i7 15 (e2 o6 (a7 7) (e2 j7 (e2 j7 (e2 j7 (e2 j7 (eC (.int 3)) (a7 4)) (e2 x8 (a7 4) (a7 5))) (e2 x8 (a7 10) (a7 5))) (a7 12)))) (B6 11 (.l .i) q8 (F6 (a8 (eCl m_law_answer (a8 (e2 G8 (a7 13) (a7 6)) (a8 (a7 7) e7))) (a8 (e2 o6 (a7 14) (e2 p8 (a7 15) (eCl A8 (a8 (a7 14) e7)))) e7)))))))) [.list (ns.map .int),.int sm,.int la,.list (fi.map .int),.int n,.int k,.int q,.list (xs.map .int),.list (rows.map .int),tab,.int s,.list [],y,z,u,v]=some (.nx [.list (ns.map .int),.int sm,.int la,.list (fi.map .int),.int n,.int k,.int q,.list (xs.map .int),.list (rows.map .int),tab,.int s,rwD r,x',y',z',u']):=by
  intro s hs tab y z u v;walk_at "evm";rw [a4V (n:=k) (by walk_at "evm") (by lia) (by lia),aZ];walk_at "evm";obtain⟨ρ',h1,r,x',y',z',u',h2,h3,rfl⟩:=E5 (n:=k) (set:=u5 12) (g:=(f7 (i7 13 (e2 o6 (a7 7) (e2 j7 (e2 j7 (e2 j7 (eC (.int 3)) (a7 4)) (e2 x8 (e2 o6 (a7 8) (a7 10)) (a7 5))) (a7 12)))) (f7 (i7 14 (m8 (iR (a7 4)) [6,8,13] pt1 (tB (e2 dEq (e2 o6 (a7 2) (a7 0)) (e2 p8 (a7 3) (a7 1)))) (a7 0))) (f7 (i7 15 (e2 o6 (a7 7) (e2 j7 (e2 j7 (e2 j7 (e2 j7 (eC (.int 3)) (a7 4)) (e2 x8 (a7 4) (a7 5))) (e2 x8 (a7 10) (a7 5))) (a7 12)))) (B6 11 (.l .i) q8 (F6 (a8 (eCl m_law_answer (a8 (e2 G8 (a7 13) (a7 6)) (a8 (a7 7) e7))) (a8 (e2 o6 (a7 14) (e2 p8 (a7 15) (eCl A8 (a8 (a7 14) e7)))) e7))))))))
   (ρ:=[.list (ns.map .int),.int sm,.int la,.list (fi.map .int),.int n,.int k,.int q,.list (xs.map .int),.list (rows.map .int),tab,.int s,.list [],y,z,u,v])
   (fun j ρ=>∃(r:List (Int × Int)) (x' y' z' u':D),r.length=j∧(∀p∈r,0≤p.2∧p.2 < (n:Int))∧ρ=[.list (ns.map .int),.int sm,.int la,.list (fi.map .int),.int n,.int k,.int q,.list (xs.map .int),.list (rows.map .int),tab,.int s,rwD r,x',y',z',u'])
   ⟨[],y,z,u,v,rfl,fun p hp=>(nomatch hp),rfl⟩ (by
    rintro j hj ρ ⟨r,x',y',z',u',hr,hp,rfl⟩;have bound:∀i:Int,0≤i→i < n→0≤i * (k:Int)∧i * (k:Int) + j < (n:Int) * k:=fun i i0 i1=>by
     refine⟨Int.mul_nonneg i0 (by lia),?_⟩;have h1:(i.toNat + 1) * k≤n * k:=tR k (by lia);have h2:i.toNat * k + j < n * k:=by rw [Nat.add_mul,Nat.one_mul] at h1;lia
     have h3:((i.toNat:Nat):Int)=i:=by lia
     have h4:((i.toNat * k + j:Nat):Int) < ((n * k:Nat):Int):=by exact_mod_cast h2
     rw [nk,jJ,jJ,h3] at h4;exact h4
    have xI:0≤rows.getD s 0∧rows.getD s 0 < (q:Int):=by
     have hm:rows.getD s 0∈rows:=a3r (by lia);exact rX _ hm
    obtain⟨b0,b1⟩:=bound (rows.getD s 0) xI.1 (by lia);obtain⟨d0,d1⟩:=bound s (by lia) (by lia);have xX:e2 o6 (a7 8) (a7 10) [.list (ns.map .int),.int sm,.int la,.list (fi.map .int),.int n,.int k,.int q,.list (xs.map .int),.list (rows.map .int),tab,.int s,rwD r,.int j,y',z',u']=some (.int (rows.getD s 0)):=by
     walk_at "evm";rw [aZ]
    generalize Cg:rows.getD s 0=rr at xI b0 b1 xX
    let cell:Int:=xs.getD (3 + (n:Int) + rr * k + j).toNat 0
    have jE:e2 o6 (a7 7) (e2 j7 (e2 j7 (e2 j7 (eC (.int 3)) (a7 4)) (e2 x8 (e2 o6 (a7 8) (a7 10)) (a7 5))) (a7 12)) [.list (ns.map .int),.int sm,.int la,.list (fi.map .int),.int n,.int k,.int q,.list (xs.map .int),.list (rows.map .int),tab,.int s,rwD r,.int j,y',z',u']=some (.int cell):=by
     rw [v_2,v_2,v_2,v_2,v_2,xX];walk_at "evm";rfl
    have vI:=cG cell (show (q:Int)≠0 by lia);have nv:=cL cell (show (0:Int) < q by lia)
    let room:List Nat:=(aG n).filter fun (t:Nat)=>decide (rows.getD t 0=cell % q)
    have sC:(m8 (iR (a7 4)) [6,8,13] pt1 (tB (e2 dEq (e2 o6 (a7 2) (a7 0)) (e2 p8 (a7 3) (a7 1)))) (a7 0)) [.list (ns.map .int),.int sm,.int la,.list (fi.map .int),.int n,.int k,.int q,.list (xs.map .int),.list (rows.map .int),tab,.int s,rwD r,.int j,.int cell,z',u']=some (.list (room.map fun (t:Nat)=>aU t)):=by
     refine b3F (n:=n) (fun (t:Nat)=>decide (rows.getD t 0=cell % q)) (fun t=>.int t) (by rw [a4V (n:=n) (by walk_at "evm") (by lia) (by lia)];rfl) (by lia) (fun t ht=>⟨?_,fun _=>rfl⟩);show tB _ [.int t,.int q,.list (rows.map .int),.int cell]=_;walk_at "evm";rw [aZ]
    have hl:0 < room.length:=by
     obtain⟨t,ht⟩:=bX.mp (rT (cell % q) vI nv);have Cd:=(ay.mp ht).1;have:t∈room:=by
      show t∈(aG n).filter _;rw [fm];refine⟨bx.mpr (by lia),aO ?_⟩;rw [ai,ht];rfl
     exact gE this
    let pick:Int:=xs.getD (3 + (n:Int) + (n:Int) * k + (s:Int) * k + j).toNat 0
    have sF:e2 o6 (a7 7) (e2 j7 (e2 j7 (e2 j7 (e2 j7 (eC (.int 3)) (a7 4)) (e2 x8 (a7 4) (a7 5))) (e2 x8 (a7 10) (a7 5))) (a7 12)) [.list (ns.map .int),.int sm,.int la,.list (fi.map .int),.int n,.int k,.int q,.list (xs.map .int),.list (rows.map .int),tab,.int s,rwD r,.int j,.int cell,.list (room.map fun (t:Nat)=>aU t),u']=some (.int pick):=by
     walk_at "evm";rfl
    obtain⟨v,hv⟩:=a9x (cell / q) xs (by lia);have g0:=cG pick (show (room.length:Int)≠0 by lia);have g1:=cL pick (show (0:Int) < room.length by lia);obtain⟨t,zP,zO,vp⟩:∃t:Int,0≤t∧t < (n:Int)∧L2.atI (room.map fun (t:Nat)=>aU t) (pick % (room.length:Int))=some (.int t):=by
     rw [a1N g0 (by rw [ae];exact g1),dW];have jN:room[(pick % (room.length:Int)).toNat]'(by lia)∈(aG n).filter fun (t:Nat)=>decide (rows.getD t 0=cell % q):=cS _
     have:=bx.mp (fm.mp jN).1;exact⟨_,by lia,by lia,rfl⟩
    have hb:(f7 (i7 13 (e2 o6 (a7 7) (e2 j7 (e2 j7 (e2 j7 (eC (.int 3)) (a7 4)) (e2 x8 (e2 o6 (a7 8) (a7 10)) (a7 5))) (a7 12)))) (f7 (i7 14 (m8 (iR (a7 4)) [6,8,13] pt1 (tB (e2 dEq (e2 o6 (a7 2) (a7 0)) (e2 p8 (a7 3) (a7 1)))) (a7 0))) (f7 (i7 15 (e2 o6 (a7 7) (e2 j7 (e2 j7 (e2 j7 (e2 j7 (eC (.int 3)) (a7 4)) (e2 x8 (a7 4) (a7 5))) (e2 x8 (a7 10) (a7 5))) (a7 12)))) (B6 11 (.l .i) q8 (F6 (a8 (eCl m_law_answer (a8 (e2 G8 (a7 13) (a7 6)) (a8 (a7 7) e7))) (a8 (e2 o6 (a7 14) (e2 p8 (a7 15) (eCl A8 (a8 (a7 14) e7)))) e7))))))) [.list (ns.map .int),.int sm,.int la,.list (fi.map .int),.int n,.int k,.int q,.list (xs.map .int),.list (rows.map .int),tab,.int s,rwD r,.int j,y',z',u']=some (.nx [.list (ns.map .int),.int sm,.int la,.list (fi.map .int),.int n,.int k,.int q,.list (xs.map .int),.list (rows.map .int),tab,.int s,rwD (r ++ [(v,t)]),.int j,.int cell,.list (room.map fun (t:Nat)=>aU t),.int pick]):=by
     rw [V8,a0Q,jE];show thn (some (.nx [.list (ns.map .int),.int sm,.int la,.list (fi.map .int),.int n,.int k,.int q,.list (xs.map .int),.list (rows.map .int),tab,.int s,rwD r,.int j,.int cell,z',u'])) _=_;rw [X2,V8,a0Q,sC];show thn (some (.nx [.list (ns.map .int),.int sm,.int la,.list (fi.map .int),.int n,.int k,.int q,.list (xs.map .int),.list (rows.map .int),tab,.int s,rwD r,.int j,.int cell,.list (room.map fun (t:Nat)=>aU t),u'])) _=_;rw [X2,V8,a0Q,sF];show thn (some (.nx [.list (ns.map .int),.int sm,.int la,.list (fi.map .int),.int n,.int k,.int q,.list (xs.map .int),.list (rows.map .int),tab,.int s,rwD r,.int j,.int cell,.list (room.map fun (t:Nat)=>aU t),.int pick])) _=_;rw [X2];generalize Cu:cell=cc at hv;generalize Ck:pick=pp at vp;generalize Cm:room=oo at vp hl;walk_at "evm";rw [hv,vp];walk_at "evm";show b2W 11 (.list (r.map stD)) _ _=_;rw [X7 (by rw [ae];lia)];unfold rwD;rw [aR];rfl
    refine⟨_,_,rfl,hb,r ++ [(v,t)],_,_,_,_,by rw [aM,hr];rfl,?_,rfl⟩;intro p nu;rcases aw.mp nu with z|z
    ·exact hp p z
    ·rw [ar.mp z];exact⟨zP,zO⟩)
  exact⟨r,x',y',z',u',h2,h3,h1⟩
 refine K0 (R:=fun o=>∃(m:j5) (k:Nat),o=some (.list (m.map rwD))∧WF m k∧m.length≤max sm la) (fun ρ=>∃(m:j5) (a b c d e f:D),m.length=n∧(∀r∈m,r.length=k∧∀p∈r,0≤p.2∧p.2 < (n:Int))∧ρ=[.list (ns.map .int),.int sm,.int la,.list (fi.map .int),.int n,.int k,.int q,.list (xs.map .int),.list (rows.map .int),.list (m.map rwD),a,b,c,d,e,f]) ?_ ?_
 ·obtain⟨ρ',h1,m,a,b,c,d,e,f,h2,h3,rfl⟩:=E5 (n:=n) (set:=u5 10) (g:=(f7 (i7 11 (N9 e7)) (f7 (D5 (iR (a7 5)) (u5 12) (f7 (i7 13 (e2 o6 (a7 7) (e2 j7 (e2 j7 (e2 j7 (eC (.int 3)) (a7 4)) (e2 x8 (e2 o6 (a7 8) (a7 10)) (a7 5))) (a7 12)))) (f7 (i7 14 (m8 (iR (a7 4)) [6,8,13] pt1 (tB (e2 dEq (e2 o6 (a7 2) (a7 0)) (e2 p8 (a7 3) (a7 1)))) (a7 0))) (f7 (i7 15 (e2 o6 (a7 7) (e2 j7 (e2 j7 (e2 j7 (e2 j7 (eC (.int 3)) (a7 4)) (e2 x8 (a7 4) (a7 5))) (e2 x8 (a7 10) (a7 5))) (a7 12)))) (B6 11 (.l .i) q8 (F6 (a8 (eCl m_law_answer (a8 (e2 G8 (a7 13) (a7 6)) (a8 (a7 7) e7))) (a8 (e2 o6 (a7 14) (e2 p8 (a7 15) (eCl A8 (a8 (a7 14) e7)))) e7)))))))) (B6 9 (.l (.l .i)) q8 (a7 11)))))
   (ρ:=[.list (ns.map .int),.int sm,.int la,.list (fi.map .int),.int n,.int k,.int q,.list (xs.map .int),.list (rows.map .int),.list [],.none,.none,.none,.none,.none,.none])
   (fun j ρ=>∃(m:j5) (a b c d e f:D),m.length=j∧(∀r∈m,r.length=k∧∀p∈r,0≤p.2∧p.2 < (n:Int))∧ρ=[.list (ns.map .int),.int sm,.int la,.list (fi.map .int),.int n,.int k,.int q,.list (xs.map .int),.list (rows.map .int),.list (m.map rwD),a,b,c,d,e,f])
   ⟨[],_,_,_,_,_,_,rfl,fun p hp=>(nomatch hp),rfl⟩ (by
    rintro j hj ρ ⟨m,a,b,c,d,e,f,h2,h3,rfl⟩;obtain⟨r,x',y',z',u',r1,r2,r3⟩:=row j hj (.list (m.map rwD)) c d e f;refine⟨_,[.list (ns.map .int),.int sm,.int la,.list (fi.map .int),.int n,.int k,.int q,.list (xs.map .int),.list (rows.map .int),.list ((m ++ [r]).map rwD),.int j,rwD r,x',y',z',u'],rfl,?_,m ++ [r],_,_,_,_,_,_,by rw [aM,h2];rfl,?_,rfl⟩
    ·show (f7 (i7 11 (N9 e7)) (f7 (D5 (iR (a7 5)) (u5 12) (f7 (i7 13 (e2 o6 (a7 7) (e2 j7 (e2 j7 (e2 j7 (eC (.int 3)) (a7 4)) (e2 x8 (e2 o6 (a7 8) (a7 10)) (a7 5))) (a7 12)))) (f7 (i7 14 (m8 (iR (a7 4)) [6,8,13] pt1 (tB (e2 dEq (e2 o6 (a7 2) (a7 0)) (e2 p8 (a7 3) (a7 1)))) (a7 0))) (f7 (i7 15 (e2 o6 (a7 7) (e2 j7 (e2 j7 (e2 j7 (e2 j7 (eC (.int 3)) (a7 4)) (e2 x8 (a7 4) (a7 5))) (e2 x8 (a7 10) (a7 5))) (a7 12)))) (B6 11 (.l .i) q8 (F6 (a8 (eCl m_law_answer (a8 (e2 G8 (a7 13) (a7 6)) (a8 (a7 7) e7))) (a8 (e2 o6 (a7 14) (e2 p8 (a7 15) (eCl A8 (a8 (a7 14) e7)))) e7)))))))) (B6 9 (.l (.l .i)) q8 (a7 11)))) [.list (ns.map .int),.int sm,.int la,.list (fi.map .int),.int n,.int k,.int q,.list (xs.map .int),.list (rows.map .int),.list (m.map rwD),.int j,b,c,d,e,f]=_;rw [V8,a0Q];show thn (some (.nx [.list (ns.map .int),.int sm,.int la,.list (fi.map .int),.int n,.int k,.int q,.list (xs.map .int),.list (rows.map .int),.list (m.map rwD),.int j,.list [],c,d,e,f])) _=_;rw [X2,V8,r3,X2];walk_at "evm";rw [X7 (by rw [ae];lia)];walk_at "evm";rw [aR];rfl
    ·intro r' sE;rcases aw.mp sE with z|z
     ·exact h3 r' z
     ·rw [ar.mp z];exact⟨r1,r2⟩)
  exact⟨_,h1,m,a,b,c,d,e,f,h2,h3,rfl⟩
 ·rintro ρ ⟨m,a,b,c,d,e,f,h2,h3,rfl⟩;walk_at "evm";exact⟨m,k,rfl,⟨by lia,by lia,k1,k5,fun r hr=>(h3 r hr).1,fun r hr p hp=>by rw [h2];exact (h3 r hr).2 p hp⟩,by lia⟩
end Prog
namespace VS
open PySem L2
theorem b6k{i j:Int}:a1j false [.int i,.int j]=some (.int (min i j)):=by
 show some (aU (if false=true then (if j > i then j else i) else (if j < i then j else i)))=_;rw [aJ (by decide)]
 congr 2;by_cases h:j < i
 ·rw [aE h];lia
 ·rw [aJ h];lia
theorem b6l{xs:List Int}{k:Int}(h0:0≤k):lSl (some (.list (xs.map .int))) (some none) (some (some k))=some (.list ((xs.take k.toNat).map .int)):=by
 rcases Int.le_total k xs.length with h|h
 ·exact b7D h0 h
 ·rw [b1p];unfold cutD HT.sIx
  dsimp only
  rw [aJ (by lia),List.drop_zero,Nat.sub_zero,Nat.min_eq_right (by rw [ae];lia),jy (by rw [ae];exact aD _),jy (by lia)]
end VS
namespace Prog
open PySem L2 VS
theorem K3{m:j5}{k:Nat}(w:WF m k){p:List Int}{s:Int}(h0:0≤s)(h1:s < m.length)(hp:∀x∈p,0≤x∧x < (k:Int))(hl:p.length≤13000) :
  m_law_walked [.list (m.map rwD),.int s,iD p]=some (.tuple [p7 (b8 m s p).1,.int (b8 m s p).2]):=by
 unfold m_law_walked;rw [D6 (by simp [VS.argsOk,imm])];unfold b_law_walked;walk_at "ev";rw [a2d (ds:=p.map .int) (by walk_at "ev") (n6 p)];walk_at "ev";refine E9 (fun ρ=>∃x y:D,ρ=[.list (m.map rwD),.int (b8 m s p).2,iD p,.list ((b8 m s p).1.map .int),x,y]) ?_ ?_
 ·obtain⟨ρ',h2,x,y,rfl⟩:=C9 (enc:=aU) (set:=u5 4) (xs:=p) (ρ:=[.list (m.map rwD),.int s,iD p,.list [],.none,.none])
   (g:=(f7 (a1J 5 1 (e2 i8 (e2 dIx (a7 0) (a7 1)) (a7 4))) (B6 3 (.l .i) q8 (a7 5))))
   (fun pre ρ=>∃x y:D,ρ=[.list (m.map rwD),.int (b8 m s pre).2,iD p,.list ((b8 m s pre).1.map .int),x,y]) ⟨_,_,rfl⟩ (by
    rintro pre a post e ρ ⟨x,y,rfl⟩;have jM:∀b∈pre,0≤b∧b < (k:Int):=fun b hb=>hp b (by rw [e];exact av _ hb)
    have ha:=hp a (by rw [e];simp);have hs:=l4 w pre s h0 h1 jM;have hr:=w.row hs.1 hs.2;have hlen:pre.length < 13000:=by have:=eG fL e;simp at this;lia
    refine⟨_,[.list (m.map rwD),.int (b8 m s (pre ++ [a])).2,iD p,.list ((b8 m s (pre ++ [a])).1.map .int),.int a,.int (stp m (b8 m s pre).2 a).1],rfl,?_,_,_,rfl⟩;walk_at "ev";rw [a4o hs.1 hs.2];walk_at "ev";rw [a9n ha.1 (by lia)];walk_at "ev";rw [a4d (by rw [ae,v9];lia)];walk_at "ev";rw [a2i,aR];rfl)
  exact⟨_,h2,_,_,rfl⟩
 ·rintro ρ ⟨x,y,rfl⟩;walk_at "ev";rw [a4z (ds:=(b8 m s p).1.map .int) (by walk_at "ev") (n6 _)];rfl
theorem b3K(w:WF m k):U9 [.list (m.map rwD)]=some (.int k):=by
 unfold U9;rw [D6 (by simp [VS.argsOk])];unfold a3o;walk_at "ev";rw [a4o (by decide) (by have:=w.pos;lia)];walk_at "ev";rw [w.row (by decide) (by have:=w.pos;lia)]
theorem a2H{m:j5}{k:Nat}(w:WF m k){p:List Int}(hp:∀x∈p,0≤x∧x < (k:Int))(hl:p.length≤13000):D1 [.list (m.map rwD),.list (p.map .int)]=some .none:=by
 unfold D1;rw [b7H (by simp [VS.argsOk])];unfold a0a;walk_at "ev";rw [b3K w];walk_at "ev";rw [b1V,a5X hp hl];walk_at "ev";rfl
theorem a4A{m:j5}{k:Nat}(w:WF m k){p:List Int}(hp:∀x∈p,0≤x∧x < (k:Int))(hl:p.length≤13000) :
  L4 [.list (m.map rwD),iD p]=some (.list ((n5 (fun s=>b8 m s p) ((aG m.length).map fun (s:Nat)=>(s:Int))).map fun q=>.tuple [iD q.1,iD q.2])):=by
 have hn:=w.le;unfold L4;rw [D6 (by simp [VS.argsOk])];unfold b1w;walk_at "ev";rw [show D1 [.list (m.map rwD),iD p]=_ from a2H w hp hl];walk_at "ev";rw [a8n (n:=m.length) (by walk_at "ev") (by lia)];walk_at "ev";rw [a0g w (fun s hs=>by
  obtain⟨j,hj,rfl⟩:=aK.mp hs;have:=bx.mp hj;exact⟨by lia,by lia⟩) hp hl (by rw [ae,bz];lia)]
 walk_at "ev"
theorem any_ints(e:Int):∀es:List Int,((es.map aU).any fun d=>aI d (.int e))=decide (e∈es)
 | []=>rfl
 | x :: es=>by
  rw [aB,gW,any_ints e es,a4n,jK];simp only [fq,gv,aH];exact oN eq_comm
theorem b7U{neg:Bool}{e:Int}{es:List Int}:a2E neg (.int e) (iD es)=some (.bool (neg != decide (e∈es))):=by
 show (if (aL (es.map .int) && (aU e).canLay0 && decide ((aU e).depth≤60))=true then _ else none)=_;rw [J2 _ (fun x=>by simp only [cn]) es,show (aU e).canLay0=true by simp only [cn],U8,any_ints];rfl
theorem a3A(a:Int):m_law_whole [.int a]=some (.bool true):=by
 unfold m_law_whole;rw [D6 (by simp [VS.argsOk])];unfold b_law_whole;walk_at "ev"
def prE(q:List Int × List Int):D:=.tuple [iD q.1,iD q.2]
theorem a9z{dd:GA}{a:List Int}(h:a∉dd.map (·.1)):N2 dd a=none:=by
 unfold N2;rw [d_.mpr fun q hq z=>h (by rw [←bh z];exact bK (f:=(·.1)) hq)];rfl
theorem b1Y{m:j5}{k:Nat}(w:WF m k){p:List Int}(hp:∀x∈p,0≤x∧x < (k:Int))(hl:p.length≤13000)(as:List Int) :
  V0 [.list (m.map rwD),iD p,iD as]=some (iD (a0e ((N2 (C1 (fun s=>b8 m s p) ((aG m.length).map fun (s:Nat)=>(s:Int))) as).getD []))):=by
 obtain⟨qs,vz⟩:∃qs:GA,qs=n5 (fun s=>b8 m s p) ((aG m.length).map fun (s:Nat)=>(s:Int)):=⟨_,rfl⟩;have kI:L4 [.list (m.map rwD),iD p]=some (.list (qs.map prE)):=by rw [vz];exact a4A w hp hl
 unfold V0;rw [D6 (by simp [VS.argsOk])];unfold a8c;walk_at "ev";rw [kI];walk_at "ev";rcases a0J (enc:=prE) (set:=a6q 3 4) (xs:=qs) (g:=(sIf (tB (e2 dEq (a7 3) (a7 2))) (l6 (a7 4)) u3)) (ρ:=[.list (m.map rwD),iD p,iD as,.none,.none])
   (fun pre ρ=>(∀q∈pre,q.1≠as)∧∃x y,ρ=[.list (m.map rwD),iD p,iD as,x,y])
   (fun d=>∃q∈qs,q.1=as∧d=iD q.2) ⟨fun q hq=>(nomatch hq),_,_,rfl⟩ (by
    rintro pre q post e ρ ⟨jM,x,y,rfl⟩;refine⟨_,rfl,?_⟩;show (∃ρ2,(sIf (tB (e2 dEq (a7 3) (a7 2))) (l6 (a7 4)) u3) [.list (m.map rwD),iD p,iD as,iD q.1,iD q.2]=some (.nx ρ2)∧_)∨∃d,(sIf (tB (e2 dEq (a7 3) (a7 2))) (l6 (a7 4)) u3) [.list (m.map rwD),iD p,iD as,iD q.1,iD q.2]=some (.rt d)∧_;have ht:((tB (e2 dEq (a7 3) (a7 2)))) [.list (m.map rwD),iD p,iD as,iD q.1,iD q.2]=some (decide (q.1=as)):=by
     rw [b7a,v_2,v_var,v_var];show lB (dEq (.list (q.1.map .int)) (.list (as.map .int)))=_;rw [b7B];rfl
    rw [b0q,ht];by_cases c:q.1=as
    ·refine .inr ⟨iD q.2,by rw [aO c];rfl,q,by rw [e];simp,c,rfl⟩
    ·refine .inl ⟨_,by rw [bj c];exact rfl,fun q' nK=>?_,_,_,rfl⟩;rcases aw.mp nK with z|z
     ·exact jM q' z
     ·rw [ar.mp z];exact c) with⟨ρ',h1,h2,x,y,rfl⟩|⟨d,h1,q,hq,h2,rfl⟩
 ·rw [h1];walk_at "ev";have lZ:as∉(C1 (fun s=>b8 m s p) ((aG m.length).map fun (s:Nat)=>(s:Int))).map (·.1):=fun z=>by
   have z2:=(q9 ((C1 (fun s=>b8 m s p) ((aG m.length).map fun (s:Nat)=>(s:Int))).map (·.1))).mem_iff.mpr z;rw [←P5,←vz] at z2;obtain⟨q,hq,e⟩:=aK.mp z2;exact h2 q hq e
  rw [a9z lZ];rfl
 ·rw [h1];walk_at "ev";rw [vz] at hq;unfold n5 at hq;obtain⟨a,_,rfl⟩:=aK.mp hq;have lr:a=as:=h2;rw [lr]
def Tells(m:j5)(p:List Int):Prop:=∀s t:Int,0≤s→s < m.length→0≤t→t < m.length→(b8 m s p).1=(b8 m t p).1→lv m m.length (b8 m s p).2=lv m m.length (b8 m t p).2
theorem tells_eq{m:j5}{k:Nat}(w:WF m k){p:List Int}(hp:∀x∈p,0≤x∧x < (k:Int))(hl:p.length≤13000):∃b:Bool,A2 [.list (m.map rwD),iD p]=some (.bool b)∧(b=true↔Tells m p):=by
 obtain⟨D0,vK,rz,_,hD⟩:=a3u w;have hn:=w.le;have sO:=P4 m D0;have qZ:∀s:Int,s∈(aG m.length).map (fun (s:Nat)=>(s:Int))↔0≤s∧s < (m.length:Int):=fun s=>by
  rw [aK]
  constructor
  ·rintro⟨j,hj,rfl⟩;have:=bx.mp hj;exact⟨by lia,by lia⟩
  ·rintro⟨a,b⟩;exact⟨s.toNat,bx.mpr (by lia),by lia⟩
 obtain⟨ss,vt⟩:∃ss:List Int,ss=(aG m.length).map (fun (s:Nat)=>(s:Int)):=⟨_,rfl⟩;rw [←vt] at qZ;have kI:=a4A w hp hl;rw [←vt] at kI;have ko:∀g∈(n5 (fun s=>b8 m s p) ss).map (·.2),∀e∈g,0≤e∧e < (m.length:Int):=fun g hg e he=>by
  obtain⟨q,hq,rfl⟩:=aK.mp hg;obtain⟨s,hs,hw⟩:=((y7 hq).2 e).mp he;have b:=(qZ s).mp hs;have:=l4 w p s b.1 b.2 hp;rw [show (b8 m s p).2=e from by rw [show b8 m s p=_ from hw]] at this;exact this
 obtain⟨r,e,n0,s0⟩:=T9 (gs:=(n5 (fun s=>b8 m s p) ss).map (·.2)) (ls:=lvl m D0) fun g hg s hs=>by rw [sO];exact ko g hg s hs
 have sX:=a0I (fun s=>b8 m s p) ss;have pJ:ss.length=m.length:=by rw [vt,ae,bz]
 have tq:(m8 (iL (eCl L4 (a8 (a7 0) (a8 (a7 1) e7)))) [] pt2 tT (a7 1)) [.list (m.map rwD),iD p,.none]=some (.list (((n5 (fun s=>b8 m s p) ss).map (·.2)).map iD)):=by
  rw [V2 (enc:=fun q:List Int × List Int=>.tuple [iD q.1,iD q.2]) (xs:=n5 (fun s=>b8 m s p) ss) (fun q=>iD q.2) (by walk_at "ev";rw [kI];rfl) (by lia) (fun q _=>⟨_,rfl,rfl⟩),bp];rfl
 have hm:A2 [.list (m.map rwD),iD p]=some (.bool (isN (prO r))):=by
  unfold A2;rw [D6 (by simp [VS.argsOk])];unfold a0Z;rw [V8,a0Q];show a2D (thn (b0l 2 ((m8 (iL (eCl L4 (a8 (a7 0) (a8 (a7 1) e7)))) [] pt2 tT (a7 1)) [.list (m.map rwD),iD p,.none]) [.list (m.map rwD),iD p,.none]) _)=_;rw [tq];walk_at "ev";rw [vK];walk_at "ev";rw [a0d (f:=fun d=>iD (lvl m d))];walk_at "ev";rw [e];walk_at "ev";cases isN (prO r) <;> rfl
 refine⟨isN (prO r),hm,?_⟩;cases r with
 | none=>
  refine⟨fun _ s t a b c d h=>?_,fun _=>rfl⟩;have z:=n0 rfl;obtain⟨q,hq,q1,q2⟩:=T8 (f:=fun s=>b8 m s p) ((qZ s).mpr ⟨a,b⟩);have h2:(b8 m t p).2∈q.2:=((y7 hq).2 _).mpr ⟨t,(qZ t).mpr ⟨c,d⟩,by show b8 m t p=_;rw [q1];show _=((b8 m s p).1,_);rw [h]⟩;have e1:=l4 w p s a b hp;have tI:=l4 w p t c d hp;exact a7f w hD m.length _ _ e1.1 e1.2 tI.1 tI.2 (z q.2 (bK (f:=(·.2)) hq) _ q2 _ h2)
 | some pr=>
  refine⟨fun z=>(nomatch z),fun z=>?_⟩;obtain⟨g,hg,g1,g2,fA⟩:=s0 pr rfl;obtain⟨q,hq,rfl⟩:=aK.mp hg;obtain⟨s,hs,es⟩:=((y7 hq).2 _).mp g1;obtain⟨t,ht,et⟩:=((y7 hq).2 _).mp g2;have bs:=(qZ s).mp hs;have bt:=(qZ t).mp ht;have es':b8 m s p=(q.1,pr.1):=es;have yp:b8 m t p=(q.1,pr.2):=et;have h:=z s t bs.1 bs.2 bt.1 bt.2 (by rw [es',yp]);have e1:=l4 w p s bs.1 bs.2 hp;have tI:=l4 w p t bt.1 bt.2 hp;have h':=b7P w e1.1 e1.2 tI.1 tI.2 (show D0≤m.length by lia) h;rw [es',yp] at h';exact absurd h' fA
theorem b1Z(ns:List Int){m:j5}{k:Nat}(w:WF m k):∃p:List Int,m_law_probe [.list (ns.map .int),.list (m.map rwD)]=some (iD p)∧p.length≤500∧∀x∈p,0≤x∧x < (k:Int):=by
 have hk:=w.k1;have zT:=w.pos;have hn:=w.le;unfold m_law_probe;rw [D6 (by simp [VS.argsOk])];unfold b_law_probe;walk_at "evm";obtain⟨xs,qt,xr,t_⟩:=a0h ns 5 (by lia);have vf:m_law_cells [.list (ns.map .int),.int 5]=some (.list (xs.map .int)):=qt;rw [vf];walk_at "evm";rw [b6k];walk_at "evm";have x3:0≤xs.getD (3:Int).toNat 0:=a1s t_ _;have x4:0≤xs.getD (4:Int).toNat 0:=a1s t_ _;refine K0 (R:=fun o=>∃p:List Int,o=some (iD p)∧p.length≤500∧∀x∈p,0≤x∧x < (k:Int)) (fun ρ=>∃n:Nat,n≤500∧ρ=[.list (ns.map .int),.list (m.map rwD),.list (xs.map .int),.int n]) ?_ ?_
 ·cases decide (xs.getD (3:Int).toNat 0 % 3=1) with
  | true=>
   refine⟨_,(by walk_at "evm";exact rfl),(xs.getD (3:Int).toNat 0 / 3 % 7).toNat,by lia,?_⟩;rw [dt (by lia)]
  | false=>
   refine⟨_,(by walk_at "evm";exact rfl),(min (ns.length:Int) 63).toNat,by lia,?_⟩;rw [dt (by lia)]
 rintro ρ ⟨n0,Ad,rfl⟩;walk_at "evm";have q0:0≤500 / (m.length:Int):=Int.ediv_nonneg (by decide) (by lia);have q1:500 / (m.length:Int)≤500:=Int.ediv_le_self _ (by decide);refine K0 (R:=fun o=>∃p:List Int,o=some (iD p)∧p.length≤500∧∀x∈p,0≤x∧x < (k:Int)) (fun ρ=>∃n:Nat,n≤500∧ρ=[.list (ns.map .int),.list (m.map rwD),.list (xs.map .int),.int n]) ?_ ?_
 ·cases decide (xs.getD (4:Int).toNat 0 % 64=9) with
  | true=>
   have g0:=cG (xs.getD (4:Int).toNat 0 / 64) (show 1 + 500 / (m.length:Int)≠0 by lia);have g1:=cL (xs.getD (4:Int).toNat 0 / 64) (show 0 < 1 + 500 / (m.length:Int) by lia);refine⟨_,(by walk_at "evm";exact rfl),(xs.getD (4:Int).toNat 0 / 64 % (1 + 500 / (m.length:Int))).toNat,by lia,?_⟩;rw [dt (by lia)]
  | false=>
   exact⟨_,(by walk_at "evm"),n0,Ad,rfl⟩
 rintro ρ ⟨n,Ac,rfl⟩;walk_at "evm";obtain⟨ys,zE,B_,BS⟩:=a0h ns n (by lia);rw [zE];walk_at "evm";rw [a4m (n:=(n:Int)) (fun j=>.int ((ys.getD j 0 * 16807 + (j:Int) * j * 48271) % 1000003 % k)) (by walk_at "evm") (by lia) (by lia) (by
  intro j hj;show e2 p8 _ _ [.int j,.list (m.map rwD),.list (ys.map .int)]=_;walk_at "evm";rw [a4o (by lia) (by lia)];walk_at "evm";rw [w.row (by lia) (by lia)];walk_at "evm";rw [aZ])]
 walk_at "evm";refine⟨(aG (n:Int).toNat).map fun (j:Nat)=>(ys.getD j 0 * 16807 + (j:Int) * j * 48271) % 1000003 % k,by unfold iD;rw [bp];rfl,by rw [ae,bz];lia,fun x hx=>?_⟩;obtain⟨j,_,rfl⟩:=aK.mp hx;exact⟨cG _ (by lia),cL _ (by lia)⟩
end Prog
namespace Prog
open PySem L2 VS
def HS(m:j5)(p as:List Int):List Int:=a0e ((N2 (C1 (fun s=>b8 m s p) ((aG m.length).map fun (s:Nat)=>(s:Int))) as).getD [])
theorem b3L{a b:Int}(h:leL [a] [b]):a≤b:=by
 unfold leL C0 at h;by_cases c:b < a
 ·simp [c] at h
  lia
 ·lia
theorem b3M(es:List Int):(a0e es).Pairwise (·≤·):=by
 have h:=K8 (es.map fun e=>[e]);rw [a3x,iZ] at h;exact h.imp b3L
theorem b3N{es:List Int}(h:es.Nodup):(a0e es).Pairwise (· < ·):=by
 have h1:=b3M es;have h2:(a0e es).Nodup:=(N3 es).nodup_iff.mpr h;exact (h1.and h2).imp fun⟨a,b⟩=>by lia
theorem a7p{m:j5}{s:Int}:s∈((aG m.length).map fun (s:Nat)=>(s:Int))↔0≤s∧s < (m.length:Int):=by
 rw [aK]
 constructor
 ·rintro⟨j,hj,rfl⟩;have:=bx.mp hj;exact⟨by lia,by lia⟩
 ·rintro⟨a,b⟩;exact⟨s.toNat,bx.mpr (by lia),by lia⟩
theorem b4h{m:j5}{p:List Int}{s:Int}(h0:0≤s)(h1:s < m.length):(HS m p (b8 m s p).1).Pairwise (· < ·)∧(∀e,e∈HS m p (b8 m s p).1↔∃t,0≤t∧t < (m.length:Int)∧b8 m t p=((b8 m s p).1,e))∧(HS m p (b8 m s p).1).length≤m.length:=by
 have ok:=J3 (fun s=>b8 m s p) ((aG m.length).map fun (s:Nat)=>(s:Int));obtain⟨es,e1,e2⟩:=T7 ((ok.keys (b8 m s p).1).mpr ⟨s,a7p.mpr ⟨h0,h1⟩,rfl⟩);unfold HS;rw [e1];refine⟨b3N (ok.nd2 _ e2),fun e=>?_,?_⟩
 ·rw [(N3 _).mem_iff,gS,ok.mem _ e2 e]
  constructor
  ·rintro⟨t,ht,x⟩;have:=a7p.mp ht;exact⟨t,this.1,this.2,x⟩
  ·rintro⟨t,t0,t1,x⟩;exact⟨t,a7p.mpr ⟨t0,t1⟩,x⟩
 ·rw [(N3 _).length_eq,gS];have:=ok.len2 _ e2;rw [ae,bz] at this;exact this
theorem a3B{xs:List Int}{n:Nat}(ko:∀x∈xs,0≤x∧x < (n:Int))(pH:xs.Pairwise (· < ·))(hl:xs.length≤1000):m_law_states [.list (xs.map .int),.int n]=some (.bool true):=by
 unfold m_law_states;rw [D6 (by simp [VS.argsOk,imm])];unfold b_law_states;walk_at "ev";rw [a4V (n:=xs.length) (by walk_at "ev") (by lia) (by lia),aZ];walk_at "ev";refine E9 (fun ρ=>∃x:D,ρ=[.list (xs.map .int),.int n,x]) ?_ ?_
 ·obtain⟨ρ',h2,x,rfl⟩:=E5 (n:=xs.length) (set:=u5 2) (g:=(f7 (sIf (a2C (tNo (tV (eCl m_law_whole (a8 (e2 dIx (a7 0) (a7 2)) e7)))) (tNo (tB (eCh dLe dLt (eC (.int 0)) (e2 dIx (a7 0) (a7 2)) (a7 1))))) (l6 (eC (.bool false))) u3) (sIf (tAn (tB (e2 dGt (a7 2) (eC (.int 0)))) (tB (e2 dGe (e2 dIx (a7 0) (e2 a1A (a7 2) (eC (.int 1)))) (e2 dIx (a7 0) (a7 2))))) (l6 (eC (.bool false))) u3))) (ρ:=[.list (xs.map .int),.int n,.none])
   (fun j ρ=>∃x:D,ρ=[.list (xs.map .int),.int n,x]) ⟨_,rfl⟩ (by
    rintro j hj ρ ⟨x,rfl⟩;have hx:=ko _ (a3r (l:=xs) (i:=j) (by lia));refine⟨_,[.list (xs.map .int),.int n,.int j],rfl,?_,_,rfl⟩;walk_at "evm";rw [aZ,a3A];walk_at "evm";rw [aZ,aO hx.1,b1i];walk_at "evm";rw [aO hx.2];walk_at "evm";by_cases c:0 < j
    ·have lt:xs.getD ((j:Int) - 1).toNat 0 < xs.getD ((j:Int)).toNat 0:=by
      rw [show ((j:Int) - 1).toNat=j - 1 by lia,aZ,ai,ai,af (show j - 1 < xs.length by lia),af hj];exact iV.mp pH (j - 1) j (by lia) hj (by lia)
     rw [aO (show (0:Int) < j by lia)];walk_at "evm";rw [bj (by lia)];walk_at "evm"
    ·rw [bj (show ¬ (0:Int) < j by lia)];walk_at "evm")
  exact⟨_,h2,_,rfl⟩
 ·rintro ρ ⟨x,rfl⟩;walk_at "ev"
def wkD(m:j5)(p:List Int)(s:Int):D:=.tuple [p7 (b8 m s p).1,.int (b8 m s p).2]
theorem b2a(a:List Int)(e:Int):(nZ [p7 a,.int e]).canLay0=true:=by
 simp only [cn,aL,p7,gX];exact J2 _ (fun x=>by simp only [cn]) a
theorem a7q(a:List Int)(e:Int):(nZ [p7 a,.int e]).depth≤60:=by
 have h:=X8 a;simp only [dA,cU] at h ⊢;lia
theorem b6m{xs:List D}{x:D}(h:x∈xs)(hl:∀y∈xs,y.canLay0=true)(hd:x.depth≤60):a2E true x (.list xs)=some (.bool false):=by
 have la:aL xs=true:=by
  clear h
  induction xs with
  | nil=>simp only [aL]
  | cons y xs ih=>simp only [aL,aA];exact⟨hl y aq,ih fun z hz=>hl z (ah _ hz)⟩
 show (if (aL xs && x.canLay0 && decide (x.depth≤60))=true then _ else none)=_;rw [la,hl x h,aO hd];have:(xs.any fun d=>aI d x)=true:=gU.mpr ⟨x,h,eqv_refl x (hl x h)⟩;show some (cw (true != xs.any fun d=>aI d x))=_;rw [this];rfl
theorem a1t(a:List Int):a5C (some (p7 a))=some (.list (a.map .int)):=rfl
theorem a5Y{m:j5}{k:Nat}(w:WF m k){p:List Int}(hp:∀x∈p,0≤x∧x < (k:Int))(hl:p.length≤13000)(as:List Int):V0 [.list (m.map rwD),.list (p.map .int),.list (as.map .int)]=some (.list ((HS m p as).map .int)):=b1Y w hp hl as
theorem b2b{neg:Bool}{e:Int}{es:List Int}(h:e∈es):a2E neg (.int e) (.list (es.map .int))=some (.bool (neg != true)):=by
 have:=b7U (neg:=neg) (e:=e) (es:=es);rw [aO h] at this;exact this
theorem a5Z{m:j5}{k:Nat}(w:WF m k){p r:List Int}{s:Int}(h0:0≤s)(h1:s < m.length)(hp:∀x∈p,0≤x∧x < (k:Int))(hr:∀x∈r,0≤x∧x < (k:Int))(gG:p.length≤1000)(Cf:r.length≤500)
  (uk:∀s t:Int,0≤s→s < m.length→0≤t→t < m.length→(b8 m s p).1=(b8 m t p).1→(b8 m (b8 m s p).2 r).1=(b8 m (b8 m t p).2 r).1):m_law_foretold [.list (m.map rwD),.list (m.map rwD),.list (p.map .int),.list (r.map .int),.int s]=some (.bool true):=by
 have hn:=w.le;have he:=l4 w p s h0 h1 hp;unfold m_law_foretold;rw [D6 (by simp [VS.argsOk,imm])];unfold b_law_foretold;walk_at "ev";rw [show m_law_walked [.list (m.map rwD),.int s,.list (p.map .int)]=_ from K3 w h0 h1 hp (by lia)];walk_at "ev";obtain⟨q_,qz,Ce⟩:=b4h (m:=m) (p:=p) h0 h1;have ko:∀e∈HS m p (b8 m s p).1,0≤e∧e < (m.length:Int):=fun e he=>by
  obtain⟨t,t0,t1,x⟩:=(qz e).mp he;have:=l4 w p t t0 t1 hp;rw [x] at this;exact this
 rw [y8,a1t,y8];walk_at "ev";rw [a5Y w hp (by lia)];walk_at "ev";rw [a3B ko q_ (by lia)];walk_at "ev";rw [b2b ((qz _).mpr ⟨s,h0,h1,rfl⟩)];walk_at "ev";rw [show m_law_walked [.list (m.map rwD),.int (b8 m s p).2,.list (r.map .int)]=_ from K3 w he.1 he.2 hr (by lia)];walk_at "ev";rw [a4m (n:=(m.length:Int)) (fun j=>wkD m p j) (by walk_at "ev") (by lia) (by lia) (by
  intro j hj;show eCl m_law_walked _ [.int j,.list (m.map rwD),.list (p.map .int)]=_;walk_at "ev";exact K3 w (by lia) (by lia) hp (by lia)),aZ]
 walk_at "ev";rw [a2d (ds:=(HS m p (b8 m s p).1).map .int) (by walk_at "ev") (n6 _)];walk_at "ev";refine E9 (fun ρ=>∃x:D,ρ=[.list (m.map rwD),.list (m.map rwD),.list (p.map .int),.list (r.map .int),.int s,p7 (b8 m s p).1,.int (b8 m s p).2,.list ((HS m p (b8 m s p).1).map .int),p7 (b8 m (b8 m s p).2 r).1,.int (b8 m (b8 m s p).2 r).2,.list ((aG m.length).map fun (j:Nat)=>wkD m p j),x]) ?_ ?_
 ·obtain⟨ρ',h2,x,rfl⟩:=C9 (enc:=aU) (set:=u5 11) (xs:=HS m p (b8 m s p).1) (ρ:=[.list (m.map rwD),.list (m.map rwD),.list (p.map .int),.list (r.map .int),.int s,p7 (b8 m s p).1,.int (b8 m s p).2,.list ((HS m p (b8 m s p).1).map .int),p7 (b8 m (b8 m s p).2 r).1,.int (b8 m (b8 m s p).2 r).2,.list ((aG m.length).map fun (j:Nat)=>wkD m p j),.none]) (g:=(sIf (a2C (tB (e2 (a2E true) (F6 (a8 (a7 5) (a8 (a7 11) e7))) (a7 10))) (tB (e2 dNe (e2 i8 (eCl m_law_walked (a8 (a7 0) (a8 (a7 11) (a8 (a7 3) e7)))) (eC (.int 0))) (a7 8)))) (l6 (eC (.bool false))) u3))
   (fun pre ρ=>∃x:D,ρ=[.list (m.map rwD),.list (m.map rwD),.list (p.map .int),.list (r.map .int),.int s,p7 (b8 m s p).1,.int (b8 m s p).2,.list ((HS m p (b8 m s p).1).map .int),p7 (b8 m (b8 m s p).2 r).1,.int (b8 m (b8 m s p).2 r).2,.list ((aG m.length).map fun (j:Nat)=>wkD m p j),x]) ⟨_,rfl⟩ (by
    rintro pre e post ee ρ ⟨x,rfl⟩;have hm:e∈HS m p (b8 m s p).1:=by rw [ee];simp
    obtain⟨t,t0,t1,tw⟩:=(qz e).mp hm;have hb:=ko e hm;have zJ:(b8 m e r).1=(b8 m (b8 m s p).2 r).1:=by
     have:=uk t s t0 t1 h0 h1 (by rw [tw]);rw [tw] at this;exact this
    refine⟨_,[.list (m.map rwD),.list (m.map rwD),.list (p.map .int),.list (r.map .int),.int s,p7 (b8 m s p).1,.int (b8 m s p).2,.list ((HS m p (b8 m s p).1).map .int),p7 (b8 m (b8 m s p).2 r).1,.int (b8 m (b8 m s p).2 r).2,.list ((aG m.length).map fun (j:Nat)=>wkD m p j),.int e],rfl,?_,_,rfl⟩;walk_at "ev";rw [b6m (aK.mpr ⟨t.toNat,bx.mpr (by lia),by unfold wkD;rw [dt t0,tw]⟩) (fun y hy=>by obtain⟨j,_,rfl⟩:=aK.mp hy;exact b2a _ _) (a7q _ _)];walk_at "ev";rw [show m_law_walked [.list (m.map rwD),.int e,.list (r.map .int)]=_ from K3 w hb.1 hb.2 hr (by lia)];walk_at "ev";rw [a4U (a0f _),zJ,b2S,b7A (L8 _ (V3 _)) (bI (X8 _) (by decide))];walk_at "ev")
  exact⟨_,h2,_,rfl⟩
 ·rintro ρ ⟨x,rfl⟩;have pK:∀x∈p ++ r,0≤x∧x < (k:Int):=fun x hx=>by
   rcases aw.mp hx with z|z
   ·exact hp x z
   ·exact hr x z
  have wa:=A4 m p r s;obtain⟨wC,uv,ym⟩:=b4h (m:=m) (p:=p ++ r) h0 h1;rw [wa] at wC uv ym
  dsimp only at wC uv ym
  have Bc:∀e∈HS m (p ++ r) ((b8 m s p).1 ++ (b8 m (b8 m s p).2 r).1),0≤e∧e < (m.length:Int):=fun e he=>by
   obtain⟨t,t0,t1,x⟩:=(uv e).mp he;have:=l4 w (p ++ r) t t0 t1 pK;rw [x] at this;exact this
  walk_at "ev";rw [a5E,a5E];walk_at "ev";rw [a1t,a1t,y8,y8,a7b (by simp;lia),a7b (by rw [ae,ae,v9,v9];lia),←aR,←aR,y8,y8];walk_at "ev";rw [a5Y w pK (by rw [aM];lia)];walk_at "ev";rw [a3B Bc wC (by lia)];walk_at "ev";rw [b2b ((uv _).mpr ⟨s,h0,h1,wa⟩)];rfl
end Prog
local macro_rules | `(tactic| walk_at "evt")=>`(tactic| first | (walk_at "ev";repeat (simp -implicitDefEqProofs (disch:=first | omega | assumption | decide) only [VS.a5E,VS.b3u,VS.a8a,VS.a8b,VS.b3v,VS.y8];try walk_at "ev")) | (simp -implicitDefEqProofs (disch:=first | omega | assumption | decide) only [VS.a5E,VS.b3u,VS.a8a,VS.a8b,VS.b3v,VS.y8];repeat (first | walk_at "ev" | simp -implicitDefEqProofs (disch:=first | omega | assumption | decide) only [VS.a5E,VS.b3u,VS.a8a,VS.a8b,VS.b3v,VS.y8])))
namespace VS
open PySem L2
theorem Y0:∀(ks ms:List (List Int)),ms.Nodup→(J1 ms ks).Nodup
 | [],ms,h=>by rw [J1];exact h
 | k :: ks,ms,h=>by
  rw [J1];refine Y0 ks _ ?_;by_cases c:k∈ms
  ·rw [aE c];exact h
  ·rw [aJ c];rw [bG];exact⟨h,(by simp),fun a ha b hb e=>c (by rw [ar] at hb;rw [←hb,←e];exact ha)⟩
theorem a7r{a b:List (List Int)}(h:a.Perm b):K6 a=K6 b:=a0z ((q9 a).trans h) (K8 a)
end VS
namespace Prog
open PySem L2 VS
theorem a7s{a:EvE}{ρ:List D}{as:List (List Int)}(h:a ρ=some (.list (as.map p7)))(hl:as.length≤16)(fA:(J1 [] as).length < 2∨∀x∈as,x≠[]):M9 a ρ=some (.list ((K6 (J1 [] as)).map p7)):=by
 unfold M9;rw [h,bP];show (some (as.map p7)).bind _=_;rw [bP,X9,bP];rw [aE]
 ·rfl
 ·unfold b3q;rw [aO hl,pC];rcases fA with c|c
  ·rw [aO c];rfl
  ·rw [fq];refine .inr (dc.mpr fun x hx=>?_);have:=c x hx;cases x with
   | nil=>exact absurd rfl this
   | cons y ys=>rfl
theorem b3O{m:j5}{p:List Int}{ss:List Int}:(J1 [] (ss.map fun s=>(b8 m s p).1)).length < 2∨∀x∈ss.map (fun s=>(b8 m s p).1),x≠[]:=by
 by_cases c:p=[]
 ·refine .inl ?_;subst c;have jT:=Y0 (ss.map fun s=>(b8 m s []).1) [] bw;have dN:∀a∈J1 [] (ss.map fun s=>(b8 m s []).1),a=[]:=fun a ha=>by
   rcases (Z6 _ [] a).mp ha with z|z
   ·cases z
   ·obtain⟨s,_,rfl⟩:=aK.mp z;rfl
  generalize J1 [] (ss.map fun s=>(b8 m s []).1)=g at jT dN
  match g,jT,dN with
  | [],_,_=>simp
  | [_],_,_=>simp
  | a :: b :: l,jT,dN=>
   have e1:=dN a (by simp);have e2:=dN b (by simp);subst e1 e2;simp at jT
 ·refine .inr fun x hx e=>?_
  obtain⟨s,_,rfl⟩:=aK.mp hx;have:=v9 m p s;rw [e] at this;exact c (List.eq_nil_of_length_eq_zero this.symm)
theorem a9A{m:j5}{p:List Int}:K6 (J1 [] (((aG m.length).map fun (s:Nat)=>(s:Int)).map fun s=>(b8 m s p).1))=(n5 (fun s=>b8 m s p) ((aG m.length).map fun (s:Nat)=>(s:Int))).map (·.1):=by
 rw [P5];have ok:=J3 (fun s=>b8 m s p) ((aG m.length).map fun (s:Nat)=>(s:Int));refine a7r ((oh (Y0 _ [] bw) ok.nd).mpr fun a=>?_);rw [Z6,ok.keys]
 constructor
 ·rintro (z|z)
  ·cases z
  ·obtain⟨s,hs,rfl⟩:=aK.mp z;exact⟨s,hs,rfl⟩
 ·rintro⟨s,hs,rfl⟩;exact .inr (aK.mpr ⟨s,hs,rfl⟩)
theorem b3P(xs:List (List Int)):(eT (xs.map iD)).canLay0=true:=by
 simp only [cn];exact J2 _ (fun x=>by unfold iD;simp only [cn];exact J2 _ (fun y=>by simp only [cn]) x) xs
theorem a9B(xs:List (List Int)):(eT (xs.map iD)).depth≤60:=by
 simp only [dA];have:=E4 iD 1 a2f xs;lia
theorem a7t{m:j5}{k D0:Nat}(w:WF m k){p q:List Int}(hp:∀x∈p,0≤x∧x < (k:Int))(hq:∀x∈q,0≤x∧x < (k:Int))(hD:∀s t:Int,0≤s→s < m.length→0≤t→t < m.length→lv m D0 s=lv m D0 t→lv m (D0 + 1) s=lv m (D0 + 1) t)
  (oQ:∀s t:Int,0≤s→s < m.length→0≤t→t < m.length→(b8 m s p).1=(b8 m t p).1→lv m D0 (b8 m s p).2=lv m D0 (b8 m t p).2):Tells m (p ++ q):=by
 intro s t s0 s1 t0 t1 e;rw [A4,A4] at e ⊢;obtain⟨e1,_⟩:=ni e (by rw [v9,v9]);have a1:=l4 w p s s0 s1 hp;have a2:=l4 w p t t0 t1 hp;have h:=(P6 w hD q _ _ a1.1 a1.2 a2.1 a2.2 hq (oQ s t s0 s1 t0 t1 e1)).2;have b1:=l4 w q _ a1.1 a1.2 hq;have b2:=l4 w q _ a2.1 a2.2 hq;exact a7f w hD m.length _ _ b1.1 b1.2 b2.1 b2.2 h
theorem law_true(ns:List Int)(_:ns.length≤63):m_law [.list (ns.map .int)]=some (.bool true):=by
 unfold m_law;rw [D6 (by simp [VS.argsOk])];unfold b_law;walk_at "ev";obtain⟨m,k,hm,w,xR⟩:=a7o ns 6 12 (by lia) (by lia) (by lia) (by lia);have rd:m_law_machine [.list (ns.map .int),.int 6,.int 12]=some (.list (m.map rwD)):=hm;rw [rd];walk_at "ev";have hn:=w.le;have Ac:=w.pos;obtain⟨r,vy,sD,vx⟩:=b1Z ns w;rw [vy];walk_at "ev";rw [b6d (m:=m) rfl (by lia)];walk_at "ev";obtain⟨D0,p,hh,rz,iB,hlen,hD,oQ⟩:=b3J w;have ri:=a1q m D0;have xM:p.length≤29 * 29:=bI hlen (n_ (by lia) (by lia));rw [hh];unfold iD;walk_at "ev";have uk:∀s t:Int,0≤s→s < m.length→0≤t→t < m.length→(b8 m s p).1=(b8 m t p).1→(b8 m (b8 m s p).2 r).1=(b8 m (b8 m t p).2 r).1:=fun s t s0 s1 t0 t1 e=>by
  have a1:=l4 w p s s0 s1 iB;have a2:=l4 w p t t0 t1 iB;exact (P6 w hD r _ _ a1.1 a1.2 a2.1 a2.2 vx (oQ s t s0 s1 t0 t1 e)).1
 have vw:=w.row (s:=0) (by lia) (by lia);rw [a2d (ds:=p.map .int) (by walk_at "ev") (n6 p)];walk_at "ev";refine E9 (fun ρ=>∃x:D,ρ=[.list (ns.map .int),.list (m.map rwD),.list (r.map .int),.list (m.map rwD),.list (p.map .int),x,.none,.none,.none,.none]) ?_ ?_
 ·obtain⟨ρ',h2,x,rfl⟩:=C9 (enc:=aU) (set:=u5 5) (xs:=p) (ρ:=[.list (ns.map .int),.list (m.map rwD),.list (r.map .int),.list (m.map rwD),.list (p.map .int),.none,.none,.none,.none,.none]) (g:=(sIf (a2C (tNo (tV (eCl m_law_whole (a8 (a7 5) e7)))) (tNo (tB (eCh dLe dLt (eC (.int 0)) (a7 5) (eCl A8 (a8 (e2 dIx (a7 1) (eC (.int 0))) e7)))))) (l6 (eC (.bool false))) u3))
   (fun pre ρ=>∃x:D,ρ=[.list (ns.map .int),.list (m.map rwD),.list (r.map .int),.list (m.map rwD),.list (p.map .int),x,.none,.none,.none,.none]) ⟨_,rfl⟩ (by
    rintro pre e post ee ρ ⟨x,rfl⟩;have hb:=iB e (by rw [ee];simp);refine⟨_,[.list (ns.map .int),.list (m.map rwD),.list (r.map .int),.list (m.map rwD),.list (p.map .int),.int e,.none,.none,.none,.none],rfl,?_,_,rfl⟩;walk_at "ev";rw [a3A];walk_at "ev";rw [aO hb.1,b1i];walk_at "ev";rw [a4o (by lia) (by lia)];walk_at "ev";rw [vw,aO hb.2];walk_at "ev")
  exact⟨_,h2,_,rfl⟩
 rintro ρ ⟨x5,rfl⟩;walk_at "ev";rw [a4V (n:=m.length) (by walk_at "ev") (by lia) (by lia),aZ];walk_at "ev";refine E9 (fun ρ=>∃x:D,ρ=[.list (ns.map .int),.list (m.map rwD),.list (r.map .int),.list (m.map rwD),.list (p.map .int),x5,x,.none,.none,.none]) ?_ ?_
 ·obtain⟨ρ',h2,x,rfl⟩:=E5 (n:=m.length) (set:=u5 6) (ρ:=[.list (ns.map .int),.list (m.map rwD),.list (r.map .int),.list (m.map rwD),.list (p.map .int),x5,.none,.none,.none,.none]) (g:=(sIf (tNo (tV (eCl m_law_foretold (a8 (a7 1) (a8 (a7 3) (a8 (eI (J7 (a7 4))) (a8 (a7 2) (a8 (a7 6) e7)))))))) (l6 (eC (.bool false))) u3))
   (fun j ρ=>∃x:D,ρ=[.list (ns.map .int),.list (m.map rwD),.list (r.map .int),.list (m.map rwD),.list (p.map .int),x5,x,.none,.none,.none]) ⟨_,rfl⟩ (by
    rintro j hj ρ ⟨x,rfl⟩;refine⟨_,[.list (ns.map .int),.list (m.map rwD),.list (r.map .int),.list (m.map rwD),.list (p.map .int),x5,.int j,.none,.none,.none],rfl,?_,_,rfl⟩;walk_at "ev";rw [y8];walk_at "ev";rw [a5Z w (by lia) (by lia) iB vx (by lia) sD uk];walk_at "ev")
  exact⟨_,h2,_,rfl⟩
 rintro ρ ⟨x6,rfl⟩;walk_at "ev";rw [a2d (ds:=([0,(r.length:Int) / 2,r.length]:List Int).map .int) (by walk_at "ev") (n6 _)];walk_at "ev";refine E9 (fun ρ=>∃x:D,ρ=[.list (ns.map .int),.list (m.map rwD),.list (r.map .int),.list (m.map rwD),.list (p.map .int),x5,x6,x,.none,.none]) ?_ ?_
 ·obtain⟨ρ',h2,x,rfl⟩:=C9 (enc:=aU) (set:=u5 7) (xs:=[0,(r.length:Int) / 2,r.length]) (ρ:=[.list (ns.map .int),.list (m.map rwD),.list (r.map .int),.list (m.map rwD),.list (p.map .int),x5,x6,.none,.none,.none]) (g:=(sIf (tB (e2 (b2D true) (eCl A2 (a8 (a7 3) (a8 (eI (a6m (a7 4) (eI (eSl (a7 2) oNo (oSo (a7 7)))))) e7))) (eC (.bool true)))) (l6 (eC (.bool false))) u3))
   (fun pre ρ=>∃x:D,ρ=[.list (ns.map .int),.list (m.map rwD),.list (r.map .int),.list (m.map rwD),.list (p.map .int),x5,x6,x,.none,.none]) ⟨_,rfl⟩ (by
    rintro pre e post ee ρ ⟨x,rfl⟩;have he:0≤e:=by
     have:e∈[0,(r.length:Int) / 2,r.length]:=by rw [ee];simp
     simp at this
     lia
    refine⟨_,[.list (ns.map .int),.list (m.map rwD),.list (r.map .int),.list (m.map rwD),.list (p.map .int),x5,x6,.int e,.none,.none],rfl,?_,_,rfl⟩;have hq:∀x∈r.take e.toNat,0≤x∧x < (k:Int):=fun x hx=>vx x (List.mem_of_mem_take hx)
    have Cj:(r.take e.toNat).length≤500:=by rw [gT];lia
    obtain⟨b,t1,t2⟩:=tells_eq w (p:=p ++ r.take e.toNat) (fun x hx=>by
     rcases aw.mp hx with z|z
     ·exact iB x z
     ·exact hq x z) (by rw [aM];lia)
    have tb:b=true:=t2.mpr (a7t w iB hq hD oQ);subst tb;walk_at "evt";rw [b6l he];walk_at "evt";rw [a7b (by rw [ae,ae];lia),←aR,y8];walk_at "evt";rw [show A2 [.list (m.map rwD),.list ((p ++ r.take e.toNat).map .int)]=_ from t1];walk_at "evt")
  exact⟨_,h2,_,rfl⟩
 rintro ρ ⟨x7,rfl⟩;walk_at "ev";rw [a4m (n:=(m.length:Int)) (fun j=>p7 (b8 m j p).1) (by walk_at "ev") (by lia) (by lia) (by
  intro j hj;show e2 i8 _ _ [.int j,.list (m.map rwD),.list (p.map .int)]=_;walk_at "ev";rw [show m_law_walked [.list (m.map rwD),.int j,.list (p.map .int)]=_ from K3 w (by lia) (by lia) iB (by lia)];walk_at "ev";rw [a4U (a0f _)]),aZ]
 walk_at "ev";have kI:L4 [.list (m.map rwD),.list (p.map .int)]=some (.list ((n5 (fun s=>b8 m s p) ((aG m.length).map fun (s:Nat)=>(s:Int))).map prE)):=a4A w iB (by lia);have sX:=a0I (fun s=>b8 m s p) ((aG m.length).map fun (s:Nat)=>(s:Int));rw [ae,bz] at sX;rw [V2 (enc:=prE) (xs:=n5 (fun s=>b8 m s p) ((aG m.length).map fun (s:Nat)=>(s:Int))) (fun q=>iD q.1) (by walk_at "ev";rw [y8];walk_at "ev";rw [kI];rfl) (by lia) (fun q _=>⟨_,rfl,rfl⟩)];walk_at "ev";have has:∀ρ:List D,ρ.getD 8 .none=.list ((aG m.length).map fun (j:Nat)=>p7 (b8 m j p).1)→8 < ρ.length→M9 (a7 8) ρ=some (.list (((n5 (fun s=>b8 m s p) ((aG m.length).map fun (s:Nat)=>(s:Int))).map (·.1)).map p7)):=fun ρ e hl=>by
  rw [←a9A];refine a7s ?_ (by rw [ae,ae,bz];lia) b3O;rw [v_var,e]
  congr 2;rw [bp,bp];rfl
 rw [V2 (enc:=p7) (xs:=(n5 (fun s=>b8 m s p) ((aG m.length).map fun (s:Nat)=>(s:Int))).map (·.1)) (fun a=>iD a) (a2d (by unfold iL;rw [has _ rfl (by simp)];rfl) (E3 _ a0f _)) (by rw [ae];lia) (fun a _=>⟨_,rfl,by walk_at "ev";rw [a1t,y8]⟩)];rw [b2S,show (eT ((n5 (fun s=>b8 m s p) ((aG m.length).map fun (s:Nat)=>(s:Int))).map fun q=>iD q.1))=.list (((n5 (fun s=>b8 m s p) ((aG m.length).map fun (s:Nat)=>(s:Int))).map (·.1)).map iD) by rw [bp];rfl];rw [b4e (b3P _) (a9B _)];walk_at "ev";rw [b4e (b1s m) (a7d m)];rfl
end Prog
namespace Prog
open PySem L2 VS
theorem b6n{l:mV}{w:bU}{K:ag}{mg:bM→Option aj}{fa:az}(vW:mg "law"=some (.ref fa))(b:Bn K mg)
  : ∃fd:dC,(∀(s:au) (v:aj),lR s fd ⟨[v],[]⟩ [("_law_script",v)])∧∀base:cm,K.In base→base.Ns cC mg→FnOk l.prog w K mg base CX0 8 fa fd ["_law_script"] (spD K 1 m_law .i):=b5V vW b.d28 fun base KB GB fd F=>by
 have B:Bk l.prog w K mg base:=⟨b⟩;have gR:=ok_law_cell_at B;have eu:=ok_law_cells B gR.u;have h_:=ok_law_copied B;have ia:=ok_law_answer B;have gQ:=ok_law_machine B eu.u h_.u ia.u;have iF:=ok_law_probe B eu.u;have eB:=a2F B;have f_:=a2j B eB.u;have fB:=a4q B f_.u;have dO:=a2k B;have gi:=a0C B;have gy:=a1e B eB.u gi.u;have ka:=a9o B;have fD:=a4r B ka.u;have kc:=a9p B fD.u;have mh:=b3z B fB.u dO.u gy.u kc.u;have dD:=ok_law_walked B;have ja:=a5K B;have jc:=a5L B ja.u;have jb:=a5M B jc.u;have jw:=a7e B;have hZ:=a2G B jb.u jw.u;have ib:=b3A B fD.u hZ.u;have jU:=b1x B ib.u;have fC:=ok_law_whole B;have gq:=ok_law_states B fC.u;have gx:=ok_law_foretold B dD.u jU.u gq.u;have iE:=a4u B fB.u dO.u ib.u;exact ok_law B gQ.u iF.u mh.u dD.u ib.u fC.u gx.u iE.u F
end Prog
namespace PySem.W.Fast
def tw12517681203890685158:=0
def tw3742156868341212035:=0
def tw3375528001653091004:=0
def tw7756715249544075548:=0
def tw1353994405505898976:=0
def tw7485630439219170859:=0
def tw8226688259305260144:=0
def tw13293708644223723542:=0
def tw13495447240900869710:=0
def tw12156058435555684135:=0
def tw14289977125050526609:=0
def tw13514820587002983226:=0
def tw12422699840147691676:=0
def tw4741324320930230123:=0
def tw2651270323488140508:=0
def tw18228022233857053296:=0
def tw10658432333173907099:=0
def tw6540861235875673844:=0
def tw12876456791721585787:=0
def tw9829697066777611207:=0
def tw5904725224895144749:=0
def tw14929588529815113950:=0
def tw12513543611351766440:=0
def tw1681428818078093328:=0
def tw5789409678089535322:=0
def tw1259368310710255024:=0
def tw8998809746029264364:=0
def tw2627134521936501060:=0
def tw7166616804888849354:=0
def tw7281689956819476218:=0
def tw14590715822265929394:=0
def tw15504987186689937193:=0
def tw5549858652316613689:=0
def tw6725456369577456644:=0
def tw6163676941709997019:=0
def tw1791256122998550523:=0
def tw1353143414680640375:=0
def tw12696318229687359617:=0
def tw3575578013520707872:=0
def tw3435626582599424993:=0
def tw8327139662275163746:=0
def tw3730981449729261142:=0
def tw16330555431047949046:=0
def tw8530247918561202617:=0
def tw7555437808972561889:=0
def tw4339844542688575463:=0
def tw13690293847166195164:=0
def tw1805775279168161036:=0
def tw6043019004262180275:=0
def tw16012888689374775340:=0
def tw1423512687937274297:=0
def tw8100593024408449917:=0
def tw14271145621054439851:=0
def tw17266052282653676540:=0
def tw3635877131753381092:=0
def tw1318206218659077213:=0
def tw14300235386187345481:=0
def tw10833260482157758031:=0
def tw15530074772056669062:=0
def tw5311462745107968866:=0
def tw2817473931687013429:=0
def tw4564731198067252872:=0
def tw12716239084595725312:=0
def tw12751470249369058760:=0
def tw3252925547235837609:=0
def tw4180369103338063111:=0
def tw6080112088685504291:=0
def tw15011143855934516743:=0
def tw9641355921797489310:=0
def tw17808772750164987301:=0
def tw17710883957833548302:=0
def tw507106720602335169:=0
def tw10856065106175921429:=0
def tw17162866668314205608:=0
def tw16913144041225100584:=0
def tw2260489231830782801:=0
def tw10286725763831556381:=0
def tw3873297767081932426:=0
def tw15186745129756593404:=0
def tw15243752181490236378:=0
def tw5513861786133883815:=0
def tw6900972400334915095:=0
def tw5427957406308834432:=0
def tw14780472420070933316:=0
def tw3298929797524058567:=0
def tw13467358640863468485:=0
def tw10229986326972974391:=0
def tw1406232238444108333:=0
def tw7589498782077250529:=0
def tw745506574143372709:=0
def tw11528409136999433664:=0
def tw1073701924859471485:=0
def tw11224880113497417593:=0
def tw17070677955221496015:=0
def tw3566539674160055317:=0
def tw10302211935939691179:=0
def tw11403104217839320511:=0
def tw5691712355290996216:=0
def tw4301929688831976605:=0
end PySem.W.Fast
open PySem PySem.W PyProof.Rows
set_option maxRecDepth 100000 in
set_option maxHeartbeats 0 in
theorem PySem.Challenge.cw_probewell_k27_whole_home_foretells_holds : PySem.Challenge.rw_probewell_k27_whole_home_foretells.Holds := by
 w_on;o_law;k_head;(case hw=>w_witness2)
 k_fill
 refine VS.a8J (k:=8) (x:="_law_script") (m:=Prog.m_law) (l:=PySem.Challenge.rw_probewell_k27_whole_home_foretells) rfl rfl ⟨rfl,by decide,by decide⟩ (fun w h Y=>by first|exact PySem.W.kIn_of Y|exact PySem.W.km_in_of Y) (fun w=>by kernel_rfl) ?F Prog.law_true
 case F=>
  intro w mg fa h KX G hmg
  refine' Prog.b6n hmg ?b
  case b=>
   constructor
   iterate 29 (refine' VS.b7r KX G ?a ?l ?c ?k;(case a=>k_is);(case l=>k_is);(case c=>k_is);(case k=>k_is))
   iterate 13 (refine' PySem.W.mg_none_of KX G ?_;k_is)
   iterate 1 (refine' VS.b8G KX G ?a;(case a=>k_is))
