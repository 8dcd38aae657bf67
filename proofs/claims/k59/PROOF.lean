import PyProof.Rows.All
import Wide.All
import OpenK.AllK
import Wide.FinOn
import Lean
import PyProof.EqAt
import PyProof.EqKinds
import PyProof.TupleCall
import KE.KLam
import PyProof.WalksEnum
import PyProof.EnumMake
import PyProof.Rows.SortWalk
import PyProof.Rows.SetFrom
import PyProof.SetRoads
import PyProof.DictTable
import PyProof.ListRange
import PyProof.DictWalks
import PyProof.DictUpdate
import KE.KSortTup
import KE.KDictSum
import KE.KSortKey
import PySem.Challenge.RW_probewell_k59_one_book
set_option Elab.async false
set_option linter.all false
set_option maxRecDepth 100000
set_option compiler.extract_closed false
set_option bootstrap.genMatcherCode false
noncomputable section
open Option renaming some→cz,none→xn
open List renaming getD_eq_getElem?_getD→ab,getElem?_eq_getElem→ae,mem_append_right→ah,length_map→ai,mem_append_left→ak,range→ao,mem_singleton→aq,mem_append→ar,mem_cons_of_mem→aw,map_cons→ay,length_append→aA,replicate→aG,mem_cons→aI,mem_map→aJ,map_append→aK,mem_cons_self→aL,append_assoc→aP,getElem?_eq_some_iff→aQ,length_cons→aS,getElem?_map→aU,append_nil→bb,size_toArray→be,mem_of_getElem?→bh,getElem?_set_ne→bu,mem_range→bw,map_congr_left→bA,nodup_append→bC,cons_append→bE,map_map→bF,length_range→bH,nodup_nil→bI,nil_append→bK,length_singleton→bS,count_append→bV,getElem_mem→bW,nodup_cons→bZ,idxOf_lt_length_iff→cu,map_singleton→cA,getElem?_append_right→cF,mem_flatMap→cO,getElem_map→cY,map_nil→c_,mem_iff_getElem?→df,mem_map_of_mem→dg,getElem?_append_left→dA,zip_cons_cons→dB,getElem?_set_self→dC,flatMap_append→dG,pairwise_singleton→dJ,pairwise_append→dM,drop_eq_getElem_cons→dO,getD_cons_succ→dQ,set_cons_succ→dX,mem_filterMap→dY,getElem_idxOf→dZ,length_take→er,length→et,flatMap_cons→eB,any_eq_false→eD,mem_filter→eF,all_eq_true→eM,nodup_iff_count→eS,count_pos_iff→fD,getElem_of_mem→fP,getElem?_range→fQ,lookup_cons→fU,ext_getElem→fV,set_cons_zero→fZ,range_succ→gf,length_set→gg,count_cons→gh,length_replicate→gu,flatMap_nil→gJ,replicate_zero→gP,replicate_succ→gQ,length_nil→gU,pairwise_cons→hU,length_eq_zero_iff→ie,getElem?_inj→iu,take_append_drop→iJ,length_drop→iS,drop_length→iT,mem_iff_getElem→jc,of_mem_zip→jq,find?_cons→jr,getD_cons_zero→jv,count_eq_zero→jP,sublist_append_right→jX,extract_eq_take_drop→jY,reverse_cons→kg,idxOf_append→kh,foldl_append→ki,ext_getElem?→kj,sublist_append_left→kB,getElem?_take_of_lt→kC,getElem?_eq_none→lH,filterMap_cons→mz,zip_nil_right→mZ,getElem_range→m_,find?_eq_none→nc,zip_nil_left→nK,take_length→ou,any_eq_true→ow,drop_append_of_le_length→oN,take_range→pB,length_zip→pC,forIn_cons→pD,perm_append_singleton→qz,forIn_nil→qA,pairwise_iff_getElem→qJ,mem_or_eq_of_mem_set→qK,getElem?_zip_eq_some→qL,set_comm→rG,tail→sr,getElem?_replicate→su,take_of_length_le→tL,range_succ_eq_map→tM,pairwise_lt_range→tN,map_id'→tO,pairwise_reverse→uH,contains_iff_mem→uI,count_cons_self→wF,toList_toArray→xE,map_eq_nil_iff→xF,filterMap_map→zX,take_add_one→BD,pairwise_map→BE,getElem_drop→BF,map_flatMap→EX,flatMap_def→EY,countP_cons→EZ,foldl_cons→Ga,countP_map→Gb
open PySem renaming wpAny_bind→af,Value→aj,starEach→au,Shared→av,Addr→ax,wpAny_pure→aC,model→aW,wpAny→aX,sizeLine→a_,PyData→bp,Program→bD,Str→bG,Around→bP,mainGlobals→bU,World→cm,mem_of_lookup→cB,eval→cC,backTo→cH,Heap→cQ,wpAny_holding→cZ,compareOp→dh,sizeLine_eq→dt,sysModules→du,keywordEach→dE,FuncData→dP,wpAny_mono→dU,cLine→dW,attributeBase→d_,wpAny_call_entry→eA,foldedSetIterable→eK,Keyword→eP,swapsWith→eU,backToKw→e_,wpAny_truthy_bool→fy,Paired→fO,Pos→fT,Obj→fY,wpAny_callSpecial?_slot→gc,binaryOp→gd,wpAny_typeNameOfWhole_keyiter→gw,wpAny_Call_Name_kw→gz,wpAny_specialOf→gB,wpAny_passesOwn→gC,Scope→gD,wpAny_dictEntries→gK,assignEach→gS,intKind→gW,codeAny_mono→gX,codeAny→gY,bootBuiltins→gZ,DictEntry→hX,wpAny_typeNameOf_keyiter→ij,behindInMarks→il,Stmt→iq,wpAny_updateSeq→iy,wpAny_ite_split→iz,wpAny_rule→iC,wpAny_newObj_type→iV,ReadsAll→iZ,NameKind→i_,rawInt→jw,sliceBounds→jD,TriplesOk→kF,builtinsNs→kK,wpAny_standAt→lz,plainId_quiet→lA,assign→lG,wpAny_isInstance→lS,codeAmong→lZ,relabel→mj,wpAny_execs_nil→mG,letOwnedTupleGo→mH,wpAny_notOrdered_dict→mM,Env→nL,updateSeq→nN,holding→nO,callerA→nR,PassesOwn→nS,BindsTo→nT,Arguments→nU,wpAny_attempt→oy,numAt→oA,closureFor→pf,wpAny_typeOf→pL,getItem→qw,bindArgs→qx,ItemsOf→qB,wpAny_letGo→rK,subscripted→rL,wpAny_dictEpoch→sC,wpAny_seqItems→uK,wpAny_call→uL,pyNext→uQ,dictSetDefault→wu,wpAny_comprehension_free→xI,swapsWithSole→xK,swappedStores→xM,Sem→zR,call→zT,bindL→Bw,bindC→Bx,wpAny_Call_method_late→BL,standAt→BV,setItem→BW,isTrue→Cq,dictGet→EH,Fin→ET,wpAny_isOneOf_keyiter→Fe
open PySem.W renaming Frag→ag,kia_one→dm,kitOne→eR,kla_obj→eW,keepIn→fS,fnOf→fX,CodeHd→gE,nsIn→gI,envX→jy,findIn→jO,mg_of→kr,codeIn→l_,kas_item→ml,methodObj→nE,kitx_list→nF,kitx_dict→nG,instObj→pq,lookIn→qy,cellsFrom_some→tJ,kitx_tuple→zU,callWith_K→zV,specialIn→BA,plainGet→ES,OpenLaw→F_
open Nat renaming le_refl→az,lt_of_lt_of_le→bt,ne_of_lt→bM,zero_le→cE,lt_or_ge→cG,le_trans→cV,lt_irrefl→dS,le_of_lt→fw,add_assoc→gn,lt_of_le_of_lt→hJ,zero_add→ir,sub_self→jz,ne_of_gt→jA,lt_trans→jB,add_comm→jC,min_le_left→lr,min_eq_left→lu,mul_le_mul→md,le_succ_of_le→nJ,min_self→tK,pow_le_pow_right→wC,le_succ→wD,lt_succ_self→EV,lt_of_not_le→EW
open Bool renaming and_eq_true→aB,false_eq_true→bz,false_ne_true→cw,and_true→eN,and_self→eO,eq_false_iff→fM,not_true→gq,beq_eq_decide_eq→gv,or_eq_true→ly,true_and→mL
open Option.some renaming inj→aE,injEq→nH
open PySem.Heap renaming get?_push_of_some→aF,lt_size→aT,get?_push_size→bj,get?_update_self→cJ,get?_update_other→dF,SameBut→mC
open PySem.PyData renaming eqv→aH,int→aO,canLayAll0→ba,eqvAll→bQ,tuple→cy,list→cU,depthAll→cW,bool→cX,canLay0→dI,depth→eX,none→iH
open PyProof.Rows renaming wpS_bind→aN,wpS_pure→aV,arrOf→aZ,Keyed→bR,pendingOf→b_,SortSt→dr,wpS_forRange→dD,SortKind→fg,callWith_type1→fm,wpS_mono→fG,failedOf→fN,wpS_modify→ix,seqObj→iA,envOfC→iB,wpS_get→kG,IntsAre→ma,mirror→nh,AllBare→oO,wpS→sA,listUpdate_at→sI,setPending→tS
open Array renaming length_toList→aR,getElem?_eq_getElem→bo,getElem?_toList→bT,getElem_toList→bX,toList_push→cx,getElem_extract→dR,getD_eq_getD_getElem?→fx,perm_iff_toList_perm→fF,getElem?_eq_none→f_,toList_extract→gF,getElem_mem_toList→gT,ext'→h_,append_empty→ic,mem_toList_iff→je,forIn_toList→jR,append_assoc→jS,toList_reverse→me,toList_append→mE,size_extract→ng,push_eq_append_singleton→ox,getElem?_eq_some_iff→qC,toArray_toList→wI,getD→zZ
open Int renaming toNat_natCast→bg,emod_lt_of_pos→de,emod_nonneg→dN,toNat_of_nonneg→fR,le_refl→wG
open PySem.Value renaming none→bx,ref→bL,type→fL,int→jx,isInt→jM,bool→mw,str→rz
open PySem.PassesOwn renaming never→bJ
open Or renaming inr→bN,inl→bO
open PySem.Obj renaming mapSeq→bY,isFreed_of_dict→ke,data_mapDictKeys→nI,data_mapDict→rE
open PySem.Str renaming ofString→cI
open False renaming elim→cK
open PyProof.Rows.KeyOrd renaming kle_of_klt→cL,kle_trans→dq,kle_refl→eG,klt_of_klt_of_kle→fB
open Ne renaming symm→cP
open PySem.Builtin.List renaming listExtendWith→cR,listLengthHint→gM,listSameRef→iw,listItems→jd,listTooLong→lJ,listUpdate→BG
open Option renaming bind_some→eh,map_eq_some_iff→fq,isSome_iff_exists→kA,getD_some→kL,map_some→pA,map→zW,getD_none→EU
open PySem.Builtin.Tuple renaming tupleHashOf→eQ
open PySem.F renaming plainAttrs_list→eV,slot_dict_keyiterator_next→fA,plain_extend_loop→km,type_list_append→ku,slot_list_append→kz,slot_tuple_hash→lx,type_list_extend→rB,slot_list_extend→rC,slot_dict_values→rD,args_dict_keyiterator_next_1→rJ,slot_list_count→sj,plain_list_iadd→sk,plainAttrs_dict→so,entry_dict_keyiterator_next→sv,slot_dict_len→tP,type_dict_get→uE,slot_dict_get→uF
open PySem.Heap.SameBut renaming update→fE
open PySem.NameKind renaming free→fH
open ForInStep renaming yield→fI
open List.cons renaming injEq→gk,inj→rH
open List.Sublist renaming refl→gy,append→mB
open PySem.Paired renaming length→gG
open True renaming intro→jN
open List.Perm renaming refl→jQ,append_left→lI
open List.Pairwise renaming nil→kl
open PySem.Calls renaming callWith_builtin→mD,evalArgs_plain→nM,Name_function_global→wH
open Sum renaming inr→nB,inl→nD
open PySem.SeqAt.ReadsAll renaming length→oM
open PySem.SeqAt renaming eqAt_reads→rA
open PySem.Builtin.Dict_items renaming ownsTuple→tQ
open PySem.Builtin.Dict renaming showsAll→Gc
open Array.Perm renaming refl→Gd
def aD:=@if_pos
def aM:=@if_neg
def aY:=@decide_eq_true
def br:=@decide_eq_false
def bB:=@of_decide_eq_true
def dw:=@if_false
def dH:=@congrArg
def gN:=@beq_eq_false_iff_ne
def jE:=@of_decide_eq_false
def pG:=@if_true
def Bv:=@decide_eq_true_eq
def EN:=@beq_self_eq_true
namespace L2
open PySem PySem.Spec PyProof.Rows
abbrev Key:=Sum Int bG
def b7v:Key→aj→Bool
  |.inl k,v=>jM k v
  |.inr x,v=>aj.isStrOf x v
def c1Z(w:cm):Key→Int
  |.inl k=>hashInt k
  |.inr x=>hashStr w x
def u5:∀{k:Key} {v:aj},b7v k v=true→(∃i t,k=nD i∧v=jx i t)∨(∃x t,k=nB x∧v=rz x t)
  |.inl i,v,h=>by
    obtain⟨t,e⟩:=aj.isInt_shape (k:=i) (v:=v) h;exact .inl ⟨i,t,rfl,e⟩
  |.inr x,v,h=>by
    obtain⟨t,e⟩:=aj.isStrOf_shape (x:=x) (v:=v) h;exact .inr ⟨x,t,rfl,e⟩
def b7M(a b:Int):decide ((nD a:Key)=nD b)=(a==b):=by
  by_cases e:a=b
  · subst e;simp
  · have h:¬ (nD a:Key)=nD b:=λq=>e (nD.inj q)
    rw[br h];exact (gN.mpr e).symm
def b7N(a b:bG):decide ((nB a:Key)=nB b)=decide (a=b):=by
  by_cases e:a=b
  · subst e;simp
  · have h:¬ (nB a:Key)=nB b:=λq=>e (nB.inj q)
    rw[br h,br e]
def b7O(a:Int)(b:bG):decide ((nD a:Key)=nB b)=false:=br (λq=>nomatch q)
def b7P(a:bG)(b:Int):decide ((nB a:Key)=nD b)=false:=br (λq=>nomatch q)
def a5g(prog:bD)(w:cm):PySem.KeyKind prog w Key where
  is:=b7v
  hash:=c1Z w
  inj:=λv a b ha hb=>by
    rcases u5 ha with⟨i,t,rfl,rfl⟩|⟨x,t,rfl,rfl⟩
    · rcases u5 hb with⟨j,u,rfl,e⟩|⟨y,u,rfl,e⟩
      · injection e with e1 _;rw[e1]
      · exact nomatch e
    · rcases u5 hb with⟨j,u,rfl,e⟩|⟨y,u,rfl,e⟩
      · exact nomatch e
      · injection e with e1 _;rw[e1]
  byValue:=λk v h=>by
    rcases u5 h with⟨i,t,rfl,rfl⟩|⟨x,t,rfl,rfl⟩<;>rfl
  pyHash:=λhv h=>by
    rcases u5 hv with⟨i,t,rfl,rfl⟩|⟨x,t,rfl,rfl⟩
    · exact wpAny_pyHash_int h
    · exact wpAny_pyHash_str h
  eqBool:=λhu hv h=>by
    rcases u5 hu with⟨i,t,rfl,rfl⟩|⟨x,t,rfl,rfl⟩
    · rcases u5 hv with⟨j,u,rfl,rfl⟩|⟨y,u,rfl,rfl⟩
      · rw[b7M]at h;exact wpAny_eqBool_int h
      · rw[b7O]at h;exact SeqAt.EqAt.int_str i t y u _ _ _ _ h
    · rcases u5 hv with⟨j,u,rfl,rfl⟩|⟨y,u,rfl,rfl⟩
      · rw[b7P]at h;exact SeqAt.EqAt.str_int x t j u _ _ _ _ h
      · rw[b7N]at h;exact wpAny_eqBool_str h
  «strs»:=λk x t v h=>by
    rcases u5 h with⟨i,u,rfl,e⟩|⟨y,u,rfl,e⟩
    · exact nomatch e
    · injection e with e1 _
      subst e1;cases v<;>rfl
inductive V where
  |non|bl (b:Bool)|int (i:Int)|str (x:bG)|byt (b:Array UInt8)|flt (b:UInt64)|ref (a:ax)|ty (n:String)
  deriving DecidableEq
def RelV:V→aj→Prop
  |.non,u=>u=bx
  |.bl b,u=>u=mw b
  |.int i,u=>∃t,u=jx i t
  |.str x,u=>∃t,u=rz x t
  |.byt b,u=>∃t,u=aj.bytes b t
  |.flt b,u=>∃t,u=aj.float b t
  |.ref a,u=>u=bL a
  |.ty n,u=>u=fL n
abbrev Vals:List V→List aj→Prop:=fO RelV
theorem Vals.length{xs:List V}{us:List aj}(r:Vals xs us):xs.length=us.length:=gG r
theorem Vals.get:∀{xs:List V} {us:List aj} {i:Nat} {x:V},Vals xs us→xs[i]?=cz x→∃u,us[i]?=cz u∧RelV x u
  |_,_,_,_,.nil,e=>by simp at e
  |_,_,0,_,.cons r _,e=>by simp at e;subst e;exact⟨_,rfl,r⟩
  |_,_,i+1,x,.cons _ t,e=>by
    obtain⟨u,h1,h2⟩:=Vals.get (i:=i) (x:=x) t (by simpa using e);exact⟨u,by simpa using h1,h2⟩
theorem Vals.set(r:RelV x u):∀{xs:List V} {us:List aj} (i:Nat),Vals xs us→Vals (xs.set i x) (us.set i u)
  |_,_,_,.nil=>.nil
  |_,_,0,.cons _ t=>.cons r t
  |_,_,i+1,.cons q t=>.cons q (Vals.set r i t)
theorem Vals.append:∀{xs ys:List V} {us ws:List aj},Vals xs us→Vals ys ws→Vals (xs++ys) (us++ws)
  |_,_,_,_,.nil,s=>s
  |_,_,_,_,.cons r t,s=>.cons r (Vals.append t s)
theorem Vals.take:∀{xs:List V} {us:List aj} (n:Nat),Vals xs us→Vals (xs.take n) (us.take n)
  |_,_,0,_=>.nil
  |_,_,_+1,.nil=>.nil
  |_,_,n+1,.cons r t=>.cons r (Vals.take n t)
theorem Vals.drop:∀{xs:List V} {us:List aj} (n:Nat),Vals xs us→Vals (xs.drop n) (us.drop n)
  |_,_,0,r=>r
  |_,_,_+1,.nil=>.nil
  |_,_,n+1,.cons _ t=>Vals.drop n t
def b7Q:Option V→Option aj→Prop
  |some v,cz u=>RelV v u
  |none,xn=>True
  |_,_=>False
def KV{κ:Type}:List (κ×V)→List (κ×aj)→Prop:=fO λ(p:κ×V) (q:κ×aj)=>p.1=q.1∧RelV p.2 q.2
def kV:Key→V
  |.inl i=>.int i
  |.inr x=>.str x
inductive HO where
  |lst (xs:List V)
  |tup (xs:List V)
  |dK (kvs:List (Key×V))|dT (kvs:List (List Key×V))
  |set (S:Int→Bool) (n:Nat)
  |ins (C dx:ax) (fs:List (bG×V))
  |own (x:ax)
  |xd (fs:List (bG×V))
  |met (f x:ax)
  |rng (lo hi:Int)
  |frz (o:fY) (u:HO)
  |tbl (ps:Array aj)
  |ext (φ:cQ→Prop)
abbrev Hp:=ax→Option HO
def upd(H:Hp)(a:ax)(o:HO):Hp:=λb=>if b=a then cz o else H b
def g8{H:Hp}{a:ax}{o:HO}:upd H a o a=cz o:=by unfold upd;rw[aD rfl]
def b9{H:Hp}{a b:ax}{o:HO}(h:b≠a):upd H a o b=H b:=by unfold upd;rw[aM h]
def b5g:upd (upd H a o) a u=upd H a u:=by
  funext b;unfold upd;split<;>rfl
def i8{H:Hp}{a b:ax}{o:HO}(h:H a=cz o)(h':H b=xn):a≠b:=by
  intro e;subst e;rw[h]at h';cases h'
def Pin(a:ax):HO→Prop
  |.tup _=>True
  |.frz _ (.own b)=>b=a
  |_=>False
abbrev c0g(a:ax):={u:HO // Pin a u}
def a6n(H:Hp)(h:cQ)(a:ax)(qs:Array aj):Prop:=
  ∃ps:Array aj,h.get? a=cz {cls:=.none,data:=.fields ps}∧kF ps.toList∧∀(pos:fT) (cv:aj),lZ pos ps.toList=cz cv→
    ∃c' oc vs q t t',cv=.ref c'∧H c'=cz (.frz oc (.own a))∧oc.data=.fields vs∧vs[1]?=cz (.str q t)∧qs[0]?=cz (.str q t')
section
variable (P:bD)(w:cm)
def ObjOk(H:Hp)(h:cQ)(a:ax):HO→Prop
  |.lst xs=>xs.length≤a_∧∃(its:List aj) (n:Nat),Vals xs its∧h.get? a=cz {cls:=.type "list",data:=.seq its.toArray n}
  |.tup xs=>xs.length≤a_∧∃its:List aj,Vals xs its∧IsTup h a its.toArray
  |.dK kvs=>kvs.length≤a_∧(a==du)=false∧∃vs,KV kvs vs∧h.DictOf (a5g P w) a vs
  |.dT kvs=>kvs.length≤a_∧(a==du)=false∧∃xs:List (List Key×ax×aj),
      fO (λ(p:List Key×V) (q:List Key×ax×aj)=>p.1=q.1∧H q.2.1=cz (.tup (p.1.map kV))∧RelV p.2 q.2.2) kvs xs∧
      ∃o es ep,h.get? a=cz o∧o.ExactDict∧o.data=.dict es ep∧es.toList=xs.map (entryOfKey (tupleKind (a5g P w)))∧(xs.map (·.1)).Nodup
  |.set S n=>h.SetOf (gW P w) a S n
  |.ins C dx fs=>H dx=cz (.own a)∧fs.length≤1000∧dx≠a∧h.get? a=cz (pq C dx)∧
      ∃mA,h.Ns1 dx mA∧(∀f,b7Q (fs.lookup f) (mA f))∧PySem.Within mA (fs.map (·.1))
  |.own _=>∃o,h.get? a=cz o
  |.xd fs=>∃mA,h.Ns1 a mA∧∀f,b7Q (fs.lookup f) (mA f)
  |.rng lo hi=>∃t u v,h.get? a=cz {cls:=.type "range",data:=.fields #[.int lo t,.int hi u,.int 1 v]}
  |.frz o u=>h.get? a=cz o∧ObjOk H h a u
  |.tbl ps=>a6n H h a ps
  |.met f x=>h.get? a=cz (nE (.ref f) (.ref x))
  |.ext φ=>φ h∧(∃o,h.get? a=cz o)∧∀h1 h2:cQ,φ h1→(∀o,h1.get? a=cz o→h2.get? a=cz o)→φ h2
def HOk(H:Hp)(h:cQ):Prop:=∀a o,H a=cz o→ObjOk P w H h a o
end
section
variable {P:bD}{w:cm}{H H':Hp}{h h':cQ}{a:ax}{o:HO}
theorem ObjOk.lt(x:ObjOk P w H h a o):a<h.objs.size:=by
  cases o with
  |lst xs=>obtain⟨_,_,_,_,e⟩:=x;exact aT e
  |tup xs=>obtain⟨_,_,_,p⟩:=x;exact p.lt
  |dK kvs=>obtain⟨_,_,_,_,o,_,_,e,_⟩:=x;exact aT e
  |dT kvs=>obtain⟨_,_,_,_,o,_,_,e,_⟩:=x;exact aT e
  |set S n=>obtain⟨o,_,_,_,e,_⟩:=x;exact aT e
  |ins C dx fs=>obtain⟨_,_,_,e,_⟩:=x;exact aT e
  |own y=>obtain⟨_,e⟩:=x;exact aT e
  |xd fs=>obtain⟨_,⟨_,_,_,e,_⟩,_⟩:=x;exact aT e
  |rng lo hi=>obtain⟨_,_,_,e⟩:=x;exact aT e
  |frz ob u=>obtain⟨e,_⟩:=x;exact aT e
  |tbl ps=>obtain⟨_,e,_⟩:=(show a6n H h a ps from x);exact aT e
  |met f y=>exact aT (show h.get? a=cz _ from x)
  |ext φ=>obtain⟨_,⟨_,e⟩,_⟩:=x;exact aT e
theorem Paired.mapP:∀{l₁:List α} {l₂:List β},fO F l₁ l₂→(∀a b,F a b→G a b)→fO G l₁ l₂
  |_,_,.nil,_=>.nil
  |_,_,.cons r t,f=>.cons (f _ _ r) (Paired.mapP t f)
def ObjOk.stay(x:ObjOk P w H h a o)(k:∀b u,(b=a∨H b=cz (.own a))→h.get? b=cz u→h'.get? b=cz u)
    (ho:∀b,H b=cz (.own a)→H' b=cz (.own a)) (ht:∀b (u:c0g a),H b=cz u.1→H' b=cz u.1):ObjOk P w H' h' a o:=by
  induction o with
  |lst xs=>obtain⟨z,its,n,r,e⟩:=x;exact⟨z,its,n,r,k _ _ (.inl rfl) e⟩
  |tup xs=>obtain⟨z,its,r,ob,e,c⟩:=x;exact⟨z,its,r,ob,k _ _ (.inl rfl) e,c⟩
  |dK kvs=>obtain⟨z,y,vs,r,ob,es,ep,e,c⟩:=x;exact⟨z,y,vs,r,ob,es,ep,k _ _ (.inl rfl) e,c⟩
  |dT kvs=>
    obtain⟨z,y,xs,r,ob,es,ep,e,c⟩:=x;exact⟨z,y,xs,Paired.mapP r λp q z=>⟨z.1,ht _ ⟨.tup _,trivial⟩ z.2.1,z.2.2⟩,ob,es,ep,k _ _ (.inl rfl) e,c⟩
  |set S n=>obtain⟨ob,es,ep,t,e,c⟩:=x;exact⟨ob,es,ep,t,k _ _ (.inl rfl) e,c⟩
  |ins C dx fs=>
    obtain⟨d,z,ne,e,mA,⟨od,es,ep,e2,c⟩,r⟩:=x;exact⟨ho _ d,z,ne,k _ _ (.inl rfl) e,mA,⟨od,es,ep,k _ _ (.inr d) e2,c⟩,r⟩
  |own y=>obtain⟨ob,e⟩:=x;exact⟨ob,k _ _ (.inl rfl) e⟩
  |xd fs=>obtain⟨mA,⟨od,es,ep,e,c⟩,r⟩:=x;exact⟨mA,⟨od,es,ep,k _ _ (.inl rfl) e,c⟩,r⟩
  |rng lo hi=>obtain⟨t,u,v,e⟩:=x;exact⟨t,u,v,k _ _ (.inl rfl) e⟩
  |frz ob u ih=>obtain⟨e,q⟩:=x;exact⟨k _ _ (.inl rfl) e,ih q⟩
  |tbl ps=>
    obtain⟨qs,e,t,f⟩:=(show a6n H h a ps from x);refine⟨qs,k a _ (.inl rfl) e,t,λpos cv z=>?_⟩;obtain⟨c,oc,vs,q,t1,t2,z1,z2,z3,z4,z5⟩:=f pos cv z;exact⟨c,oc,vs,q,t1,t2,z1,ht c ⟨.frz _ (.own a),rfl⟩ z2,z3,z4,z5⟩
  |met f y=>
    have e:h.get? a=cz (nE (.ref f) (.ref y)):=x;show h'.get? a=cz (nE (.ref f) (.ref y));exact k a _ (.inl rfl) e
  |ext φ=>obtain⟨p,⟨o,e⟩,st⟩:=x;exact⟨st _ _ p λo q=>k _ _ (.inl rfl) q,⟨o,k _ _ (.inl rfl) e⟩,st⟩
theorem HOk.lt(x:HOk P w H h)(e:H a=cz o):a<h.objs.size:=(x a o e).lt
def HOk.fresh(x:HOk P w H h)(e:h.objs.size≤a):H a=xn:=by
  cases q:H a with
  |none=>rfl
  |some u=>exact absurd (bt (x.lt q) e) (dS _)
def HOk.kept(x:HOk P w H h)(k:∀b u,h.get? b=cz u→h'.get? b=cz u):HOk P w H h':=λa o e=>
  (x a o e).stay (λb u _ q=>k b u q) (λ_ q=>q) λ_ _ q=>q
def HOk.laid(x:HOk P w H h)(k:∀b u,h.get? b=cz u→h'.get? b=cz u)(hp:h.objs.size≤a)(new:ObjOk P w (upd H a o) h' a o):HOk P w (upd H a o) h':=λb u e=>by
  have hn:=x.fresh hp;by_cases hb:b=a
  · subst hb;rw[g8]at e;cases e;exact new
  · rw[b9 hb]at e
    exact (x b u e).stay (λc v _ q=>k c v q) (λc q=>by rw[b9 (i8 q hn)];exact q) λc xs q=>by rw[b9 (i8 q hn)];exact q
end
def Rd(H:Hp)(a:ax)(u:HO):Prop:=H a=cz u∨∃o,H a=cz (.frz o u)
def Rd.ok{P:bD}{w:cm}{H:Hp}{h:cQ}{a:ax}{u:HO}(r:Rd H a u)(x:HOk P w H h):ObjOk P w H h a u:=by
  rcases r with r|⟨o,r⟩
  · exact x a u r
  · obtain⟨_,q⟩:=x a _ r
    exact q
def Mut:Option HO→Prop
  |some (.lst _)=>True
  |some (.dK _)=>True
  |some (.dT _)=>True
  |some (.set _ _)=>True
  |some (.ins _ _ _)=>True
  |some (.ext _)=>True
  |_=>False
section
variable {P:bD}{w:cm}{H:Hp}{h h':cQ}{x e:ax}{o':HO}
def HOk.write(ok:HOk P w H h)(mu:Mut (H x))(he:e=x∨H e=cz (.own x))(k:∀b u,b≠e→h.get? b=cz u→h'.get? b=cz u)(ur:∃u,h'.get? e=cz u)
    (new:ObjOk P w (upd H x o') h' x o'):HOk P w (upd H x o') h':=λb u q=>by
  have uS:∀c y,H c=cz (.own y)→c≠x:=λc y r z=>by subst z;rw[r]at mu;exact mu
  have xU:∀{bq:ax} c (u:c0g bq),H c=cz u.1→c≠x:=λ{bq} c u r z=>by subst z;rw[r]at mu;obtain⟨u,hu⟩:=u;cases u<;>first|exact hu|exact mu
  by_cases hb:b=x
  · subst hb;rw[g8]at q;cases q;exact new
  · rw[b9 hb]at q
    by_cases tD:b=e
    · have q':H b=cz (.own x):=by
        rcases he with z|z
        · exact absurd (tD.trans z) hb
        · rw[tD];exact z
      rw[q]at q';cases q';obtain⟨v,hv⟩:=ur;exact⟨v,by rw[tD];exact hv⟩
    · refine (ok b u q).stay (λc v hc r=>k c v ?_ r) (λc r=>by rw[b9 (uS c b r)];exact r) λc xs r=>by rw[b9 (xU c xs r)];exact r
      rcases hc with rfl|hc
      · exact tD
      · rintro rfl
        rcases he with z|z
        · exact uS c b hc z
        · rw[hc]at z;cases z;exact hb rfl
end
structure Un (fs ex:List ax) (H H':Hp) (h h':cQ):Prop where
  keep:∀b o,h.get? b=cz o→H b=xn→b∉fs→b∉ex→h'.get? b=cz o
  slot:∀b o,h.get? b=cz o→H b=xn→b∈fs→b∉ex→∃sl,h'.get? b=cz {o with slots:=sl}
  free:∀b o,h.get? b=cz o→H b=xn→b∉ex→H' b=xn
  there:∀b o,h.get? b=cz o→b∉ex→∃o',h'.get? b=cz o'
  tups:∀b xs,H b=cz (.tup xs)→H' b=cz (.tup xs)
  frzs:∀b o u,H b=cz (.frz o u)→H' b=cz (.frz o u)
  tbls:∀b ps,H b=cz (.tbl ps)→∃more,H' b=cz (.tbl (ps++more))
section
variable {fs jG ex FR:List ax}{H H1 H2:Hp}{h h1 h2 h':cQ}{a x e:ax}{o:HO}
def Un.any(u:Un fs ex H H1 h h1)(q:h.get? b=cz ob)(n:H b=xn)(hx:b∉ex):∃sl,h1.get? b=cz {ob with slots:=sl}:=by
  by_cases hb:b∈fs
  · exact u.slot b ob q n hb hx
  · exact⟨ob.slots,u.keep b ob q n hb hx⟩
def Un.kept(k:∀b u,h.get? b=cz u→h'.get? b=cz u):Un fs ex H H h h':=
  ⟨λb ob q _ _ _=>k b ob q,λb ob q _ _ _=>⟨ob.slots,k b ob q⟩,λ_ _ _ n _=>n,λb ob q _=>⟨ob,k b ob q⟩,λ_ _ q=>q,λ_ _ _ q=>q,λ_ ps q=>⟨#[],by rw[q];simp⟩⟩
def Un.refl:Un fs ex H H h h:=Un.kept λ_ _ q=>q
def Un.laid(k:∀b u,h.get? b=cz u→h'.get? b=cz u)(hp:h.objs.size≤a)(hn:H a=xn):Un fs ex H (upd H a o) h h' where
  keep:=λb u q _ _ _=>k b u q
  slot:=λb u q _ _ _=>⟨u.slots,k b u q⟩
  free:=λb u q n _=>by rw[b9 (bM (bt (aT q) hp))];exact n
  there:=λb u q _=>⟨u,k b u q⟩
  tups:=λb xs q=>by rw[b9 (i8 q hn)];exact q
  frzs:=λb u xs q=>by rw[b9 (i8 q hn)];exact q
  tbls:=λb ps q=>⟨#[],by rw[b9 (i8 q hn),q];simp⟩
def Un.write(mu:Mut (H x))(he:e=x∨H e=cz (.own x))(k:∀b u,b≠e→h.get? b=cz u→h'.get? b=cz u)(ur:∃u,h'.get? e=cz u):Un fs ex H (upd H x o) h h':=by
  have hx:∀b,H b=xn→b≠x:=λb n z=>by subst z;rw[n]at mu;exact mu
  have hb:∀b,H b=xn→b≠e:=λb n z=>by
    subst z;rcases he with r|r
    · exact hx b n r
    · rw[n]at r;cases r
  have hm:∀b u,H b=cz u→¬ Mut (cz u)→b≠x:=λb u q nm z=>by subst z;rw[q]at mu;exact nm mu
  refine⟨λb u q n _ _=>k b u (hb b n) q,λb u q n _ _=>⟨u.slots,k b u (hb b n) q⟩,λb u q n _=>by rw[b9 (hx b n)];exact n,λb u q _=>?_,
    λb xs q=>by rw[b9 (hm b _ q λz=>z)];exact q,λb u xs q=>by rw[b9 (hm b _ q λz=>z)];exact q,λb ps q=>⟨#[],by rw[b9 (hm b _ q λz=>z),q];simp⟩⟩
  by_cases tD:b=e
  · subst tD;exact ur
  · exact⟨u,k b u tD q⟩
end
def trk(h:cQ)(H:Hp):List ax:=(ao h.objs.size).filter λa=>(H a).isSome
def a5h(h:cQ)(H:Hp):cQ:=PySem.W.hideAll h (trk h H)
def b0q(h:cQ)(H:Hp):(a5h h H).objs.size=h.objs.size:=PySem.W.hideAll_size _ _
def b2i{h:cQ}(e:h.get? b=cz o)(n:H b=xn):(a5h h H).get? b=cz o:=
  PySem.W.hideAll_get _ e λhm=>by
    have q:(H b).isSome=true:=(eF.mp hm).2;rw[n]at q;simp at q
def b5h(e:(a5h h H).get? b=cz o):h.get? b=cz o∧H b=xn:=by
  have e':h.get? b=cz o:=PySem.W.of_hideAll (trk h H) e;refine⟨e',?_⟩;cases q:H b with
  |none=>rfl
  |some x=>
    have hm:b∈trk h H:=eF.mpr ⟨bw.mpr (aT e'),by simp[q]⟩;have z:(a5h h H).get? b=xn:=PySem.W.hideAll_none (trk h H) hm;rw[z]at e;cases e
def b5i(g h:cQ)(L:ax):List (ax×fY):=(ao h.objs.size).filterMap λa=>if a=L∨(g.get? a).isSome=true then xn else (h.get? a).map λo=>(a,o)
def rest(g h:cQ)(L d:ax):List (ax×fY):=(b5i g h L).filter λp=>decide (p.1≠d)
def L7:List bG:=["ways_by_state","joins_by_pair","compare","first_gathering","least_asks"]
def U4(x:bG):bG:=x++".<locals>." ++ "<lambda>"
def a5i(K:ag)(cd:aj):Option ax:=match cd with
  |.ref c=>(match K.lookup c with
    |some ⟨.type n,_,.fields vs,_⟩=>if n=="code" then
        (match (vs[11]?:Option aj),(vs[18]?:Option aj),(vs[7]?:Option aj),(vs[9]?:Option aj),(vs[10]?:Option aj) with
        |some (.ref P),cz (.str _ _),cz (.int _ _),cz (.bool _),cz (.int _ _)=>if c !=P then cz P else xn
        |_,_,_,_,_=>xn) else xn
    |_=>xn)
  |_=>xn
def B6(K:ag)(x:bG):Option ax:=match gI K bU x with
  |some (cz (.ref f))=>(match K.lookup f with
    |some ⟨_,_,.func fd,_⟩=>a5i K fd.code
    |_=>xn)
  |_=>xn
def TabsIn(K:ag)(H:Hp):Prop:=∀x∈L7,∀p,B6 K x=cz p→∃qs t,H p=cz (.tbl qs)∧qs[0]?=cz (.str (U4 x) t)
def TabsIn.un{K:ag}{fs ex:List ax}{H H':Hp}{h h':cQ}(a:TabsIn K H)(u:Un fs ex H H' h h'):TabsIn K H':=λx hx p e=>by
  obtain⟨qs,t,e1,e2⟩:=a x hx p e;obtain⟨more,e3⟩:=u.tbls p qs e1;refine⟨_,t,e3,?_⟩;have hz:0<qs.size:=by
    rcases cG 0 qs.size with z|z
    · exact z
    · rw[f_ (by omega)]at e2;cases e2
  rw[Array.getElem?_append_left hz];exact e2
structure Mod (K:ag) (mg:bG→Option aj) (base:cQ):Prop where
  kin:K.In base
  glob:base.Ns bU mg
  blt:∃mb,base.Ns kK mb∧∀x:bG,x≠"__name__"→mb x=gZ x
  nolimit:base.NoLimit
  bmain:∃bm ob,mg "__builtins__"=cz (.ref bm)∧bm≠kK∧base.get? bm=cz ob∧ob.cls=.type "module"∧ob.dict=cz kK∧ob.data=.plain
/-- pE context: a wy body (or a ju block) running. base: fixed through pE whole law; s₀, H₀: pE entry; outer: pE frames uM slots others may change (a wy xC); stack: all frames qN run;
   ex: tZ qN xJ made ahead of pE entry and are walked here (a ju);fn: pE names uM cells xJ made at pE entry (a def: all;a ju block: its own);calm: not within an except Aa;pn: pins qN Bp state bears;xe: BM is wanted of an exception qN x_ pE code -/
structure Cx where
  prog:bD
  w:cm
  K:ag
  mg:bG→Option aj
  base:cQ
  A:bP
  N:List bG
  s₀:av
  H₀:Hp
  env:nL
  outer:List nL
  stack:List nL
  ex:List ax
  fn:bG→Bool
  calm:Bool
  pn:List (ax×fY)
  xe:aj→av→Prop
def frs(l:List nL):List ax:=l.filterMap (·.frame)
abbrev Cx.fs(X:Cx):List ax:=frs X.outer
def Vis(sc:gD)(x:bG):Prop:=sc.names.lookup x=cz .local∨sc.names.lookup x=cz .cell∨sc.names.lookup x=cz .free
def Loc(sc:gD)(x:bG):Prop:=sc.names.lookup x=cz .local∨sc.names.lookup x=cz .cell
def Look(env:nL)(h:cQ)(m:bG→Option aj)(x:bG)(u:aj):Prop:=
  (env.kindOf x=cz .local∧m x=cz u)∨((env.kindOf x=cz .cell∨env.kindOf x=cz .free)∧∃c,env.cells.lookup x=cz c∧h.IsCell c (cz u))
structure Cx.Ok (X:Cx):Prop where
  mod:Mod X.K X.mg X.base
  kind:X.env.scope.kind=.function
  glob:X.env.globals=bU
  blt:X.env.builtins=kK
  above:X.s₀.heap.objs.size≤X.env.locals
  inj:∀x y c,X.env.cells.lookup x=cz c→X.env.cells.lookup y=cz c→x=y
  has:∀x,(X.env.kindOf x=cz .cell∨X.env.kindOf x=cz .free)→∃c,X.env.cells.lookup x=cz c
  cab:∀x c,X.fn x=true→X.env.cells.lookup x=cz c→X.s₀.heap.objs.size≤c
  hd:X.calm=true→X.A.handled=xn
  frames:X.A.frames=cz X.stack
  stk:X.stack=X.outer∨(X.stack=X.env::X.outer∧X.env.frame=cz X.env.locals)
  exf:∀b∈X.ex,b≠X.env.locals∧∀x c,X.env.cells.lookup x=cz c→c≠b
  bs:∀b o,X.base.get? b=cz o→X.s₀.heap.get? b=cz o∧X.H₀ b=xn
  bsz:X.base.objs.size≤X.s₀.heap.objs.size
  noex:∀b o,X.base.get? b=cz o→b∉X.ex
  exfs:∀b∈X.ex,b∉X.fs
  funs:X.s₀.heap.FunFrames X.base X.outer
  frf:∀b∈X.fs,X.H₀ b=xn
  tabs:TabsIn X.K X.H₀
structure Inv (X:Cx) (pins:List (ax×fY)) (σ:List (Option V)) (H:Hp) (s:av):Prop where
  ok:X.Ok
  os:s.os=X.s₀.os
  bare:oO s.gens
  base:Un X.fs X.ex X.H₀ H X.s₀.heap s.heap
  loc:∃m,s.heap.Ns X.env.locals m∧∀(i:Nat) (x:bG) (v:V),X.N[i]?=cz x→σ[i]?=cz (cz v)→Vis X.env.scope x→∃u,RelV v u∧Look X.env s.heap m x u
  cell:∀x c,X.env.cells.lookup x=cz c→∃v,s.heap.IsCell c v
  free:H X.env.locals=xn
  freeC:∀x c,X.env.cells.lookup x=cz c→H c=xn
  pin:∀p∈X.pn++pins,s.heap.get? p.1=cz p.2∧H p.1=xn∧p.1≠X.env.locals∧p.1∉X.fs∧∀v,p.2.data≠.cell v
  hok:HOk X.prog X.w H s.heap
  len:σ.length=X.N.length
section
variable {X:Cx}{pins:List (ax×fY)}{σ:List (Option V)}{H H':Hp}{s:av}{h':cQ}
def Cx.Ok.nofr(ok:X.Ok)(e:X.base.get? b=cz o):b∉X.fs:=λhb=>by
  have:=(ok.funs.mem hb).1;rw[e]at this;cases this
theorem Inv.bs(I:Inv X pins σ H s):∀b o,X.base.get? b=cz o→s.heap.get? b=cz o∧H b=xn:=λb o e=>
  ⟨I.base.keep b o (I.ok.bs b o e).1 (I.ok.bs b o e).2 (I.ok.nofr e) (I.ok.noex b o e),I.base.free b o (I.ok.bs b o e).1 (I.ok.bs b o e).2 (I.ok.noex b o e)⟩
theorem Inv.tabs(I:Inv X pins σ H s):TabsIn X.K H:=I.ok.tabs.un I.base
def Inv.bk(I:Inv X pins σ H s):∀b o,X.base.get? b=cz o→s.heap.get? b=cz o:=λb o e=>(I.bs b o e).1
theorem Inv.mod(I:Inv X pins σ H s):Mod X.K X.mg X.base:=I.ok.mod
def Inv.kIn(I:Inv X pins σ H s):X.K.In s.heap:=I.ok.mod.kin.keeps I.bk
theorem Inv.lt(I:Inv X pins σ H s):X.env.locals<s.heap.objs.size:=let⟨_,hn,_⟩:=I.loc;hn.lt
def Inv.sz(I:Inv X pins σ H s):X.s₀.heap.objs.size≤s.heap.objs.size:=cV I.ok.above (fw I.lt)
def Inv.nofs(I:Inv X pins σ H s)(h:s.heap.objs.size≤a):a∉X.fs:=λhb=>by
  obtain⟨_,o,ho,_⟩:=I.ok.funs.mem hb;exact absurd (bt (aT ho) (cV I.sz h)) (dS _)
def Inv.cne(I:Inv X pins σ H s):∀x c,X.env.cells.lookup x=cz c→c≠X.env.locals:=λx c e z=>by
  obtain⟨v,o,ho,hd⟩:=I.cell x c e;obtain⟨m,⟨o',es,ep,oW,kc,_⟩,_⟩:=I.loc;rw[z,oW]at ho;cases ho;rw[kc]at hd;cases hd
theorem Inv.funs(I:Inv X pins σ H s):s.heap.FunFrames X.base X.outer:=by
  have all:∀(l:List nL),(∀b∈frs l,b∈X.fs)→X.s₀.heap.FunFrames X.base l→s.heap.FunFrames X.base l:=by
    intro l
    induction l with
    |nil=>intro _ _;trivial
    |cons env r ih=>
      intro hs hl;obtain⟨hk,⟨L,o,hf,hn,ho,hd⟩,hr⟩:=hl;have hL:L∈X.fs:=hs L (by unfold frs;rw[mz,hf];exact aL);obtain⟨sl,e⟩:=I.base.slot L o ho (I.ok.frf L hL) hL λz=>I.ok.exfs L z hL
      exact⟨hk,⟨L,_,hf,hn,e,hd⟩,ih (λb hb=>hs b (by unfold frs;rw[mz,hf];exact aw _ hb)) hr⟩
  exact all X.outer (λ_ hb=>hb) I.ok.funs
theorem Inv.stack(I:Inv X pins σ H s):s.heap.FunFrames X.base X.stack:=by
  rcases I.ok.stk with e|⟨e,hf⟩
  · rw[e];exact I.funs
  · rw[e]
    obtain⟨m,hn,_⟩:=I.loc;refine .cons (by rw[I.ok.kind];decide) hf hn ?_ I.funs;exact cQ.get?_none_of_le (cV I.ok.bsz I.ok.above)
def Inv.stkSub(I:Inv X pins σ H s):∀b∈frs X.stack,b∈X.env.locals::X.fs:=λb hb=>by
  rcases I.ok.stk with e|⟨e,hf⟩
  · rw[e]at hb;exact aw _ hb
  · rw[e]at hb
    unfold frs at hb;rw[mz,hf]at hb;exact hb
def Inv.stkFree(I:Inv X pins σ H s):∀b∈frs X.stack,H b=xn:=λb hb=>by
  rcases aI.mp (I.stkSub b hb) with e|hb
  · rw[e];exact I.free
  · obtain⟨_,o,ho,_⟩:=I.ok.funs.mem hb
    exact I.base.free b o ho (I.ok.frf b hb) λz=>I.ok.exfs b z hb
def Inv.step{g':Array GenState}{t':Nat}{d':Drawn}{ch:List ax}(I:Inv X pins σ H s)
    (qG:∀b∈ch,(b∈X.ex∨X.s₀.heap.objs.size≤b)∧b≠X.env.locals∧(∀x c,X.env.cells.lookup x=cz c→c≠b)∧∀p∈X.pn++pins,p.1≠b)
    (keep:∀b o,b≠X.env.locals→b∉X.fs→b∉ch→s.heap.get? b=cz o→H b=xn→h'.get? b=cz o)
    (slot:∀b o,b≠X.env.locals→b∈X.fs→b∉ch→s.heap.get? b=cz o→H b=xn→∃sl,h'.get? b=cz {o with slots:=sl}) (free:∀b o,b∉ch→s.heap.get? b=cz o→H b=xn→H' b=xn)
    (there:∀b o,b∉ch→s.heap.get? b=cz o→∃o',h'.get? b=cz o')
    (tups:∀b xs,H b=cz (.tup xs)→H' b=cz (.tup xs)) (frzs:∀b o u,H b=cz (.frz o u)→H' b=cz (.frz o u)) (tbls:∀b ps,H b=cz (.tbl ps)→∃more,H' b=cz (.tbl (ps++more)))
    (ns:∀m,s.heap.Ns X.env.locals m→h'.Ns X.env.locals m) (hok:HOk X.prog X.w H' h') (hg:oO g') :
    Inv X pins σ H' {s with heap:=h',gens:=g',drawn:=d',toks:=t'}:=by
  have Aj:∀b o,X.s₀.heap.get? b=cz o→b≠X.env.locals:=λb o e=>bM (bt (aT e) I.ok.above)
  have wR:∀b o,X.s₀.heap.get? b=cz o→b∉X.ex→b∉ch:=λb o e hx hb=>by
    rcases (qG b hb).1 with z|z
    · exact hx z
    · exact absurd (bt (aT e) z) (dS _)
  have cellK:∀x c,X.env.cells.lookup x=cz c→∀v,s.heap.IsCell c v→h'.IsCell c v:=λx c e v ⟨o,ho,hd⟩=>by
    have pQ:c∉ch:=λz=>(qG c z).2.2.1 x c e rfl
    by_cases hc:c∈X.fs
    · obtain⟨sl,q⟩:=slot c o (I.cne x c e) hc pQ ho (I.freeC x c e)
      exact⟨_,q,hd⟩
    · exact⟨o,keep c o (I.cne x c e) hc pQ ho (I.freeC x c e),hd⟩
  refine⟨I.ok,I.os,hg,⟨λb o e n hb hx=>?_,λb o e n hb hx=>?_,λb o e n hx=>?_,λb o e hx=>?_,λb xs e=>tups b xs (I.base.tups b xs e),λb o xs e=>frzs b o xs (I.base.frzs b o xs e),λb ps e=>?_⟩,?_,λx c e=>?_,?_,λx c e=>?_,λp hp=>?_,hok,I.len⟩
  · exact keep b o (Aj b o e) hb (wR b o e hx) (I.base.keep b o e n hb hx) (I.base.free b o e n hx)
  · obtain⟨sl,e1⟩:=I.base.slot b o e n hb hx
    obtain⟨Ac,e2⟩:=slot b _ (Aj b o e) hb (wR b o e hx) e1 (I.base.free b o e n hx);exact⟨Ac,e2⟩
  · obtain⟨o',e1⟩:=I.base.there b o e hx
    exact free b o' (wR b o e hx) e1 (I.base.free b o e n hx)
  · obtain⟨o',e1⟩:=I.base.there b o e hx
    exact there b o' (wR b o e hx) e1
  · obtain⟨m1,e1⟩:=I.base.tbls b ps e
    obtain⟨m2,e2⟩:=tbls b _ e1;exact⟨m1++m2,by rw[e2,jS]⟩
  · obtain⟨m,hn,hl⟩:=I.loc
    refine⟨m,ns m hn,λi x v e1 e2 e3=>?_⟩;obtain⟨u,r,l⟩:=hl i x v e1 e2 e3;refine⟨u,r,?_⟩;rcases l with l|⟨k,c,e,z⟩
    · exact .inl l
    · exact .inr ⟨k,c,e,cellK x c e _ z⟩
  · obtain⟨v,z⟩:=I.cell x c e
    exact⟨v,cellK x c e v z⟩
  · obtain⟨m,⟨o,_,_,ho,_⟩,_⟩:=I.loc
    exact free _ o (λz=>(qG _ z).2.1 rfl) ho I.free
  · obtain⟨v,o,ho,hd⟩:=I.cell x c e
    exact free c o (λz=>(qG c z).2.2.1 x c e rfl) ho (I.freeC x c e)
  · obtain⟨e,n,ne,nf,d⟩:=I.pin p hp
    have pQ:p.1∉ch:=λz=>(qG p.1 z).2.2.2 p hp rfl
    exact⟨keep p.1 p.2 ne nf pQ e n,free p.1 p.2 pQ e n,ne,nf,d⟩
def Inv.un(I:Inv X pins σ H s)(u:Un X.fs [] H H' s.heap h')(hok:HOk X.prog X.w H' h'):Inv X pins σ H' {s with heap:=h',toks:=t'}:=by
  obtain⟨m,⟨o,es,ep,ho,r⟩,_⟩:=id I.loc;obtain⟨sl,hL⟩:=u.any ho I.free (by simp);exact I.step (g':=s.gens) (d':=s.drawn) (ch:=[]) (λ_ z=>nomatch z) (λb o _ hb _ e n=>u.keep b o e n hb (by simp)) (λb o _ hb _ e n=>u.slot b o e n hb (by simp)) (λb o _ e n=>u.free b o e n (by simp)) (λb o _ e=>u.there b o e (by simp)) u.tups u.frzs u.tbls (λm' hm=>by
    obtain⟨o',jH,rm,oW,r'⟩:=hm;rw[ho]at oW;cases oW;exact⟨_,jH,rm,hL,r'⟩) hok I.bare
def Inv.call(I:Inv X pins σ H s)(u:Un (frs X.stack) ch H H' s.heap h')(hok:HOk X.prog X.w H' h')(hg:oO g')
    (qG:∀b∈ch,(b∈X.ex∨X.s₀.heap.objs.size≤b)∧b≠X.env.locals∧(∀x c,X.env.cells.lookup x=cz c→c≠b)∧∀p∈X.pn++pins,p.1≠b) :
    Inv X pins σ H' {s with heap:=h',gens:=g',drawn:=d',toks:=t'}:=by
  obtain⟨m,⟨o,es,ep,ho,r⟩,_⟩:=id I.loc;obtain⟨sl,hL⟩:=u.any ho I.free λz=>(qG _ z).2.1 rfl
  exact I.step (ch:=ch) qG (λb o hL hb hc e n=>u.keep b o e n (λz=>(aI.mp (I.stkSub b z)).elim hL hb) hc) (λb o _ _ hc e n=>u.any e n hc) (λb o hc e n=>u.free b o e n hc) (λb o hc e=>u.there b o e hc) u.tups u.frzs u.tbls (λm' hm=>by
    obtain⟨o',jH,rm,oW,r'⟩:=hm;rw[ho]at oW;cases oW;exact⟨_,jH,rm,hL,r'⟩) hok hg
def Inv.turned(I:Inv X pins σ H s)(k:∀b o,b≠it→s.heap.get? b=cz o→h'.get? b=cz o)(hn:H it=xn)(hL:it≠X.env.locals)
    (h1:it∈X.ex∨X.s₀.heap.objs.size≤it) (h2:∀x c,X.env.cells.lookup x=cz c→c≠it) (h3:∀p∈X.pn++pins,p.1≠it):Inv X pins σ H {s with heap:=h',toks:=t'}:=by
  have Ah:∀b u,H b=cz u→b≠it:=λb u e z=>by rw[z,hn]at e;cases e
  refine I.step (g':=s.gens) (d':=s.drawn) (ch:=[it]) (λb hb=>?_) (λb o _ _ hc e _=>k b o (λz=>hc (by simp[z])) e) (λb o _ _ hc e _=>⟨o.slots,k b o (λz=>hc (by simp[z])) e⟩) (λ_ _ _ _ n=>n)
    (λb o hc e=>⟨o,k b o (λz=>hc (by simp[z])) e⟩) (λ_ _ e=>e) (λ_ _ _ e=>e) (λb ps e=>⟨#[],by rw[e];simp⟩) (λm hm=>?_) (λb u e=>?_) I.bare
  · have e:b=it:=by simpa using hb
    subst e;exact⟨h1,hL,h2,h3⟩
  · obtain⟨o,es,ep,ho,r⟩:=hm
    exact⟨o,es,ep,k _ o (cP hL) ho,r⟩
  · refine (I.hok b u e).stay (λc v hc q=>k c v ?_ q) (λ_ q=>q) λ_ _ q=>q
    rcases hc with z|z
    · rw[z];exact Ah b u e
    · exact Ah c _ z
def Inv.tok(I:Inv X pins σ H s)(t:Nat):Inv X pins σ H {s with toks:=t}:=I.un (h':=s.heap) (t':=t) Un.refl I.hok
theorem Inv.kept(I:Inv X pins σ H s)(k:∀b u,s.heap.get? b=cz u→h'.get? b=cz u):Inv X pins σ H {s with heap:=h',toks:=t'}:=I.un (Un.kept k) (I.hok.kept k)
theorem Inv.laid{a:ax}{o:HO}{t':Nat}(I:Inv X pins σ H s)(k:∀b u,s.heap.get? b=cz u→h'.get? b=cz u)(hp:s.heap.objs.size≤a)(new:ObjOk X.prog X.w (upd H a o) h' a o) :
    Inv X pins σ (upd H a o) {s with heap:=h',toks:=t'}:=I.un (Un.laid k hp (I.hok.fresh hp)) (I.hok.laid k hp new)
theorem Inv.write(I:Inv X pins σ H s)(mu:Mut (H x))(he:e=x∨H e=cz (.own x))(k:∀b u,b≠e→s.heap.get? b=cz u→h'.get? b=cz u)(ur:∃u,h'.get? e=cz u)
    (new:ObjOk X.prog X.w (upd H x o) h' x o):Inv X pins σ (upd H x o) {s with heap:=h',toks:=t'}:=I.un (Un.write mu he k ur) (I.hok.write mu he k ur new)
def Inv.pins_of(I:Inv X pins σ H s)(h:∀p∈k_,s.heap.get? p.1=cz p.2∧H p.1=xn∧p.1≠X.env.locals∧p.1∉X.fs∧∀v,p.2.data≠.cell v):Inv X k_ σ H s:=
  ⟨I.ok,I.os,I.bare,I.base,I.loc,I.cell,I.free,I.freeC,λp hp=>(ar.mp hp).elim (λz=>I.pin p (ak _ z)) (h p),I.hok,I.len⟩
def a6o{N:List bG}(hN:N.Nodup){i j:Nat}{x:bG}(a:N[i]?=cz x)(b:N[j]?=cz x):i=j:=by
  obtain⟨h1,e1⟩:=aQ.mp a;obtain⟨h2,e2⟩:=aQ.mp b;exact (List.getElem_inj hN).mp (e1.trans e2.symm)
def b0r{M:Model}{A:bP}{E:aj→av→Prop}{i:Nat}{x:bG}{v:V}{u:aj}{Q:Unit→av→Prop}(I:Inv X pins σ H s)(hN:X.N.Nodup)(hi:X.N[i]?=cz x)(hx:Loc X.env.scope x)(r:RelV v u)
    (h:∀s',Inv X pins (σ.set i (cz v)) H s'→(∃a,mC a s.heap s'.heap∧(a=X.env.locals∨X.env.cells.lookup x=cz a))→Q () s') (hf:X.fn x=true∨X.env.scope.names.lookup x=cz .local:=by first|exact .inl rfl|exact .inr rfl|assumption):aX M A (storeName X.env x u) Q E s:=by
  obtain⟨m,hn,hl⟩:=id I.loc;have zf:(X.env.scope.kind==.class||(X.env.scope.kind==.module&&X.env.locals !=X.env.globals))=false:=by rw[I.ok.kind];rfl
  have vI:i<σ.length:=by rw[I.len];exact (aQ.mp hi).1
  have cne:=I.cne;have tracked:∀{a:ax} {h':cQ},(∃o,s.heap.get? a=cz o∧H a=xn)→mC a s.heap h'→HOk X.prog X.w H h':=λ{a h'} ha hs b ob e=>by
    obtain⟨_,_,nv⟩:=ha;refine (I.hok b ob e).stay (λc w' hc q=>(hs.2 c ?_).trans q) (λ_ q=>q) λ_ _ q=>q
    rintro rfl;rcases hc with rfl|hc
    · rw[nv]at e;cases e
    · rw[nv]at hc;cases hc
  rcases hx with hk|hk
  · refine wpAny_storeName_local hk hn (λh' vt hs=>?_) zf
    obtain⟨oL,_,_,CS,_⟩:=id hn;refine h _ ⟨I.ok,I.os,I.bare,⟨λb o e n hb hx=>?_,λb o e n hb hx=>?_,I.base.free,λb o e hx=>?_,I.base.tups,I.base.frzs,I.base.tbls⟩,⟨_,vt,λj y v' e1 e2 e3=>?_⟩,λy c e=>?_,I.free,I.freeC,λp hp=>?_,tracked ⟨oL,CS,I.free⟩ hs,by simpa using I.len⟩ ⟨_,hs,.inl rfl⟩
    · exact (hs.2 b (bM (bt (aT e) I.ok.above))).trans (I.base.keep b o e n hb hx)
    · obtain⟨sl,e1⟩:=I.base.slot b o e n hb hx
      exact⟨sl,(hs.2 b (bM (bt (aT e) I.ok.above))).trans e1⟩
    · obtain⟨o',e1⟩:=I.base.there b o e hx
      exact⟨o',(hs.2 b (bM (bt (aT e) I.ok.above))).trans e1⟩
    · by_cases hj:j=i
      · subst hj
        rw[hi]at e1;cases e1;rw[dC vI]at e2;cases e2
        exact⟨u,r,.inl ⟨hk,by simp⟩⟩
      · rw[bu (cP hj)]at e2
        obtain⟨u',r',q⟩:=hl j y v' e1 e2 e3;refine⟨u',r',?_⟩;rcases q with⟨k,e⟩|⟨k,c,e,z⟩
        · refine .inl ⟨k,?_⟩
          have:y≠x:=λe=>hj (a6o hN e1 (e▸hi))
          simp[this,e]
        · exact .inr ⟨k,c,e,z.sameBut hs (cne y c e)⟩
    · obtain⟨w',z⟩:=I.cell y c e
      exact⟨w',z.sameBut hs (cne y c e)⟩
    · obtain⟨e,n,ne,nf,d⟩:=I.pin p hp
      exact⟨(hs.2 p.1 ne).trans e,n,ne,nf,d⟩
  · have oe:X.fn x=true:=by
      rcases hf with z|z
      · exact z
      · rw[z]at hk;cases hk
    obtain⟨c,hc⟩:=I.ok.has x (.inl hk);obtain⟨w',z⟩:=I.cell x c hc;refine wpAny_storeName_cell I.ok.kind hk hc z (λh' uu hs=>?_);obtain⟨oc,vn,yH⟩:=id z;refine h {s with heap:=h'} ⟨I.ok,I.os,I.bare,⟨λb o e n hb hx=>?_,λb o e n hb hx=>?_,I.base.free,λb o e hx=>?_,I.base.tups,I.base.frzs,I.base.tbls⟩,⟨m,hn.sameBut hs (cP (cne x c hc)),λj y v' e1 e2 e3=>?_⟩,λy c' e=>?_,I.free,I.freeC,λp hp=>?_,tracked ⟨oc,vn,I.freeC x c hc⟩ hs,by simpa using I.len⟩ ⟨c,hs,.inr hc⟩
    · exact (hs.2 b (bM (bt (aT e) (I.ok.cab x c oe hc)))).trans (I.base.keep b o e n hb hx)
    · obtain⟨sl,e1⟩:=I.base.slot b o e n hb hx
      exact⟨sl,(hs.2 b (bM (bt (aT e) (I.ok.cab x c oe hc)))).trans e1⟩
    · obtain⟨o',e1⟩:=I.base.there b o e hx
      exact⟨o',(hs.2 b (bM (bt (aT e) (I.ok.cab x c oe hc)))).trans e1⟩
    · by_cases hj:j=i
      · subst hj
        rw[hi]at e1;cases e1;rw[dC vI]at e2;cases e2
        exact⟨u,r,.inr ⟨.inl hk,c,hc,uu⟩⟩
      · rw[bu (cP hj)]at e2
        obtain⟨u',r',q⟩:=hl j y v' e1 e2 e3;refine⟨u',r',?_⟩;rcases q with q|⟨k,c',e,z'⟩
        · exact .inl q
        · refine .inr ⟨k,c',e,z'.sameBut hs ?_⟩
          rintro rfl;exact hj (a6o hN e1 (I.ok.inj _ _ _ e hc▸hi))
    · by_cases xj:c'=c
      · subst xj;exact⟨_,uu⟩
      · obtain⟨w2,z2⟩:=I.cell y c' e
        exact⟨w2,z2.sameBut hs xj⟩
    · obtain⟨e,n,ne,nf,d⟩:=I.pin p hp
      refine⟨(hs.2 p.1 ?_).trans e,n,ne,nf,d⟩;intro q;rw[q,vn]at e;have q':oc=p.2:=aE e;exact d w' (by rw[←q'];exact yH)
def a0y(I:Inv X pins σ H s)(hN:X.N.Nodup)(hi:X.N[i]?=cz x)(hx:Loc X.env.scope x)(r:RelV v u)
    (h:∀s',Inv X pins (σ.set i (cz v)) H s'→Q () s') (hf:X.fn x=true∨X.env.scope.names.lookup x=cz .local:=by first|exact .inl rfl|exact .inr rfl|assumption):aX M A (storeName X.env x u) Q E s:=
  b0r I hN hi hx r (λs' I' _=>h s' I') hf
def Inv.call'{s':av}(I:Inv X pins σ H s)(ho:s'.os=s.os)(u:Un (frs X.stack) ch H H' s.heap s'.heap)(hok:HOk X.prog X.w H' s'.heap)(hg:oO s'.gens)
    (qG:∀b∈ch,(b∈X.ex∨X.s₀.heap.objs.size≤b)∧b≠X.env.locals∧(∀x c,X.env.cells.lookup x=cz c→c≠b)∧∀p∈X.pn++pins,p.1≠b):Inv X pins σ H' s':=by
  obtain⟨h',g',d',t',o'⟩:=s';have e:o'=s.os:=ho;subst e;exact I.call (g':=g') (t':=t') (d':=d') u hok hg qG
end
abbrev XK:=aj→Option ax→Hp→Prop
abbrev St:=List (Option V)
abbrev VK:=V→Hp→Prop
abbrev TE:=St→Hp→VK→Prop
abbrev TT:=St→Hp→(Bool→Hp→Prop)→Prop
abbrev TA:=St→Hp→(List V→Hp→Prop)→Prop
structure Ends where
  nx:St→Hp→Prop
  rt:VK
  bk:St→Hp→Prop:=λ_ _=>False
  ct:St→Hp→Prop:=λ_ _=>False
abbrev TS:=Ends→St→Hp→Prop
def EP(X:Cx)(pins:List (ax×fY))(σ:St)(Q:VK)(u:aj)(s':av):Prop:=∃v H',Inv X pins σ H' s'∧RelV v u∧Q v H'
def TP(X:Cx)(pins:List (ax×fY))(σ:St)(Q:Bool→Hp→Prop)(b:Bool)(s':av):Prop:=∃H',Inv X pins σ H' s'∧Q b H'
def AP(X:Cx)(pins:List (ax×fY))(σ:St)(Q:List V→Hp→Prop)(us:List aj)(s':av):Prop:=∃vs H',Inv X pins σ H' s'∧Vals vs us∧Q vs H'
def SP(X:Cx)(pins:List (ax×fY))(D:Ends)(f:Flow)(s':av):Prop:=
  match f with
  |.next=>∃σ' H',Inv X pins σ' H' s'∧D.nx σ' H'
  |.brk=>∃σ' H',Inv X pins σ' H' s'∧D.bk σ' H'
  |.cont=>∃σ' H',Inv X pins σ' H' s'∧D.ct σ' H'
  |.ret u=>∃v σ' H',Inv X pins σ' H' s'∧RelV v u∧D.rt v H'
def PE(X:Cx)(e:Expr)(t:TE):Prop:=
  ∀(pins:List (ax×fY)) (s:av) (σ:St) (H:Hp) (Q:VK),Inv X pins σ H s→t σ H Q→aX (aW X.prog X.w) X.A (cC e X.env) (EP X pins σ Q) X.xe s
def PT(X:Cx)(e:Expr)(t:TT):Prop:=
  ∀(pins:List (ax×fY)) (s:av) (σ:St) (H:Hp) (Q:Bool→Hp→Prop),Inv X pins σ H s→t σ H Q→aX (aW X.prog X.w) X.A (Cq e X.env (cC e X.env)) (TP X pins σ Q) X.xe s
def PW(X:Cx)(e:Expr)(t:TT):Prop:=
  ∀(whole:zR aj) (pins:List (ax×fY)) (s:av) (σ:St) (H:Hp) (Q:Bool→Hp→Prop),Inv X pins σ H s→t σ H Q→aX (aW X.prog X.w) X.A (Cq e X.env whole) (TP X pins σ Q) X.xe s
def PW.pt(h:PW X e t):PT X e t:=h _
def PA(X:Cx)(es:List Expr)(t:TA):Prop:=
  ∀(pos:fT) (pins:List (ax×fY)) (s:av) (σ:St) (H:Hp) (Q:List V→Hp→Prop),Inv X pins σ H s→t σ H Q→aX (aW X.prog X.w) X.A (spliced (cH pos (au es X.env))) (AP X pins σ Q) X.xe s
def PS(X:Cx)(st:iq)(t:TS):Prop:=
  ∀(pins:List (ax×fY)) (s:av) (σ:St) (H:Hp) (D:Ends),Inv X pins σ H s→t D σ H→aX (aW X.prog X.w) X.A (exec st X.env) (SP X pins D) X.xe s
def PSs(X:Cx)(st:List iq)(t:TS):Prop:=
  ∀(pins:List (ax×fY)) (s:av) (σ:St) (H:Hp) (D:Ends),Inv X pins σ H s→t D σ H→aX (aW X.prog X.w) X.A (execs st X.env) (SP X pins D) X.xe s
def thn{α:Type}{t:zR α}{Q Q':α→av→Prop}{M:Model}{A:bP}{E:aj→av→Prop}{s:av}(h:aX M A t Q E s)(hQ:∀a s,Q a s→Q' a s):aX M A t Q' E s:=dU h hQ λ_ _ x=>x
section
variable {X:Cx}
def c0h(i:Nat):TE:=λσ H Q=>∃v,σ[i]?=cz (cz v)∧Q v H
def tC(v:V):TE:=λ_ H Q=>Q v H
def A0(hN:X.N[i]?=cz x)(hv:Vis X.env.scope x)(hd:(x==("__debug__":bG))=false:=by decide)(iE:(x==("__classdict__":bG))=false:=by decide):PE X (.Name x pos) (c0h i):=by
  intro pins s σ H Q I h;obtain⟨v,e,h⟩:=h;obtain⟨m,hn,hl⟩:=I.loc;obtain⟨u,r,l⟩:=hl i x v hN e hv;have fin:EP X pins σ Q u s:=⟨v,H,I,r,h⟩;rcases l with⟨hk,hm⟩|⟨hk,c,hc,mJ⟩
  · exact wpAny_Name (wpAny_loadName_local I.ok.kind hk hn hm fin) hd
  · rcases hk with hk|hk
    · exact wpAny_Name (wpAny_loadName_cell I.ok.kind hk hc mJ fin) hd
    · exact wpAny_Name (wpAny_loadName_free I.ok.kind hk hc mJ fin iE) hd
def a7I{i j pos}:PE X (.Constant (.int i) j pos) (tC (.int i)):=λ_ _ _ H _ I h=>wpAny_Constant_int ⟨.int i,H,I.tok _,⟨_,rfl⟩,h⟩
def c0i{b j pos}:PE X (.Constant (.bool b) j pos) (tC (.bl b)):=λ_ _ _ H _ I h=>Constant_bool ⟨.bl b,H,I,rfl,h⟩
def b7R{j pos}:PE X (.Constant .none j pos) (tC .non):=λ_ _ _ H _ I h=>Constant_none ⟨.non,H,I,rfl,h⟩
def Gl(X:Cx)(x:bG):Prop:=X.env.kindOf x=cz .globalImplicit
def a5j(I:Inv X pins σ H s)(hg:Gl X x)(hm:X.mg x=cz u)(h:Q u s)
    (hd:(x==("__debug__":bG))=false:=by decide):aX (aW X.prog X.w) X.A (cC (.Name x pos) X.env) Q E s:=
  wH I.ok.kind hg (Calls.loadGlobal_global (by rw[I.ok.glob];exact I.mod.glob.keeps I.bk) hm h) hd
def U5(I:Inv X pins σ H s)(hg:Gl X x)(hm:X.mg x=xn)(hv:gZ x=cz u)(h:Q u s)
    (hn:x≠"__name__":=by decide) (hd:(x==("__debug__":bG))=false:=by decide):aX (aW X.prog X.w) X.A (cC (.Name x pos) X.env) Q E s:=by
  obtain⟨mb,h1,h2⟩:=I.mod.blt;exact wH I.ok.kind hg (Calls.loadGlobal_builtin (by rw[I.ok.glob];exact I.mod.glob.keeps I.bk) hm (by rw[I.ok.blt];exact h1.keeps I.bk) ((h2 x hn).trans hv) h) hd
def a9g(hg:Gl X x)(hm:X.mg x=cz u)(r:RelV v u)(hd:(x==("__debug__":bG))=false:=by decide):PE X (.Name x pos) (tC v):=
  λ_ _ _ H _ I h=>a5j I hg hm ⟨v,H,I,r,h⟩ hd
def b5j(hg:Gl X x)(hm:X.mg x=xn)(hv:gZ x=cz u)(r:RelV v u)(hn:x≠"__name__":=by decide)(hd:(x==("__debug__":bG))=false:=by decide):PE X (.Name x pos) (tC v):=
  λ_ _ _ H _ I h=>U5 I hg hm hv ⟨v,H,I,r,h⟩ hn hd
variable {a b:Expr}{ta tb:TE}{pos:fT}
def tB(t:TE):TT:=λσ H Q=>t σ H λx H1=>∃c,x=.bl c∧Q c H1
variable {tA wK:TT}{rest:List Expr}
def c2a(t u:TT):TT:=λσ H Q=>t σ H λc H1=>if c=true then u σ H1 Q else Q false H1
def tOr(t u:TT):TT:=λσ H Q=>t σ H λc H1=>if c=true then Q true H1 else u σ H1 Q
def c2b(t:TT):TT:=λσ H Q=>t σ H λc H1=>Q (!c) H1
def b5k(ha:PT X a tA):PW X (.BoolOp .And [a] pos) tA:=by
  intro wh pins s σ H Q I h;refine isTrue_and (thn (ha pins s σ H Q I h) λc s1 e=>?_);cases c with
  |true=>exact isTrue_and_nil e
  |false=>exact e
def b7S(ha:PT X a tA):PW X (.BoolOp .Or [a] pos) tA:=by
  intro wh pins s σ H Q I h;refine isTrue_or (thn (ha pins s σ H Q I h) λc s1 e=>?_);cases c with
  |false=>exact isTrue_or_nil e
  |true=>exact e
def b7T(ha:PT X a tA)(hb:PW X (.BoolOp .And (b::rest) pos) wK):PW X (.BoolOp .And (a::b::rest) pos) (c2a tA wK):=by
  intro wh pins s σ H Q I h;refine isTrue_and (thn (ha pins s σ H _ I h) λc s1 ⟨H1,I1,q1⟩=>?_);cases c with
  |true=>exact hb wh pins s1 σ H1 Q I1 q1
  |false=>exact⟨H1,I1,q1⟩
def c0j(ha:PT X a tA)(hb:PW X (.BoolOp .Or (b::rest) pos) wK):PW X (.BoolOp .Or (a::b::rest) pos) (tOr tA wK):=by
  intro wh pins s σ H Q I h;refine isTrue_or (thn (ha pins s σ H _ I h) λc s1 ⟨H1,I1,q1⟩=>?_);cases c with
  |true=>exact⟨H1,I1,q1⟩
  |false=>exact hb wh pins s1 σ H1 Q I1 q1
def b7U(ha:PT X a tA):PT X (.UnaryOp .Not a pos) (c2b tA):=by
  intro pins s σ H Q I h;exact isTrue_not (ha pins s σ H (λc H1=>Q (!c) H1) I h)
def c0k(ta tb:TE):TE:=λσ H Q=>ta σ H λx H1=>∃c,x=.bl c∧if c=true then tb σ H1 Q else Q (.bl false) H1
def c0l(ta:TE):TE:=λσ H Q=>ta σ H λx H1=>∃c,x=.bl c∧Q (.bl (!c)) H1
def b7V{op}(h:PE X a t):PE X (.BoolOp op [a] pos) t:=λpins s σ H Q I hw=>BoolOp_one (h pins s σ H Q I hw)
def b7W(ha:PE X a ta)(hb:PE X (.BoolOp .And (b::rest) pos) tb):PE X (.BoolOp .And (a::b::rest) pos) (c0k ta tb):=by
  intro pins s σ H Q I h;refine BoolOp_and (thn (ha pins s σ H _ I h) λv s1 ⟨x,H1,I1,r1,q1⟩=>?_);obtain⟨c,rfl,q1⟩:=q1;cases r1
  refine fy ?_;cases c with
  |true=>exact hb pins s1 σ H1 Q I1 q1
  |false=>exact⟨.bl false,H1,I1,rfl,q1⟩
def b7X(ha:PE X a ta):PE X (.UnaryOp .Not a pos) (c0l ta):=by
  intro pins s σ H Q I h;refine UnaryOp_ (thn (ha pins s σ H _ I h) λv s1 ⟨x,H1,I1,r1,q1⟩=>?_);obtain⟨c,rfl,q1⟩:=q1;cases r1
  exact not_of (fy ⟨.bl (!c),H1,I1,rfl,q1⟩)
end
def SqL(K:ag)(H:Hp)(a:ax)(xs:List V):Prop:=
  Rd H a (.lst xs)∨
    ∃(o:fY) (its:Array aj) (n:Nat),K.lookup a=cz o∧o.cls=.type "list"∧o.dict=xn∧o.data=.seq its n∧its.size≤a_∧Vals xs its.toList
def SqT(K:ag)(H:Hp)(a:ax)(xs:List V):Prop:=
  Rd H a (.tup xs)∨
    ∃(o:fY) (its:Array aj) (n:Nat),K.lookup a=cz o∧o.cls=.type "tuple"∧o.data=.seq its n∧its.size≤a_∧Vals xs its.toList
def c2c:aj→Option V
  |.none=>cz .non
  |.bool b=>cz (.bl b)
  |.int i _=>cz (.int i)
  |.str x _=>cz (.str x)
  |.bytes b _=>cz (.byt b)
  |.float b _=>cz (.flt b)
  |.ref a=>cz (.ref a)
  |.type n=>cz (.ty n)
  |_=>xn
def RelV.abs(r:RelV x u):c2c u=cz x:=by
  cases x with
  |non=>cases r;rfl
  |bl _=>cases r;rfl
  |int _=>obtain⟨t,rfl⟩:=r;rfl
  |str _=>obtain⟨t,rfl⟩:=r;rfl
  |byt _=>obtain⟨t,rfl⟩:=r;rfl
  |flt _=>obtain⟨t,rfl⟩:=r;rfl
  |ref _=>cases r;rfl
  |ty _=>cases r;rfl
def RelV.inj(r:RelV x u)(q:RelV y u):x=y:=aE (r.abs.symm.trans q.abs)
theorem Vals.inj:∀{xs ys:List V} {us:List aj},Vals xs us→Vals ys us→xs=ys
  |_,_,_,.nil,.nil=>rfl
  |_,_,_,.cons r t,.cons r' t'=>by rw[r.inj r',Vals.inj t t']
section
variable {X:Cx}{pins:List (ax×fY)}{σ:St}{H:Hp}{s:av}{a:ax}{xs ys:List V}
def SqL.of{K:ag}(h:H a=cz (.lst xs)):SqL K H a xs:=.inl (.inl h)
def SqT.of{K:ag}(h:H a=cz (.tup xs)):SqT K H a xs:=.inl (.inl h)
def Inv.list(I:Inv X pins σ H s)(h:SqL X.K H a xs):∃its:List aj,Vals xs its∧PlainL s.heap a its.toArray∧xs.length≤a_:=by
  rcases h with h|⟨o,its,n,hk,hc,hd,hs,hz,r⟩
  · obtain⟨z,its,n,r,e⟩:=h.ok I.hok
    exact⟨its,r,⟨_,n,e,rfl,rfl,rfl⟩,z⟩
  · refine⟨its.toList,r,⟨o,n,I.kIn a o hk,hc,hd,by simpa using hs⟩,?_⟩
    have e:=r.length;simp only[aR]at e;omega
def Inv.tuple(I:Inv X pins σ H s)(h:SqT X.K H a xs):∃its:List aj,Vals xs its∧IsTup s.heap a its.toArray∧xs.length≤a_:=by
  rcases h with h|⟨o,its,n,hk,hc,hs,hz,r⟩
  · obtain⟨z,its,r,p⟩:=h.ok I.hok
    exact⟨its,r,p,z⟩
  · refine⟨its.toList,r,⟨o,I.kIn a o hk,hc,n,by simpa using hs⟩,?_⟩
    have e:=r.length;simp only[aR]at e;omega
def Inv.list_inj(I:Inv X pins σ H s)(h:SqL X.K H a xs)(h':SqL X.K H a ys):xs=ys:=by
  obtain⟨its,r,⟨o,n,e,_,_,d⟩,_⟩:=I.list h;obtain⟨its',r',⟨o',n',e',_,_,d'⟩,_⟩:=I.list h';rw[e]at e';cases e';rw[d]at d'
  injection d' with d1 _
  have:its=its':=by simpa using dH Array.toList d1
  subst this;exact r.inj r'
end
abbrev Cx.wish(X:Cx)(E:aj→av→Prop):Cx:={X with xe:=E}
abbrev Cx.nox(X:Cx):Cx:=X.wish λ_ _=>False
theorem Cx.Ok.wish{X:Cx}(ok:X.Ok)(E:aj→av→Prop):(X.wish E).Ok:=
  ⟨ok.mod,ok.kind,ok.glob,ok.blt,ok.above,ok.inj,ok.has,ok.cab,ok.hd,ok.frames,ok.stk,ok.exf,ok.bs,ok.bsz,ok.noex,ok.exfs,ok.funs,ok.frf,ok.tabs⟩
def Cx.Ok.unwish{X:Cx}(ok:(X.wish E).Ok):X.Ok:=
  ⟨ok.mod,ok.kind,ok.glob,ok.blt,ok.above,ok.inj,ok.has,ok.cab,ok.hd,ok.frames,ok.stk,ok.exf,ok.bs,ok.bsz,ok.noex,ok.exfs,ok.funs,ok.frf,ok.tabs⟩
section
variable {X:Cx}{pins:List (ax×fY)}{σ:St}{H:Hp}{s:av}{E:aj→av→Prop}
theorem Inv.wish(I:Inv X pins σ H s)(E:aj→av→Prop):Inv (X.wish E) pins σ H s:=⟨I.ok.wish E,I.os,I.bare,I.base,I.loc,I.cell,I.free,I.freeC,I.pin,I.hok,I.len⟩
theorem Inv.unwish(I:Inv (X.wish E) pins σ H s):Inv X pins σ H s:=⟨I.ok.unwish,I.os,I.bare,I.base,I.loc,I.cell,I.free,I.freeC,I.pin,I.hok,I.len⟩
theorem SP.unwish(h:SP (X.wish E) pins D f s'):SP X pins D f s':=by
  cases f with
  |next=>obtain⟨σ',H',I,q⟩:=h;exact⟨σ',H',I.unwish,q⟩
  |brk=>obtain⟨σ',H',I,q⟩:=h;exact⟨σ',H',I.unwish,q⟩
  |cont=>obtain⟨σ',H',I,q⟩:=h;exact⟨σ',H',I.unwish,q⟩
  |ret u=>obtain⟨v,σ',H',I,r,q⟩:=h;exact⟨v,σ',H',I.unwish,r,q⟩
theorem PSs.nox{st:List iq}{t:TS}(h:PSs X.nox st t):PSs X st t:=λpins s σ H D I hw=>
  dU (h pins s σ H D (I.wish _) hw) (λ_ _ q=>q.unwish) λ_ _ z=>cK z
end
section
variable {X:Cx}{st:iq}{rest:List iq}{t u:TS}{e:Expr}{te:TE}{pos:fT}
def c0m:TS:=λD σ H=>D.nx σ H
def c2d(t u:TS):TS:=λD σ H=>t {D with nx:=u D} σ H
def b5l:PSs X [] c0m:=λ_ _ σ H _ I h=>mG ⟨σ,H,I,h⟩
def a0z(h1:PS X st t)(h2:PSs X rest u):PSs X (st::rest) (c2d t u):=by
  intro pins s σ H D I h;refine wpAny_execs_cons (thn (h1 pins s σ H {D with nx:=u D} I h) λf s1 q=>?_);cases f with
  |next=>
    obtain⟨σ',H',I',q⟩:=q;exact h2 pins s1 σ' H' D I' q
  |ret v=>exact q
  |brk=>exact q
  |cont=>exact q
def a9h(h1:PS X st t):PSs X [st] t:=by
  intro pins s σ H D I h;refine wpAny_execs_cons (thn (h1 pins s σ H D I h) λf s1 q=>?_);cases f with
  |next=>exact mG q
  |ret v=>exact q
  |brk=>exact q
  |cont=>exact q
def Inv.quiet{pins:List (ax×fY)}{σ:St}{H:Hp}{s:av}(I:Inv X pins σ H s):interactive X.env=false:=by simp[interactive,I.ok.kind]
def c0n(te:TE):TS:=λD σ H=>te σ H λ_ H1=>D.nx σ H1
def Q6(he:PE X e te)(hs:eU e xn pos.line X.env=pure false:=by rfl):PS X (.Expr e pos) (c0n te):=by
  intro pins s σ H D I h;exact wpAny_Expr_any (thn (he pins s σ H _ I h) λv s1 ⟨x,H1,I1,r1,q1⟩=>⟨σ,H1,I1,q1⟩) I.quiet hs
def c2e(te:TE):TS:=λD σ H=>te σ H D.rt
def b7Y(he:PE X e te):PS X (.Return (cz e) pos) (c2e te):=by
  intro pins s σ H D I h;exact wpAny_Return_some (thn (he pins s σ H _ I h) λv s1 ⟨x,H1,I1,r1,q1⟩=>⟨x,σ,H1,I1,r1,q1⟩)
def c2f(c:TT)(t u:TS):TS:=λD σ H=>c σ H λb H1=>if b=true then t D σ H1 else u D σ H1
def c0o{c:Expr}{a b:List iq}{tc:TT}(hc:PT X c tc)(ha:PSs X a t)(hb:PSs X b u):PS X (.If c a b pos) (c2f tc t u):=by
  intro pins s σ H D I h;refine wpAny_If (thn (hc pins s σ H _ I h) λd s1 ⟨H1,I1,q1⟩=>?_);cases d with
  |true=>exact ha pins s1 σ H1 D I1 q1
  |false=>exact hb pins s1 σ H1 D I1 q1
def b7Z:TS:=λ_ _ _=>False
def b2j:PS X st b7Z:=λ_ _ _ _ _ _ h=>h.elim
end
abbrev TG:=V→St→Hp→(St→Hp→Prop)→Prop
abbrev TGs:=List V→St→Hp→(St→Hp→Prop)→Prop
def PG(X:Cx)(target:Expr)(t:TG):Prop:=
  ∀(pins:List (ax×fY)) (s:av) (σ:St) (H:Hp) (v:V) (u:aj) (Q:St→Hp→Prop),Inv X pins σ H s→RelV v u→t v σ H Q→
    aX (aW X.prog X.w) X.A (lG target X.env u) (λ_ s'=>∃σ' H',Inv X pins σ' H' s'∧Q σ' H') X.xe s
def PGs(X:Cx)(ts:List Expr)(t:TGs):Prop:=
  ∀(pins:List (ax×fY)) (s:av) (σ:St) (H:Hp) (vs:List V) (us:List aj) (Q:St→Hp→Prop),Inv X pins σ H s→Vals vs us→t vs σ H Q→
    aX (aW X.prog X.w) X.A (assignInOrder ((gS ts X.env).map (·.2)) us) (λ_ s'=>∃σ' H',Inv X pins σ' H' s'∧Q σ' H') X.xe s
abbrev b8a:=V→V→V→Hp→(Hp→Prop)→Prop
def c0p(X:Cx)(t:b8a):Prop:=
  ∀(pins:List (ax×fY)) (s:av) (σ:St) (H:Hp) (o i v:V) (ov iv u:aj) (Q:Hp→Prop),Inv X pins σ H s→RelV o ov→RelV i iv→RelV v u→t o i v H Q→
    aX (aW X.prog X.w) X.A (BW ov iv u) (λ_ s'=>∃H',Inv X pins σ H' s'∧Q H') X.xe s
abbrev TIp:=V→V→Hp→VK→Prop
def PIp(X:Cx)(op:Operator)(t:TIp):Prop:=
  ∀(pins:List (ax×fY)) (s:av) (σ:St) (H:Hp) (x y:V) (v u:aj) (Q:VK),Inv X pins σ H s→RelV x v→RelV y u→t x y H Q→
    aX (aW X.prog X.w) X.A (inplaceOp op v u) (EP X pins σ Q) X.xe s
section
variable {X:Cx}{pos:fT}
def K0(i:Nat):TG:=λv σ H Q=>Q (σ.set i (cz v)) H
def n5(hN:X.N.Nodup)(hi:X.N[i]?=cz x)(hx:Loc X.env.scope x)(hf:X.fn x=true∨X.env.scope.names.lookup x=cz .local:=by first|exact .inl rfl|exact .inr rfl|assumption):PG X (.Name x pos) (K0 i):=by
  intro pins s σ H v u Q I r h;exact wpAny_assign_Name (a0y I hN hi hx r (λs' I'=>⟨_,H,I',h⟩) hf)
def b5m:TGs:=λvs σ H Q=>vs=[]∧Q σ H
def a2K(t:TG)(u:TGs):TGs:=λvs σ H Q=>∃v r,vs=v::r∧t v σ H λσ' H'=>u r σ' H' Q
def X3:PGs X [] b5m:=by
  intro pins s σ H vs us Q I r h;obtain⟨e,h⟩:=h;subst e;cases r
  exact assignInOrder_nil ⟨σ,H,I,h⟩
def x9{e:Expr}{es:List Expr}{t:TG}{u:TGs}(h1:PG X e t)(h2:PGs X es u)
    (hs:(gS (e::es) X.env).map (·.2)=lG e X.env::(gS es X.env).map (·.2):=by rfl):PGs X (e::es) (a2K t u):=by
  intro pins s σ H vs us Q I r h;obtain⟨v,vr,e1,h⟩:=h;subst e1;cases r with
  |cons r rr=>
    rw[hs];refine assignInOrder_cons (thn (h1 pins s σ H _ _ _ I r h) λ_ s1 ⟨σ1,H1,I1,q1⟩=>?_);exact h2 pins s1 σ1 H1 _ _ Q I1 rr q1
def b8b(K:ag)(n:Nat)(t:TGs):TG:=λv σ H Q=>∃a xs,v=.ref a∧SqT K H a xs∧xs.length=n∧t xs σ H Q
def a2L(hc:X.calm=true)(h:PGs X es t)
    (hn:(gS es X.env).length=n:=by rfl) (nY:(gS es X.env).findIdx? (·.1)=xn:=by rfl):PG X (.Tuple es k pos) (b8b X.K n t):=by
  intro pins s σ H v u Q I r hw;obtain⟨a,xs,e1,hq,hl,hw⟩:=hw;subst e1;cases r
  obtain⟨its,rv,ht,hz⟩:=I.tuple hq;refine assign_Tuple_tuple (I.ok.hd hc) ht (by simp[hn,←hl,rv.length]) nY λh' hx=>?_
  have I1:Inv X pins σ H {s with heap:=h'}:=I.kept (t':=s.toks) λb o e=>hx b o (bM (aT e)) e
  exact h pins _ σ H xs _ Q I1 (by simpa using rv) hw
def c2g(to ti:TE)(t:b8a):TG:=λv σ H Q=>to σ H λo H1=>ti σ H1 λi H2=>t o i v H2 λH3=>Q σ H3
def b8c{o i:Expr}{to ti:TE}{t:b8a}(ho:PE X o to)(hi:PE X i ti)(hs:c0p X t)
    (ha:∀v,lG (.Subscript o i pos) X.env v=(do
      let ov ←nO [v] (cC o X.env)
      let iv ←nO [v,ov] (cC i X.env)
      BV pos
      nO [v,ov,iv] (BW ov iv v)
      release [v,ov,iv] []):=by intro _;rfl):PG X (.Subscript o i pos) (c2g to ti t):=by
  intro pins s σ H v u Q I r h;rw[ha];refine af (cZ (thn (ho pins s σ H _ I h) λov s1 ⟨x,H1,I1,r1,q1⟩=>?_));refine af (cZ (thn (hi pins s1 σ H1 _ I1 q1) λiv s2 ⟨y,H2,I2,r2,q2⟩=>?_));refine af (lz (af (cZ (thn (hs pins s2 σ H2 x y v ov iv u _ I2 r1 r2 r q2) λ_ s3 ⟨H3,I3,q3⟩=>?_))));exact wpAny_release ⟨σ,H3,I3,q3⟩
def b8d(te:TE)(g:TG):TS:=λD σ H=>te σ H λx H1=>g x σ H1 D.nx
def b2k{tg e:Expr}{te:TE}{g:TG}(he:PE X e te)(hg:PG X tg g)(hs:xK [tg] e pos.line X.env=pure false:=by rfl)(hw:xM [tg] e X.env=pure xn:=by rfl)
    (h1:(gS [tg] X.env).map (·.2)=[lG tg X.env]:=by rfl):PS X (.Assign [tg] e pos) (b8d te g):=by
  intro pins s σ H D I h;refine wpAny_Assign_stores (thn (he pins s σ H _ I h) λv s1 ⟨x,H1,I1,r1,q1⟩=>?_) hs hw;rw[h1];exact thn (hg pins s1 σ H1 x v _ I1 r1 q1) λ_ s2 q=>q
def a5k{i:Nat}{x:bG}{e:Expr}{te:TE}{pos':fT}(hN:X.N.Nodup)(hi:X.N[i]?=cz x)(hx:Loc X.env.scope x)(he:PE X e te)(hs:eU e (cz (.Name x pos')) pos.line X.env=pure false:=by rfl)(hf:X.fn x=true∨X.env.scope.names.lookup x=cz .local:=by first|exact .inl rfl|exact .inr rfl|assumption) :
    PS X (.Assign [.Name x pos'] e pos) (b8d te (K0 i)):=by
  intro pins s σ H D I h;refine wpAny_Assign_Name (thn (he pins s σ H _ I h) λv s1 ⟨y,H1,I1,r1,q1⟩=>?_) hs;exact a0y I1 hN hi hx r1 (λs2 I2=>⟨_,H1,I2,q1⟩) hf
def c2h(i:Nat)(te:TE)(ti:TIp):TS:=λD σ H=>∃x,σ[i]?=cz (cz x)∧te σ H λy H1=>ti x y H1 λz H2=>D.nx (σ.set i (cz z)) H2
def b8e{i:Nat}{x:bG}{e:Expr}{te:TE}{op:Operator}{ti:TIp}{pos':fT}(hN:X.N.Nodup)(hi:X.N[i]?=cz x)(hx:Loc X.env.scope x)(he:PE X e te)(ho:PIp X op ti)(hf:X.fn x=true∨X.env.scope.names.lookup x=cz .local:=by first|exact .inl rfl|exact .inr rfl|assumption) :
    PS X (.AugAssign (.Name x pos') op e pos) (c2h i te ti):=by
  intro pins s σ H D I h;obtain⟨v,e1,h⟩:=h;obtain⟨m,hn,hl⟩:=I.loc;have BP:Vis X.env.scope x:=by rcases hx with k|k;exact .inl k;exact .inr (.inl k)
  obtain⟨u,r,l⟩:=hl i x v hi e1 BP;refine wpAny_AugAssign_Name ?_;have go:aX (aW X.prog X.w) X.A (cC e X.env) (λw s₂=>aX (aW X.prog X.w) X.A (inplaceOp op u w) (λr s₃=>aX (aW X.prog X.w) X.A (storeName X.env x r) (λ_=>SP X pins D .next) X.xe s₃) X.xe s₂) X.xe s:=by
    refine thn (he pins s σ H _ I h) λw s1 ⟨y,H1,I1,r1,q1⟩=>?_
    refine thn (ho pins s1 σ H1 v y u w _ I1 r r1 q1) λz s2 ⟨zv,H2,I2,r2,q2⟩=>?_
    exact a0y I2 hN hi hx r2 (λs3 I3=>⟨_,H2,I3,q2⟩) hf
  rcases l with⟨hk,hm⟩|⟨hk,c,hc,mJ⟩
  · exact wpAny_loadName_local I.ok.kind hk hn hm go
  · rcases hk with hk|hk
    · exact wpAny_loadName_cell I.ok.kind hk hc mJ go
    · rcases hx with k|k
      · have:X.env.scope.names.lookup x=cz .free:=hk
        rw[k]at this;cases this
      · have:X.env.scope.names.lookup x=cz .free:=hk
        rw[k]at this;cases this
def ipI(f:Int→Int→Int):TIp:=λx y H Q=>∃i j,x=.int i∧y=.int j∧Q (.int (f i j)) H
def b8f:PIp X .Add (ipI λi j=>i+j):=by
  intro pins s σ H x y v u Q I r1 r2 h;obtain⟨i,j,e1,e2,q⟩:=h;subst e1;subst e2;obtain⟨t,rfl⟩:=r1;obtain⟨t',rfl⟩:=r2;exact iadd_int ⟨.int _,H,I.tok _,⟨_,rfl⟩,q⟩
end
section
variable {X:Cx}{pos:fT}
def b8g(c:TT)(tb:TS):TS:=λD σ H=>∃W:Nat→St→Hp→Prop,(∃m,W m σ H)∧∀m σ H,W m σ H→
  c σ H λb H1=>if b=true then ∃N:St→Hp→Prop,(∀σ' H',N σ' H'→∃m',m'<m∧W m' σ' H')∧tb {D with nx:=N,ct:=N,bk:=D.nx} σ H1 else D.nx σ H1
def b2l{c:Expr}{body:List iq}{tc:TT}{tb:TS}(hp:nS (aW X.prog X.w) X.A X.env X.xe)(hc:PT X c tc)(hb:PSs X body tb):PS X (.While c body [] pos) (b8g tc tb):=by
  intro pins s σ H D I h;obtain⟨W,⟨m0,w0⟩,turn⟩:=h;refine wpAny_While (codeAny_whileLoop (λn s'=>∃σ' H',Inv X pins σ' H' s'∧W n σ' H') ?_ m0 ⟨σ,H,I,w0⟩);rintro n s1 ⟨σ1,H1,I1,w1⟩;refine gC hp (thn (hc pins s1 σ1 H1 _ I1 (turn n σ1 H1 w1)) λb s2 ⟨H2,I2,q2⟩=>?_);cases b with
  |true=>
    obtain⟨N,hN,q2⟩:=q2;rw[aD rfl];refine gC hp (thn (hb pins s2 σ1 H2 _ I2 q2) λf s3 q3=>?_);cases f with
    |next=>
      obtain⟨σ3,H3,I3,n3⟩:=q3;obtain⟨m',hm,w3⟩:=hN σ3 H3 n3;exact⟨m',hm,σ3,H3,I3,w3⟩
    |cont=>
      obtain⟨σ3,H3,I3,n3⟩:=q3;obtain⟨m',hm,w3⟩:=hN σ3 H3 n3;exact⟨m',hm,σ3,H3,I3,w3⟩
    |brk=>exact q3
    |ret v=>exact q3
  |false=>
    rw[aM cw];exact mG ⟨σ1,H2,I2,q2⟩
end
structure It where
  go:Nat→Hp→Prop
  yld:Nat→Hp→V→Hp→Prop
  stop:Nat→Hp→Prop
def a3X(X:Cx)(pins:List (ax×fY))(H:Hp)(b:ax):Prop:=
  H b=xn∧b≠X.env.locals∧b∉X.fs∧(b∈X.ex∨X.s₀.heap.objs.size≤b)∧(∀x c,X.env.cells.lookup x=cz c→c≠b)∧∀p∈X.pn++pins,p.1≠b
def Inv.fpOk(I:Inv X pins σ H s)(hb:s.heap.objs.size≤b)(hn:H' b=xn):a3X X pins H' b:=by
  refine⟨hn,jA (bt I.lt hb),I.nofs hb,.inr (cV I.sz hb),λx c e z=>?_,λp hp z=>?_⟩
  · obtain⟨v,q⟩:=I.cell x c e
    exact absurd (bt q.lt (by rw[z];exact hb)) (dS _)
  · exact absurd (bt (aT (I.pin p hp).1) (by rw[z];exact hb)) (dS _)
structure Turn (P:bD) (w:cm) (K:ag) (tg:Expr) (J:It) (fp:List ax) (it:ax) (tn:Nat→cQ→Prop):Prop where
  mem:it∈fp
  obj:∀i h,tn i h→∀b∈fp,∃o,h.get? b=cz o∧∀v,o.data≠.cell v
  keep:∀i h h',tn i h→(∀b∈fp,∀o,h.get? b=cz o→h'.get? b=cz o)→tn i h'
  item:∀(X:Cx),X.prog=P→X.w=w→X.K=K→X.calm=true→∀(i:Nat) (pins:List (ax×fY)) (s:av) (σ:St) (H:Hp) (E:aj→av→Prop),Inv X pins σ H s→(∀b∈fp,a3X X pins H b)→tn i s.heap→J.go i H→
    aX (aW P w) X.A (uQ (.ref it)) (λr s1=>∃u,r=cz u∧
      aX (aW P w) X.A (mH tg (.ref it) u) (λ_ s2=>∃x H',Inv X pins σ H' s2∧RelV x u∧J.yld i H x H'∧tn (i+1) s2.heap∧∀b∈fp,H' b=xn) E s1) E s
  done:∀(X:Cx),X.prog=P→X.w=w→X.K=K→X.calm=true→∀(i:Nat) (pins:List (ax×fY)) (s:av) (σ:St) (H:Hp) (E:aj→av→Prop),Inv X pins σ H s→(∀b∈fp,a3X X pins H b)→tn i s.heap→J.stop i H→
    aX (aW P w) X.A (uQ (.ref it)) (λr s1=>r=xn∧Inv X pins σ H s1) E s
  self:∀(A:bP) (i:Nat) (s:av) (Q:aj→av→Prop) (E:aj→av→Prop),tn i s.heap→Q (.ref it) s→aX (aW P w) A (pyIter (.ref it)) Q E s
abbrev TI:=St→Hp→(It→Hp→Prop)→Prop
def PIE(X:Cx)(pins:List (ax×fY))(σ:St)(tg:Expr)(R:It→Hp→Prop)(yb:aj)(s2:av):Prop:=
  ∃(it:ax) (fp:List ax) (tn:Nat→cQ→Prop) (J:It) (H':Hp),yb=.ref it∧Inv X pins σ H' s2∧Turn X.prog X.w X.K tg J fp it tn∧tn 0 s2.heap∧(∀b∈fp,a3X X pins H' b)∧R J H'
def PI(X:Cx)(tg iter:Expr)(wi:TI):Prop:=
  ∀(pins:List (ax×fY)) (s:av) (σ:St) (H:Hp) (R:It→Hp→Prop),Inv X pins σ H s→wi σ H R→
    aX (aW X.prog X.w) X.A (cC iter X.env) (λv s1=>aX (aW X.prog X.w) X.A (pyIter v) (PIE X pins σ tg R) X.xe s1) X.xe s
def b2m{s:av}(ho:s.heap.get? it=cz o)(hc:o.cls=.type n)(hd:o.data=.fields vs)
    (hn:["enumerate","zip","dict_itemiterator","dict_reverseitemiterator","odict_iterator","itertools.zip_longest","itertools.pairwise"].contains n=false) (hQ:Q () s):aX M A (mH tg (.ref it) u) Q E s:=by
  unfold mH;cases tg<;>first
    |exact aC hQ
    | (cases u<;>first
        |exact aC hQ
        | (refine af (wpAny_load ho ?_)
           rw[hc,hd];show aX M A (if (["enumerate","zip","dict_itemiterator","dict_reverseitemiterator","odict_iterator","itertools.zip_longest","itertools.pairwise"].contains n&&vs[0]?==cz (jw _))=true then _ else _) Q E s;rw[aM (by intro h;rw[hn,Bool.false_and]at h;cases h)];exact aC hQ))
def Itl(K:ag)(a:ax):It:=
  ⟨λi H=>∃xs x,SqL K H a xs∧xs[i]?=cz x,λi H x H'=>H'=H∧∀xs,SqL K H a xs→xs[i]?=cz x,λi H=>∃xs,SqL K H a xs∧xs.length≤i⟩
def Itr(lo:Int)(n:Nat):It:=⟨λi _=>i<n,λi H x H'=>H'=H∧x=.int (lo+i),λi _=>n≤i⟩
def b0s{P:bD}{w:cm}{K:ag}{tg:Expr}(a it:ax):Turn P w K tg (Itl K a) [it] it (λi h=>h.IsListIter it a i) where
  mem:=by simp
  obj:=λi h st b hb=>by
    have e:b=it:=by simpa using hb
    subst e;obtain⟨o,e,c,d⟩:=st;exact⟨o,e,λv z=>by rw[d]at z;cases z⟩
  keep:=λi h h' st k=>st.at λo e=>k it (by simp) o e
  item:=by
    intro X hP hw hK hc i pins s σ H E I hf st hg;subst hP hw hK;obtain⟨xs,x,hq,hx⟩:=hg;obtain⟨its,rv,p,hz⟩:=I.list hq;obtain⟨u,hu,ru⟩:=rv.get hx;obtain⟨f0,f1,f2,f3,f4,f5⟩:=hf it (by simp);refine wpAny_pyNext_list_item st p.isList (x:=u) (by simpa using hu) λh' cS sb=>?_
    have I1:Inv X pins σ H {s with heap:=h'}:=I.turned (t':=s.toks) (λb o hb e=>(sb.2 b hb).trans e) f0 f1 f3 f4 f5;obtain⟨o,e,c,d⟩:=id cS;exact⟨u,rfl,b2m (s:={s with heap:=h'}) e c d (by decide) ⟨x,H,I1,ru,⟨rfl,λys hy=>by rw[I.list_inj hy hq];exact hx⟩,cS,λb hb=>(hf b hb).1⟩⟩
  done:=by
    intro X hP hw hK hc i pins s σ H E I hf st hg;subst hP hw hK;obtain⟨xs,hq,hx⟩:=hg;obtain⟨its,rv,p,hz⟩:=I.list hq;obtain⟨f0,f1,f2,f3,f4,f5⟩:=hf it (by simp);have hl:=rv.length;exact wpAny_pyNext_list_end (I.ok.hd hc) st p.isList (by simp;omega) λh' eb=>⟨rfl,I.turned (t':=s.toks) (λb o hb e=>eb b o hb e) f0 f1 f3 f4 f5⟩
  self:=λ_ _ _ _ _ st h=>wpAny_pyIter_listiter st h
def a7J{P:bD}{w:cm}{K:ag}{tg:Expr}(it:ax)(lo:Int)(n:Nat):Turn P w K tg (Itr lo n) [it] it (λi h=>IsRangeIter h it (lo+(i:Nat)*1) ((n:Int)-(i:Nat)) 1) where
  mem:=by simp
  obj:=λi h st b hb=>by
    have e:b=it:=by simpa using hb
    subst e;exact⟨_,st,λv z=>by
      have z':Data.fields _=Data.cell v:=z;cases z'⟩
  keep:=λi h h' st k=>k it (by simp) _ st
  item:=by
    intro X hP hw hK hc i pins s σ H E I hf st hg;subst hP hw hK;obtain⟨f0,f1,f2,f3,f4,f5⟩:=hf it (by simp);have W:=Walks.range (prog:=X.prog) (w:=X.w) (I.ok.hd hc) it lo 1 n;refine W.item i s _ _ hg st λv h' tk hv cS kk=>?_
    obtain⟨t,rfl⟩:=hv;have I1:Inv X pins σ H {s with heap:=h',toks:=tk}:=I.turned (λb o hb e=>kk b o (by simpa using hb) e) f0 f1 f3 f4 f5;refine⟨_,rfl,b2m (s:={s with heap:=h',toks:=tk}) (n:="range_iterator") cS rfl rfl (by decide) ⟨.int (lo+i),H,I1,⟨t,?_⟩,⟨rfl,rfl⟩,cS,λb hb=>(hf b hb).1⟩⟩;rw[Int.mul_one]
  done:=by
    intro X hP hw hK hc i pins s σ H E I hf st hg;subst hP hw hK;obtain⟨f0,f1,f2,f3,f4,f5⟩:=hf it (by simp);exact wpAny_pyNext_range_end (I.ok.hd hc) st (by have:n≤i:=hg;omega) λh' eb=>⟨rfl,I.turned (t':=s.toks) (λb o hb e=>eb b o hb e) f0 f1 f3 f4 f5⟩
  self:=λ_ _ _ _ _ st h=>wpAny_pyIter_rangeiter st h
section
variable {X:Cx}{tg:Expr}
def c0q(K:ag)(tl:TE):TI:=λσ H R=>tl σ H λx H1=>∃a,x=.ref a∧(∃xs,SqL K H1 a xs)∧R (Itl K a) H1
def b5n{l:Expr}{tl:TE}(hl:PE X l tl):PI X tg l (c0q X.K tl):=by
  intro pins s σ H R I h;refine thn (hl pins s σ H _ I h) λv s1 ⟨x,H1,I1,r1,q1⟩=>?_
  obtain⟨a,e,⟨xs,hq⟩,q⟩:=q1;subst e;cases r1
  obtain⟨its,rv,p,hz⟩:=I1.list hq;refine wpAny_pyIter_list p.isList ?_;refine⟨s1.heap.objs.size,[s1.heap.objs.size],_,_,H1,rfl,I1.kept (t':=s1.toks) λb o e=>aF _ e,b0s a _,⟨_,bj _ rfl,rfl,rfl⟩,λb hb=>?_,q⟩;have e:b=s1.heap.objs.size:=by simpa using hb
  subst e;exact I1.fpOk (az _) (I1.hok.fresh (az _))
def a6p{pins:List (ax×fY)}{σ:St}{H:Hp}{s:av}{R:It→Hp→Prop}{E:aj→av→Prop}{lo hi:Int}{t u v:Tok}{tk:Nat}(I:Inv X pins σ H s)(h1:-(2^62)≤lo)(h2:lo<2^62)(h3:-(2^62)≤hi)(h4:hi<2^62)
    (q:R (Itr lo (hi-lo).toNat) H):aX (aW X.prog X.w) X.A (pyIter (.ref s.heap.objs.size)) (PIE X pins σ tg R) E {s with heap:=s.heap.push {cls:=.type "range",data:=.fields #[.int lo t,.int hi u,.int 1 v]},toks:=tk}:=by
  refine wpAny_pyIter_range (IsRange.new ..) (small_one h1 h2 h3 h4) ?_;have I1:Inv X pins σ H {s with heap:=s.heap.push {cls:=.type "range",data:=.fields #[.int lo t,.int hi u,.int 1 v]},toks:=tk}:=I.kept λb o e=>aF _ e
  refine⟨(s.heap.push {cls:=.type "range",data:=.fields #[.int lo t,.int hi u,.int 1 v]}).objs.size,[(s.heap.push {cls:=.type "range",data:=.fields #[.int lo t,.int hi u,.int 1 v]}).objs.size],_,_,H,rfl,
    I1.kept (t':=tk) λb o e=>aF _ e,a7J _ lo (hi-lo).toNat,?_,λb hb=>?_,q⟩
  · have e1:lo+((0:Nat):Int)*1=lo:=by simp
    have e2:(((hi-lo).toNat:Nat):Int)-((0:Nat):Int)=Builtin.Range.rangeSize lo hi 1:=by rw[rangeSize_one];split<;>omega
    show IsRangeIter _ _ (lo+((0:Nat):Int)*1) ((((hi-lo).toNat:Nat):Int)-((0:Nat):Int)) 1;rw[e1,e2];exact bj _ rfl
  · have e:b=(s.heap.push {cls:=.type "range",data:=.fields #[.int lo t,.int hi u,.int 1 v]}).objs.size:=by simpa using hb
    subst e;exact I1.fpOk (az _) (I1.hok.fresh (az _))
def c0r(ta:TA):TI:=λσ H R=>ta σ H λvs H1=>∃j:Int,vs=[.int j]∧-(2^62)≤j∧j<2^62∧R (Itr 0 j.toNat) H1
def c0s(ta:TA):TI:=λσ H R=>ta σ H λvs H1=>∃i j:Int,vs=[.int i,.int j]∧(-(2^62)≤i∧i<2^62∧-(2^62)≤j∧j<2^62)∧R (Itr i (j-i).toNat) H1
def b0t{a:Expr}{ta:TA}{p pos:fT}(hg:Gl X "range")(hm:X.mg "range"=xn)(ha:PA X [a] ta)(hs:au [a] X.env=[(false,cC a X.env)]:=by rfl):PI X tg (.Call (.Name "range" p) [a] [] pos) (c0r ta):=by
  intro pins s σ H R I h;refine Call_ (U5 I hg hm boot_range (fm (thn (ha pos pins s σ H _ I h) λus s1 ⟨vs,H1,I1,r1,q1⟩=>?_) hs rfl));obtain⟨j,e,q1,q2,q⟩:=q1;subst e;cases r1 with
  |cons r rr=>
    cases rr
    obtain⟨t,rfl⟩:=r;exact call_range_1 (a6p I1 (by omega) (by omega) q1 q2 (by simpa using q))
def b0u(hg:Gl X "range")(hm:X.mg "range"=xn)(ha:PA X [a,b] ta)(hs:au [a,b] X.env=[(false,cC a X.env),(false,cC b X.env)]:=by rfl)(mf:au [b] X.env=[(false,cC b X.env)]:=by rfl) :
    PI X tg (.Call (.Name "range" p) [a,b] [] pos) (c0s ta):=by
  intro pins s σ H R I h;refine Call_ (U5 I hg hm boot_range (fm (thn (ha pos pins s σ H _ I h) λus s1 ⟨vs,H1,I1,r1,q1⟩=>?_) (by rw[hs,mf]) (by rw[mf];rfl)));obtain⟨i,j,e,⟨q1,q2,q3,q4⟩,q⟩:=q1;subst e;cases r1 with
  |cons r rr=>
    cases rr with
    |cons r' rr=>
      cases rr
      obtain⟨t,rfl⟩:=r;obtain⟨t',rfl⟩:=r';exact call_range_2 (a6p I1 q1 q2 q3 q4 q)
def c2i(wi:TI)(g:TG)(tb:TS):TS:=λD σ H=>wi σ H λJ H1=>∃W:Nat→Nat→St→Hp→Prop,(∃m,W 0 m σ H1)∧∀i m σ H,W i m σ H→
  (J.stop i H∧D.nx σ H)∨(J.go i H∧∃N:St→Hp→Prop,(∀σ' H',N σ' H'→∃m',m'<m∧W (i+1) m' σ' H')∧∀x H',J.yld i H x H'→g x σ H' λσ2 H2=>tb {D with nx:=N,ct:=N,bk:=D.nx} σ2 H2)
def a5l(fp:List ax)(h:cQ):List (ax×fY):=fp.filterMap λb=>(h.get? b).map λo=>(b,o)
def C1{h:cQ}(hb:b∈fp)(e:h.get? b=cz o):(b,o)∈a5l fp h:=dY.mpr ⟨b,hb,by rw[e];rfl⟩
def b0v(hp:p∈a5l fp h):p.1∈fp∧h.get? p.1=cz p.2:=by
  obtain⟨b,hb,e⟩:=dY.mp hp;cases q:h.get? b with
  |none=>rw[q]at e;cases e
  |some o=>
    rw[q]at e;have e':(b,o)=p:=aE e;subst e';exact⟨hb,q⟩
def Inv.pinned(I:Inv X pins σ H s)(hf:∀b∈fp,a3X X pins H b)(ho:∀b∈fp,∃o,s.heap.get? b=cz o∧∀v,o.data≠.cell v):Inv X (pins++a5l fp s.heap) σ H s:=
  I.pins_of λp hp=>(ar.mp hp).elim (λz=>I.pin p (ah _ z)) λz=>by
    obtain⟨hb,e⟩:=b0v z;obtain⟨f0,f1,f2,_⟩:=hf p.1 hb;obtain⟨o,e',d⟩:=ho p.1 hb;rw[e]at e';cases e';exact⟨e,f0,f1,f2,d⟩
def Inv.unpinned(I:Inv X (pins++pl) σ H s):Inv X pins σ H s:=I.pins_of λp hp=>I.pin p (ah _ (ak _ hp))
def a7K(hp:nS (aW X.prog X.w) X.A X.env X.xe)(hc:X.calm=true)(hi:PI X tg iter wi)(hg:PG X tg g)(hb:PSs X body tb)
    (hs:∀x,eK iter X.env x=pure x:=by intro _;rfl):PS X (.For tg iter body [] pos) (c2i wi g tb):=by
  intro pins s σ H D I h;refine wpAny_For (thn (hi pins s σ H _ I h) λv s1 h1=>thn h1 λyb s2 h2=>?_) hs;obtain⟨it,fp,tn,J,H2,e,I2,T,kZ,f2,W,⟨m0,w0⟩,turn⟩:=h2;subst e;have nW:∀{H':Hp},(∀b∈fp,H' b=xn)→∀b∈fp,a3X X pins H' b:=λhn b hb=>⟨hn b hb,(f2 b hb).2⟩
  refine codeAny_forLoop_any (λn s'=>∃i σ' H',Inv X pins σ' H' s'∧tn i s'.heap∧(∀b∈fp,H' b=xn)∧W i n σ' H') ?_ m0 ⟨0,σ,H2,I2,kZ,λb hb=>(f2 b hb).1,w0⟩;rintro n s3 ⟨i,σ3,H3,I3,jt,wo,w3⟩;rcases turn i n σ3 H3 w3 with⟨stop,qn⟩|⟨go,N,hN,step⟩
  · refine gC hp (thn (T.done X rfl rfl rfl hc i pins s3 σ3 H3 X.xe I3 (nW wo) jt stop) λr s4 ⟨hr,I4⟩=>?_)
    subst hr;exact mG ⟨σ3,H3,I4,qn⟩
  · refine gC hp (thn (T.item X rfl rfl rfl hc i pins s3 σ3 H3 X.xe I3 (nW wo) jt go) λr s4 ⟨u,hr,h4⟩=>?_)
    subst hr;refine gC hp (thn h4 λ_ s5 ⟨x,H5,I5,r5,y5,pF,zH⟩=>?_);have zY:=I5.pinned (nW zH) (T.obj _ _ pF);refine gC hp (thn (hg _ s5 σ3 H5 x u _ zY r5 (step x H5 y5)) λ_ s6 ⟨σ6,H6,I6,q6⟩=>?_);refine gC hp (thn (hb _ s6 σ6 H6 _ I6 q6) λf s7 q7=>?_);have again:∀{σ7:St} {H7:Hp},Inv X (pins++a5l fp s5.heap) σ7 H7 s7→N σ7 H7→∃m,m<n∧∃i σ' H',Inv X pins σ' H' s7∧tn i s7.heap∧(∀b∈fp,H' b=xn)∧W i m σ' H':=λ{σ7 H7} I7 n7=>by
      obtain⟨m',hm,w7⟩:=hN σ7 H7 n7;refine⟨m',hm,i+1,σ7,H7,I7.unpinned,T.keep _ _ _ pF λb hb o e=>(I7.pin (b,o) (ah _ (ah _ (C1 hb e)))).1,λb hb=>?_,w7⟩;obtain⟨o,e,d⟩:=T.obj _ _ pF b hb;exact (I7.pin (b,o) (ah _ (ah _ (C1 hb e)))).2.1
    cases f with
    |next=>obtain⟨σ7,H7,I7,n7⟩:=q7;exact again I7 n7
    |cont=>obtain⟨σ7,H7,I7,n7⟩:=q7;exact again I7 n7
    |brk=>obtain⟨σ7,H7,I7,q7⟩:=q7;exact⟨σ7,H7,I7.unpinned,q7⟩
    |ret v=>obtain⟨x7,σ7,H7,I7,r7,q7⟩:=q7;exact⟨x7,σ7,H7,I7.unpinned,r7,q7⟩
end
abbrev R2:=V→V→Hp→VK→Prop
def OpR(X:Cx)(f:aj→aj→zR aj)(r:R2):Prop:=
  ∀(pins:List (ax×fY)) (s:av) (σ:St) (H:Hp) (x y:V) (v u:aj) (Q:VK),Inv X pins σ H s→RelV x v→RelV y u→r x y H Q→
    aX (aW X.prog X.w) X.A (f v u) (EP X pins σ Q) X.xe s
def UnR(X:Cx)(f:aj→zR aj)(r:V→Hp→VK→Prop):Prop:=
  ∀(pins:List (ax×fY)) (s:av) (σ:St) (H:Hp) (x:V) (v:aj) (Q:VK),Inv X pins σ H s→RelV x v→r x H Q→
    aX (aW X.prog X.w) X.A (f v) (EP X pins σ Q) X.xe s
def CallR(X:Cx)(f:aj)(r:List V→Hp→VK→Prop):Prop:=
  ∀(pins:List (ax×fY)) (s:av) (σ:St) (H:Hp) (xs:List V) (us:List aj) (Q:VK),Inv X pins σ H s→Vals xs us→r xs H Q→
    aX (aW X.prog X.w) X.A (call f us) (EP X pins σ Q) X.xe s
def c2j(X:Cx)(r:V→Hp→(Bool→Hp→Prop)→Prop):Prop:=
  ∀(pins:List (ax×fY)) (s:av) (σ:St) (H:Hp) (x:V) (v:aj) (Q:Bool→Hp→Prop),Inv X pins σ H s→RelV x v→r x H Q→
    aX (aW X.prog X.w) X.A (truthy v) (TP X pins σ Q) X.xe s
def tOp(r:R2)(ta tb:TE):TE:=λσ H Q=>ta σ H λx H1=>tb σ H1 λy H2=>r x y H2 Q
def tUn(r:V→Hp→VK→Prop)(ta:TE):TE:=λσ H Q=>ta σ H λx H1=>r x H1 Q
def rI(C:Int→Int→Prop)(g:Int→Int→V):R2:=λx y H Q=>∃i j,x=.int i∧y=.int j∧C i j∧Q (g i j) H
def rI0(g:Int→Int→V):R2:=λx y H Q=>∃i j,x=.int i∧y=.int j∧Q (g i j) H
def rU(g:Int→V):V→Hp→VK→Prop:=λx H Q=>∃i,x=.int i∧Q (g i) H
section
variable {X:Cx}{a b c:Expr}{ta tb tc:TE}{pos:fT}
def b8h(ha:PE X a ta)(hb:PE X b tb){pins:List (ax×fY)}{s:av}{σ:St}{H:Hp}{R:V→V→Hp→Prop}(I:Inv X pins σ H s)
    (h:ta σ H λx H1=>tb σ H1 λy H2=>R x y H2) {Q:aj→av→Prop} {f:aj→aj→zR aj}
    (hf:∀v u s2 x y H2,Inv X pins σ H2 s2→RelV x v→RelV y u→R x y H2→aX (aW X.prog X.w) X.A (f v u) Q X.xe s2) :
    aX (aW X.prog X.w) X.A (cC a X.env) (λv s₁=>aX (aW X.prog X.w) X.A (cC b X.env) (λu s₂=>aX (aW X.prog X.w) X.A (f v u) Q X.xe s₂) X.xe s₁) X.xe s:=by
  refine thn (ha pins s σ H _ I h) λv s1 ⟨x,H1,I1,r1,q1⟩=>?_
  refine thn (hb pins s1 σ H1 _ I1 q1) λu s2 ⟨y,H2,I2,r2,q2⟩=>?_
  exact hf v u s2 x y H2 I2 r1 r2 q2
def b7w{op:Operator}{r:R2}(ho:OpR X (gd op) r)(ha:PE X a ta)(hb:PE X b tb):PE X (.BinOp a op b pos) (tOp r ta tb):=by
  intro pins s σ H Q I h;exact wpAny_BinOp (b8h ha hb I h λv u s2 x y H2 I2 rx ry q=>ho pins s2 σ H2 x y v u Q I2 rx ry q)
def c0t(ho:UnR X (unaryOp op) r)(ha:PE X a ta):PE X (.UnaryOp op a pos) (tUn r ta):=by
  intro pins s σ H Q I h;exact UnaryOp_ (thn (ha pins s σ H _ I h) λv s1 ⟨x,H1,I1,r1,q1⟩=>ho pins s1 σ H1 x v Q I1 r1 q1)
def opI{f:aj→aj→zR aj}{C:Int→Int→Prop}{g:Int→Int→Int}
    (rule:∀(i j:Int) (t u:Tok) (s:av) (Q:aj→av→Prop) (E:aj→av→Prop),C i j→Q (.int (g i j) s.toks) {s with toks:=s.toks+1}→aX (aW X.prog X.w) X.A (f (.int i t) (.int j u)) Q E s) :
    OpR X f (rI C λi j=>.int (g i j)):=by
  intro pins s σ H x y v u Q I rx ry h;obtain⟨i,j,rfl,rfl,hc,q⟩:=h;obtain⟨t,rfl⟩:=rx;obtain⟨t',rfl⟩:=ry;exact rule i j t t' s _ _ hc ⟨.int (g i j),H,I.tok _,⟨_,rfl⟩,q⟩
def c0u{f:aj→aj→zR aj}{g:Int→Int→Int}
    (rule:∀(i j:Int) (t u:Tok) (s:av) (Q:aj→av→Prop) (E:aj→av→Prop),Q (.int (g i j) s.toks) {s with toks:=s.toks+1}→aX (aW X.prog X.w) X.A (f (.int i t) (.int j u)) Q E s) :
    OpR X f (rI0 λi j=>.int (g i j)):=by
  intro pins s σ H x y v u Q I rx ry h;obtain⟨i,j,rfl,rfl,q⟩:=h;obtain⟨t,rfl⟩:=rx;obtain⟨t',rfl⟩:=ry;exact rule i j t t' s _ _ ⟨.int (g i j),H,I.tok _,⟨_,rfl⟩,q⟩
def c0v{f:aj→aj→zR aj}{g:Int→Int→Bool}
    (rule:∀(i j:Int) (t u:Tok) (s:av) (Q:aj→av→Prop) (E:aj→av→Prop),Q (.bool (g i j)) s→aX (aW X.prog X.w) X.A (f (.int i t) (.int j u)) Q E s) :
    OpR X f (rI0 λi j=>.bl (g i j)):=by
  intro pins s σ H x y v u Q I rx ry h;obtain⟨i,j,rfl,rfl,q⟩:=h;obtain⟨t,rfl⟩:=rx;obtain⟨t',rfl⟩:=ry;exact rule i j t t' s _ _ ⟨.bl (g i j),H,I,rfl,q⟩
def c2k(i j:Int):Prop:=0<j∧j<1073741824
def c2l(i j:Int):Prop:=0≤j∧j≤1000000∧i.natAbs<2^64
def CMul(i j:Int):Prop:=(-(2^64)<i∧i<2^64)∨(-(2^64)<j∧j<2^64)
def CMul.ok{i j:Int}(h:CMul i j):IntMulOk i j:=by
  rcases h with⟨h1,h2⟩|⟨h1,h2⟩
  · exact .of_left (intBits_le_64 h1 h2)
  · exact .of_right (intBits_le_64 h1 h2)
def b8i:OpR X (gd .Add) (rI0 λi j=>.int (i+j)):=c0u λ_ _ _ _ _ _ _ q=>add_int q
def b8j:OpR X (gd .Sub) (rI0 λi j=>.int (i-j)):=c0u λ_ _ _ _ _ _ _ q=>sub_int q
def b8k:OpR X (gd .Mult) (rI CMul λi j=>.int (i*j)):=opI λ_ _ _ _ _ _ _ hc q=>mul_int q hc.ok
def b5o:OpR X (gd .FloorDiv) (rI c2k λi j=>.int (i / j)):=opI λi j _ _ _ _ _ hc q=>by
  have h1:(0:Int)<j:=hc.1;have h2:j<1073741824:=hc.2;exact floordiv_int (by omega) (by rw[Int.fdiv_eq_ediv_of_nonneg i (by omega)];exact q) (.inl (PyProof.noPylong_small (by omega)))
def b8l:OpR X (gd .Mod) (rI (λ_ j=>0<j) λi j=>.int (i % j)):=opI λi j _ _ _ _ _ hc q=>by
  have h1:(0:Int)<j:=hc;exact mod_int' (by omega) (by rw[Int.fmod_eq_emod_of_nonneg i (by omega)];exact q)
def b8m:OpR X (gd .Pow) (rI c2l λi j=>.int (i^j.toNat)):=opI λ_ _ _ _ _ _ _ hc q=>pow_int_small hc.1 hc.2.1 hc.2.2 q
def unI{f:aj→zR aj}{g:Int→Int}
    (rule:∀(i:Int) (t:Tok) (s:av) (Q:aj→av→Prop) (E:aj→av→Prop),Q (.int (g i) s.toks) {s with toks:=s.toks+1}→aX (aW X.prog X.w) X.A (f (.int i t)) Q E s) :
    UnR X f (rU λi=>.int (g i)):=by
  intro pins s σ H x v Q I rx h;obtain⟨i,rfl,q⟩:=h;obtain⟨t,rfl⟩:=rx;exact rule i t s _ _ ⟨.int (g i),H,I.tok _,⟨_,rfl⟩,q⟩
def b8n:UnR X (unaryOp .USub) (rU λi=>.int (-i)):=unI λ_ _ _ _ _ q=>neg_int q
end
def scal:V→V→Bool
  |.non,.non=>true|.non,.int _=>true|.int _,.non=>true|.non,.bl _=>true|.bl _,.non=>true|.non,.str _=>true|.str _,.non=>true
  |.int _,.int _=>true|.bl _,.bl _=>true|.str _,.str _=>true|.byt _,.byt _=>true
  |.int _,.str _=>true|.str _,.int _=>true|.bl _,.str _=>true|.str _,.bl _=>true
  |_,_=>false
section
variable {X:Cx}{a b c:Expr}{ta tb tc:TE}{pos:fT}
def b8o(I:Inv X pins σ H s)(q:Q (.bl k) H)(e:k=k'):EP X pins σ Q (.bool k') s:=by
  subst e;exact⟨.bl k,H,I,rfl,q⟩
def c0w:OpR X (dh .LtE) (rI0 λi j=>.bl (decide (i≤j))):=c0v λ_ _ _ _ _ _ _ q=>le_int q
def c0x:OpR X (dh .Gt) (rI0 λi j=>.bl (decide (j<i))):=c0v λ_ _ _ _ _ _ _ q=>gt_int q
def b5p:OpR X (dh .IsNot) (λx y H Q=>y=.non∧Q (.bl (!decide (x=.non))) H):=by
  intro pins s σ H x y v u Q I rx ry h;obtain⟨rfl,q⟩:=h;cases ry
  refine isnot_none_gen (b8o I q ?_);cases x<;>first
    | (cases rx;rfl)
    | (obtain⟨t,rfl⟩:=rx;rfl)
def a7L(b:Expr)(h:op≠.In:=by decide)(h2:op≠.NotIn:=by decide):il op b=false:=by
  have e1:(op==CmpOp.In)=false:=by cases op<;>first|rfl|exact absurd rfl h
  have e2:(op==CmpOp.NotIn)=false:=by cases op<;>first|rfl|exact absurd rfl h2
  cases b<;>simp[il,e1,e2]
def b5q{op:CmpOp}{r:R2}(ho:OpR X (dh op) r)(ha:PE X a ta)(hb:PE X b tb)(hm:il op b=false):PE X (.Compare a [op] [b] pos) (tOp r ta tb):=by
  intro pins s σ H Q I h;exact wpAny_Compare1 (b8h ha hb I h λv u s2 x y H2 I2 rx ry q=>ho pins s2 σ H2 x y v u Q I2 rx ry q) hm
def b7x(t:TE):TT:=λσ H Q=>t σ H λx H'=>∃k,x=.bl k∧Q k H'
def a9i(ho:OpR X (dh op) r)(ha:PE X a ta)(hb:PE X b tb)(hm:il op b=false):PT X (.Compare a [op] [b] pos) (b7x (tOp r ta tb)):=by
  intro pins s σ H Q I h;refine wpAny_isTrue_Compare1 (thn (ha pins s σ H _ I h) λv s1 ⟨x,H1,I1,r1,q1⟩=>thn (hb pins s1 σ H1 _ I1 q1) λu s2 ⟨y,H2,I2,r2,q2⟩=>
    thn (ho pins s2 σ H2 x y v u _ I2 r1 r2 q2) λc s3 ⟨z,H3,I3,r3,k,e,q3⟩=>?_) hm
  subst e;cases r3
  exact fy ⟨H3,I3,q3⟩
def b8p(r r':R2)(ta tb tc:TE):TE:=λσ H Q=>ta σ H λx H1=>tb σ H1 λy H2=>r x y H2 λz H3=>∃k,z=.bl k∧
  (if k=true then tc σ H3 λw' H4=>r' y w' H4 Q else Q (.bl false) H3)
def b2n(ho:OpR X (dh op) r)(oW:OpR X (dh tU) r')(ha:PE X a ta)(hb:PE X b tb)(hc:PE X c tc)
    (hm:lastMarks [op,tU] [b,c]=false:=by with_unfolding_all rfl):PT X (.Compare a [op,tU] [b,c] pos) (b7x (b8p r r' ta tb tc)):=by
  intro pins s σ H Q I h;refine isTrue_chain (thn (ha pins s σ H _ I h) λv s1 ⟨x,H1,I1,r1,q1⟩=>test_link (thn (hb pins s1 σ H1 _ I1 q1) λu s2 ⟨y,H2,I2,r2,q2⟩=>
    thn (ho pins s2 σ H2 x y v u _ I2 r1 r2 q2) λd s3 ⟨z,H3,I3,r3,k,e,q3⟩=>?_)) hm
  subst e;cases r3
  refine fy ?_;cases k with
  |false=>
    obtain⟨k',e',q'⟩:=q3;cases e'
    exact ite_ff ⟨H3,I3,q'⟩
  |true=>
    refine ite_tt (test_last (thn (hc pins s3 σ H3 _ I3 q3) λw' s4 ⟨z',H4,I4,r4,q4⟩=>thn (oW pins s4 σ H4 y z' u w' _ I4 r2 r4 q4) λd' s5 ⟨z2,H5,I5,r5,k2,e2,q5⟩=>?_));subst e2;cases r5
    exact fy ⟨H5,I5,q5⟩
def b5r(K:ag)(x:V)(H:Hp)(k:Bool):Prop:=
  match x with
  |.non=>k=false
  |.bl b=>k=b
  |.int i=>k=(i !=0)
  |.str y=>y.length≤a_∧k=((y.length:Int)!=0)
  |.byt y=>y.size≤a_∧k=((y.size:Int)!=0)
  |.ref p=>(∃xs,SqL K H p xs∧k=!xs.isEmpty)∨(∃xs,SqT K H p xs∧k=!xs.isEmpty)∨∃kvs,H p=cz (.dK kvs)∧k=!kvs.isEmpty
  |_=>False
def a7M{κ:Type}{kvs:List (κ×V)}{vs:List (κ×aj)}(r:KV kvs vs):(!vs.isEmpty)=!kvs.isEmpty:=by
  cases r<;>rfl
def a2M{xs:List V}{its:List aj}(r:Vals xs its):(!its.toArray.isEmpty)=!xs.isEmpty:=by
  cases r<;>simp
def a1e:(a_:Nat)<2^63:=by rw[dt];decide
def b2o:c2j X (λx H Q=>∃k,b5r X.K x H k∧Q k H):=by
  intro pins s σ H x v Q I rx h;obtain⟨k,e,q⟩:=h;have hl:=a1e;have hs:a_=16777216:=dt;cases x with
  |non=>
    cases rx
    have e':k=false:=e;subst e';exact truthy_none ⟨H,I,q⟩
  |bl b=>
    cases rx
    have e':k=b:=e;subst e';exact fy ⟨H,I,q⟩
  |int i=>
    obtain⟨t,rfl⟩:=rx;have e':k=(i !=0):=e;subst e';exact PySem.P.truthy_int ⟨H,I,q⟩
  |str y=>
    obtain⟨t,rfl⟩:=rx;obtain⟨hy,e'⟩:y.length≤a_∧k=((y.length:Int)!=0):=e;subst e';exact PySem.P.truthy_str (by omega) ⟨H,I.tok _,q⟩
  |byt y=>
    obtain⟨t,rfl⟩:=rx;obtain⟨hy,e'⟩:y.size≤a_∧k=((y.size:Int)!=0):=e;subst e';exact PySem.W.truthy_bytes (by omega) ⟨H,I.tok _,q⟩
  |ref p=>
    cases rx
    have e':(∃xs,SqL X.K H p xs∧k=!xs.isEmpty)∨(∃xs,SqT X.K H p xs∧k=!xs.isEmpty)∨∃kvs,H p=cz (.dK kvs)∧k=!kvs.isEmpty:=e;rcases e' with⟨xs,hx,e'⟩|⟨xs,hx,e'⟩|⟨kvs,hx,e'⟩
    · subst e'
      obtain⟨its,r,pl,hz⟩:=I.list hx;have hlen:=r.length;exact wpAny_truthy_list pl.isList (by simp only[be];omega) ⟨H,I.tok _,by rw[a2M r];exact q⟩
    · subst e'
      obtain⟨its,r,pl,hz⟩:=I.tuple hx;have hlen:=r.length;exact truthy_tuple pl (by simp only[be];omega) ⟨H,I.tok _,by rw[a2M r];exact q⟩
    · subst e'
      obtain⟨hz,hS,vs,r,m⟩:kvs.length≤a_∧(p==du)=false∧∃vs,KV kvs vs∧s.heap.DictOf (a5g X.prog X.w) p vs:=I.hok p _ hx;have hlen:kvs.length=vs.length:=gG r;exact wpAny_truthy_dict hS m (by omega) ⟨H,I.tok _,by rw[a7M r];exact q⟩
  |_=>exact (show False from e).elim
def b2p(ha:PE X a ta)(he:∀whole,Cq a X.env whole=(do let v ←whole;BV a.pos;nO [v] (truthy v))) :
    PT X a (λσ H Q=>ta σ H λx H'=>∃k,b5r X.K x H' k∧Q k H'):=by
  intro pins s σ H Q I h;exact isTrue_plain (thn (ha pins s σ H _ I h) λv s1 ⟨x,H1,I1,r1,q1⟩=>b2o pins s1 σ H1 x v Q I1 r1 q1) (he _)
def vals1(r:Vals [x] us):∃u,us=[u]∧RelV x u:=by
  cases r with
  |cons r1 r2=>cases r2;exact⟨_,rfl,r1⟩
def vals2(r:Vals [x,y] us):∃u w',us=[u,w']∧RelV x u∧RelV y w':=by
  cases r with
  |cons r1 r2=>
    cases r2 with
    |cons r3 r4=>cases r4;exact⟨_,_,rfl,r1,r3⟩
def b0w(hc:X.calm=true):CallR X (.builtin "max") (λxs H Q=>∃i j,xs=[.int i,.int j]∧Q (.int (if j>i then j else i)) H):=by
  intro pins s σ H xs us Q I r h;obtain⟨i,j,rfl,q⟩:=h;obtain⟨u,w',rfl,⟨t,rfl⟩,⟨t',rfl⟩⟩:=vals2 r;refine max_two_ints (I.ok.hd hc) λh' tk k=>⟨_,H,I.kept k,?_,q⟩
  by_cases hj:j>i
  · rw[aD hj,aD hj];exact⟨_,rfl⟩
  · rw[aM hj,aM hj];exact⟨_,rfl⟩
end
structure ObjM (h:cQ) (x dx C:ax) (mA:bG→Option aj):Prop where
  obj:h.get? x=cz (pq C dx)
  ns:h.Ns1 dx mA
  ne:dx≠x
def b0x{h:cQ}(n:h.Ns1 dx mA):∃od,h.get? dx=cz od∧∀name,qy name od=cz (mA name):=by
  obtain⟨o,es,ep,ho,hd,hk,_,hm⟩:=n;refine⟨o,ho,λname=>?_⟩;have e:=hm name;unfold nsFind findBy at e;rw[←Array.find?_toList]at e;unfold qy;rw[hd]
  dsimp only
  split
  · rename_i y q
    rw[q]at e;exact dH cz e
  · rename_i q
    rw[q]at e;have a:es.toList.any (·.refKey)=false:=by
      rw[eD];intro y hy;obtain⟨z,t,n_⟩:=hk y (je.mp hy);simp[hX.refKey,n_]
    have a':¬ es.toList.any (·.refKey)=true:=by rw[a];exact cw
    rw[aM a'];exact dH cz e
def ObjM.look(I:ObjM h x dx C mA):∃od,PySem.W.InstAt h x (pq C dx) C (cz od)∧∀name,qy name od=cz (mA name):=
  let⟨od,ho,hl⟩:=b0x I.ns
  ⟨od,⟨I.obj,rfl,rfl,ho⟩,hl⟩
section
variable {P:bD}{w:cm}{H H':Hp}{h h':cQ}{a C dx:ax}{fs jG:List (bG×V)}
def b5s(hok:HOk P w H h)(e:H a=cz (.ins C dx fs)):∃mA,ObjM h a dx C mA∧(∀f,b7Q (fs.lookup f) (mA f))∧PySem.Within mA (fs.map (·.1))∧fs.length≤1000∧H dx=cz (.own a):=by
  obtain⟨d,z,ne,ob,mA,n,r,q⟩:=(show ObjOk P w H h a (.ins C dx fs) from hok a _ e);exact⟨mA,⟨ob,n,ne⟩,r,q,z,d⟩
end
structure Cls (K:ag) (C:ax):Prop where
  pg:ES K C bG.empty=true
  hd:PySem.W.hasDictIn K C=true
  po:PySem.W.plainOver K C=true
  sa:jO K (.ref C) "__setattr__"=cz (cz (.builtin "object.__setattr__"))
def Cls.get{K:ag}{C:ax}(c:Cls K C)(f:bG):ES K C f=true:=c.pg
structure Con (K:ag) (C:ax) (f:bG) (v:V) (u:aj):Prop where
  at_:jO K (.ref C) f=cz (cz u)
  rel:RelV v u
  get:BA K u "__get__"=cz xn
  cp:PySem.W.copiedNames.contains f=false
structure Meth (K:ag) (C:ax) (m:bG) (f:ax):Prop where
  at_:jO K (.ref C) m=cz (cz (.ref f))
  fn:PySem.W.isFn K (.ref f)=true
  kp:fS K (.ref f)=true
section
variable {X:Cx}{pins:List (ax×fY)}{σ:St}{H:Hp}{s:av}{A:bP}{E:aj→av→Prop}{Q:aj→av→Prop}{c:aj}{b:Bool}
inductive TyOf (K:ag) (H:Hp):V→aj→Prop where
  |non:TyOf K H .non (.type "NoneType")
  |bl (x:Bool):TyOf K H (.bl x) (.type "bool")
  |int (i:Int):TyOf K H (.int i) (.type "int")
  |str (x:bG):TyOf K H (.str x) (.type "str")
  |flt (x:UInt64):TyOf K H (.flt x) (.type "float")
  |lst {a:ax} {xs:List V} (e:H a=cz (.lst xs)):TyOf K H (.ref a) (.type "list")
  |frz {a:ax} {o:fY} {xs:List V} (e:H a=cz (.frz o (.lst xs))):TyOf K H (.ref a) (.type "list")
  |tup {a:ax} {xs:List V} (e:H a=cz (.tup xs)):TyOf K H (.ref a) (.type "tuple")
  |dK {a:ax} {kvs:List (Key×V)} (e:H a=cz (.dK kvs)):TyOf K H (.ref a) (.type "dict")
  |dT {a:ax} {kvs:List (List Key×V)} (e:H a=cz (.dT kvs)):TyOf K H (.ref a) (.type "dict")
  |ins {a C dx:ax} {fs:List (bG×V)} (e:H a=cz (.ins C dx fs)) (cl:Cls K C) (ha:jO K (.ref C) "__class__"=cz (cz (.builtin "object.__class__")))
      (hn:BA K (.builtin "object.__class__") "__get__"=cz (cz (.builtin "getset_descriptor.__get__"))) (Ay:PySem.W.takesIn K (.builtin "object.__class__")=cz true)
      (hm:PySem.W.mroIn K C (.type "object")=cz true):TyOf K H (.ref a) (.ref C)
def b0y(I:Inv X pins σ H s)(rx:RelV x u)(ty:TyOf X.K H x t)(e:eR X.K t c=cz b)(h:∀tk,Q (.bool b) {s with toks:=tk}) :
    aX (aW X.prog X.w) A (call (.builtin "isinstance") [u,c]) Q E s:=by
  cases ty with
  |non=>cases (show u=bx from rx);exact dm PySem.W.kitx_none I.kIn jN e (λz=>nomatch z) h
  |bl y=>cases (show u=mw y from rx);exact dm PySem.W.kitx_bool I.kIn jN e (λz=>nomatch z) h
  |int i=>obtain⟨t,q⟩:=(show ∃t,u=jx i t from rx);cases q;exact dm PySem.W.kitx_int I.kIn jN e (λz=>nomatch z) h
  |str y=>obtain⟨t,q⟩:=(show ∃t,u=rz y t from rx);cases q;exact dm PySem.W.kitx_str I.kIn jN e (λz=>nomatch z) h
  |flt y=>obtain⟨t,q⟩:=(show ∃t,u=aj.float y t from rx);cases q;exact dm PySem.W.kitx_float I.kIn jN e (λz=>nomatch z) h
  |@lst a xs ea=>
    cases (show u=bL a from rx)
    obtain⟨_,_,n,_,h1⟩:=(show ObjOk X.prog X.w H s.heap a (.lst xs) from I.hok a _ ea);exact dm nF I.kIn ⟨_,h1,rfl⟩ e (λz=>nomatch z) h
  |@frz a ob xs ea=>
    cases (show u=bL a from rx)
    obtain⟨_,_,_,n,_,h1⟩:=(show ObjOk X.prog X.w H s.heap a (.frz ob (.lst xs)) from I.hok a _ ea);exact dm nF I.kIn ⟨_,h1,rfl⟩ e (λz=>nomatch z) h
  |@tup a xs ea=>
    cases (show u=bL a from rx)
    obtain⟨_,_,_,p⟩:=(show ObjOk X.prog X.w H s.heap a (.tup xs) from I.hok a _ ea);obtain⟨o,h1,h2,_⟩:=p;exact dm zU I.kIn ⟨o,h1,h2⟩ e (λz=>nomatch z) h
  |@dK a kvs ea=>
    cases (show u=bL a from rx)
    obtain⟨_,_,vs,_,p⟩:=(show ObjOk X.prog X.w H s.heap a (.dK kvs) from I.hok a _ ea);obtain⟨o,es,ep,h1,h2,_⟩:=p;exact dm nG I.kIn ⟨o,h1,h2.1⟩ e (λz=>nomatch z) h
  |@dT a kvs ea=>
    cases (show u=bL a from rx)
    obtain⟨_,_,xs,_,o,es,ep,h1,h2,_⟩:=(show ObjOk X.prog X.w H s.heap a (.dT kvs) from I.hok a _ ea);exact dm nG I.kIn ⟨o,h1,h2.1⟩ e (λz=>nomatch z) h
  |@ins a C dx fs ea cl ha hn Ay hm=>
    cases (show u=bL a from rx)
    obtain⟨mA,O,_⟩:=b5s I.hok ea;obtain⟨od,J,_⟩:=O.look;exact dm (PySem.W.kitx_own (cl.get _) cl.hd ha hn Ay hm) I.kIn J e (λz=>nomatch z) h
end
structure Room (k:Nat) (A:bP):Prop where
  hd:A.handled=xn
  dp:A.depth+3*k+5<recursionLimit
  un:A.units+16*k+200<dW
def Room.mono(r:Room k A)(h:j≤k):Room j A:=⟨r.hd,by have:=r.dp;omega,by have:=r.un;omega⟩
theorem Room.deeper(r:Room (k+1) A)(env:nL):Room k (A.deeper env):=
  ⟨r.hd,by have:=r.dp;show A.depth+1+3*k+5<_;omega,by have:=r.un;show A.units+3+16*k+200<_;omega⟩
theorem Room.in1(r:Room (k+1) A):Room k A.in1:=
  ⟨r.hd,by have:=r.dp;show A.depth+3*k+5<_;omega,by have:=r.un;show A.units+1+16*k+200<_;omega⟩
theorem Room.depth(r:Room k A):A.depth<recursionLimit:=by have:=r.dp;omega
theorem Room.units(r:Room k A):A.units+64<dW:=by have:=r.un;omega
def b2q:TA:=λ_ H Q=>Q [] H
def a6q(ta:TE)(tr:TA):TA:=λσ H Q=>ta σ H λx H1=>tr σ H1 λxs H2=>Q (x::xs) H2
section
variable {X:Cx}{e:Expr}{es:List Expr}{te:TE}{t:TA}{pos:fT}
def o7:PA X [] b2q:=λ_ _ _ _ H Q I h=>Calls.spliced_nil ⟨[],H,I,.nil,h⟩
def j8(ha:PE X e te)(hr:PA X es t)(hs:au (e::es) X.env=(false,cC e X.env)::au es X.env:=by rfl):PA X (e::es) (a6q te t):=by
  intro pos pins s σ H Q I h;rw[hs];show aX _ _ (spliced ((false,cC e X.env)::cH pos (au es X.env))) _ _ s;refine Calls.spliced_cons (thn (ha pins s σ H _ I h) λu s1 ⟨x,H1,I1,r1,q1⟩=>?_);exact thn (hr pos pins s1 σ H1 _ I1 q1) λus s2 ⟨xs,H2,I2,r2,q2⟩=>⟨x::xs,H2,I2,.cons r1 r2,q2⟩
def c2m(t:TA):TE:=λσ H Q=>t σ H λxs H1=>xs.length≤a_∧∀p,H1 p=xn→Q (.ref p) (upd H1 p (.tup xs))
def c2n(t:TA):TE:=λσ H Q=>t σ H λxs H1=>xs.length≤a_∧∀p,H1 p=xn→Q (.ref p) (upd H1 p (.lst xs))
def a7N{x1}(h:PA X es t):PE X (.Tuple es x1 pos) (c2m t):=by
  intro pins s σ H Q I hq;refine wpAny_Tuple_spliced (thn (h pos pins s σ H _ I hq) λus s1 ⟨xs,H1,I1,r,z,q⟩=>⟨by rw[←r.length];exact z,?_⟩);have hf:H1 s1.heap.objs.size=xn:=I1.hok.fresh (az _);refine⟨.ref s1.heap.objs.size,upd H1 s1.heap.objs.size (.tup xs),I1.laid (t':=s1.toks) (λb u e=>aF _ e) (az _) ?_,rfl,q _ hf⟩;exact⟨z,us,r,⟨_,bj _ rfl,rfl,_,rfl⟩⟩
def b8q(h:PA X es t):PE X (.List es pos) (c2n t):=by
  intro pins s σ H Q I hq;refine wpAny_List_spliced (thn (h pos pins s σ H _ I hq) λus s1 ⟨xs,H1,I1,r,z,q⟩=>⟨by rw[←r.length];exact z,?_⟩);have hf:H1 s1.heap.objs.size=xn:=I1.hok.fresh (az _);refine⟨.ref s1.heap.objs.size,upd H1 s1.heap.objs.size (.lst xs),I1.laid (t':=s1.toks) (λb u e=>aF _ e) (az _) ?_,rfl,q _ hf⟩;exact⟨z,us,0,r,bj _ rfl⟩
end
abbrev Sp:=List V→Hp→VK→XK→Prop
abbrev CXT:=List nL→Hp→av→XK→aj→av→Prop
structure Env0 (P:bD) (w:cm) (K:ag) (mg:bG→Option aj) (base:cQ) (A:bP) (outer:List nL) (s:av) (H:Hp):Prop where
  frames:A.frames=cz outer
  mod:Mod K mg base
  bs:∀b o,base.get? b=cz o→s.heap.get? b=cz o∧H b=xn
  bsz:base.objs.size≤s.heap.objs.size
  funs:s.heap.FunFrames base outer
  frf:∀b∈frs outer,H b=xn
  hok:HOk P w H s.heap
  bare:oO s.gens
  tabs:TabsIn K H
def CE(outer:List nL)(P:bD)(w:cm)(H:Hp)(s:av)(Q:VK)(u:aj)(s':av):Prop:=
  ∃v H',s'.os=s.os∧oO s'.gens∧Un (frs outer) [] H H' s.heap s'.heap∧HOk P w H' s'.heap∧RelV v u∧Q v H'
def CR(CX:CXT)(outer:List nL)(P:bD)(w:cm)(H:Hp)(s:av)(Q:VK)(E:XK)(r:Result)(s':av):Prop:=
  match r with
  |.ok (.ret u)=>CE outer P w H s Q u s'
  |.ok _=>False
  |.error e=>CX outer H s E e s'
structure FnOk (P:bD) (w:cm) (K:ag) (mg:bG→Option aj) (base:cQ) (CX:CXT) (k:Nat) (f:ax) (fd:dP) (ps:List bG) (sp:Sp):Prop where
  len:∀vs H Q E,sp vs H Q E→vs.length=ps.length
  run:∀(A:bP) (outer:List nL) (s:av) (H:Hp) (args:Args) (us:List aj) (vs:List V) (Q:VK) (E:XK),Room k A→Env0 P w K mg base A outer s H→nT s fd args (ps.zip us)→Vals vs us→sp vs H Q E→
    gY (aW P w) A (.call (.ref f) args) (CR CX outer P w H s Q E) s
theorem FnOk.mono{P:bD}{w:cm}{K:ag}{mg:bG→Option aj}{base:cQ}{CX:CXT}{j k:Nat}{f:ax}{fd:dP}{ps:List bG}{sp:Sp}(F:FnOk P w K mg base CX j f fd ps sp)(h:j≤k) :
    FnOk P w K mg base CX k f fd ps sp:=⟨F.len,λA outer s H args us vs Q E hr=>F.run A outer s H args us vs Q E (hr.mono h)⟩
theorem Env0.in1{P:bD}{w:cm}{K:ag}{mg:bG→Option aj}{base:cQ}{A:bP}{outer:List nL}{s:av}{H:Hp}(e:Env0 P w K mg base A outer s H) :
    Env0 P w K mg base A.in1 outer s H:=⟨e.frames,e.mod,e.bs,e.bsz,e.funs,e.frf,e.hok,e.bare,e.tabs⟩
section
variable {X:Cx}{pins:List (ax×fY)}{σ:St}{H:Hp}{s s':av}
def Inv.env0(I:Inv X pins σ H s):Env0 X.prog X.w X.K X.mg X.base X.A X.stack s H:=
  ⟨I.ok.frames,I.ok.mod,I.bs,cV I.ok.bsz I.sz,I.stack,I.stkFree,I.hok,I.bare,I.tabs⟩
def Inv.after(I:Inv X pins σ H s)(h:CE X.stack X.prog X.w H s Q u s'):EP X pins σ Q u s':=by
  obtain⟨v,H',os,bare,un,hok,r,q⟩:=h;obtain⟨hh,g,d,t,Ce⟩:=s';obtain rfl:Ce=s.os:=os;exact⟨v,H',I.call (h':=hh) (g':=g) (d':=d) (t':=t) (ch:=[]) un hok bare (λb z=>absurd z (by simp)),r,q⟩
end
def b7y(sp:Sp)(sf:List V)(E:XK)(t:TA):TE:=λσ H Q=>t σ H λvs H1=>sp (vs++sf) H1 Q E
def Binds(K:ag)(fd:dP)(ps:List bG)(ds:List aj):Prop:=
  ∀(s:av) (us:List aj),K.In s.heap→(us++ds).length=ps.length→nT s fd ⟨us,[]⟩ (ps.zip (us++ds))
def Binds.all{K:ag}{fd:dP}{ps:List bG}(h:∀us:List aj,us.length=ps.length→qx fd ⟨us,[]⟩=pure (ps.zip us)):Binds K fd ps []:=λs us _ hl=>by
  rw[bb]at hl ⊢;exact .of_eq (h us hl)
def a7O(CX:CXT)(X:Cx)(E:XK):Prop:=∀(pins:List (ax×fY)) (σ:St) (H:Hp) (s:av) (e:aj) (s':av),Inv X pins σ H s→CX X.stack H s E e s'→X.xe e s'
section
variable {X:Cx}{CX:CXT}{k:Nat}{f C:ax}{fd:dP}{ps:List bG}{sp:Sp}{sf:List V}{ds:List aj}{E:XK}{x m:bG}{p pos apos:fT}{e o:Expr}{es:List Expr}{ta:TE}{t:TA}
def b8r(F:FnOk X.prog X.w X.K X.mg X.base CX k f fd ps sp)(hr:Room k X.A)(hb:Binds X.K fd ps ds)(hd:Vals sf ds)(hx:a7O CX X E)
    (I:Inv X pins σ H s) (r:Vals vs us) (h:sp (vs++sf) H Q E):aX (aW X.prog X.w) X.A (call (.ref f) us) (EP X pins σ Q) X.xe s:=by
  have r2:Vals (vs++sf) (us++ds):=r.append hd;have hl:(us++ds).length=ps.length:=by rw[←r2.length];exact F.len _ _ _ _ h
  refine uL (gX (F.run X.A X.stack s H ⟨us,[]⟩ (us++ds) (vs++sf) Q E hr I.env0 (hb s us I.kIn hl) r2 h) λr s' hq=>?_);cases r with
  |error e=>exact hx pins σ H s e s' I hq
  |ok fl=>
    cases fl with
    |ret u=>exact I.after hq
    |next=>exact cK hq
    |brk=>exact cK hq
    |cont=>exact cK hq
def b5t(F:FnOk X.prog X.w X.K X.mg X.base CX k f fd ps sp)(hr:Room k X.A)(hg:Gl X x)(hm:X.mg x=cz (.ref f))(hk:fS X.K (.ref f)=true)(hb:Binds X.K fd ps ds)(hd:Vals sf ds)(hx:a7O CX X E)
    (ha:PA X (e::es) t) (lF:(x==("__debug__":bG))=false:=by decide) (he:au (e::es) X.env=(false,cC e X.env)::au es X.env:=by rfl) (gH:(cH pos (au es X.env)).any (·.1)=false:=by rfl) :
    PE X (.Call (.Name x p) (e::es) [] pos) (b7y sp sf E t):=by
  intro pins s σ H Q I h;refine gz (a5j I hg hm ?_ lF);refine zV (h₀:=X.base) I.ok.mod.kin hk (thn (ha pos pins s σ H _ I h) λus s1 ⟨vs,H1,I1,r,q⟩=>⟨I1.kIn,?_⟩) he gH;exact b8r F hr hb hd hx I1 r q
structure Mk (K:ag) (C f:ax):Prop where
  makes:PySem.W.makesIn K C=true
  init:jO K (.ref C) "__init__"=cz (cz (.ref f))
  fn:PySem.W.isFn K (.ref f)=true
  kp:fS K (.ref C)=true
end
def PK(X:Cx)(uU:List eP)(t:TA):Prop:=
  ∀(pos:fT) (pins:List (ax×fY)) (s:av) (σ:St) (H:Hp) (Q:List V→Hp→Prop),Inv X pins σ H s→t σ H Q→aX (aW X.prog X.w) X.A (evalAll ((e_ pos (dE uU X.env)).map (·.2))) (AP X pins σ Q) X.xe s
section
variable {X:Cx}{CX:CXT}{k:Nat}{f C:ax}{fd:dP}{ps ks:List bG}{sp:Sp}{E:XK}{x m:bG}{p pos apos lC:fT}{e o:Expr}{es:List Expr}{uU:List eP}{te ta:TE}{t tk:TA}{nm:Option bG}
def b8s:PK X [] b2q:=λ_ _ _ _ H Q I h=>wpAny_evalAll_nil ⟨[],H,I,.nil,h⟩
def b5u(ha:PE X e te)(hr:PK X uU t):PK X (⟨nm,e,lC⟩::uU) (a6q te t):=by
  intro pos pins s σ H Q I h;show aX _ _ (evalAll ((do let v ←cC e X.env;BV pos;pure v)::(e_ pos (dE uU X.env)).map (·.2))) _ _ s;refine wpAny_evalAll_cons (af (thn (ha pins s σ H _ I h) λu s1 ⟨x,H1,I1,r1,q1⟩=>af (lz (aC ?_))));exact thn (hr pos pins s1 σ H1 _ I1 q1) λus s2 ⟨xs,H2,I2,r2,q2⟩=>⟨x::xs,H2,I2,.cons r1 r2,q2⟩
structure KBinds (K:ag) (fd:dP) (ps ks:List bG) (g:List aj→List aj→List aj) (gV:List V→List V→List V):Prop where
  to:∀(s:av) (us ws:List aj),K.In s.heap→(g us ws).length=ps.length→nT s fd ⟨us,ks.zip ws⟩ (ps.zip (g us ws))
  rel:∀{vs:List V} {us:List aj} {zs:List V} {ws:List aj},Vals vs us→Vals zs ws→Vals (gV vs zs) (g us ws)
variable {g:List aj→List aj→List aj}{gV:List V→List V→List V}
end
structure FnScope (N P:List bG) (sc:gD):Prop where
  kind:sc.kind=.function
  co:sc.isCoroutine=false
  gen:sc.isGenerator=false
  nd:N.Nodup
  pre:N.take P.length=P
  par:∀x∈P,sc.names.lookup x=cz .local∨sc.names.lookup x=cz .cell
  nofree:∀y∈sc.names,y.2≠.free
theorem a4o{kindOf:bG→Option i_}{x:bG}:∀{binds:List (bG×aj)} {m:bG→Option aj},(∀v,(x,v)∉binds)→Bw kindOf binds m x=m x
  |[],_,_=>rfl
  | (n,v)::r,m,h=>by
    unfold Bw;rw[a4o λw hw=>h w (aw _ hw)]
    split
    · have:x≠n:=by rintro rfl;exact h v aL
      simp[this]
    · rfl
theorem a4p{kindOf:bG→Option i_}{x:bG}:∀{binds:List (bG×aj)} {m:bG→Option aj},(∀v,(x,v)∉binds)→Bx kindOf binds m x=m x
  |[],_,_=>rfl
  | (n,v)::r,m,h=>by
    unfold Bx;rw[a4p λw hw=>h w (aw _ hw)]
    split
    · rfl
    · have:x≠n:=by rintro rfl;exact h v aL
      simp[this]
theorem a4q{kindOf:bG→Option i_}{x:bG}{v:aj}:∀{P:List bG} {vs:List aj} {i:Nat} {m:bG→Option aj},P.Nodup→P[i]?=cz x→vs[i]?=cz v→kindOf x=cz .local→
    Bw kindOf (P.zip vs) m x=cz v
  |[],_,_,_,_,h,_,_=>by simp at h
  |_::_,[],_,_,_,_,h,_=>by simp at h
  |p::P,w::vs,0,m,nd,h1,h2,hk=>by
    simp at h1 h2;subst h1;subst h2
    show Bw kindOf ((p,w)::P.zip vs) m p=_;unfold Bw;rw[a4o λv hv=>(bZ.mp nd).1 (jq hv).1,aD hk];simp
  |p::P,w::vs,i+1,m,nd,h1,h2,hk=>by
    show Bw kindOf ((p,w)::P.zip vs) m x=_;unfold Bw;exact a4q (i:=i) (bZ.mp nd).2 (by simpa using h1) (by simpa using h2) hk
theorem a4r{kindOf:bG→Option i_}{x:bG}{v:aj}:∀{P:List bG} {vs:List aj} {i:Nat} {m:bG→Option aj},P.Nodup→P[i]?=cz x→vs[i]?=cz v→kindOf x≠cz .local→
    Bx kindOf (P.zip vs) m x=cz v
  |[],_,_,_,_,h,_,_=>by simp at h
  |_::_,[],_,_,_,_,h,_=>by simp at h
  |p::P,w::vs,0,m,nd,h1,h2,hk=>by
    simp at h1 h2;subst h1;subst h2
    show Bx kindOf ((p,w)::P.zip vs) m p=_;unfold Bx;rw[a4p λv hv=>(bZ.mp nd).1 (jq hv).1,aM hk];simp
  |p::P,w::vs,i+1,m,nd,h1,h2,hk=>by
    show Bx kindOf ((p,w)::P.zip vs) m x=_;unfold Bx;exact a4r (i:=i) (bZ.mp nd).2 (by simpa using h1) (by simpa using h2) hk
def start(N:List bG)(vs:List V):St:=vs.map cz++aG (N.length-vs.length) xn
def Z0(CX:CXT)(P:bD)(w:cm)(K:ag)(mg:bG→Option aj)(base:cQ)(N:List bG)(qual:bG)(scope:gD)(f:ax)(cd:aj)(A:bP)(outer:List nL)(s:av)(H:Hp)(E:XK):Cx where
  prog:=P
  w:=w
  K:=K
  mg:=mg
  base:=base
  A:=A.deeper (iB qual scope s.heap.objs.size f cd)
  N:=N
  s₀:=s
  H₀:=H
  env:=iB qual scope s.heap.objs.size f cd
  outer:=outer
  stack:=iB qual scope s.heap.objs.size f cd::outer
  ex:=[]
  calm:=true
  fn:=λ_=>true
  pn:=[]
  xe:=λe s'=>aX (aW P w) (A.deeper (iB qual scope s.heap.objs.size f cd)) (leaving (iB qual scope s.heap.objs.size f cd) e) (λ_ uN=>CX outer H s E e uN) (λe' uN=>CX outer H s E e' uN) s'
def a6r{sc:gD}(h:sc.names.lookup x=cz .cell):∃c,(cellsFrom n sc.names []).lookup x=cz c:=by
  have q:=tJ sc.names n [] (.inl h);exact kA.mp q
def b0z{CX:CXT}{P:bD}{w:cm}{K:ag}{mg:bG→Option aj}{base:cQ}{N ps:List bG}{qual:bG}{scope:gD}{f:ax}{cd:aj}{A:bP}{outer:List nL}{s s1:av}{H:Hp}{E:XK}{us:List aj}{vs:List V}
    (S:FnScope N ps scope) (hd:A.handled=xn) (e0:Env0 P w K mg base A outer s H) (hl:vs.length=ps.length) (r:Vals vs us)
    (x:InCallC s s.heap.objs.size (Bw (iB qual scope s.heap.objs.size f cd).kindOf (ps.zip us) λ_=>xn) (cellsFrom (s.heap.objs.size+1) scope.names []) (Bx (iB qual scope s.heap.objs.size f cd).kindOf (ps.zip us) λ_=>xn) s1) :
    Inv (Z0 CX P w K mg base N qual scope f cd A outer s H E) [] (start N vs) H s1:=by
  have gH:ps.length≤N.length:=by have:=dH et S.pre;rw[er]at this;omega
  obtain⟨h1,tk,rfl,hk⟩:=x.done;have sF:∀b:ax,b∉(Z0 CX P w K mg base N qual scope f cd A outer s H E).ex:=λb z=>absurd (show b∈([]:List ax) from z) (by simp)
  refine⟨⟨e0.mod,S.kind,rfl,rfl,az _,λy z c h1 h2=>?_,λy hy=>?_,λy c _ h=>?_,λ_=>hd,bP.frames_deeper e0.frames,.inr ⟨rfl,rfl⟩,λb z=>absurd z (sF b),e0.bs,e0.bsz,λb _ _=>sF b,λb z=>absurd z (sF b),e0.funs,e0.frf,e0.tabs⟩,
    rfl,e0.bare,Un.kept hk,⟨_,x.toInCall.ns,λi y v h1 h2 h3=>?_⟩,λy c h=>⟨_,x.cell y c h⟩,e0.hok.fresh (az _),λy c h=>?_,λp hp=>absurd (show p∈([]:List (ax×fY)) from hp) (by simp),e0.hok.kept hk,?_⟩
  · exact name_of_addr x.apart (cB h1) (cB h2)
  · have hy:scope.names.lookup y=cz .cell∨scope.names.lookup y=cz .free:=hy
    rcases hy with hy|hy
    · exact a6r hy
    · exact absurd rfl (S.nofree _ (cB hy))
  · exact fw (x.above y c (cB h))
  · have hi:i<vs.length:=by
      unfold start at h2;by_cases hi:i<vs.length
      · exact hi
      · rw[cF (by simpa using hi)]at h2
        rw[su]at h2
        split at h2<;>cases h2
    have ha:vs[i]?=cz v:=by
      unfold start at h2;rw[dA (by simpa using hi),aU]at h2;cases e:vs[i]? with
      |none=>rw[e]at h2;cases h2
      |some a=>rw[e]at h2;cases h2;rfl
    obtain⟨u,hu,rv⟩:=r.get ha;have hp:ps[i]?=cz y:=by
      rw[←S.pre,kC (by omega)];exact h1
    have Ak:ps.Nodup:=by rw[←S.pre];exact S.nd.sublist (List.take_sublist _ _)
    refine⟨u,rv,?_⟩;rcases S.par y (bh hp) with k|k
    · exact .inl ⟨k,a4q Ak hp hu k⟩
    · obtain⟨c,e⟩:=a6r (n:=s.heap.objs.size+1) k
      refine .inr ⟨.inl k,c,e,?_⟩;have q:=x.cell y c e;rw[a4r Ak hp hu (by show scope.names.lookup y≠_;rw[k];decide)]at q;exact q
  · exact e0.hok.fresh (fw (x.above y c (cB h)))
  · unfold start
    show _=N.length;rw[aA,ai,gu];omega
def b7z{CX:CXT}{P:bD}{w:cm}{K:ag}{mg:bG→Option aj}{base:cQ}{k:Nat}{f:ax}{name qual:bG}{params:nU}{body:List iq}{scope:gD}{dV kV doc pm fW ct oc:aj}{an od:Option ax}
    {oQ:Array (Option aj)} {N ps:List bG} {sp:Sp} (lk:K.lookup f=cz ⟨oc,od,.func (fX name qual params body scope dV kV doc pm an fW ct),oQ⟩) (iE:l_ K fW qual=true) (S:FnScope N ps scope)
    (len:∀vs H Q E,sp vs H Q E→vs.length=ps.length)
    (qm:∀(A:bP) (outer:List nL) (s:av) (H:Hp) (vs:List V) (Q:VK) (E:XK),Room k (A.deeper (iB qual scope s.heap.objs.size f fW))→sp vs H Q E→
      ∃t,PSs (Z0 CX P w K mg base N qual scope f fW A outer s H E) body t∧t {nx:=λ_ H'=>Q .non H',rt:=Q} (start N vs) H) :
    FnOk P w K mg base CX (k+1) f (fX name qual params body scope dV kV doc pm an fW ct) ps sp:=by
  refine⟨len,λA outer s H args us vs Q E hr e0 hb r pS=>?_⟩;have hl:=len _ _ _ _ pS;have KX:K.In s.heap:=e0.mod.kin.keeps λb o e=>(e0.bs b o e).1
  have lim:s.heap.NoLimit:=e0.mod.nolimit.keeps λb o e=>(e0.bs b o e).1
  have vE:∀y∈ps.zip us,scope.names.lookup y.1=cz .local∨(scope.names.lookup y.1=cz .cell∧((cellsFrom (s.heap.objs.size+1) scope.names []).lookup y.1).isSome=true):=λ⟨n,v⟩ hy=>by
    rcases S.par n (jq hy).1 with q|q
    · exact .inl q
    · exact .inr ⟨q,tJ _ _ _ (.inl q)⟩
  refine codeAny_call_function hr.depth (KX _ _ lk) rfl S.co S.gen rfl (PySem.W.codeRec_of KX iE) (hb _ _ _ _ ?_);refine wpAny_newFunctionEnv_cells S.kind vE λenv he s1 x=>?_
  subst he;refine⟨lim.keeps x.toInCall.keep,codeAny_func ?_⟩;obtain⟨t,ht,hq⟩:=qm A outer s H vs Q E (hr.deeper _) pS;have I:Inv (Z0 CX P w K mg base N qual scope f fW A outer s H E) [] (start N vs) H s1:=b0z S hr.hd e0 hl r x;refine dU (ht [] s1 (start N vs) H _ I hq) (λfl s' hs=>?_) λe s' hs=>hs
  have fin:∀{σ':St} {H':Hp} {v:V} {u:aj},Inv (Z0 CX P w K mg base N qual scope f fW A outer s H E) [] σ' H' s'→RelV v u→Q v H'→CE outer P w H s Q u s':=
    λ{σ' H' v u} J rv q=>⟨v,H',J.os,J.bare,J.base,J.hok,rv,q⟩
  cases fl with
  |ret u=>
    obtain⟨v,σ',H',J,rv,q⟩:=hs;exact fin J rv q
  |next=>
    obtain⟨σ',H',J,q⟩:=hs;exact fin (v:=V.non) (u:=bx) J rfl q
  |brk=>
    obtain⟨_,_,_,q⟩:=hs;exact cK q
  |cont=>
    obtain⟨_,_,_,q⟩:=hs;exact cK q
section
variable {X:Cx}{x:bG}{p pos:fT}{e:Expr}{es:List Expr}{t:TA}{id T:String}{r:List V→Hp→VK→Prop}
def tCB(r:List V→Hp→VK→Prop)(t:TA):TE:=λσ H Q=>t σ H λvs H1=>r vs H1 Q
def a2N(hc:CallR X (.builtin id) r)(hg:Gl X x)(hm:X.mg x=xn)(hv:gZ x=cz (.builtin id))(ha:PA X (e::es) t)(hn:x≠"__name__":=by decide)(lF:(x==("__debug__":bG))=false:=by decide)
    (he:au (e::es) X.env=(false,cC e X.env)::au es X.env:=by rfl) (gH:(cH pos (au es X.env)).any (·.1)=false:=by rfl):PE X (.Call (.Name x p) (e::es) [] pos) (tCB r t):=by
  intro pins s σ H Q I h;refine gz (U5 I hg hm hv ?_ hn lF);exact PyProof.Rows.callWith_builtin1 (thn (ha pos pins s σ H _ I h) λus s1 ⟨vs,H1,I1,r1,q1⟩=>hc pins s1 σ H1 vs us Q I1 r1 q1) he gH
def X4(hc:CallR X (.type T) r)(hg:Gl X x)(hm:X.mg x=xn)(hv:gZ x=cz (.type T))(ha:PA X (e::es) t)(hn:x≠"__name__":=by decide)(lF:(x==("__debug__":bG))=false:=by decide)
    (he:au (e::es) X.env=(false,cC e X.env)::au es X.env:=by rfl) (gH:(cH pos (au es X.env)).any (·.1)=false:=by rfl):PE X (.Call (.Name x p) (e::es) [] pos) (tCB r t):=by
  intro pins s σ H Q I h;refine gz (U5 I hg hm hv ?_ hn lF);exact fm (thn (ha pos pins s σ H _ I h) λus s1 ⟨vs,H1,I1,r1,q1⟩=>hc pins s1 σ H1 vs us Q I1 r1 q1) he gH
end
end L2
namespace HT
open PySem PyProof.Rows
def lexLt:List Int→List Int→Bool
  |[],[]=>false
  |[],_::_=>true
  |_::_,[]=>false
  |x::xs,y::ys=>if x=y then lexLt xs ys else decide (x<y)
def a2O(x y:Int)(xs ys:List Int):lexLt (x::xs) (y::ys)=if x=y then lexLt xs ys else decide (x<y):=rfl
def a3Y:lexLt [] []=false:=rfl
def a2P(y:Int)(ys:List Int):lexLt [] (y::ys)=true:=rfl
def a2Q(x:Int)(xs:List Int):lexLt (x::xs) []=false:=rfl
def b2r(A:bP)(s:av)(a:Int)(t:Tok)(c:Int)(u:Tok):∃e,SeqAt.EqAt A s (.int a t) (.int c u) e∧(e=true↔a=c):=
  ⟨(a==c),SeqAt.EqAt.int_int a t c u,by simp⟩
def b2s(A:bP)(s:av)(a:Int)(t:Tok)(c:Int)(u:Tok)(prog:bD)(w:cm)(E:aj→av→Prop)(Q:aj→av→Prop)(h:Q (.bool (decide (a<c))) s) :
    aX (aW prog w) A (richCompare .Lt (.int a t) (.int c u)) Q E s:=
  (PyProof.Rows.lt_int h:aX (aW prog w) A (dh .Lt (.int a t) (.int c u)) Q E s)
section
open PySem.SeqAt
open PySem.AutoSeq1 (wpAny_loadPart')
open PySem.MeetsSeq PySem.MeetsSeq2 PySem.MeetsSeq3
def a3Z(l b:ax)(items ji:Array aj)(n n2:Nat)(dd zN:Option ax)(sl xN:Array (Option aj))(ns ms:List Int)(hi:IntsAre items.toList ns)(hj:IntsAre ji.toList ms) :
    Meets (Builtin.«tuple.__lt__» ⟨[.ref l,.ref b],[]⟩)
      (λ_ R s=>s.heap.get? l=cz {cls:=.type "tuple",dict:=dd,data:=.seq items n,slots:=sl}∧s.heap.get? b=cz {cls:=.type "tuple",dict:=zN,data:=.seq ji n2,slots:=xN}∧
        R (.ok (.ret (.bool (lexLt ns ms)))) s):=
  .of_wp λprog w A R s h=>by
    obtain⟨hp,g,d,tk,os⟩:=s;obtain⟨hl,hb,h⟩:=h;have f2:=AutoSeq1.sub_tuple_tuple;have z1:items.size=ns.length:=by rw[←hi.length];simp
    have z2:ji.size=ms.length:=by rw[←hj.length];simp
    wp_walk using wpAny_loadPart' hl,wpAny_loadPart' hb,wpAny_forIn_list _ (λrest b s'=>b.1=xn∧s'=⟨hp,g,d,tk,os⟩∧∃(vs ws:List aj) (tW tX:List Int),rest=vs.zip ws∧
      IntsAre vs tW∧IntsAre ws tX∧tW.length+ji.size=tX.length+items.size∧R (.ok (.ret (.bool (lexLt tW tX)))) ⟨hp,g,d,tk,os⟩) _
    case turn=>
      rintro⟨y,x⟩ rest b s' ⟨uv,rfl,vs,ws,tW,tX,hz,sO,wX,hlen,hR⟩;cases sO with
      |nil=>rw[nK]at hz;cases hz
      |cons a t qR=>
        cases wX with
        |nil=>rw[mZ]at hz;cases hz
        |cons c u yj=>
          rw[dB]at hz
          injection hz with yf jF
          injection yf with hy hx
          subst hy hx;rw[a2O]at hR;simp only[aS]at hlen;obtain⟨e,he,vJ⟩:=b2r A.in1 ⟨hp,g,d,tk,os⟩ a t c u;refine af (he prog w _ _ ?_);cases e with
          |true=>
            rw[aD (vJ.mp rfl)]at hR
            wp_walk
            exact⟨rfl,rfl,_,_,_,_,jF,qR,yj,by omega,hR⟩
          |false=>
            rw[aM (λq=>absurd (vJ.mpr q) cw)]at hR;have CH:=b2s A.in1 ⟨hp,g,d,tk,os⟩ a t c u prog w
            wp_walk using CH
            exact⟨_,rfl,by simpa using hR⟩
    case fin=>
      rintro⟨b1,b2⟩ s' ⟨uv,rfl,vs,ws,tW,tX,hz,sO,wX,hlen,hR⟩;simp only at uv;subst uv;have hv:lexLt tW tX=decide (items.size<ji.size):=by
        cases sO with
        |nil=>
          cases wX with
          |nil=>
            simp only[gU]at hlen;rw[a3Y];exact (br (by omega)).symm
          |cons c u hw=>
            simp only[gU,aS]at hlen;rw[a2P];exact (aY (by omega)).symm
        |cons a t hv=>
          cases wX with
          |nil=>
            simp only[gU,aS]at hlen;rw[a2Q];exact (br (by omega)).symm
          |cons c u hw=>
            rw[dB]at hz;cases hz
      rw[hv]at hR
      wp_walk
      exact⟨_,rfl,by simpa[Builtin.Tuple.tupleCompareSizes]using hR⟩
    case h=>
      exact⟨rfl,rfl,items.toList,ji.toList,ns,ms,rfl,hi,hj,by omega,h⟩
end
section
variable {prog:bD}{w:cm}{A:bP}{E:aj→av→Prop}{s:av}
def a7P(hl:IsTup s.heap l items)(hb:IsTup s.heap b ji)(hi:IntsAre items.toList ns)(hj:IntsAre ji.toList ms)
    (hu:A.units<dW) (h:Q (.bool (lexLt ns ms)) s):aX (aW prog w) A (dh .Lt (.ref l) (.ref b)) Q E s:=by
  obtain⟨⟨cls,dd,data,sl⟩,ho,hc,n,hd⟩:=id hl;obtain⟨⟨EI,zN,data2,xN⟩,AI,qZ,n2,hd2⟩:=id hb;simp only at hc hd qZ hd2;subst hc hd qZ hd2;exact richCompare_meets_room (op:=.Lt) ⟨_,ho,rfl⟩ ⟨_,AI,rfl⟩ PySem.F.slot_tuple_lt PySem.F.entry_tuple_lt (PySem.F.args_tuple_lt_2 _ _) (a3Z l b items ji n n2 dd zN sl xN ns ms hi hj)
    ⟨ho,AI,show mw (lexLt ns ms)≠aj.notImplemented∧Q (.bool (lexLt ns ms)) s from⟨(λx=>nomatch x),h⟩⟩ hu
def sIx(n d:Nat):Option Int→Nat
  |none=>d
  |some v=>if v<0 then (v+(n:Int)).toNat else min v.toNat n
end
end HT
namespace L2
open PySem PySem.Spec PyProof.Rows
abbrev TO:=St→Hp→(Option Int→Hp→Prop)→Prop
def PO(X:Cx)(e:Option Expr)(t:TO):Prop:=
  ∀(pins:List (ax×fY)) (s:av) (σ:St) (H:Hp) (Q:Option Int→Hp→Prop),Inv X pins σ H s→t σ H Q→
    aX (aW X.prog X.w) X.A (evalPart e X.env) (λu s'=>∃o H',Inv X pins σ H' s'∧IsPart u o∧Q o H') X.xe s
def b5v:TO:=λ_ H Q=>Q xn H
def c0y(t:TE):TO:=λσ H Q=>t σ H λx H1=>∃i,x=.int i∧Q (cz i) H1
section
variable {X:Cx}{e:Expr}{te:TE}{lo hi:Option Expr}{tl th:TO}{pos p2:fT}
def b5w:PO X xn b5v:=by
  intro pins s σ H Q I h;rw[evalPart_none];exact aC ⟨xn,H,I,.none,h⟩
def b5x(h:PE X e te):PO X (cz e) (c0y te):=by
  intro pins s σ H Q I hw;rw[evalPart_some];refine thn (h pins s σ H _ I hw) λu s1 ⟨x,H1,I1,r1,q1⟩=>?_
  obtain⟨i,rfl,q⟩:=q1;obtain⟨t,rfl⟩:=r1;exact⟨cz i,H1,I1,.int i t,q⟩
def SlR(X:Cx)(r:V→Option Int→Option Int→Hp→VK→Prop):Prop:=
  ∀(pins:List (ax×fY)) (s:av) (σ:St) (H:Hp) (x:V) (v vl vu:aj) (lo hi:Option Int) (sl:ax) (Q:VK),Inv X pins σ H s→RelV x v→s.heap.IsSliceOf sl vl vu .none→IsPart vl lo→IsPart vu hi→r x lo hi H Q→
    ∃T id,typeLookup (.type T) "__getitem__"=pure (cz (.builtin id))∧s.TypeIs v T∧aX (aW X.prog X.w) X.A (qw v (.ref sl)) (EP X pins σ Q) X.xe s
def tSl(r:V→Option Int→Option Int→Hp→VK→Prop)(te:TE)(tl th:TO):TE:=λσ H Q=>te σ H λx H1=>tl σ H1 λl H2=>th σ H2 λu H3=>r x l u H3 Q
def b2t(hr:SlR X r)(he:PE X e te)(hl:PO X lo tl)(hu:PO X hi th):PE X (.Subscript e (.Slice lo hi xn p2) pos) (tSl r te tl th):=by
  intro pins s σ H Q I h;refine Subscript_ (thn (he pins s σ H _ I h) λv s1 ⟨x,H1,I1,r1,q1⟩=>?_);refine wpAny_Slice (thn (hl pins s1 σ H1 _ I1 q1) λvl s2 ⟨l,H2,I2,pl,q2⟩=>thn (hu pins s2 σ H2 _ I2 q2) λvu s3 ⟨u,H3,I3,pu,q3⟩=>?_);rw[evalPart_none];refine aC ?_;have I4:Inv X pins σ H3 {s3 with heap:=s3.heap.push {cls:=.type "slice",data:=.fields #[vl,vu,.none]}}:=I3.kept (t':=s3.toks) λb ob q=>aF _ q
  obtain⟨T,id,hT,ht,hg⟩:=hr pins {s3 with heap:=s3.heap.push {cls:=.type "slice",data:=.fields #[vl,vu,.none]}} σ H3 x v vl vu l u s3.heap.objs.size Q I4 r1 (cQ.IsSliceOf.new ..) pl pu q3;show aX (aW X.prog X.w) X.A (subscriptTail e (.Slice lo hi xn p2) v (.ref s3.heap.objs.size)) (EP X pins σ Q) X.xe {s3 with heap:=s3.heap.push {cls:=.type "slice",data:=.fields #[vl,vu,.none]}};exact tail_any (ops:=[.ref s3.heap.objs.size,v]) ht hT hg (by with_unfolding_all rfl)
def a7Q(xs:List V)(lo hi:Option Int):List V:=(xs.drop (HT.sIx xs.length 0 lo)).take (HT.sIx xs.length xs.length hi-HT.sIx xs.length 0 lo)
def a6s(xs:List V)(lo hi:Option Int):(a7Q xs lo hi).length≤xs.length:=by
  unfold a7Q;rw[er,iS];omega
end
def ixN(n:Nat)(i:Int):Option Nat:=if 0≤i then (if i<n then cz i.toNat else xn) else if -(n:Int)≤i then cz (i+n).toNat else xn
def atI{α:Type}(xs:List α)(i:Int):Option α:=(ixN xs.length i).bind λj=>xs[j]?
def a5m(h:ixN n i=cz j):seqIndex? i n=cz j∧j<n∧-(n:Int)≤i∧i<n:=by
  unfold ixN at h;by_cases h0:0≤i
  · rw[aD h0]at h
    by_cases h1:i<n
    · rw[aD h1]at h
      have e:i.toNat=j:=aE h;exact⟨by rw[seqIndex_of h0 h1,e],by omega,by omega,h1⟩
    · rw[aM h1]at h;cases h
  · rw[aM h0]at h
    by_cases h1:-(n:Int)≤i
    · rw[aD h1]at h
      have e:(i+n).toNat=j:=aE h;exact⟨by rw[seqIndex_neg (by omega) h1,e],by omega,h1,by omega⟩
    · rw[aM h1]at h;cases h
def a9j{α:Type}{xs:List α}{i:Int}{v:α}(h:atI xs i=cz v):∃j,seqIndex? i xs.length=cz j∧xs[j]?=cz v∧j<xs.length∧-(xs.length:Int)≤i∧i<xs.length:=by
  unfold atI at h;cases e:ixN xs.length i with
  |none=>rw[e]at h;cases h
  |some j=>
    rw[e]at h;obtain⟨h1,h2,h3,h4⟩:=a5m e;exact⟨j,h1,h,h2,h3,h4⟩
def a2z(b:Expr):Prop:=∀o i,rL b false o i=operate [o,i] (qw o i)
def IxR(X:Cx)(r:R2):Prop:=
  ∀(value slice:Expr) (pins:List (ax×fY)) (s:av) (σ:St) (H:Hp) (x y:V) (v u:aj) (Q:VK),Inv X pins σ H s→RelV x v→RelV y u→r x y H Q→
    rL slice false v u=operate [v,u] (qw v u)→aX (aW X.prog X.w) X.A (subscriptTail value slice v u) (EP X pins σ Q) X.xe s
def MtR(X:Cx)(id:String)(r:V→List V→Hp→VK→Prop):Prop:=
  ∀(pins:List (ax×fY)) (s:av) (σ:St) (H:Hp) (x:V) (xs:List V) (v:aj) (us:List aj) (Q:VK),Inv X pins σ H s→RelV x v→Vals xs us→r x xs H Q→
    aX (aW X.prog X.w) X.A (call (.builtin id) (v::us)) (EP X pins σ Q) X.xe s
section
variable {X:Cx}{a b:Expr}{ta tb:TE}{pos:fT}
def IxR.or(h:IxR X r)(h':IxR X r'):IxR X (λx y H Q=>r x y H Q∨r' x y H Q):=by
  intro value slice pins s σ H x y v u Q I rx ry q hs;rcases q with q|q
  · exact h value slice pins s σ H x y v u Q I rx ry q hs
  · exact h' value slice pins s σ H x y v u Q I rx ry q hs
def a9k(hr:IxR X r)(ha:PE X a ta)(hb:PE X b tb)(hs:a2z b):PE X (.Subscript a b pos) (tOp r ta tb):=by
  intro pins s σ H Q I h;exact Subscript_ (b8h ha hb I h λv u s2 x y H2 I2 rx ry q=>hr a b pins s2 σ H2 x y v u Q I2 rx ry q (hs _ _))
def c0z(K:ag):R2:=λx y H Q=>∃p xs i v,x=.ref p∧y=.int i∧SqL K H p xs∧atI xs i=cz v∧Q v H
def c0A(K:ag):R2:=λx y H Q=>∃p xs i v,x=.ref p∧y=.int i∧SqT K H p xs∧atI xs i=cz v∧Q v H
def b5y:IxR X (c0z X.K):=by
  intro value slice pins s σ H x y v u Q I rx ry h hs;obtain⟨p,xs,i,z,rfl,rfl,hq,he,q⟩:=h;cases rx
  obtain⟨t,rfl⟩:=ry;obtain⟨its,r,pl,hz⟩:=I.list hq;obtain⟨j,h1,h2,h3,h4,h5⟩:=a9j he;obtain⟨w,ew,uO⟩:=r.get h2;have hl:=r.length;have hn:=a1e;have fin:EP X pins σ Q w s:=⟨z,H,I,uO,q⟩;by_cases h0:0≤i
  · have hj:i.toNat=j:=by
      rw[seqIndex_of h0 h5]at h1;exact aE h1
    exact item_listR pl.isList h0 (by omega) (by rw[hj];simpa using ew) fin hs
  · have hj:(i+(its.toArray.size:Int)).toNat=j:=by
      rw[seqIndex_neg (by omega) h4]at h1;rw[be,←hl];exact aE h1
    exact subscriptTail_builtinR (x:=w) pl.isList.typeIs slot_list_getitem.lookup
      (wpAny_getItem_list_neg (Q:=λr s'=>r=w∧EP X pins σ Q r s') pl.isList (by omega) (by rw[be]<;>omega) (by omega) (by rw[hj];simpa using ew) ⟨rfl,fin⟩) hs
def b8t:IxR X (c0A X.K):=by
  intro value slice pins s σ H x y v u Q I rx ry h hs;obtain⟨p,xs,i,z,rfl,rfl,hq,he,q⟩:=h;cases rx
  obtain⟨t,rfl⟩:=ry;obtain⟨its,r,pl,hz⟩:=I.tuple hq;obtain⟨j,h1,h2,h3,h4,h5⟩:=a9j he;obtain⟨w,ew,uO⟩:=r.get h2;have hl:=r.length;have hn:=a1e;have fin:EP X pins σ Q w s:=⟨z,H,I,uO,q⟩;exact subscriptTail_builtinR (x:=w) pl.typeIs slot_tuple_getitem.lookup
    (getItem_tuple (j:=j) (Q:=λr s'=>r=w∧EP X pins σ Q r s') pl (by omega) (by omega) (by rw[be,←hl];exact h1) (by simpa using ew) ⟨rfl,fin⟩) hs
def a7R(its:List aj)(n j:Nat)(u:aj):bY (·.setIfInBounds j u) {cls:=.type "list",data:=.seq its.toArray n}={cls:=.type "list",data:=.seq (its.set j u).toArray n}:=by
  simp[bY]
theorem Inv.lst{pins:List (ax×fY)}{σ:St}{H:Hp}{s:av}{p:ax}{xs:List V}(I:Inv X pins σ H s)(h:H p=cz (.lst xs)) :
    ∃(its:List aj) (n:Nat),Vals xs its∧s.heap.get? p=cz {cls:=.type "list",data:=.seq its.toArray n}∧xs.length≤a_:=by
  obtain⟨z,its,n,r,e⟩:=I.hok p _ h;exact⟨its,n,r,e,z⟩
def Inv.lstUpd{its its':List aj}(I:Inv X pins σ H s)(h:H p=cz (.lst xs))
    (ho:s.heap.get? p=cz {cls:=.type "list",data:=.seq its.toArray n}) (hf:f {cls:=.type "list",data:=.seq its.toArray n}={cls:=.type "list",data:=.seq its'.toArray n'}) (r:Vals ys its') (hz:ys.length≤a_) (t:Nat) :
    Inv X pins σ (upd H p (.lst ys)) {s with heap:=s.heap.update p f,toks:=t}:=by
  have e:(s.heap.update p f).get? p=cz {cls:=.type "list",data:=.seq its'.toArray n'}:=by
    rw[cJ f ho (by rw[hf]<;>rfl),hf]
  refine I.write (x:=p) (e:=p) (by rw[h];trivial) (.inl rfl) (λb u hb q=>(dF _ _ (cP hb)).trans q) ⟨_,e⟩ ?_;exact⟨hz,its',n',r,e⟩
def c0B:V→V→V→Hp→(Hp→Prop)→Prop:=λo i v H Q=>∃p xs k j,o=.ref p∧i=.int k∧H p=cz (.lst xs)∧ixN xs.length k=cz j∧Q (upd H p (.lst (xs.set j v)))
def set_list:c0p X c0B:=by
  intro pins s σ H o i v ov iv u Q I ro ri rv h;obtain⟨p,xs,k,j,rfl,rfl,hp,hj,q⟩:=h;cases ro
  obtain⟨t,rfl⟩:=ri;obtain⟨its,n,r,ho,hz⟩:=I.lst hp;obtain⟨h1,h2,h3,h4⟩:=a5m hj;have hl:=r.length;have hn:=a1e;have I':Inv X pins σ (upd H p (.lst (xs.set j v))) {s with heap:=s.heap.update p (bY (·.setIfInBounds j u))}:=
    I.lstUpd hp ho (a7R its n j u) (r.set rv j) (by rw[gg];exact hz) s.toks
  by_cases h0:0≤k
  · have hk:k.toNat=j:=by
      rw[seqIndex_of h0 h4]at h1;exact aE h1
    exact PySem.W.ki_setAt ho h0 (by omega) (by rw[be,←hl];exact h4) (by rw[hk];exact⟨_,I',q⟩)
  · have hk:(k+(its.toArray.size:Int)).toNat=j:=by
      rw[seqIndex_neg (by omega) h3]at h1;rw[be,←hl];exact aE h1
    exact PySem.W.ki_setBack ho (by omega) (by rw[be,←hl];exact h3) (by omega) (by rw[hk];exact⟨_,I',q⟩)
def a5n(lo hi:Option Int)(n:Nat):(jD lo hi xn n).1=((HT.sIx n 0 lo:Nat):Int)∧(jD lo hi xn n).2.1=((HT.sIx n n hi:Nat):Int)∧(jD lo hi xn n).2.2=1:=by
  refine⟨?_,?_,rfl⟩
  · cases lo with
    |none=>simp[jD,HT.sIx]
    |some i=>
      simp only[jD,HT.sIx,EU,show (1:Int)>0 by decide,pG];by_cases h:i<0
      · simp only[h,pG]<;>omega
      · simp only[h,dw]<;>omega
  · cases hi with
    |none=>simp[jD,HT.sIx]
    |some i=>
      simp only[jD,HT.sIx,EU,show (1:Int)>0 by decide,pG];by_cases h:i<0
      · simp only[h,pG]<;>omega
      · simp only[h,dw]<;>omega
def a4a(its:List aj)(lo hi:Option Int):slicePick its.toArray lo hi xn=((its.drop (HT.sIx its.length 0 lo)).take (HT.sIx its.length its.length hi-HT.sIx its.length 0 lo)).toArray:=by
  obtain⟨h1,h2,h3⟩:=a5n lo hi its.toArray.size;unfold slicePick;rw[h1,h2,h3];simp only[sliceRange_one,pick_run,be]<;>rfl
def c2o(K:ag):V→Option Int→Option Int→Hp→VK→Prop:=λx lo hi H Q=>∃a xs,x=.ref a∧SqL K H a xs∧∀p,H p=xn→Q (.ref p) (upd H p (.lst (a7Q xs lo hi)))
def b5z:SlR X (c2o X.K):=by
  intro pins s σ H x v vl vu lo hi sl Q I rx hs pl pu h;obtain⟨a,xs,rfl,hx,q⟩:=h;cases rx
  obtain⟨its,r,ht,hz⟩:=I.list hx;have hlen:=r.length;refine⟨"list",_,slot_list_getitem.lookup,ht.isList.typeIs,?_⟩;refine wpAny_getItem_list_slice ht.isList hs pl pu .none (by simp) ?_ (by rw[be]<;>omega);rw[a4a,←hlen];refine⟨.ref s.heap.objs.size,_,I.laid (t':=s.toks) (o:=.lst (a7Q xs lo hi)) (λb ob q=>aF _ q) (az _) ?_,rfl,q _ (I.hok.fresh (az _))⟩;exact⟨cV (a6s xs lo hi) hz,_,0,(r.drop (HT.sIx xs.length 0 lo)).take (HT.sIx xs.length xs.length hi-HT.sIx xs.length 0 lo),bj _ rfl⟩
def a5o:CallR X (.builtin "len") (λxs H Q=>∃p ys,xs=[.ref p]∧(SqL X.K H p ys∨SqT X.K H p ys)∧Q (.int ys.length) H):=by
  intro pins s σ H xs us Q I r h;obtain⟨p,ys,rfl,hq,q⟩:=h;obtain⟨u,rfl,rx⟩:=vals1 r;cases rx
  have hn:=a1e;rcases hq with hq|hq
  · obtain⟨its,r',pl,hz⟩:=I.list hq
    have hlen:=r'.length;exact Calls.call_len_list pl.isList (by simp only[be]<;>omega) ⟨.int ys.length,H,I.tok _,⟨s.toks+1,by rw[be,hlen]⟩,q⟩
  · obtain⟨its,r',pl,hz⟩:=I.tuple hq
    have hlen:=r'.length;exact len_tuple pl (by simp only[be]<;>omega) ⟨.int ys.length,H,I.tok _,⟨s.toks+1,by rw[be,hlen]⟩,q⟩
def a5p:CallR X (.builtin "len") (λxs H Q=>∃z,xs=[.str z]∧z.length≤a_∧Q (.int z.length) H):=by
  intro pins s σ H xs us Q I r h;obtain⟨z,rfl,hz,q⟩:=h;obtain⟨u,rfl,t,rfl⟩:=vals1 r;have hn:=a1e;exact len_str (by omega) ⟨.int z.length,H,I.tok _,⟨_,rfl⟩,q⟩
def CallR.or(h:CallR X f r)(h':CallR X f r'):CallR X f (λxs H Q=>r xs H Q∨r' xs H Q):=by
  intro pins s σ H xs us Q I rs q;rcases q with q|q
  · exact h pins s σ H xs us Q I rs q
  · exact h' pins s σ H xs us Q I rs q
def a5q:CallR X (.type "list") (λxs H Q=>∃p ys,xs=[.ref p]∧(SqL X.K H p ys∨SqT X.K H p ys)∧∀l,H l=xn→Q (.ref l) (upd H l (.lst ys))):=by
  intro pins s σ H xs us Q I r h;obtain⟨p,ys,rfl,hq,q⟩:=h;obtain⟨u,rfl,rx⟩:=vals1 r;cases rx
  have fin:∀(its:List aj),Vals ys its→ys.length≤a_→∀(h':cQ) (c':Nat),(∀b o',s.heap.get? b=cz o'→h'.get? b=cz o')→
      h'.get? s.heap.objs.size=cz {cls:=.type "list",dict:=xn,data:=.seq its.toArray c',slots:=#[]}→EP X pins σ Q (.ref s.heap.objs.size) {s with heap:=h'}:=λits r' hz h' c' kp e=>
    ⟨.ref s.heap.objs.size,_,I.laid (t':=s.toks) kp (az _) (show ObjOk X.prog X.w _ h' _ (.lst ys) from⟨hz,its,c',r',e⟩),rfl,q _ (I.hok.fresh (az _))⟩
  rcases hq with hq|hq
  · obtain⟨its,r',pl,hz⟩:=I.list hq
    have hlen:=r'.length;obtain⟨o,ho,hc,n,hd⟩:=pl.isList;exact call_list_seq p (.inl rfl) ho hc hd (λh' c' kp e=>fin its r' hz h' c' kp e) (by simp only[be]<;>omega)
  · obtain⟨its,r',pl,hz⟩:=I.tuple hq
    have hlen:=r'.length;obtain⟨o,ho,hc,n,hd⟩:=pl;exact call_list_seq p (.inr rfl) ho hc hd (λh' c' kp e=>fin its r' hz h' c' kp e) (by simp only[be]<;>omega)
def a4b:CallR X (.type "tuple") (λxs H Q=>∃p ys,xs=[.ref p]∧((SqL X.K H p ys∧∀l,H l=xn→Q (.ref l) (upd H l (.tup ys)))∨(SqT X.K H p ys∧Q (.ref p) H))):=by
  intro pins s σ H xs us Q I r h;obtain⟨p,ys,rfl,h⟩:=h;obtain⟨u,rfl,rx⟩:=vals1 r;cases rx
  rcases h with⟨hq,q⟩|⟨hq,q⟩
  · obtain⟨its,r',pl,hz⟩:=I.list hq
    have hlen:=r'.length;refine call_tuple_list pl.isList (λh' kp=>?_) (by simp only[be]<;>omega);have I1:Inv X pins σ H {s with heap:=h'}:=I.kept (t':=s.toks) kp;have I2:Inv X pins σ (upd H h'.objs.size (.tup ys)) {s with heap:=h'.push {cls:=.type "tuple",data:=.seq its.toArray}}:=
      I1.laid (t':=s.toks) (λb o e=>aF _ e) (az _) (show ObjOk X.prog X.w _ _ _ (.tup ys) from⟨hz,its,r',IsTup.new _ _⟩)
    exact⟨.ref h'.objs.size,_,I2,rfl,q _ (I1.hok.fresh (az _))⟩
  · obtain⟨its,r',pl,hz⟩:=I.tuple hq
    exact call_tuple_same pl ⟨.ref p,H,I,rfl,q⟩
def tyV(K:ag)(T:String)(x:V)(H:Hp):Prop:=match x with
  |.str _=>T="str"
  |.int _=>T="int"
  |.ref p=>(T="list"∧∃xs,SqL K H p xs)∨(T="tuple"∧∃o,K.lookup p=cz o∧o.cls=.type "tuple"∧o.dict=xn)∨
      (T="dict"∧((∃kvs,H p=cz (.dK kvs))∨∃kvs,H p=cz (.dT kvs)))∨(T="set"∧∃S n,H p=cz (.set S n))
  |_=>False
def b8u(I:Inv X pins σ H s)(r:RelV x v)(ty:tyV X.K T x H) :
    s.TypeIs v T∧∀a,v=.ref a→∃ob,s.heap.get? a=cz ob∧ob.dict=xn:=by
  cases x with
  |str z=>
    obtain⟨t,rfl⟩:=r;cases (show T="str" from ty)
    exact⟨typeIs_str s z t,λ_ e=>nomatch e⟩
  |int i=>
    obtain⟨t,rfl⟩:=r;cases (show T="int" from ty)
    exact⟨typeIs_int s i t,λ_ e=>nomatch e⟩
  |ref p=>
    cases r
    rcases ty with⟨rfl,xs,hq⟩|⟨rfl,o,hk,hc,hd⟩|⟨rfl,hk⟩|⟨rfl,S,n,hk⟩
    · obtain⟨its,_,pl,_⟩:=I.list hq
      refine⟨pl.isList.typeIs,λa e=>?_⟩;cases e
      obtain⟨o,n,e,c,hd,_⟩:=pl;exact⟨o,e,hd⟩
    · refine⟨⟨o,I.kIn p o hk,hc⟩,λa e=>?_⟩
      cases e
      exact⟨o,I.kIn _ o hk,hd⟩
    · have z:∃o,s.heap.get? p=cz o∧o.ExactDict:=by
        rcases hk with⟨kvs,hk⟩|⟨kvs,hk⟩
        · obtain⟨_,_,_,_,o,_,_,e,ex,_⟩:=I.hok p _ hk
          exact⟨o,e,ex⟩
        · obtain⟨_,_,_,_,o,_,_,e,ex,_⟩:=I.hok p _ hk
          exact⟨o,e,ex⟩
      obtain⟨o,e,ex⟩:=z;refine⟨⟨o,e,ex.1⟩,λa e2=>?_⟩;cases e2
      exact⟨o,e,ex.2.1⟩
    · obtain⟨o,_,_,_,e,ex,_⟩:=I.hok p _ hk
      refine⟨⟨o,e,ex.1⟩,λa e2=>?_⟩;cases e2
      exact⟨o,e,ex.2.1⟩
  |_=>exact cK ty
def tBM(K:ag)(T:String)(r:V→List V→Hp→VK→Prop)(to:TE)(t:TA):TE:=λσ H Q=>to σ H λx H1=>tyV K T x H1∧t σ H1 λxs H2=>r x xs H2 Q
variable {o e:Expr}{es:List Expr}{to:TE}{t:TA}{name:bG}{apos cM:fT}{T id:String}{r:V→List V→Hp→VK→Prop}
def a4s(pa:PlainAttrs T)(slot:Slot T name id)(yp:typeOf (.builtin id)=pure (.type "method_descriptor"))(hm:MtR X id r)(ho:PE X o to)(ha:PA X (e::es) t)
    (fK:d_ o name X.env (cC o X.env)=cC o X.env:=by rfl)
    (iM:((cH cM (au (e::es) X.env)).all (λx=>!x.1)&&(e_ cM (dE [] X.env)).all (λx=>x.1.isSome)
      && decide ((e::es).length+([]:List eP).length+(if ([]:List eP).isEmpty then 0 else 1)<30))=true:=by rfl)
    (fJ:(apos.endLine==cM.line)=true:=by rfl) (hs:au (e::es) X.env=(false,cC e X.env)::au es X.env:=by rfl) (eJ:(cH cM (au es X.env)).any (·.1)=false:=by rfl) :
    PE X (.Call (.Attribute o name apos) (e::es) [] cM) (tBM X.K T r to t):=by
  intro pins s σ H Q I h;refine BL fK iM fJ rfl (thn (ho pins s σ H _ I h) λv s1 ⟨x,H1,I1,r1,ty,q1⟩=>?_);obtain⟨h1,h2⟩:=b8u I1 r1 ty;refine⟨T,id,pa,slot,yp,h1,h2,?_⟩;have hA:=ha cM pins s1 σ H1 _ I1 q1;rw[hs]at hA ⊢;refine mD (by show (false||(cH cM (au es X.env)).any (·.1))=false;rw[eJ]<;>rfl) (nM ?_);exact thn hA λus s2 ⟨vs,H2,I2,r2,q2⟩=>hm pins s2 σ H2 x vs v us Q I2 r1 r2 q2
/- xs.append(e), list.index on a uT tuple .. are MtR facts of 06m -/
end
def MtM(X:Cx)(id:String)(r:V→List V→Hp→VK→Prop):Prop:=
  ∀(pins:List (ax×fY)) (s:av) (σ:St) (H:Hp) (x:V) (xs:List V) (v:aj) (us:List aj) (Q:VK),Inv X pins σ H s→RelV x v→Vals xs us→r x xs H Q→
    aX (aW X.prog X.w) X.A (call (.builtin id) (v::us)) (EP X pins σ Q) X.xe s
def Vals.one:∀{x:V} {us:List aj},Vals [x] us→∃u,us=[u]∧RelV x u
  |_,_,.cons r .nil=>⟨_,rfl,r⟩
section
variable {X:Cx}{pins:List (ax×fY)}{σ:St}{H:Hp}{s:av}{l b:ax}{xs ys zs:List V}
def Inv.lset{its its':List aj}(I:Inv X pins σ H s)(hH:H l=cz (.lst xs))
    (e:s.heap.get? l=cz {cls:=.type "list",data:=.seq its.toArray n}) (hf:f its.toArray=its'.toArray) (hv:Vals ys its') (hz:ys.length≤a_) :
    Inv X pins σ (upd H l (.lst ys)) {s with heap:=s.heap.update l (bY f),toks:=t'}:=by
  have q:=PySem.IsL.update e f;rw[hf]at q;refine I.write (x:=l) (e:=l) (by rw[hH];exact trivial) (.inl rfl) (λb' u hb hu=>(dF s.heap (bY f) (cP hb)).trans hu) ⟨_,q⟩ ?_;exact⟨hz,its',_,hv,q⟩
def Inv.lnew(I:Inv X pins σ H s)(hv:Vals ys its)(hz:ys.length≤a_) :
    Inv X pins σ (upd H s.heap.objs.size (.lst ys)) {s with heap:=s.heap.push {cls:=.type "list",data:=.seq its.toArray},toks:=t'}:=
  I.laid (λ_ _ q=>aF _ q) (az _) ⟨hz,its,0,hv,bj _ rfl⟩
theorem Inv.fresh(I:Inv X pins σ H s):H s.heap.objs.size=xn:=I.hok.fresh (az _)
def Inv.lstM(I:Inv X pins σ H s)(hH:H l=cz (.lst xs)):xs.length≤a_∧∃(its:List aj) (n:Nat),Vals xs its∧xs.length=its.length∧s.heap.get? l=cz {cls:=.type "list",data:=.seq its.toArray n}:=by
  obtain⟨z,its,n,r,e⟩:=I.hok l _ hH;exact⟨z,its,n,r,r.length,e⟩
def b2u(h:n≤a_):lJ n=false:=by
  unfold lJ;exact br (by omega)
end
section
variable {X:Cx}
def b5A:V→List V→Hp→VK→Prop:=λx vs H Q=>∃l xs y,x=.ref l∧vs=[y]∧H l=cz (.lst xs)∧xs.length<a_∧Q .non (upd H l (.lst (xs++[y])))
def X5:MtM X "list.append" b5A:=by
  intro pins s σ H x vs v us Q I rx rv h;obtain⟨l,xs,y,rfl,rfl,hH,hz,q⟩:=h;cases rx
  obtain⟨u,rfl,ru⟩:=rv.one;obtain⟨z,its,n,r,hl,e⟩:=I.lstM hH;refine call_meets F.slot_list_append ⟨_,e,rfl⟩ F.entry_list_append (F.args_list_append_2 _ _) (PySem.list_append l its.toArray n u (by rw[be];omega)) ⟨e,?_⟩;refine⟨.non,_,I.lset (its':=its++[u]) hH e (by simp) (r.append (.cons ru .nil)) ?_,rfl,q⟩;rw[aA,bS];omega
def b5B:V→List V→Hp→VK→Prop:=λx vs H Q=>∃l b xs zs,x=.ref l∧vs=[.ref b]∧H l=cz (.lst xs)∧H b=cz (.lst zs)∧xs.length+zs.length≤a_∧Q .non (upd H l (.lst (xs++zs)))
def a4t:MtM X "list.extend" b5B:=by
  intro pins s σ H x vs v us Q I rx rv h;obtain⟨l,b,xs,zs,rfl,rfl,hH,hB,hz,q⟩:=h;cases rx
  obtain⟨u,rfl,ru⟩:=rv.one;cases ru
  obtain⟨z,its,n,r,hl,e⟩:=I.lstM hH;obtain⟨z2,nX,n2,r2,qX,e2⟩:=I.lstM hB;have kN:its.toArray.size+nX.toArray.size≤a_:=by rw[be,be];omega
  have vB:¬ (!its.toArray.isEmpty&&lJ (its.toArray.size+nX.toArray.size))=true:=by
    rw[b2u kN,Bool.and_false];exact cw
  refine call_meets F.slot_list_extend ⟨_,e,rfl⟩ F.entry_list_extend (F.args_list_extend_2 _ _)
    (AutoSeq1.list_extend_list_list_0 l its.toArray n b nX.toArray n2 vB (by rw[be];omega) (by omega)) ⟨e,e2,?_⟩
  refine⟨.non,_,I.lset (its':=its++nX) hH e (by simp) (r.append r2) ?_,rfl,q⟩;rw[aA];omega
end
end L2
namespace Att
open PySem PySem.W PySem.Calls PyProof.Rows
def a2s:∀(ns:List Int) (vs:List aj),WellAll P h vs (ns.map WData.int)→IntsAre vs ns:=by
  intro ns
  induction ns with
  |nil=>
    intro vs w;rw[c_]at w;cases w
    exact .nil
  |cons n ns ih=>
    intro vs w;rw[ay]at w;cases w with
    |cons a b=>
      cases a
      exact .cons _ _ (ih _ b)
def b0A{l:OpenLaw}(hn:l.most=cz n) 
    (oS:l.row.toRowW.claim.pre args=true) (wW:WellAll P h vals args) :
    ∃a vs ns,vals=[bL a]∧args=[WData.list (ns.map WData.int)]∧h.get? a=cz {cls:=.type "list",data:=.seq vs.toArray}∧IntsAre vs ns∧ns.length≤n:=by
  have CG:WShape.hasAll [] args [.list .int]=true:=(pre_splitW oS).1;have hc:l.pre.holds [] {args:=args}=true:=(pre_splitW oS).2;obtain⟨d,r,rfl,h1,h2⟩:=hasAllW_cons CG;obtain rfl:=hasAllW_nil h2;obtain⟨xs,rfl,h3⟩:=hasW_list h1;obtain⟨ns,rfl⟩:=items_int h3;have hlen:ns.length≤n:=by
    unfold OpenLaw.pre at hc;have h4:(WTm.not (.lt (.lit (.int (n:Int))) (.len (.arg 0)))).holds [] {args:=[.list (ns.map .int)]}=true:=by
      have h4:=(holds_andW hc).1;rw[hn]at h4;exact h4
    have h5:=condW_of h4 (w_not (w_lt w_lit (w_len_list (w_arg rfl))));rw[ai]at h5;refine Nat.le_of_not_lt λq=>?_
    have q':(n:Int)<((ns.length:Nat):Int):=by omega
    first
      | (rw[aY q']at h5;exact absurd h5 (by decide))
      | (simp at h5;omega)
  cases wW with
  |cons w1 w2=>
    cases w2
    cases w1 with
    |list ho jk=>exact⟨_,_,ns,rfl,rfl,ho,a2s ns _ jk,hlen⟩
def b0B(l:OpenLaw)(args:List WData):l.row.toRowW.claim.post args (.bool true) args=true:=
  postW_of (r:=l.row.toRowW) (X:=(true==true))
    (show WShape.has [] (.bool true) .bool=true by first|rfl|decide|simp[WShape.has,WShape.arms,WShape.armsAll])
    (show (WTm.eq .res (.lit (.bool true))).value [] {args:=args,res:=cz (.bool true),after:=args}=cz (.bool (true==true)) from w_eq_bool (w_res rfl) w_lit) rfl
def attach_call{l:OpenLaw}{d:DefRec}
    (hn:l.most=cz n) (vS:d.params.defaults=[])
    (call:∀(w:cm) (s₀ s₁:av) (mg mb:bG→Option aj) (fa:ax) (o:fY) (pm cd doc:aj) (a:ax) (vs:List aj) (ns:List Int),
      Ground q loose [] XP w s₀ mg mb s₁.heap→YP w s₁.heap→
      s₁.heap.get? fa=cz o→o.data=.func (docDef d.name d.params d.body d.scope pm cd doc)→s₁.heap.CodeRec cd d.name→mg d.name=cz (.ref fa)→
      s₁.heap.get? a=cz {cls:=.type "list",data:=.seq vs.toArray}→IntsAre vs ns→ns.length≤n→s₁.gens=#[]→
      gY (aW l.prog w) nR (.call (.ref fa) ⟨[.ref a],[]⟩) (λr s'=>r=.ok (.ret (.bool true))∧OldK s₁.heap s'.heap∧s'.os=s₁.os∧oO s'.gens) s₁) :
    WalkO q loose XP YP l.row.toRowW d [] (λf vs=>zT f vs):=by
  intro w s₀ s₁ mg mb G Y fa o pm cd doc dV kV ho hd iE hD vA hg args vals as oS vC yz wW hlo;obtain rfl:dV=.none:=Dflts.none hD vS;obtain rfl:kV=.none:=Dflts.noKw hD;obtain⟨a,vs,ns,rfl,rfl,sU,hints,hlen⟩:=b0A hn oS wW;refine enter_call (gX (call w s₀ s₁ mg mb fa o pm cd doc a vs ns G Y ho (fd_plain hd) iE vA sU hints hlen hg) λr s' hq=>?_);obtain⟨rfl,h2,h3,h4⟩:=hq;exact⟨.inl ⟨.bool true,.bool true,[],rfl,λ_=>rfl,.bool true,b0B l _,λ_=>⟨kl,λ_ hm=>(nomatch hm)⟩⟩,h2,h3,h4⟩
section
variable {prog:bD}{w:cm}{A:bP}{E:aj→av→Prop}{s:av}{K:Frag}
def ledger(h:cQ)(L d:ax):List (ax×fY):=(ao h.objs.size).filterMap λa=>if a=L∨a=d then xn else (h.get? a).map λo=>(a,o)
end
end Att
namespace L2
open PySem PySem.Spec PyProof.Rows
theorem vals_ints:∀{vs:List aj} {ns:List Int},IntsAre vs ns→Vals (ns.map V.int) vs
  |_,_,.nil=>.nil
  |_,_,.cons n t h=>.cons ⟨t,rfl⟩ (vals_ints h)
abbrev KOf{K:ag}{h:cQ}(_:K.In h):ag:=K
end L2
/- FZ E_ xD (shape; LID, My.* are z_):
   My.Adr: a structure of pE addresses qN BK Am names (classes,uD);My.Txt K t: a structure (Prop) of pE equations over K;
   My.txt_mk:{K} {implicit addresses ..} (e1:nsIn K bU "law"=cz (cz (.ref f))) (e2:K.lookup f=cz ⟨oc,od,.func (fnOf "law" "law" params body scope dV kV doc pm an fW ct),sl⟩) (e3:codeIn K fW "law"=true) ..:∃t,My.Txt K t
set_option maxRecDepth 100000 in
set_option maxHeartbeats 0 in
def PySem.Challenge.cw_LID_holds : PySem.Challenge.rw_LID.Holds := by
  w_on;o_law;k_head;(case hw=>w_witness2)
  k_fill
  refine L2.walk_of (l:=PySem.Challenge.rw_LID) (n:=63) (k:=40) (x:="script") (CX:=λw=>..) (sp:=λ_=>My.sp_law) rfl (by decide) rfl ⟨rfl,by decide,by decide⟩ (λw h Y=>PySem.W.kIn_of Y) ?F ?S ?C
  case F=>
    intro w mg fa h KX G vA;have T:∃t,My.Txt (L2.KOf KX) t:=by
      dsimp only[L2.KOf]                          -- K Cn Ab as «<heap const> w.params» FP k_is
      refine' My.txt_mk ?e1 ?e2 ?e3 ..
      (case e1=>PySem.W.k_is)                    -- in pE order: a name -> its address -> its object -> its parts
      (case e2=>PySem.W.k_is)
      ..
    obtain⟨t,T⟩:=T;have e0:=vA.symm.trans (kr KX G T.law);cases e0                                       -- fa is pE An own address
    exact⟨_,λs u=>.of_eq rfl,λbase kb nb=>My.law_fn T kb nb⟩     -- if «.of_eq Ae comes Fh early: refine' ⟨_,?b,λbase kb nb=>My.law_fn T kb nb⟩;exact λs u=>.of_eq rfl
  case S=>exact λw H a ns hl hO hS=>..
  case C=>exact ..
(pE tactic k_is has no namespace: write k_is) -/
namespace L2
open PySem PySem.Spec PyProof.Rows
def Q7(s:iq):nU:=match s with
  |.FunctionDef _ a _ _ _ _ _ _ _ _=>a
  |_=>{posonlyargs:=[],args:=[],vararg:=xn,kwonlyargs:=[],kw_defaults:=[],kwarg:=xn,defaults:=[]}
def r9(s:iq):List iq:=match s with
  |.FunctionDef _ _ b _ _ _ _ _ _ _=>b
  |_=>[]
def f6(s:iq):gD:=match s with
  |.FunctionDef _ _ _ _ _ _ sc _ _ _=>sc
  |_=>{kind:=.function,names:=[],isGenerator:=false,isCoroutine:=false}
abbrev CX0:CXT:=λ_ _ _ _ _ _=>False
abbrev E0:XK:=λ_ _ _=>False
def c0C:a7O CX0 X E0:=λ_ _ _ _ _ _ _ h=>h.elim
structure Fun (K:ag) (x qual:bG) (st:iq) (f:ax) (fd:dP):Prop where
  ex:∃(oc:aj) (od:Option ax) (kV doc pm:aj) (an:Option ax) (fW ct:aj) (oQ:Array (Option aj)),
    fd=fX x qual (Q7 st) (r9 st) (f6 st) .none kV doc pm an fW ct∧K.lookup f=cz ⟨oc,od,.func fd,oQ⟩∧l_ K fW qual=true
  kp:fS K (.ref f)=true
section
variable {P:bD}{w:cm}{K:ag}{mg:bG→Option aj}{base:cQ}
def Fun.ok{x qual:bG}{st:iq}{f:ax}{fd:dP}{N ps:List bG}{k:Nat}{sp:Sp}(F:Fun K x qual st f fd)(S:FnScope N ps (f6 st))(len:∀vs H Q E,sp vs H Q E→vs.length=ps.length)
    (qm:∀(fW:aj) (A:bP) (outer:List nL) (s:av) (H:Hp) (vs:List V) (Q:VK) (E:XK),Room k (A.deeper (iB qual (f6 st) s.heap.objs.size f fW))→sp vs H Q E→
      ∃t,PSs (Z0 CX0 P w K mg base N qual (f6 st) f fW A outer s H E).nox (r9 st) t∧t {nx:=λ_ H'=>Q .non H',rt:=Q} (start N vs) H):FnOk P w K mg base CX0 (k+1) f fd ps sp:=by
  obtain⟨oc,od,kV,doc,pm,an,fW,ct,oQ,rfl,lk,iE⟩:=F.ex;refine b7z lk iE S len λA outer s H vs Q E hr pS=>?_
  obtain⟨t,h,q⟩:=qm fW A outer s H vs Q E hr pS;exact⟨t,h.nox,q⟩
def Fun.binds{x qual:bG}{st:iq}{f:ax}{fd:dP}{ps:List bG}(F:Fun K x qual st f fd)
    (h:∀(kV doc pm:aj) (an:Option ax) (fW ct:aj) (us:List aj),us.length=ps.length→qx (fX x qual (Q7 st) (r9 st) (f6 st) .none kV doc pm an fW ct) ⟨us,[]⟩=pure (ps.zip us)):Binds K fd ps []:=by
  obtain⟨oc,od,kV,doc,pm,an,fW,ct,oQ,rfl,lk,iE⟩:=F.ex;exact .all (h kV doc pm an fW ct)
def b8v{x qual:bG}{st:iq}{f:ax}{oc:aj}{od an:Option ax}{oQ:Array (Option aj)}{kV doc pm fW ct:aj}(l:K.lookup f=cz ⟨oc,od,.func (fX x qual (Q7 st) (r9 st) (f6 st) .none kV doc pm an fW ct),oQ⟩)
    (c:l_ K fW qual=true) (k:fS K (.ref f)=true):Fun K x qual st f (fX x qual (Q7 st) (r9 st) (f6 st) .none kV doc pm an fW ct):=⟨⟨oc,od,kV,doc,pm,an,fW,ct,oQ,rfl,l,c⟩,k⟩
end
def X6(h:n≤1000):n<a_:=hJ h (by decide)
section
variable {X:Cx}
def pv(i:Nat)(hN:X.N[i]?=cz x:=by rfl)(hv:Vis X.env.scope x:=by first|exact bO rfl|exact bN (bO rfl)|exact bN (bN rfl))(hd:(x==("__debug__":bG))=false:=by decide)
    (iE:(x==("__classdict__":bG))=false:=by decide):PE X (.Name x pos) (c0h i):=A0 hN hv hd iE
end
def a6t{A B:Prop}(h:B):if false=true then A else B:=by
  rw[aM cw];exact h
def a5r{A B:Prop}(h:A):if true=true then A else B:=by
  rw[aD rfl];exact h
def Same(H H':Hp):Prop:=∀b o,H b=cz o→H' b=cz o
def Same.refl(H:Hp):Same H H:=λ_ _ h=>h
def Same.trans(a:Same H H1)(b:Same H1 H2):Same H H2:=λc o h=>b c o (a c o h)
def Same.free{H H':Hp}(e:Same H H'){l:ax}(h:H' l=Option.none):H l=Option.none:=by
  cases q:H l with
  |none=>rfl
  |some o=>
    rw[e l o q]at h;cases h
end L2
set_option Elab.async false
set_option linter.all false
set_option maxRecDepth 100000
set_option maxHeartbeats 4000000
namespace L2
open PySem PySem.Spec PyProof.Rows
def G8(X:Cx)(N:List bG)(scope:gD)(cl:List (bG×ax))(C:ax)(s:av)(H:Hp)(fp:List ax):Cx:=
 {X with N:=N,s₀:=s,H₀:=H,env:=compEnvC scope cl C X.env,outer:=X.stack,ex:=fp,fn:=λ_=>false,xe:=λ_ _=>False}
structure CompIn (X:Cx) (N:List bG) (scope:gD) (cl:List (bG×ax)) (τ:St->St):Prop where
 clos:pf scope X.env=pure cl
 kind:scope.kind=.function
 ncell:∀y∈scope.names,y.2≠.cell
 names:∀y∈scope.names,y.2=.local->scope.names.lookup y.1=cz .local
 sub:∀x c,cl.lookup x=cz c->X.env.cells.lookup x=cz c
 has:∀y∈scope.names,y.2=.free->∃c,cl.lookup y.1=cz c
 tlen:∀σ,(τ σ).length=N.length
 tval:∀(σ:St) (i:Nat) (x:bG) (v:V),N[i]?=cz x->(τ σ)[i]?=cz (cz v)->∃j:Nat,X.N[j]?=cz x/\σ[j]?=cz (cz v)/\scope.names.lookup x=cz .free/\(X.env.kindOf x=cz .cell∨X.env.kindOf x=cz .free)
def a0A{scope:gD}(hn:∀y∈scope.names,y.2≠.cell)(h:(mj scope env).names.lookup x=cz .cell∨(mj scope env).names.lookup x=cz .free):∃y∈scope.names,y.1=x/\y.2=.free:=by
 have key:∀k,(mj scope env).names.lookup x=cz k->k=.cell∨k=.free->∃y∈scope.names,y.1=x/\y.2=.free:=λk e hk=>by
  have hm:=cB e;unfold mj at hm;obtain⟨⟨n,k'⟩,hy,e2⟩:=aJ.mp hm
  dsimp only at e2
  by_cases hc:(k'==fH&&env.scope.kind==.function&&env.kindOf n==cz .cell)=true
  ·rw[aD hc]at e2;cases e2
   rw[aB,aB]at hc;exact⟨_,hy,rfl,by simpa using hc.1.1⟩
  ·rw[aM hc]at e2;cases e2
   rcases hk with rfl|rfl
   ·exact absurd rfl (hn _ hy)
   ·exact⟨_,hy,rfl,rfl⟩
 rcases h with h|h
 ·exact key _ h (.inl rfl)
 ·exact key _ h (.inr rfl)
def a5s{scope:gD}(h:scope.names.lookup x=cz .free):(mj scope env).names.lookup x=cz .cell∨(mj scope env).names.lookup x=cz .free:=by
 have key:∀names:List (bG×i_),names.lookup x=cz .free->
   (names.map λ(n,k)=>if (k==fH&&env.scope.kind==.function&&env.kindOf n==cz .cell) then (n,i_.cell) else (n,k)).lookup x=cz .cell∨
   (names.map λ(n,k)=>if (k==fH&&env.scope.kind==.function&&env.kindOf n==cz .cell) then (n,i_.cell) else (n,k)).lookup x=cz .free:=by
  intro names
  induction names with
  |nil=>intro h;cases h
  |cons z r ih=>
   obtain⟨n,k⟩:=z;intro h;rw[ay]
   dsimp only
   rw[fU]at h;cases hx:x==n with
   |true=>
    rw[hx]at h;have hk:k=.free:=by simpa using h
    subst hk;by_cases hc:(fH==fH&&env.scope.kind==.function&&env.kindOf n==cz .cell)=true
    ·rw[aD hc,fU,hx];exact .inl rfl
    ·rw[aM hc,fU,hx];exact .inr rfl
   |false=>
    rw[hx]at h;by_cases hc:(k==fH&&env.scope.kind==.function&&env.kindOf n==cz .cell)=true
    ·rw[aD hc,fU,hx];exact ih h
    ·rw[aM hc,fU,hx];exact ih h
 exact key _ h
structure Has (P:bD) (w:cm) (K:ag) (mg:bG->Option aj) (base:cQ) (x:bG) (k:Nat) (ps:List bG) (sp:Sp):Prop where
 ex:∃f fd,FnOk P w K mg base CX0 k f fd ps sp/\Binds K fd ps []/\fS K (.ref f)=true/\mg x=cz (.ref f)
def Has.up{P:bD}{w:cm}{K:ag}{mg:bG->Option aj}{base:cQ}{x:bG}{j k:Nat}{ps:List bG}{sp:Sp}(h:Has P w K mg base x j ps sp)(l:j<=k):Has P w K mg base x k ps sp:=by
 obtain⟨f,fd,a,b⟩:=h.ex;exact⟨f,fd,a.mono l,b⟩
section
variable {X:Cx}{k:Nat}{ps:List bG}{sp:Sp}{x:bG}{p pos:fT}{e:Expr}{es:List Expr}{t:TA}
def a5t(h:Has X.prog X.w X.K X.mg X.base x k ps sp)(hr:Room k X.A)(ha:PA X (e::es) t)(hg:Gl X x:=by rfl)(lF:(x==("__debug__":bG))=false:=by decide)
  (he:au (e::es) X.env=(false,cC e X.env)::au es X.env:=by rfl) (gH:(cH pos (au es X.env)).any (·.1)=false:=by rfl):PE X (.Call (.Name x p) (e::es) [] pos) (b7y sp [] E0 t):=by
 obtain⟨f,fd,F,b,kp,m⟩:=h.ex;exact b5t F hr hg m kp b .nil c0C ha lF he gH
end
mutual
def Den(H:Hp):V->bp->Prop
 |v,.none=>v=.non
 |v,.bool b=>v=.bl b
 |v,.int i=>v=.int i
 |v,.str x=>v=.str x
 |v,.list ds=>∃a xs,v=.ref a/\H a=cz (.lst xs)/\DenAll H xs ds
 |v,.tuple ds=>∃a xs,v=.ref a/\H a=cz (.tup xs)/\DenAll H xs ds
 |v,.dict kvs=>kvs=[]/\∃a,v=.ref a/\H a=cz (.dK [])
def DenAll(H:Hp):List V->List bp->Prop
 |xs,[]=>xs=[]
 |xs,d::ds=>∃v r,xs=v::r/\Den H v d/\DenAll H r ds
end
mutual
theorem Den.mono{H H':Hp}(e:Same H H'):∀(d:bp) {v:V},Den H v d->Den H' v d
 |.none,_,h=>by simpa only [Den]using h
 |.bool _,_,h=>by simpa only [Den]using h
 |.int _,_,h=>by simpa only [Den]using h
 |.str _,_,h=>by simpa only [Den]using h
 |.list ds,_,h=>by
  simp only[Den]at h ⊢;obtain⟨a,xs,h1,h2,h3⟩:=h;exact⟨a,xs,h1,e _ _ h2,DenAll.mono e ds h3⟩
 |.tuple ds,_,h=>by
  simp only[Den]at h ⊢;obtain⟨a,xs,h1,h2,h3⟩:=h;exact⟨a,xs,h1,e _ _ h2,DenAll.mono e ds h3⟩
 |.dict _,_,h=>by
  simp only[Den]at h ⊢;obtain⟨h0,a,h1,h2⟩:=h;exact⟨h0,a,h1,e _ _ h2⟩
theorem DenAll.mono{H H':Hp}(e:Same H H'):∀(ds:List bp) {xs:List V},DenAll H xs ds->DenAll H' xs ds
 |[],_,h=>by simpa only [DenAll]using h
 |d::ds,_,h=>by
  simp only[DenAll]at h ⊢;obtain⟨v,r,h1,h2,h3⟩:=h;exact⟨v,r,h1,Den.mono e d h2,DenAll.mono e ds h3⟩
end
def Den.up{H H':Hp}{d:bp}{v:V}(h:Den H v d)(e:Same H H'):Den H' v d:=Den.mono e d h
def DenAll.up{H H':Hp}{ds:List bp}{xs:List V}(h:DenAll H xs ds)(e:Same H H'):DenAll H' xs ds:=DenAll.mono e ds h
section
variable {H:Hp}
def den_none:Den H .non .none:=by simp only[Den]
def den_bool{b:Bool}:Den H (.bl b) (.bool b):=by simp only[Den]
def den_int{i:Int}:Den H (.int i) (.int i):=by simp only[Den]
def den_list{a:ax}{xs:List V}{ds:List bp}(h:H a=cz (.lst xs))(q:DenAll H xs ds):Den H (.ref a) (.list ds):=by
 simp only[Den];exact⟨a,xs,rfl,h,q⟩
def den_tup{a:ax}{xs:List V}{ds:List bp}(h:H a=cz (.tup xs))(q:DenAll H xs ds):Den H (.ref a) (.tuple ds):=by
 simp only[Den];exact⟨a,xs,rfl,h,q⟩
def denAll_nil:DenAll H [] []:=by simp only[DenAll]
def denAll_cons{v:V}{d:bp}{xs:List V}{ds:List bp}(h:Den H v d)(q:DenAll H xs ds):DenAll H (v::xs) (d::ds):=by
 simp only[DenAll];exact⟨v,xs,rfl,h,q⟩
def Den.list_inv{v:V}{ds:List bp}(h:Den H v (.list ds)):∃a xs,v=.ref a/\H a=cz (.lst xs)/\DenAll H xs ds:=by simpa only [Den]using h
def Den.tup_inv{v:V}{ds:List bp}(h:Den H v (.tuple ds)):∃a xs,v=.ref a/\H a=cz (.tup xs)/\DenAll H xs ds:=by simpa only [Den]using h
def Den.int_inv{v:V}{i:Int}(h:Den H v (.int i)):v=.int i:=by simpa only [Den]using h
def DenAll.cons_inv{xs:List V}{d:bp}{ds:List bp}(h:DenAll H xs (d::ds)):∃v r,xs=v::r/\Den H v d/\DenAll H r ds:=by simpa only [DenAll]using h
def DenAll.nil_inv{xs:List V}(h:DenAll H xs []):xs=[]:=by simpa only [DenAll]using h
theorem DenAll.length:∀{ds:List bp} {xs:List V},DenAll H xs ds->xs.length=ds.length
 |[],_,h=>by rw[h.nil_inv];rfl
 |d::ds,_,h=>by
  obtain⟨v,r,rfl,_,h⟩:=h.cons_inv;rw[aS,aS,DenAll.length h]
theorem DenAll.get:∀{ds:List bp} {xs:List V} {i:Nat} {d:bp},DenAll H xs ds->ds[i]?=cz d->∃v,xs[i]?=cz v/\Den H v d
 |[],_,i,d,_,e=>by simp at e
 |d0::ds,_,0,d,h,e=>by
  obtain⟨v,r,rfl,h1,_⟩:=h.cons_inv;have:d0=d:=by simpa using e
  subst this;exact⟨v,rfl,h1⟩
 |d0::ds,_,i+1,d,h,e=>by
  obtain⟨v,r,rfl,_,h1⟩:=h.cons_inv;obtain⟨u,h2,h3⟩:=DenAll.get (i:=i) h1 (by simpa using e);exact⟨u,by simpa using h2,h3⟩
def DenAll.getV{ds:List bp}{xs:List V}{i:Nat}{v:V}(h:DenAll H xs ds)(e:xs[i]?=cz v):∃d,ds[i]?=cz d/\Den H v d:=by
 have hi:=(aQ.mp e).1;rw[h.length]at hi;obtain⟨u,h1,h2⟩:=h.get (ae hi);rw[e]at h1;cases h1
 exact⟨_,ae hi,h2⟩
theorem DenAll.append:∀{ds:List bp} {xs:List V} {es:List bp} {ys:List V},DenAll H xs ds->DenAll H ys es->DenAll H (xs++ys) (ds++es)
 |[],_,_,_,h,q=>by rw[h.nil_inv];exact q
 |d::ds,_,_,_,h,q=>by
  obtain⟨v,r,rfl,h1,h2⟩:=h.cons_inv;exact denAll_cons h1 (DenAll.append h2 q)
end
mutual
theorem Den.reads{P:bD}{w:cm}{H:Hp}{h:cQ}(ok:HOk P w H h):∀(d:bp) {v:V} {u:aj},d.canLay0=true->Den H v d->RelV v u->∃as,Reads h u d as
 |.none,v,u,_,q,r=>by
  simp only[Den]at q;subst q;cases (show u=bx from r)
  exact⟨_,.none⟩
 |.bool b,v,u,_,q,r=>by
  simp only[Den]at q;subst q;cases (show u=mw b from r)
  exact⟨_,.bool b⟩
 |.int i,v,u,_,q,r=>by
  simp only[Den]at q;subst q;obtain⟨t,rfl⟩:=r;exact⟨_,.int i t⟩
 |.str x,v,u,_,q,r=>by
  simp only[Den]at q;subst q;obtain⟨t,rfl⟩:=r;exact⟨_,.str x t⟩
 |.list ds,v,u,hl,q,r=>by
  simp only[Den]at q;obtain⟨a,xs,rfl,h1,h2⟩:=q;cases (show u=bL a from r)
  obtain⟨z,its,n,rv,e⟩:=ok a _ h1;obtain⟨as,ra⟩:=DenAll.reads ok ds hl h2 rv;exact⟨_,.list e rfl rfl (by simpa using ra)⟩
 |.tuple ds,v,u,hl,q,r=>by
  simp only[Den]at q;obtain⟨a,xs,rfl,h1,h2⟩:=q;cases (show u=bL a from r)
  obtain⟨z,its,rv,o,e,c,n,d⟩:=ok a _ h1;obtain⟨as,ra⟩:=DenAll.reads ok ds hl h2 rv;exact⟨_,.tuple e c d (by simpa using ra)⟩
 |.dict _,_,_,hl,_,_=>nomatch hl
theorem DenAll.reads{P:bD}{w:cm}{H:Hp}{h:cQ}(ok:HOk P w H h):∀(ds:List bp) {xs:List V} {us:List aj},ba ds=true->DenAll H xs ds->Vals xs us->∃as,iZ h us ds as
 |[],xs,us,_,q,r=>by
  simp only[DenAll]at q;subst q;cases r
  exact⟨_,.nil⟩
 |d::ds,xs,us,hl,q,r=>by
  have rS:d.canLay0=true/\ba ds=true:=by simpa[ba]using hl
  simp only[DenAll]at q;obtain⟨v,rs,rfl,h1,h2⟩:=q;cases r with
  |cons r1 r2=>
   obtain⟨as,ra⟩:=Den.reads ok d rS.1 h1 r1;obtain⟨bs,rb⟩:=DenAll.reads ok ds rS.2 h2 r2;exact⟨_,.cons ra rb⟩
end
section
variable {X:Cx}
def tyD:bp->String
 |.int _=>"int"
 |.bool _=>"bool"
 |.list _=>"list"
 |.tuple _=>"tuple"
 |.none=>"NoneType"
 |.str _=>"str"
 |.dict _=>"dict"
def Den.ty{K:ag}{H:Hp}{v:V}:∀{d:bp},Den H v d->TyOf K H v (.type (tyD d))
 |.none,h=>by simp only[Den]at h;subst h;exact .non
 |.bool _,h=>by simp only[Den]at h;subst h;exact .bl _
 |.int _,h=>by simp only[Den]at h;subst h;exact .int _
 |.str _,h=>by simp only[Den]at h;subst h;exact .str _
 |.list _,h=>by simp only[Den]at h;obtain⟨a,xs,rfl,h1,_⟩:=h;exact .lst h1
 |.tuple _,h=>by simp only[Den]at h;obtain⟨a,xs,rfl,h1,_⟩:=h;exact .tup h1
 |.dict _,h=>by simp only[Den]at h;obtain⟨_,a,rfl,h1⟩:=h;exact .dK h1
def Inv.sysBelow(I:Inv X pins σ H s):du<s.heap.objs.size:=by
 have h:bU<s.heap.objs.size:=(I.mod.glob.keeps I.bk).lt;exact jB (by decide) h
end
def k9(h:H p=xn)(o:HO):Same H (upd H p o):=λb u q=>by rw[b9 (i8 q h)];exact q
def b2v(e:Same H H')(h:H p=xn)(o:HO):Same H (upd H' p o):=λb u q=>by rw[b9 (i8 q h)];exact e b u q
def PTs(X:Cx)(ifs:List Expr)(tt:TT):Prop:=
 ∀(pins:List (ax×fY)) (s:av) (σ:St) (H:Hp) (Q:Bool->Hp->Prop),Inv X pins σ H s->tt σ H Q->
  aX (aW X.prog X.w) X.A (forIn ifs true λc r=>if r=true then do let ok <-Cq c X.env (cC c X.env);pure (fI ok) else pure (fI r)) (TP X pins σ Q) X.xe s
def c2p:TT:=λ_ H Q=>Q true H
def a9l:PTs X [] c2p:=λ_ _ σ H _ I h=>wpAny_tests_nil ⟨H,I,h⟩
def b5C(h:PT X c tt):PTs X [c] tt:=λpins s σ H Q I q=>wpAny_tests_one (h pins s σ H Q I q)
section
variable {prog:bD}{w:cm}{A:bP}{R:Result->av->Prop}{s:av}
def a4c(I:Nat->av->Prop)
  (turn:∀n s,I n s->aX (aW prog w) A (uQ it) (λr s₁=>match r with
   |none=>R (.ok .next) s₁
   |some v=>aX (aW prog w) A (mH target it v) (λ_ s₂=>aX (aW prog w) A (lG target env v) (λ_ s₃=>
     aX (aW prog w) A (forIn ifs true λc r=>if r=true then do let ok <-Cq c env (cC c env);pure (fI ok) else pure (fI r)) (λok pM=>
     if ok=true then aX (aW prog w) A (cC elt env) (λx s₄=>
      aX (aW prog w) A (call (.builtin "list.append") [acc,x]) (λ_ s₅=>∃m,m<n/\I m s₅) (λ_ _=>False) s₄) (λ_ _=>False) pM
     else ∃m,m<n/\I m pM)
     (λ_ _=>False) s₃) (λ_ _=>False) s₂) (λ_ _=>False) s₁) (λ_ _=>False) s)
  (n:Nat) (h:I n s) :
  gY (aW prog w) A (.compLoop (.ListComp elt [⟨target,iter,ifs,0⟩] scope pos) 0 it acc env) R s:=by
 refine codeAny_loop rfl I (λn s hI=>?_) n h;show aX _ _ ((compTurn (.ListComp elt [⟨target,iter,ifs,0⟩] scope pos) 0 it acc env).onRaise (λx=>do noteFrame x env;theTreesLotGoes x)) _ _ s;refine wpAny_noted ?_;rw[compTurn_list];refine af (lz (af (dU (turn n s hI) (λr s₁ h₁=>?_) λ_ _ h'=>h'.elim)));cases r with
 |none=>exact aC h₁
 |some v=>
  refine af (dU h₁ (λ_ s₂ h₂=>?_) λ_ _ h'=>h'.elim);refine af (dU h₂ (λ_ s₃ h₃=>af (dU h₃ (λok pM oB=>?_) λ_ _ h'=>h'.elim)) λ_ _ h'=>h'.elim);cases ok with
  |false=>
   rw[aM cw]at oB;exact af (aC (aC ⟨rfl,oB⟩))
  |true=>
   rw[aD rfl]at oB;exact af (af (dU oB (λx s₄ h₄=>af (dU h₄ (λ_ s₅ h₅=>aC (aC ⟨rfl,h₅⟩)) λ_ _ h'=>h'.elim)) λ_ _ h'=>h'.elim))
end
def a5u(wi:TI)(g:TG)(tt:TT)(te:TE)(τ:St->St):TE:=λσ H Q=>wi σ H λJ H1=>∀D,H1 D=xn->∃W:Nat->Nat->List V->St->Hp->Prop,(∃m,W 0 m [] (τ σ) (upd H1 D (.lst [])))/\
 ∀i m ys σ' H',W i m ys σ' H'->(J.stop i H'/\Q (.ref D) H')∨
  (J.go i H'/\∃(N:V->St->Hp->Prop) (NO:St->Hp->Prop),(∀y σ3 H4,N y σ3 H4->H4 D=cz (.lst ys)/\ys.length<a_/\∃m',m'<m/\W (i+1) m' (ys++[y]) σ3 (upd H4 D (.lst (ys++[y]))))/\
   (∀σ3 H4,NO σ3 H4->∃m',m'<m/\W (i+1) m' ys σ3 H4)/\∀x H2,J.yld i H' x H2->g x σ' H2 λσ3 H3=>tt σ3 H3 λb H4=>if b=true then te σ3 H4 λy H5=>N y σ3 H5 else NO σ3 H4)
section
variable {X:Cx}{N:List bG}{scope:gD}{cl:List (bG×ax)}{τ:St->St}{elt tg iter:Expr}{ifs:List Expr}{pos:fT}{wi:TI}{g:TG}{tt:TT}{te:TE}
def a4u(hc:X.calm=true)(hi:PI X tg iter wi)(C:CompIn X N scope cl τ)(hg:∀Cl s H fp,PG (G8 X N scope cl Cl s H fp) tg g)(ht:∀Cl s H fp,PTs (G8 X N scope cl Cl s H fp) ifs tt)(he:∀Cl s H fp,PE (G8 X N scope cl Cl s H fp) elt te)
  (I:Inv X pins σ H s) (h:a5u wi g tt te τ σ H R) {PP:aj->ax->Result->av->Prop}
  (Eg:∀D Cl Hn s' o m,Inv X pins σ Hn s'->R (.ref D) Hn->a3X X pins Hn Cl->s'.heap.get? Cl=cz o->(∀v,o.data≠.cell v)->(∀h':cQ,h'.get? Cl=cz o->h'.Ns Cl m)->PP (.ref D) Cl (.ok .next) s') :
  aX (aW X.prog X.w) X.A (cC iter X.env) (λx s₁=>aX (aW X.prog X.w) X.A (pyIter x) (λit s₂=>aX (aW X.prog X.w) X.A (newList []) (λacc s₃=>
   aX (aW X.prog X.w) X.A (newFunctionEnv scope X.env.globals cl [] X.env.qual xn .none (cz X.env)) (λwz s₄=>
    gY (aW X.prog X.w) X.A (.compStart (.ListComp elt [⟨tg,iter,ifs,0⟩] scope pos) 0 it acc {wz with scope:=mj scope X.env}) (PP acc wz.locals) s₄) X.xe s₃) X.xe s₂) X.xe s₁) X.xe s:=by
 refine thn (hi pins s σ H _ I h) λx s1 h1=>thn h1 λyb s2 h2=>?_
 obtain⟨it,fp,tn,J,H2,rfl,I2,T,kZ,f2,q⟩:=h2;refine iV (wpAny_newFunctionEnv C.ncell (by intro y hy;simp at hy) (λh₁ nZ mR=>?_) C.kind)
 dsimp only at nZ mR ⊢
 generalize zC:s2.heap.push {cls:=.type "list",dict:=xn,data:=.seq ([]:List aj).toArray}=G2 at nZ mR ⊢;have hC:G2.objs.size=s2.heap.objs.size+1:=by rw[<-zC,cQ.size_push]
 have Bh:s2.heap.objs.size≠G2.objs.size:=by rw[hC];exact bM (EV _)
 have tG:s2.heap.objs.size<=G2.objs.size:=by rw[hC];exact wD _
 have below:∀b,b<s2.heap.objs.size->b≠G2.objs.size:=λb hb=>by rw[hC];exact bM (Nat.lt_succ_of_lt hb)
 have old:∀b o,s2.heap.get? b=cz o->h₁.get? b=cz o:=λb o e=>mR.extBut b o (below b (aT e)) (aF _ (zC▸aF _ e))
 have oh:h₁.get? s2.heap.objs.size=cz {cls:=.type "list",dict:=xn,data:=.seq ([]:List aj).toArray}:=mR.extBut _ _ Bh (aF _ (zC▸bj _ rfl));have zJ:∀b∈fp,b<s2.heap.objs.size:=λb hb=>by
  obtain⟨o,e,_⟩:=T.obj 0 _ kZ b hb;exact aT e
 have Bg:H2 s2.heap.objs.size=xn:=I2.hok.fresh (az _);have Eo:H2 G2.objs.size=xn:=I2.hok.fresh tG;generalize xr:G2.objs.size=Cl at *;have BU:∀b∈frs X.stack,b<s2.heap.objs.size:=λb hb=>by
  rcases aI.mp (I2.stkSub b hb) with e|hb
  ·rw[e];exact I2.lt
  ·obtain⟨_,o,ho,_⟩:=I2.funs.mem hb;exact aT ho
 have xT:(G8 X N scope cl Cl s2 H2 fp).Ok:=by
  refine⟨I2.ok.mod,C.kind,I2.ok.glob,I2.ok.blt,tG,λx y c e1 e2=>I2.ok.inj x y c (C.sub x c e1) (C.sub y c e2),λx hx=>?_,λx c hx _=>(nomatch hx),λz=>I2.ok.hd z,I2.ok.frames,.inl rfl,λb hb=>⟨below b (zJ b hb),λx c e=>(f2 b hb).2.2.2.2.1 x c (C.sub x c e)⟩,
   I2.bs,cV I2.ok.bsz I2.sz,λb o e hb=>?_,λb hb z=>?_,I2.stack,I2.stkFree,I2.tabs⟩
  ·obtain⟨y,hy,rfl,ey⟩:=a0A C.ncell hx;exact C.has y hy ey
  ·rcases (f2 b hb).2.2.2.1 with z|z
   ·exact I2.ok.noex b o e z
   ·exact absurd (bt (aT e) (cV I2.ok.bsz z)) (dS _)
  ·rcases aI.mp (I2.stkSub b z) with e|e
   ·exact (f2 b hb).2.1 e
   ·exact (f2 b hb).2.2.1 e
 have I4:Inv (G8 X N scope cl Cl s2 H2 fp) pins (τ σ) (upd H2 s2.heap.objs.size (.lst [])) {s2 with heap:=h₁,toks:=s2.toks+([]:List (bG×aj)).length}:=by
  have lc:=I2.loc;obtain⟨m,hn,hl⟩:=lc;refine⟨xT,rfl,I2.bare,Un.laid old (az _) Bg,⟨_,nZ,λi x v e1 e2 e3=>?_⟩,λx c e=>?_,?_,λx c e=>?_,λp hp=>?_,I2.hok.laid old (az _) ⟨cE _,[],_,.nil,oh⟩,C.tlen σ⟩
  ·obtain⟨j,j1,j2,j3,j4⟩:=C.tval σ i x v e1 e2;have kx:(mj scope X.env).names.lookup x=cz .cell∨(mj scope X.env).names.lookup x=cz .free:=a5s j3;obtain⟨y,hy,Ew,ey⟩:=a0A C.ncell kx;obtain⟨c,uu⟩:=C.has y hy ey;rw[Ew]at uu;have ze:=C.sub x c uu;have hv:Vis X.env.scope x:=.inr j4;obtain⟨u,ru,lk⟩:=hl j x v j1 j2 hv;refine⟨u,ru,?_⟩;rcases lk with⟨k,_⟩|⟨k,c',e',z⟩
   ·rcases j4 with j4|j4
    ·rw[j4]at k;cases k
    ·rw[j4]at k;cases k
   ·rw[ze]at e';cases e'
    obtain⟨o,ho,hd⟩:=z;exact .inr ⟨kx,c,uu,⟨o,old c o ho,hd⟩⟩
  ·obtain⟨v,o,ho,hd⟩:=I2.cell x c (C.sub x c e);exact⟨v,o,old c o ho,hd⟩
  ·show upd H2 s2.heap.objs.size (.lst []) Cl=xn;rw[b9 (cP Bh)];exact Eo
  ·have n:=I2.freeC x c (C.sub x c e);obtain⟨v,o,ho,hd⟩:=I2.cell x c (C.sub x c e);rw[b9 (bM (aT ho))];exact n
  ·obtain⟨e,n,ne,nf,d⟩:=I2.pin p hp;refine⟨old _ _ e,by rw[b9 (bM (aT e))];exact n,below _ (aT e),λz=>?_,d⟩;rcases aI.mp (I2.stkSub p.1 z) with e'|e'
   ·exact ne e'
   ·exact nf e'
 have nW:∀{H':Hp},(∀b∈fp,H' b=xn)->∀b∈fp,a3X (G8 X N scope cl Cl s2 H2 fp) pins H' b:=λhn b hb=>
  ⟨hn b hb,below b (zJ b hb),xT.exfs b hb,.inl hb,(xT.exf b hb).2,(f2 b hb).2.2.2.2.2⟩
 obtain⟨W,⟨m0,w0⟩,turn⟩:=q s2.heap.objs.size Bg;have loop:∀s₃:av,s₃={s2 with heap:=h₁,toks:=s2.toks+([]:List (bG×aj)).length}->
   gY (aW X.prog X.w) X.A (.compLoop (.ListComp elt [⟨tg,iter,ifs,0⟩] scope pos) 0 (.ref it) (.ref s2.heap.objs.size) (compEnvC scope cl Cl X.env)) (PP (.ref s2.heap.objs.size) Cl) s₃:=by
  rintro s₃ rfl;refine a4c (λn s'=>∃i ys σ' H',Inv (G8 X N scope cl Cl s2 H2 fp) pins σ' H' s'/\tn i s'.heap/\(∀b∈fp,H' b=xn)/\W i n ys σ' H') ?_ m0
   ⟨0,[],τ σ,_,I4,T.keep _ _ _ kZ λb hb o e=>old b o e,λb hb=>by rw[b9 (bM (zJ b hb))];exact (f2 b hb).1,w0⟩
  rintro n s3 ⟨i,ys,σ3,H3,I3,jt,wo,w3⟩;rcases turn i n ys σ3 H3 w3 with⟨stop,qn⟩|⟨go,NN,NO,hN,hO,step⟩
  ·refine thn (T.done (G8 X N scope cl Cl s2 H2 fp) rfl rfl rfl hc i pins s3 σ3 H3 _ I3 (nW wo) jt stop) λr s4 ⟨hr,I5⟩=>?_
   subst hr;have lc:=I5.loc;obtain⟨m,hn,_⟩:=lc;obtain⟨o,es,ep,ho,hd,jF⟩:=hn;have J5:Inv X pins σ H3 s4:=I2.call' (ch:=fp) I5.os I5.base I5.hok I5.bare λb hb=>⟨(f2 b hb).2.2.2.1,(f2 b hb).2.1,(f2 b hb).2.2.2.2.1,(f2 b hb).2.2.2.2.2⟩
   refine Eg _ Cl H3 s4 o m J5 qn (I2.fpOk tG I5.free) ho (λv z=>by rw[hd]at z;cases z) λh' e=>⟨o,es,ep,e,hd,jF⟩
  ·refine thn (T.item (G8 X N scope cl Cl s2 H2 fp) rfl rfl rfl hc i pins s3 σ3 H3 _ I3 (nW wo) jt go) λr s4 ⟨u,hr,h4⟩=>?_
   subst hr;refine thn h4 λ_ s5 ⟨x,H5,I5,r5,y5,pF,zH⟩=>?_
   have zY:=I5.pinned (nW zH) (T.obj _ _ pF);refine thn (hg Cl s2 H2 fp _ s5 σ3 H5 x u _ zY r5 (step x H5 y5)) λ_ s6 ⟨σ6,H6,I6,q6⟩=>?_
   refine thn (ht Cl s2 H2 fp _ s6 σ6 H6 _ I6 q6) λok BX ⟨Fc,xG,wO⟩=>?_
   cases ok with
   |false=>
    rw[aM cw]at wO ⊢;obtain⟨m',hm,w7⟩:=hO _ _ wO;refine⟨m',hm,i+1,ys,σ6,_,xG.unpinned,T.keep _ _ _ pF λb hb o e=>(xG.pin (b,o) (ah _ (ah _ (C1 hb e)))).1,λb hb=>?_,w7⟩;obtain⟨o,e,d⟩:=T.obj _ _ pF b hb;exact (xG.pin (b,o) (ah _ (ah _ (C1 hb e)))).2.1
   |true=>
    rw[aD rfl]at wO ⊢;refine thn (he Cl s2 H2 fp _ BX σ6 Fc _ xG wO) λyv s7 ⟨y,H7,I7,r7,q7⟩=>?_
    obtain⟨Ca,B_,m',hm,w7⟩:=hN _ _ _ q7;refine thn (X5 (X:=G8 X N scope cl Cl s2 H2 fp) _ s7 σ6 H7 (.ref s2.heap.objs.size) [y] (.ref s2.heap.objs.size) [yv] (λ_ H8=>H8=upd H7 s2.heap.objs.size (.lst (ys++[y]))) I7 rfl (.cons r7 .nil)
     ⟨_,ys,y,rfl,rfl,Ca,B_,rfl⟩) λ_ s8 ⟨_,H8,I8,_,e8⟩=>?_
    subst e8;refine⟨m',hm,i+1,ys++[y],σ6,_,I8.unpinned,T.keep _ _ _ pF λb hb o e=>(I8.pin (b,o) (ah _ (ah _ (C1 hb e)))).1,λb hb=>?_,w7⟩;obtain⟨o,e,d⟩:=T.obj _ _ pF b hb;exact (I8.pin (b,o) (ah _ (ah _ (C1 hb e)))).2.1
 have iF:tn 0 h₁:=T.keep _ _ _ kZ λb hb o e=>old b o e
 exact codeAny_compStart_list (loop _ rfl) (T.self X.A 0 {s2 with heap:=h₁,toks:=s2.toks+([]:List (bG×aj)).length} _ _ iF (loop _ rfl))
end
def w8(env:nL):List (bG×i_)->List (bG×ax)->List (bG×ax)
 |[],cs=>cs
 | (n,k)::r,cs=>w8 env r (if k==.free then (n,(env.cells.lookup n).getD 0)::cs else cs)
theorem U6{env:nL}:∀(names:List (bG×i_)) (cs:List (bG×ax)),(∀y∈names,y.2=.free->∃c,env.cells.lookup y.1=cz c)->
  (forIn names cs λ(x:bG×i_) (cs:List (bG×ax))=>(if x.2==.free then do let a <-cellOf env x.1;pure (fI ((x.1,a)::cs)) else pure (fI cs):zR (ForInStep (List (bG×ax)))))=pure (w8 env names cs)
 |[],cs,_=>by rw[qA];rfl
 | (n,k)::r,cs,h=>by
  rw[pD]
  dsimp only
  by_cases hk:(k==fH)=true
  ·obtain⟨c,hc⟩:=h (n,k) aL (by simpa using hk);rw[aD hk];have e:cellOf env n=pure c:=by unfold cellOf;rw[hc]
   rw[e];have:=U6 r ((n,c)::cs) λy hy=>h y (aw _ hy)
   have e2:w8 env ((n,k)::r) cs=w8 env r ((n,c)::cs):=by
    show w8 env r (if k==.free then (n,(env.cells.lookup n).getD 0)::cs else cs)=_;rw[aD hk,hc];rfl
   rw[e2,<-this];simp only[pure_bind]
  ·rw[aM hk];have:=U6 r cs λy hy=>h y (aw _ hy)
   have e2:w8 env ((n,k)::r) cs=w8 env r cs:=by
    show w8 env r (if k==.free then (n,(env.cells.lookup n).getD 0)::cs else cs)=_;rw[aM hk]
   rw[e2,<-this];simp only[pure_bind]
def a7S{scope:gD}{env:nL}(h:∀y∈scope.names,y.2=.free->∃c,env.cells.lookup y.1=cz c):pf scope env=pure (w8 env scope.names []):=by
 have:=U6 scope.names [] h;rw[<-this];unfold pf;simp
theorem a0h{env:nL}:∀(names:List (bG×i_)) (cs:List (bG×ax)),(∀y∈names,y.2=.free->∃c,env.cells.lookup y.1=cz c)->(∀p∈cs,env.cells.lookup p.1=cz p.2)->
  (∀p∈w8 env names cs,env.cells.lookup p.1=cz p.2)/\(∀p∈cs,p∈w8 env names cs)/\∀y∈names,y.2=.free->∃c,(y.1,c)∈w8 env names cs
 |[],cs,_,hc=>⟨hc,λ_ h=>h,λy hy=>(nomatch hy)⟩
 | (n,k)::r,cs,h,hc=>by
  by_cases hk:(k==fH)=true
  ·obtain⟨c,e⟩:=h (n,k) aL (by simpa using hk);have e2:w8 env ((n,k)::r) cs=w8 env r ((n,c)::cs):=by
    show w8 env r (if k==.free then (n,(env.cells.lookup n).getD 0)::cs else cs)=_;rw[aD hk,e];rfl
   rw[e2];obtain⟨a,b,d⟩:=a0h r ((n,c)::cs) (λy hy=>h y (aw _ hy)) λp hp=>by
    rcases aI.mp hp with z|z
    ·rw[z];exact e
    ·exact hc p z
   refine⟨a,λp hp=>b p (aw _ hp),λy hy hf=>?_⟩;rcases aI.mp hy with z|z
   ·rw[z];exact⟨c,b _ aL⟩
   ·exact d y z hf
  ·have e2:w8 env ((n,k)::r) cs=w8 env r cs:=by
    show w8 env r (if k==.free then (n,(env.cells.lookup n).getD 0)::cs else cs)=_;rw[aM hk]
   rw[e2];obtain⟨a,b,d⟩:=a0h r cs (λy hy=>h y (aw _ hy)) hc;refine⟨a,b,λy hy hf=>?_⟩;rcases aI.mp hy with z|z
   ·rw[z]at hf;exact absurd (by simpa using hf) hk
   ·exact d y z hf
theorem Z5:∀{l:List (bG×ax)},(x,c)∈l->∃c',l.lookup x=cz c'
 |[],h=>nomatch h
 | (y,d)::l,h=>by
  rw[fU];cases e:x==y with
  |true=>exact⟨d,rfl⟩
  |false=>
   rcases aI.mp h with z|z
   ·cases z;simp at e
   ·exact Z5 z
def Q8(scope:gD)(okind:bG->Option i_)(ys:List bG)(js:List Nat)(XN:List bG):Bool:=
 scope.kind==.function&&scope.names.all (λy=>y.2 !=.cell&&(y.2 !=.local||scope.names.lookup y.1==cz .local)&&(y.2 !=.free||(okind y.1==cz .cell||okind y.1==cz .free))) &&
 ys.length==js.length&&(ys.zip js).all λp=>XN[p.2]?==cz p.1&&scope.names.lookup p.1==cz .free&&(okind p.1==cz .cell||okind p.1==cz .free)
def a1f(tn:List bG)(js:List Nat):St->St:=λσ=>aG tn.length xn++js.map λj=>(σ[j]?).getD xn
def a4v{X:Cx}{scope:gD}(ok:X.Ok)(h:Q8 scope X.env.kindOf ys js X.N=true):CompIn X (tn++ys) scope (w8 X.env scope.names []) (a1f tn js):=by
 unfold Q8 at h;rw[aB,aB,aB,eM,eM]at h;obtain⟨⟨⟨hk,ha⟩,hl⟩,hz⟩:=h;have mJ:∀y∈scope.names,y.2≠.cell:=λy hy e=>by
  have:=ha y hy;rw[e]at this;simp at this
 have yM:∀y∈scope.names,y.2=.local->scope.names.lookup y.1=cz .local:=λy hy e=>by
  have:=ha y hy;rw[e]at this;simpa using this
 have nv:∀y∈scope.names,y.2=.free->∃c,X.env.cells.lookup y.1=cz c:=λy hy e=>by
  have:=ha y hy;rw[e]at this;refine ok.has y.1 ?_;simpa using this
 obtain⟨a,_,d⟩:=a0h scope.names [] nv λp hp=>(nomatch hp)
 refine⟨a7S nv,by simpa using hk,mJ,yM,λx c e=>a _ (cB e),λy hy e=>?_,λσ=>?_,λσ i x v h1 h2=>?_⟩
 ·obtain⟨c,hc⟩:=d y hy e;exact Z5 hc
 ·have:ys.length=js.length:=by simpa using hl
  unfold a1f;simp[this]
 ·unfold a1f at h2;by_cases hi:i<tn.length
  ·rw[dA (by simpa using hi),su]at h2
   split at h2<;>cases h2
  ·rw[cF (by simpa using hi),gu,aU]at h2;rw[cF (by lia)]at h1;cases hj:js[i-tn.length]? with
   |none=>rw[hj]at h2;cases h2
   |some j=>
    rw[hj]at h2;have h3:(σ[j]?).getD xn=cz v:=by simpa using h2
    have iW:(x,j)∈ys.zip js:=by
     have hlen:=(aQ.mp h1).1;have AL:=(aQ.mp hj).1;rw[df];refine⟨i-tn.length,?_⟩;rw[qL];exact⟨h1,hj⟩
    have:=hz _ iW;rw[aB,aB,ly]at this;obtain⟨⟨e1,e2⟩,e3⟩:=this;refine⟨j,by simpa using e1,?_,by simpa using e2,by simpa using e3⟩;cases q:σ[j]? with
    |none=>rw[q]at h3;cases h3
    |some o=>rw[q]at h3;have:o=cz v:=h3;rw[this]
section
variable {X:Cx}{tn ys:List bG}{js:List Nat}{scope:gD}{elt tg iter:Expr}{ifs:List Expr}{pos:fT}{wi:TI}{g:TG}{tt:TT}{te:TE}
def a6u(hc:X.calm=true)(hi:PI X tg iter wi)(C:Q8 scope X.env.kindOf ys js X.N=true)(hg:∀cl Cl s H fp,PG (G8 X (tn++ys) scope cl Cl s H fp) tg g)(ht:∀cl Cl s H fp,PTs (G8 X (tn++ys) scope cl Cl s H fp) ifs tt)(he:∀cl Cl s H fp,PE (G8 X (tn++ys) scope cl Cl s H fp) elt te)
  (hs:∀x,eK iter X.env x=pure x:=by intro _;rfl):PE X (.ListComp elt [⟨tg,iter,ifs,0⟩] scope pos) (a5u wi g tt te (a1f tn js)):=by
 intro pins s σ H Q I h;have C:=a4v (tn:=tn) I.ok C;rw[eval_ListComp];refine xI (use:=xn) rfl hs C.clos C.kind C.names (a4u hc hi C (hg _) (ht _) (he _) I h (PP:=λacc Cl=>compPost (aW X.prog X.w) X.A X.xe xn (EP X pins σ Q) acc Cl) ?_);intro D Cl Hn s' o m I' hq F ho hd qV;refine⟨m,qV _ ho,λh' jf=>⟨.ref D,Hn,?_,rfl,hq⟩⟩;exact I'.turned (t':=s'.toks) (λb ob hb e=>(jf.2 b hb).trans e) F.1 F.2.1 F.2.2.2.1 F.2.2.2.2.1 F.2.2.2.2.2
def a6v{py sD:fT}(hc:X.calm=true)(hN:X.N.Nodup)(hy:X.N[i]?=cz y)(hx:Loc X.env.scope y)(hi:PI X tg iter wi)(C:Q8 scope X.env.kindOf ys js X.N=true)
  (hg:∀cl Cl s H fp,PG (G8 X (tn++ys) scope cl Cl s H fp) tg g) (ht:∀cl Cl s H fp,PTs (G8 X (tn++ys) scope cl Cl s H fp) ifs tt) (he:∀cl Cl s H fp,PE (G8 X (tn++ys) scope cl Cl s H fp) elt te)
  (oR:eU (.ListComp elt [⟨tg,iter,ifs,0⟩] scope pos) (cz (.Name y py)) sD.line X.env=pure true:=by rfl) (hs:∀x,eK iter X.env x=pure x:=by intro _;rfl)
  (hf:X.fn y=true∨X.env.scope.names.lookup y=cz .local:=by first|exact .inl rfl|exact .inr rfl|assumption) :
  PS X (.Assign [.Name y py] (.ListComp elt [⟨tg,iter,ifs,0⟩] scope pos) sD) (b8d (a5u wi g tt te (a1f tn js)) (K0 i)):=by
 intro pins s σ H D I h;have C:=a4v (tn:=tn) I.ok C;rw[exec_Assign_Name_used _ _ _ _ oR];refine af (lz (af ?_));show aX _ X.A (do let _ <-comprehension (.ListComp elt [⟨tg,iter,ifs,0⟩] scope pos) scope X.env _ (newList []) false (cC iter X.env) (cz (lG (.Name y py) X.env))) _ _ s;refine af (dU (xI (use:=cz (lG (.Name y py) X.env)) (Q:=λ_ s'=>SP X pins D .next s') rfl hs C.clos C.kind C.names
  (a4u hc hi C (hg _) (ht _) (he _) I h (PP:=λacc Cl=>compPost (aW X.prog X.w) X.A X.xe (cz (lG (.Name y py) X.env)) (λ_ s'=>SP X pins D .next s') acc Cl) ?_)) (λ_ s' hq=>aC (aC hq)) λ_ _ e=>e)
 intro Dl Cl Hn s' o m I' hq F ho hd qV;have I1:=I'.pinned (fp:=[Cl]) (λb hb=>by rw[aq.mp hb];exact F) (λb hb=>by rw[aq.mp hb];exact⟨o,ho,hd⟩);show aX _ X.A (lG (.Name y py) X.env (.ref Dl)) _ _ _;refine wpAny_assign_Name (a0y I1 hN hy hx (v:=.ref Dl) rfl (λs2 I2=>?_) hf);have e2:=(I2.pin (Cl,o) (ah _ (ah _ (C1 (aq.mpr rfl) ho)))).1;refine⟨m,qV _ e2,λh' jf=>⟨σ.set i (cz (.ref Dl)),Hn,?_,hq⟩⟩;exact I2.unpinned.turned (t':=s2.toks) (λb ob hb e=>(jf.2 b hb).trans e) F.1 F.2.1 F.2.2.2.1 F.2.2.2.2.1 F.2.2.2.2.2
end
end L2
namespace VS
open PySem PySem.Spec L2
abbrev D:=bp
mutual
def B7:D->Bool
 |.int _=>true
 |.tuple ds=>o6 ds
 |.none|.bool _|.str _|.list _|.dict _=>false
def o6:List D->Bool
 |[]=>true
 |d::ds=>B7 d&&o6 ds
end
mutual
def hashD:D->Int
 |.int i=>hashInt i
 |.tuple ds=>reduceHash (eQ (A1 ds))
 |.none|.bool _|.str _|.list _|.dict _=>0
def A1:List D->List Int
 |[]=>[]
 |d::ds=>hashD d::A1 ds
end
mutual
def s9:D->Nat
 |.int _=>1
 |.tuple ds=>P2 ds+1
 |.none|.bool _|.str _|.list _|.dict _=>0
def P2:List D->Nat
 |[]=>0
 |d::ds=>s9 d+P2 ds
end
mutual
theorem U7:∀d:D,B7 d=true->d.canLay0=true
 |.int _,_=>by simp only[dI]
 |.tuple ds,h=>by
  simp only[B7]at h;simp only[dI];exact a1L ds h
 |.none,h|.bool _,h|.str _,h|.list _,h|.dict _,h=>by simp only[B7]at h;cases h
theorem a1L:∀ds:List D,o6 ds=true->ba ds=true
 |[],_=>by simp only[ba]
 |d::ds,h=>by
  simp only[o6,aB]at h;simp only[ba,aB];exact⟨U7 d h.1,a1L ds h.2⟩
end
mutual
theorem D7:∀a b:D,B7 a=true->B7 b=true->(aH a b=true↔a=b)
 |.int i,b,_,hb=>by
  cases b with
  |int j=>
   show (i==j)=true↔_;rw[beq_iff_eq];exact⟨λe=>by rw[e],λe=>by injection e⟩
  |tuple ds=>simp[aH]
  |_=>simp only[B7]at hb;cases hb
 |.tuple xs,b,ha,hb=>by
  cases b with
  |int j=>simp[aH]
  |tuple ys=>
   simp only[B7]at ha hb;simp only[aH];rw[a1M xs ys ha hb];exact⟨λe=>by rw[e],λe=>by injection e⟩
  |_=>simp only[B7]at hb;cases hb
 |.none,b,h,_|.bool _,b,h,_|.str _,b,h,_|.list _,b,h,_|.dict _,b,h,_=>by simp only[B7]at h;cases h
theorem a1M:∀a b:List D,o6 a=true->o6 b=true->(bQ a b=true↔a=b)
 |[],[],_,_=>by simp[bQ]
 |[],_::_,_,_=>by simp[bQ]
 |_::_,[],_,_=>by simp[bQ]
 |x::xs,y::ys,ha,hb=>by
  simp only[o6,aB]at ha hb;simp only[bQ,aB];rw[D7 x y ha.1 hb.1,a1M xs ys ha.2 hb.2]
  constructor
  ·rintro⟨rfl,rfl⟩;rfl
  ·intro e;injection e with e1 e2;exact⟨e1,e2⟩
end
mutual
theorem a2R{h h':cQ}{es ep}(ho:h.get? d=cz o)(hd:o.data=.dict es ep)(hs:mC d h h'):∀(k:D) {v:aj} {as:List ax},B7 k=true->Reads h v k as->Reads h' v k as
 |.int _,_,_,_,r=>by cases r;exact .int _ _
 |.tuple ds,_,_,hk,r=>by
  simp only[B7]at hk;cases r with
  |@tuple a oo vs n _ as c1 c2 c3 c4=>
   have iU:a≠d:=by
    rintro rfl;obtain rfl:oo=o:=aE (c1.symm.trans ho);rw[hd]at c3;exact nomatch c3
   exact .tuple ((hs.2 a iU).trans c1) c2 c3 (Z6 ho hd hs ds hk c4)
 |.none,_,_,h,_|.bool _,_,_,h,_|.str _,_,_,h,_|.list _,_,_,h,_|.dict _,_,_,h,_=>by simp only[B7]at h;cases h
theorem Z6{h h':cQ}{es ep}(ho:h.get? d=cz o)(hd:o.data=.dict es ep)(hs:mC d h h'):∀(ks:List D) {vs:List aj} {as:List ax},o6 ks=true->iZ h vs ks as->iZ h' vs ks as
 |[],_,_,_,r=>by cases r;exact .nil
 |k::ks,_,_,hk,r=>by
  simp only[o6,aB]at hk;cases r with
  |cons r1 r2=>exact .cons (a2R ho hd hs k hk.1 r1) (Z6 ho hd hs ks hk.2 r2)
end
section
variable {prog:bD}{w:cm}{E:aj->av->Prop}
mutual
theorem a2S:∀(k:D) {A:bP} {s:av} {v:aj} {as:List ax} {Q:Int->av->Prop},B7 k=true->A.units+k.depth<dW->Reads s.heap v k as->Q (hashD k) {s with toks:=s.toks+s9 k}->aX (aW prog w) A (pyHash v) Q E s
 |.int i,A,s,v,as,Q,_,_,r,h=>by
  cases r
  simp only[hashD,s9]at h;exact wpAny_pyHash_int h
 |.tuple ds,A,s,v,as,Q,hk,hu,r,h=>by
  simp only[B7]at hk;simp only[eX]at hu;simp only[hashD,s9]at h;cases r with
  |@tuple a o items n _ as ho hc hd hi=>
   have hT:s.TypeIs (.ref a) "tuple":=⟨o,ho,hc⟩;unfold pyHash
   first|unfold pyHashByItsType|skip
   first|refine af (wpAny_cRoomFor_or (.inr (by lia)) ?_)|skip
   refine af (gB hT lx.lookup ?_);show aX _ _ (if (cz (aj.builtin "tuple.__hash__")==cz bx)=true then _ else _) Q E s;rw[aM (by rw[beq_builtin_none];exact cw)];refine af (gB hT lx.lookup ?_);show aX _ _ (callSpecialIfBoundUnlessNone? (.ref a) "__hash__" _ >>= _) Q E s;refine af (wpAny_callSpecialIfBoundUnlessNone?_slot hT lx (eA lx hT F.entry_tuple_hash ?_ (F.args_tuple_hash_1 _)));show aX _ _ (Builtin.Tuple.tupleItemsOf (.ref a) >>= _) _ _ s;refine af (wpAny_tupleItemsOf ho hd ?_);refine af ?_;rw[<-jR];refine a4w ds (A:=A.in1) (acc:=#[]) hk (by show A.units+1+_<_;lia) hi ?_;show aX _ _ (retInt (eQ _)) _ _ _;simp only[mE,bK];refine wpAny_ret_mkInt ?_;show aX _ _ (if (decide (-(2:Int)^63<=eQ (A1 ds))&&decide (eQ (A1 ds)<2^63))=true then _ else _) Q E _;unfold reduceHash at h;by_cases hr:(decide (-(2:Int)^63<=eQ (A1 ds))&&decide (eQ (A1 ds)<2^63))=true
   ·rw[aD hr];rw[aD hr]at h;exact aC (by simpa[gn]using h)
   ·rw[aM hr];rw[aM hr]at h;exact af (iC (aC (by simpa[gn]using h)))
 |.none,_,_,_,_,_,h,_,_,_|.bool _,_,_,_,_,_,h,_,_,_|.str _,_,_,_,_,_,h,_,_,_|.list _,_,_,_,_,_,h,_,_,_|.dict _,_,_,_,_,_,h,_,_,_=>by simp only[B7]at h;cases h
theorem a4w:∀(ks:List D) {A:bP} {s:av} {vs:List aj} {as:List ax} {acc:Array Int} {Q:Array Int->av->Prop},o6 ks=true->A.units+cW ks<dW->iZ s.heap vs ks as->Q (acc++(A1 ks).toArray) {s with toks:=s.toks+P2 ks}->
  aX (aW prog w) A (forIn vs acc λx r=>do let r1 <-pyHash x;pure PUnit.unit;pure (fI (r.push r1))) Q E s
 |[],A,s,vs,as,acc,Q,_,_,r,h=>by
  cases r
  rw[qA];exact aC (by simpa[A1,P2]using h)
 |k::ks,A,s,vs,as,acc,Q,hk,hu,r,h=>by
  simp only[o6,aB]at hk;simp only[cW]at hu;cases r with
  |cons r1 r2=>
   rw[pD];refine af (af (a2S k hk.1 (by lia) r1 ?_));refine af (aC (aC ?_));refine a4w ks (s:={s with toks:=s.toks+s9 k}) hk.2 (by lia) r2 ?_;simp only[A1,P2]at h;have e:(acc.push (hashD k))++(A1 ks).toArray=acc++(hashD k::A1 ks).toArray:=by simp
   rw[e];simpa[gn]using h
end
end
section
variable {prog:bD}{w:cm}{A:bP}{E:aj->av->Prop}
mutual
theorem a4x:∀(k:D) (n:Nat) {s:av} {v:aj} {as:List ax} {Q:Bool->av->Prop},B7 k=true->k.depth<=n->Reads s.heap v k as->Q true s->aX (aW prog w) A (eqIsQuiet n v) Q E s
 |.int i,n,s,v,as,Q,_,_,r,h=>by
  cases r
  rw[eqIsQuiet_byValue n (v:=.int i _) rfl];exact aC h
 |.tuple ds,0,s,v,as,Q,_,hn,_,_=>by simp only[eX]at hn;lia
 |.tuple ds,n+1,s,v,as,Q,hk,hn,r,h=>by
  simp only[B7]at hk;simp only[eX]at hn;cases r with
  |@tuple a o items m _ as ho hc hd hi=>
   have hT:s.TypeIs (.ref a) "tuple":=⟨o,ho,hc⟩;unfold eqIsQuiet;refine af (gB hT F.slot_tuple_eq.lookup ?_);show aX _ _ (isInstance (.ref a) (.type "tuple") >>= _) _ _ s;refine af (lS hT isSubtype_tuple_tuple ?_);simp only[gq,bz,dw];refine af (uK ho hd ?_);refine af ?_;show aX _ _ (forIn items _ _) _ _ s;rw[<-jR];refine wpAny_forIn_list _ (λrest r s'=>r.1=xn/\s'=s/\∃ks bs,o6 ks=true/\cW ks<=n/\(∀k∈ks,k∈ds)/\iZ s.heap rest ks bs) _ ?_ ?_ _ _ ⟨rfl,rfl,ds,as,hk,by lia,λk hk=>hk,hi⟩
   ·rintro v rest r s' ⟨hr,rfl,ks,bs,k1,k2,k3,k4⟩;cases k4 with
    |@cons _ _ d' jT _ _ r1 r2=>
     simp only[o6,aB]at k1;simp only[cW]at k2;refine af (a4y ds n hk (by lia) d' (k3 d' aL) r1 ?_);simp only[gq,bz,dw];exact aC ⟨rfl,rfl,_,_,k1.2,by lia,λk hk=>k3 k (aw _ hk),r2⟩
   ·rintro⟨r1,r2⟩ s' ⟨hr,rfl,_⟩;simp only at hr;subst hr;exact aC h
 |.none,_,_,_,_,_,h,_,_,_|.bool _,_,_,_,_,_,h,_,_,_|.str _,_,_,_,_,_,h,_,_,_|.list _,_,_,_,_,_,h,_,_,_|.dict _,_,_,_,_,_,h,_,_,_=>by simp only[B7]at h;cases h
theorem a4y:∀(ds:List D) (n:Nat),o6 ds=true->cW ds<=n->∀k∈ds,∀{s:av} {v:aj} {as:List ax} {Q:Bool->av->Prop},Reads s.heap v k as->Q true s->aX (aW prog w) A (eqIsQuiet n v) Q E s
 |[],n,_,_,k,hk,s,v,as,Q,r,h=>nomatch hk
 |d::ds,n,jW,hn,k,hk,s,v,as,Q,r,h=>by
  simp only[o6,aB]at jW;simp only[cW]at hn;rcases aI.mp hk with e|hk
  ·rw[e]at r;exact a4x d n jW.1 (by lia) r h
  ·exact a4y ds n jW.2 (by lia) k hk r h
end
end
noncomputable def b0C:DecidableEq D:=λa b=>Classical.propDecidable (a=b)
noncomputable def b2w(prog:bD)(w:cm):@HeapKind prog w D b0C:=
 letI:DecidableEq D:=b0C
 {
  is:=λh k a=>B7 k=true/\k.depth<=7/\∃as,Reads h (.ref a) k as
  hash:=hashD
  draws:=s9
  room:=λA=>A.units+8<dW
  inj:=λ⟨hx,_,_,r⟩ ⟨_,_,_,r'⟩=>SeqAt.Reads.unique _ _ _ _ _ (U7 _ hx) r r'
  keeps:=λ⟨hx,hd,_,r⟩ ho kc hs=>⟨hx,hd,_,a2R ho kc hs _ hx r⟩
  pyHash:=λhu ⟨hx,hd,_,r⟩ h=>a2S _ hx (by lia) r h
  eqBool:=λ{A E s x y a b Q} hu ⟨hx,hd,_,r⟩ ⟨hy,kc,_,r'⟩ h=>by
   refine rA x y A s _ _ _ _ r r' (U7 _ hx) (U7 _ hy) (by have:=lr x.depth y.depth;lia) _ _ _ _ ?_;have e:aH x y=@decide (x=y) (b0C x y):=by
    by_cases c:x=y
    ·rw[@aY _ (b0C x y) c];exact (D7 x y hx hy).mpr c
    ·rw[@br _ (b0C x y) c];cases q:aH x y with
     |false=>rfl
     |true=>exact absurd ((D7 x y hx hy).mp q) c
   rw[e];exact h
  quiet:=λ⟨hx,hd,_,r⟩ h=>a4x _ 8 hx (by lia) r h
 }
def T4(e:D×V×V)(x:hX):Prop:=x.hash=hashD e.1/\RelV e.2.1 x.key/\RelV e.2.2 x.val
def a5v:List D->Bool
 |.tuple [.int 0,.int 0]::_=>true
 |_=>false
abbrev Q9(es:List (D×V×V)):Bool:=a5v (es.map (·.1))
def g7(a:ax)(es:List (D×V×V)):HO:=.ext λh=>(a==du)=false/\es.length<=a_/\(es.map (·.1)).Nodup/\∃o ents ep,h.get? a=cz o/\o.ExactDict/\o.data=.dict ents ep/\fO T4 es ents.toList/\(Q9 es=false->ep=es.length)
def Mu:HO->Prop
 |.lst _=>True
 |.dK _=>True
 |.ext _=>True
 |_=>False
abbrev MuO:={o:HO // Mu o}
def keyOk(kt:Bool)(k:D):Prop:=B7 k=true/\k.depth<=7/\(kt=true->∃ds,k=.tuple ds)/\(kt=false->∃i,k=.int i)
end VS
namespace VS
open PySem L2
mutual
def imm:bp->Bool
 |.none=>true
 |.bool _=>true
 |.int _=>true
 |.str _=>true
 |.list _=>false
 |.tuple ds=>c9 ds
 |.dict _=>false
def c9:List bp->Bool
 |[]=>true
 |d::ds=>imm d&&c9 ds
end
def SqX(K:ag)(H:Hp)(a:ax)(xs:List V):Prop:=
 Rd H a (.lst xs)∨∃(its:List aj) (n:Nat),K.lookup a=cz {cls:=.type "list",data:=.seq its.toArray n}/\its.length<=a_/\Vals xs its
def SqX.l(h:SqX K H a xs):SqL K H a xs:=by
 rcases h with h|⟨its,n,h1,h2,h3⟩
 ·exact .inl h
 ·exact .inr ⟨_,its.toArray,n,h1,rfl,rfl,rfl,by simpa using h2,by simpa using h3⟩
theorem SqX.ok{X:Cx}(h:SqX X.K H a xs)(I:Inv X pins σ H s):xs.length<=a_/\∃(its:List aj) (n:Nat),Vals xs its/\s.heap.get? a=cz {cls:=.type "list",data:=.seq its.toArray n}:=by
 rcases h with h|⟨its,n,h1,h2,h3⟩
 ·exact h.ok I.hok
 ·exact⟨by rw[h3.length];exact h2,its,n,h3,I.kIn _ _ h1⟩
mutual
theorem U8:∀d:bp,B7 d=true->imm d=true
 |.int _,_=>by simp only[imm]
 |.tuple ds,h=>by
  simp only[B7]at h;simp only[imm];exact a1N ds h
 |.none,h|.bool _,h|.str _,h|.list _,h|.dict _,h=>by simp only[B7]at h;cases h
theorem a1N:∀ds:List bp,o6 ds=true->c9 ds=true
 |[],_=>by simp only[c9]
 |d::ds,h=>by
  simp only[o6,aB]at h;simp only[c9,aB];exact⟨U8 d h.1,a1N ds h.2⟩
end
mutual
def Den(K:ag)(H:Hp):V->bp->Prop
 |v,.none=>v=.non
 |v,.bool b=>v=.bl b
 |v,.int i=>v=.int i
 |v,.str x=>v=.str x
 |v,.list ds=>∃a xs,v=.ref a/\SqX K H a xs/\DenAll K H xs ds
 |v,.tuple ds=>∃a xs,v=.ref a/\SqT K H a xs/\DenAll K H xs ds
 |v,.dict kvs=>∃a es,v=.ref a/\H a=cz (g7 a es)/\DenKV K H es kvs
def DenAll(K:ag)(H:Hp):List V->List bp->Prop
 |xs,[]=>xs=[]
 |xs,d::ds=>∃v r,xs=v::r/\Den K H v d/\DenAll K H r ds
def DenKV(K:ag)(H:Hp):List (bp×V×V)->List (bp×bp)->Prop
 |es,[]=>es=[]
 |es,(k,d)::r=>∃e q,es=e::q/\e.1=k/\Den K H e.2.1 k/\Den K H e.2.2 d/\DenKV K H q r
end
def Rd.up(h:Rd H a u)(e:Same H H'):Rd H' a u:=by
 rcases h with h|⟨o,h⟩
 ·exact .inl (e _ _ h)
 ·exact .inr ⟨o,e _ _ h⟩
def O4(h:SqX K H a xs)(e:Same H H'):SqX K H' a xs:=h.imp (λq=>Rd.up q e) id
def a0i(h:SqT K H a xs)(e:Same H H'):SqT K H' a xs:=h.imp (λq=>Rd.up q e) id
mutual
theorem Den.mono{K:ag}{H H':Hp}(e:Same H H'):∀(d:bp) {v:V},Den K H v d->Den K H' v d
 |.none,_,h=>by simpa only [Den]using h
 |.bool _,_,h=>by simpa only [Den]using h
 |.int _,_,h=>by simpa only [Den]using h
 |.str _,_,h=>by simpa only [Den]using h
 |.list ds,_,h=>by
  simp only[Den]at h ⊢;obtain⟨a,xs,h1,h2,h3⟩:=h;exact⟨a,xs,h1,O4 h2 e,DenAll.mono e ds h3⟩
 |.tuple ds,_,h=>by
  simp only[Den]at h ⊢;obtain⟨a,xs,h1,h2,h3⟩:=h;exact⟨a,xs,h1,a0i h2 e,DenAll.mono e ds h3⟩
 |.dict kvs,_,h=>by
  simp only[Den]at h ⊢;obtain⟨a,es,h1,h2,h3⟩:=h;exact⟨a,es,h1,e _ _ h2,DenKV.mono e kvs h3⟩
theorem DenAll.mono{K:ag}{H H':Hp}(e:Same H H'):∀(ds:List bp) {xs:List V},DenAll K H xs ds->DenAll K H' xs ds
 |[],_,h=>by simpa only [DenAll]using h
 |d::ds,_,h=>by
  simp only[DenAll]at h ⊢;obtain⟨v,r,h1,h2,h3⟩:=h;exact⟨v,r,h1,Den.mono e d h2,DenAll.mono e ds h3⟩
theorem DenKV.mono(e:Same H H'):∀(kvs:List (bp×bp)) {es:List (bp×V×V)},DenKV K H es kvs->DenKV K H' es kvs
 |[],_,h=>by simpa only [DenKV]using h
 | (k,d)::r,_,h=>by
  simp only[DenKV]at h ⊢;obtain⟨x,q,h1,h2,h3,h4,h5⟩:=h;exact⟨x,q,h1,h2,Den.mono e k h3,Den.mono e d h4,DenKV.mono e r h5⟩
end
section
variable {K:ag}{H H':Hp}
def Den.up{d:bp}{v:V}(h:Den K H v d)(e:Same H H'):Den K H' v d:=Den.mono e d h
def DenAll.up{ds:List bp}{xs:List V}(h:DenAll K H xs ds)(e:Same H H'):DenAll K H' xs ds:=DenAll.mono e ds h
def den_none:Den K H .non .none:=by simp only[Den]
def den_bool{b:Bool}:Den K H (.bl b) (.bool b):=by simp only[Den]
def den_int{i:Int}:Den K H (.int i) (.int i):=by simp only[Den]
def den_list{a:ax}{xs:List V}{ds:List bp}(h:SqX K H a xs)(q:DenAll K H xs ds):Den K H (.ref a) (.list ds):=by
 simp only[Den];exact⟨a,xs,rfl,h,q⟩
def den_tup{a:ax}{xs:List V}{ds:List bp}(h:SqT K H a xs)(q:DenAll K H xs ds):Den K H (.ref a) (.tuple ds):=by
 simp only[Den];exact⟨a,xs,rfl,h,q⟩
theorem a6w:∀{es:List (bp×V×V)} {ds:List bp},(∀e∈es,Den K H e.2.1 e.1)->DenAll K H (es.map (·.2.2)) ds->DenKV K H es ((es.map (·.1)).zip ds)
 |[],ds,_,h=>by
  cases ds with
  |nil=>simp only[c_,nK,DenKV]
  |cons d ds=>simp only[DenAll]at h;obtain⟨v,r,h1,_⟩:=h;cases h1
 |e::es,ds,hk,h=>by
  cases ds with
  |nil=>simp only[DenAll]at h;cases h
  |cons d ds=>
   simp only[DenAll]at h;obtain⟨v,r,h1,h2,h3⟩:=h;cases h1
   simp only[ay,dB,DenKV];exact⟨e,es,rfl,rfl,hk e aL,h2,a6w (λe he=>hk e (aw _ he)) h3⟩
def a4z(h:H a=cz (g7 a es))(hk:∀e∈es,Den K H e.2.1 e.1)(hv:DenAll K H (es.map (·.2.2)) ds):Den K H (.ref a) (.dict ((es.map (·.1)).zip ds)):=by
 simp only[Den];exact⟨a,es,rfl,h,a6w hk hv⟩
def denAll_nil:DenAll K H [] []:=by simp only[DenAll]
def denAll_cons{v:V}{d:bp}{xs:List V}{ds:List bp}(h:Den K H v d)(q:DenAll K H xs ds):DenAll K H (v::xs) (d::ds):=by
 simp only[DenAll];exact⟨v,xs,rfl,h,q⟩
def Den.list_inv{v:V}{ds:List bp}(h:Den K H v (.list ds)):∃a xs,v=.ref a/\SqX K H a xs/\DenAll K H xs ds:=by simpa only [Den]using h
def Den.tup_inv{v:V}{ds:List bp}(h:Den K H v (.tuple ds)):∃a xs,v=.ref a/\SqT K H a xs/\DenAll K H xs ds:=by simpa only [Den]using h
def Den.dict_inv(h:Den K H v (.dict kvs)):∃a es,v=.ref a/\H a=cz (g7 a es)/\DenKV K H es kvs:=by simpa only [Den]using h
theorem DenKV.keys:∀{kvs:List (bp×bp)} {es:List (bp×V×V)},DenKV K H es kvs->es.map (·.1)=kvs.map (·.1)
 |[],_,h=>by simp only[DenKV]at h;rw[h];rfl
 | (k,d)::r,_,h=>by
  simp only[DenKV]at h;obtain⟨e,q,rfl,h1,_,_,h2⟩:=h;rw[ay,ay,DenKV.keys h2,h1]
theorem DenKV.vals:∀{kvs:List (bp×bp)} {es:List (bp×V×V)},DenKV K H es kvs->DenAll K H (es.map (·.2.2)) (kvs.map (·.2))
 |[],_,h=>by simp only[DenKV]at h;rw[h];simp only[c_,DenAll]
 | (k,d)::r,_,h=>by
  simp only[DenKV]at h;obtain⟨e,q,rfl,_,_,h1,h2⟩:=h;simp only[ay,DenAll];exact⟨_,_,rfl,h1,DenKV.vals h2⟩
theorem DenKV.kden:∀{kvs:List (bp×bp)} {es:List (bp×V×V)},DenKV K H es kvs->∀e∈es,Den K H e.2.1 e.1
 |[],_,h,e,he=>by simp only[DenKV]at h;rw[h]at he;cases he
 | (k,d)::r,_,h,e,he=>by
  simp only[DenKV]at h;obtain⟨e0,q,rfl,h0,h1,_,h2⟩:=h;rcases aI.mp he with z|z
  ·subst z;rw[h0];exact h1
  ·exact DenKV.kden h2 e z
def Den.int_inv{v:V}{i:Int}(h:Den K H v (.int i)):v=.int i:=by simpa only [Den]using h
def Den.bool_inv(h:Den K H v (.bool b)):v=.bl b:=by simpa only [Den]using h
def Den.none_inv(h:Den K H v .none):v=.non:=by simpa only [Den]using h
def Den.str_inv(h:Den K H v (.str x)):v=.str x:=by simpa only [Den]using h
def DenAll.cons_inv{xs:List V}{d:bp}{ds:List bp}(h:DenAll K H xs (d::ds)):∃v r,xs=v::r/\Den K H v d/\DenAll K H r ds:=by simpa only [DenAll]using h
def DenAll.nil_inv{xs:List V}(h:DenAll K H xs []):xs=[]:=by simpa only [DenAll]using h
theorem DenAll.length:∀{ds:List bp} {xs:List V},DenAll K H xs ds->xs.length=ds.length
 |[],_,h=>by rw[h.nil_inv];rfl
 |d::ds,_,h=>by
  obtain⟨v,r,rfl,_,h⟩:=h.cons_inv;rw[aS,aS,DenAll.length h]
theorem DenAll.get:∀{ds:List bp} {xs:List V} {i:Nat} {d:bp},DenAll K H xs ds->ds[i]?=cz d->∃v,xs[i]?=cz v/\Den K H v d
 |[],_,i,d,_,e=>by simp at e
 |d0::ds,_,0,d,h,e=>by
  obtain⟨v,r,rfl,h1,_⟩:=h.cons_inv;have:d0=d:=by simpa using e
  subst this;exact⟨v,rfl,h1⟩
 |d0::ds,_,i+1,d,h,e=>by
  obtain⟨v,r,rfl,_,h1⟩:=h.cons_inv;obtain⟨u,h2,h3⟩:=DenAll.get (i:=i) h1 (by simpa using e);exact⟨u,by simpa using h2,h3⟩
def DenAll.getV{ds:List bp}{xs:List V}{i:Nat}{v:V}(h:DenAll K H xs ds)(e:xs[i]?=cz v):∃d,ds[i]?=cz d/\Den K H v d:=by
 have hi:=(aQ.mp e).1;rw[h.length]at hi;obtain⟨u,h1,h2⟩:=h.get (ae hi);rw[e]at h1;cases h1
 exact⟨_,ae hi,h2⟩
theorem DenAll.append:∀{ds:List bp} {xs:List V} {es:List bp} {ys:List V},DenAll K H xs ds->DenAll K H ys es->DenAll K H (xs++ys) (ds++es)
 |[],_,_,_,h,q=>by rw[h.nil_inv];exact q
 |d::ds,_,_,_,h,q=>by
  obtain⟨v,r,rfl,h1,h2⟩:=h.cons_inv;exact denAll_cons h1 (DenAll.append h2 q)
theorem DenAll.take:∀{ds:List bp} {xs:List V} (n:Nat),DenAll K H xs ds->DenAll K H (xs.take n) (ds.take n)
 |_,_,0,_=>by rw[List.take_zero,List.take_zero];exact denAll_nil
 |[],_,n+1,h=>by rw[h.nil_inv];exact denAll_nil
 |d::ds,_,n+1,h=>by
  obtain⟨v,r,rfl,h1,h2⟩:=h.cons_inv;exact denAll_cons h1 (DenAll.take n h2)
theorem DenAll.drop:∀{ds:List bp} {xs:List V} (n:Nat),DenAll K H xs ds->DenAll K H (xs.drop n) (ds.drop n)
 |_,_,0,h=>h
 |[],_,n+1,h=>by rw[h.nil_inv];exact denAll_nil
 |d::ds,_,n+1,h=>by
  obtain⟨v,r,rfl,_,h2⟩:=h.cons_inv;exact DenAll.drop n h2
theorem DenAll.ints:∀(ns:List Int),DenAll K H (ns.map V.int) (ns.map aO)
 |[]=>denAll_nil
 |n::ns=>denAll_cons den_int (DenAll.ints ns)
end
def cut(H:Hp)(F:List ax):Hp:=λa=>if a∈F then xn else H a
section
variable {H H':Hp}{F F':List ax}{a:ax}{o:HO}
def X7(h:a∉F):cut H F a=H a:=by unfold cut;rw[aM h]
def U9(h:a∈F):cut H F a=xn:=by unfold cut;rw[aD h]
def l7(h:cut H F a=cz o):a∉F/\H a=cz o:=by
 by_cases q:a∈F
 ·rw[U9 q]at h;cases h
 ·rw[X7 q]at h;exact⟨q,h⟩
def i4(h1:a∉F)(h2:H a=cz o):cut H F a=cz o:=by rw[X7 h1];exact h2
def k6:Same (cut H F) H:=λ_ _ h=>(l7 h).2
def P3(e:Same H H')(hF:∀a o,H a=cz o->a∈F'->a∈F):Same (cut H F) (cut H' F'):=λa o h=>by
 obtain⟨h1,h2⟩:=l7 h;exact i4 (λq=>h1 (hF a o h2 q)) (e _ _ h2)
def G9(e:Same H H'):Same (cut H F) (cut H' F):=P3 e λ_ _ _ q=>q
def D8(hF:∀a,a∈F'->a∈F):Same (cut H F) (cut H F'):=P3 (Same.refl H) λa _ _ q=>hF a q
def K3:cut H []=H:=by
 funext a
 exact X7 (by simp)
end
inductive Ty where
 |i|f|l (t:Ty)|tp (ts:List Ty)|d (kt:Bool) (t:Ty)
mutual
def Ty.shut:Ty->Bool
 |.i=>true
 |.f=>false
 |.l u=>u.shut
 |.tp us=>Ty.shutAll us
 |.d _ u=>u.shut
def Ty.shutAll:List Ty->Bool
 |[]=>true
 |u::us=>u.shut&&Ty.shutAll us
end
def ListAll(R:V->bp->List ax->Prop):List V->List bp->List ax->Prop
 |xs,[],fp=>xs=[]/\fp=[]
 |xs,d::ds,fp=>∃v r f g,xs=v::r/\fp=f++g/\R v d f/\ListAll R r ds g
mutual
def Own(K:ag)(H:Hp)(F:List ax):Ty->V->bp->List ax->Prop
 |.i,v,d,fp=>fp=[]/\imm d=true/\Den K (cut H F) v d
 |.f,v,d,fp=>fp=[]/\Den K (cut H F) v d
 |.l u,v,d,fp=>(fp=[]/\imm d=true/\Den K (cut H F) v d)∨∃a xs ds fs,v=.ref a/\H a=cz (.lst xs)/\d=.list ds/\fp=a::fs/\ListAll (Own K H F u) xs ds fs
 |.tp us,v,d,fp=>∃a xs ds,v=.ref a/\H a=cz (.tup xs)/\a∉F/\d=.tuple ds/\OwnTs K H F us xs ds fp
 |.d kt u,v,d,fp=>∃a es ds fs,v=.ref a/\H a=cz (g7 a es)/\d=.dict ((es.map (·.1)).zip ds)/\fp=a::fs/\((es.map (·.1)).Nodup/\∀e∈es,keyOk kt e.1/\Den K (cut H F) e.2.1 e.1)/\ListAll (Own K H F u) (es.map (·.2.2)) ds fs
def OwnTs(K:ag)(H:Hp)(F:List ax):List Ty->List V->List bp->List ax->Prop
 |[],xs,ds,fp=>xs=[]/\ds=[]/\fp=[]
 |u::us,xs,ds,fp=>∃v r d e f g,xs=v::r/\ds=d::e/\fp=f++g/\Own K H F u v d f/\OwnTs K H F us r e g
end
section
variable {R R':V->bp->List ax->Prop}
def p5:ListAll R [] [] []:=by simp only[ListAll];exact⟨trivial,trivial⟩
def m7(h:R v d f)(q:ListAll R xs ds g):ListAll R (v::xs) (d::ds) (f++g):=by
 simp only[ListAll];exact⟨v,xs,f,g,rfl,rfl,h,q⟩
def ListAll.nil_inv(h:ListAll R xs [] fp):xs=[]/\fp=[]:=by simpa only [ListAll]using h
def ListAll.cons_inv(h:ListAll R xs (d::ds) fp):∃v r f g,xs=v::r/\fp=f++g/\R v d f/\ListAll R r ds g:=by simpa only [ListAll]using h
theorem ListAll.length:∀{ds:List bp} {xs:List V} {fp:List ax},ListAll R xs ds fp->xs.length=ds.length
 |[],_,_,h=>by rw[h.nil_inv.1];rfl
 |d::ds,_,_,h=>by
  obtain⟨v,r,f,g,rfl,_,_,h⟩:=h.cons_inv;rw[aS,aS,ListAll.length h]
theorem ListAll.imp:∀{ds:List bp} {xs:List V} {fp:List ax},ListAll R xs ds fp->(∀v d f,(∀a∈f,a∈fp)->d∈ds->R v d f->R' v d f)->ListAll R' xs ds fp
 |[],_,_,h,_=>by obtain⟨rfl,rfl⟩:=h.nil_inv;exact p5
 |d::ds,_,_,h,q=>by
  obtain⟨v,r,f,g,rfl,rfl,h1,h2⟩:=h.cons_inv;exact m7 (q v d f (λa ha=>ak _ ha) aL h1) (ListAll.imp h2 λv d f' hf hd hR=>q v d f' (λa ha=>ah _ (hf a ha)) (aw _ hd) hR)
theorem ListAll.append:∀{ds es:List bp} {xs ys:List V} {fp gp:List ax},ListAll R xs ds fp->ListAll R ys es gp->ListAll R (xs++ys) (ds++es) (fp++gp)
 |[],_,_,_,_,_,h,q=>by obtain⟨rfl,rfl⟩:=h.nil_inv;exact q
 |d::ds,_,_,_,_,_,h,q=>by
  obtain⟨v,r,f,g,rfl,rfl,h1,h2⟩:=h.cons_inv;rw[aP];exact m7 h1 (ListAll.append h2 q)
theorem ListAll.at_:∀{ds:List bp} {xs:List V} {fp:List ax} {k:Nat} {d:bp},ListAll R xs ds fp->ds[k]?=cz d->
  ∃v f pre post,xs[k]?=cz v/\R v d f/\fp=pre++(f++post)/\ListAll R (xs.take k) (ds.take k) pre/\ListAll R (xs.drop (k+1)) (ds.drop (k+1)) post
 |[],_,_,k,d,_,e=>by simp at e
 |d0::ds,_,_,0,d,h,e=>by
  obtain⟨v,r,f,g,rfl,rfl,h1,h2⟩:=h.cons_inv;have:d0=d:=by simpa using e
  subst this;exact⟨v,f,[],g,rfl,h1,rfl,p5,h2⟩
 |d0::ds,_,_,k+1,d,h,e=>by
  obtain⟨v,r,f,g,rfl,rfl,h1,h2⟩:=h.cons_inv;obtain⟨u,f',pre,post,e1,e2,e3,e4,e5⟩:=ListAll.at_ (k:=k) h2 (by simpa using e);subst e3;exact⟨u,f',f++pre,post,by simpa using e1,e2,by rw[aP],m7 h1 e4,e5⟩
end
section
variable {K:ag}{H H':Hp}{F F':List ax}
theorem ListAll.den(hR:∀v d f,R v d f->Den K H v d):∀{ds:List bp} {xs:List V} {fp:List ax},ListAll R xs ds fp->DenAll K H xs ds
 |[],_,_,h=>by rw[h.nil_inv.1];exact denAll_nil
 |d::ds,_,_,h=>by
  obtain⟨v,r,f,g,rfl,_,h1,h2⟩:=h.cons_inv;exact denAll_cons (hR _ _ _ h1) (ListAll.den hR h2)
mutual
theorem Own.den:∀(u:Ty) {v:V} {d:bp} {fp:List ax},Own K H F u v d fp->Den K H v d
 |.i,_,_,_,h=>by simp only[Own]at h;exact h.2.2.up k6
 |.f,_,_,_,h=>by simp only[Own]at h;exact h.2.up k6
 |.l u,_,_,_,h=>by
  simp only[Own]at h;rcases h with⟨_,_,h⟩|⟨a,xs,ds,fs,rfl,h1,rfl,_,h2⟩
  ·exact h.up k6
  ·exact den_list (.inl (.inl h1)) (ListAll.den (λv d f q=>Own.den u q) h2)
 |.tp us,_,_,_,h=>by
  simp only[Own]at h;obtain⟨a,xs,ds,rfl,h1,_,rfl,h2⟩:=h;exact den_tup (SqT.of h1) (OwnTs.den us h2)
 |.d kt u,_,_,_,h=>by
  simp only[Own]at h;obtain⟨a,es,ds,fs,rfl,h1,rfl,_,h3,h2⟩:=h;exact a4z h1 (λe he=>(h3.2 e he).2.up k6) (ListAll.den (λv d f q=>Own.den u q) h2)
theorem OwnTs.den:∀(us:List Ty) {xs:List V} {ds:List bp} {fp:List ax},OwnTs K H F us xs ds fp->DenAll K H xs ds
 |[],_,_,_,h=>by simp only[OwnTs]at h;obtain⟨rfl,rfl,_⟩:=h;exact denAll_nil
 |u::us,_,_,_,h=>by
  simp only[OwnTs]at h;obtain⟨v,r,d,e,f,g,rfl,rfl,_,h1,h2⟩:=h;exact denAll_cons (Own.den u h1) (OwnTs.den us h2)
end
mutual
theorem Own.frame(e:Same (cut H F) (cut H' F')):∀(u:Ty) {v:V} {d:bp} {fp:List ax},Own K H F u v d fp->(∀a∈fp,H' a=H a)->Own K H' F' u v d fp
 |.i,_,_,_,h,_=>by simp only[Own]at h ⊢;exact⟨h.1,h.2.1,h.2.2.up e⟩
 |.f,_,_,_,h,_=>by simp only[Own]at h ⊢;exact⟨h.1,h.2.up e⟩
 |.l u,_,_,_,h,k=>by
  simp only[Own]at h ⊢;rcases h with⟨h1,h2,h⟩|⟨a,xs,ds,fs,rfl,h1,rfl,rfl,h2⟩
  ·exact .inl ⟨h1,h2,h.up e⟩
  ·exact .inr ⟨a,xs,ds,fs,rfl,(k a aL).trans h1,rfl,rfl,h2.imp λv d f hf _ q=>Own.frame e u q λb hb=>k b (aw _ (hf b hb))⟩
 |.tp us,_,_,_,h,k=>by
  simp only[Own]at h ⊢;obtain⟨a,xs,ds,rfl,h1,h0,rfl,h2⟩:=h;obtain⟨h3,h4⟩:=l7 (e a _ (i4 h0 h1));exact⟨a,xs,ds,rfl,h4,h3,rfl,OwnTs.frame e us h2 k⟩
 |.d kt u,_,_,_,h,k=>by
  simp only[Own]at h ⊢;obtain⟨a,es,ds,fs,rfl,h1,rfl,rfl,h3,h2⟩:=h;exact⟨a,es,ds,fs,rfl,(k a aL).trans h1,rfl,rfl,⟨h3.1,λx hx=>⟨(h3.2 x hx).1,(h3.2 x hx).2.up e⟩⟩,h2.imp λv d f hf _ q=>Own.frame e u q λb hb=>k b (aw _ (hf b hb))⟩
theorem OwnTs.frame(e:Same (cut H F) (cut H' F')):∀(us:List Ty) {xs:List V} {ds:List bp} {fp:List ax},OwnTs K H F us xs ds fp->(∀a∈fp,H' a=H a)->OwnTs K H' F' us xs ds fp
 |[],_,_,_,h,_=>by simpa only [OwnTs]using h
 |u::us,_,_,_,h,k=>by
  simp only[OwnTs]at h ⊢;obtain⟨v,r,d,e',f,g,rfl,rfl,rfl,h1,h2⟩:=h;exact⟨v,r,d,e',f,g,rfl,rfl,rfl,Own.frame e u h1 λa ha=>k a (ak _ ha),OwnTs.frame e us h2 λa ha=>k a (ah _ ha)⟩
end
theorem ListAll.lst{u:Ty}{R:V->bp->List ax->Prop}(hR:∀v d f,R v d f->∀a∈f,∃ys:MuO,H a=cz ys.1):∀{ds:List bp} {xs:List V} {fp:List ax},ListAll R xs ds fp->∀a∈fp,∃ys:MuO,H a=cz ys.1
 |[],_,_,h,a,ha=>by rw[h.nil_inv.2]at ha;cases ha
 |d::ds,_,_,h,a,ha=>by
  obtain⟨v,r,f,g,rfl,rfl,h1,h2⟩:=h.cons_inv;rcases ar.mp ha with z|z
  ·exact hR _ _ _ h1 a z
  ·exact ListAll.lst (u:=u) hR h2 a z
mutual
theorem Own.lst:∀(u:Ty) {v:V} {d:bp} {fp:List ax},Own K H F u v d fp->∀a∈fp,∃ys:MuO,H a=cz ys.1
 |.i,_,_,_,h,a,ha=>by simp only[Own]at h;rw[h.1]at ha;cases ha
 |.f,_,_,_,h,a,ha=>by simp only[Own]at h;rw[h.1]at ha;cases ha
 |.l u,_,_,_,h,b,hb=>by
  simp only[Own]at h;rcases h with⟨h1,_⟩|⟨a,xs,ds,fs,rfl,h1,rfl,rfl,h2⟩
  ·rw[h1]at hb;cases hb
  ·rcases aI.mp hb with z|z
   ·subst z;exact⟨⟨.lst xs,trivial⟩,h1⟩
   ·exact ListAll.lst (u:=u) (λv d f q=>Own.lst u q) h2 b z
 |.tp us,_,_,_,h,b,hb=>by
  simp only[Own]at h;obtain⟨a,xs,ds,rfl,h1,_,rfl,h2⟩:=h;exact OwnTs.lst us h2 b hb
 |.d kt u,_,_,_,h,b,hb=>by
  simp only[Own]at h;obtain⟨a,es,ds,fs,rfl,h1,rfl,rfl,h3,h2⟩:=h;rcases aI.mp hb with z|z
  ·subst z;exact⟨⟨g7 b es,trivial⟩,h1⟩
  ·exact ListAll.lst (u:=u) (λv d f q=>Own.lst u q) h2 b z
theorem OwnTs.lst:∀(us:List Ty) {xs:List V} {ds:List bp} {fp:List ax},OwnTs K H F us xs ds fp->∀a∈fp,∃ys:MuO,H a=cz ys.1
 |[],_,_,_,h,a,ha=>by simp only[OwnTs]at h;rw[h.2.2]at ha;cases ha
 |u::us,_,_,_,h,b,hb=>by
  simp only[OwnTs]at h;obtain⟨v,r,d,e,f,g,rfl,rfl,rfl,h1,h2⟩:=h;rcases ar.mp hb with z|z
  ·exact Own.lst u h1 b z
  ·exact OwnTs.lst us h2 b z
end
def b5D(h:SqT K H a xs)(hF:∀a∈F,∃ys:MuO,H a=cz ys.1):SqT K (cut H F) a xs:=by
 rcases h with (h|⟨o,h⟩)|h
 ·refine .inl (.inl (i4 (λq=>?_) h));obtain⟨⟨ys,my⟩,e⟩:=hF a q;rw[h]at e;have e':=aE e;rw[show ys=_ from e'.symm]at my;exact my
 ·refine .inl (.inr ⟨o,i4 (λq=>?_) h⟩);obtain⟨⟨ys,my⟩,e⟩:=hF a q;rw[h]at e;have e':=aE e;rw[show ys=_ from e'.symm]at my;exact my
 ·exact .inr h
mutual
theorem Den.imm_out(hF:∀a∈F,∃ys:MuO,H a=cz ys.1):∀(d:bp) {v:V},imm d=true->Den K H v d->Den K (cut H F) v d
 |.none,_,_,h=>by simpa only [Den]using h
 |.bool _,_,_,h=>by simpa only [Den]using h
 |.int _,_,_,h=>by simpa only [Den]using h
 |.str _,_,_,h=>by simpa only [Den]using h
 |.list ds,_,q,_=>by simp only[imm]at q;cases q
 |.tuple ds,_,q,h=>by
  simp only[imm]at q;obtain⟨a,xs,rfl,h1,h2⟩:=h.tup_inv;exact den_tup (b5D h1 hF) (DenAll.imm_out hF ds q h2)
 |.dict _,_,q,_=>by simp only[imm]at q;cases q
theorem DenAll.imm_out(hF:∀a∈F,∃ys:MuO,H a=cz ys.1):∀(ds:List bp) {xs:List V},c9 ds=true->DenAll K H xs ds->DenAll K (cut H F) xs ds
 |[],_,_,h=>by simpa only [DenAll]using h
 |d::ds,_,q,h=>by
  simp only[c9,aB]at q;obtain⟨v,r,rfl,h1,h2⟩:=h.cons_inv;exact denAll_cons (Den.imm_out hF d q.1 h1) (DenAll.imm_out hF ds q.2 h2)
end
mutual
theorem Own.shut_out(hF:∀a∈F',∃ys:MuO,H a=cz ys.1):∀(u:Ty) {v:V} {d:bp} {fp:List ax},u.shut=true->Own K H F u v d fp->Own K H F' u v d fp
 |.i,_,_,_,_,h=>by simp only[Own]at h ⊢;exact⟨h.1,h.2.1,(h.2.2.up k6).imm_out hF _ h.2.1⟩
 |.f,_,_,_,q,h=>by simp only[Ty.shut]at q;cases q
 |.l u,_,_,_,q,h=>by
  simp only[Ty.shut]at q;simp only[Own]at h ⊢;rcases h with⟨h1,h2,h⟩|⟨a,xs,ds,fs,rfl,h1,rfl,rfl,h2⟩
  ·exact .inl ⟨h1,h2,(h.up k6).imm_out hF _ h2⟩
  ·exact .inr ⟨a,xs,ds,fs,rfl,h1,rfl,rfl,h2.imp λv d f _ _ z=>Own.shut_out hF u q z⟩
 |.tp us,_,_,_,q,h=>by
  simp only[Ty.shut]at q;simp only[Own]at h ⊢;obtain⟨a,xs,ds,rfl,h1,h0,rfl,h2⟩:=h;refine⟨a,xs,ds,rfl,h1,λz=>?_,rfl,OwnTs.shut_out hF us q h2⟩;obtain⟨⟨ys,my⟩,e⟩:=hF a z;rw[h1]at e;have e':=aE e;rw[show ys=_ from e'.symm]at my;exact my
 |.d kt u,_,_,_,q,h=>by
  simp only[Ty.shut]at q;simp only[Own]at h ⊢;obtain⟨a,es,ds,fs,rfl,h1,rfl,rfl,h3,h2⟩:=h;exact⟨a,es,ds,fs,rfl,h1,rfl,rfl,⟨h3.1,λx hx=>⟨(h3.2 x hx).1,((h3.2 x hx).2.up k6).imm_out hF _ (U8 _ (h3.2 x hx).1.1)⟩⟩,h2.imp λv d f _ _ z=>Own.shut_out hF u q z⟩
theorem OwnTs.shut_out(hF:∀a∈F',∃ys:MuO,H a=cz ys.1):∀(us:List Ty) {xs:List V} {ds:List bp} {fp:List ax},Ty.shutAll us=true->OwnTs K H F us xs ds fp->OwnTs K H F' us xs ds fp
 |[],_,_,_,_,h=>by simpa only [OwnTs]using h
 |u::us,_,_,_,q,h=>by
  simp only[Ty.shutAll,aB]at q;simp only[OwnTs]at h ⊢;obtain⟨v,r,d,e,f,g,rfl,rfl,rfl,h1,h2⟩:=h;exact⟨v,r,d,e,f,g,rfl,rfl,rfl,Own.shut_out hF u q.1 h1,OwnTs.shut_out hF us q.2 h2⟩
end
end
end VS
namespace VS
open PySem PySem.Spec L2
open SeqAt in
def items_eqAt{A:bP}{s:av}{us ws:Array aj}(ra:iZ s.heap us.toList xs as)(rb:iZ s.heap ws.toList ys bs)(ha:ba xs=true)(hb:ba ys=true)
  (hu:A.in1.units+min (cW xs) (cW ys)<dW):∀(k:Nat) (k1:k<us.size) (k2:k<ws.size),EqAt A.in1 s us[k] ws[k] (pairEq xs ys k):=λk k1 k2=>
 eqAt_readsAll xs ys A.in1 s us.toList ws.toList as bs ra rb ha hb hu k k1 k2
open SeqAt in
def a7T{A:bP}{s:av}(ra:Reads s.heap a da as)(rb:Reads s.heap b db bs)(ha:da.canLay0=true)(hb:db.canLay0=true)
  (hu:A.units+min da.depth db.depth<dW):RcNeAt A s a b (!aH da db):=by
 have u0:=room_here hu;cases ra with
 |dict=>exact nomatch ha
 |none=>cases rb with
  |dict=>exact nomatch hb
  |none=>exact RcNeAt.none_none
  |bool y=>exact RcNeAt.none_bool y
  |int y v=>exact RcNeAt.none_int y v
  |str y v=>exact RcNeAt.none_str y v
  |list c1 c2 c3 c4=>exact RcNeAt.none_list ⟨_,c1,c2,_,c3⟩ u0
  |tuple c1 c2 c3 c4=>exact RcNeAt.none_tuple ⟨_,c1,c2,_,c3⟩ u0
 |bool x=>cases rb with
  |dict=>exact nomatch hb
  |none=>exact RcNeAt.bool_none x
  |bool y=>exact RcNeAt.bool_bool x y
  |int y v=>exact RcNeAt.bool_int x y v
  |str y v=>exact RcNeAt.bool_str x y v
  |list c1 c2 c3 c4=>exact RcNeAt.bool_list x ⟨_,c1,c2,_,c3⟩ u0
  |tuple c1 c2 c3 c4=>exact RcNeAt.bool_tuple x ⟨_,c1,c2,_,c3⟩ u0
 |int x t=>cases rb with
  |dict=>exact nomatch hb
  |none=>exact RcNeAt.int_none x t
  |bool y=>exact RcNeAt.int_bool x t y
  |int y v=>exact RcNeAt.int_int x t y v
  |str y v=>exact RcNeAt.int_str x t y v
  |list c1 c2 c3 c4=>exact RcNeAt.int_list x t ⟨_,c1,c2,_,c3⟩ u0
  |tuple c1 c2 c3 c4=>exact RcNeAt.int_tuple x t ⟨_,c1,c2,_,c3⟩ u0
 |str x t=>cases rb with
  |dict=>exact nomatch hb
  |none=>exact RcNeAt.str_none x t
  |bool y=>exact RcNeAt.str_bool x t y
  |int y v=>exact RcNeAt.str_int x t y v
  |str y v=>exact RcNeAt.str_str x t y v
  |list c1 c2 c3 c4=>exact RcNeAt.str_list x t ⟨_,c1,c2,_,c3⟩ u0
  |tuple c1 c2 c3 c4=>exact RcNeAt.str_tuple x t ⟨_,c1,c2,_,c3⟩ u0
 |@list la oa us na xs fa c1 c2 c3 c4=>
  have sa:s.heap.IsList la us:=⟨oa,c1,c2,na,c3⟩;cases rb with
  |dict=>exact nomatch hb
  |none=>exact RcNeAt.list_none sa u0
  |bool y=>exact RcNeAt.list_bool y sa u0
  |int y v=>exact RcNeAt.list_int y v sa u0
  |str y v=>exact RcNeAt.list_str y v sa u0
  |tuple e1 e2 e3 e4=>exact RcNeAt.list_tuple sa ⟨_,e1,e2,_,e3⟩ u0
  |@list lb ob ws nb ys fb e1 e2 e3 e4=>
   have sb:s.heap.IsList lb ws:=⟨ob,e1,e2,nb,e3⟩;have z1:us.size=xs.length:=by simpa using oM xs _ _ c4
   have z2:ws.size=ys.length:=by simpa using oM ys _ _ e4
   have pr:=items_eqAt c4 e4 ha hb (room_in hu);show RcNeAt A s (.ref la) (.ref lb) (!bQ xs ys);by_cases z:us.size=ws.size
   ·rw[<-eqvAll_same_length (show xs.length=ys.length by lia),<-z1];exact RcNeAt.lists sa sb z u0 pr
   ·rw[eqvAll_other_length (show xs.length≠ys.length by lia)];exact RcNeAt.lists_lengths sa sb (bne_iff_ne.mpr z) u0
 |@tuple la oa us na xs fa c1 c2 c3 c4=>
  have sa:s.heap.IsTuple la us:=⟨oa,c1,c2,na,c3⟩;cases rb with
  |dict=>exact nomatch hb
  |none=>exact RcNeAt.tuple_none sa u0
  |bool y=>exact RcNeAt.tuple_bool y sa u0
  |int y v=>exact RcNeAt.tuple_int y v sa u0
  |str y v=>exact RcNeAt.tuple_str y v sa u0
  |list e1 e2 e3 e4=>exact RcNeAt.tuple_list sa ⟨_,e1,e2,_,e3⟩ u0
  |@tuple lb ob ws nb ys fb e1 e2 e3 e4=>
   have sb:s.heap.IsTuple lb ws:=⟨ob,e1,e2,nb,e3⟩;have z1:us.size=xs.length:=by simpa using oM xs _ _ c4
   have z2:ws.size=ys.length:=by simpa using oM ys _ _ e4
   have pr:=items_eqAt c4 e4 ha hb (room_in hu);show RcNeAt A s (.ref la) (.ref lb) (!bQ xs ys);rw[<-eqvAll_eq xs ys,<-z1,<-z2];exact RcNeAt.tuples sa sb u0 pr
mutual
theorem Den.reads{X:Cx}{pins:List (ax×fY)}{σ:St}{H:Hp}{s:av}(I:Inv X pins σ H s):∀(d:bp) {v:V} {u:aj},d.canLay0=true->Den X.K H v d->RelV v u->∃as,Reads s.heap u d as
 |.none,v,u,_,q,r=>by
  cases q.none_inv
  cases (show u=bx from r)
  exact⟨_,.none⟩
 |.bool b,v,u,_,q,r=>by
  cases q.bool_inv
  cases (show u=mw b from r)
  exact⟨_,.bool b⟩
 |.int i,v,u,_,q,r=>by
  cases q.int_inv
  obtain⟨t,rfl⟩:=r;exact⟨_,.int i t⟩
 |.str x,v,u,_,q,r=>by
  cases q.str_inv
  obtain⟨t,rfl⟩:=r;exact⟨_,.str x t⟩
 |.list ds,v,u,hl,q,r=>by
  obtain⟨a,xs,rfl,h1,h2⟩:=q.list_inv;cases (show u=bL a from r)
  obtain⟨z,its,n,rv,e⟩:=h1.ok I;obtain⟨as,ra⟩:=DenAll.reads I ds hl h2 rv;exact⟨_,.list e rfl rfl (by simpa using ra)⟩
 |.tuple ds,v,u,hl,q,r=>by
  obtain⟨a,xs,rfl,h1,h2⟩:=q.tup_inv;cases (show u=bL a from r)
  obtain⟨its,rv,⟨o,e,c,n,d⟩,_⟩:=I.tuple h1;obtain⟨as,ra⟩:=DenAll.reads I ds hl h2 rv;exact⟨_,.tuple e c d (by simpa using ra)⟩
 |.dict _,_,_,hl,_,_=>nomatch hl
theorem DenAll.reads{X:Cx}{pins:List (ax×fY)}{σ:St}{H:Hp}{s:av}(I:Inv X pins σ H s):∀(ds:List bp) {xs:List V} {us:List aj},ba ds=true->DenAll X.K H xs ds->Vals xs us->∃as,iZ s.heap us ds as
 |[],xs,us,_,q,r=>by
  cases q.nil_inv
  cases r
  exact⟨_,.nil⟩
 |d::ds,xs,us,hl,q,r=>by
  have rS:d.canLay0=true/\ba ds=true:=by simpa[ba]using hl
  obtain⟨v,rs,rfl,h1,h2⟩:=q.cons_inv;cases r with
  |cons r1 r2=>
   obtain⟨as,ra⟩:=Den.reads I d rS.1 h1 r1;obtain⟨bs,rb⟩:=DenAll.reads I ds rS.2 h2 r2;exact⟨_,.cons ra rb⟩
end
def OpS(X:Cx)(f:aj->aj->zR aj)(g:D->D->Option D):Prop:=
 ∃r,OpR X f r/\∀(x y:V) (H:Hp) (a b d:D) (Q:VK),Den X.K H x a->Den X.K H y b->g a b=cz d->(∀v,imm d=true->(∀H',Den X.K H' v d)->Q v H)->r x y H Q
noncomputable def a9m(X:Cx)(f:aj)(g:List D->Option D):Prop:=
 ∃r,CallR X f r/\∀(xs:List V) (H:Hp) (ds:List D) (d:D) (Q:VK),DenAll X.K H xs ds->g ds=cz d->(∀v,imm d=true->(∀H',Den X.K H' v d)->Q v H)->r xs H Q
def d2I(p:Int->Int->Bool)(g:Int->Int->D):D->D->Option D
 |.int a,.int b=>if p a b then cz (g a b) else xn
 |_,_=>xn
def a2T(h:d2I p g a b=cz d):∃i j,a=.int i/\b=.int j/\p i j=true/\d=g i j:=by
 cases a with
 |int i=>
  cases b with
  |int j=>
   have h':(if p i j=true then cz (g i j) else xn)=cz d:=h;by_cases c:p i j=true
   ·rw[aD c]at h';exact⟨i,j,rfl,rfl,c,(aE h').symm⟩
   ·rw[aM c]at h';cases h'
  |_=>cases h
 |_=>cases h
def pT:Int->Int->Bool:=λ_ _=>true
abbrev t5:D->D->Option D:=d2I pT λa b=>.int (a+b)
abbrev a2t:D->D->Option D:=d2I pT λa b=>.int (a-b)
def b0D(a b:Int):Bool:=decide (a.natAbs<2^64)||decide (b.natAbs<2^64)
abbrev O5:D->D->Option D:=d2I b0D λa b=>.int (a*b)
def b8w(_ b:Int):Bool:=decide (0<b)
abbrev v9:D->D->Option D:=d2I b8w λa b=>.int (a % b)
def b5E(_ b:Int):Bool:=decide (0<b)&&decide (b<1073741824)
abbrev b0E:D->D->Option D:=d2I b5E λa b=>.int (a / b)
def b0F(a b:Int):Bool:=decide (0<=b)&&decide (b<=1000000)&&decide (a.natAbs<2^64)
abbrev b0G:D->D->Option D:=d2I b0F λa b=>.int (a^b.toNat)
abbrev dLt:D->D->Option D:=d2I pT λa b=>.bool (decide (a<b))
abbrev dLe:D->D->Option D:=d2I pT λa b=>.bool (decide (a<=b))
abbrev dGt:D->D->Option D:=d2I pT λa b=>.bool (decide (b<a))
abbrev dGe:D->D->Option D:=d2I pT λa b=>.bool (decide (b<=a))
def b0H(neg:Bool)(a b:D):Option D:=if a.canLay0&&b.canLay0&&decide (a.depth<=60) then cz (.bool (neg !=aH a b)) else xn
abbrev dEq:D->D->Option D:=b0H false
abbrev dNe:D->D->Option D:=b0H true
def isN:D->Bool
 |.none=>true
 |_=>false
def a7U(neg:Bool)(a b:D):Option D:=if isN b then cz (.bool (neg !=isN a)) else xn
def c2q(neg:Bool):D->D->Option D
 |.bool a,.bool b=>cz (.bool (neg !=(a==b)))
 |_,_=>xn
section
variable {X:Cx}
def b5F{f:aj->aj->zR aj}{C:Int->Int->Prop}{p:Int->Int->Bool}{g:Int->Int->Int}(ho:OpR X f (rI C λi j=>.int (g i j)))(hp:∀i j,p i j=true->C i j):OpS X f (d2I p λa b=>.int (g a b)):=by
 refine⟨_,ho,λx y H a b d Q ha hb hg q=>?_⟩;obtain⟨i,j,rfl,rfl,c,rfl⟩:=a2T hg;exact⟨i,j,ha.int_inv,hb.int_inv,hp i j c,q _ (by simp only[imm]) λ_=>den_int⟩
def b7A{f:aj->aj->zR aj}{g:Int->Int->Int}(ho:OpR X f (rI0 λi j=>.int (g i j))):OpS X f (d2I pT λa b=>.int (g a b)):=by
 refine⟨_,ho,λx y H a b d Q ha hb hg q=>?_⟩;obtain⟨i,j,rfl,rfl,c,rfl⟩:=a2T hg;exact⟨i,j,ha.int_inv,hb.int_inv,q _ (by simp only[imm]) λ_=>den_int⟩
def b7B{f:aj->aj->zR aj}{g:Int->Int->Bool}(ho:OpR X f (rI0 λi j=>.bl (g i j))):OpS X f (d2I pT λa b=>.bool (g a b)):=by
 refine⟨_,ho,λx y H a b d Q ha hb hg q=>?_⟩;obtain⟨i,j,rfl,rfl,c,rfl⟩:=a2T hg;exact⟨i,j,ha.int_inv,hb.int_inv,q _ (by simp only[imm]) λ_=>den_bool⟩
def t6:OpS X (gd .Add) t5:=b7A b8i
def V0:OpS X (gd .Sub) a2t:=b7A b8j
def O6:OpS X (gd .Mult) O5:=b5F b8k λi j h=>by
 unfold b0D at h;rw[ly]at h;rcases h with h|h
 ·have:=bB h;exact .inl ⟨by lia,by lia⟩
 ·have:=bB h;exact .inr ⟨by lia,by lia⟩
def w9:OpS X (gd .Mod) v9:=b5F b8l λi j h=>bB h
def b8x:OpS X (gd .FloorDiv) b0E:=b5F b5o λi j h=>by
 unfold b5E at h;rw[aB]at h;exact⟨bB h.1,bB h.2⟩
def a5w:OpS X (gd .Pow) b0G:=b5F b8m λi j h=>by
 unfold b0F at h;rw[aB,aB]at h;exact⟨bB h.1.1,bB h.1.2,bB h.2⟩
def b7C:OpS X (dh .LtE) dLe:=b7B c0w
def a9n:OpS X (dh .Gt) dGt:=b7B c0x
def b8y(K:ag)(neg:Bool):R2:=λx y H Q=>∃d e,Den K H x d/\Den K H y e/\d.canLay0=true/\e.canLay0=true/\d.depth<=60/\Q (.bl (neg !=aH d e)) H
def b2x(hu:X.A.units+64<dW):OpR X (dh .Eq) (b8y X.K false):=by
 intro pins s σ H x y v u Q I rx ry h;obtain⟨d,e,h1,h2,c1,c2,hd,q⟩:=h;obtain⟨as,ra⟩:=Den.reads I d c1 h1 rx;obtain⟨bs,rb⟩:=Den.reads I e c2 h2 ry;refine SeqAt.compareEq_reads ra rb c1 c2 (by have:=lr d.depth e.depth;lia) ?_;exact⟨.bl _,H,I,rfl,by simpa using q⟩
def b2y(hu:X.A.units+64<dW):OpR X (dh .NotEq) (b8y X.K true):=by
 intro pins s σ H x y v u Q I rx ry h;obtain⟨d,e,h1,h2,c1,c2,hd,q⟩:=h;obtain⟨as,ra⟩:=Den.reads I d c1 h1 rx;obtain⟨bs,rb⟩:=Den.reads I e c2 h2 ry;refine a7T ra rb c1 c2 (by have:=lr d.depth e.depth;lia) _ _ _ _ ?_;exact⟨.bl _,H,I,rfl,by simpa using q⟩
def b2z(ho:OpR X f (b8y X.K neg)):OpS X f (b0H neg):=by
 refine⟨_,ho,λx y H a b d Q ha hb hg q=>?_⟩;unfold b0H at hg;by_cases c:(a.canLay0&&b.canLay0&&decide (a.depth<=60))=true
 ·rw[aD c]at hg;cases hg
  rw[aB,aB]at c;exact⟨a,b,ha,hb,c.1.1,c.1.2,bB c.2,q _ (by simp only[imm]) λ_=>den_bool⟩
 ·rw[aM c]at hg;cases hg
def os_eq(hu:X.A.units+64<dW):OpS X (dh .Eq) dEq:=b2z (b2x hu)
def c0D(hu:X.A.units+64<dW):OpS X (dh .NotEq) dNe:=b2z (b2y hu)
def b2A(h:Den K H x a):decide (x=V.non)=isN a:=by
 cases a with
 |none=>rw[h.none_inv];rfl
 |bool b=>rw[h.bool_inv];rfl
 |int b=>rw[h.int_inv];rfl
 |str b=>rw[h.str_inv];rfl
 |list ds=>obtain⟨a,xs,rfl,_⟩:=h.list_inv;rfl
 |tuple ds=>obtain⟨a,xs,rfl,_⟩:=h.tup_inv;rfl
 |dict kvs=>
  obtain⟨a,es,rfl,_⟩:=h.dict_inv;rfl
def b5G:OpS X (dh .IsNot) (a7U true):=by
 refine⟨_,b5p,λx y H a b d Q ha hb hg q=>?_⟩;unfold a7U at hg;by_cases c:isN b=true
 ·rw[aD c]at hg;cases hg
  have e:=b2A hb;rw[c]at e;refine⟨bB e,?_⟩;rw[b2A ha];have:=q (.bl (true !=isN a)) (by simp only[imm]) λ_=>den_bool
  simpa using this
 ·rw[aM c]at hg;cases hg
end
inductive Md where
 |dead|own (u:Ty)|exc|keys (kt:Bool)|pin (v:V)|fn (Φ:Hp->V->Prop)
def ExcAt(a C:ax):HO:=.ext λh=>∃o,h.get? a=cz o/\o.cls=.ref C
def SlotR(K:ag)(H:Hp)(F:List ax)(m:Md)(o:Option V)(d:D)(f:List ax):Prop:=
 match m with
 |.dead=>f=[]
 |.own u=>∃v,o=cz v/\Own K H F u v d f
 |.exc=>f=[]/\∃v,o=cz v/\((v=.non/\d=.none)∨∃a C n,v=.ref a/\d=.str n/\cut H F a=cz (ExcAt a C)/\gI K bU n=cz (cz (.ref C)))
 |.keys kt=>f=[]/\∃a es kvs,o=cz (.ref a)/\d=.dict kvs/\cut H F a=cz (g7 a es)/\es.map (·.1)=kvs.map (·.1)/\∀e∈es,keyOk kt e.1/\Den K (cut H F) e.2.1 e.1
 |.pin v=>f=[]/\o=cz v
 |.fn Φ=>f=[]/\∃v,o=cz v/\∀H',Same (cut H F) H'->Φ H' v
def StAll(K:ag)(H:Hp)(F:List ax):List Md->List D->L2.St->List ax->Prop
 |[],Z,σ,fp=>Z=[]/\σ=[]/\fp=[]
 |m::M,Z,σ,fp=>∃d Z' o σ' f g,Z=d::Z'/\σ=o::σ'/\fp=f++g/\SlotR K H F m o d f/\StAll K H F M Z' σ' g
section
variable {K:ag}{H H':Hp}{F F':List ax}
theorem SlotR.frame(h:SlotR K H F m o d f)(e:Same (cut H F) (cut H' F'))(k:∀a∈f,H' a=H a):SlotR K H' F' m o d f:=by
 cases m with
 |dead=>exact h
 |own u=>
  obtain⟨v,rfl,h⟩:=h;exact⟨v,rfl,h.frame e u k⟩
 |exc=>
  obtain⟨h0,v,h1,h2⟩:=h;refine⟨h0,v,h1,h2.imp (λz=>z) λ⟨a,C,n,z1,z2,z3,z4⟩=>⟨a,C,n,z1,z2,e _ _ z3,z4⟩⟩
 |keys kt=>
  obtain⟨h0,a,es,kvs,h1,h2,h3,h4,h5⟩:=h;exact⟨h0,a,es,kvs,h1,h2,e _ _ h3,h4,λx hx=>⟨(h5 x hx).1,(h5 x hx).2.up e⟩⟩
 |pin v=>exact h
 |fn Φ=>obtain⟨h0,v,h1,h2⟩:=h;exact⟨h0,v,h1,λH2 e2=>h2 H2 (e.trans e2)⟩
def i5{Z:List D}(h:SlotR K H F m o d f)(q:StAll K H F M Z σ g):StAll K H F (m::M) (d::Z) (o::σ) (f++g):=by
 simp only[StAll];exact⟨d,Z,o,σ,f,g,rfl,rfl,rfl,h,q⟩
def L5:StAll K H F [] [] [] []:=by simp only[StAll];exact⟨trivial,trivial,trivial⟩
theorem StAll.frame:∀{M:List Md} {Z:List D} {σ:L2.St} {fp:List ax},StAll K H F M Z σ fp->Same (cut H F) (cut H' F')->(∀a∈fp,H' a=H a)->StAll K H' F' M Z σ fp
 |[],_,_,_,h,_,_=>by simpa only [StAll]using h
 |m::M,_,_,_,h,e,k=>by
  simp only[StAll]at h;obtain⟨d,Z,o,σ,f,g,rfl,rfl,rfl,h1,h2⟩:=h;exact i5 (h1.frame e λa ha=>k a (ak _ ha)) (StAll.frame h2 e λa ha=>k a (ah _ ha))
theorem StAll.len:∀{M:List Md} {Z:List D} {σ:L2.St} {fp:List ax},StAll K H F M Z σ fp->Z.length=M.length/\σ.length=M.length
 |[],_,_,_,h=>by simp only[StAll]at h;obtain⟨rfl,rfl,_⟩:=h;exact⟨rfl,rfl⟩
 |m::M,_,_,_,h=>by
  simp only[StAll]at h;obtain⟨d,Z,o,σ,f,g,rfl,rfl,rfl,_,h2⟩:=h;obtain⟨a,b⟩:=StAll.len h2;exact⟨by rw[aS,aS,a],by rw[aS,aS,b]⟩
theorem StAll.at_:∀{M:List Md} {Z:List D} {σ:L2.St} {fp:List ax} {i:Nat} {m:Md},StAll K H F M Z σ fp->M[i]?=cz m->
  ∃d o f pre post,Z[i]?=cz d/\σ[i]?=cz o/\SlotR K H F m o d f/\fp=pre++(f++post)/\
   ∀(H':Hp) (F':List ax) (m':Md) (d':D) (o':Option V) (f':List ax),(∀a∈pre++post,H' a=H a)->Same (cut H F) (cut H' F')->SlotR K H' F' m' o' d' f'->
    StAll K H' F' (M.set i m') (Z.set i d') (σ.set i o') (pre++(f'++post))
 |[],_,_,_,i,m,_,e=>by simp at e
 |m0::M,_,_,_,0,m,h,e=>by
  simp only[StAll]at h;obtain⟨d,Z,o,σ,f,g,rfl,rfl,rfl,h1,h2⟩:=h;have:m0=m:=by simpa using e
  subst this;refine⟨d,o,f,[],g,rfl,rfl,h1,rfl,λH' F' m' d' o' f' k e' s=>?_⟩;show StAll K H' F' (m'::M) (d'::Z) (o'::σ) (f'++g);exact i5 s (h2.frame e' k)
 |m0::M,_,_,_,i+1,m,h,e=>by
  simp only[StAll]at h;obtain⟨d,Z,o,σ,f,g,rfl,rfl,rfl,h1,h2⟩:=h;obtain⟨d1,o1,f1,pre,post,e1,e2,e3,e4,e5⟩:=StAll.at_ (i:=i) h2 (by simpa using e);subst e4;refine⟨d1,o1,f1,f++pre,post,by simpa using e1,by simpa using e2,e3,by rw[aP],λH' F' m' d' o' f' k e' s=>?_⟩;rw[aP];refine i5 (h1.frame e' λa ha=>k a ?_) (e5 H' F' m' d' o' f' (λa ha=>k a ?_) e' s)
  ·rw[aP];exact ak _ ha
  ·rw[aP];exact ah _ ha
end
structure StE (K:ag) (M:List Md) (Z:List D) (σ:L2.St) (H P:Hp) (F:List ax):Prop where
 all:∃G,StAll K H F M Z σ G/\∀a∈G,a∈F
 lst:∀a∈F,∃ys:MuO,H a=cz ys.1
 prot:Same P (cut H F)
structure StR (K:ag) (M:List Md) (Z:List D) (σ:L2.St) (H P:Hp) (F:List ax):Prop where
 all:∃G,StAll K H F M Z σ G/\G.Nodup/\∀a∈G,a∈F
 lst:∀a∈F,∃ys:MuO,H a=cz ys.1
 prot:Same P (cut H F)
section
variable {K:ag}{M:List Md}{Z:List D}{σ:L2.St}{H H' P:Hp}{F:List ax}
def StR.toE(h:StR K M Z σ H P F):StE K M Z σ H P F:=⟨let⟨G,a,_,b⟩:=h.all;⟨G,a,b⟩,h.lst,h.prot⟩
def StE.keep(h:StE K M Z σ H P F)(e:Same H H'):∀a∈F,H' a=H a:=λa ha=>by
 obtain⟨ys,q⟩:=h.lst a ha;rw[q,e _ _ q]
def StE.lst'(h:StE K M Z σ H P F)(e:Same H H'):∀a∈F,∃ys:MuO,H' a=cz ys.1:=λa ha=>by
 obtain⟨ys,q⟩:=h.lst a ha;exact⟨ys,e _ _ q⟩
def a0B(e:Same H H')(hf:∀a∈fp,H a=xn):Same (cut H F) (cut H' (fp++F)):=P3 e λa o ha lE=>by
 rcases ar.mp lE with z|z
 ·rw[hf a z]at ha;cases ha
 ·exact z
def StE.more(h:StE K M Z σ H P F)(e:Same H H')(hf:∀a∈fp,H a=xn)(hl:∀a∈fp,∃ys:MuO,H' a=cz ys.1):StE K M Z σ H' P (fp++F):=by
 obtain⟨G,h1,h3⟩:=h.all;have hc:Same (cut H F) (cut H' (fp++F)):=a0B e hf;refine⟨⟨G,h1.frame hc λa ha=>h.keep e a (h3 a ha),λa ha=>ah _ (h3 a ha)⟩,λa ha=>?_,h.prot.trans hc⟩;rcases ar.mp ha with z|z
 ·exact hl a z
 ·exact h.lst' e a z
def StE.grow(h:StE K M Z σ H P F)(e:Same H H'):StE K M Z σ H' P F:=h.more (fp:=[]) e (λa ha=>(nomatch ha)) λa ha=>(nomatch ha)
theorem StR.more(h:StR K M Z σ H P F)(e:Same H H')(hf:∀a∈fp,H a=xn)(hl:∀a∈fp,∃ys:MuO,H' a=cz ys.1):StR K M Z σ H' P (fp++F):=by
 obtain⟨G,h1,h2,h3⟩:=h.all;have S:=h.toE.more e hf hl;exact⟨⟨G,h1.frame (a0B e hf) λa ha=>h.toE.keep e a (h3 a ha),h2,λa ha=>ah _ (h3 a ha)⟩,S.lst,S.prot⟩
def StR.grow(h:StR K M Z σ H P F)(e:Same H H'):StR K M Z σ H' P F:=h.more (fp:=[]) e (λa ha=>(nomatch ha)) λa ha=>(nomatch ha)
def A9(h:Z[i]?=cz d):Z.getD i x=d:=by rw[ab,h];rfl
def StE.get(h:StE K M Z σ H P F)(hm:M[i]?=cz (.own u)):∃v f,σ[i]?=cz (cz v)/\Own K H F u v (Z.getD i .none) f/\∀a∈f,a∈F:=by
 obtain⟨G,h1,h3⟩:=h.all;obtain⟨d,o,f,pre,post,e1,e2,⟨v,rfl,q⟩,e4,_⟩:=h1.at_ hm;refine⟨v,f,e2,by rw[A9 e1];exact q,λa ha=>h3 a ?_⟩;rw[e4];exact ah _ (ak _ ha)
theorem StAll.pick(h:StAll K H F M Z σ G)(hG:∀a∈G,a∈F):∀js:List Nat,∃G',StAll K H F (js.map λj=>M.getD j .dead) (js.map λj=>Z.getD j .none) (js.map λj=>(σ[j]?).getD xn) G'/\∀a∈G',a∈F
 |[]=>⟨[],L5,λa ha=>(nomatch ha)⟩
 |j::js=>by
  obtain⟨G',q,hq⟩:=StAll.pick h hG js;cases e:M[j]? with
  |none=>
   refine⟨[]++G',?_,λa ha=>hq a (by simpa using ha)⟩;have:M.getD j .dead=.dead:=by rw[ab,e];rfl
   rw[ay,ay,ay,this];exact i5 rfl q
  |some m=>
   obtain⟨d,o,f,pre,post,e1,e2,e3,e4,_⟩:=h.at_ e;refine⟨f++G',?_,λa ha=>?_⟩
   ·rw[ay,ay,ay,show M.getD j .dead=m by rw[ab,e];rfl,A9 e1,e2];exact i5 e3 q
   ·rcases ar.mp ha with z|z
    ·exact hG a (by rw[e4];exact ah _ (ak _ z))
    ·exact hq a z
def P4{pre f post:List ax}(h:(pre++(f++post)).Nodup):(pre++post).Nodup:=
 h.sublist (mB (gy _) (jX _ _))
def mem_mid{pre f post:List ax}{a:ax}(h:a∈pre++post):a∈pre++(f++post):=by
 rcases ar.mp h with h|h
 ·exact ak _ h
 ·exact ah _ (ah _ h)
def X8{pre f post:List ax}(h:(pre++post).Nodup)(hf:f.Nodup)(d:∀a∈f,a∉pre++post):(pre++(f++post)).Nodup:=by
 rw[bC]at h ⊢;obtain⟨h1,h2,h3⟩:=h;refine⟨h1,?_,λa ha b hb=>?_⟩
 ·rw[bC];exact⟨hf,h2,λa ha b hb e=>d a ha (e▸ah _ hb)⟩
 ·rcases ar.mp hb with z|z
  ·intro e;exact d b z (e▸ak _ ha)
  ·exact h3 a ha b z
def a2A{pre f post:List ax}{a:ax}(h:a∈pre++(f++post)):a∈f∨a∈pre++post:=by
 rcases ar.mp h with h|h
 ·exact .inr (ak _ h)
 ·rcases ar.mp h with h|h
  ·exact .inl h
  ·exact .inr (ah _ h)
def a1g{pre f post:List ax}(h:(pre++(f++post)).Nodup):∀a∈f,a∉pre++post:=λa ha z=>by
 rw[bC,bC]at h;rcases ar.mp z with z|z
 ·exact h.2.2 a z a (ak _ ha) rfl
 ·exact h.2.1.2.2 a ha a z rfl
theorem StR.set{H1:Hp}{i:Nat}{m:Md}{u:Ty}{v:V}{d:D}{fp:List ax}(h:StR K M Z σ H P F)(hm:M[i]?=cz m)(e:Same H H1)(hv:Own K H1 (fp++F) u v d fp)(hn:fp.Nodup)(hf:∀a∈fp,H a=xn) :
  StR K (M.set i (.own u)) (Z.set i d) (σ.set i (cz v)) H1 P (fp++F):=by
 obtain⟨G,h1,h2,h3⟩:=h.all;have S:=h.more e hf (hv.lst u);obtain⟨d0,o,f,pre,post,e1,e2,e3,e4,e5⟩:=h1.at_ hm;have nr:=h2;rw[e4]at nr;have hG:∀a∈pre++post,a∈F:=λa ha=>h3 a (by rw[e4];exact mem_mid ha)
 have hc:Same (cut H F) (cut H1 (fp++F)):=P3 e λa o ha lE=>by
  rcases ar.mp lE with z|z
  ·rw[hf a z]at ha;cases ha
  ·exact z
 refine⟨⟨pre++(fp++post),e5 H1 _ (.own u) d (cz v) fp (λa ha=>h.toE.keep e a (hG a ha)) hc ⟨v,rfl,hv⟩,X8 (P4 nr) hn λa ha z=>?_,λa ha=>?_⟩,S.lst,S.prot⟩
 ·obtain⟨ys,q⟩:=h.lst a (hG a z);rw[hf a ha]at q;cases q
 ·rcases a2A ha with z|z
  ·exact ak _ z
  ·exact ah _ (hG a z)
def StR.kill{i:Nat}{m:Md}(h:StR K M Z σ H P F)(hm:M[i]?=cz m)(d:D)(o:Option V):StR K (M.set i .dead) (Z.set i d) (σ.set i o) H P F:=by
 obtain⟨G,h1,h2,h3⟩:=h.all;obtain⟨d0,o0,f,pre,post,e1,e2,e3,e4,e5⟩:=h1.at_ hm;rw[e4]at h2;exact⟨⟨pre++([]++post),e5 H F .dead d o [] (λ_ _=>rfl) (Same.refl _) rfl,P4 h2,λa ha=>h3 a (by rw[e4];exact mem_mid ha)⟩,h.lst,h.prot⟩
def set_same{α:Type}{l:List α}{i:Nat}{x:α}(h:l[i]?=cz x):l.set i x=l:=kj λj=>by
 rw[List.getElem?_set]
 split
 ·next hj=>
  subst hj
  split
  ·exact h.symm
  ·next hh=>exact (lH (by lia)).symm
 ·rfl
theorem StR.dead{i:Nat}{m:Md}(h:StR K M Z σ H P F)(hm:M[i]?=cz m):StR K (M.set i .dead) Z σ H P F:=by
 obtain⟨G,h1,_⟩:=h.all;obtain⟨d0,o0,f,pre,post,e1,e2,_⟩:=h1.at_ hm;have:=h.kill hm d0 o0
 rwa[set_same e1,set_same e2]at this
def Own.freeze(h:Own K H F u v d fp)(hs:∀a∈F',a∈F)(hd:∀a∈fp,a∉F'):Own K H F' .f v d []:=by
 have key:∀(u:Ty) {v:V} {d:D} {fp:List ax},Own K H F u v d fp->(∀a∈fp,a∉F')->Den K (cut H F') v d:=by
  intro u;refine Ty.rec (motive_1:=λu=>∀{v:V} {d:D} {fp:List ax},Own K H F u v d fp->(∀a∈fp,a∉F')->Den K (cut H F') v d)
   (motive_2:=λus=>∀{xs:List V} {ds:List D} {fp:List ax},OwnTs K H F us xs ds fp->(∀a∈fp,a∉F')->DenAll K (cut H F') xs ds) ?_ ?_ ?_ ?_ ?_ ?_ ?_ u
  ·intro v d fp h _;simp only[Own]at h;exact h.2.2.up (D8 hs)
  ·intro v d fp h _;simp only[Own]at h;exact h.2.up (D8 hs)
  ·intro u ih v d fp h hd;simp only[Own]at h;rcases h with⟨_,_,h⟩|⟨a,xs,ds,fs,rfl,h1,rfl,rfl,h2⟩
   ·exact h.up (D8 hs)
   ·refine den_list (.inl (.inl (i4 (hd a aL) h1))) (ListAll.den (R:=λv d f=>Own K H F u v d f/\∀a∈f,a∉F') (λv d f q=>ih q.1 q.2) (h2.imp λv d f hf _ q=>⟨q,λb hb=>hd b (aw _ (hf b hb))⟩))
  ·intro us ih v d fp h hd;simp only[Own]at h;obtain⟨a,xs,ds,rfl,h1,h0,rfl,h2⟩:=h;exact den_tup (SqT.of (i4 (λz=>h0 (hs a z)) h1)) (ih h2 hd)
  ·intro kt u ih v d fp h hd;simp only[Own]at h;obtain⟨a,es,ds,fs,rfl,h1,rfl,rfl,h3,h2⟩:=h;exact a4z (i4 (hd a aL) h1) (λe he=>(h3.2 e he).2.up (D8 hs)) (ListAll.den (R:=λv d f=>Own K H F u v d f/\∀a∈f,a∉F') (λv d f q=>ih q.1 q.2) (h2.imp λv d f hf _ q=>⟨q,λb hb=>hd b (aw _ (hf b hb))⟩))
  ·intro xs ds fp h _;simp only[OwnTs]at h;obtain⟨rfl,rfl,_⟩:=h;exact denAll_nil
  ·intro u us yd yc xs ds fp h hd;simp only[OwnTs]at h;obtain⟨v,r,d,e,f,g,rfl,rfl,rfl,h1,h2⟩:=h;exact denAll_cons (yd h1 λa ha=>hd a (ak _ ha)) (yc h2 λa ha=>hd a (ah _ ha))
 simp only[Own];exact⟨trivial,key u h hd⟩
theorem StR.freeze{i:Nat}{u:Ty}(h:StR K M Z σ H P F)(hm:M[i]?=cz (.own u)):∃F',StR K (M.set i (.own .f)) Z σ H P F':=by
 obtain⟨G,h1,h2,h3⟩:=h.all;obtain⟨d,o,f,pre,post,e1,e2,⟨v,rfl,e3⟩,e4,e5⟩:=h1.at_ hm;rw[e4]at h2;have mo:∀a∈F.filter (λa=>decide (a∉f)),a∈F:=λa ha=>(eF.mp ha).1
 have yF:∀a∈f,a∉F.filter (λa=>decide (a∉f)):=λa ha z=>absurd ha (bB (eF.mp z).2)
 have hc:Same (cut H F) (cut H (F.filter (λa=>decide (a∉f)))):=D8 mo;have q:=e5 H _ (.own .f) d (cz v) [] (λ_ _=>rfl) hc ⟨v,rfl,e3.freeze mo yF⟩;rw[set_same e1,set_same e2]at q;refine⟨_,⟨_,q,P4 h2,λa ha=>eF.mpr ⟨h3 a (by rw[e4];exact mem_mid ha),aY λz=>a1g h2 a z ha⟩⟩,λa ha=>h.lst a (mo a ha),h.prot.trans hc⟩
end
inductive Cat where
 |new (u:Ty)|bor (u:Ty)|tmp
def ResR(K:ag)(c:Cat)(H H':Hp)(F:List ax)(v:V)(d:D):Prop:=
 match c with
 |.new u=>∃fp,Own K H' (fp++F) u v d fp/\fp.Nodup/\∀a∈fp,H a=xn
 |.bor u=>∃fp,Own K H' F u v d fp/\∀a∈fp,a∈F
 |.tmp=>Den K H' v d
section
variable {K:ag}{c:Cat}{H H0 H' H1 H2:Hp}{F:List ax}{v:V}{d:D}
theorem ResR.den(r:ResR K c H H' F v d):Den K H' v d:=by
 cases c with
 |new u=>obtain⟨fp,h,_⟩:=r;exact h.den u
 |bor u=>obtain⟨fp,h,_⟩:=r;exact h.den u
 |tmp=>exact r
def Own.grow(h:Own K H1 F u v d fp)(e:Same H1 H2):Own K H2 F u v d fp:=
 h.frame (G9 e) u λa ha=>by obtain⟨ys,q⟩:=h.lst u a ha;rw[q,e _ _ q]
theorem ResR.up(r:ResR K c H H1 F v d)(e:Same H1 H2):ResR K c H H2 F v d:=by
 cases c with
 |new u=>obtain⟨fp,h,q⟩:=r;exact⟨fp,h.grow e,q⟩
 |bor u=>obtain⟨fp,h,q⟩:=r;exact⟨fp,h.grow e,q⟩
 |tmp=>exact Den.up r e
def ResR.early(r:ResR K c H H1 F v d)(e:Same H0 H):ResR K c H0 H1 F v d:=by
 cases c with
 |new u=>obtain⟨fp,h,n,q⟩:=r;exact⟨fp,h,n,λa ha=>e.free (q a ha)⟩
 |bor u=>exact r
 |tmp=>exact r
def N4(hi:imm d=true)(hd:Den K H' v d)(hF:∀a∈F,∃ys:MuO,H' a=cz ys.1):ResR K (.new .i) H H' F v d:=by
 refine⟨[],?_,bI,λa ha=>(nomatch ha)⟩;simp only[Own,bK];exact⟨trivial,hi,hd.imm_out hF d hi⟩
def a1O(h:Own K H F .i v d fp):fp=[]/\imm d=true/\Den K (cut H F) v d:=by simpa only [Own]using h
def a9o(h:Own K H F .f v d fp):fp=[]/\Den K (cut H F) v d:=by simpa only [Own]using h
end
abbrev EvE:=List D->Option D
abbrev EvT:=List D->Option Bool
noncomputable def spE(K:ag)(M:List Md)(f:EvE)(c:Cat):TE:=λσ H Q=>∃(Z:List D) (P:Hp) (F:List ax) (d:D),StE K M Z σ H P F/\f Z=cz d/\∀v H',Same H H'->ResR K c H H' F v d->Q v H'
noncomputable def PX(X:Cx)(M:List Md)(e:Expr)(f:EvE)(c:Cat):Prop:=PE X e (spE X.K M f c)
def PX.out{X:Cx}{M:List Md}{e:Expr}{f:EvE}{c:Cat}(h:PX X M e f c) :
  ∃t,PE X e t/\∀(Z:List D) (σ:L2.St) (H P:Hp) (F:List ax) (d:D) (Q:VK),StE X.K M Z σ H P F->f Z=cz d->(∀v H',Same H H'->ResR X.K c H H' F v d->Q v H')->t σ H Q:=
 ⟨_,h,λZ _ _ P F d _ S hf q=>⟨Z,P,F,d,S,hf,q⟩⟩
def PX.mk{X:Cx}{M:List Md}{e:Expr}{f:EvE}{c:Cat}
  (h:∃t,PE X e t/\∀(Z:List D) (σ:L2.St) (H P:Hp) (F:List ax) (d:D) (Q:VK),StE X.K M Z σ H P F->f Z=cz d->(∀v H',Same H H'->ResR X.K c H H' F v d->Q v H')->t σ H Q):PX X M e f c:=by
 obtain⟨t,p,q⟩:=h;exact λpins s σ H Q I ⟨Z,P,F,d,S,hf,z⟩=>p pins s σ H Q I (q Z σ H P F d Q S hf z)
noncomputable def spT(K:ag)(M:List Md)(g:EvT):TT:=λσ H Q=>∃(Z:List D) (P:Hp) (F:List ax) (b:Bool),StE K M Z σ H P F/\g Z=cz b/\∀H',Same H H'->Q b H'
noncomputable def PTX(X:Cx)(M:List Md)(e:Expr)(g:EvT):Prop:=PT X e (spT X.K M g)
def PTX.out{X:Cx}{M:List Md}{e:Expr}{g:EvT}(h:PTX X M e g) :
  ∃t,PT X e t/\∀(Z:List D) (σ:L2.St) (H P:Hp) (F:List ax) (b:Bool) (Q:Bool->Hp->Prop),StE X.K M Z σ H P F->g Z=cz b->(∀H',Same H H'->Q b H')->t σ H Q:=
 ⟨_,h,λZ _ _ P F b _ S hf q=>⟨Z,P,F,b,S,hf,q⟩⟩
def PTX.mk{X:Cx}{M:List Md}{e:Expr}{g:EvT}
  (h:∃t,PT X e t/\∀(Z:List D) (σ:L2.St) (H P:Hp) (F:List ax) (b:Bool) (Q:Bool->Hp->Prop),StE X.K M Z σ H P F->g Z=cz b->(∀H',Same H H'->Q b H')->t σ H Q):PTX X M e g:=by
 obtain⟨t,p,q⟩:=h;exact λpins s σ H Q I ⟨Z,P,F,d,S,hf,z⟩=>p pins s σ H Q I (q Z σ H P F d Q S hf z)
noncomputable def PWX(X:Cx)(M:List Md)(e:Expr)(g:EvT):Prop:=PW X e (spT X.K M g)
def PWX.out{X:Cx}{M:List Md}{e:Expr}{g:EvT}(h:PWX X M e g) :
  ∃t,PW X e t/\∀(Z:List D) (σ:L2.St) (H P:Hp) (F:List ax) (b:Bool) (Q:Bool->Hp->Prop),StE X.K M Z σ H P F->g Z=cz b->(∀H',Same H H'->Q b H')->t σ H Q:=
 ⟨_,h,λZ _ _ P F b _ S hf q=>⟨Z,P,F,b,S,hf,q⟩⟩
def PWX.mk{X:Cx}{M:List Md}{e:Expr}{g:EvT}
  (h:∃t,PW X e t/\∀(Z:List D) (σ:L2.St) (H P:Hp) (F:List ax) (b:Bool) (Q:Bool->Hp->Prop),StE X.K M Z σ H P F->g Z=cz b->(∀H',Same H H'->Q b H')->t σ H Q):PWX X M e g:=by
 obtain⟨t,p,q⟩:=h;exact λwhole pins s σ H Q I ⟨Z,P,F,d,S,hf,z⟩=>p whole pins s σ H Q I (q Z σ H P F d Q S hf z)
abbrev EvA:=List D->Option (List D)
noncomputable def PAX(X:Cx)(M:List Md)(es:List Expr)(f:EvA):Prop:=
 ∃t,PA X es t/\∀(Z:List D) (σ:L2.St) (H P:Hp) (F:List ax) (ds:List D) (Q:List V->Hp->Prop),StE X.K M Z σ H P F->f Z=cz ds->(∀vs H',Same H H'->DenAll X.K H' vs ds->Q vs H')->t σ H Q
noncomputable def PAN(X:Cx)(M:List Md)(es:List Expr)(f:EvA)(us:List Ty):Prop:=
 ∃t,PA X es t/\∀(Z:List D) (σ:L2.St) (H P:Hp) (F:List ax) (ds:List D) (Q:List V->Hp->Prop),StE X.K M Z σ H P F->f Z=cz ds->
  (∀vs H' fp,Same H H'->OwnTs X.K H' (fp++F) us vs ds fp->fp.Nodup->(∀a∈fp,H a=xn)->Q vs H')->t σ H Q
noncomputable def a6(i:Nat):EvE:=λZ=>cz (Z.getD i .none)
noncomputable def eC(d:D):EvE:=λ_=>cz d
noncomputable def e1(g:D->Option D)(a:EvE):EvE:=λZ=>(a Z).bind g
noncomputable def e2(g:D->D->Option D)(a b:EvE):EvE:=λZ=>(a Z).bind λx=>(b Z).bind λy=>g x y
def asB:D->Option Bool
 |.bool b=>cz b
 |_=>xn
noncomputable def b5H(a b:EvE):EvE:=λZ=>(a Z).bind λx=>(asB x).bind λk=>if k then b Z else cz (.bool false)
noncomputable def eOr(a b:EvE):EvE:=λZ=>(a Z).bind λx=>(asB x).bind λk=>if k then cz (.bool true) else b Z
noncomputable def b5I(a:EvE):EvE:=λZ=>(a Z).bind λx=>(asB x).bind λk=>cz (.bool !k)
noncomputable def eIf(c:EvT)(a b:EvE):EvE:=λZ=>(c Z).bind λk=>if k then a Z else b Z
noncomputable def eCh(g g':D->D->Option D)(a b c:EvE):EvE:=λZ=>(a Z).bind λx=>(b Z).bind λy=>(g x y).bind λz=>(asB z).bind λk=>if k then (c Z).bind λw=>g' y w else cz (.bool false)
def tr:D->Option Bool
 |.none=>cz false
 |.bool b=>cz b
 |.int i=>cz (i !=0)
 |.str x=>if x.length<=a_ then cz ((x.length:Int)!=0) else xn
 |.list ds=>cz !ds.isEmpty
 |.tuple ds=>cz !ds.isEmpty
 |.dict _=>xn
noncomputable def tV(a:EvE):EvT:=λZ=>(a Z).bind tr
noncomputable def tB(a:EvE):EvT:=λZ=>(a Z).bind asB
noncomputable def tNo(a:EvT):EvT:=λZ=>(a Z).bind λk=>cz !k
noncomputable def tAn(a b:EvT):EvT:=λZ=>(a Z).bind λk=>if k then b Z else cz false
noncomputable def a0C(a b:EvT):EvT:=λZ=>(a Z).bind λk=>if k then cz true else b Z
def b8:List D->Option (List D):=λ_=>cz []
noncomputable def a7(a:EvE)(r:List D->Option (List D)):List D->Option (List D):=λZ=>(a Z).bind λx=>(r Z).bind λxs=>cz (x::xs)
def P5(h:asB d=cz k):d=.bool k:=by
 cases d with
 |bool b=>cases h;rfl
 |_=>cases h
def bnd{α β:Type}{o:Option α}{f:α->Option β}{b:β}(h:o.bind f=cz b):∃a,o=cz a/\f a=cz b:=Option.bind_eq_some_iff.mp h
section
variable {X:Cx}{M:List Md}{a b e e':Expr}{es rest:List Expr}{f g fa fb fc:EvE}{ga gb:EvT}{c ca cb cc:Cat}{u:Ty}{us:List Ty}{pos:fT}
def PX.imp(h:PX X M e f c)(k:∀(K:ag) (H H':Hp) (F:List ax) (v:V) (d:D),(∀a∈F,∃ys:MuO,H a=cz ys.1)->Same H H'->ResR K c H H' F v d->ResR K c' H H' F v d):PX X M e f c':=by
 obtain⟨t,p,q⟩:=h.out;exact .mk ⟨t,p,λZ σ H P F d Q S hf z=>q Z σ H P F d Q S hf λv H' e r=>z v H' e (k _ _ _ _ _ _ S.lst e r)⟩
def PX.newf(h:PX X M e f (.bor .f)):PX X M e f (.new .f):=h.imp λK H H' F v d _ _ ⟨fp,o,_⟩=>by
 obtain⟨rfl,_⟩:=a9o o;exact⟨[],o,bI,λa ha=>(nomatch ha)⟩
def PX.newi(h:PX X M e f (.bor .i)):PX X M e f (.new .i):=h.imp λK H H' F v d _ _ ⟨fp,o,_⟩=>by
 obtain⟨rfl,_⟩:=a1O o;exact⟨[],o,bI,λa ha=>(nomatch ha)⟩
def PX.itol(h:PX X M e f (.new .i)):PX X M e f (.new (.l u)):=h.imp λK H H' F v d _ _ ⟨fp,o,n,z⟩=>by
 obtain⟨rfl,w,q⟩:=a1O o;refine⟨[],?_,n,z⟩;simp only[Own];exact .inl ⟨trivial,w,q⟩
def PX.frz(h:PX X M e f (.new u)):PX X M e f (.new .f):=h.imp λK H H' F v d hF _ ⟨fp,o,n,z⟩=>by
 refine⟨[],o.freeze (λa ha=>ah _ (by simpa using ha)) (λa ha uA=>?_),bI,λa ha=>(nomatch ha)⟩;obtain⟨ys,q⟩:=hF a (by simpa using uA);rw[z a ha]at q;cases q
def z0(i:Nat)(hN:X.N[i]?=cz x:=by rfl)(hv:Vis X.env.scope x:=by first|exact bO rfl|exact bN (bO rfl)|exact bN (bN rfl))(hd:(x==("__debug__":bG))=false:=by decide)
  (iE:(x==("__classdict__":bG))=false:=by decide) (hm:M[i]?=cz (.own u):=by rfl):PX X M (.Name x pos) (a6 i) (.bor u):=by
 refine .mk ⟨_,A0 hN hv hd iE,λZ σ H P F d Q S hf q=>?_⟩;cases hf
 obtain⟨v,fp,e,o,sub⟩:=S.get hm;exact⟨v,e,q v H (Same.refl _) ⟨fp,o,sub⟩⟩
def a0D(h:PE X e (tC v))(hi:imm d=true)(hd:∀H,Den X.K H v d):PX X M e (eC d) (.new .i):=by
 refine .mk ⟨_,h,λZ σ H P F d' Q S hf q=>?_⟩;cases hf
 exact q v H (Same.refl _) (N4 hi (hd H) S.lst)
def c7{i j}:PX X M (.Constant (.int i) j pos) (eC (.int i)) (.new .i):=a0D a7I (by simp only[imm]) λ_=>den_int
def a4A{k j}:PX X M (.Constant (.bool k) j pos) (eC (.bool k)) (.new .i):=a0D c0i (by simp only[imm]) λ_=>den_bool
def b2B{j}:PX X M (.Constant .none j pos) (eC .none) (.new .i):=a0D b7R (by simp only[imm]) λ_=>den_none
def a9p(hm:∃t,X.mg x=cz (.int i t))(hg:Gl X x:=by rfl)(hd:(x==("__debug__":bG))=false:=by decide):PX X M (.Name x pos) (eC (.int i)) (.new .i):=by
 obtain⟨t,hm⟩:=hm;exact a0D (a9g (v:=.int i) hg hm ⟨_,rfl⟩ hd) (by simp only[imm]) λ_=>den_int
def D9{g:D->D->Option D}{Z:List D}{d:D}(h:e2 g fa fb Z=cz d):∃x y,fa Z=cz x/\fb Z=cz y/\g x y=cz d:=by
 obtain⟨x,h1,h⟩:=bnd h;obtain⟨y,h2,h⟩:=bnd h;exact⟨x,y,h1,h2,h⟩
def i7{g:D->D->Option D}(ho:OpS X (gd op) g)(ha:PX X M a fa ca)(hb:PX X M b fb cb):PX X M (.BinOp a op b pos) (e2 g fa fb) (.new .i):=by
 obtain⟨r,hr,hs⟩:=ho;obtain⟨ta,pa,qa⟩:=ha.out;obtain⟨tb,pb,qb⟩:=hb.out;refine .mk ⟨_,b7w hr pa pb,λZ σ H P F d Q S hf q=>?_⟩;obtain⟨x,y,h1,h2,h3⟩:=D9 hf;exact qa Z σ H P F x _ S h1 λv H1 e1 r1=>qb Z σ H1 P F y _ (S.grow e1) h2 λw H2 e2 r2=>hs v w H2 x y d Q (r1.den.up e2) r2.den h3 λz hi hd=>q z H2 (e1.trans e2) (N4 hi (hd H2) (S.lst' (e1.trans e2)))
def b8z{g:D->D->Option D}(ho:OpS X (dh op) g)(ha:PX X M a fa ca)(hb:PX X M b fb cb)(hm:il op b=false:=by first|exact a7L _|with_unfolding_all rfl):PX X M (.Compare a [op] [b] pos) (e2 g fa fb) (.new .i):=by
 obtain⟨r,hr,hs⟩:=ho;obtain⟨ta,pa,qa⟩:=ha.out;obtain⟨tb,pb,qb⟩:=hb.out;refine .mk ⟨_,b5q hr pa pb hm,λZ σ H P F d Q S hf q=>?_⟩;obtain⟨x,y,h1,h2,h3⟩:=D9 hf;exact qa Z σ H P F x _ S h1 λv H1 e1 r1=>qb Z σ H1 P F y _ (S.grow e1) h2 λw H2 e2 r2=>hs v w H2 x y d Q (r1.den.up e2) r2.den h3 λz hi hd=>q z H2 (e1.trans e2) (N4 hi (hd H2) (S.lst' (e1.trans e2)))
def z8{op:CmpOp}{g:D->D->Option D}(ho:OpS X (dh op) g)(ha:PX X M a fa ca)(hb:PX X M b fb cb)(hm:il op b=false:=by first|exact a7L _|with_unfolding_all rfl):PTX X M (.Compare a [op] [b] pos) (tB (e2 g fa fb)):=by
 obtain⟨r,hr,hs⟩:=ho;obtain⟨ta,pa,qa⟩:=ha.out;obtain⟨tb,pb,qb⟩:=hb.out;refine .mk ⟨_,a9i hr pa pb hm,λZ σ H P F k Q S hf q=>?_⟩;obtain⟨d,hf,hk⟩:=bnd hf;cases P5 hk
 obtain⟨x,y,h1,h2,h3⟩:=D9 hf;exact qa Z σ H P F x _ S h1 λv H1 e1 r1=>qb Z σ H1 P F y _ (S.grow e1) h2 λw H2 e2 r2=>hs v w H2 x y _ _ (r1.den.up e2) r2.den h3 λz hi hd=>⟨k,(hd H2).bool_inv,q H2 (e1.trans e2)⟩
def b0I{op tU:CmpOp}{g g':D->D->Option D}{c0:Expr}(ho:OpS X (dh op) g)(oW:OpS X (dh tU) g')(ha:PX X M a fa ca)(hb:PX X M b fb cb)(hc:PX X M c0 fc cc)(hm:lastMarks [op,tU] [b,c0]=false:=by with_unfolding_all rfl) :
  PTX X M (.Compare a [op,tU] [b,c0] pos) (tB (eCh g g' fa fb fc)):=by
 obtain⟨r,hr,hs⟩:=ho;obtain⟨r',uh,jf⟩:=oW;obtain⟨ta,pa,qa⟩:=ha.out;obtain⟨tb,pb,qb⟩:=hb.out;obtain⟨tc,pc,qc⟩:=hc.out;refine .mk ⟨_,b2n hr uh pa pb pc hm,λZ σ H P F k0 Q S hf q=>?_⟩;obtain⟨d,hf,hk⟩:=bnd hf;cases P5 hk
 obtain⟨x,h1,hf⟩:=bnd hf;obtain⟨y,h2,hf⟩:=bnd hf;obtain⟨z,h3,hf⟩:=bnd hf;obtain⟨k,h4,hf⟩:=bnd hf;cases P5 h4
 refine qa Z σ H P F x _ S h1 λv H1 e1 r1=>qb Z σ H1 P F y _ (S.grow e1) h2 λw H2 e2 r2=>hs v w H2 x y _ _ (r1.den.up e2) r2.den h3 λz hi hd=>⟨k,(hd H2).bool_inv,?_⟩
 cases k with
 |false=>
  have qf:k0=false:=by injection (aE hf).symm
  subst qf;exact a6t ⟨false,rfl,q H2 (e1.trans e2)⟩
 |true=>
  obtain⟨w',h5,hf⟩:=bnd (show (fc Z).bind (λw=>g' y w)=cz (.bool k0) from hf);exact a5r (qc Z σ H2 P F w' _ (S.grow (e1.trans e2)) h5 λw3 H3 e3 r3=>jf w w3 H3 y w' _ _ (r2.den.up e3) r3.den hf λz hi hd=>⟨k0,(hd H3).bool_inv,q H3 ((e1.trans e2).trans e3)⟩)
def b2C(h:PX X M a f c):PX X M (.BoolOp op [a] pos) f c:=by
 obtain⟨t,p,q⟩:=h.out;exact .mk ⟨t,b7V p,q⟩
def b8A(ha:PX X M a fa ca)(hb:PX X M (.BoolOp .And (b::rest) pos) fb (.new .i)):PX X M (.BoolOp .And (a::b::rest) pos) (b5H fa fb) (.new .i):=by
 obtain⟨ta,pa,qa⟩:=ha.out;obtain⟨tb,pb,qb⟩:=hb.out;refine .mk ⟨_,b7W pa pb,λZ σ H P F d Q S hf q=>?_⟩;obtain⟨x,h1,hf⟩:=bnd hf;obtain⟨k,h2,hf⟩:=bnd hf;cases P5 h2
 refine qa Z σ H P F _ _ S h1 λv H1 e1 r1=>⟨k,r1.den.bool_inv,?_⟩
 cases k with
 |false=>
  have qf:d=.bool false:=(aE hf).symm;subst qf;exact a6t (q _ H1 e1 (N4 (by simp only[imm]) den_bool (S.lst' e1)))
 |true=>exact a5r (qb Z σ H1 P F d Q (S.grow e1) hf λw H2 e2 r2=>q w H2 (e1.trans e2) (r2.early e1))
def b8B(ha:PX X M a fa ca):PX X M (.UnaryOp .Not a pos) (b5I fa) (.new .i):=by
 obtain⟨ta,pa,qa⟩:=ha.out;refine .mk ⟨_,b7X pa,λZ σ H P F d Q S hf q=>?_⟩;obtain⟨x,h1,hf⟩:=bnd hf;obtain⟨k,h2,hf⟩:=bnd hf;cases P5 h2
 cases hf
 exact qa Z σ H P F _ _ S h1 λv H1 e1 r1=>⟨k,r1.den.bool_inv,q _ H1 e1 (N4 (by simp only[imm]) den_bool (S.lst' e1))⟩
def a7V:PX X M (.UnaryOp .USub (.Constant (.int i) j p) pos) (eC (.int (-i))) (.new .i):=by
 refine .mk ⟨_,c0t b8n a7I,λZ σ H P F d Q S hf q=>?_⟩;cases hf
 exact⟨i,rfl,q _ H (Same.refl _) (N4 (by simp only[imm]) den_int S.lst)⟩
def b2D(h:Den K H v d)(ht:tr d=cz k):b5r K v H k:=by
 cases d with
 |none=>cases h.none_inv;cases ht;exact rfl
 |bool b=>cases h.bool_inv;cases ht;exact rfl
 |int i=>cases h.int_inv;cases ht;exact rfl
 |str x=>
  cases h.str_inv
  replace ht:(if x.length<=a_ then cz ((x.length:Int)!=0) else xn)=cz k:=ht
  by_cases z:x.length<=a_
  ·rw[aD z]at ht;cases ht
   exact⟨z,rfl⟩
  ·rw[aM z]at ht;cases ht
 |list ds=>
  obtain⟨a,xs,rfl,h1,h2⟩:=h.list_inv;cases ht
  refine .inl ⟨xs,h1.l,?_⟩;have:=h2.length;cases xs<;>cases ds<;>simp_all
 |tuple ds=>
  obtain⟨a,xs,rfl,h1,h2⟩:=h.tup_inv;cases ht
  refine .inr (.inl ⟨xs,h1,?_⟩);have:=h2.length;cases xs<;>cases ds<;>simp_all
 |dict kvs=>cases ht
def X9(ha:PX X M a fa ca)(he:∀whole,Cq a X.env whole=(do let v <-whole;BV a.pos;nO [v] (truthy v)):=by intro _;rfl):PTX X M a (tV fa):=by
 obtain⟨ta,pa,qa⟩:=ha.out;refine .mk ⟨_,b2p pa he,λZ σ H P F k Q S hf q=>?_⟩;obtain⟨x,h1,hf⟩:=bnd hf;exact qa Z σ H P F _ _ S h1 λv H1 e1 r1=>⟨k,b2D r1.den hf,q H1 e1⟩
def Y0(h:PTX X M a ga):PTX X M (.UnaryOp .Not a pos) (tNo ga):=by
 obtain⟨ta,pa,qa⟩:=h.out;refine .mk ⟨_,b7U pa,λZ σ H P F k Q S hf q=>?_⟩;obtain⟨x,h1,hf⟩:=bnd hf;cases hf
 exact qa Z σ H P F _ _ S h1 λH1 e1=>q H1 e1
theorem PWX.pt(h:PWX X M e ga):PTX X M e ga:=by
 obtain⟨t,p,q⟩:=h.out;exact .mk ⟨t,p.pt,q⟩
def b2E(h:PTX X M a ga):PWX X M (.BoolOp .And [a] pos) ga:=by
 obtain⟨t,p,q⟩:=h.out;exact .mk ⟨t,b5k p,q⟩
def a5x(h:PTX X M a ga):PWX X M (.BoolOp .Or [a] pos) ga:=by
 obtain⟨t,p,q⟩:=h.out;exact .mk ⟨t,b7S p,q⟩
def b5J(ha:PTX X M a ga)(hb:PWX X M (.BoolOp .And (b::rest) pos) gb):PWX X M (.BoolOp .And (a::b::rest) pos) (tAn ga gb):=by
 obtain⟨ta,pa,qa⟩:=ha.out;obtain⟨tb,pb,qb⟩:=hb.out;refine .mk ⟨_,b7T pa pb,λZ σ H P F k Q S hf q=>?_⟩;obtain⟨x,h1,hf⟩:=bnd hf;refine qa Z σ H P F _ _ S h1 λH1 e1=>?_
 cases x with
 |false=>cases hf;exact a6t (q H1 e1)
 |true=>exact a5r (qb Z σ H1 P F k Q (S.grow e1) hf λH2 e2=>q H2 (e1.trans e2))
def a2U(ha:PTX X M a ga)(hb:PWX X M (.BoolOp .Or (b::rest) pos) gb):PWX X M (.BoolOp .Or (a::b::rest) pos) (a0C ga gb):=by
 obtain⟨ta,pa,qa⟩:=ha.out;obtain⟨tb,pb,qb⟩:=hb.out;refine .mk ⟨_,c0j pa pb,λZ σ H P F k Q S hf q=>?_⟩;obtain⟨x,h1,hf⟩:=bnd hf;refine qa Z σ H P F _ _ S h1 λH1 e1=>?_
 cases x with
 |true=>cases hf;exact a5r (q H1 e1)
 |false=>exact a6t (qb Z σ H1 P F k Q (S.grow e1) hf λH2 e2=>q H2 (e1.trans e2))
def f8:PAX X M [] b8:=⟨_,o7,λZ σ H P F ds Q S hf q=>by cases hf;exact q [] H (Same.refl _) denAll_nil⟩
def a8{fr:List D->Option (List D)}(ha:PX X M a fa ca)(hr:PAX X M es fr)(hs:au (a::es) X.env=(false,cC a X.env)::au es X.env:=by rfl):PAX X M (a::es) (a7 fa fr):=by
 obtain⟨ta,pa,qa⟩:=ha.out;obtain⟨tr,pr,qr⟩:=hr;refine⟨_,j8 pa pr hs,λZ σ H P F ds Q S hf q=>?_⟩;obtain⟨x,h1,hf⟩:=bnd hf;obtain⟨xs,h2,hf⟩:=bnd hf;cases hf
 exact qa Z σ H P F _ _ S h1 λv H1 e1 r1=>qr Z σ H1 P F _ _ (S.grow e1) h2 λvs H2 e2 r2=>q (v::vs) H2 (e1.trans e2) (denAll_cons (r1.den.up e2) r2)
def k7:PAN X M [] b8 []:=⟨_,o7,λZ σ H P F ds Q S hf q=>by
 cases hf
 refine q [] H [] (Same.refl _) ?_ bI λa ha=>(nomatch ha)
 simp only[OwnTs];exact⟨trivial,trivial,trivial⟩⟩
def k8{fr:List D->Option (List D)}(ha:PX X M a fa (.new u))(hr:PAN X M es fr us)(hs:au (a::es) X.env=(false,cC a X.env)::au es X.env:=by rfl):PAN X M (a::es) (a7 fa fr) (u::us):=by
 obtain⟨ta,pa,qa⟩:=ha.out;obtain⟨tr,pr,qr⟩:=hr;refine⟨_,j8 pa pr hs,λZ σ H P F ds Q S hf q=>?_⟩;obtain⟨x,h1,hf⟩:=bnd hf;obtain⟨xs,h2,hf⟩:=bnd hf;cases hf
 refine qa Z σ H P F _ _ S h1 λv H1 e1 ⟨fp,o,n,fr⟩=>qr Z σ H1 P (fp++F) _ _ (S.more e1 fr (o.lst u)) h2 λvs H2 gp e2 o2 n2 zI=>?_
 have hl:=o.lst u;have hc:Same (cut H1 (fp++F)) (cut H2 (fp++gp++F)):=P3 e2 λa o' ha lE=>by
  rw[aP]at lE;rcases ar.mp lE with z|z
  ·exact ak _ z
  ·rcases ar.mp z with z|z
   ·rw[zI a z]at ha;cases ha
   ·exact ah _ z
 have hd:∀a∈gp,a∉fp:=λa ha z=>by
  obtain⟨ys,q⟩:=hl a z;rw[zI a ha]at q;cases q
 refine q (v::vs) H2 (fp++gp) (e1.trans e2) ?_ ?_ λa ha=>?_
 ·simp only[OwnTs];refine⟨v,vs,x,xs,fp,gp,rfl,rfl,rfl,o.frame hc u λa ha=>?_,o2.frame (H:=H2) (D8 λa ha=>?_) us λ_ _=>rfl⟩
  ·obtain⟨ys,q⟩:=hl a ha;rw[q,e2 _ _ q]
  ·simp only[ar]at ha ⊢;rcases ha with (z|z)|z
   ·exact .inr (.inl z)
   ·exact .inl z
   ·exact .inr (.inr z)
 ·rw[bC];exact⟨n,n2,λa ha b hb e=>hd b hb (e▸ha)⟩
 ·rcases ar.mp ha with z|z
  ·exact fr a z
  ·exact e1.free (zI a z)
end
section
variable {K:ag}{H H0 H1:Hp}{F fp:List ax}{vs:List V}{ds:List D}{p:ax}{u:Ty}{us:List Ty}
def b5K(hp:H p=xn):Same (cut H (fp++F)) (cut (upd H p o) (p::fp++F)):=P3 (k9 hp o) λa u ha lE=>by
 rw[bE]at lE;rcases aI.mp lE with z|z
 ·subst z;rw[hp]at ha;cases ha
 ·exact z
theorem a4B:∀{n:Nat} {vs:List V} {ds:List D} {fp:List ax},OwnTs K H F (aG n u) vs ds fp->ListAll (Own K H F u) vs ds fp
 |0,_,_,_,h=>by
  simp only[gP,OwnTs]at h;obtain⟨rfl,rfl,rfl⟩:=h;exact p5
 |n+1,_,_,_,h=>by
  simp only[gQ,OwnTs]at h;obtain⟨v,r,d,e,f,g,rfl,rfl,rfl,h1,h2⟩:=h;exact m7 h1 (a4B h2)
theorem OwnTs.len:∀{us:List Ty} {vs:List V} {ds:List D} {fp:List ax},OwnTs K H F us vs ds fp->vs.length=us.length/\ds.length=us.length
 |[],_,_,_,h=>by simp only[OwnTs]at h;obtain⟨rfl,rfl,_⟩:=h;exact⟨rfl,rfl⟩
 |u::us,_,_,_,h=>by
  simp only[OwnTs]at h;obtain⟨v,r,d,e,f,g,rfl,rfl,rfl,_,h2⟩:=h;obtain⟨a,b⟩:=OwnTs.len h2;exact⟨by rw[aS,aS,a],by rw[aS,aS,b]⟩
def n6(e:Same (cut H F) (cut H1 F'))(h:ListAll (Own K H F u) vs ds fp)(k:∀a∈fp,H1 a=H a):ListAll (Own K H1 F' u) vs ds fp:=
 h.imp λv d f hf _ q=>q.frame e u λa ha=>k a (hf a ha)
def a2V(h:ListAll (Own K H1 (fp++F) u) vs ds fp)(hn:fp.Nodup)(hf:∀a∈fp,H a=xn)(e:Same H H1)(hp:H1 p=xn)(hl:∀a∈fp,∃ys:MuO,H1 a=cz ys.1):ResR K (.new (.l u)) H (upd H1 p (.lst vs)) F (.ref p) (.list ds):=by
 have vm:p∉fp:=λz=>by obtain⟨ys,q⟩:=hl p z;rw[hp]at q;cases q
 refine⟨p::fp,?_,bZ.mpr ⟨vm,hn⟩,λa ha=>?_⟩
 ·simp only[Own];refine .inr ⟨p,vs,ds,fp,rfl,g8,rfl,rfl,n6 (b5K hp) h λa ha=>?_⟩;exact b9 λz=>vm (z▸ha)
 ·rcases aI.mp ha with z|z
  ·subst z;exact e.free hp
  ·exact hf a z
theorem ListAll.of_den:∀{vs:List V} {ds:List D},DenAll K H vs ds->(∀v d,d∈ds->Den K H v d->R v d [])->ListAll R vs ds []
 |_,[],h,_=>by rw[h.nil_inv];exact p5
 |_,d::ds,h,k=>by
  obtain⟨v,r,rfl,h1,h2⟩:=h.cons_inv;have:=m7 (f:=[]) (k v d aL h1) (ListAll.of_den h2 λv d hd=>k v d (aw _ hd));exact this
theorem C2:∀{ds:List D} {d:D},c9 ds=true->d∈ds->imm d=true
 |[],d,_,h=>nomatch h
 |d0::ds,d,q,h=>by
  simp only[c9,aB]at q;rcases aI.mp h with z|z
  ·rw[z];exact q.1
  ·exact C2 q.2 z
def Y1(h:DenAll K H1 vs ds)(hi:c9 ds=true)(e:Same H H1)(hp:H1 p=xn)(hF:∀a∈F,∃ys:MuO,H1 a=cz ys.1):ResR K (.new (.l .i)) H (upd H1 p (.lst vs)) F (.ref p) (.list ds):=
 a2V (fp:=[]) (ListAll.of_den h λv d hd q=>by
  simp only[Own,bK];exact⟨trivial,C2 hi hd,q.imm_out hF d (C2 hi hd)⟩) bI (λa ha=>(nomatch ha)) e hp λa ha=>(nomatch ha)
def b0J(h:DenAll K (cut H1 F) vs ds)(e:Same H H1)(hp:H1 p=xn):ResR K (.new (.l .f)) H (upd H1 p (.lst vs)) F (.ref p) (.list ds):=
 a2V (fp:=[]) (ListAll.of_den h λv d hd q=>by
  simp only[Own,bK];exact⟨trivial,q⟩) bI (λa ha=>(nomatch ha)) e hp λa ha=>(nomatch ha)
def a6x(h:DenAll K H1 vs ds)(hp:H1 p=xn):Den K (upd H1 p (.tup vs)) (.ref p) (.tuple ds):=den_tup (SqT.of g8) (h.up (k9 hp _))
def b5L(h:c9 ds=true):imm (.tuple ds)=true:=by simpa only [imm]using h
end
noncomputable def x5(f:EvA):EvE:=λZ=>(f Z).bind λds=>cz (.list ds)
noncomputable def O7(f:EvA):EvE:=λZ=>(f Z).bind λds=>cz (.tuple ds)
def a5y(d:D):Option D:=if imm d then cz d else xn
def a4C(h:a5y d=cz e):e=d/\imm d=true:=by
 unfold a5y at h;by_cases c:imm d=true
 ·rw[aD c]at h;exact⟨(aE h).symm,c⟩
 ·rw[aM c]at h;cases h
def b2F(d:D):Option D:=match d with
 |.list ds=>if c9 ds then cz d else xn
 |_=>xn
def a7W(h:b2F d=cz e):∃ds,d=.list ds/\e=.list ds/\c9 ds=true:=by
 cases d with
 |list ds=>
  have h':(if c9 ds=true then cz (cU ds) else xn)=cz e:=h;by_cases c:c9 ds=true
  ·rw[aD c]at h';exact⟨ds,rfl,(aE h').symm,c⟩
  ·rw[aM c]at h';cases h'
 |_=>cases h
section
variable {X:Cx}{M:List Md}{a b e:Expr}{es:List Expr}{fa fb:EvE}{f:EvA}{c ca cb:Cat}{u:Ty}{us:List Ty}{pos:fT}
def p8(h:PAN X M es f (aG n u))(hn:n<=1000:=by decide):PX X M (.List es pos) (x5 f) (.new (.l u)):=by
 obtain⟨t,p,q⟩:=h;refine .mk ⟨_,b8q p,λZ σ H P F d Q S hf k=>?_⟩;obtain⟨ds,h1,hf⟩:=bnd hf;cases hf
 refine q Z σ H P F ds _ S h1 λvs H1 fp e o nd fr=>⟨?_,λx hx=>k (.ref x) _ (e.trans (k9 hx _)) (a2V (a4B o) nd fr e hx (o.lst _))⟩
 rw[o.len.1,gu];exact fw (X6 hn)
def b8C(h:PAN X M es f us)(hn:us.length<=1000:=by decide):PX X M (.Tuple es j pos) (O7 f) (.new (.tp us)):=by
 obtain⟨t,p,q⟩:=h;refine .mk ⟨_,a7N p,λZ σ H P F d Q S hf k=>?_⟩;obtain⟨ds,h1,hf⟩:=bnd hf;cases hf
 refine q Z σ H P F ds _ S h1 λvs H1 fp e o nd fr=>⟨?_,λx hx=>k (.ref x) _ (e.trans (k9 hx _)) ⟨fp,?_,nd,fr⟩⟩
 ·rw[o.len.1];exact fw (X6 hn)
 ·have Au:x∉fp++F:=λz=>by
   rcases ar.mp z with z|z
   ·obtain⟨ys,q⟩:=o.lst _ x z;rw[hx]at q;cases q
   ·obtain⟨ys,q⟩:=S.lst' e x z;rw[hx]at q;cases q
  simp only[Own];refine⟨x,vs,ds,rfl,g8,Au,rfl,o.frame (G9 (k9 hx _)) us λa ha=>?_⟩;exact b9 λz=>Au (z▸ak _ ha)
theorem a6y:∀{n:Nat} {vs:List V} {ds:List D} {fp:List ax},OwnTs K H F (aG n .i) vs ds fp->c9 ds=true
 |0,_,_,_,h=>by
  simp only[gP,OwnTs]at h;obtain⟨rfl,rfl,rfl⟩:=h;simp only[c9]
 |n+1,_,_,_,h=>by
  simp only[gQ,OwnTs]at h;obtain⟨v,r,d,e,f,g,rfl,rfl,rfl,h1,h2⟩:=h;simp only[c9,aB];exact⟨(a1O h1).2.1,a6y h2⟩
def a2B{j}(h:PAN X M es f (aG n .i))(hn:n<=1000:=by decide):PX X M (.Tuple es j pos) (O7 f) (.new .i):=by
 obtain⟨t,p,q⟩:=h;refine .mk ⟨_,a7N p,λZ σ H P F d Q S hf k=>?_⟩;obtain⟨ds,h1,hf⟩:=bnd hf;cases hf
 refine q Z σ H P F ds _ S h1 λvs H1 fp e o nd fr=>⟨?_,λx hx=>k (.ref x) _ (e.trans (k9 hx _)) (N4 (b5L (a6y o)) (a6x (o.den _) hx) (S.lst' (e.trans (k9 hx _))))⟩
 rw[o.len.1,gu];exact fw (X6 hn)
def b0K{Z:List D}(hr:∀Z ds,r Z=cz ds->ds.length=n)(h:a7 fa r Z=cz ds):ds.length=n+1:=by
 obtain⟨x,_,h⟩:=bnd h;obtain⟨xs,h2,h⟩:=bnd h;cases h
 rw[aS,hr Z xs h2]
def dIx:D->D->Option D
 |.list ds,.int k=>atI ds k
 |.tuple ds,.int k=>atI ds k
 |_,_=>xn
def C3:D->D->Option D
 |.list ds,.int k=>atI ds k
 |_,_=>xn
def q8(a b:D):Option D:=(dIx a b).bind a5y
theorem DenAll.atI(h:DenAll K H vs ds)(e:L2.atI ds k=cz d):∃v j,L2.atI vs k=cz v/\ixN ds.length k=cz j/\vs[j]?=cz v/\ds[j]?=cz d/\Den K H v d:=by
 unfold L2.atI at e ⊢;obtain⟨j,e1,e2⟩:=bnd e;obtain⟨v,h1,h2⟩:=h.get e2;exact⟨v,j,by rw[h.length,e1];exact h1,e1,h1,e2,h2⟩
def c0E(K:ag):R2:=λx y H Q=>c0z K x y H Q∨c0A K x y H Q
def a5z:IxR X (c0E X.K):=b5y.or b8t
def a9q(h:dIx x y=cz d):∃ds k,(x=.list ds∨x=.tuple ds)/\y=.int k/\L2.atI ds k=cz d:=by
 cases x with
 |list ds=>cases y with
  |int k=>exact⟨ds,k,.inl rfl,rfl,h⟩
  |_=>cases h
 |tuple ds=>cases y with
  |int k=>exact⟨ds,k,.inr rfl,rfl,h⟩
  |_=>cases h
 |_=>cases h
def c0F(hx:Den K H v x)(hy:Den K H w y)(h:dIx x y=cz d)(q:∀z,Den K H z d->Q z H):c0E K v w H Q:=by
 obtain⟨ds,k,e,rfl,h⟩:=a9q h;cases hy.int_inv
 rcases e with rfl|rfl
 ·obtain⟨a,xs,rfl,h1,h2⟩:=hx.list_inv;obtain⟨z,j,z1,z2,z3,z4,z5⟩:=h2.atI h;exact .inl ⟨a,xs,k,z,rfl,rfl,h1.l,z1,q z z5⟩
 ·obtain⟨a,xs,rfl,h1,h2⟩:=hx.tup_inv;obtain⟨z,j,z1,z2,z3,z4,z5⟩:=h2.atI h;exact .inr ⟨a,xs,k,z,rfl,rfl,h1,z1,q z z5⟩
def A5(ha:PX X M a fa ca)(hb:PX X M b fb cb)(hs:a2z b:=by exact λ_ _=>rfl):PX X M (.Subscript a b pos) (e2 q8 fa fb) (.new .i):=by
 obtain⟨ta,pa,qa⟩:=ha.out;obtain⟨tb,pb,qb⟩:=hb.out;refine .mk ⟨_,a9k a5z pa pb hs,λZ σ H P F d Q S hf q=>?_⟩;obtain⟨x,y,h1,h2,h3⟩:=D9 hf;obtain⟨d',h3,h4⟩:=bnd h3;obtain⟨rfl,hi⟩:=a4C h4;exact qa Z σ H P F x _ S h1 λv H1 e1 r1=>qb Z σ H1 P F y _ (S.grow e1) h2 λw H2 e2 r2=>c0F (r1.den.up e2) r2.den h3 λz hz=>q z H2 (e1.trans e2) (N4 hi hz (S.lst' (e1.trans e2)))
def z7(ha:PX X M a fa (.new .f))(hb:PX X M b fb cb)(hs:a2z b:=by exact λ_ _=>rfl):PX X M (.Subscript a b pos) (e2 dIx fa fb) (.new .f):=by
 obtain⟨ta,pa,qa⟩:=ha.out;obtain⟨tb,pb,qb⟩:=hb.out;refine .mk ⟨_,a9k a5z pa pb hs,λZ σ H P F d Q S hf q=>?_⟩;obtain⟨x,y,h1,h2,h3⟩:=D9 hf;refine qa Z σ H P F x _ S h1 λv H1 e1 ⟨fp,o,_,_⟩=>qb Z σ H1 P F y _ (S.grow e1) h2 λw H2 e2 r2=>?_
 obtain⟨rfl,o⟩:=a9o o;have o2:Den X.K (cut H2 F) v x:=o.up (G9 e2);obtain⟨ds,k,e,rfl,h⟩:=a9q h3;have fin:∀z,Den X.K (cut H2 F) z d->Q z H2:=λz hz=>q z H2 (e1.trans e2) ⟨[],by simp only[Own,bK];exact⟨trivial,hz⟩,bI,λa ha=>(nomatch ha)⟩
 have ey:=r2.den.int_inv;rcases e with rfl|rfl
 ·obtain⟨a,xs,rfl,h1,h2⟩:=o2.list_inv;obtain⟨z,j,z1,z2,z3,z4,z5⟩:=h2.atI h;exact .inl ⟨a,xs,k,z,rfl,ey,(O4 h1 k6).l,z1,fin z z5⟩
 ·obtain⟨a,xs,rfl,h1,h2⟩:=o2.tup_inv;obtain⟨z,j,z1,z2,z3,z4,z5⟩:=h2.atI h;exact .inr ⟨a,xs,k,z,rfl,ey,a0i h1 k6,z1,fin z z5⟩
def V1(ha:PX X M a fa (.bor (.l u)))(hb:PX X M b fb cb)(hs:a2z b:=by exact λ_ _=>rfl):PX X M (.Subscript a b pos) (e2 C3 fa fb) (.bor u):=by
 obtain⟨ta,pa,qa⟩:=ha.out;obtain⟨tb,pb,qb⟩:=hb.out;refine .mk ⟨_,a9k a5z pa pb hs,λZ σ H P F d Q S hf q=>?_⟩;obtain⟨x,y,h1,h2,h3⟩:=D9 hf;refine qa Z σ H P F x _ S h1 λv H1 e1 ⟨fp,o,sub⟩=>qb Z σ H1 P F y _ (S.grow e1) h2 λw H2 e2 r2=>?_
 have o2:=o.grow e2;cases x with
 |list ds=>
  cases y with
  |int k=>
   simp only[Own]at o2;rcases o2 with⟨_,hi,_⟩|⟨p,xs,jT,fs,rfl,p1,p2,rfl,p3⟩
   ·simp only[imm]at hi;cases hi
   ·cases p2
    have rg:(ixN ds.length k).bind (λj=>ds[j]?)=cz d:=h3;obtain⟨j,j1,j2⟩:=bnd rg;obtain⟨z,f,pre,post,z1,z2,z3,_,_⟩:=p3.at_ j2;refine .inl ⟨p,xs,k,z,rfl,r2.den.int_inv,.inl (.inl p1),?_,q z H2 (e1.trans e2) ⟨f,z2,λa ha=>sub a ?_⟩⟩
    ·unfold L2.atI;rw[p3.length,j1];exact z1
    ·rw[z3];exact aw _ (ah _ (ak _ ha))
  |_=>cases h3
 |_=>cases h3
end
noncomputable def eCl(g:List D->Option D)(f:EvA):EvE:=λZ=>(f Z).bind g
section
variable {X:Cx}{M:List Md}{a b e e0:Expr}{es:List Expr}{fa fb:EvE}{f:EvA}{c ca cb:Cat}{u:Ty}{us:List Ty}{pos p:fT}{x:bG}
def a2W{id:String}{g:List D->Option D}(hc:a9m X (.builtin id) g)(hm:X.mg x=xn)(hv:gZ x=cz (.builtin id))(h:PAX X M (e0::es) f)(hg:Gl X x:=by rfl)(hn:x≠"__name__":=by decide)(lF:(x==("__debug__":bG))=false:=by decide)
  (he:au (e0::es) X.env=(false,cC e0 X.env)::au es X.env:=by rfl) (gH:(cH pos (au es X.env)).any (·.1)=false:=by rfl):PX X M (.Call (.Name x p) (e0::es) [] pos) (eCl g f) (.new .i):=by
 obtain⟨r,hr,hs⟩:=hc;obtain⟨t,pa,qa⟩:=h;refine .mk ⟨_,a2N hr hg hm hv pa hn lF he gH,λZ σ H P F d Q S hf q=>?_⟩;obtain⟨ds,h1,hf⟩:=bnd hf;exact qa Z σ H P F ds _ S h1 λvs H1 e1 r1=>hs vs H1 ds d Q r1 hf λz hi hd=>q z H1 e1 (N4 hi (hd H1) (S.lst' e1))
def a0E(h:DenAll K H xs [d]):∃v,xs=[v]/\Den K H v d:=by
 obtain⟨v,r,rfl,h1,h2⟩:=h.cons_inv;cases h2.nil_inv
 exact⟨v,rfl,h1⟩
def a0F{K:ag}{H:Hp}{xs:List V}{d e:D}(h:DenAll K H xs [d,e]):∃v w,xs=[v,w]/\Den K H v d/\Den K H w e:=by
 obtain⟨v,r,rfl,h1,h2⟩:=h.cons_inv;obtain⟨w,rfl,h3⟩:=a0E h2;exact⟨v,w,rfl,h1,h3⟩
noncomputable def q9:List D->Option D
 |[.list ds]=>cz (.int ds.length)
 |[.tuple ds]=>cz (.int ds.length)
 |[.str x]=>if x.length<=a_ then cz (.int x.length) else xn
 |_=>xn
def b8D:a9m X (.builtin "len") q9:=by
 refine⟨_,a5o.or a5p,λxs H ds d Q hd hg q=>?_⟩
 match ds,hg with
 |[.list es],hg=>
  cases hg
  obtain⟨v,rfl,h⟩:=a0E hd;obtain⟨a,ys,rfl,h1,h2⟩:=h.list_inv;refine .inl ⟨a,ys,rfl,.inl h1.l,?_⟩;rw[h2.length];exact q _ (by simp only[imm]) λ_=>den_int
 |[.tuple es],hg=>
  cases hg
  obtain⟨v,rfl,h⟩:=a0E hd;obtain⟨a,ys,rfl,h1,h2⟩:=h.tup_inv;refine .inl ⟨a,ys,rfl,.inr h1,?_⟩;rw[h2.length];exact q _ (by simp only[imm]) λ_=>den_int
 |[.str x],hg=>
  have um:(if x.length<=a_ then cz (aO x.length) else xn)=cz d:=hg;by_cases z:x.length<=a_
  ·rw[aD z]at um;cases um
   obtain⟨v,rfl,h⟩:=a0E hd;cases h.str_inv
   exact .inr ⟨x,rfl,z,q _ (by simp only[imm]) λ_=>den_int⟩
  ·rw[aM z]at um;cases um
 |[.none],hg|[.bool _],hg|[.int _],hg|[.dict _],hg=>cases hg
 |[],hg=>cases hg
 |d1::_::_,hg=>cases d1<;>cases hg
noncomputable def a0G(mx:Bool):List D->Option D
 |[.int i,.int j]=>cz (.int (if mx then (if j>i then j else i) else (if j<i then j else i)))
 |_=>xn
def b8E(h:a0G mx ds=cz d):∃i j,ds=[.int i,.int j]/\d=.int (if mx then (if j>i then j else i) else (if j<i then j else i)):=by
 match ds,h with
 |[.int i,.int j],h=>cases h;exact⟨i,j,rfl,rfl⟩
def b2G(hc:X.calm=true):a9m X (.builtin "max") (a0G true):=by
 refine⟨_,b0w hc,λxs H ds d Q hd hg q=>?_⟩;obtain⟨i,j,rfl,rfl⟩:=b8E hg;obtain⟨v,w,rfl,h1,h2⟩:=a0F hd;cases h1.int_inv
 cases h2.int_inv
 exact⟨i,j,rfl,q _ (by simp only[imm]) λ_=>den_int⟩
def c0G:List D->Option (List Bool)
 |[]=>cz []
 |.bool b::r=>(c0G r).map (b::·)
 |_=>xn
def tyD:D->String
 |.int _=>"int"
 |.bool _=>"bool"
 |.list _=>"list"
 |.tuple _=>"tuple"
 |.none=>"NoneType"
 |.str _=>"str"
 |.dict _=>"dict"
def Den.ty{K:ag}{H:Hp}{v:V}:∀{d:D},Den K H v d->(∀ds,d≠.tuple ds)->(∀ds,d≠.list ds)->(∀ds,d≠.dict ds)->TyOf K H v (.type (tyD d))
 |.none,h,_,_,_=>by cases h.none_inv;exact .non
 |.bool _,h,_,_,_=>by cases h.bool_inv;exact .bl _
 |.int _,h,_,_,_=>by cases h.int_inv;exact .int _
 |.str _,h,_,_,_=>by cases h.str_inv;exact .str _
 |.list ds,h,_,q,_=>absurd rfl (q ds)
 |.tuple ds,h,q,_,_=>absurd rfl (q ds)
 |.dict ds,h,_,_,q=>absurd rfl (q ds)
def c0H(K:ag)(T:String)(g:D->Bool):List V->Hp->VK->Prop:=λxs H Q=>∃x d,xs=[x,.ty T]/\Den K H x d/\Q (.bl (g d)) H
def a7X{pins:List (ax×fY)}{σ:L2.St}{H:Hp}{s:av}{A:bP}{E:aj->av->Prop}{Q:aj->av->Prop}{cv:aj}{k:Bool}{a:ax}{xs:List V}(I:Inv X pins σ H s)(h:SqT X.K H a xs)(e:eR X.K (.type "tuple") cv=cz k)(hq:∀tk,Q (.bool k) {s with toks:=tk}) :
  aX (aW X.prog X.w) A (call (.builtin "isinstance") [.ref a,cv]) Q E s:=by
 obtain⟨its,_,⟨o,h1,h2,_⟩,_⟩:=I.tuple h;exact dm zU I.kIn ⟨o,h1,h2⟩ e (λz=>nomatch z) hq
def a7Y{pins:List (ax×fY)}{σ:L2.St}{H:Hp}{s:av}{A:bP}{E:aj->av->Prop}{Q:aj->av->Prop}{cv:aj}{k:Bool}{a:ax}{xs:List V}(I:Inv X pins σ H s)(h:SqX X.K H a xs)(e:eR X.K (.type "list") cv=cz k)(hq:∀tk,Q (.bool k) {s with toks:=tk}) :
  aX (aW X.prog X.w) A (call (.builtin "isinstance") [.ref a,cv]) Q E s:=by
 obtain⟨_,its,n,_,h1⟩:=h.ok I;exact dm nF I.kIn ⟨_,h1,rfl⟩ e (λz=>nomatch z) hq
def a7Z{pins:List (ax×fY)}{σ:L2.St}{H:Hp}{s:av}{A:bP}{E:aj->av->Prop}{Q:aj->av->Prop}{cv:aj}{k:Bool}{a:ax}{es:List (D×V×V)}(I:Inv X pins σ H s)(h:H a=cz (g7 a es))(e:eR X.K (.type "dict") cv=cz k)(hq:∀tk,Q (.bool k) {s with toks:=tk}) :
  aX (aW X.prog X.w) A (call (.builtin "isinstance") [.ref a,cv]) Q E s:=by
 obtain⟨⟨_,_,_,o,ents,_,h1,h2,_⟩,_⟩:=(show ObjOk X.prog X.w H s.heap a (g7 a es) from I.hok a _ h);exact dm nG I.kIn ⟨o,h1,h2.1⟩ e (λz=>nomatch z) hq
def b0L{T:String}{g:D->Bool}(hf:∀(K:ag) (d:D),eR K (.type (tyD d)) (.type T)=cz (g d)):CallR X (.builtin "isinstance") (c0H X.K T g):=by
 intro pins s σ H xs us Q I r h;obtain⟨x,d,rfl,hd,q⟩:=h;obtain⟨u,w',rfl,rx,ry⟩:=vals2 r;cases (show w'=fL T from ry)
 by_cases ht:(∀ds,d≠.tuple ds)/\(∀ds,d≠.list ds)/\(∀ds,d≠.dict ds)
 ·exact b0y I rx (hd.ty ht.1 ht.2.1 ht.2.2) (hf X.K d) λtk=>⟨.bl _,H,I.tok tk,rfl,q⟩
 ·cases d with
  |list ds=>
   obtain⟨a,ys,rfl,h1,_⟩:=hd.list_inv;cases (show u=bL a from rx)
   exact a7Y I h1 (hf X.K (.list ds)) λtk=>⟨.bl _,H,I.tok tk,rfl,q⟩
  |tuple ds=>
   obtain⟨a,ys,rfl,h1,_⟩:=hd.tup_inv;cases (show u=bL a from rx)
   exact a7X I h1 (hf X.K (.tuple ds)) λtk=>⟨.bl _,H,I.tok tk,rfl,q⟩
  |dict ds=>
   simp only[Den]at hd;obtain⟨a,es,rfl,h1,_⟩:=hd;cases (show u=bL a from rx)
   exact a7Z I h1 (hf X.K (.dict ds)) λtk=>⟨.bl _,H,I.tok tk,rfl,q⟩
  |_=>exact absurd ⟨(λds z=>by cases z),(λds z=>by cases z),(λds z=>by cases z)⟩ ht
def isInt:D->Bool
 |.int _=>true
 |.bool _=>true
 |_=>false
def isBool:D->Bool
 |.bool _=>true
 |_=>false
def isList:D->Bool
 |.list _=>true
 |_=>false
def G0:D->Bool
 |.tuple _=>true
 |_=>false
def a1h{g:D->Bool}(hf:∀(K:ag) (d:D),eR K (.type (tyD d)) (.type T)=cz (g d))(hm:X.mg "isinstance"=xn)(hy:X.mg y=xn)(hb:gZ y=cz (.type T))(h:PX X M a fa ca)
  (hg:Gl X "isinstance":=by rfl) (vL:Gl X y:=by rfl) (CT:y≠"__name__":=by decide) (vQ:(y==("__debug__":bG))=false:=by decide)
  (he:au [a,.Name y py] X.env=(false,cC a X.env)::au [.Name y py] X.env:=by rfl) (oX:au [.Name y py] X.env=(false,cC (.Name y py) X.env)::au [] X.env:=by rfl) (gH:(cH pos (au [.Name y py] X.env)).any (·.1)=false:=by rfl) :
  PX X M (.Call (.Name "isinstance" p) [a,.Name y py] [] pos) (e1 (λd=>cz (.bool (g d))) fa) (.new .i):=by
 obtain⟨ta,pa,qa⟩:=h.out;refine .mk ⟨_,a2N (b0L hf) hg hm PyProof.Rows.Boot.«isinstance» (j8 pa (j8 (b5j (v:=.ty T) vL hy hb rfl CT vQ) o7 oX) he) (by decide) (by decide) he gH,λZ σ H P F d Q S qf q=>?_⟩;obtain⟨x,h1,qf⟩:=bnd qf;cases qf
 exact qa Z σ H P F x _ S h1 λv H1 e1 r1=>⟨v,x,rfl,r1.den,q _ H1 e1 (N4 (by simp only[imm]) den_bool (S.lst' e1))⟩
def b5M(K:ag)(d:D):eR K (.type (tyD d)) (.type "int")=cz (isInt d):=by cases d<;>rfl
def b2H(K:ag)(d:D):eR K (.type (tyD d)) (.type "bool")=cz (isBool d):=by cases d<;>rfl
def a6z(K:ag)(d:D):eR K (.type (tyD d)) (.type "list")=cz (isList d):=by cases d<;>rfl
def a4D(K:ag)(d:D):eR K (.type (tyD d)) (.type "tuple")=cz (G0 d):=by cases d<;>rfl
end
def cutD(ds:List D)(lo hi:Option Int):List D:=(ds.drop (HT.sIx ds.length 0 lo)).take (HT.sIx ds.length ds.length hi-HT.sIx ds.length 0 lo)
abbrev EvO:=List D->Option (Option Int)
noncomputable def oNo:EvO:=λ_=>cz xn
def asI:D->Option Int
 |.int i=>cz i
 |_=>xn
noncomputable def oSo(a:EvE):EvO:=λZ=>(a Z).bind λd=>(asI d).bind λi=>cz (cz i)
def H9(h:asI d=cz i):d=.int i:=by
 cases d with
 |int j=>cases h;rfl
 |_=>cases h
def asL:D->Option (List D)
 |.list ds=>cz ds
 |_=>xn
def P6(h:asL d=cz ds):d=.list ds:=by
 cases d with
 |list j=>cases h;rfl
 |_=>cases h
def asS:D->Option (List D)
 |.list ds=>cz ds
 |.tuple ds=>cz ds
 |_=>xn
noncomputable def POX(X:Cx)(M:List Md)(e:Option Expr)(f:EvO):Prop:=
 ∃t,PO X e t/\∀(Z:List D) (σ:L2.St) (H P:Hp) (F:List ax) (o:Option Int) (Q:Option Int->Hp->Prop),StE X.K M Z σ H P F->f Z=cz o->(∀H',Same H H'->Q o H')->t σ H Q
noncomputable def eSl(a:EvE)(lo hi:EvO):EvE:=λZ=>(a Z).bind λx=>(asL x).bind λds=>(lo Z).bind λl=>(hi Z).bind λh=>cz (.list (cutD ds l h))
noncomputable def eI(a:EvE):EvE:=λZ=>(a Z).bind b2F
section
variable {X:Cx}{M:List Md}{a b e e0:Expr}{lo hi:Option Expr}{es:List Expr}{fa fb:EvE}{fl fh:EvO}{f:EvA}{c ca cb:Cat}{u:Ty}{us:List Ty}{pos p p2:fT}{x:bG}
def b2I:POX X M xn oNo:=⟨_,b5w,λZ σ H P F o Q S hf q=>by cases hf;exact q H (Same.refl _)⟩
def b2J(h:PX X M a fa ca):POX X M (cz a) (oSo fa):=by
 obtain⟨t,p,q⟩:=h.out;refine⟨_,b5x p,λZ σ H P F o Q S hf k=>?_⟩;obtain⟨d,h1,rl⟩:=bnd hf;obtain⟨i,h2,rh⟩:=bnd rl;cases H9 h2
 cases rh
 exact q Z σ H P F _ _ S h1 λv H1 e1 r1=>⟨i,r1.den.int_inv,k H1 e1⟩
structure MkL (X:Cx) (M:List Md) (e:Expr) (f:EvE) (A:Prop):Prop where
 run:∃t,PE X e t/\∀(Z:List D) (σ:L2.St) (H P:Hp) (F:List ax) (d:D) (Q:VK),StE X.K M Z σ H P F->f Z=cz d->
  (∀vs ds H1 l,Same H H1->d=.list ds->DenAll X.K H1 vs ds->(A->DenAll X.K (cut H1 F) vs ds)->H1 l=xn->Q (.ref l) (upd H1 l (.lst vs)))->t σ H Q
def MkL.fz{f:EvE}(h:MkL X M e f True):PX X M e f (.new (.l .f)):=by
 obtain⟨t,p,q⟩:=h.run;refine .mk ⟨t,p,λZ σ H P F d Q S hf k=>q Z σ H P F d Q S hf λvs ds H1 l e1 ed _ h1 hl=>?_⟩;subst ed;exact k _ _ (e1.trans (k9 hl _)) (b0J (h1 trivial) e1 hl)
theorem MkL.i{f:EvE}{A:Prop}(h:MkL X M e f A):PX X M e (eI f) (.new (.l .i)):=by
 obtain⟨t,p,q⟩:=h.run;refine .mk ⟨t,p,λZ σ H P F d Q S hf k=>?_⟩;obtain⟨d',g1,hc⟩:=bnd hf;clear hf;obtain⟨es,rfl,rfl,hi⟩:=a7W hc;refine q Z σ H P F _ Q S g1 λvs ds H1 l e1 ed h1 _ hl=>?_
 cases ed
 exact k _ _ (e1.trans (k9 hl _)) (Y1 h1 hi e1 hl (S.lst' e1))
def frozen:Cat->Prop
 |.new .f=>True
 |.new .i=>True
 |_=>False
def R1(hc:frozen c)(r:ResR K c H H1 F v d):Den K (cut H1 F) v d:=by
 match c,hc with
 |.new .f,_=>
  obtain⟨fp,o,_⟩:=r;obtain⟨rfl,o⟩:=a9o o;exact o
 |.new .i,_=>
  obtain⟨fp,o,_⟩:=r;obtain⟨rfl,_,o⟩:=a1O o;exact o
def K4(r:ResR K c H H1 F v (.list ds)):∃a xs,v=.ref a/\SqX K H1 a xs/\DenAll K H1 xs ds/\(frozen c->DenAll K (cut H1 F) xs ds):=by
 by_cases hc:frozen c
 ·obtain⟨a,xs,rfl,k1,k2⟩:=(R1 hc r).list_inv;exact⟨a,xs,rfl,O4 k1 k6,k2.up k6,λ_=>k2⟩
 ·obtain⟨a,xs,rfl,k1,k2⟩:=r.den.list_inv;exact⟨a,xs,rfl,k1,k2,λh=>absurd h hc⟩
def b2K:SlR X (λx lo hi H Q=>∃a xs,x=.ref a/\SqX X.K H a xs/\∀p,H p=xn->Q (.ref p) (upd H p (.lst (a7Q xs lo hi)))):=by
 intro pins s σ H x v vl vu lo hi sl Q I rx hs pl pu ⟨a,xs,e,h,q⟩;exact b5z pins s σ H x v vl vu lo hi sl Q I rx hs pl pu ⟨a,xs,e,h.l,q⟩
def a9r(h:DenAll K H vs ds)(lo hi:Option Int):DenAll K H (a7Q vs lo hi) (cutD ds lo hi):=by
 unfold a7Q cutD;rw[h.length];exact (h.drop _).take _
def b2L(ha:PX X M a fa ca)(hl:POX X M lo fl)(hh:POX X M hi fh):MkL X M (.Subscript a (.Slice lo hi xn p2) pos) (eSl fa fl fh) (frozen ca):=by
 obtain⟨ta,pa,qa⟩:=ha.out;obtain⟨tl,pl,ql⟩:=hl;obtain⟨th,ph,qh⟩:=hh;refine⟨_,b2t b2K pa pl ph,λZ σ H P F d Q S hf q=>?_⟩;obtain⟨x,h1,rl⟩:=bnd hf;obtain⟨ds,h2,rh⟩:=bnd rl;cases P6 h2
 obtain⟨l,h3,zG⟩:=bnd rh;obtain⟨h,h4,uC⟩:=bnd zG;cases uC
 refine qa Z σ H P F _ _ S h1 λv H1 e1 r1=>ql Z σ H1 P F l _ (S.grow e1) h3 λH2 e2=>qh Z σ H2 P F h _ (S.grow (e1.trans e2)) h4 λH3 e3=>?_
 obtain⟨pp,xs,rfl,k1,k2,k3⟩:=K4 (r1.up (e2.trans e3));exact⟨pp,xs,rfl,k1,λz hz=>q _ _ H3 z ((e1.trans e2).trans e3) rfl (a9r k2 l h) (λhc=>a9r (k3 hc) l h) hz⟩
noncomputable def K1(a:EvE):EvE:=λZ=>(a Z).bind λd=>(asS d).bind λds=>cz (.list ds)
def a0H(hm:X.mg "list"=xn)(ha:PX X M a fa ca)(hg:Gl X "list":=by rfl)(he:au [a] X.env=(false,cC a X.env)::au [] X.env:=by rfl)(gH:(cH pos (au [] X.env)).any (·.1)=false:=by rfl) :
  MkL X M (.Call (.Name "list" p) [a] [] pos) (K1 fa) (frozen ca):=by
 obtain⟨ta,pa,qa⟩:=ha.out;refine⟨_,X4 a5q hg hm PyProof.Rows.Boot.«list» (j8 pa o7 he) (by decide) (by decide) he gH,λZ σ H P F d Q S hf q=>?_⟩;obtain⟨x,h1,rl⟩:=bnd hf;obtain⟨ds,h2,rh⟩:=bnd rl;cases rh
 refine qa Z σ H P F _ _ S h1 λv H1 e1 r1=>?_
 cases x with
 |list es=>
  cases h2
  obtain⟨pp,xs,rfl,k1,k2,k3⟩:=K4 r1;exact⟨pp,xs,rfl,.inl k1.l,λz hz=>q _ _ H1 z e1 rfl k2 k3 hz⟩
 |tuple es=>
  cases h2
  by_cases hc:frozen ca
  ·obtain⟨pp,xs,rfl,k1,k2⟩:=(R1 hc r1).tup_inv;exact⟨pp,xs,rfl,.inr (a0i k1 k6),λz hz=>q _ _ H1 z e1 rfl (k2.up k6) (λ_=>k2) hz⟩
  ·obtain⟨pp,xs,rfl,k1,k2⟩:=r1.den.tup_inv;exact⟨pp,xs,rfl,.inr k1,λz hz=>q _ _ H1 z e1 rfl k2 (λh=>absurd h hc) hz⟩
 |_=>cases h2
noncomputable def V2(a:EvE):EvE:=λZ=>(a Z).bind λd=>(asS d).bind λds=>a5y (.tuple ds)
def a2X(hm:X.mg "tuple"=xn)(ha:PX X M a fa ca)(hg:Gl X "tuple":=by rfl)(he:au [a] X.env=(false,cC a X.env)::au [] X.env:=by rfl)(gH:(cH pos (au [] X.env)).any (·.1)=false:=by rfl) :
  PX X M (.Call (.Name "tuple" p) [a] [] pos) (V2 fa) (.new .i):=by
 obtain⟨ta,pa,qa⟩:=ha.out;refine .mk ⟨_,X4 a4b hg hm PyProof.Rows.Boot.«tuple» (j8 pa o7 he) (by decide) (by decide) he gH,λZ σ H P F d Q S hf q=>?_⟩;obtain⟨x,h1,rl⟩:=bnd hf;obtain⟨ds,h2,rh⟩:=bnd rl;obtain⟨rfl,hi⟩:=a4C rh;refine qa Z σ H P F _ _ S h1 λv H1 e1 r1=>?_
 cases x with
 |list es=>
  cases h2
  obtain⟨pp,xs,rfl,k1,k2⟩:=r1.den.list_inv;exact⟨pp,xs,rfl,.inl ⟨k1.l,λz hz=>q _ _ (e1.trans (k9 hz _)) (N4 hi (a6x k2 hz) (S.lst' (e1.trans (k9 hz _))))⟩⟩
 |tuple es=>
  cases h2
  obtain⟨pp,xs,rfl,k1,k2⟩:=r1.den.tup_inv;exact⟨pp,xs,rfl,.inr ⟨k1,q _ _ e1 (N4 hi (den_tup k1 k2) (S.lst' e1))⟩⟩
 |_=>cases h2
def b5N:OpR X (gd .Add) (λx y H Q=>∃l b xs zs,x=.ref l/\y=.ref b/\SqX X.K H l xs/\SqX X.K H b zs/\xs.length+zs.length<=a_/\∀p,H p=xn->Q (.ref p) (upd H p (.lst (xs++zs)))):=by
 intro pins s σ H x y v u Q I rx ry h;obtain⟨l,b,xs,zs,rfl,rfl,hH,hB,hz,q⟩:=h;cases rx
 cases ry
 obtain⟨z,its,n,r,e⟩:=hH.ok I;obtain⟨z2,nX,n2,r2,e2⟩:=hB.ok I;have hl:=r.length;have qX:=r2.length;refine PySem.P.add_list e e2 ?_ (by rw[be,be];lia);have ea:its.toArray++nX.toArray=(its++nX).toArray:=by simp
 rw[ea];exact⟨.ref _,_,I.lnew (t':=s.toks) (r.append r2) (by rw[aA];lia),rfl,q _ I.fresh⟩
noncomputable def R6(a b:EvE):EvE:=λZ=>(a Z).bind λx=>(asL x).bind λds=>(b Z).bind λy=>(asL y).bind λes=>if ds.length+es.length<=a_ then cz (.list (ds++es)) else xn
def a5A(ha:PX X M a fa ca)(hb:PX X M b fb cb):MkL X M (.BinOp a .Add b pos) (R6 fa fb) (frozen ca/\frozen cb):=by
 obtain⟨ta,pa,qa⟩:=ha.out;obtain⟨tb,pb,qb⟩:=hb.out;refine⟨_,b7w b5N pa pb,λZ σ H P F d Q S hf q=>?_⟩;obtain⟨x,h1,rl⟩:=bnd hf;obtain⟨ds,h2,rh⟩:=bnd rl;cases P6 h2
 obtain⟨y,h3,zG⟩:=bnd rh;obtain⟨es,h4,uC⟩:=bnd zG;cases P6 h4
 by_cases hz:ds.length+es.length<=a_
 ·rw[aD hz]at uC;cases uC
  refine qa Z σ H P F _ _ S h1 λv H1 e1 r1=>qb Z σ H1 P F _ _ (S.grow e1) h3 λw H2 e2 r2=>?_
  obtain⟨pp,xs,rfl,k1,k2,k3⟩:=K4 (r1.up e2);obtain⟨qq,ys,rfl,j1,j2,j3⟩:=K4 r2;exact⟨pp,qq,xs,ys,rfl,rfl,k1,j1,by rw[k2.length,j2.length];exact hz,λz hz=>q _ _ H2 z (e1.trans e2) rfl (k2.append j2) (λhc=>(k3 hc.1).append (j3 hc.2)) hz⟩
 ·rw[aM hz]at uC;cases uC
noncomputable def spD(K:ag)(n:Nat)(m:List D->Option D)(u:Ty):Sp:=λvs H Q _=>∃ds d,vs.length=n/\DenAll K H vs ds/\m ds=cz d/\∀v H' fp,Same H H'->Own K H' fp u v d fp->fp.Nodup->(∀a∈fp,H a=xn)->Q v H'
def a5B(W:Has X.prog X.w X.K X.mg X.base x k ps (spD X.K n m u))(hr:Room k X.A)(h:PAX X M (e0::es) f)(hu:u.shut=true:=by rfl)(hl:(e0::es).length=n:=by rfl)(hfl:∀Z ds,f Z=cz ds->ds.length=(e0::es).length)
  (hg:Gl X x:=by rfl) (lF:(x==("__debug__":bG))=false:=by decide) (he:au (e0::es) X.env=(false,cC e0 X.env)::au es X.env:=by rfl) (gH:(cH pos (au es X.env)).any (·.1)=false:=by rfl) :
  PX X M (.Call (.Name x p) (e0::es) [] pos) (eCl m f) (.new u):=by
 obtain⟨t,pa,qa⟩:=h;refine .mk ⟨_,a5t W hr pa hg lF he gH,λZ σ H P F d Q S hf q=>?_⟩;obtain⟨ds,h1,hf⟩:=bnd hf;refine qa Z σ H P F ds _ S h1 λvs H1 e1 r1=>?_
 show spD X.K n m u (vs++[]) H1 Q E0;rw[bb];refine⟨ds,d,by rw[r1.length,hfl Z ds h1,hl],r1,hf,λv H' fp e o nd fr=>q v H' (e1.trans e) ⟨fp,o.shut_out (λa ha=>?_) u hu,nd,λa ha=>e1.free (fr a ha)⟩⟩;rcases ar.mp ha with z|z
 ·exact o.lst u a z
 ·exact S.lst' (e1.trans e) a z
end
structure Walks (J:It) (Pr:Hp->Prop) (xs:List V):Prop where
 go:∀i H,Pr H->i<xs.length->J.go i H
 stop:∀i H,Pr H->xs.length<=i->J.stop i H
 yld:∀i H x H',Pr H->i<xs.length->J.yld i H x H'->H'=H/\xs[i]?=cz x
def a8a:Walks (Itl K a) (λH=>SqL K H a xs) xs where
 go:=λi H h hi=>⟨xs,xs[i],h,by simp[hi]⟩
 stop:=λi H h hi=>⟨xs,h,hi⟩
 yld:=λi H x H' h _ y=>⟨y.1,y.2 xs h⟩
def a1P:Walks (Itr lo n) (λ_=>True) ((ao n).map λ(k:Nat)=>V.int (lo+k)) where
 go:=λi H h hi=>by show i<n;simpa using hi
 stop:=λi H h hi=>by show n<=i;simpa using hi
 yld:=λi H x H' h hi y=>by
  obtain⟨e,y⟩:=y;refine⟨e,?_⟩;have lN:i<n:=by simpa using hi
  rw[y];simp[lN]
noncomputable def PIX(X:Cx)(M:List Md)(tg iter:Expr)(f:EvA):Prop:=
 ∃wi,PI X tg iter wi/\∀(Z:List D) (σ:L2.St) (H P:Hp) (F:List ax) (ds:List D) (R:It->Hp->Prop),StE X.K M Z σ H P F->f Z=cz ds->
  (∀J xs Pr H1,Same H H1->Walks J Pr xs->(∀H2,Same (cut H1 F) H2->Pr H2)->DenAll X.K (cut H1 F) xs ds->R J H1)->wi σ H R
noncomputable def iL(a:EvE):EvA:=λZ=>(a Z).bind asL
def j6(lo:Int)(n:Nat):List D:=(ao n).map λ(k:Nat)=>.int (lo+k)
noncomputable def iR(a:EvE):EvA:=λZ=>(a Z).bind λd=>(asI d).bind λn=>if -(2^62)<=n/\n<2^62 then cz (j6 0 n.toNat) else xn
noncomputable def iR2(a b:EvE):EvA:=λZ=>(a Z).bind λd=>(asI d).bind λm=>(b Z).bind λe=>(asI e).bind λn=>if (-(2^62)<=m/\m<2^62)/\-(2^62)<=n/\n<2^62 then cz (j6 m (n-m).toNat) else xn
noncomputable def iI(f:EvA):EvA:=λZ=>(f Z).bind λds=>if c9 ds then cz ds else xn
section
variable {X:Cx}{M:List Md}{a b e tg iter:Expr}{fa fb:EvE}{f:EvA}{ca cb:Cat}{pos p:fT}
def m6(h:PX X M a fa ca)(hc:frozen ca:=by trivial):PIX X M tg a (iL fa):=by
 obtain⟨t,p,q⟩:=h.out;refine⟨_,b5n p,λZ σ H P F ds R S hf k=>?_⟩;obtain⟨d,h1,h2⟩:=bnd hf;cases P6 h2
 refine q Z σ H P F _ _ S h1 λv H1 e1 r1=>?_
 obtain⟨aa,xs,rfl,k1,k2⟩:=(R1 hc r1).list_inv;exact⟨aa,rfl,⟨xs,(O4 k1 k6).l⟩,k _ xs _ H1 e1 a8a (λH2 e2=>(O4 k1 e2).l) k2⟩
def a4E:DenAll K H ((ao n).map λ(k:Nat)=>V.int (lo+k)) (j6 lo n):=by
 have:∀l:List Nat,DenAll K H (l.map λ(k:Nat)=>V.int (lo+k)) (l.map λ(k:Nat)=>aO (lo+k)):=by
  intro l
  induction l with
  |nil=>exact denAll_nil
  |cons x l ih=>exact denAll_cons den_int ih
 exact this _
def t7(hm:X.mg "range"=xn)(h:PX X M a fa ca)(hg:Gl X "range":=by rfl)(he:au [a] X.env=[(false,cC a X.env)]:=by rfl)(oX:au [a] X.env=(false,cC a X.env)::au [] X.env:=by rfl) :
  PIX X M tg (.Call (.Name "range" p) [a] [] pos) (iR fa):=by
 obtain⟨t,p,q⟩:=h.out;refine⟨_,b0t hg hm (j8 p o7 oX) he,λZ σ H P F ds R S hf k=>?_⟩;obtain⟨d,h1,g1⟩:=bnd hf;obtain⟨n,h2,g2⟩:=bnd g1;cases H9 h2
 by_cases c:-(2^62)<=n/\n<2^62
 ·rw[aD c]at g2;cases g2
  exact q Z σ H P F _ _ S h1 λv H1 e1 r1=>⟨n,by rw[r1.den.int_inv],c.1,c.2,k _ _ _ H1 e1 a1P (λ_ _=>trivial) a4E⟩
 ·rw[aM c]at g2;cases g2
def a2Y(hm:X.mg "range"=xn)(ha:PX X M a fa ca)(hb:PX X M b fb cb)(hg:Gl X "range":=by rfl)(he:au [a,b] X.env=[(false,cC a X.env),(false,cC b X.env)]:=by rfl)(mf:au [b] X.env=[(false,cC b X.env)]:=by rfl)
  (zb:au [a,b] X.env=(false,cC a X.env)::au [b] X.env:=by rfl) (oX:au [b] X.env=(false,cC b X.env)::au [] X.env:=by rfl) :
  PIX X M tg (.Call (.Name "range" p) [a,b] [] pos) (iR2 fa fb):=by
 obtain⟨ta,pa,qa⟩:=ha.out;obtain⟨tb,pb,qb⟩:=hb.out;refine⟨_,b0u hg hm (j8 pa (j8 pb o7 oX) zb) he mf,λZ σ H P F ds R S hf k=>?_⟩;obtain⟨d,h1,g1⟩:=bnd hf;obtain⟨m,h2,g2⟩:=bnd g1;cases H9 h2
 obtain⟨e,h3,g3⟩:=bnd g2;obtain⟨n,h4,g4⟩:=bnd g3;cases H9 h4
 by_cases c:(-(2^62)<=m/\m<2^62)/\-(2^62)<=n/\n<2^62
 ·rw[aD c]at g4;cases g4
  exact qa Z σ H P F _ _ S h1 λv H1 e1 r1=>qb Z σ H1 P F _ _ (S.grow e1) h3 λw H2 e2 r2=>⟨m,n,by rw[r1.den.int_inv,r2.den.int_inv],⟨c.1.1,c.1.2,c.2.1,c.2.2⟩,k _ _ _ H2 (e1.trans e2) a1P (λ_ _=>trivial) a4E⟩
 ·rw[aM c]at g4;cases g4
def PIX.i(h:PIX X M tg iter f):PIX X M tg iter (iI f):=by
 obtain⟨wi,p,q⟩:=h;refine⟨wi,p,λZ σ H P F ds R S hf k=>?_⟩;obtain⟨es,h1,g1⟩:=bnd hf;by_cases c:c9 es=true
 ·rw[aD c]at g1;cases g1
  exact q Z σ H P F _ R S h1 k
 ·rw[aM c]at g1;cases g1
end
def TgR(K:ag)(g:TG)(n:Nat)(pt:D->Option (List D)):Prop:=
 ∀(H Hc:Hp) (x:V) (d:D) (ds:List D) (σ:L2.St) (Q:L2.St->Hp->Prop),Same Hc H->Den K Hc x d->pt d=cz ds->n<=σ.length->(∀vs,DenAll K Hc vs ds->vs.length=n->Q (vs.map cz++σ.drop n) H)->g x σ H Q
def pt1(d:D):Option (List D):=cz [d]
def pt2:D->Option (List D)
 |.tuple [a,b]=>cz [a,b]
 |_=>xn
def v6:TgR K (K0 0) 1 pt1:=by
 intro H Hc x d ds σ Q e hd hp hn k;cases hp
 cases σ with
 |nil=>simp at hn
 |cons o σ=>exact k [x] (denAll_cons hd denAll_nil) rfl
def b5O:TgR K (b8b K 2 (a2K (K0 0) (a2K (K0 1) b5m))) 2 pt2:=by
 intro H Hc x d ds σ Q e hd hp hn k
 match d,hp with
 |.tuple [a,b],hp=>
  cases hp
  obtain⟨aa,xs,rfl,h1,h2⟩:=hd.tup_inv;obtain⟨v,w,rfl,h3,h4⟩:=a0F h2
  match σ,hn with
  |o::o'::σ,_=>
   exact⟨aa,_,rfl,a0i h1 e,rfl,v,[w],rfl,w,[],rfl,rfl,k [v,w] (denAll_cons h3 (denAll_cons h4 denAll_nil)) rfl⟩
noncomputable def N5(pt:D->Option (List D))(t:EvT)(g:EvE)(cs:List D):List D->Option (List D)
 |[]=>cz []
 |d::ds=>(pt d).bind λbs=>(t (bs++cs)).bind λk=>if k then (g (bs++cs)).bind λy=>(N5 pt t g cs ds).bind λys=>cz (y::ys) else N5 pt t g cs ds
noncomputable def l6(fi:EvA)(js:List Nat)(pt:D->Option (List D))(t:EvT)(g:EvE):EvE:=λZ=>(fi Z).bind λds=>if ds.length<=1000000 then (N5 pt t g (js.map λj=>Z.getD j .none) ds).bind λys=>cz (.list ys) else xn
noncomputable def tT:EvT:=λ_=>cz true
def V3(m:Md)(n:Nat)(M:List Md)(js:List Nat):List Md:=aG n m++js.map λj=>M.getD j .dead
section
variable {K:ag}{J:It}{Pr:Hp->Prop}{xs:List V}{Dl:ax}{g:TG}{tt:TT}{te:TE}{σ:L2.St}{H:Hp}{R:Hp->Prop}
def a4F(hw:Walks J Pr xs)(Pv:Nat->List V->L2.St->Hp->Prop)(h0:Pv 0 [] σ (upd H Dl (.lst [])))(hp:∀i ys σ H,Pv i ys σ H->Pr H)
  (hs:∀i x ys σ H,xs[i]?=cz x->Pv i ys σ H->g x σ H λσ3 H3=>tt σ3 H3 λb H4=>if b=true then te σ3 H4 λy H5=>H5 Dl=cz (.lst ys)/\ys.length<a_/\Pv (i+1) (ys++[y]) σ3 (upd H5 Dl (.lst (ys++[y]))) else Pv (i+1) ys σ3 H4)
  (hd:∀ys σ H,Pv xs.length ys σ H->R H) :
  ∃W:Nat->Nat->List V->L2.St->Hp->Prop,(∃m,W 0 m [] σ (upd H Dl (.lst [])))/\∀i m ys σ' H',W i m ys σ' H'->(J.stop i H'/\R H')∨
   (J.go i H'/\∃(N:V->L2.St->Hp->Prop) (NO:L2.St->Hp->Prop),(∀y σ3 H4,N y σ3 H4->H4 Dl=cz (.lst ys)/\ys.length<a_/\∃m',m'<m/\W (i+1) m' (ys++[y]) σ3 (upd H4 Dl (.lst (ys++[y]))))/\
    (∀σ3 H4,NO σ3 H4->∃m',m'<m/\W (i+1) m' ys σ3 H4)/\∀x H2,J.yld i H' x H2->g x σ' H2 λσ3 H3=>tt σ3 H3 λb H4=>if b=true then te σ3 H4 λy H5=>N y σ3 H5 else NO σ3 H4):=by
 refine⟨λi m ys σ H=>m=xs.length-i/\i<=xs.length/\Pv i ys σ H,⟨xs.length,by simp,cE _,h0⟩,?_⟩;rintro i m ys σ H ⟨rfl,hi,p⟩;have q:=hp i ys σ H p;by_cases iX:i<xs.length
 ·refine .inr ⟨hw.go i H q iX,λy σ3 H4=>H4 Dl=cz (.lst ys)/\ys.length<a_/\Pv (i+1) (ys++[y]) σ3 (upd H4 Dl (.lst (ys++[y]))),λσ3 H4=>Pv (i+1) ys σ3 H4,λy σ3 H4 ⟨r1,r2,r3⟩=>⟨r1,r2,xs.length-(i+1),by lia,rfl,iX,r3⟩,λσ3 H4 r3=>⟨xs.length-(i+1),by lia,rfl,iX,r3⟩,λx H' y=>?_⟩;obtain⟨e,yy⟩:=hw.yld i H x H' q iX y;subst e;exact hs i x ys σ _ yy p
 ·have e:i=xs.length:=by lia
  subst e;exact .inl ⟨hw.stop _ H q (az _),hd ys σ H p⟩
end
def b2M{Z:List D}{js:List Nat}(S:StE K M Z σ H P F)(hm:m=.i∨m=.f)(hv:DenAll K (cut H F) vs bs)(hi:m=.i->c9 bs=true)(hn:vs.length=n)
  (hσ:σb=vs.map cz++js.map λj=>(σ[j]?).getD xn):StE K (V3 (.own m) n M js) (bs++js.map λj=>Z.getD j .none) σb H P F:=by
 obtain⟨G,h1,h3⟩:=S.all;obtain⟨G',q,hq⟩:=h1.pick h3 js;refine⟨⟨G',?_,hq⟩,S.lst,S.prot⟩;subst hσ hn;unfold V3;have key:∀{vs:List V} {bs:List D},DenAll K (cut H F) vs bs->(m=.i->c9 bs=true)->StAll K H F (aG vs.length (.own m)++js.map λj=>M.getD j .dead) (bs++js.map λj=>Z.getD j .none) (vs.map cz++js.map λj=>(σ[j]?).getD xn) G':=by
  intro vs
  induction vs with
  |nil=>
   intro bs h _;have hl:=h.length;have:bs=[]:=ie.mp (by simpa using hl.symm);subst this;exact q
  |cons v vs ih=>
   intro bs h hi;cases bs with
   |nil=>have:=h.length;simp at this
   |cons b bs=>
    obtain⟨v',r,e,h4,h5⟩:=h.cons_inv;cases e
    have:=i5 (K:=K) (H:=H) (F:=F) (m:=.own m) (d:=b) (o:=cz v) (f:=[]) ⟨v,rfl,by
     rcases hm with rfl|rfl
     ·have:=hi rfl;simp only[c9,aB]at this;simp only[Own];exact⟨trivial,this.1,h4⟩
     ·simp only[Own];exact⟨trivial,h4⟩⟩ (ih h5 λe=>by have:=hi e;simp only[c9,aB]at this;exact this.2)
    simpa[gQ]using this
 exact key hv hi
def a8b(h:N5 pt t g cs (d::ds)=cz rs) :
  ∃bs k,pt d=cz bs/\t (bs++cs)=cz k/\((k=true/\∃y ys,g (bs++cs)=cz y/\N5 pt t g cs ds=cz ys/\rs=y::ys)∨(k=false/\N5 pt t g cs ds=cz rs)):=by
 simp only[N5]at h;obtain⟨bs,h1,g1⟩:=bnd h;obtain⟨k,h2,g2⟩:=bnd g1;refine⟨bs,k,h1,h2,?_⟩;cases k with
 |true=>
  rw[aD rfl]at g2;obtain⟨y,h3,g3⟩:=bnd g2;obtain⟨ys,h4,g4⟩:=bnd g3;cases g4
  exact .inl ⟨rfl,y,ys,h3,h4,rfl⟩
 |false=>
  rw[aM cw]at g2;exact .inr ⟨rfl,g2⟩
section
variable {X:Cx}{M:List Md}{tn ys:List bG}{js:List Nat}{scope:gD}{elt tg iter:Expr}{ifs:List Expr}{pos:fT}{g:TG}{n:Nat}{pt:D->Option (List D)}{fi:EvA}{ft:EvT}{fe:EvE}{u m:Ty}
def a4G(hi:∀(Z:List D) (σ:L2.St) (H P:Hp) (F:List ax) (ds:List D) (R:It->Hp->Prop),StE X.K M Z σ H P F->fi Z=cz ds->
   (∀J xs Pr H1,Same H H1->Walks J Pr xs->(∀H2,Same (cut H1 F) H2->Pr H2)->DenAll X.K (cut H1 F) xs ds->R J H1)->wi σ H R)
  (hg:TgR X.K g n pt) (hm:m=.i∨m=.f) (rQ:m=.i->∀Z ds,fi Z=cz ds->∀d∈ds,∀bs,pt d=cz bs->c9 bs=true) (ve:tn.length=n)
  {Z:List D} (S:StE X.K M Z σ H P F) (hf:l6 fi js pt ft fe Z=cz d) (q:∀v H',Same H H'->ResR X.K (.new (.l u)) H H' F v d->Q v H') :
  a5u wi g (spT X.K (V3 (.own m) n M js) ft) (spE X.K (V3 (.own m) n M js) fe (.new u)) (a1f tn js) σ H Q:=by
 obtain⟨ds,h1,g1⟩:=bnd hf;by_cases hz:ds.length<=1000000
 ·rw[aD hz]at g1;obtain⟨res,h2,g2⟩:=bnd g1;cases g2
  refine hi Z σ H P F ds _ S h1 λJ xs Pr H1 e1 hw qT hx Dl hD=>?_
  have oD:=hx.length;have zD:Dl∉F:=λz=>by obtain⟨zs,w⟩:=S.lst' e1 Dl z;rw[hD]at w;cases w
  refine a4F hw (λi ys σ' H'=>(∃os:L2.St,os.length=n/\σ'=os++js.map λj=>(σ[j]?).getD xn)/\H' Dl=cz (.lst ys)/\Same H1 H'/\∃(fp:List ax) (zs rs:List D),ListAll (Own X.K H' (Dl::fp++F) u) ys zs fp/\fp.Nodup/\(∀a∈fp,H1 a=xn)/\Dl∉fp/\
    N5 pt ft fe (js.map λj=>Z.getD j .none) (ds.drop i)=cz rs/\res=zs++rs/\ys.length<=i) ?_ ?_ ?_ ?_
  ·exact⟨⟨_,by rw[gu];exact ve,rfl⟩,g8,k9 hD _,[],[],res,p5,bI,λa ha=>(nomatch ha),λh=>(nomatch h),h2,rfl,az _⟩
  ·rintro i ys σ' H' ⟨_,_,e,_⟩;exact qT H' (k6.trans e)
  ·rintro i x ys σ' H' pR ⟨⟨os,ho,rfl⟩,uB,e2,fp,zs,rs,jk,nr,nQ,qo,hc,pV,yg⟩;obtain⟨d,oY,_⟩:=hx.getV pR;have mT:i<ds.length:=(aQ.mp oY).1;have ny:ds.drop i=d::ds.drop (i+1):=by
    rw[dO mT]
    congr 1;exact (aQ.mp oY).2
   rw[ny]at hc;obtain⟨bs,k,rR,jV,CM⟩:=a8b hc;have hfl:∀a∈Dl::fp,∃zs:MuO,H' a=cz zs.1:=λa ha=>by
    rcases aI.mp ha with z|z
    ·subst z;exact⟨⟨.lst ys,trivial⟩,uB⟩
    ·exact jk.lst (u:=u) (λv d f q=>q.lst u) a z
   have oe:∀a∈Dl::fp,H1 a=xn:=λa ha=>by
    rcases aI.mp ha with z|z
    ·subst z;exact hD
    ·exact nQ a z
   have S1:StE X.K M Z σ H' P (Dl::fp++F):=(S.grow e1).more (fp:=Dl::fp) e2 oe hfl;have ze:DenAll X.K (cut H' (Dl::fp++F)) xs ds:=hx.up (a0B (fp:=Dl::fp) e2 oe);obtain⟨d',vR,rW⟩:=ze.getV pR;rw[oY]at vR;cases vR
   refine hg H' _ x d bs _ _ k6 rW rR (by rw[aA,ho];lia) λvs qD yk=>?_
   rw[oN (by lia),List.drop_of_length_le (by lia),bK];have SB:StE X.K (V3 (.own m) n M js) (bs++js.map λj=>Z.getD j .none) (vs.map cz++js.map λj=>(σ[j]?).getD xn) H' P (Dl::fp++F):=
    b2M S1 hm qD (λe=>rQ e Z ds h1 d (bh oY) bs rR) yk rfl
   refine⟨_,P,_,k,SB,jV,λH3 e3=>?_⟩;rcases CM with⟨rfl,y,rest,CK,yE,rfl⟩|⟨rfl,yE⟩
   ·refine a5r ⟨_,P,_,y,SB.grow e3,CK,λv H4 e4 ⟨gp,o,nd,fr⟩=>?_⟩;have xA:=e3.trans e4;have AO:Dl∉gp:=λz=>by have w:=fr Dl z;rw[e3 _ _ uB]at w;cases w
    have DD:∀a∈gp,a∉fp:=λa ha z=>by
     obtain⟨zs,w⟩:=hfl a (aw _ z);have w2:=fr a ha;rw[e3 _ _ w]at w2;cases w2
    have mo:∀a,a∈Dl::(fp++gp)++F->a∈gp++(Dl::fp++F):=λa ha=>by
     simp only[bE,aI,ar]at ha ⊢;rcases ha with z|(z|z)|z
     ·exact .inr (.inl z)
     ·exact .inr (.inr (.inl z))
     ·exact .inl z
     ·exact .inr (.inr (.inr z))
    have zj:Same (cut H' (Dl::fp++F)) (cut (upd H4 Dl (.lst (ys++[v]))) (Dl::(fp++gp)++F)):=λa o' ha=>by
     obtain⟨n1,n2⟩:=l7 ha;have iU:a≠Dl:=λz=>n1 (by rw[z];exact ak _ aL)
     refine i4 (λz=>?_) (by rw[b9 iU];exact xA _ _ n2);rcases ar.mp (mo a z) with w|w
     ·have:=fr a w;rw[e3 _ _ n2]at this;cases this
     ·exact n1 w
    have DV:Same (cut H4 (gp++(Dl::fp++F))) (cut (upd H4 Dl (.lst (ys++[v]))) (Dl::(fp++gp)++F)):=λa o' ha=>by
     obtain⟨n1,n2⟩:=l7 ha;have iU:a≠Dl:=λz=>n1 (by rw[z];exact ah _ (ak _ aL))
     exact i4 (λz=>n1 (mo a z)) (by rw[b9 iU];exact n2)
    refine⟨xA _ _ uB,?_,⟨_,by rw[ai];exact yk,rfl⟩,g8,?_,fp++gp,zs++[y],rest,?_,?_,?_,?_,yE,by rw[pV,aP];rfl,by rw[aA];simp;lia⟩
    ·exact hJ (cV yg (cV (fw mT) hz)) (by rw[dt];decide)
    ·exact b2v (e2.trans xA) hD _
    ·refine (n6 zj jk λa ha=>?_).append ?_
     ·rw[b9 (show a≠Dl from λz=>qo (z▸ha))];obtain⟨zs,w⟩:=hfl a (aw _ ha);rw[w,xA _ _ w]
     ·have:=m7 (R:=Own X.K (upd H4 Dl (.lst (ys++[v]))) (Dl::(fp++gp)++F) u) (o.frame DV u λa ha=>b9 (λz=>AO (z▸ha))) p5
      rwa[bb]at this
    ·rw[bC];exact⟨nr,nd,λa ha b hb e=>DD b hb (e▸ha)⟩
    ·intro a ha;rcases ar.mp ha with z|z
     ·exact nQ a z
     ·exact (e2.trans e3).free (fr a z)
    ·intro z;rcases ar.mp z with w|w
     ·exact qo w
     ·exact AO w
   ·refine a6t ?_;have zj:Same (cut H' (Dl::fp++F)) (cut H3 (Dl::fp++F)):=G9 e3;refine⟨⟨_,by rw[ai];exact yk,rfl⟩,e3 _ _ uB,e2.trans e3,fp,zs,rs,n6 zj jk λa ha=>?_,nr,nQ,qo,yE,pV,by lia⟩;obtain⟨zs,w⟩:=hfl a (aw _ ha);rw[w,e3 _ _ w]
  ·rintro ys σ' H' ⟨_,uB,e2,fp,zs,rs,jk,nr,nQ,qo,hc,pV,_⟩;rw[oD,iT]at hc;cases hc
   rw[bb]at pV;subst pV;refine q (.ref Dl) H' (e1.trans e2) ⟨Dl::fp,?_,bZ.mpr ⟨qo,nr⟩,λa ha=>?_⟩
   ·simp only[Own];exact .inr ⟨Dl,ys,res,fp,rfl,uB,rfl,rfl,jk⟩
   ·rcases aI.mp ha with z|z
    ·subst z;exact e1.free hD
    ·exact e1.free (nQ a z)
 ·rw[aM hz]at g1;cases g1
def v7(hc:X.calm=true)(hi:PIX X M tg iter fi)(C:Q8 scope X.env.kindOf ys js X.N=true)(hg:∀cl Cl s H fp,PG (G8 X (tn++ys) scope cl Cl s H fp) tg g)(yW:TgR X.K g n pt)(hm:m=.i∨m=.f)
  (rQ:m=.i->∀Z ds,fi Z=cz ds->∀d∈ds,∀bs,pt d=cz bs->c9 bs=true) (ve:tn.length=n)
  (ht:∀cl Cl s H fp,PTs (G8 X (tn++ys) scope cl Cl s H fp) ifs (spT X.K (V3 (.own m) n M js) ft)) (he:∀cl Cl s H fp,PX (G8 X (tn++ys) scope cl Cl s H fp) (V3 (.own m) n M js) elt fe (.new u))
  (hs:∀x,eK iter X.env x=pure x:=by intro _;rfl):PX X M (.ListComp elt [⟨tg,iter,ifs,0⟩] scope pos) (l6 fi js pt ft fe) (.new (.l u)):=by
 obtain⟨wi,pi,qi⟩:=hi;exact .mk ⟨_,a6u (te:=spE X.K (V3 (.own m) n M js) fe (.new u)) hc pi C hg ht he hs,λZ σ H P F d Q S hf q=>a4G qi yW hm rQ ve S hf q⟩
def v8:∀{X':Cx} {M':List Md},PTs X' [] (spT X'.K M' tT):=λ{X' M'} pins s σ H Q I ⟨Z,P,F,b,S,hb,q⟩=>by
 cases hb
 exact a9l pins s σ H Q I (q H (Same.refl _))
def b8F(h:PTX X' M' c f):PTs X' [c] (spT X'.K M' f):=b5C h
def a2Z:(Ty.f=Ty.i)->∀(Z ds:List D),fi Z=cz ds->∀d∈ds,∀bs,pt d=cz bs->c9 bs=true:=λh=>nomatch h
def a4H:(Ty.i=Ty.i)->∀(Z ds:List D),iI fi Z=cz ds->∀d∈ds,∀bs,pt1 d=cz bs->c9 bs=true:=λ_ Z ds h d hd bs hb=>by
 obtain⟨es,_,g1⟩:=bnd h;by_cases c:c9 es=true
 ·rw[aD c]at g1;cases g1
  cases hb
  simp only[c9,eN];exact C2 c hd
 ·rw[aM c]at g1;cases g1
def c0I:(Ty.i=Ty.i)->∀(Z ds:List D),iI fi Z=cz ds->∀d∈ds,∀bs,pt2 d=cz bs->c9 bs=true:=λ_ Z ds h d hd bs hb=>by
 obtain⟨es,_,g1⟩:=bnd h;by_cases c:c9 es=true
 ·rw[aD c]at g1;cases g1
  have:=C2 c hd
  match d,hb with
  |.tuple [a,b],hb=>
   cases hb
   simpa only [imm]using this
 ·rw[aM c]at g1;cases g1
def a0I(lo:Int)(n:Nat):c9 (j6 lo n)=true:=by
 have:∀l:List Nat,c9 (l.map λ(k:Nat)=>aO (lo+k))=true:=by
  intro l
  induction l with
  |nil=>simp only[c_,c9]
  |cons x l ih=>simp only[ay,c9,imm,ih,eO]
 exact this _
def a6A:(Ty.i=Ty.i)->∀(Z ds:List D),iR fa Z=cz ds->∀d∈ds,∀bs,pt1 d=cz bs->c9 bs=true:=λ_ Z ds h d hd bs hb=>by
 obtain⟨x,h1,g1⟩:=bnd h;obtain⟨k,h2,g2⟩:=bnd g1
 split at g2
 ·cases g2
  cases hb
  simp only[c9,eN];exact C2 (a0I _ _) hd
 ·cases g2
def b8G:(Ty.i=Ty.i)->∀(Z ds:List D),iR2 fa fb Z=cz ds->∀d∈ds,∀bs,pt1 d=cz bs->c9 bs=true:=λ_ Z ds h d hd bs hb=>by
 obtain⟨x,h1,g1⟩:=bnd h;obtain⟨k,h2,g2⟩:=bnd g1;obtain⟨y,h3,g3⟩:=bnd g2;obtain⟨k',h4,g4⟩:=bnd g3
 split at g4
 ·cases g4
  cases hb
  simp only[c9,eN];exact C2 (a0I _ _) hd
 ·cases g4
end
section
variable {K:ag}{H H' P:Hp}{F F':List ax}
theorem StAll.split:∀{A B:List Md} {Z:List D} {σ:L2.St} {G:List ax},StAll K H F (A++B) Z σ G->∃Z1 Z2 σ1 σ2 G1 G2,Z=Z1++Z2/\σ=σ1++σ2/\G=G1++G2/\StAll K H F A Z1 σ1 G1/\StAll K H F B Z2 σ2 G2
 |[],B,Z,σ,G,h=>⟨[],Z,[],σ,[],G,rfl,rfl,rfl,L5,h⟩
 |m::A,B,_,_,_,h=>by
  simp only[bE,StAll]at h;obtain⟨d,Z,o,σ,f,g,rfl,rfl,rfl,h1,h2⟩:=h;obtain⟨Z1,Z2,σ1,σ2,G1,G2,rfl,rfl,rfl,h3,h4⟩:=StAll.split h2;exact⟨d::Z1,Z2,o::σ1,σ2,f++G1,G2,rfl,rfl,by rw[aP],i5 h1 h3,h4⟩
theorem StAll.join:∀{A B:List Md} {Z1 Z2:List D} {σ1 σ2:L2.St} {G1 G2:List ax},StAll K H F A Z1 σ1 G1->StAll K H F B Z2 σ2 G2->StAll K H F (A++B) (Z1++Z2) (σ1++σ2) (G1++G2)
 |[],B,_,_,_,_,_,_,h,q=>by
  simp only[StAll]at h;obtain⟨rfl,rfl,rfl⟩:=h;exact q
 |m::A,B,_,_,_,_,_,_,h,q=>by
  simp only[StAll]at h;obtain⟨d,Z,o,σ,f,g,rfl,rfl,rfl,h1,h2⟩:=h;rw[aP];exact i5 h1 (StAll.join h2 q)
def a6B{α:Type}{a b c d:List α}(h:a++b=c++d)(hl:a.length=c.length):a=c/\b=d:=List.append_inj h hl
def StAll.splitAt{A B:List Md}{Z1 Z2:List D}{σ1 σ2:L2.St}(h:StAll K H F (A++B) (Z1++Z2) (σ1++σ2) G)(hZ:Z1.length=A.length)(hσ:σ1.length=A.length):∃G1 G2,G=G1++G2/\StAll K H F A Z1 σ1 G1/\StAll K H F B Z2 σ2 G2:=by
 obtain⟨r1,r2,s1,s2,G1,G2,e1,e2,e3,h1,h2⟩:=h.split;obtain⟨l1,l2⟩:=h1.len;obtain⟨rfl,rfl⟩:=a6B e1 (by lia);obtain⟨rfl,rfl⟩:=a6B e2 (by lia);exact⟨G1,G2,e3,h1,h2⟩
theorem V4:∀{us:List Ty} {vs:List V} {ds:List D} {G:List ax},StAll K H F (us.map Md.own) ds (vs.map cz) G->OwnTs K H F us vs ds G
 |[],vs,ds,G,h=>by
  simp only[c_,StAll]at h;obtain⟨rfl,e,rfl⟩:=h;have:vs=[]:=by simpa using e
  subst this;simp only[OwnTs];exact⟨trivial,trivial,trivial⟩
 |u::us,vs,ds,G,h=>by
  simp only[ay,StAll]at h;obtain⟨d,Z,o,σ,f,g,rfl,e,rfl,⟨v,rfl,h1⟩,h2⟩:=h;cases vs with
  |nil=>simp at e
  |cons v' vs=>
   simp only[ay,gk,nH]at e;obtain⟨rfl,rfl⟩:=e;simp only[OwnTs];exact⟨v',vs,d,Z,f,g,rfl,rfl,rfl,h1,V4 h2⟩
end
def Pend(K:ag)(Mp:List Md)(Zp:List D)(σp:L2.St)(M:List Md)(Z:List D)(σ:L2.St)(H P:Hp)(F:List ax):Prop:=
 Zp.length=Mp.length/\σp.length=Mp.length/\StR K (Mp++M) (Zp++Z) (σp++σ) H P F
section
variable {K:ag}{Mp M:List Md}{Zp Z:List D}{σp σ:L2.St}{H H' P:Hp}{F:List ax}
def Pend.e(h:Pend K Mp Zp σp M Z σ H P F):StE K M Z σ H P F:=by
 obtain⟨l1,l2,S⟩:=h;obtain⟨G,h1,h2,h3⟩:=S.all;obtain⟨G1,G2,rfl,_,h4⟩:=h1.splitAt l1 l2;exact⟨⟨G2,h4,λa ha=>h3 a (ah _ ha)⟩,S.lst,S.prot⟩
theorem Pend.grow(h:Pend K Mp Zp σp M Z σ H P F)(e:Same H H'):Pend K Mp Zp σp M Z σ H' P F:=⟨h.1,h.2.1,h.2.2.grow e⟩
def Pend.new(h:Pend K Mp Zp σp M Z σ H P F)(e:Same H H')(o:Own K H' (fp++F) u v d fp)(nd:fp.Nodup)(fr:∀a∈fp,H a=xn):Pend K (Mp++[.own u]) (Zp++[d]) (σp++[cz v]) M Z σ H' P (fp++F):=by
 obtain⟨l1,l2,S⟩:=h;refine⟨by simp[l1],by simp[l2],?_⟩;have S1:=S.more e fr (o.lst u);obtain⟨G,h1,h2,h3⟩:=S.all;obtain⟨G1,G2,rfl,h4,h5⟩:=h1.splitAt l1 l2;have hc:Same (cut H F) (cut H' (fp++F)):=a0B e fr;have k:∀a∈G1++G2,H' a=H a:=λa ha=>S.toE.keep e a (h3 a ha)
 have q:=(h4.frame hc λa ha=>k a (ak _ ha)).join ((i5 (m:=.own u) (d:=d) (o:=cz v) (f:=fp) ⟨v,rfl,o⟩ (h5.frame hc λa ha=>k a (ah _ ha))));refine⟨⟨G1++(fp++G2),by simpa using q,X8 h2 nd λa ha z=>?_,λa ha=>?_⟩,S1.lst,S1.prot⟩
 ·obtain⟨ys,w⟩:=S.lst a (h3 a z);rw[fr a ha]at w;cases w
 ·rcases a2A ha with z|z
  ·exact ak _ z
  ·exact ah _ (h3 a z)
def Pend.move(h:Pend K Mp Zp σp M Z σ H P F)(hm:M[i]?=cz (.own u)):∃v,σ[i]?=cz (cz v)/\Pend K (Mp++[.own u]) (Zp++[Z.getD i .none]) (σp++[cz v]) (M.set i .dead) Z σ H P F:=by
 obtain⟨l1,l2,S⟩:=h;obtain⟨G,h1,h2,h3⟩:=S.all;obtain⟨G1,G2,rfl,h4,h5⟩:=h1.splitAt l1 l2;obtain⟨d,o,f,pre,post,e1,e2,⟨v,rfl,e3⟩,rfl,e5⟩:=h5.at_ hm;have q:=e5 H F .dead d (cz v) [] (λ_ _=>rfl) (Same.refl _) rfl;rw[set_same e1,set_same e2]at q;refine⟨v,e2,by simp[l1],by simp[l2],⟨⟨G1++(f++(pre++([]++post))),?_,?_,λa ha=>h3 a ?_⟩,S.lst,S.prot⟩⟩
 ·have:=h4.join (i5 (m:=.own u) (d:=d) (o:=cz v) (f:=f) ⟨v,rfl,e3⟩ q);rw[A9 e1];simpa using this
 ·rw[bK];refine (List.Perm.nodup_iff ?_).mp h2;refine lI G1 ?_;exact List.perm_append_comm_assoc pre f post
 ·simp only[ar,bK]at ha ⊢;rcases ha with z|z|z|z
  ·exact .inl z
  ·exact .inr (.inr (.inl z))
  ·exact .inr (.inl z)
  ·exact .inr (.inr (.inr z))
end
noncomputable def PMX(X:Cx)(M:List Md)(e:Expr)(f:EvE)(u:Ty)(M1:List Md):Prop:=
 ∃t,PE X e t/\∀(Mp:List Md) (Zp:List D) (σp:L2.St) (Z:List D) (σ:L2.St) (H P:Hp) (F:List ax) (d:D) (Q:VK),Pend X.K Mp Zp σp M Z σ H P F->f Z=cz d->
  (∀v H' F',Same H H'->Pend X.K (Mp++[.own u]) (Zp++[d]) (σp++[cz v]) M1 Z σ H' P F'->Q v H')->t σ H Q
noncomputable def PMA(X:Cx)(M:List Md)(es:List Expr)(f:EvA)(us:List Ty)(M1:List Md):Prop:=
 ∃t,PA X es t/\∀(Mp:List Md) (Zp:List D) (σp:L2.St) (Z:List D) (σ:L2.St) (H P:Hp) (F:List ax) (ds:List D) (Q:List V->Hp->Prop),Pend X.K Mp Zp σp M Z σ H P F->f Z=cz ds->
  (∀vs H' F',vs.length=us.length->ds.length=us.length->Same H H'->Pend X.K (Mp++us.map .own) (Zp++ds) (σp++vs.map cz) M1 Z σ H' P F'->Q vs H')->t σ H Q
section
variable {X:Cx}{M M1 M2:List Md}{e:Expr}{es:List Expr}{f:EvE}{fa:EvA}{u:Ty}{us:List Ty}{pos:fT}
def a9(h:PX X M e f (.new u)):PMX X M e f u M:=by
 obtain⟨t,p,q⟩:=h.out;refine⟨t,p,λMp Zp σp Z σ H P F d Q S hf k=>q Z σ H P F d Q S.e hf λv H' e ⟨fp,o,nd,fr⟩=>k v H' _ e (S.new e o nd fr)⟩
def B0(i:Nat)(hN:X.N[i]?=cz x:=by rfl)(hv:Vis X.env.scope x:=by first|exact bO rfl|exact bN (bO rfl)|exact bN (bN rfl))(hd:(x==("__debug__":bG))=false:=by decide)
  (iE:(x==("__classdict__":bG))=false:=by decide) (hm:M[i]?=cz (.own u):=by rfl):PMX X M (.Name x pos) (a6 i) u (M.set i .dead):=by
 refine⟨_,A0 hN hv hd iE,λMp Zp σp Z σ H P F d Q S hf k=>?_⟩;cases hf
 obtain⟨v,e,S'⟩:=S.move hm;exact⟨v,e,k v H F (Same.refl _) S'⟩
def b5P:PMA X M [] b8 [] M:=⟨_,o7,λMp Zp σp Z σ H P F ds Q S hf k=>by
 cases hf
 exact k [] H F rfl rfl (Same.refl _) (by simpa using S)⟩
def a6C(h:PMX X M e f u M1)(hr:PMA X M1 es fa us M2)(hs:au (e::es) X.env=(false,cC e X.env)::au es X.env:=by rfl):PMA X M (e::es) (a7 f fa) (u::us) M2:=by
 obtain⟨t,p,q⟩:=h;obtain⟨tr,pr,qr⟩:=hr;refine⟨_,j8 p pr hs,λMp Zp σp Z σ H P F ds Q S hf k=>?_⟩;obtain⟨x,h1,g1⟩:=bnd hf;obtain⟨xs,h2,g2⟩:=bnd g1;cases g2
 refine q Mp Zp σp Z σ H P F x _ S h1 λv H1 F1 e1 S1=>qr _ _ _ Z σ H1 P F1 xs _ S1 h2 λvs H2 F2 l1 l2 e2 S2=>k (v::vs) H2 F2 (by simp[l1]) (by simp[l2]) (e1.trans e2) ?_
 simpa using S2
def Pend.pack{Zp Z:List D}{us:List Ty}{vs:List V}(h:Pend K (Mp++us.map .own) (Zp++ds) (σp++vs.map cz) M Z σ H P F)
  (lp:Zp.length=Mp.length) (lq:σp.length=Mp.length) (l1:vs.length=us.length) (l2:ds.length=us.length) (hp:H p=xn)
  (mk:∀G,OwnTs K H F us vs ds G->G.Nodup->(∀a∈G,a∈F)->∃se F',(∀a,a∈F'↔a∈se∨a∈F)/\(∀a∈se,a=p∨a∈G)/\se.Nodup/\Own K (upd H p o) F' u (.ref p) d se/\(p∈se->∃ys,o=.lst ys)) :
  ∃F',Pend K (Mp++[.own u]) (Zp++[d]) (σp++[cz (.ref p)]) M Z σ (upd H p o) P F':=by
 obtain⟨_,_,S⟩:=h;obtain⟨G,h1,h2,h3⟩:=S.all;obtain⟨G1,G2,rfl,h4,h5⟩:=h1.splitAt (by simp[lp,l2]) (by simp[lq,l1]);obtain⟨G3,G4,rfl,h6,h7⟩:=h4.splitAt lp lq;have CY:G4.Nodup:=by rw[bC]at h2;exact (bC.mp h2.1).2.1
 obtain⟨se,F',uA,yX,nr,own,gH⟩:=mk G4 (V4 h7) CY λa ha=>h3 a (ak _ (ah _ ha))
 have yD:p∉F:=λz=>by obtain⟨ys,w⟩:=S.lst p z;rw[hp]at w;cases w
 have hc:Same (cut H F) (cut (upd H p o) F'):=λa o' ha=>by
  obtain⟨n1,n2⟩:=l7 ha;have iU:a≠p:=λz=>by rw[z,hp]at n2;cases n2
  refine i4 (λz=>?_) (by rw[b9 iU];exact n2);rcases (uA a).mp z with w|w
  ·rcases yX a w with y|y
   ·exact iU y
   ·exact n1 (h3 a (ak _ (ah _ y)))
  ·exact n1 w
 have k:∀a∈F,upd H p o a=H a:=λa ha=>b9 λz=>yD (z▸ha)
 have q:=(h6.frame hc λa ha=>k a (h3 a (ak _ (ak _ ha)))).join (i5 (m:=.own u) (d:=d) (o:=cz (.ref p)) (f:=se) ⟨_,rfl,own⟩ (h5.frame hc λa ha=>k a (h3 a (ah _ ha))));refine⟨F',by simp[lp],by simp[lq],⟨⟨G3++(se++G2),by simpa using q,X8 ?_ nr λa ha z=>?_,λa ha=>?_⟩,λa ha=>?_,S.prot.trans hc⟩⟩
 ·rw[aP]at h2;exact P4 h2
 ·rcases yX a ha with w|w
  ·subst w;exact yD (h3 a (by
    rcases ar.mp z with y|y
    ·exact ak _ (ak _ y)
    ·exact ah _ y))
  ·rw[aP]at h2;exact a1g h2 a w z
 ·rcases a2A ha with z|z
  ·exact (uA a).mpr (.inl z)
  ·refine (uA a).mpr (.inr (h3 a ?_));rcases ar.mp z with y|y
   ·exact ak _ (ak _ y)
   ·exact ah _ y
 ·rcases (uA a).mp ha with z|z
  ·rcases yX a z with w|w
   ·subst w;obtain⟨ys,rfl⟩:=gH z;exact⟨⟨.lst ys,trivial⟩,g8⟩
   ·have lE:=h3 a (ak _ (ah _ w));obtain⟨ys,y⟩:=S.lst a lE;exact⟨ys,by rw[k a lE];exact y⟩
  ·obtain⟨ys,y⟩:=S.lst a z;exact⟨ys,by rw[k a z];exact y⟩
def b5Q{j}(h:PMA X M es fa us M1)(hn:us.length<=1000:=by decide):PMX X M (.Tuple es j pos) (O7 fa) (.tp us) M1:=by
 obtain⟨t,p,q⟩:=h;refine⟨_,a7N p,λMp Zp σp Z σ H P F d Q S hf k=>?_⟩;obtain⟨ds,h1,g1⟩:=bnd hf;cases g1
 refine q Mp Zp σp Z σ H P F ds _ S h1 λvs H1 F1 l1 l2 e1 S1=>⟨by rw[l1];exact fw (X6 hn),λx hx=>?_⟩
 have yh:x∉F1:=λz=>by obtain⟨ys,w⟩:=S1.2.2.lst x z;rw[hx]at w;cases w
 obtain⟨F2,S2⟩:=S1.pack (o:=.tup vs) (u:=.tp us) (d:=.tuple ds) S.1 S.2.1 l1 l2 hx λG o nd sub=>by
  refine⟨G,F1,λa=>⟨λz=>.inr z,λz=>z.elim (sub a) id⟩,λa ha=>.inr ha,nd,?_,λz=>absurd (sub x z) yh⟩;simp only[Own];refine⟨x,vs,ds,rfl,g8,yh,rfl,o.frame (G9 (k9 hx _)) us λa ha=>b9 λz=>yh (z▸sub a ha)⟩
 exact k _ _ F2 (e1.trans (k9 hx _)) S2
end
def dAt:Ty->D->List Nat->Option (Ty×D)
 |u,d,[]=>cz (u,d)
 |.l u,.list ds,j::p=>(ds[j]?).bind λd=>dAt u d p
 |.tp us,.tuple ds,j::p=>(us[j]?).bind λu=>(ds[j]?).bind λd=>dAt u d p
 |_,_,_=>xn
def a2u:D->List Nat->D->D
 |_,[],e=>e
 |.list ds,j::p,e=>.list (ds.set j (a2u (ds.getD j .none) p e))
 |.tuple ds,j::p,e=>.tuple (ds.set j (a2u (ds.getD j .none) p e))
 |d,_,_=>d
def wk(H:Hp):V->List Nat->V->Prop
 |v,[],w=>w=v
 |v,j::p,w=>∃a xs v1,v=.ref a/\(H a=cz (.lst xs)∨H a=cz (.tup xs))/\xs[j]?=cz v1/\wk H v1 p w
theorem b2N(e:Same H H'):∀{p:List Nat} {v w:V},wk H v p w->wk H' v p w
 |[],_,_,h=>h
 |j::p,_,_,h=>by
  obtain⟨a,xs,v1,h1,h2,h3,h4⟩:=h;exact⟨a,xs,v1,h1,h2.imp (e _ _) (e _ _),h3,b2N e h4⟩
section
variable {K:ag}{H H':Hp}{F F':List ax}
theorem ListAll.zip:∀{ds:List D} {xs:List V} {fp:List ax} {j:Nat} {d:D},ListAll (Own K H F u) xs ds fp->ds[j]?=cz d->
  ∃v f pre post,xs[j]?=cz v/\Own K H F u v d f/\fp=pre++(f++post)/\
   ∀(H':Hp) (F':List ax) (v':V) (d':D) (f':List ax),(∀a∈pre++post,H' a=H a)->Same (cut H F) (cut H' F')->Own K H' F' u v' d' f'->ListAll (Own K H' F' u) (xs.set j v') (ds.set j d') (pre++(f'++post))
 |[],_,_,j,d,_,e=>by simp at e
 |d0::ds,_,_,0,d,h,e=>by
  obtain⟨v,r,f,g,rfl,rfl,h1,h2⟩:=h.cons_inv;have:d0=d:=by simpa using e
  subst this;refine⟨v,f,[],g,rfl,h1,rfl,λH' F' v' d' f' k e' o=>?_⟩;show ListAll (Own K H' F' u) (v'::r) (d'::ds) (f'++g);exact m7 o (n6 e' h2 k)
 |d0::ds,_,_,j+1,d,h,e=>by
  obtain⟨v,r,f,g,rfl,rfl,h1,h2⟩:=h.cons_inv;obtain⟨w,f',pre,post,e1,e2,e3,e4⟩:=ListAll.zip (j:=j) h2 (by simpa using e);subst e3;refine⟨w,f',f++pre,post,by simpa using e1,e2,by rw[aP],λH' F' v' d' g' k e' o=>?_⟩;rw[aP];refine m7 (h1.frame e' u λa ha=>k a ?_) (e4 H' F' v' d' g' (λa ha=>k a ?_) e' o)
  ·rw[aP];exact ak _ ha
  ·rw[aP];exact ah _ ha
theorem OwnTs.zip:∀{us:List Ty} {ds:List D} {xs:List V} {fp:List ax} {j:Nat} {u:Ty} {d:D},OwnTs K H F us xs ds fp->us[j]?=cz u->ds[j]?=cz d->
  ∃v f pre post,xs[j]?=cz v/\Own K H F u v d f/\fp=pre++(f++post)/\
   ∀(H':Hp) (F':List ax) (d':D) (f':List ax),(∀a∈pre++post,H' a=H a)->Same (cut H F) (cut H' F')->Own K H' F' u v d' f'->OwnTs K H' F' us xs (ds.set j d') (pre++(f'++post))
 |[],_,_,_,j,u,d,_,e,_=>by simp at e
 |u0::us,_,_,_,0,u,d,h,e,e'=>by
  simp only[OwnTs]at h;obtain⟨v,r,d0,ds,f,g,rfl,rfl,rfl,h1,h2⟩:=h;have:u0=u:=by simpa using e
  subst this;have:d0=d:=by simpa using e'
  subst this;refine⟨v,f,[],g,rfl,h1,rfl,λH' F' d' f' k e' o=>?_⟩;show OwnTs K H' F' (u0::us) (v::r) (d'::ds) (f'++g);simp only[OwnTs];exact⟨v,r,d',ds,f',g,rfl,rfl,rfl,o,h2.frame e' us k⟩
 |u0::us,_,_,_,j+1,u,d,h,e,e'=>by
  simp only[OwnTs]at h;obtain⟨v,r,d0,ds,f,g,rfl,rfl,rfl,h1,h2⟩:=h;obtain⟨w,f',pre,post,e1,e2,e3,e4⟩:=OwnTs.zip (j:=j) h2 (by simpa using e) (by simpa using e');subst e3;refine⟨w,f',f++pre,post,by simpa using e1,e2,by rw[aP],λH' F' d' g' k e' o=>?_⟩;rw[aP];show OwnTs K H' F' (u0::us) (v::r) (d0::ds.set j d') (f++(pre++(g'++post)));simp only[OwnTs];refine⟨v,r,d0,_,f,_,rfl,rfl,rfl,h1.frame e' u0 λa ha=>k a ?_,e4 H' F' d' g' (λa ha=>k a ?_) e' o⟩
  ·rw[aP];exact ak _ ha
  ·rw[aP];exact ah _ ha
theorem Own.path:∀(p:List Nat) {u t:Ty} {v w:V} {d:D} {fp:List ax} {ds:List D},Own K H F u v d fp->dAt u d p=cz (.l t,.list ds)->wk H v p w->
  ∃b xs fs pre post,w=.ref b/\H b=cz (.lst xs)/\fp=pre++((b::fs)++post)/\ListAll (Own K H F t) xs ds fs/\
   ∀(H':Hp) (F':List ax) (kO:List V) (jT:List D) (jG:List ax),(∀a∈pre++post,H' a=H a)->Same (cut H F) (cut H' F')->H' b=cz (.lst kO)->ListAll (Own K H' F' t) kO jT jG->
    Own K H' F' u v (a2u d p (.list jT)) (pre++((b::jG)++post))
 |[],u,t,v,w,d,fp,ds,h,hd,hw=>by
  have kc:cz (u,d)=cz (.l t,.list ds):=hd;cases kc
  have CA:w=v:=hw;subst CA;simp only[Own]at h;rcases h with⟨_,hi,_⟩|⟨a,xs,jT,fs,rfl,h1,h2,rfl,h3⟩
  ·simp only[imm]at hi;cases hi
  ·cases h2
   refine⟨a,xs,fs,[],[],rfl,h1,by simp,h3,λH' F' kO jT jG _ _ k o=>?_⟩;simp only[Own,a2u,bK,bb];exact .inr ⟨a,kO,jT,jG,rfl,k,rfl,rfl,o⟩
 |j::p,u,t,v,w,d,fp,ds,h,hd,hw=>by
  obtain⟨a0,uJ,v1,rfl,t_,yR,hw⟩:=hw;cases u with
  |l u=>
   cases d with
   |list es=>
    have kc:(es[j]?).bind (λd=>dAt u d p)=cz (.l t,.list ds):=hd;obtain⟨d1,g1,g2⟩:=bnd kc;simp only[Own]at h;rcases h with⟨_,hi,_⟩|⟨a,xs,jH,fs,e0,h1,h2,rfl,h3⟩
    ·simp only[imm]at hi;cases hi
    ·cases h2
     cases e0
     have u_:uJ=xs:=by rcases t_ with z|z<;>rw[h1]at z<;>cases z;rfl
     subst u_;obtain⟨v2,f,pre,post,z1,z2,rfl,z4⟩:=h3.zip g1;rw[yR]at z1;cases z1
     obtain⟨b,ys,jG,mO,kH,rfl,q2,rfl,q4,q5⟩:=Own.path p z2 g2 hw;refine⟨b,ys,jG,a0::(pre++mO),kH++post,rfl,q2,by simp,q4,λH' F' kO jT zF k e' hb o=>?_⟩;have k1:∀a∈pre++post,H' a=H a:=λa ha=>k a (by simp only[ar,aI]at ha ⊢;rcases ha with z|z;exact .inl (.inr (.inl z));exact .inr (.inr z))
     have k2:∀a∈mO++kH,H' a=H a:=λa ha=>k a (by simp only[ar,aI]at ha ⊢;rcases ha with z|z;exact .inl (.inr (.inr z));exact .inr (.inl z))
     have o1:=q5 H' F' kO jT zF k2 e' hb o;have o2:=z4 H' F' _ _ _ k1 e' o1;rw[set_same yR]at o2;show Own K H' F' (.l u) (.ref a0) (.list (es.set j (a2u (es.getD j .none) p (.list jT)))) _;rw[A9 g1];simp only[Own];refine .inr ⟨a0,uJ,_,_,rfl,(k a0 (by simp)).trans h1,rfl,?_,o2⟩;simp
   |_=>cases hd
  |tp us=>
   cases d with
   |tuple es=>
    have kc:(us[j]?).bind (λu=>(es[j]?).bind λd=>dAt u d p)=cz (.l t,.list ds):=hd;obtain⟨u1,g0,Es⟩:=bnd kc;obtain⟨d1,g1,g2⟩:=bnd Es;simp only[Own]at h;obtain⟨a,xs,jH,e0,h1,h0,h2,h3⟩:=h;cases h2
    cases e0
    have u_:uJ=xs:=by rcases t_ with z|z<;>rw[h1]at z<;>cases z;rfl
    subst u_;obtain⟨v2,f,pre,post,z1,z2,rfl,z4⟩:=h3.zip g0 g1;rw[yR]at z1;cases z1
    obtain⟨b,ys,jG,mO,kH,rfl,q2,rfl,q4,q5⟩:=Own.path p z2 g2 hw;refine⟨b,ys,jG,pre++mO,kH++post,rfl,q2,by simp,q4,λH' F' kO jT zF k e' hb o=>?_⟩;have k1:∀a∈pre++post,H' a=H a:=λa ha=>k a (by simp only[ar]at ha ⊢;rcases ha with z|z;exact .inl (.inl z);exact .inr (.inr z))
    have k2:∀a∈mO++kH,H' a=H a:=λa ha=>k a (by simp only[ar]at ha ⊢;rcases ha with z|z;exact .inl (.inr z);exact .inr (.inl z))
    have o1:=q5 H' F' kO jT zF k2 e' hb o;have o2:=z4 H' F' _ _ k1 e' o1;show Own K H' F' (.tp us) (.ref a0) (.tuple (es.set j (a2u (es.getD j .none) p (.list jT)))) _;rw[A9 g1];obtain⟨n1,n2⟩:=l7 (e' a0 _ (i4 h0 h1));simp only[Own];refine⟨a0,uJ,_,rfl,n2,n1,rfl,?_⟩;simpa using o2
   |_=>cases hd
  |i=>cases hd
  |f=>cases hd
  |d kt u=>cases hd
def V5{N O:List ax}(h:O.Nodup)(k:∀a,N.count a<=O.count a):N.Nodup:=eS.mpr λa=>cV (k a) (eS.mp h a)
def Pend.put{Z:List D}(h:Pend K ([]++[.own t]) ([]++[d]) ([]++[cz v]) M Z σ H P F)(hm:M[i]?=cz (.own u))(h0:σ[i]?=cz (cz v0))(hd:dAt u (Z.getD i .none) p=cz (.l t,.list ds))(hw:wk H v0 p w) :
  ∃b xs,w=.ref b/\H b=cz (.lst xs)/\xs.length=ds.length/\StR K M (Z.set i (a2u (Z.getD i .none) p (.list (ds++[d])))) σ (upd H b (.lst (xs++[v]))) P F/\
   ∀j,j<ds.length->StR K M (Z.set i (a2u (Z.getD i .none) p (.list (ds.set j d)))) σ (upd H b (.lst (xs.set j v))) P F:=by
 obtain⟨_,_,S⟩:=h;obtain⟨G,h1,h2,h3⟩:=S.all;have mh:StAll K H F (.own t::M) (d::Z) (cz v::σ) G:=by simpa using h1
 simp only[StAll]at mh;obtain⟨d',Z',o',σ',fv,G2,e1,e2,rfl,⟨v',e3,ov⟩,h5⟩:=mh;cases e1
 cases e2
 cases e3
 obtain⟨dd,oo,f,pre,post,q1,q2,⟨v2,rfl,q3⟩,rfl,q5⟩:=h5.at_ hm;rw[h0]at q2;cases q2
 rw[A9 q1]at hd;obtain⟨b,xs,fs,mO,kH,rfl,r2,rfl,r4,r5⟩:=q3.path p hd hw;have D_:b∈F:=h3 b (by simp);have iN:∀o,Same (cut H F) (cut (upd H b o) F):=λo a o' ha=>by
  obtain⟨n1,n2⟩:=l7 ha;exact i4 n1 (by rw[b9 (show a≠b from λz=>n1 (z▸D_))];exact n2)
 have iG:∀a,a≠b∨(pre++post).count a=0/\(mO++kH).count a=0/\fs.count a=0/\fv.count a=0:=λa=>by
  by_cases e:a=b
  ·subst e;have:=eS.mp h2 a;simp only[bV,bE,wF]at this ⊢;exact .inr ⟨by lia,by lia,by lia,by lia⟩
  ·exact .inl e
 have kk:∀(l:List ax) (o:HO),(∀a,a=b->l.count a=0)->∀a∈l,upd H b o a=H a:=λl o hc a ha=>b9 λz=>by
  have:=hc a z;rw[jP]at this;exact this ha
 have c1:∀a,a=b->(pre++post).count a=0:=λa e=>((iG a).resolve_left (λn=>n e)).1
 have c2:∀a,a=b->(mO++kH).count a=0:=λa e=>((iG a).resolve_left (λn=>n e)).2.1
 have c3:∀a,a=b->fs.count a=0:=λa e=>((iG a).resolve_left (λn=>n e)).2.2.1
 have c4:∀a,a=b->fv.count a=0:=λa e=>((iG a).resolve_left (λn=>n e)).2.2.2
 have fin:∀(kO:List V) (jT:List D) (jG:List ax),ListAll (Own K (upd H b (.lst kO)) F t) kO jT jG->(∀a,jG.count a<=fs.count a+fv.count a)->StR K M (Z.set i (a2u dd p (.list jT))) σ (upd H b (.lst kO)) P F:=λkO jT jG ha og=>by
  have o1:=r5 (upd H b (.lst kO)) F kO jT jG (kk _ _ c2) (iN _) g8 ha;have q:=q5 (upd H b (.lst kO)) F (.own u) (a2u dd p (.list jT)) (cz v0) _ (kk _ _ c1) (iN _) ⟨v0,rfl,o1⟩;rw[set_same (l:=σ) h0,set_same (l:=M) hm]at q;refine⟨⟨_,q,V5 h2 λa=>?_,λa ha=>?_⟩,λa ha=>?_,S.prot.trans (iN _)⟩
  ·have:=og a;simp only[bV,bE,gh];lia
  ·have hc:0<(fv++(pre++(mO++(b::fs++kH)++post))).count a:=by
    have h0:=fD.mpr ha;have:=og a;simp only[bV,bE,gh]at h0 ⊢;lia
   exact h3 a (fD.mp hc)
  ·by_cases e:a=b
   ·subst e;exact⟨⟨.lst kO,trivial⟩,g8⟩
   ·obtain⟨ys,y⟩:=S.lst a ha;exact⟨ys,by rw[b9 e];exact y⟩
 rw[A9 q1];refine⟨b,xs,rfl,r2,r4.length,fin (xs++[v]) (ds++[d]) (fs++fv) ?_ λa=>by rw[bV];exact az _,λj hj=>?_⟩
 ·refine (n6 (iN _) r4 (kk _ _ c3)).append ?_;have:=m7 (R:=Own K (upd H b (.lst (xs++[v]))) F t) (ov.frame (iN _) t (kk _ _ c4)) p5
  rwa[bb]at this
 ·obtain⟨v3,f3,a1,a2,s1,s2,rfl,s4⟩:=r4.zip (ae hj);have c5:∀a,a=b->(a1++a2).count a=0:=λa e=>by have:=c3 a e;simp only[bV]at this ⊢;lia
  refine fin (xs.set j v) (ds.set j d) (a1++(fv++a2)) (s4 _ F v d fv (kk _ _ c5) (iN _) (ov.frame (iN _) t (kk _ _ c4))) λa=>?_
  simp only[bV];lia
end
inductive Out where
 |nx (Z:List D)|rt (d:D)|bk (Z:List D)|ct (Z:List D)
abbrev EvS:=List D->Option Out
def EndsOk(K:ag)(P:Hp)(u:Ty)(ML M:List Md)(D:Ends)(o:Out):Prop:=
 match o with
 |.nx Z=>∀σ H F,StR K M Z σ H P F->D.nx σ H
 |.rt d=>∀v H fp,Own K H fp u v d fp->fp.Nodup->(∀a∈fp,P a=xn)->Same P H->D.rt v H
 |.bk Z=>∀σ H F,StR K ML Z σ H P F->D.bk σ H
 |.ct Z=>∀σ H F,StR K ML Z σ H P F->D.ct σ H
noncomputable def spS(K:ag)(u:Ty)(ML M:List Md)(g:EvS)(M':List Md):TS:=λD σ H=>∃(Z:List VS.D) (P:Hp) (F:List ax) (o:Out),StR K M Z σ H P F/\g Z=cz o/\EndsOk K P u ML M' D o
noncomputable def PSX(X:Cx)(u:Ty)(ML M:List Md)(st:iq)(g:EvS)(M':List Md):Prop:=PS X st (spS X.K u ML M g M')
noncomputable def PSsX(X:Cx)(u:Ty)(ML M:List Md)(nV:List iq)(g:EvS)(M':List Md):Prop:=PSs X nV (spS X.K u ML M g M')
section
variable {X:Cx}{u:Ty}{ML M M':List Md}{st:iq}{nV:List iq}{g:EvS}
def PSX.mk(h:∃t,PS X st t/\∀(D:Ends) (Z:List VS.D) (σ:L2.St) (H P:Hp) (F:List ax) (o:Out),StR X.K M Z σ H P F->g Z=cz o->EndsOk X.K P u ML M' D o->t D σ H):PSX X u ML M st g M':=by
 obtain⟨t,p,q⟩:=h;exact λpins s σ H D I ⟨Z,P,F,o,S,hg,k⟩=>p pins s σ H D I (q D Z σ H P F o S hg k)
def PSX.out(h:PSX X u ML M st g M'):∃t,PS X st t/\∀(D:Ends) (Z:List VS.D) (σ:L2.St) (H P:Hp) (F:List ax) (o:Out),StR X.K M Z σ H P F->g Z=cz o->EndsOk X.K P u ML M' D o->t D σ H:=
 ⟨_,h,λ_ Z _ _ P F o S hg k=>⟨Z,P,F,o,S,hg,k⟩⟩
def PSsX.mk(h:∃t,PSs X nV t/\∀(D:Ends) (Z:List VS.D) (σ:L2.St) (H P:Hp) (F:List ax) (o:Out),StR X.K M Z σ H P F->g Z=cz o->EndsOk X.K P u ML M' D o->t D σ H):PSsX X u ML M nV g M':=by
 obtain⟨t,p,q⟩:=h;exact λpins s σ H D I ⟨Z,P,F,o,S,hg,k⟩=>p pins s σ H D I (q D Z σ H P F o S hg k)
def PSsX.out(h:PSsX X u ML M nV g M'):∃t,PSs X nV t/\∀(D:Ends) (Z:List VS.D) (σ:L2.St) (H P:Hp) (F:List ax) (o:Out),StR X.K M Z σ H P F->g Z=cz o->EndsOk X.K P u ML M' D o->t D σ H:=
 ⟨_,h,λ_ Z _ _ P F o S hg k=>⟨Z,P,F,o,S,hg,k⟩⟩
end
def Wk(M M1:List Md):Prop:=∀(K:ag) (Z:List D) (σ:L2.St) (H P:Hp) (F:List ax),StR K M Z σ H P F->∃F',StR K M1 Z σ H P F'
def l9:Wk M M:=λ_ _ _ _ _ F S=>⟨F,S⟩
def Wk.trans(a:Wk M M1)(b:Wk M1 M2):Wk M M2:=λK Z σ H P F S=>by
 obtain⟨F1,S1⟩:=a K Z σ H P F S;exact b K Z σ H P F1 S1
def j9{M:List Md}(i:Nat)(h:M[i]?=cz m:=by rfl):Wk M (M.set i .dead):=λK Z σ H P F S=>⟨F,S.dead h⟩
def a0j{M:List Md}(i:Nat)(h:M[i]?=cz (.own u):=by rfl):Wk M (M.set i (.own .f)):=λK Z σ H P F S=>S.freeze h
noncomputable def E1:EvS:=λZ=>cz (.nx Z)
noncomputable def e7(a b:EvS):EvS:=λZ=>(a Z).bind λo=>match o with
 |.nx Z'=>b Z'
 |o=>cz o
noncomputable def g9(i:Nat)(f:EvE):EvS:=λZ=>(f Z).bind λd=>cz (.nx (Z.set i d))
def asP:D->Option (D×D)
 |.tuple [a,b]=>cz (a,b)
 |_=>xn
noncomputable def a1Q(i j:Nat)(f:EvE):EvS:=λZ=>(f Z).bind λd=>(asP d).bind λp=>cz (.nx ((Z.set i p.1).set j p.2))
noncomputable def u7(f:EvE):EvS:=λZ=>(f Z).bind λd=>cz (.rt d)
noncomputable def sEx(f:EvE):EvS:=λZ=>(f Z).bind λ_=>cz (.nx Z)
noncomputable def sIf(c:EvT)(a b:EvS):EvS:=λZ=>(c Z).bind λk=>if k then a Z else b Z
noncomputable def sNo:EvS:=λ_=>xn
noncomputable def U2(set:List D->D->Option (List D))(g:EvS):List D->List D->Option Out
 |[],Z=>cz (.nx Z)
 |d::ds,Z=>(set Z d).bind λZ1=>(g Z1).bind λo=>match o with
  |.nx Z'=>U2 set g ds Z'
  |.ct Z'=>U2 set g ds Z'
  |.bk Z'=>cz (.nx Z')
  |.rt d=>cz (.rt d)
def o8(i:Nat):List D->D->Option (List D):=λZ d=>cz (Z.set i d)
def a3a(i j:Nat):List D->D->Option (List D):=λZ d=>(asP d).bind λp=>cz ((Z.set i p.1).set j p.2)
noncomputable def y6(fi:EvA)(set:List D->D->Option (List D))(g:EvS):EvS:=λZ=>(fi Z).bind λds=>U2 set g ds Z
noncomputable def whL(c:EvT)(g:EvS):Nat->List D->Option Out
 |0,_=>xn
 |n+1,Z=>(c Z).bind λk=>if k then (g Z).bind λo=>match o with
  |.nx Z'=>whL c g n Z'
  |.ct Z'=>whL c g n Z'
  |.bk Z'=>cz (.nx Z')
  |.rt d=>cz (.rt d)
  else cz (.nx Z)
noncomputable def sWh(n:List D->Nat)(c:EvT)(g:EvS):EvS:=λZ=>whL c g (n Z) Z
section
variable {K:ag}{M M1:List Md}{Z:List D}{σ:L2.St}{H P:Hp}{F:List ax}
def StR.pend(S:StR K M Z σ H P F):Pend K [] [] [] M Z σ H P F:=⟨rfl,rfl,S⟩
def Pend.store{Zp:List D}(h:Pend K (Mp++[.own u]) (Zp++[d]) (σp++[cz v]) M Z σ H P F)(lp:Zp.length=Mp.length)(lq:σp.length=Mp.length)(hm:M[i]?=cz m) :
  Pend K Mp Zp σp (M.set i (.own u)) (Z.set i d) (σ.set i (cz v)) H P F:=by
 obtain⟨_,_,S⟩:=h;obtain⟨G,h1,h2,h3⟩:=S.all;obtain⟨G1,G2,rfl,h4,h5⟩:=h1.splitAt (by simp[lp]) (by simp[lq]);obtain⟨G3,G4,rfl,h6,h7⟩:=h4.splitAt lp lq;have h8:OwnTs K H F [u] [v] [d] G4:=V4 (us:=[u]) (vs:=[v]) h7;simp only[OwnTs]at h8;obtain⟨v',r,d',e,f,g,e1,e2,rfl,o,rfl,rfl,rfl⟩:=h8;cases e1
 cases e2
 obtain⟨d0,o0,f0,pre,post,q1,q2,q3,rfl,q5⟩:=h5.at_ hm;have q:=h6.join (q5 H F (.own u) d (cz v) f (λ_ _=>rfl) (Same.refl _) ⟨v,rfl,o⟩);refine⟨lp,lq,⟨⟨_,q,V5 h2 λa=>?_,λa ha=>h3 a ?_⟩,S.lst,S.prot⟩⟩
 ·simp only[bV];lia
 ·simp only[ar,bb]at ha ⊢;rcases ha with z|z|z|z
  ·exact .inl (.inl z)
  ·exact .inr (.inl z)
  ·exact .inl (.inr z)
  ·exact .inr (.inr (.inr z))
def Pend.st(h:Pend K [] [] [] M Z σ H P F):StR K M Z σ H P F:=h.2.2
def Pend.one(h:Pend K ([]++[.own u]) ([]++[d]) ([]++[cz v]) M Z σ H P F):∃fp,Own K H F u v d fp/\fp.Nodup/\∀a∈fp,a∈F:=by
 obtain⟨_,_,S⟩:=h;obtain⟨G,h1,h2,h3⟩:=S.all;obtain⟨G1,G2,rfl,h4,h5⟩:=h1.splitAt (A:=[]++[.own u]) (Z1:=[]++[d]) (σ1:=[]++[cz v]) rfl rfl;have h8:OwnTs K H F [u] [v] [d] G1:=V4 (us:=[u]) (vs:=[v]) h4;simp only[OwnTs]at h8;obtain⟨v',r,d',e,f,g,e1,e2,rfl,o,rfl,rfl,rfl⟩:=h8;cases e1
 cases e2
 rw[bb]at h2 h3;exact⟨f,o,(bC.mp h2).1,λa ha=>h3 a (ak _ ha)⟩
def b7D(u u1 u2:Ty):Prop:=(u=.f/\u1=.f/\u2=.f)∨(u=.i/\u1=.i/\u2=.i)∨u=.tp [u1,u2]
def Pend.untup(h:Pend K ([]++[.own u]) ([]++[.tuple [d1,d2]]) ([]++[cz v]) M Z σ H P F)(hp:b7D u u1 u2) :
  ∃a v1 v2,v=.ref a/\SqT K H a [v1,v2]/\Pend K ([.own u1]++[.own u2]) ([d1]++[d2]) ([cz v1]++[cz v2]) M Z σ H P F:=by
 obtain⟨_,_,S⟩:=h;obtain⟨G,h1,h2,h3⟩:=S.all;obtain⟨G1,G2,rfl,h4,h5⟩:=h1.splitAt (A:=[]++[.own u]) (Z1:=[]++[.tuple [d1,d2]]) (σ1:=[]++[cz v]) rfl rfl;have h8:OwnTs K H F [u] [v] [.tuple [d1,d2]] G1:=V4 (us:=[u]) (vs:=[v]) h4;simp only[OwnTs]at h8;obtain⟨v',r,d',e,f,g,e1,e2,rfl,o,rfl,rfl,rfl⟩:=h8;cases e1
 cases e2
 have key:∃a v1 v2 f1 f2,v=.ref a/\SqT K H a [v1,v2]/\f=f1++f2/\Own K H F u1 v1 d1 f1/\Own K H F u2 v2 d2 f2:=by
  rcases hp with⟨rfl,rfl,rfl⟩|⟨rfl,rfl,rfl⟩|rfl
  ·obtain⟨rfl,o'⟩:=a9o o;obtain⟨a,xs,rfl,k1,k2⟩:=o'.tup_inv;obtain⟨v1,v2,rfl,k3,k4⟩:=a0F k2;refine⟨a,v1,v2,[],[],rfl,a0i k1 k6,rfl,?_,?_⟩<;>simp only[Own]
   ·exact⟨trivial,k3⟩
   ·exact⟨trivial,k4⟩
  ·obtain⟨rfl,hi,o'⟩:=a1O o;obtain⟨a,xs,rfl,k1,k2⟩:=o'.tup_inv;obtain⟨v1,v2,rfl,k3,k4⟩:=a0F k2;simp only[imm,c9,aB]at hi;refine⟨a,v1,v2,[],[],rfl,a0i k1 k6,rfl,?_,?_⟩<;>simp only[Own]
   ·exact⟨trivial,hi.1,k3⟩
   ·exact⟨trivial,hi.2.1,k4⟩
  ·simp only[Own,OwnTs]at o;obtain⟨a,xs,ds,rfl,k1,_,e0,v1,r,xB,e',f1,g1,rfl,e2,rfl,o1,v2,r2,FX,FV,f2,g2,rfl,e3,rfl,o2,rfl,rfl,rfl⟩:=o;cases e0
   cases e2
   cases e3
   exact⟨a,v1,v2,f1,f2,rfl,SqT.of k1,by simp,o1,o2⟩
 obtain⟨a,v1,v2,f1,f2,rfl,k1,rfl,o1,o2⟩:=key;refine⟨a,v1,v2,rfl,k1,rfl,rfl,⟨⟨f1++(f2++G2),?_,by simpa using h2,λa ha=>h3 a (by simpa using ha)⟩,S.lst,S.prot⟩⟩;exact i5 (m:=.own u1) ⟨v1,rfl,o1⟩ (i5 (m:=.own u2) ⟨v2,rfl,o2⟩ h5)
end
section
variable {X:Cx}{u t:Ty}{ML M M1 M2 M':List Md}{st:iq}{nV body Br:List iq}{g g1 g2:EvS}{e tg iter:Expr}{f:EvE}{fc:EvT}{fi:EvA}{c:Cat}{pos:fT}
def EndsOk.pre{K:ag}{P:Hp}{D:Ends}{o:Out}(h:EndsOk K P u ML M' D o)(hw:Wk M M'):EndsOk K P u ML M D o:=by
 cases o with
 |nx Z=>exact λσ H F S=>by obtain⟨F',S'⟩:=hw K Z σ H P F S;exact h σ H F' S'
 |rt d=>exact h
 |bk Z=>exact h
 |ct Z=>exact h
def PSsX.weak(h:PSsX X u ML M1 nV g M2)(a:Wk M M1)(b:Wk M2 M'):PSsX X u ML M nV g M':=by
 obtain⟨t,p,q⟩:=h.out;refine .mk ⟨t,p,λD Z σ H P F o S hg k=>?_⟩;obtain⟨F1,S1⟩:=a _ Z σ H P F S;exact q D Z σ H P F1 o S1 hg (k.pre b)
def PSX.weak(h:PSX X u ML M1 st g M2)(a:Wk M M1)(b:Wk M2 M'):PSX X u ML M st g M':=by
 obtain⟨t,p,q⟩:=h.out;refine .mk ⟨t,p,λD Z σ H P F o S hg k=>?_⟩;obtain⟨F1,S1⟩:=a _ Z σ H P F S;exact q D Z σ H P F1 o S1 hg (k.pre b)
def E9:PSsX X u ML M [] E1 M:=.mk ⟨_,b5l,λD Z σ H P F o S hg k=>by cases hg;exact k σ H F S⟩
def b7(h1:PSX X u ML M st g1 M1)(h2:PSsX X u ML M1 nV g2 M'):PSsX X u ML M (st::nV) (e7 g1 g2) M':=by
 obtain⟨t1,p1,q1⟩:=h1.out;obtain⟨t2,p2,q2⟩:=h2.out;refine .mk ⟨_,a0z p1 p2,λD Z σ H P F o S hg k=>?_⟩;obtain⟨o1,h1,g1⟩:=bnd hg;refine q1 {D with nx:=t2 D} Z σ H P F o1 S h1 ?_;cases o1 with
 |nx Z'=>exact λσ' H' F' S'=>q2 D Z' σ' H' P F' o S' g1 k
 |rt d=>cases g1;exact k
 |bk Z'=>cases g1;exact k
 |ct Z'=>cases g1;exact k
def f7(h1:PSX X u ML M st g M1):PSsX X u ML M [st] g M1:=by
 obtain⟨t1,p1,q1⟩:=h1.out;exact .mk ⟨_,a9h p1,q1⟩
def f9(i:Nat)(hN:X.N.Nodup)(he:PMX X M e f t M1)(hi:X.N[i]?=cz x:=by rfl)(hx:Loc X.env.scope x:=by first|exact bO rfl|exact bN rfl)(hm:M1[i]?=cz m:=by rfl)
  (hs:eU e (cz (.Name x px)) pos.line X.env=pure false:=by rfl) (hf:X.fn x=true∨X.env.scope.names.lookup x=cz .local:=by first|exact .inl rfl|exact .inr rfl):PSX X u ML M (.Assign [.Name x px] e pos) (g9 i f) (M1.set i (.own t)):=by
 obtain⟨te,pe,qe⟩:=he;refine .mk ⟨_,a5k hN hi hx pe hs hf,λD Z σ H P F o S hg k=>?_⟩;obtain⟨d,h1,g1⟩:=bnd hg;cases g1
 exact qe [] [] [] Z σ H P F d _ S.pend h1 λv H' F' e S'=>k _ _ F' (S'.store rfl rfl hm).st
def b5R(i j:Nat){pt pk}(hN:X.N.Nodup)(hc:X.calm=true)(he:PMX X M e f t M1)(hp:b7D t u1 u2)(hi:X.N[i]?=cz x:=by rfl)(hj:X.N[j]?=cz y:=by rfl)(hx:Loc X.env.scope x:=by first|exact bO rfl|exact bN rfl)
  (hy:Loc X.env.scope y:=by first|exact bO rfl|exact bN rfl) (gL:i≠j:=by decide) (pH:M1[i]?=cz m1:=by rfl) (qE:M1[j]?=cz m2:=by rfl)
  (DG:X.fn x=true∨X.env.scope.names.lookup x=cz .local:=by first|exact .inl rfl|exact .inr rfl) (vM:X.fn y=true∨X.env.scope.names.lookup y=cz .local:=by first|exact .inl rfl|exact .inr rfl)
  (hl:(gS [.Name x px,.Name y py] X.env).length=2:=by rfl) (nY:(gS [.Name x px,.Name y py] X.env).findIdx? (·.1)=xn:=by rfl)
  (hg1:PGs X [.Name x px,.Name y py] (a2K (K0 i) (a2K (K0 j) b5m)):=by exact x9 (n5 hN hi hx DG) (x9 (n5 hN hj hy vM) X3))
  (hs:xK [.Tuple [.Name x px,.Name y py] pk pt] e pos.line X.env=pure false:=by rfl) (hw:xM [.Tuple [.Name x px,.Name y py] pk pt] e X.env=pure xn:=by rfl)
  (h1:(gS [.Tuple [.Name x px,.Name y py] pk pt] X.env).map (·.2)=[lG (.Tuple [.Name x px,.Name y py] pk pt) X.env]:=by rfl) :
  PSX X u ML M (.Assign [.Tuple [.Name x px,.Name y py] pk pt] e pos) (a1Q i j f) ((M1.set i (.own u1)).set j (.own u2)):=by
 obtain⟨te,pe,qe⟩:=he;refine .mk ⟨_,b2k pe (a2L hc hg1 hl nY) hs hw h1,λD Z σ H P F o S hg k=>?_⟩;obtain⟨d,h1,g1⟩:=bnd hg;obtain⟨⟨d1,d2⟩,h2,g2⟩:=bnd g1;cases g2
 have hd:d=.tuple [d1,d2]:=by
  match d,h2 with
  |.tuple [a,b],h2=>cases h2;rfl
 subst hd;refine qe [] [] [] Z σ H P F _ _ S.pend h1 λv H' F' e S'=>?_
 obtain⟨a,v1,v2,rfl,k1,S2⟩:=S'.untup hp;refine⟨a,_,rfl,k1,rfl,v1,[v2],rfl,v2,[],rfl,rfl,?_⟩;have S3:=S2.store (i:=j) rfl rfl qE;have yL:(M1.set j (.own u2))[i]?=cz m1:=by rw[bu (cP gL)];exact pH
 have S4:=(Pend.store (Mp:=[]) (Zp:=[]) (σp:=[]) (i:=i) S3 rfl rfl yL).st;rw[rG _ _ (cP gL),rG _ _ (cP gL),rG _ _ (cP gL)]at S4;exact k _ _ F' S4
def l0(he:PMX X M e f u M1):PSX X u ML M (.Return (cz e) pos) (u7 f) M':=by
 obtain⟨te,pe,qe⟩:=he;refine .mk ⟨_,b7Y pe,λD Z σ H P F o S hg k=>?_⟩;obtain⟨d,h1,g1⟩:=bnd hg;cases g1
 refine qe [] [] [] Z σ H P F d _ S.pend h1 λv H' F' e S'=>?_
 obtain⟨fp,o,nd,sub⟩:=S'.one;refine k v H' fp (o.frame (D8 sub) u λ_ _=>rfl) nd (λa ha=>?_) (S'.2.2.prot.trans k6);cases hP:P a with
 |none=>rfl
 |some o'=>
  have:=S'.2.2.prot _ _ hP;rw[U9 (sub a ha)]at this;cases this
def b5S(he:PX X M e f c)(hs:eU e xn pos.line X.env=pure false:=by rfl):PSX X u ML M (.Expr e pos) (sEx f) M:=by
 obtain⟨te,pe,qe⟩:=he.out;refine .mk ⟨_,Q6 pe hs,λD Z σ H P F o S hg k=>?_⟩;obtain⟨d,h1,g1⟩:=bnd hg;cases g1
 exact qe Z σ H P F d _ S.toE h1 λv H' e _=>k σ H' F (S.grow e)
def T5(hc:PTX X M c0 fc)(ha:PSsX X u ML M body g1 M')(hb:PSsX X u ML M Br g2 M'):PSX X u ML M (.If c0 body Br pos) (sIf fc g1 g2) M':=by
 obtain⟨tc,pc,qc⟩:=hc.out;obtain⟨ta,pa,qa⟩:=ha.out;obtain⟨tb,pb,qb⟩:=hb.out;refine .mk ⟨_,c0o pc pa pb,λD Z σ H P F o S hg k=>?_⟩;obtain⟨b,h1,g1⟩:=bnd hg;refine qc Z σ H P F b _ S.toE h1 λH1 e1=>?_
 cases b with
 |true=>exact a5r (qa D Z σ H1 P F o (S.grow e1) g1 k)
 |false=>exact a6t (qb D Z σ H1 P F o (S.grow e1) g1 k)
def b7E:PSX X u ML M st sNo M':=.mk ⟨_,b2j,λD Z σ H P F o S hg k=>by cases hg⟩
def b2O(K:ag)(M MB:List Md)(g:TG)(set:List D->D->Option (List D))(m:D->Prop):Prop:=
 ∀(Z:List D) (σ:L2.St) (H P:Hp) (F:List ax) (x:V) (d:D) (Z':List D) (Q:L2.St->Hp->Prop),StR K M Z σ H P F->Den K (cut H F) x d->m d->set Z d=cz Z'->(∀σ' F',StR K MB Z' σ' H P F'->Q σ' H)->g x σ H Q
def mI(d:D):Prop:=imm d=true
def mF(_:D):Prop:=True
def a1i(hm:M[i]?=cz m:=by rfl):b2O K M (M.set i (.own .f)) (K0 i) (o8 i) mF:=by
 intro Z σ H P F x d Z' Q S hd _ hs q;cases hs
 exact q _ _ (S.set (u:=.f) (fp:=[]) hm (Same.refl _) (by simp only[Own,bK];exact⟨trivial,hd⟩) bI λa ha=>(nomatch ha))
def L8(hm:M[i]?=cz m:=by rfl):b2O K M (M.set i (.own .i)) (K0 i) (o8 i) mI:=by
 intro Z σ H P F x d Z' Q S hd hi hs q;cases hs
 exact q _ _ (S.set (u:=.i) (fp:=[]) hm (Same.refl _) (by simp only[Own,bK];exact⟨trivial,hi,hd⟩) bI λa ha=>(nomatch ha))
def a8c(hw:w=.f∨w=.i)(gL:i≠j:=by decide)(pH:M[i]?=cz m1:=by rfl)(qE:M[j]?=cz m2:=by rfl):b2O K M ((M.set i (.own w)).set j (.own w)) (b8b K 2 (a2K (K0 i) (a2K (K0 j) b5m))) (a3a i j) (λd=>w=.i->imm d=true):=by
 intro Z σ H P F x d Z' Q S hd hi hs q;obtain⟨⟨d1,d2⟩,h2,g2⟩:=bnd hs;cases g2
 have tx:d=.tuple [d1,d2]:=by
  match d,h2 with
  |.tuple [a,b],h2=>cases h2;rfl
 subst tx;obtain⟨a,xs,rfl,k1,k2⟩:=hd.tup_inv;obtain⟨v1,v2,rfl,k3,k4⟩:=a0F k2;refine⟨a,_,rfl,a0i k1 k6,rfl,v1,[v2],rfl,v2,[],rfl,rfl,?_⟩;have o1:Own K H ([]++F) w v1 d1 []:=by
  rcases hw with rfl|rfl
  ·simp only[Own,bK];exact⟨trivial,k3⟩
  ·have:=hi rfl;simp only[imm,c9,aB]at this;simp only[Own,bK];exact⟨trivial,this.1,k3⟩
 have o2:Own K H ([]++([]++F)) w v2 d2 []:=by
  rcases hw with rfl|rfl
  ·simp only[Own,bK];exact⟨trivial,k4⟩
  ·have:=hi rfl;simp only[imm,c9,aB]at this;simp only[Own,bK];exact⟨trivial,this.2.1,k4⟩
 have S1:=S.set pH (Same.refl _) o1 bI λa ha=>(nomatch ha)
 exact q _ _ (S1.set (i:=j) (m:=m2) (by rw[bu gL];exact qE) (Same.refl _) o2 bI λa ha=>(nomatch ha))
def A6{set:List D->D->Option (List D)}{m:D->Prop}(hc:X.calm=true)(hp:nS (aW X.prog X.w) X.A X.env X.xe)(hi:PIX X M tg iter fi)(hg:PG X tg gt)(hs:b2O X.K M MB gt set m)(hm:∀Z ds,fi Z=cz ds->∀d∈ds,m d)(hb:PSsX X u M MB body g M)
  (hf:∀x,eK iter X.env x=pure x:=by intro _;rfl):PSX X u ML M (.For tg iter body [] pos) (y6 fi set g) M:=by
 obtain⟨wi,pi,qi⟩:=hi;obtain⟨tb,pb,qb⟩:=hb.out;refine .mk ⟨_,a7K hp hc pi hg pb hf,λD Z σ H P F o S qY k=>?_⟩;obtain⟨ds,h1,g1⟩:=bnd qY;refine qi Z σ H P F ds _ S.toE h1 λJ xs Pr H1 e1 hw qT hx=>?_
 have S1:=S.grow e1;have oD:=hx.length;refine⟨λi n σ' H'=>n=xs.length-i/\i<=xs.length/\∃Z' F',StR X.K M Z' σ' H' (cut H1 F) F'/\U2 set g (ds.drop i) Z'=cz o,⟨xs.length,by simp,cE _,Z,F,⟨S1.all,S1.lst,Same.refl _⟩,g1⟩,?_⟩;rintro i n σ' H' ⟨rfl,hi,Z',F',S',hfl⟩;have nq:Same (cut H1 F) (cut H' F'):=S'.prot;have q:=qT H' (nq.trans k6);by_cases iX:i<xs.length
 ·refine .inr ⟨hw.go i H' q iX,λσ2 H2=>∃Z2 F2,StR X.K M Z2 σ2 H2 (cut H1 F) F2/\U2 set g (ds.drop (i+1)) Z2=cz o,λσ2 H2 ⟨Z2,F2,S2,h2⟩=>⟨xs.length-(i+1),by lia,rfl,iX,Z2,F2,S2,h2⟩,λx H2 hy=>?_⟩;obtain⟨rfl,pR⟩:=hw.yld i H' x H2 q iX hy;have mT:i<ds.length:=by lia
  have ny:ds.drop i=ds[i]::ds.drop (i+1):=dO mT;rw[ny]at hfl;obtain⟨Z1,ue,g2⟩:=bnd (show (set Z' ds[i]).bind _=cz o from hfl);obtain⟨o1,hg1,g3⟩:=bnd g2;obtain⟨d',oY,rW⟩:=(hx.up nq).getV pR;have kc:d'=ds[i]:=by rw[ae mT]at oY;exact (aE oY).symm
  subst kc;refine hs Z' σ' H2 (cut H1 F) F' x _ Z1 _ S' rW (hm Z ds h1 _ (bW mT)) ue λσ3 F3 S3=>qb _ Z1 σ3 H2 (cut H1 F) F3 o1 S3 hg1 ?_
  cases o1 with
  |nx Z2=>exact λσ4 H4 F4 S4=>⟨Z2,F4,S4,g3⟩
  |ct Z2=>exact λσ4 H4 F4 S4=>⟨Z2,F4,S4,g3⟩
  |bk Z2=>
   have:o=.nx Z2:=(aE g3).symm;subst this;exact λσ4 H4 F4 S4=>k σ4 H4 F4 ⟨S4.all,S4.lst,S1.prot.trans S4.prot⟩
  |rt d=>
   have:o=.rt d:=(aE g3).symm;subst this;refine λv H4 fp o nd fr e=>k v H4 fp o nd (λa ha=>?_) (S1.prot.trans e)
   exact S1.prot.free (fr a ha)
 ·have e:i=xs.length:=by lia
  subst e;rw[oD,iT]at hfl;have:o=.nx Z':=(aE hfl).symm;subst this;exact .inl ⟨hw.stop _ H' q (az _),k σ' H' F' ⟨S'.all,S'.lst,S1.prot.trans S'.prot⟩⟩
def a3b(n:List D->Nat)(hp:nS (aW X.prog X.w) X.A X.env X.xe)(hc:PTX X M c0 fc)(hb:PSsX X u M M body g M):PSX X u ML M (.While c0 body [] pos) (sWh n fc g) M:=by
 obtain⟨tc,pc,qc⟩:=hc.out;obtain⟨tb,pb,qb⟩:=hb.out;refine .mk ⟨_,b2l hp pc pb,λD Z σ H P F o S qY k=>?_⟩;refine⟨λn σ' H'=>∃Z' F',StR X.K M Z' σ' H' P F'/\whL fc g n Z'=cz o,⟨n Z,Z,F,S,qY⟩,?_⟩;rintro n σ' H' ⟨Z',F',S',hw⟩;cases n with
 |zero=>cases hw
 |succ n=>
  obtain⟨b,h1,g1⟩:=bnd (show (fc Z').bind _=cz o from hw);refine qc Z' σ' H' P F' b _ S'.toE h1 λH1 e1=>?_
  cases b with
  |true=>
   refine a5r ⟨λσ2 H2=>∃Z2 F2,StR X.K M Z2 σ2 H2 P F2/\whL fc g n Z2=cz o,λσ2 H2 z=>⟨n,EV _,z⟩,?_⟩;obtain⟨o1,hg1,g3⟩:=bnd (show (g Z').bind _=cz o from g1);refine qb _ Z' σ' H1 P F' o1 (S'.grow e1) hg1 ?_;cases o1 with
   |nx Z2=>exact λσ4 H4 F4 S4=>⟨Z2,F4,S4,g3⟩
   |ct Z2=>exact λσ4 H4 F4 S4=>⟨Z2,F4,S4,g3⟩
   |bk Z2=>
    have:o=.nx Z2:=(aE g3).symm;subst this;exact λσ4 H4 F4 S4=>k σ4 H4 F4 S4
   |rt d=>
    have:o=.rt d:=(aE g3).symm;subst this;exact k
  |false=>
   have:o=.nx Z':=(aE g1).symm;subst this;exact a6t (k σ' H1 F' (S'.grow e1))
end
abbrev EvP:=List D->Option (List Nat)
noncomputable def PPX(X:Cx)(M:List Md)(e:Expr)(i:Nat)(f:EvP):Prop:=
 ∃t,PE X e t/\∀(Z:List D) (σ:L2.St) (H P:Hp) (F:List ax) (p:List Nat) (Q:VK),StE X.K M Z σ H P F->f Z=cz p->(∀v v0 H',Same H H'->σ[i]?=cz (cz v0)->wk H' v0 p v->Q v H')->t σ H Q
noncomputable def n8:EvP:=λ_=>cz []
def a5C(u:Ty)(d:D)(p:List Nat):Option (List D):=(dAt u d p).bind λtd=>match td with
 | (.l _,.list ds)=>cz ds
 | (.tp _,.tuple ds)=>cz ds
 |_=>xn
section
variable {X:Cx}{u t w:Ty}{ML M M1 M':List Md}{e b pl:Expr}{f fb:EvE}{fp:EvP}{cb:Cat}{pos apos cM:fT}
def G5(i:Nat)(hN:X.N[i]?=cz x:=by rfl)(hv:Vis X.env.scope x:=by first|exact bO rfl|exact bN (bO rfl)|exact bN (bN rfl))(hd:(x==("__debug__":bG))=false:=by decide)
  (iE:(x==("__classdict__":bG))=false:=by decide) (hm:M[i]?=cz (.own u):=by rfl):PPX X M (.Name x pos) i n8:=by
 refine⟨_,A0 hN hv hd iE,λZ σ H P F p Q S hf k=>?_⟩;cases hf
 obtain⟨v,f,e,_⟩:=S.get hm;exact⟨v,e,k v v H (Same.refl _) e rfl⟩
noncomputable def D5(i:Nat)(u:Ty)(fp:EvP)(fe:EvE):EvS:=λZ=>(fp Z).bind λp=>(a5C u (Z.getD i .none) p).bind λds=>(fe Z).bind λd=>if ds.length<1000000 then cz (.nx (Z.set i (a2u (Z.getD i .none) p (.list (ds++[d]))))) else xn
noncomputable def a5D(i:Nat)(u:Ty)(fp:EvP)(fj fe:EvE):EvS:=λZ=>(fe Z).bind λd=>(fp Z).bind λp=>(a5C u (Z.getD i .none) p).bind λds=>(fj Z).bind λy=>(asI y).bind λk=>(ixN ds.length k).bind λj=>cz (.nx (Z.set i (a2u (Z.getD i .none) p (.list (ds.set j d)))))
noncomputable def b8H(u:Ty)(fp:EvP)(t:Ty):Prop:=∀Z p d td,fp Z=cz p->dAt u d p=cz td->td.1=.l t
def Z7:b8H (.l t) n8 t:=λZ p d td h1 h2=>by
 cases h1
 have kE:cz (Ty.l t,d)=cz td:=h2;cases kE
 rfl
def at_list{d:D}{p:List Nat}{ds:List D}(ht:∀td,dAt u d p=cz td->td.1=.l t)(hi:a5C u d p=cz ds):dAt u d p=cz (.l t,.list ds):=by
 obtain⟨⟨t',d'⟩,h1,h2⟩:=bnd hi;have e:t'=.l t:=ht _ h1;subst e;cases d' with
 |list es=>cases h2;exact h1
 |_=>cases h2
def V6(i:Nat)(hp:PPX X M pl i fp)(he:PMX X M e f t M1)(ht:b8H u fp t)(hm:M[i]?=cz (.own u):=by rfl)(pH:M1[i]?=cz (.own u):=by rfl)
  (fK:d_ pl "append" X.env (cC pl X.env)=cC pl X.env:=by rfl)
  (iM:((cH cM (au [e] X.env)).all (λx=>!x.1)&&(e_ cM (dE [] X.env)).all (λx=>x.1.isSome)
   && decide ([e].length+([]:List eP).length+(if ([]:List eP).isEmpty then 0 else 1)<30))=true:=by rfl)
  (fJ:(apos.endLine==cM.line)=true:=by rfl) (hs:au [e] X.env=(false,cC e X.env)::au [] X.env:=by rfl) (eJ:(cH cM (au [] X.env)).any (·.1)=false:=by rfl)
  (oR:eU (.Call (.Attribute pl "append" apos) [e] [] cM) xn pos.line X.env=pure false:=by rfl) :
  PSX X w ML M (.Expr (.Call (.Attribute pl "append" apos) [e] [] cM) pos) (D5 i u fp f) M1:=by
 obtain⟨tp,pp,qp⟩:=hp;obtain⟨te,pe,qe⟩:=he;refine .mk ⟨_,Q6 (a4s eV kz ku X5 pp (j8 pe o7 hs) fK iM fJ hs eJ) oR,λD Z σ H P F o S hg k=>?_⟩;obtain⟨p,h1,g1⟩:=bnd hg;obtain⟨ds,h2,g2⟩:=bnd g1;obtain⟨d,h3,g3⟩:=bnd g2;by_cases hz:ds.length<1000000
 ·rw[aD hz]at g3;cases g3
  refine qp Z σ H P F p _ S.toE h1 λv v0 H1 e1 rO hw=>?_
  have S1:=S.grow e1;obtain⟨v',f',e',o,_⟩:=S1.toE.get hm;rw[rO]at e';cases e'
  have rX:=at_list (λtd z=>ht Z p _ td h1 z) h2;obtain⟨b,xs,fs,pre,post,rfl,r2,_,_,_⟩:=o.path p rX hw;refine⟨.inl ⟨rfl,xs,SqL.of r2⟩,qe [] [] [] Z σ H1 P F d _ S1.pend h3 λv1 H2 F2 e2 S2=>?_⟩;obtain⟨b',kO,e',uP,hl,S3,_⟩:=S2.put pH rO rX (b2N e2 hw);cases e'
  refine⟨b,kO,v1,rfl,rfl,uP,?_,k σ _ F2 S3⟩;rw[hl];exact jB hz (by rw[dt];decide)
 ·rw[aM hz]at g3;cases g3
def b2P(i:Nat)(hp:PPX X M1 pl i fp)(hj:PX X M1 j fj cj)(he:PMX X M e f t M1)(ht:b8H u fp t)(pH:M1[i]?=cz (.own u):=by rfl)
  (ha:∀v,lG (.Subscript pl j jg) X.env v=(do
   let ov <-nO [v] (cC pl X.env)
   let iv <-nO [v,ov] (cC j X.env)
   BV jg
   nO [v,ov,iv] (BW ov iv v)
   release [v,ov,iv] []):=by intro _;rfl)
  (hs:xK [.Subscript pl j jg] e pos.line X.env=pure false:=by rfl) (hw:xM [.Subscript pl j jg] e X.env=pure xn:=by rfl)
  (h1:(gS [.Subscript pl j jg] X.env).map (·.2)=[lG (.Subscript pl j jg) X.env]:=by rfl) :
  PSX X w ML M (.Assign [.Subscript pl j jg] e pos) (a5D i u fp fj f) M1:=by
 obtain⟨tp,pp,qp⟩:=hp;obtain⟨tj,pj,qj⟩:=hj.out;obtain⟨te,pe,qe⟩:=he;refine .mk ⟨_,b2k pe (b8c pp pj set_list ha) hs hw h1,λD Z σ H P F o S hg k=>?_⟩;obtain⟨d,h3,g3⟩:=bnd hg;obtain⟨p,h1,g1⟩:=bnd g3;obtain⟨ds,h2,g2⟩:=bnd g1;obtain⟨y,h4,g4⟩:=bnd g2;obtain⟨kk,h5,g5⟩:=bnd g4;cases H9 h5
 obtain⟨jj,h6,g6⟩:=bnd g5;cases g6
 refine qe [] [] [] Z σ H P F d _ S.pend h3 λv1 H1 F1 e1 S1=>qp Z σ H1 P F1 p _ S1.e h1 λv v0 H2 e2 rO yi=>qj Z σ H2 P F1 _ _ (S1.e.grow e2) h4 λvj H3 e3 r3=>?_
 have S2:=(S1.grow (e2.trans e3));have rX:=at_list (λtd z=>ht Z p _ td h1 z) h2;obtain⟨b,xs,rfl,r2,hl,_,S3⟩:=S2.put pH rO rX (b2N e3 yi);have iX:jj<ds.length:=(a5m h6).2.1;exact⟨b,xs,kk,jj,rfl,r3.den.int_inv,r2,by rw[hl];exact h6,k σ _ F1 (S3 jj iX)⟩
def a8d(i:Nat)(hN:X.N.Nodup)(hc:X.calm=true)
  (hi:PIX X M tg iter fi) (C:Q8 scope X.env.kindOf ys js X.N=true) (hg:∀cl Cl s H fp,PG (G8 X (tn++ys) scope cl Cl s H fp) tg g) (yW:TgR X.K g n pt) (w_:mm=.i∨mm=.f)
  (rQ:mm=.i->∀Z ds,fi Z=cz ds->∀d∈ds,∀bs,pt d=cz bs->c9 bs=true) (ve:tn.length=n)
  (ht:∀cl Cl s H fp,PTs (G8 X (tn++ys) scope cl Cl s H fp) ifs (spT X.K (V3 (.own mm) n M js) ft)) (he:∀cl Cl s H fp,PX (G8 X (tn++ys) scope cl Cl s H fp) (V3 (.own mm) n M js) elt fe (.new t))
  (pR:X.N[i]?=cz x:=by rfl) (hx:Loc X.env.scope x:=by first|exact bO rfl|exact bN rfl) (hm:M[i]?=cz m:=by rfl)
  (oR:eU (.ListComp elt [⟨tg,iter,ifs,0⟩] scope cps) (cz (.Name x px)) pos.line X.env=pure true:=by rfl) (hs:∀x,eK iter X.env x=pure x:=by intro _;rfl)
  (hf:X.fn x=true∨X.env.scope.names.lookup x=cz .local:=by first|exact .inl rfl|exact .inr rfl) :
  PSX X w ML M (.Assign [.Name x px] (.ListComp elt [⟨tg,iter,ifs,0⟩] scope cps) pos) (g9 i (l6 fi js pt ft fe)) (M.set i (.own (.l t))):=by
 obtain⟨wi,pi,qi⟩:=hi;refine .mk ⟨_,a6v (te:=spE X.K (V3 (.own mm) n M js) fe (.new t)) hc hN pR hx pi C hg ht he oR hs hf,λD Z σ H P F o S um k=>?_⟩;obtain⟨d,h1,g1⟩:=bnd um;cases g1
 exact a4G qi yW w_ rQ ve S.toE h1 λv H' e ⟨fp,o,nd,fr⟩=>k _ _ _ (S.set hm e o nd fr)
end
def argsOk:List Ty->List D->Bool
 |[],[]=>true
 |.i::us,d::ds=>imm d&&argsOk us ds
 |.f::us,_::ds=>argsOk us ds
 |_,_=>false
noncomputable def fnD(us:List Ty)(n:Nat)(g:EvS):List D->Option D:=λds=>if argsOk us ds then (g (ds++aG n .none)).bind λo=>match o with
 |.rt d=>cz d
 |_=>xn
 else xn
theorem R7:∀{us:List Ty} {vs:List V} {ds:List D},argsOk us ds=true->DenAll K H vs ds->∀n,StAll K H [] (us.map .own++aG n .dead) (ds++aG n .none) (vs.map cz++aG n xn) []
 |[],vs,[],_,hd,n=>by
  rw[hd.nil_inv]
  induction n with
  |zero=>exact L5
  |succ n ih=>exact i5 (K:=K) (H:=H) (F:=[]) (m:=.dead) (f:=[]) rfl ih
 |.i::us,vs,d::ds,h,hd,n=>by
  have h':imm d=true/\argsOk us ds=true:=by simpa[argsOk]using h
  obtain⟨v,r,rfl,h1,h2⟩:=hd.cons_inv;refine i5 (K:=K) (H:=H) (F:=[]) (m:=.own .i) (f:=[]) ⟨v,rfl,?_⟩ (R7 h'.2 h2 n);simp only[Own,K3];exact⟨trivial,h'.1,h1⟩
 |.f::us,vs,d::ds,h,hd,n=>by
  have h':argsOk us ds=true:=by simpa[argsOk]using h
  obtain⟨v,r,rfl,h1,h2⟩:=hd.cons_inv;refine i5 (K:=K) (H:=H) (F:=[]) (m:=.own .f) (f:=[]) ⟨v,rfl,?_⟩ (R7 h' h2 n);simp only[Own,K3];exact⟨trivial,h1⟩
 |.l _::us,vs,d::ds,h,_,_=>by simp[argsOk]at h
 |.tp _::us,vs,d::ds,h,_,_=>by simp[argsOk]at h
 |.d _ _::us,vs,d::ds,h,_,_=>by simp[argsOk]at h
 |[],vs,d::ds,h,_,_=>by simp[argsOk]at h
 |.i::us,vs,[],h,_,_=>by simp[argsOk]at h
 |.f::us,vs,[],h,_,_=>by simp[argsOk]at h
 |.l _::us,vs,[],h,_,_=>by simp[argsOk]at h
 |.tp _::us,vs,[],h,_,_=>by simp[argsOk]at h
 |.d _ _::us,vs,[],h,_,_=>by simp[argsOk]at h
open PyProof.Rows in
def b5T{P:bD}{w:cm}{K:ag}{mg:bG->Option aj}{base:cQ}{x:bG}{st:iq}{f:ax}{fd:dP}{N ps:List bG}{k n:Nat}{us:List Ty}{u:Ty}{g:EvS}{M':List Md}(F:Fun K x x st f fd)(S:FnScope N ps (f6 st))(nk:us.length=ps.length)(hn:N.length=ps.length+n)
  (hb:∀(fW:aj) (A:bP) (outer:List nL) (s:av) (H:Hp) (E:XK),Room k (A.deeper (iB x (f6 st) s.heap.objs.size f fW))->PSsX (Z0 CX0 P w K mg base N x (f6 st) f fW A outer s H E).nox u [] (us.map .own++aG n .dead) (r9 st) g M') :
  FnOk P w K mg base CX0 (k+1) f fd ps (spD K ps.length (fnD us n g) u):=by
 refine F.ok S (λvs H Q E h=>?_) (λfW A outer s H vs Q E hr h=>?_)
 ·obtain⟨ds,d,hl,_⟩:=h;exact hl
 obtain⟨ds,d,hl,hd,hm,q⟩:=h;obtain⟨t,p,r⟩:=(hb fW A outer s H E hr).out;refine⟨t,p,?_⟩;unfold fnD at hm;by_cases ha:argsOk us ds=true
 ·rw[aD ha]at hm;obtain⟨o,h1,h2⟩:=bnd hm;cases o with
  |rt d'=>
   have kE:cz d'=cz d:=h2;cases kE
   have e:L2.start N vs=vs.map cz++aG n xn:=by
    unfold L2.start;rw[show N.length-vs.length=n by lia]
   rw[e];refine r _ (ds++aG n iH) _ H H [] (.rt d) ⟨⟨[],R7 ha hd n,bI,λa ha=>(nomatch ha)⟩,λa ha=>(nomatch ha),by rw[K3];exact Same.refl H⟩ h1 ?_;exact λv H' fp o nd fr e=>q v H' fp e o nd fr
  |_=>cases h2
 ·rw[aM ha]at hm;cases hm
end VS
namespace VS
open PySem PySem.Spec L2 PyProof.Rows
def E3(K:ag):List (bG×ax):=L7.filterMap λx=>(B6 K x).map λp=>(x,p)
def a1j:List ax->Bool
 |[]=>true
 |a::r=>!r.contains a&&a1j r
def a3c(K:ag)(names:List bG):Bool:=a1j ((E3 K).map (·.2))&&(E3 K).all λt=>(K.lookup t.2).isNone&&names.contains t.1
theorem a3d:∀{l:List (bG×ax)} {x y:bG} {p:ax},a1j (l.map (·.2))=true->(x,p)∈l->(y,p)∈l->x=y
 |[],_,_,_,_,h,_=>(nomatch h)
 | (z,q)::l,x,y,p,h,h1,h2=>by
  have h':((l.map (·.2)).contains q=false)/\a1j (l.map (·.2))=true:=by simpa[a1j]using h
  have Ai:∀w,(w,q)∉l:=λw hw=>by
   have:(l.map (·.2)).contains q=true:=by
    rw[uI];exact aJ.mpr ⟨(w,q),hw,rfl⟩
   rw[h'.1]at this;cases this
  rcases aI.mp h1 with e1|e1
  ·rcases aI.mp h2 with e2|e2
   ·cases e1;cases e2;rfl
   ·cases e1;exact absurd e2 (Ai y)
  ·rcases aI.mp h2 with e2|e2
   ·cases e2;exact absurd e1 (Ai x)
   ·exact a3d h'.2 e1 e2
def a1R{K:ag}{x:bG}{p:ax}(hx:x∈L7)(h:B6 K x=cz p):(x,p)∈E3 K:=
 dY.mpr ⟨x,hx,by rw[h];rfl⟩
def C4{K:ag}{x:bG}{p:ax}(h:(x,p)∈E3 K):x∈L7/\B6 K x=cz p:=by
 obtain⟨y,hy,e⟩:=dY.mp h;cases q:B6 K y with
 |none=>rw[q]at e;cases e
 |some r=>
  rw[q]at e;have e':(y,r)=(x,p):=aE e;cases e'
  exact⟨hy,q⟩
def a8e{K:ag}(e:a5i K cd=cz p)(X:K.In h):∃c,cd=.ref c/\gE h c p:=by
 unfold a5i at e
 split at e
 ·rename_i c
  split at e
  ·rename_i n dd vs sl hc
   split at e
   ·rename_i hn
    split at e
    ·rename_i P' file tf flags tg Ao text tt Bl Ep h7 h9 Er
     split at e
     ·rename_i iU
      cases e
      have en:n="code":=by simpa using hn
      subst en;refine⟨c,rfl,_,vs,file,tf,flags,tg,Ao,text,tt,X _ _ hc,rfl,rfl,Bl,?_,?_,?_,?_,?_,bne_iff_ne.mp iU⟩
      ·simp[fx,Bl]
      ·simp[fx,Ep]
      ·simp[fx,h7]
      ·simp[fx,h9]
      ·simp[fx,Er]
     ·cases e
    ·cases e
   ·cases e
  ·cases e
 ·cases e
def a4I{K:ag}{h:cQ}(e:B6 K x=cz p)(X:K.In h)(G:h.Ns bU mg) :
  ∃f oc od fd sl c,mg x=cz (.ref f)/\K.lookup f=cz ⟨oc,od,.func fd,sl⟩/\fd.code=.ref c/\gE h c p:=by
 unfold B6 at e
 split at e
 ·rename_i f hf
  split at e
  ·rename_i oc od fd sl hl
   obtain⟨c,hc,hd⟩:=a8e e X;exact⟨f,oc,od,fd,sl,c,kr X G hf,hl,hc,hd⟩
  ·cases e
 ·cases e
def Tab0(K:ag)(h:cQ):Prop:=∀x∈L7,∀p,B6 K x=cz p->isCodeTable h p/\h.get? p=cz {cls:=.none,data:=.fields #[]}
def b5U{q:bD}{loose:List bG}{xX:ExcName->Option aj}{mg mb:bG->Option aj}{h:cQ}{K:ag}(T:Top q loose xX mg mb h)(X:K.In h)(ok:a3c K ((recsOf q).map (·.name))=true):Tab0 K h:=λx hx p e=>by
 have hm:=a1R hx e;have hn:((K.lookup p).isNone&&((recsOf q).map (·.name)).contains x)=true:=by
  unfold a3c at ok;rw[aB]at ok;exact eM.mp ok.2 _ hm
 rw[aB,uI]at hn;obtain⟨d,hd,rfl⟩:=aJ.mp hn.2;obtain⟨f,oc,od,fd,sl,c,h1,h2,h3,h4⟩:=a4I e X T.g;obtain⟨a,o,Bm,c',P',z1,z2,z3,z4,z5,z6⟩:=T.tab d hd;rw[h1]at z1;cases z1
 rw[X _ _ h2]at z2;cases z2
 have BJ:Data.func fd=Data.func Bm:=z3;cases BJ
 rw[h3]at z4;cases z4
 obtain⟨ob,vs,file,tf,flags,tg,Ao,text,tt,y1,y2,y3,y4,_⟩:=h4;obtain⟨⟨Fq,Ff,w1,w2,w3,w4⟩,w5⟩:=id z6;rw[y1]at w1;cases w1
 rw[y3]at w3;cases w3
 rw[y4]at w4;cases w4
 exact⟨z6.isCodeTable,w5⟩
def N3(K:ag)(H:Hp):Hp:=λb=>match (E3 K).find? λt=>t.2==b with
 |some t=>cz (.tbl #[.str (U4 t.1) 0])
 |none=>H b
def b0M{K:ag}{s₁:av}{vs:List aj} 
  (KX:K.In s₁.heap) (qV:s₁.heap.Ns bU mg) (hb:s₁.heap.Ns kK mb) (xl:∀x:bG,x≠"__name__"->mb x=gZ x) (yN:s₁.heap.NoLimit) (hg:s₁.gens=#[])
  (DX:∃bm ob,mg "__builtins__"=cz (.ref bm)/\bm≠kK/\s₁.heap.get? bm=cz ob/\ob.cls=.type "module"/\ob.dict=cz kK/\ob.data=.plain)
  (qS:Tab0 K s₁.heap) (oV:a3c K names=true)
  (ha:s₁.heap.get? a=cz {cls:=.type "list",data:=.seq vs.toArray}) (hi:IntsAre vs ns) (hl:ns.length<=a_) (hr:Room k nR)
  (F:∀base:cQ,K.In base->base.Ns bU mg->FnOk P w K mg base CX k fa fd [x] sp) (nz:∀(s:av) (u:aj),nT s fd ⟨[u],[]⟩ [(x,u)])
  (pS:∀H:Hp,SqX K H a (ns.map V.int)->sp [.ref a] H (λv _=>v=.bl true) λ_ _ _=>False)
  (zE:∀H e s',CX [] H s₁ (λ_ _ _=>False) e s'->False) :
  gY (aW P w) nR (.call (.ref fa) ⟨[.ref a],[]⟩) (λr s'=>r=.ok (.ret (.bool true))/\OldK s₁.heap s'.heap/\s'.os=s₁.os/\oO s'.gens) s₁:=by
 have rv:=vals_ints hi;have xZ:=hi.length;have Cg:a1j ((E3 K).map (·.2))=true:=by unfold a3c at oV;rw[aB]at oV;exact oV.1
 have Cf:∀t∈E3 K,K.lookup t.2=xn:=λt ht=>by
  unfold a3c at oV;rw[aB]at oV;have:=eM.mp oV.2 t ht;rw[aB]at this;exact Option.isNone_iff_eq_none.mp this.1
 have core:∀H0:Hp,SqX K H0 a (ns.map V.int)->HOk P w H0 s₁.heap->(∀b u,H0 b=cz u->b=a/\∃o xs,u=.frz o (.lst xs))->(H0 a≠xn->K.lookup a=xn)->
   gY (aW P w) nR (.call (.ref fa) ⟨[.ref a],[]⟩) (λr s'=>r=.ok (.ret (.bool true))/\OldK s₁.heap s'.heap/\s'.os=s₁.os/\oO s'.gens) s₁:=by
  intro H0 hS hok hA hK;have kU:∀b u,N3 K H0 b=cz u->(∃x,(x,b)∈E3 K/\u=.tbl #[.str (U4 x) 0])∨((∀x,(x,b)∉E3 K)/\H0 b=cz u):=λb u e=>by
   unfold N3 at e
   split at e
   ·rename_i t ht
    cases e
    have h1:=List.mem_of_find?_eq_some ht;have h2:t.2=b:=beq_iff_eq.mp (List.find?_some (p:=λt:bG×ax=>t.2==b) ht);refine .inl ⟨t.1,?_,rfl⟩;rw[<-h2];exact h1
   ·rename_i ht
    refine .inr ⟨λx hx=>?_,e⟩;have:=nc.mp ht _ hx;simp at this
  have tabAt:∀x p,(x,p)∈E3 K->N3 K H0 p=cz (.tbl #[.str (U4 x) 0]):=λx p hm=>by
   cases e:N3 K H0 p with
   |none=>
    unfold N3 at e
    split at e
    ·cases e
    ·rename_i ht
     have:=nc.mp ht _ hm;simp at this
   |some u=>
    rcases kU p u e with⟨y,hy,rfl⟩|⟨hn,_⟩
    ·rw[a3d Cg hm hy]
    ·exact absurd hm (hn x)
  have nA:∀x,(x,a)∉E3 K:=λx hx=>by
   have:=(qS x (C4 hx).1 a (C4 hx).2).2;rw[ha]at this;cases this
  have By:N3 K H0 a=H0 a:=by
   cases e:N3 K H0 a with
   |none=>
    unfold N3 at e
    split at e
    ·cases e
    ·exact e.symm
   |some u=>
    rcases kU a u e with⟨y,hy,_⟩|⟨_,h⟩
    ·exact absurd hy (nA y)
    ·exact h.symm
  have Ee:SqX K (N3 K H0) a (ns.map V.int):=by
   rcases hS with (h|⟨o,h⟩)|h
   ·exact .inl (.inl (By.trans h))
   ·exact .inl (.inr ⟨o,By.trans h⟩)
   ·exact .inr h
  have pX:HOk P w (N3 K H0) s₁.heap:=λb u e=>by
   rcases kU b u e with⟨x,hx,rfl⟩|⟨hn,h⟩
   ·obtain⟨h1,h2⟩:=C4 hx;exact⟨#[],(qS x h1 b h2).2,trivial,λpos cv z=>by cases z⟩
   ·obtain⟨rfl,o,xs,rfl⟩:=hA b u h;obtain⟨h1,h2⟩:=hok _ _ h;obtain⟨z,its,n,r,e'⟩:=h2;exact⟨h1,z,its,n,r,e'⟩
  have mV:∀{b:ax} {o:fY},s₁.heap.get? b=cz o->N3 K H0 b=xn->(a5h s₁.heap (N3 K H0)).get? b=cz o:=λe n=>b2i e n
  have Ag:∀{b:ax} {o:fY},s₁.heap.get? b=cz o->(∀ps,o.data≠.fields ps)->(∀its n,o.data≠.seq its n)->N3 K H0 b=xn:=λ{b o} e d1 d2=>by
   cases q:N3 K H0 b with
   |none=>rfl
   |some u=>
    rcases kU b u q with⟨x,hx,rfl⟩|⟨hn,h⟩
    ·have:=(qS x (C4 hx).1 b (C4 hx).2).2;rw[e]at this;cases this
     exact absurd rfl (d1 _)
    ·obtain⟨rfl,_⟩:=hA b u h;rw[ha]at e;cases e
     exact absurd rfl (d2 _ _)
  have wQ:∀{b:ax} {m:bG->Option aj},s₁.heap.Ns b m->(a5h s₁.heap (N3 K H0)).Ns b m:=λ{b m} ⟨o,es,ep,e,d,r⟩=>⟨o,es,ep,mV e (Ag e (λps z=>by rw[d]at z;cases z) λits n z=>by rw[d]at z;cases z),d,r⟩
  have Bd:K.In (a5h s₁.heap (N3 K H0)):=λb o e=>mV (KX b o e) (by
   cases q:N3 K H0 b with
   |none=>rfl
   |some u=>
    rcases kU b u q with⟨x,hx,rfl⟩|⟨hn,h⟩
    ·rw[Cf _ hx]at e;cases e
    ·obtain⟨rfl,_⟩:=hA b u h;rw[hK (by rw[h];simp)]at e;cases e)
  have hM:Mod K mg (a5h s₁.heap (N3 K H0)):=⟨Bd,wQ qV,⟨mb,wQ hb,xl⟩,let⟨mc,h1,h2⟩:=yN;⟨mc,wQ h1,h2⟩,
   let⟨bm,ob,b1,b2,b3,b4,b5,b6⟩:=DX;⟨bm,ob,b1,b2,mV b3 (Ag b3 (λps z=>by rw[b6]at z;cases z) λits n z=>by rw[b6]at z;cases z),b4,b5,b6⟩⟩
  have e0:Env0 P w K mg (a5h s₁.heap (N3 K H0)) nR [] s₁ (N3 K H0):=⟨rfl,hM,λb o e=>b5h e,Nat.le_of_eq (b0q _ _),trivial,λb hb=>absurd (show b∈([]:List ax) from hb) (by simp),pX,.of_eq hg,
   λx hx p e=>⟨_,0,tabAt x p (a1R hx e),rfl⟩⟩
  refine gX ((F _ Bd (wQ qV)).run nR [] s₁ (N3 K H0) ⟨[.ref a],[]⟩ [.ref a] [.ref a] _ _ hr e0 (nz s₁ (.ref a)) (.cons rfl .nil) (pS _ Ee)) λr s' h=>?_
  cases r with
  |error e=>exact (zE _ e s' h).elim
  |ok fl=>
   cases fl with
   |next=>exact cK h
   |brk=>exact cK h
   |cont=>exact cK h
   |ret u=>
    obtain⟨v,H',os,bare,un,oU,r',q⟩:=h;have q':v=.bl true:=q;subst q';obtain rfl:u=mw true:=r';refine⟨rfl,⟨λb o e=>?_,λb o e=>un.there b o e (by simp)⟩,os,bare⟩;cases q:N3 K H0 b with
    |none=>exact .inl (un.keep b o e q (by intro z;exact absurd (show b∈([]:List ax) from z) (by simp)) (by simp))
    |some u=>
     rcases kU b u q with⟨x,hx,rfl⟩|⟨hn,h⟩
     ·obtain⟨t1,t2⟩:=qS x (C4 hx).1 b (C4 hx).2;rw[e]at t2;cases t2
      obtain⟨more,e2⟩:=un.tbls b _ q;obtain⟨ps,e3,_⟩:=(show a6n H' s'.heap b _ from oU b _ e2);exact .inr (.inl ⟨t1,rfl,#[],ps,rfl,by simpa using e3⟩)
     ·obtain⟨rfl,ob,xs,rfl⟩:=hA b u h;have z2:=un.frzs b ob _ q;obtain⟨e1,_⟩:=pX b _ q;obtain⟨e2,_⟩:=oU b _ z2;rw[e]at e1;cases e1;exact .inl e2
 cases hk:K.lookup a with
 |some o=>
  have e:=KX a o hk;rw[ha]at e;cases e
  refine core (λ_=>xn) (.inr ⟨vs,_,hk,by rw[xZ];exact hl,rv⟩) (λb u z=>by have z':(xn:Option HO)=cz u:=z;cases z') (λb u z=>by have z':(xn:Option HO)=cz u:=z;cases z') λz=>absurd rfl z
 |none=>
  refine core (λb=>if b=a then cz (.frz {cls:=.type "list",data:=.seq vs.toArray} (.lst (ns.map V.int))) else xn) (.inl (.inr ⟨{cls:=.type "list",data:=.seq vs.toArray},aD rfl⟩)) (λb u z=>?_) (λb u z=>?_) λ_=>hk
  ·by_cases hb:b=a
   ·have z':=(aD hb).symm.trans z;cases z'
    subst hb;exact⟨ha,by rw[ai];exact hl,vs,_,rv,ha⟩
   ·have z':=(aM hb).symm.trans z;cases z'
  ·by_cases hb:b=a
   ·have z':=(aD hb).symm.trans z;cases z'
    exact⟨hb,_,_,rfl⟩
   ·have z':=(aM hb).symm.trans z;cases z'
def b2Q{l:F_}{XP:(bG->Option aj)->cQ->Prop}{YP:cm->cQ->Prop}{d:DefRec}{K:Params->ag}{CX:cm->CXT}{sp:cm->Sp} 
  (hn:l.most=cz n) (CZ:n<=a_) (vS:d.params.defaults=[]) (hr:Room k nR)
  (hY:∀(w:cm) (h:cQ),YP w h->(K w.params).In h) (hT:∀w:cm,a3c (K w.params) ((recsOf q).map (·.name))=true)
  (F:∀(w:cm) (mg:bG->Option aj) (fa:ax) (h:cQ),(K w.params).In h->h.Ns bU mg->mg d.name=cz (.ref fa)->
   ∃fd:dP,(∀(s:av) (u:aj),nT s fd ⟨[u],[]⟩ [(x,u)])/\
    ∀base:cQ,(K w.params).In base->base.Ns bU mg->FnOk l.prog w (K w.params) mg base (CX w) k fa fd [x] (sp w))
  (pS:∀(w:cm) (H:Hp) (a:ax) (ns:List Int),ns.length<=n->SqX (K w.params) H a (ns.map V.int)->sp w [.ref a] H (λv _=>v=.bl true) λ_ _ _=>False)
  (zE:∀(w:cm) (H:Hp) (s:av) (e:aj) (s':av),CX w [] H s (λ_ _ _=>False) e s'->False) :
  PySem.W.WalkO q loose XP YP l.row.toRowW d [] (λf vs=>zT f vs):=by
 refine Att.attach_call hn vS λw s₀ s₁ mg mb fa o pm cd doc a vs ns G Y ho hd iE vA sU hints hlen hg=>?_
 have KX:=hY w _ Y;obtain⟨fd,hb,hF⟩:=F w mg fa _ KX G.T.g vA;exact b0M KX G.T.g G.T.b G.T.builtins G.T.nolimit hg G.T.bmain (b5U G.T KX (hT w)) (hT w) sU hints (cV hlen CZ) hr hF hb (λH hS=>pS w H a ns hlen hS) λH e s'=>zE w H s₁ e s'
def b0N{l:F_}{XP:(bG->Option aj)->cQ->Prop}{YP:cm->cQ->Prop}{d:DefRec}{K:Params->ag}{m:List bp->Option bp}(hn:l.most=cz 63)(vS:d.params.defaults=[])(hr:Room k nR)
  (hY:∀(w:cm) (h:cQ),YP w h->(K w.params).In h) (hT:∀w:cm,a3c (K w.params) ((recsOf q).map (·.name))=true)
  (F:∀(w:cm) (mg:bG->Option aj) (fa:ax) (h:cQ),(K w.params).In h->h.Ns bU mg->mg d.name=cz (.ref fa)->
   ∃fd:dP,(∀(s:av) (u:aj),nT s fd ⟨[u],[]⟩ [(x,u)])/\
    ∀base:cQ,(K w.params).In base->base.Ns bU mg->FnOk l.prog w (K w.params) mg base CX0 k fa fd [x] (spD (K w.params) 1 m .i))
  (hm:∀ns:List Int,ns.length<=63->m [.list (ns.map .int)]=cz (.bool true)) :
  PySem.W.WalkO q loose XP YP l.row.toRowW d [] (λf vs=>zT f vs):=
 b2Q (n:=63) (k:=k) (x:=x) (CX:=λ_=>CX0) (sp:=λw=>spD (K w.params) 1 m .i) hn (by decide) vS hr hY hT F
  (λw H a ns hl hS=>⟨_,_,rfl,denAll_cons (den_list hS (DenAll.ints ns)) denAll_nil,hm ns hl,λv H' fp _ o _ _=>(a1O o).2.2.bool_inv⟩) λ_ _ _ _ _ z=>z
end VS
namespace VS
open PySem PySem.Spec L2
def J7:∀(Z ds:List D),b8 Z=cz ds->ds.length=0:=λ_ _ h=>by cases h;rfl
def m5(hr:∀(Z ds:List D),r Z=cz ds->ds.length=n):∀(Z ds:List D),a7 f r Z=cz ds->ds.length=n+1:=λ_ _ h=>b0K hr h
def b2R:∀(Z ds:List D),iI fi Z=cz ds->∀d∈ds,mI d:=λZ ds h d hd=>by
 have:=a4H rfl Z ds h d hd [d] rfl;show imm d=true;simpa only [c9,eN]using this
def b0O:∀(Z ds:List D),iR fa Z=cz ds->∀d∈ds,mI d:=λZ ds h d hd=>by
 have:=a6A rfl Z ds h d hd [d] rfl;show imm d=true;simpa only [c9,eN]using this
def b7F:∀(Z ds:List D),iR2 fa fb Z=cz ds->∀d∈ds,mI d:=λZ ds h d hd=>by
 have:=b8G rfl Z ds h d hd [d] rfl;show imm d=true;simpa only [c9,eN]using this
def b0P(h:cQ)(hb:du<h.objs.size):ObjOk P w H (h.push {cls:=.type "dict",data:=.dict #[]}) h.objs.size (g7 h.objs.size []):=
 ⟨⟨gN.mpr (cP (bM hb)),cE _,bI,_,#[],0,bj _ rfl,⟨rfl,rfl,rfl⟩,rfl,.nil,λ_=>rfl⟩,⟨_,bj _ rfl⟩,λx1 x2 ⟨a1,a2,a3,o',oH,rm,b1,b2⟩ hk=>⟨a1,a2,a3,o',oH,rm,hk _ b1,b2⟩⟩
end VS
namespace VS
open PySem L2
section
variable {a b c:EvE}{Z Z':List D}{d x y:D}
def l1(g:D->Option D):Option D->Option D
 |some x=>g x
 |none=>xn
def l2(g:D->D->Option D):Option D->Option D->Option D
 |some x,cz y=>g x y
 |_,_=>xn
noncomputable def lc(m:List D->Option D):Option (List D)->Option D
 |some xs=>m xs
 |none=>xn
def b2S:Option D->Option (List D)->Option (List D)
 |some x,cz xs=>cz (x::xs)
 |_,_=>xn
def lB:Option D->Option Bool
 |some d=>asB d
 |none=>xn
def lT:Option D->Option Bool
 |some d=>tr d
 |none=>xn
def c0J:Option Bool->Option Bool
 |some b=>cz !b
 |none=>xn
def b8I:Option Bool->EvT->List D->Option Bool
 |some true,b,Z=>b Z
 |some false,_,_=>cz false
 |none,_,_=>xn
def orT:Option Bool->EvT->List D->Option Bool
 |some true,_,_=>cz true
 |some false,b,Z=>b Z
 |none,_,_=>xn
def b8J:Option D->EvE->List D->Option D
 |some (.bool true),b,Z=>b Z
 |some (.bool false),_,_=>cz (.bool false)
 |_,_,_=>xn
def orE:Option D->EvE->List D->Option D
 |some (.bool true),_,_=>cz (.bool true)
 |some (.bool false),b,Z=>b Z
 |_,_,_=>xn
def c0K:Option D->Option D
 |some (.bool b)=>cz (.bool !b)
 |_=>xn
def b8K:Option Bool->EvE->EvE->List D->Option D
 |some true,a,_,Z=>a Z
 |some false,_,b,Z=>b Z
 |none,_,_,_=>xn
def b5V:Option Bool->EvS->EvS->List D->Option Out
 |some true,a,_,Z=>a Z
 |some false,_,b,Z=>b Z
 |none,_,_,_=>xn
def thn:Option Out->EvS->Option Out
 |some (.nx Z),b=>b Z
 |some (.rt d),_=>cz (.rt d)
 |some (.bk Z),_=>cz (.bk Z)
 |some (.ct Z),_=>cz (.ct Z)
 |none,_=>xn
def b5W(i:Nat):Option D->List D->Option Out
 |some d,Z=>cz (.nx (Z.set i d))
 |none,_=>xn
def retS:Option D->Option Out
 |some d=>cz (.rt d)
 |none=>xn
def exS:Option D->List D->Option Out
 |some _,Z=>cz (.nx Z)
 |none,_=>xn
def b2T(i j:Nat):Option D->List D->Option Out
 |some (.tuple [x,y]),Z=>cz (.nx ((Z.set i x).set j y))
 |_,_=>xn
noncomputable def c0L(set:List D->D->Option (List D))(g:EvS):Option (List D)->List D->Option Out
 |some ds,Z=>U2 set g ds Z
 |none,_=>xn
def Z3:Option Out->Option D
 |some (.rt d)=>cz d
 |_=>xn
def listE:Option (List D)->Option D
 |some ds=>cz (.list ds)
 |none=>xn
def c0M:Option (List D)->Option D
 |some ds=>cz (.tuple ds)
 |none=>xn
def c2r:l1 g (cz x)=g x:=rfl
def b8L:l2 g (cz x) (cz y)=g x y:=rfl
def c2s:lc m (cz xs)=m xs:=rfl
def b5X:b2S (cz x) (cz xs)=cz (x::xs):=rfl
def c2t:lB (cz (.bool k))=cz k:=rfl
def c2u:lT (cz d)=tr d:=rfl
def b8M:c0J (cz k)=cz !k:=rfl
def b8N:b8I (cz true) t Z=t Z:=rfl
def b8O:b8I (cz false) t Z=cz false:=rfl
def c0N:orT (cz true) t Z=cz true:=rfl
def c0O:orT (cz false) t Z=t Z:=rfl
def b8P:b8J (cz (.bool true)) b Z=b Z:=rfl
def b8Q:b8J (cz (.bool false)) b Z=cz (.bool false):=rfl
def c0P:orE (cz (.bool true)) b Z=cz (.bool true):=rfl
def c0Q:orE (cz (.bool false)) b Z=b Z:=rfl
def b8R:c0K (cz (.bool k))=cz (.bool !k):=rfl
def b8S:b8K (cz true) a b Z=a Z:=rfl
def b8T:b8K (cz false) a b Z=b Z:=rfl
def b2U:b5V (cz true) s t Z=s Z:=rfl
def b2V:b5V (cz false) s t Z=t Z:=rfl
def V7:thn (cz (.nx Z)) s=s Z:=rfl
def b8U:thn (cz (.rt d)) s=cz (.rt d):=rfl
def b8V:thn (cz (.bk Z)) s=cz (.bk Z):=rfl
def b8W:thn (cz (.ct Z)) s=cz (.ct Z):=rfl
def a0k:b5W i (cz d) Z=cz (.nx (Z.set i d)):=rfl
def b8X:retS (cz d)=cz (.rt d):=rfl
def c0R:exS (cz d) Z=cz (.nx Z):=rfl
def b5Y:b2T i j (cz (.tuple [x,y])) Z=cz (.nx ((Z.set i x).set j y)):=rfl
def b8Y{set:List D->D->Option (List D)}:c0L set g (cz ds) Z=U2 set g ds Z:=rfl
def b8Z:Z3 (cz (.rt d))=cz d:=rfl
def a2C:listE (cz ds)=cz (.list ds):=rfl
def b9a:c0M (cz ds)=cz (.tuple ds):=rfl
def v_var:a6 i Z=cz (Z.getD i .none):=rfl
def v_c:eC d Z=cz d:=rfl
def v_1:e1 g a Z=l1 g (a Z):=by unfold e1;cases a Z<;>rfl
def v_2:e2 g a b Z=l2 g (a Z) (b Z):=by unfold e2;cases a Z<;>cases b Z<;>rfl
def c2v:eCl m f Z=lc m (f Z):=by unfold eCl;cases f Z<;>rfl
def b9b:a7 a r Z=b2S (a Z) (r Z):=by unfold a7;cases a Z<;>cases r Z<;>rfl
def a9s:b8 Z=cz []:=rfl
def c2w:tB a Z=lB (a Z):=by unfold tB;cases a Z<;>rfl
def c2x:tV a Z=lT (a Z):=by unfold tV;cases a Z<;>rfl
def c0S:tNo t Z=c0J (t Z):=by unfold tNo;cases t Z<;>rfl
def c0T:tAn s t Z=b8I (s Z) t Z:=by
 unfold tAn;cases s Z with
 |none=>rfl
 |some k=>cases k<;>rfl
def c0U:a0C s t Z=orT (s Z) t Z:=by
 unfold a0C;cases s Z with
 |none=>rfl
 |some k=>cases k<;>rfl
def v_and:b5H a b Z=b8J (a Z) b Z:=by
 unfold b5H;cases h:a Z with
 |none=>rfl
 |some d=>cases d with
  |bool k=>cases k<;>rfl
  |_=>rfl
def v_or:eOr a b Z=orE (a Z) b Z:=by
 unfold eOr;cases h:a Z with
 |none=>rfl
 |some d=>cases d with
  |bool k=>cases k<;>rfl
  |_=>rfl
def v_not:b5I a Z=c0K (a Z):=by
 unfold b5I;cases h:a Z with
 |none=>rfl
 |some d=>cases d<;>rfl
def c2y:eIf t a b Z=b8K (t Z) a b Z:=by
 unfold eIf;cases t Z with
 |none=>rfl
 |some k=>cases k<;>rfl
def a9t:x5 f Z=listE (f Z):=by unfold x5;cases f Z<;>rfl
def c0V:O7 f Z=c0M (f Z):=by unfold O7;cases f Z<;>rfl
def V8:e7 s t Z=thn (s Z) t:=by
 unfold e7;cases s Z with
 |none=>rfl
 |some o=>cases o<;>rfl
def a1S:g9 i a Z=b5W i (a Z) Z:=by unfold g9;cases a Z<;>rfl
def a9u:u7 a Z=retS (a Z):=by unfold u7;cases a Z<;>rfl
def c2z:sEx a Z=exS (a Z) Z:=by unfold sEx;cases a Z<;>rfl
def b2W:E1 Z=cz (.nx Z):=rfl
def c0W:sIf t s s' Z=b5V (t Z) s s' Z:=by
 unfold sIf;cases t Z with
 |none=>rfl
 |some k=>cases k<;>rfl
def a9v{set:List D->D->Option (List D)}:y6 fi set g Z=c0L set g (fi Z) Z:=by unfold y6;cases fi Z<;>rfl
def b9c:a1Q i j a Z=b2T i j (a Z) Z:=by
 unfold a1Q;cases h:a Z with
 |none=>rfl
 |some d=>
  match d with
  |.tuple [x,y]=>rfl
  |.tuple []=>rfl
  |.tuple [_]=>rfl
  |.tuple (_::_::_::_)=>rfl
  |.none=>rfl
  |.bool _=>rfl
  |.int _=>rfl
  |.str _=>rfl
  |.list _=>rfl
  |.dict _=>rfl
def D6(h:argsOk us ds=true):fnD us n g ds=Z3 (g (ds++aG n .none)):=by
 unfold fnD;rw[aD h];cases g (ds++aG n .none) with
 |none=>rfl
 |some o=>cases o<;>rfl
def v_add:t5 (.int i) (.int j)=cz (.int (i+j)):=rfl
def v_sub:a2t (.int i) (.int j)=cz (.int (i-j)):=rfl
def v_lt:dLt (.int i) (.int j)=cz (.bool (decide (i<j))):=rfl
def c2A:dLe (.int i) (.int j)=cz (.bool (decide (i<=j))):=rfl
def c2B:dGt (.int i) (.int j)=cz (.bool (decide (j<i))):=rfl
def c2C:dGe (.int i) (.int j)=cz (.bool (decide (j<=i))):=rfl
def v_mod(h:0<j):v9 (.int i) (.int j)=cz (.int (i % j)):=by
 show (if b8w i j=true then _ else _)=_;rw[aD (show b8w i j=true from aY h)]
def v_div(h:0<j)(h':j<1073741824):b0E (.int i) (.int j)=cz (.int (i / j)):=by
 show (if b5E i j=true then _ else _)=_;rw[aD (by unfold b5E;rw[aY h,aY h'];rfl)]
def a0l{i j:Int}(h:i.natAbs<2^64):O5 (.int i) (.int j)=cz (.int (i*j)):=by
 show (if b0D i j=true then _ else _)=_;rw[aD (by unfold b0D;rw[aY h];rfl)]
def a5E{i j:Int}(h:j.natAbs<2^64):O5 (.int i) (.int j)=cz (.int (i*j)):=by
 show (if b0D i j=true then _ else _)=_;rw[aD (by unfold b0D;rw[aY h,Bool.or_true])]
def v_pow(h:b0F i j=true):b0G (.int i) (.int j)=cz (.int (i^j.toNat)):=by
 show (if b0F i j=true then _ else _)=_;rw[aD h]
def c0X:dEq (.int i) (.int j)=cz (.bool (decide (i=j))):=by
 show cz (cX (false !=aH (.int i) (.int j)))=_;have:aH (.int i) (.int j)=decide (i=j):=by
  show (i==j)=decide (i=j);exact gv i j
 rw[this];simp
def c0Y:dNe (.int i) (.int j)=cz (.bool (!decide (i=j))):=by
 show cz (cX (true !=aH (.int i) (.int j)))=_;have:aH (.int i) (.int j)=decide (i=j):=by
  show (i==j)=decide (i=j);exact gv i j
 rw[this];simp
def b9d:q9 [.list ds]=cz (.int ds.length):=rfl
def b9e:q9 [.tuple ds]=cz (.int ds.length):=rfl
def c0Z:dIx (.list ds) (.int k)=atI ds k:=rfl
def c1a:dIx (.tuple ds) (.int k)=atI ds k:=rfl
def c1b:C3 (.list ds) (.int k)=atI ds k:=rfl
def c1c:q8 x y=l1 a5y (dIx x y):=by unfold q8;cases dIx x y<;>rfl
def b2X(h:imm d=true):a5y d=cz d:=by unfold a5y;rw[aD h]
def c1d:c2q k (.bool i) (.bool j)=cz (.bool (k !=(i==j))):=rfl
def R8:imm (.int i)=true:=by simp only[imm]
def w6(ns:List Int):c9 (ns.map .int)=true:=by
 induction ns with
 |nil=>simp only[c_,c9]
 |cons n ns ih=>simp only[ay,c9,imm,ih,eO]
def V9{α:Type}{xs:List α}(h0:0<=k)(h:k<(xs.length:Int)):atI xs k=cz (xs[k.toNat]'(by lia)):=by
 unfold L2.atI ixN;rw[aD h0,aD h];exact ae (by lia)
def b9f(i:Nat):D->Option D->List D->Option Out
 |.list ds,cz d,Z=>if ds.length<1000000 then cz (.nx (Z.set i (.list (ds++[d])))) else xn
 |_,_,_=>xn
def c1e:D5 i (.l t) n8 a Z=b9f i (Z.getD i .none) (a Z) Z:=by
 unfold D5 n8
 dsimp only[eh]
 cases h:Z.getD i .none with
 |list ds=>
  cases a Z with
  |none=>rfl
  |some d=>rfl
 |_=>cases a Z<;>rfl
def W1{ds:List D}(h:ds.length<1000000):b9f i (.list ds) (cz d) Z=cz (.nx (Z.set i (.list (ds++[d])))):=by
 show (if ds.length<1000000 then cz (Out.nx (Z.set i (.list (ds++[d])))) else xn)=_;rw[aD h]
def a4d(h:a Z=cz (.int n))(h0:0<=n)(h1:n<2^62):iR a Z=cz (j6 0 n.toNat):=by
 unfold iR;rw[h];show (if -(2^62)<=n/\n<2^62 then cz (j6 0 n.toNat) else xn)=_;rw[aD ⟨by lia,h1⟩]
def a3e:(j6 lo n).length=n:=by unfold j6;simp
end
end VS
namespace VS
open PySem PySem.Spec L2
noncomputable def fnN(us:List Ty)(n:Nat)(g:EvS):List D->Option D:=λds=>if argsOk us ds then (g (ds++aG n .none)).bind λo=>match o with
 |.rt d=>cz d
 |.nx _=>cz .none
 |_=>xn
 else xn
section
variable {X:Cx}{M:List Md}{a:Expr}{fa:EvE}{us:List Ty}{u:Ty}{pos p2:fT}
def b2Y(ha:PX X M a fa (.new (.tp us)))(hu:us[j]?=cz u:=by rfl):PX X M (.Subscript a (.Constant (.int (j:Nat)) c p2) pos) (e2 dIx fa (eC (.int (j:Nat)))) (.new u):=by
 obtain⟨ta,pa,qa⟩:=ha.out;refine .mk ⟨_,a9k a5z pa a7I (λ_ _=>rfl),λZ σ H P F d Q S hf q=>?_⟩;obtain⟨x,y,h1,h2,h3⟩:=D9 hf;cases h2
 refine qa Z σ H P F x _ S h1 λv H1 e1 ⟨fp,o,n,fr⟩=>?_
 simp only[Own]at o;obtain⟨p,xs,ds,rfl,hp,yD,rfl,ot⟩:=o;have rg:L2.atI ds (j:Int)=cz d:=h3;unfold L2.atI at rg;obtain⟨k,k1,k2⟩:=bnd rg;have hk:k=j:=by
  unfold ixN at k1;rw[aD (by lia)]at k1;by_cases c:(j:Int)<ds.length
  ·rw[aD c]at k1;have:=aE k1;lia
  ·rw[aM c]at k1;cases k1
 subst hk;obtain⟨v1,f,pre,post,z1,z2,z3,_⟩:=ot.zip hu k2;subst z3;have hlen:xs.length=ds.length:=by rw[ot.len.1,ot.len.2]
 refine .inr ⟨p,xs,(k:Int),v1,rfl,rfl,SqT.of hp,?_,q v1 H1 e1 ⟨f,z2.frame (D8 λa ha=>?_) u λ_ _=>rfl,?_,λa ha=>fr a ?_⟩⟩
 ·unfold L2.atI;rw[hlen,k1];exact z1
 ·rcases ar.mp ha with z|z
  ·exact ak _ (ah _ (ak _ z))
  ·exact ah _ z
 ·exact n.sublist ((kB f post).trans (jX pre _))
 ·exact ah _ (ak _ ha)
end
open PyProof.Rows in
def b2Z{P:bD}{w:cm}{K:ag}{mg:bG->Option aj}{base:cQ}{x:bG}{st:iq}{f:ax}{fd:dP}{N ps:List bG}{k n:Nat}{us:List Ty}{u:Ty}{g:EvS}{M':List Md}(F:Fun K x x st f fd)(S:FnScope N ps (f6 st))(nk:us.length=ps.length)(hn:N.length=ps.length+n)
  (hb:∀(fW:aj) (A:bP) (outer:List nL) (s:av) (H:Hp) (E:XK),Room k (A.deeper (iB x (f6 st) s.heap.objs.size f fW))->PSsX (Z0 CX0 P w K mg base N x (f6 st) f fW A outer s H E).nox .i [] (us.map .own++aG n .dead) (r9 st) g M') (hu:u=.i:=by rfl) :
  FnOk P w K mg base CX0 (k+1) f fd ps (spD K ps.length (fnN us n g) u):=by
 subst hu;refine F.ok S (λvs H Q E h=>?_) (λfW A outer s H vs Q E hr h=>?_)
 ·obtain⟨ds,d,hl,_⟩:=h;exact hl
 obtain⟨ds,d,hl,hd,hm,q⟩:=h;obtain⟨t,p,r⟩:=(hb fW A outer s H E hr).out;refine⟨t,p,?_⟩;unfold fnN at hm;by_cases ha:argsOk us ds=true
 ·rw[aD ha]at hm;obtain⟨o,h1,h2⟩:=bnd hm;have e:L2.start N vs=vs.map cz++aG n xn:=by
   unfold L2.start;rw[show N.length-vs.length=n by lia]
  have S0:StR K (us.map .own++aG n .dead) (ds++aG n iH) (vs.map cz++aG n xn) H H []:=⟨⟨[],R7 ha hd n,bI,λa ha=>(nomatch ha)⟩,λa ha=>(nomatch ha),by rw[K3];exact Same.refl H⟩;cases o with
  |rt d'=>
   have kE:cz d'=cz d:=h2;cases kE
   rw[e];exact r _ (ds++aG n iH) _ H H [] (.rt d) S0 h1 λv H' fp o nd fr e=>q v H' fp e o nd fr
  |nx Z=>
   have kE:cz iH=cz d:=h2;cases kE
   rw[e];refine r _ (ds++aG n iH) _ H H [] (.nx Z) S0 h1 λσ' H' F' S'=>?_
   refine q .non H' [] (S'.prot.trans k6) ?_ bI λa ha=>(nomatch ha)
   simp only[Own];exact⟨trivial,by simp only[imm],den_none⟩
  |_=>cases h2
 ·rw[aM ha]at hm;cases hm
def L9:∀{l:List α} {l':List β},fO R l l'->∀{j:Nat} {x:α},l[j]?=cz x->∃y,l'[j]?=cz y/\R x y:=by
 intro l l' h
 induction h with
 |nil=>intro j x e;simp at e
 |cons r _ ih=>
  intro j x e;cases j with
  |zero=>cases e;exact⟨_,rfl,r⟩
  |succ j=>exact ih (by simpa using e)
def a1T:∀{l:List α} {l':List β},fO R l l'->∀{j:Nat} {y:β},l'[j]?=cz y->∃x,l[j]?=cz x/\R x y:=by
 intro l l' h
 induction h with
 |nil=>intro j x e;simp at e
 |cons r _ ih=>
  intro j x e;cases j with
  |zero=>cases e;exact⟨_,rfl,r⟩
  |succ j=>exact ih (by simpa using e)
section
variable {X:Cx}{pins:List (ax×fY)}{σ:L2.St}{H:Hp}{s:av}{A:bP}{E:aj->av->Prop}{a:ax}{es:List (D×V×V)}{o:fY}{ents:Array hX}{ep:Nat}{kt:Bool}{k:D}{kv:V}{key:aj}
def a1k(I:Inv X pins σ H s)(kk:keyOk kt k)(dk:Den X.K H kv k)(rk:RelV kv key):∃as,Reads s.heap key k as:=Den.reads I k (U7 _ kk.1) dk rk
def a1l(I:Inv X pins σ H s)(hu:A.units+10<dW)(kk:keyOk kt k)(dk:Den X.K H kv k)(rk:RelV kv key)(h:Q (hashD k) {s with toks:=s.toks+s9 k}):aX (aW X.prog X.w) A (pyHash key) Q E s:=by
 obtain⟨as,r⟩:=a1k I kk dk rk;exact a2S k kk.1 (by have:=kk.2.1;lia) r h
def a1m(I:Inv X pins σ H s)(hu:A.units+10<dW)(ho:s.heap.get? a=cz o)(hd:o.data=.dict ents ep)(hp:fO T4 es ents.toList)(hn:(es.map (·.1)).Nodup)(hk:∀e∈es,keyOk kt e.1/\Den X.K H e.2.1 e.1)
  (kk:keyOk kt k) (dk:Den X.K H kv k) (rk:RelV kv key) (j_:(∀e∈es,e.1≠k)->Q xn s) (jZ:∀j e,es[j]?=cz e->e.1=k->Q (cz j) s) :
  aX (aW X.prog X.w) A (dictFind a key (hashD k)) Q E s:=by
 cases kt with
 |false=>
  obtain⟨i,rfl⟩:=kk.2.2.2 rfl;cases dk.int_inv
  obtain⟨t,rfl⟩:=rk;have ent:∀(j:Nat) (x:hX),ents.toList[j]?=cz x->∃e n u,es[j]?=cz e/\e.1=.int n/\x.key=.int n u/\x.hash=hashInt n:=λj x hx=>by
   obtain⟨e,he,h1,h2,_⟩:=a1T hp hx;obtain⟨k1,k2⟩:=hk e (bh he);obtain⟨n,en⟩:=k1.2.2.2 rfl;rw[en]at k2 h1;have e2:=k2.int_inv;rw[e2]at h2;obtain⟨u,rP⟩:=h2;exact⟨e,n,u,he,en,rP,by simpa[hashD]using h1⟩
  show aX (aW X.prog X.w) A (dictFind a (.int i t) ((gW X.prog X.w).hash i)) Q E s;refine wpAny_dictFind_of (knd:=gW X.prog X.w) (k:=i) (by simp[gW,jM]) ho hd (λx hx=>?_) ?_
  ·obtain⟨j,hj⟩:=df.mp (je.mpr hx);obtain⟨e,n,u,_,_,h3,h4⟩:=ent j x hj;exact⟨n,by rw[h3];simp[gW,jM],h4⟩
  ·cases hf:ents.findIdx? λe=>(gW X.prog X.w).is i e.key with
   |none=>
    refine j_ λe he gA=>?_
    obtain⟨j,hj⟩:=df.mp he;obtain⟨x,hx,_⟩:=L9 hp hj;obtain⟨e',n,u,h1,h2,h3,_⟩:=ent j x hx;rw[hj]at h1;cases h1
    rw[gA]at h2;cases h2
    have:=Array.findIdx?_eq_none_iff.mp hf x (je.mp (bh hx));rw[h3]at this;simp[gW,jM]at this
   |some j=>
    obtain⟨iX,uZ,_⟩:=Array.findIdx?_eq_some_iff_getElem.mp hf;have hx:ents.toList[j]?=cz ents[j]:=by simp[iX]
    obtain⟨e,n,u,h1,h2,h3,_⟩:=ent j _ hx;have vt:n=i:=by
     rw[h3]at uZ;simpa[gW,jM]using uZ
    subst vt;exact jZ j e h1 h2
 |true=>
  obtain⟨ds,rfl⟩:=kk.2.2.1 rfl;obtain⟨p,uJ,rfl,_,_⟩:=dk.tup_inv;cases (show key=bL p from rk)
  obtain⟨as,BZ⟩:=a1k I kk (dk) (show RelV (.ref p) (.ref p) from rfl);have build:∀{es:List (D×V×V)} {l:List hX},fO T4 es l->(∀e∈es,keyOk true e.1/\Den X.K H e.2.1 e.1)->∃xs:List (D×ax×aj),l=xs.map (λx=>(⟨hashD x.1,.ref x.2.1,x.2.2⟩:hX))/\xs.map (·.1)=es.map (·.1)/\∀x∈xs,B7 x.1=true/\x.1.depth<=7/\∃as,Reads s.heap (.ref x.2.1) x.1 as:=by
   intro es l hp
   induction hp with
   |nil=>exact λ_=>⟨[],rfl,rfl,λx hx=>(nomatch hx)⟩
   |@cons e x es l r _ ih=>
    intro hk;obtain⟨xs,i1,i2,i3⟩:=ih λe he=>hk e (aw _ he)
    obtain⟨k1,k2⟩:=hk e aL;obtain⟨as,rr⟩:=a1k I k1 k2 r.2.1;obtain⟨ds,ed⟩:=k1.2.2.1 rfl;have:∃q,x.key=.ref q:=by
     rw[ed]at rr;cases As:x.key with
     |ref q=>exact⟨q,rfl⟩
     |_=>rw[As]at rr;cases rr
    obtain⟨q,hq⟩:=this;refine⟨(e.1,q,x.val)::xs,?_,by rw[ay,ay,i2],λy hy=>?_⟩
    ·rw[ay,<-i1]
     congr 1;obtain⟨xh,xk,xv⟩:=x;simp only at hq;rw[show xh=hashD e.1 from r.1,hq]
    ·rcases aI.mp hy with z|z
     ·subst z;exact⟨k1.1,k1.2.1,as,by rw[hq]at rr;exact rr⟩
     ·exact i3 y z
  obtain⟨xs,x1,x2,x3⟩:=build hp hk;have idx:∀(j:Nat) (kk:D),(∃p,xs[j]?=cz (kk,p))↔∃e,es[j]?=cz e/\e.1=kk:=λj kk=>by
   have:(xs.map (·.1))[j]?=(es.map (·.1))[j]?:=by rw[x2]
   rw[aU,aU]at this
   constructor
   ·rintro⟨q,hq⟩;rw[hq]at this;cases he:es[j]? with
    |none=>rw[he]at this;cases this
    |some e=>rw[he]at this;exact⟨e,rfl,(aE this).symm⟩
   ·rintro⟨e,he,hk⟩;rw[he]at this;cases hx:xs[j]? with
    |none=>rw[hx]at this;cases this
    |some x=>
     rw[hx]at this;have e1:x.1=e.1:=aE this;exact⟨x.2,by rw[<-hk,<-e1]⟩
  refine @wpAny_dictFind_heap X.prog X.w D b0C (b2w X.prog X.w) A E s a p o ents ep xs (.tuple ds) Q (by show A.units+8<dW;lia) ⟨kk.1,kk.2.1,as,BZ⟩ ho hd x1 x3 (by rw[x2];exact hn) (λh=>j_ λe he gA=>?_) (λj q hj=>?_)
  ·obtain⟨j,hj⟩:=df.mp he;obtain⟨q,hq⟩:=(idx j (.tuple ds)).mpr ⟨e,hj,gA⟩;exact h j q hq
  ·obtain⟨e,he,gA⟩:=(idx j (.tuple ds)).mp ⟨q,hj⟩;exact jZ j e he gA
end
def B5(es:List (D×V×V))(k:D):Bool:=es.any λe=>aH e.1 k
def a0J(es:List (D×V×V))(k:D)(kv v:V):List (D×V×V):=if B5 es k then es.map λe=>if aH e.1 k then (e.1,e.2.1,v) else e else es++[(k,kv,v)]
section
variable {X:Cx}{pins:List (ax×fY)}{σ:L2.St}{H:Hp}{s:av}{A:bP}{E:aj->av->Prop}{a:ax}{es:List (D×V×V)}{kt:Bool}{k:D}{kv v:V}{key val:aj}
def a8f(h:a5v (ks++[x])=false):a5v ks=false:=by
 cases ks with
 |nil=>rfl
 |cons e ks=>
  unfold a5v at h ⊢
  split at h
  ·cases h
  ·rename_i hn
   split
   ·rename_i heq
    cases heq
    exact absurd rfl (hn _)
   ·rfl
def a8g{x:D×V×V}(h:Q9 (es++[x])=false):Q9 es=false:=by
 rw[Q9,aK]at h;exact a8f h
def a4J(I:Inv X pins σ H s)(h:H a=cz (g7 a es)):(a==du)=false/\es.length<=a_/\(es.map (·.1)).Nodup/\∃o ents ep,s.heap.get? a=cz o/\o.ExactDict/\o.data=.dict ents ep/\fO T4 es ents.toList/\(Q9 es=false->ep=es.length):=
 (show ObjOk X.prog X.w H s.heap a (g7 a es) from I.hok a _ h).1
def b0Q(I:Inv X pins σ H s)(h:H a=cz (g7 a es))(hL:Q9 es=false):(a==du)=false/\es.length<=a_/\(es.map (·.1)).Nodup/\∃o ents,s.heap.get? a=cz o/\o.ExactDict/\o.data=.dict ents es.length/\fO T4 es ents.toList:=
 let⟨a1,a2,a3,o,ents,_,r1,r2,r3,r4,r5⟩:=a4J I h;⟨a1,a2,a3,o,ents,r1,r2,r5 hL▸r3,r4⟩
def y7(I:Inv X pins σ H s)(h:H a=cz (g7 a es)):(a==du)=false/\es.length<=a_/\(es.map (·.1)).Nodup/\∃o ents ep,s.heap.get? a=cz o/\o.ExactDict/\o.data=.dict ents ep/\fO T4 es ents.toList:=
 let⟨a1,a2,a3,o,ents,ep,r1,r2,r3,r4,_⟩:=a4J I h;⟨a1,a2,a3,o,ents,ep,r1,r2,r3,r4⟩
def a6D(I:Inv X pins σ H s)(h:H a=cz (g7 a es)){o:fY}{ents:Array hX}{ep:Nat}(h1:s.heap.get? a=cz o)(h3:o.data=.dict ents ep)(hL:Q9 es=false):ep=es.length:=by
 obtain⟨_,_,_,o',oH,g1,_,g3,_⟩:=b0Q I h hL;rw[h1]at g1;cases g1
 rw[h3]at g3
 injection g3
def o9(I:Inv X pins σ H s)(h:H a=cz (g7 a es)):s.TypeIs (.ref a) "dict":=by
 obtain⟨_,_,_,o,ents,ep,h1,h2,_⟩:=y7 I h;exact⟨o,h1,h2.1⟩
def a0K(I:Inv X pins σ H s)(h:H a=cz (g7 a es)):∀b,bL a=.ref b->∃ob,s.heap.get? b=cz ob/\ob.dict=xn:=λb q=>by
 cases q
 obtain⟨_,_,_,o,ents,ep,h1,h2,_⟩:=y7 I h;exact⟨o,h1,h2.2.1⟩
def a1n{P:bD}{w:cm}{H':Hp}{h':cQ}(hs:(a==du)=false)(hl:es.length<=a_)(hn:(es.map (·.1)).Nodup){o:fY}{ents:Array hX}{ep:Nat}(h1:h'.get? a=cz o)(h2:o.ExactDict)(h3:o.data=.dict ents ep)(he:Q9 es=false->ep=es.length)(h4:fO T4 es ents.toList):ObjOk P w H' h' a (g7 a es):=
 ⟨⟨hs,hl,hn,o,ents,ep,h1,h2,h3,h4,he⟩,⟨o,h1⟩,λx1 x2 ⟨a1,a2,a3,o',oH,rm,b1,b2⟩ hk=>⟨a1,a2,a3,o',oH,rm,hk _ b1,b2⟩⟩
structure KeysAt (X:Cx) (H:Hp) (kt:Bool) (es:List (D×V×V)) (k:D) (kv:V):Prop where
 keys:∀e∈es,keyOk kt e.1/\Den X.K H e.2.1 e.1
 key:keyOk kt k
 den:Den X.K H kv k
def KeysAt.eqv(K:KeysAt X H kt es k kv){e:D×V×V}(he:e∈es):aH e.1 k=true↔e.1=k:=D7 e.1 k (K.keys e he).1.1 K.key.1
def get_dict(I:Inv X pins σ H s)(hu:A.units+10<dW)(h:H a=cz (g7 a es))(K:KeysAt X H kt es k kv)(rk:RelV kv key) 
  (j_:B5 es k=false->∀s',Inv X pins σ H s'->Q xn s') (jZ:∀e∈es,e.1=k->∀x s',Inv X pins σ H s'->RelV e.2.2 x->Q (cz x) s') :
  aX (aW X.prog X.w) A (EH a key) Q E s:=by
 obtain⟨_,_,hn,o,ents,ep,h1,h2,h3,h4⟩:=y7 I h;unfold EH
 try with_reducible refine cZ ?_
 refine af (a1l I hu K.key K.den rk (af (a1m (s:={s with toks:=s.toks+s9 k}) (I.tok (s.toks+s9 k)) hu h1 h3 h4 hn K.keys K.key K.den rk ?_ ?_)))
 ·intro oF;refine aC (j_ ?_ _ (I.tok _));unfold B5;rw[eD];exact λe he hq=>oF e he ((K.eqv he).mp hq)
 ·intro j e he gA;obtain⟨x,hx,r⟩:=L9 h4 he;refine af (gK (s:={s with toks:=s.toks+s9 k}) h1 h3 ?_);have:ents[j]?=cz x:=by rw[<-bT];exact hx
  rw[this];exact aC (jZ e (bh he) gA _ _ (I.tok _) r.2.2)
def a3f(hf:B5 es k=false):a0J es k kv v=es++[(k,kv,v)]:=by unfold a0J;rw[hf];rfl
def a8h{α β:Type}{R:α->β->Prop}{l:List α}{l':List β}(h:fO R l l'){x:α}{y:β}(r:R x y):fO R (l++[x]) (l'++[y]):=by
 induction h with
 |nil=>exact .cons r .nil
 |cons q _ ih=>exact .cons q ih
def b0R(K:KeysAt X H kt es k kv)(hn:(es.map (·.1)).Nodup)(hf:B5 es k=false):((es++[(k,kv,v)]).map (·.1)).Nodup:=by
 rw[aK,bC];refine⟨hn,by simp,λx hx y hy e=>?_⟩;simp only[ay,c_,aq]at hy;subst hy;subst e;obtain⟨e,he,rfl⟩:=aJ.mp hx;unfold B5 at hf;rw[eD]at hf;exact hf e he ((K.eqv he).mpr rfl)
def a4K(I:Inv X pins σ H s)(h:H a=cz (g7 a es))(K:KeysAt X H kt es k kv)(rk:RelV kv key)(rv:RelV v val)(hl:es.length<a_)(hf:B5 es k=false){t':Nat}{o:fY}{ents:Array hX}{ep:Nat}(h1:s.heap.get? a=cz o)(h2:o.ExactDict)(h3:o.data=.dict ents ep)(h4:fO T4 es ents.toList) :
  Inv X pins σ (upd H a (g7 a (es++[(k,kv,v)]))) {s with heap:=s.heap.update a (·.mapDictKeys (·.push ⟨hashD k,key,val⟩)),toks:=t'}:=by
 obtain⟨hs,_,hn,_⟩:=y7 I h;refine I.write (x:=a) (e:=a) (by rw[h];exact jN) (.inl rfl) (λb q hb z=>((fE ..).2 b hb).trans z) ⟨_,cJ _ h1 (ke (nI h3 _))⟩ ?_;refine a1n hs (by simp;lia) (b0R K hn hf) (cJ _ h1 (ke (nI h3 _))) (h2.mapDictKeys _) (nI h3 _) (λhL=>by rw[a6D I h h1 h3 (a8g hL),aA];rfl) ?_;have:=a8h h4 (x:=(k,kv,v)) (y:=⟨hashD k,key,val⟩) ⟨rfl,rk,rv⟩;obtain⟨l⟩:=ents;simpa using this
def b0S(I:Inv X pins σ H s)(hu:A.units+10<dW)(h:H a=cz (g7 a es))(K:KeysAt X H kt es k kv)(rk:RelV kv key)(rv:RelV v val)(hl:es.length<a_){Q:aj->av->Prop}
  (j_:B5 es k=false->∀s',Inv X pins σ (upd H a (g7 a (es++[(k,kv,v)]))) s'->Q val s') (jZ:∀e∈es,e.1=k->∀x s',Inv X pins σ H s'->RelV e.2.2 x->Q x s') :
  aX (aW X.prog X.w) A (wu a key val) Q E s:=by
 obtain⟨_,_,hn,o,ents,ep,h1,h2,h3,h4⟩:=y7 I h;have kN:ents.size<=a_:=by
  have:=gG h4;have e2:ents.toList.length=ents.size:=by simp
  lia
 unfold wu
 try with_reducible refine cZ ?_
 refine af (a1l I hu K.key K.den rk (af (a1m (s:={s with toks:=s.toks+s9 k}) (I.tok (s.toks+s9 k)) hu h1 h3 h4 hn K.keys K.key K.den rk ?_ ?_)))
 ·intro oF;have hf:B5 es k=false:=by
   unfold B5;rw[eD];exact λe he hq=>oF e he ((K.eqv he).mp hq)
  refine af (iC (af (wpAny_updateDictKeys (hz:=kN) (s:={s with toks:=s.toks+s9 k}) h1 h3 (aC (j_ hf _ (a4K (t':=s.toks+s9 k) I h K rk rv hl hf h1 h2 h3 h4))))))
 ·intro j e he gA;obtain⟨x,hx,r⟩:=L9 h4 he;refine af (gK (s:={s with toks:=s.toks+s9 k}) h1 h3 ?_);have:ents[j]?=cz x:=by rw[<-bT];exact hx
  rw[this];exact af (iC (aC (jZ e (bh he) gA _ _ (I.tok (s.toks+s9 k)) r.2.2)))
def a8i(hp:fO T4 es l)(hn:(es.map (·.1)).Nodup)(hk:∀e∈es,aH e.1 k=true↔e.1=k)(rv:RelV v val):∀{j:Nat} {e:D×V×V},es[j]?=cz e->e.1=k->
  fO T4 (es.map λe=>if aH e.1 k then (e.1,e.2.1,v) else e) (l.modify j λx=>{x with val:=val}):=by
 induction hp with
 |nil=>intro j e he;simp at he
 |@cons e0 x es l r hp ih=>
  intro j e he gA;rw[ay,bZ]at hn;have sX:∀e∈es,aH e.1 k=true↔e.1=k:=λe he=>hk e (aw _ he)
  cases j with
  |zero=>
   cases he
   have h0:aH e0.1 k=true:=(hk _ aL).mpr gA;have jF:es.map (λe=>if aH e.1 k then (e.1,e.2.1,v) else e)=es:=by
    have:∀e'∈es,(if aH e'.1 k then (e'.1,e'.2.1,v) else e')=e':=λe' lP=>by
     rw[aM];intro q;exact hn.1 (by rw[gA,<-(sX e' lP).mp q];exact dg lP)
    rw[bA this,tO]
   rw[ay,aD h0,jF];exact .cons ⟨r.1,r.2.1,rv⟩ hp
  |succ j=>
   have lP:es[j]?=cz e:=by simpa using he
   have iU:¬ aH e0.1 k=true:=λq=>hn.1 (by rw[(hk _ aL).mp q,<-gA];exact dg (bh lP))
   rw[ay,aM iU];exact .cons r (ih hn.2 sX lP gA)
def a3g{es:List (D×V×V)}:(es.map λe=>if aH e.1 k then (e.1,e.2.1,v) else e).map (·.1)=es.map (·.1):=by
 rw[bF];refine bA λe _=>?_
 show (if aH e.1 k then (e.1,e.2.1,v) else e).1=e.1
 split<;>rfl
def set_dict(I:Inv X pins σ H s)(hu:A.units+10<dW)(h:H a=cz (g7 a es))(K:KeysAt X H kt es k kv)(rk:RelV kv key)(rv:RelV v val)(hl:es.length<a_){Q:Unit->av->Prop}
  (hQ:∀s',Inv X pins σ (upd H a (g7 a (a0J es k kv v))) s'->Q () s'):aX (aW X.prog X.w) A (dictSet a key val) Q E s:=by
 obtain⟨hs,_,hn,o,ents,ep,h1,h2,h3,h4⟩:=y7 I h;have kN:ents.size<=a_:=by
  have:=gG h4;have e2:ents.toList.length=ents.size:=by simp
  lia
 unfold dictSet
 try with_reducible refine cZ ?_
 refine af (a1l I hu K.key K.den rk ?_);unfold dictSetHashed
 try with_reducible refine cZ ?_
 refine af (a1m (s:={s with toks:=s.toks+s9 k}) (I.tok (s.toks+s9 k)) hu h1 h3 h4 hn K.keys K.key K.den rk ?_ ?_)
 ·intro oF;have hf:B5 es k=false:=by
   unfold B5;rw[eD];exact λe he hq=>oF e he ((K.eqv he).mp hq)
  rw[a3f hf]at hQ;exact af (iC (wpAny_updateDictKeys (hz:=kN) (s:={s with toks:=s.toks+s9 k}) h1 h3 (hQ _ (a4K (t':=s.toks+s9 k) I h K rk rv hl hf h1 h2 h3 h4))))
 ·intro j e he gA;have hf:B5 es k=true:=by
   unfold B5;rw[ow];exact⟨e,bh he,(K.eqv (bh he)).mpr gA⟩
  have rm:a0J es k kv v=es.map λe=>if aH e.1 k then (e.1,e.2.1,v) else e:=by unfold a0J;rw[hf];rfl
  rw[rm]at hQ;refine af (iC (af (wpAny_updateDict (s:={s with toks:=s.toks+s9 k}) h1 h3 (wpAny_point (hQ _ ?_)))));refine I.write (x:=a) (e:=a) (t':=s.toks+s9 k) (by rw[h];exact jN) (.inl rfl) (λb q hb z=>((fE ..).2 b hb).trans z) ⟨_,cJ _ h1 (ke (rE h3 _))⟩ ?_;refine a1n hs (by rw[ai];lia) (by rw[a3g];exact hn) (cJ _ h1 (ke (rE h3 _))) (h2.mapDict _) (rE h3 _) (λhL=>by rw[Q9,a3g]at hL;rw[a6D I h h1 h3 hL,ai]) ?_;have:=a8i h4 hn (λe he=>K.eqv he) rv he gA;obtain⟨l⟩:=ents;simpa using this
end
def b3a(i:Expr):Prop:=∀ov iv,rL i false ov iv=operate [ov,iv] (qw ov iv)
open PyProof.Rows in
def c2D{prog:bD}{w:cm}{A:bP}{E:aj->av->Prop}{s:av}{env:nL}{value slice:Expr}{pos:fT}{T id:String}{Q:aj->av->Prop}
  (hl:typeLookup (.type T) "__getitem__"=pure (cz (.builtin id))) (hs:b3a slice)
  (h:aX (aW prog w) A (cC value env) (λo s₁=>aX (aW prog w) A (cC slice env) (λi s₂=>s₂.TypeIs o T/\aX (aW prog w) A (qw o i) Q E s₂) E s₁) E s) :
  aX (aW prog w) A (cC (.Subscript value slice pos) env) Q E s:=by
 refine PyProof.Rows.Subscript_ (dU h (λo s₁ h₁=>dU h₁ (λi s₂ h₂=>?_) λ_ _ x=>x) λ_ _ x=>x);obtain⟨hT,h₂⟩:=h₂;unfold subscriptTail;refine af ?_;rw[getitemInPython_of_ne hT.not_modules];refine af (gB hT hl ?_);have fin:aX (aW prog w) A (rL slice false o i) (λr s₃=>aX (aW prog w) A (letTemporaryGo value o r >>= λ_=>pure r) Q E s₃) E s₂:=by
  rw[hs o i];exact wpAny_operating (dU h₂ (λr s₃ h₃=>af (wpAny_letTemporaryGo (aC h₃))) λ_ _ x=>x)
 first
  |exact aC (af fin)
  |exact af (aC (af fin))
  |exact af fin
section
variable {X:Cx}{pins:List (ax×fY)}{σ:L2.St}{H:Hp}{s:av}{A:bP}{E:aj->av->Prop}{a:ax}{es:List (D×V×V)}{kt:Bool}{k:D}{kv v:V}{key val:aj}
def a8j(hu:A.units+12<dW)(I:Inv X pins σ H s)(h:H a=cz (g7 a es))(K:KeysAt X H kt es k kv)(rk:RelV kv key)(hh:B5 es k=true)
  (hQ:∀e∈es,e.1=k->∀x s',Inv X pins σ H s'->RelV e.2.2 x->Q x s'):aX (aW X.prog X.w) A (qw (.ref a) key) Q E s:=by
 have hT:=o9 I h;unfold qw
 try with_reducible refine cZ ?_
 refine af (wpAny_sequenceKey hT (by decide) ?_);refine af (gc (name:=cI "__getitem__") hT slot_dict_getitem (eA slot_dict_getitem hT entry_dict_getitem ?_ (args_dict_getitem _ _)));show aX _ _ (EH a key >>= _) _ _ s;refine af (get_dict (A:=A.in1) I (by show A.units+1+10<dW;lia) h K rk (λhf=>by rw[hh]at hf;cases hf) λe he gA x s' I' r=>?_);exact aC ⟨x,rfl,aC (hQ e he gA x s' I' r)⟩
def a6E(hu:A.units+12<dW)(I:Inv X pins σ H s)(h:H a=cz (g7 a es))(K:KeysAt X H kt es k kv)(rk:RelV kv key)
  (hQ:∀s',Inv X pins σ H s'->Q (B5 es k) s'):aX (aW X.prog X.w) A (contains (.ref a) key) Q E s:=by
 have hT:=o9 I h;obtain⟨hd,_⟩:=y7 I h;unfold contains
 try with_reducible refine cZ ?_
 refine af (gB hT slot_dict_contains.lookup ?_);show aX _ _ (if (cz (aj.builtin "dict.__contains__")==cz bx)=true then _ else _) _ E s;rw[aM (by rw[beq_builtin_none];exact cw)];refine af (wpAny_callSpecialUnlessNone?_slot (name:=cI "__contains__") hT slot_dict_contains (eA slot_dict_contains hT entry_dict_contains ?_ (args_dict_contains _ _)));show aX _ _ (EH a key >>= _) _ _ s;refine af (get_dict (A:=A.in1) I (by show A.units+1+10<dW;lia) h K rk (λhf s' I'=>?_) λe he gA x s' I' r=>?_)
 ·rw[hf]at hQ;show aX _ _ (Builtin.Dict.pendingKey? a key >>= _) _ _ _;exact af (wpAny_pendingKey_other hd (aC ⟨_,rfl,fy (hQ s' I')⟩))
 ·have hf:B5 es k=true:=by
   unfold B5;rw[ow];exact⟨e,he,(K.eqv he).mpr gA⟩
  rw[hf]at hQ;show aX _ _ (ret (.bool true)) _ _ _;exact aC ⟨_,rfl,fy (hQ s' I')⟩
def b3b(hu:A.units+12<dW)(I:Inv X pins σ H s)(h:H a=cz (g7 a es))(K:KeysAt X H kt es k kv)(rk:RelV kv key)
  (hQ:∀s',Inv X pins σ H s'->Q (.bool (!B5 es k)) s'):aX (aW X.prog X.w) A (dh .NotIn key (.ref a)) Q E s:=by
 show aX _ _ (do return .bool (!(<-contains (.ref a) key))) Q E s;exact af (a6E hu I h K rk λs' I'=>aC (hQ s' I'))
def a8k(hu:A.units+12<dW)(I:Inv X pins σ H s)(h:H a=cz (g7 a es))(K:KeysAt X H kt es k kv)(rk:RelV kv key)(rv:RelV v val)(hl:es.length<a_)
  (hQ:∀s',Inv X pins σ (upd H a (g7 a (a0J es k kv v))) s'->Q () s'):aX (aW X.prog X.w) A (BW (.ref a) key val) Q E s:=by
 have hT:=o9 I h;unfold BW
 try with_reducible refine cZ ?_
 refine af (wpAny_sequenceKey hT (by decide) ?_);refine af (gc (name:=cI "__setitem__") hT slot_dict_setitem (eA slot_dict_setitem hT entry_dict_setitem ?_ (args_dict_setitem _ _ _)));show aX _ _ (Builtin.Dict.notOrdered "__setitem__" ⟨[.ref a,key,val],[]⟩ >>= _) _ _ s;refine af (mM hT ?_);show aX _ _ (dictSet a key val >>= _) _ _ s;exact af (set_dict (A:=A.in1) I (by show A.units+1+10<dW;lia) h K rk rv hl λs' I'=>aC ⟨.none,rfl,aC (hQ s' I')⟩)
def b9g(hu:A.units+12<dW)(I:Inv X pins σ H s)(h:H a=cz (g7 a es))(K:KeysAt X H kt es k kv)(rk:RelV kv key)
  (j_:B5 es k=false->∀s',Inv X pins σ H s'->Q .none s') (jZ:∀e∈es,e.1=k->∀x s',Inv X pins σ H s'->RelV e.2.2 x->Q x s'):aX (aW X.prog X.w) A (call (.builtin "dict.get") [.ref a,key]) Q E s:=by
 have hT:=o9 I h;obtain⟨hd,_⟩:=y7 I h;refine eA F.slot_dict_get hT F.entry_dict_get ?_ (F.args_dict_get_2 _ _);show aX _ _ (EH a key >>= _) _ _ s;refine af (get_dict (A:=A.in1) I (by show A.units+1+10<dW;lia) h K rk (λhf s' I'=>?_) λe he gA x s' I' r=>?_)
 ·show aX _ _ (Builtin.Dict.missed a key >>= _) _ _ _;exact af (wpAny_missed_other hd (aC ⟨.none,rfl,j_ hf s' I'⟩))
 ·exact aC ⟨x,rfl,jZ e he gA x s' I' r⟩
def b5Z(hu:A.units+12<dW)(I:Inv X pins σ H s)(h:H a=cz (g7 a es))(K:KeysAt X H kt es k kv)(rk:RelV kv key)(rv:RelV v val)(hl:es.length<a_)
  (j_:B5 es k=false->∀s',Inv X pins σ (upd H a (g7 a (es++[(k,kv,v)]))) s'->Q val s') (jZ:∀e∈es,e.1=k->∀x s',Inv X pins σ H s'->RelV e.2.2 x->Q x s') :
  aX (aW X.prog X.w) A (call (.builtin "dict.setdefault") [.ref a,key,val]) Q E s:=by
 have hT:=o9 I h;obtain⟨hd,_⟩:=y7 I h;refine eA F.slot_dict_setdefault hT F.entry_dict_setdefault ?_ (F.args_dict_setdefault_3 _ _ _);unfold Builtin.«dict.setdefault»;refine af ?_;unfold Builtin.Dict.keyAndDefault;refine af (mM hT ?_);show aX _ _ (pure (a,key,cz val)) _ _ s;refine aC ?_;show aX _ _ (if (a==du)=true then _ else (wu a key val >>= _)) _ _ s;rw[aM (by rw[hd];exact cw)];exact af (b0S (A:=A.in1) I (by show A.units+1+10<dW;lia) h K rk rv hl (λhf s' I'=>aC ⟨_,rfl,j_ hf s' I'⟩) λe he gA x s' I' r=>aC ⟨_,rfl,jZ e he gA x s' I' r⟩)
def b9h(I:Inv X pins σ H s)(h:H a=cz (g7 a es))(hQ:∀t s',Inv X pins σ H s'->Q (.int es.length t) s'):aX (aW X.prog X.w) A (call (.builtin "len") [.ref a]) Q E s:=by
 have hT:=o9 I h;obtain⟨hd,hl,_,o,ents,ep,h1,h2,h3,h4⟩:=y7 I h;have kN:ents.size=es.length:=by
  have:=gG h4;have e2:ents.toList.length=ents.size:=by simp
  lia
 have rS:(es.length:Int)<2^63:=by
  have:a_<2^62:=by decide
  lia
 refine Calls.call_function_entry kind_len plain_len entry_len (args_len1 _) ?_;unfold Builtin.«len»;refine af (m:=oneArg "len" _) (aC ?_);refine af (m:=callSpecial? (.ref a) (cI "__len__")) (gc (name:=cI "__len__") hT tP (eA tP hT F.entry_dict_len ?_ (F.args_dict_len_1 _)));show aX _ _ (dictSize a >>= _) _ _ s;unfold dictSize;refine af (af (gK h1 h3 (aC ?_)));show aX _ _ (Builtin.Dict.pendingCount a >>= _) _ _ s;refine af (wpAny_pendingCount_other hd ?_);refine wpAny_ret_mkInt ?_;rw[Nat.add_zero,kN];refine af (cZ (aC ?_));refine af (rK ?_);show aX _ _ (if ((es.length:Nat):Int)<0 then _ else _) _ _ _;rw[aM (by lia)];show aX _ _ (if ((es.length:Nat):Int)≥2^63 then _ else _) _ _ _;rw[aM (by lia)];exact af (wpAny_mkInt (aC ⟨_,rfl,hQ _ _ (I.tok _)⟩))
end
def K5(kvs:List (D×D))(k:D):Bool:=kvs.any λp=>aH p.1 k
def v5(kvs:List (D×D))(k:D):Option D:=(kvs.find? λp=>aH p.1 k).map (·.2)
def K2(kvs:List (D×D))(k d:D):List (D×D):=if K5 kvs k then kvs.map λp=>if aH p.1 k then (p.1,d) else p else kvs++[(k,d)]
def p7(kt:Bool)(k:D):Bool:=B7 k&&decide (k.depth<=7)&&match k with
 |.tuple _=>kt
 |.int _=>!kt
 |_=>false
def K6(h:p7 kt k=true):keyOk kt k:=by
 unfold p7 at h;rw[aB,aB]at h;refine⟨h.1.1,bB h.1.2,λe=>?_,λe=>?_⟩
 ·subst e;cases k with
  |tuple ds=>exact⟨ds,rfl⟩
  |int i=>have:=h.2;simp at this
  |_=>have:=h.2;simp at this
 ·subst e;cases k with
  |int i=>exact⟨i,rfl⟩
  |tuple ds=>have:=h.2;simp at this
  |_=>have:=h.2;simp at this
def dIn(neg kt:Bool):D->D->Option D
 |k,.dict kvs=>if p7 kt k then cz (.bool (neg !=K5 kvs k)) else xn
 |_,_=>xn
def a5F(kt:Bool):D->D->Option D
 |.dict kvs,k=>if p7 kt k then v5 kvs k else xn
 |_,_=>xn
def a3h(kt:Bool):D->D->Option D
 |.dict kvs,k=>if p7 kt k then cz ((v5 kvs k).getD .none) else xn
 |_,_=>xn
noncomputable def a9w:List D->Option D
 |[.dict kvs]=>cz (.int kvs.length)
 |_=>xn
theorem M7:∀{es:List (D×V×V)} {ds:List D},ds.length=es.length->K5 ((es.map (·.1)).zip ds) k=B5 es k
 |[],ds,_=>by simp[K5,B5]
 |e::es,[],h=>by simp at h
 |e::es,d::ds,h=>by
  have ih:=M7 (k:=k) (es:=es) (ds:=ds) (by simpa using h);unfold K5 B5 at ih ⊢;simp only[ay,dB,List.any_cons,ih]
theorem a6F:∀{es:List (D×V×V)} {ds:List D} {j:Nat} {e:D×V×V} {d:D},ds.length=es.length->(∀e∈es,aH e.1 k=true↔e.1=k)->(es.map (·.1)).Nodup->es[j]?=cz e->e.1=k->ds[j]?=cz d->v5 ((es.map (·.1)).zip ds) k=cz d
 |[],ds,j,e,d,_,_,_,he,_,_=>by simp at he
 |e0::es,[],j,e,d,h,_,_,_,_,_=>by simp at h
 |e0::es,d0::ds,0,e,d,h,hk,_,he,gA,hd=>by
  cases he
  cases hd
  have:aH e0.1 k=true:=(hk _ aL).mpr gA;simp[v5,this]
 |e0::es,d0::ds,j+1,e,d,h,hk,hn,he,gA,hd=>by
  rw[ay,bZ]at hn;have lP:es[j]?=cz e:=by simpa using he
  have kc:ds[j]?=cz d:=by simpa using hd
  have ih:=a6F (k:=k) (by simpa using h) (λe he=>hk e (aw _ he)) hn.2 lP gA kc;have iU:aH e0.1 k=false:=by
   cases q:aH e0.1 k with
   |false=>rfl
   |true=>exact absurd (by rw[(hk _ aL).mp q,<-gA];exact dg (bh lP)) hn.1
  unfold v5 at ih ⊢;simp only[ay,dB,jr,iU];exact ih
def Y2(h:K5 kvs k=false):v5 kvs k=xn:=by
 unfold K5 at h;rw[eD]at h;unfold v5;rw[nc.mpr λp hp=>by simpa using h p hp];rfl
def a6G(h:v5 kvs k=cz d):K5 kvs k=true:=by
 cases q:K5 kvs k with
 |true=>rfl
 |false=>rw[Y2 q]at h;cases h
def b0T(h:K5 kvs k=false):K2 kvs k d=kvs++[(k,d)]:=by unfold K2;rw[h];rfl
def a6H{es:List (D×V×V)}{ds:List D}{k d:D}{kv v:V}(hl:ds.length=es.length):((es++[(k,kv,v)]).map (·.1)).zip (ds++[d])=(es.map (·.1)).zip ds++[(k,d)]:=by
 rw[aK,List.zip_append (by rw[ai];exact hl.symm)];rfl
theorem a1U{v:V}:∀{es:List (D×V×V)} {ds:List D} {j:Nat} {e:D×V×V},ds.length=es.length->(∀e∈es,aH e.1 k=true↔e.1=k)->(es.map (·.1)).Nodup->es[j]?=cz e->e.1=k->
  ((es.map (·.1)).zip ds).map (λp=>if aH p.1 k then (p.1,d) else p)=(es.map (·.1)).zip (ds.set j d)
 |[],ds,j,e,_,_,_,he,_=>by simp at he
 |e0::es,[],j,e,h,_,_,_,_=>by simp at h
 |e0::es,d0::ds,0,e,h,hk,hn,he,gA=>by
  cases he
  rw[ay,bZ]at hn;have h0:aH e0.1 k=true:=(hk _ aL).mpr gA;have jF:((es.map (·.1)).zip ds).map (λp=>if aH p.1 k then (p.1,d) else p)=(es.map (·.1)).zip ds:=by
   have:∀p∈(es.map (·.1)).zip ds,(if aH p.1 k then (p.1,d) else p)=p:=λp hp=>by
    rw[aM];intro q;have hm:=(jq hp).1;obtain⟨e',lP,hq⟩:=aJ.mp hm;have CJ:e'.1=p.1:=hq;rw[<-CJ]at q;exact hn.1 (by rw[gA,<-(hk e' (aw _ lP)).mp q];exact dg lP)
   rw[bA this,tO]
  simp only[ay,dB,fZ,aD h0,jF]
 |e0::es,d0::ds,j+1,e,h,hk,hn,he,gA=>by
  rw[ay,bZ]at hn;have lP:es[j]?=cz e:=by simpa using he
  have ih:=a1U (k:=k) (d:=d) (v:=v) (ds:=ds) (by simpa using h) (λe he=>hk e (aw _ he)) hn.2 lP gA;have iU:¬ aH e0.1 k=true:=λq=>hn.1 (by rw[(hk _ aL).mp q,<-gA];exact dg (bh lP))
  simp only[ay,dB,dX,aM iU,ih]
section
variable {K:ag}{H:Hp}{F:List ax}
theorem Own.dict(h:Own K H F (.d kt u) v d fp):∃a es ds fs,v=.ref a/\H a=cz (g7 a es)/\d=.dict ((es.map (·.1)).zip ds)/\fp=a::fs/\(∀e∈es,keyOk kt e.1/\Den K (cut H F) e.2.1 e.1)/\ListAll (Own K H F u) (es.map (·.2.2)) ds fs/\ds.length=es.length/\(es.map (·.1)).Nodup:=by
 simp only[Own]at h;obtain⟨a,es,ds,fs,h1,h2,h3,h4,h5,h6⟩:=h;exact⟨a,es,ds,fs,h1,h2,h3,h4,h5.2,h6,by have:=h6.length;rw[ai]at this;exact this.symm,h5.1⟩
end
section
variable {X:Cx}{M:List Md}{a b e:Expr}{fa fb:EvE}{ca cb:Cat}{kt:Bool}{u:Ty}{pos:fT}
def keysAt(h:∀e∈es,keyOk kt e.1/\Den X.K (cut H F) e.2.1 e.1)(hk:p7 kt k=true)(hd:Den X.K H kv k):KeysAt X H kt es k kv:=
 ⟨λe he=>⟨(h e he).1,(h e he).2.up k6⟩,K6 hk,hd⟩
def b6a(X:Cx)(neg:Bool):R2:=λx y H Q=>∃a es kt k,y=.ref a/\H a=cz (g7 a es)/\KeysAt X H kt es k x/\Q (.bl (neg !=B5 es k)) H
def b0U(hu:X.A.units+64<dW):OpR X (dh .NotIn) (b6a X true):=by
 intro pins s σ H x y v w Q I rx ry h;obtain⟨a,es,kt,k,rfl,hH,K,q⟩:=h;cases (show w=bL a from ry)
 exact b3b (by lia) I hH K rx λs' I'=>⟨.bl _,H,I',rfl,by simpa using q⟩
def b3c(h:dIn neg kt k d=cz r):∃kvs,d=.dict kvs/\p7 kt k=true/\r=.bool (neg !=K5 kvs k):=by
 cases d with
 |dict kvs=>
  have h':(if p7 kt k then cz (cX (neg !=K5 kvs k)) else xn)=cz r:=h;by_cases c:p7 kt k=true
  ·rw[aD c]at h';exact⟨kvs,rfl,c,(aE h').symm⟩
  ·rw[aM c]at h';cases h'
 |_=>cases h
def b6b(ho:OpR X (dh op) (b6a X neg))(ha:PX X M a fa ca)(hb:PX X M b fb (.bor (.d kt u))){Z:List D}(S:StE X.K M Z σ H P F)(e1:Same H H1)(e2:Same H1 H2)
  (r1:ResR X.K ca H H1 F v k) (r2:ResR X.K (.bor (.d kt u)) H1 H2 F w d) (hr:dIn neg kt k d=cz r) (q:Q (.bl (match r with|.bool b=>b|_=>false)) H2):b6a X neg v w H2 Q:=by
 obtain⟨kvs,rfl,hk,rfl⟩:=b3c hr;obtain⟨fp,o,_⟩:=r2;obtain⟨p,es,ds,fs,rfl,hH,hd,_,h5,_,hl,_⟩:=o.dict;cases hd
 refine⟨p,es,kt,k,rfl,hH,keysAt h5 hk (r1.den.up e2),?_⟩;rw[<-M7 hl];exact q
def b9i(ho:OpR X (dh op) (b6a X neg))(ha:PX X M a fa ca)(hb:PX X M b fb (.bor (.d kt u)))(hm:il op b=false:=by first|exact a7L _|with_unfolding_all rfl):PTX X M (.Compare a [op] [b] pos) (tB (e2 (dIn neg kt) fa fb)):=by
 obtain⟨ta,pa,qa⟩:=ha.out;obtain⟨tb,pb,qb⟩:=hb.out;refine .mk ⟨_,a9i ho pa pb hm,λZ σ H P F k Q S hf q=>?_⟩;obtain⟨d,hf,hk⟩:=bnd hf;cases P5 hk
 obtain⟨x,y,h1,h2,h3⟩:=D9 hf;exact qa Z σ H P F x _ S h1 λv H1 e1 r1=>qb Z σ H1 P F y _ (S.grow e1) h2 λw H2 e2 r2=>b6b ho ha hb S e1 e2 r1 r2 h3 ⟨k,rfl,q H2 (e1.trans e2)⟩
def c2E(X:Cx)(td ty:TE):TE:=λσ H Q=>td σ H λx H1=>ty σ H1 λy H2=>∃a es kt k,x=.ref a/\H2 a=cz (g7 a es)/\KeysAt X H2 kt es k y/\B5 es k=true/\∀e∈es,e.1=k->Q e.2.2 H2
def b9j(hu:X.A.units+64<dW)(ho:PE X a td)(hi:PE X b ty)(hs:b3a b):PE X (.Subscript a b pos) (c2E X td ty):=by
 intro pins s σ H Q I h;refine c2D PySem.F.slot_dict_getitem.lookup hs (L2.thn (ho pins s σ H _ I h) λu s1 ⟨x,H1,I1,rx,q1⟩=>L2.thn (hi pins s1 σ H1 _ I1 q1) λiv s2 ⟨y,H2,I2,ry,p,es,kt,k,ex,hH,K,hh,q2⟩=>?_);subst ex;obtain rfl:u=bL p:=rx;exact⟨o9 I2 hH,a8j (by lia) I2 hH K ry hh λe he gA x s3 I3 r3=>⟨e.2.2,H2,I3,r3,q2 e he gA⟩⟩
def b0V(h:a5F kt d k=cz r):∃kvs,d=.dict kvs/\p7 kt k=true/\v5 kvs k=cz r:=by
 cases d with
 |dict kvs=>
  have h':(if p7 kt k then v5 kvs k else xn)=cz r:=h;by_cases c:p7 kt k=true
  ·rw[aD c]at h';exact⟨kvs,rfl,c,h'⟩
  ·rw[aM c]at h';cases h'
 |_=>cases h
def a8l{es:List (D×V×V)}{ds:List D}{e:D×V×V}(h6:ListAll (Own X.K H F u) (es.map (·.2.2)) ds fs)(hl:ds.length=es.length)(hn:(es.map (·.1)).Nodup)(K:KeysAt X H kt es k kv)(he:e∈es)(gA:e.1=k) :
  ∃(j:Nat) (d:D) (f:List ax),es[j]?=cz e/\ds[j]?=cz d/\v5 ((es.map (·.1)).zip ds) k=cz d/\Own X.K H F u e.2.2 d f/\∀x∈f,x∈fs:=by
 obtain⟨j,hj⟩:=df.mp he;have iX:j<ds.length:=by rw[hl];exact (aQ.mp hj).1
 obtain⟨w,f,pre,post,z1,z2,z3,_⟩:=h6.at_ (ae iX);rw[aU,hj]at z1;cases z1
 refine⟨j,ds[j],f,hj,ae iX,a6F hl (λe he=>K.eqv he) hn hj gA (ae iX),z2,λx hx=>?_⟩;rw[z3];exact ah _ (ak _ hx)
end
def a5G:Ty->Bool
 |.i=>true
 |.f=>true
 |.l _=>true
 |_=>false
def a6I:∀{u:Ty},a5G u=true->Own K H F u .non .none []
 |.i,_=>by simp only[Own];exact⟨trivial,by simp only[imm],den_none⟩
 |.f,_=>by simp only[Own];exact⟨trivial,den_none⟩
 |.l _,_=>by simp only[Own];exact .inl ⟨trivial,by simp only[imm],den_none⟩
 |.tp _,h=>nomatch h
 |.d _ _,h=>nomatch h
section
variable {X:Cx}{M:List Md}{a b e o:Expr}{es:List Expr}{fa fb:EvE}{ca cb:Cat}{kt:Bool}{u:Ty}{pos apos cM:fT}{to:TE}{t:TA}{name:bG}{id:String}{r:V->List V->Hp->VK->Prop}
def b9k(hu:X.A.units+64<dW)(ha:PX X M a fa (.bor (.d kt u)))(hb:PX X M b fb cb)(hs:b3a b:=by exact λ_ _=>rfl):PX X M (.Subscript a b pos) (e2 (a5F kt) fa fb) (.bor u):=by
 obtain⟨ta,pa,qa⟩:=ha.out;obtain⟨tb,pb,qb⟩:=hb.out;refine .mk ⟨_,b9j hu pa pb hs,λZ σ H P F d Q S hf q=>?_⟩;obtain⟨x,y,h1,h2,h3⟩:=D9 hf;obtain⟨kvs,rfl,hk,hg⟩:=b0V h3;refine qa Z σ H P F _ _ S h1 λv H1 e1 ⟨fp,o,sub⟩=>qb Z σ H1 P F y _ (S.grow e1) h2 λw H2 e2 r2=>?_
 obtain⟨p,es,ds,fs,rfl,hH,hd,rfl,h5,h6,hl,hn⟩:=(o.grow e2).dict;cases hd
 have K:=keysAt (X:=X) h5 hk r2.den;refine⟨p,es,kt,y,rfl,hH,K,by rw[<-M7 hl];exact a6G hg,λe he gA=>?_⟩;obtain⟨j,d',f,_,_,g',o',s'⟩:=a8l h6 hl hn K he gA;rw[hg]at g';cases g'
 exact q _ H2 (e1.trans e2) ⟨f,o',λx hx=>sub x (aw _ (s' x hx))⟩
def c2F(r:V->List V->Hp->VK->Prop)(to:TE)(t:TA):TE:=λσ H Q=>to σ H λx H1=>(∃p es,x=.ref p/\H1 p=cz (g7 p es))/\t σ H1 λxs H2=>r x xs H2 Q
def a8m(slot:Slot "dict" name id)(yp:typeOf (.builtin id)=pure (.type "method_descriptor"))(hm:MtR X id r)(ho:PE X o to)(ha:PA X (e::es) t)
  (fK:d_ o name X.env (cC o X.env)=cC o X.env:=by rfl)
  (iM:((cH cM (au (e::es) X.env)).all (λx=>!x.1)&&(e_ cM (dE [] X.env)).all (λx=>x.1.isSome)
   && decide ((e::es).length+([]:List eP).length+(if ([]:List eP).isEmpty then 0 else 1)<30))=true:=by rfl)
  (fJ:(apos.endLine==cM.line)=true:=by rfl) (hs:au (e::es) X.env=(false,cC e X.env)::au es X.env:=by rfl) (eJ:(cH cM (au es X.env)).any (·.1)=false:=by rfl) :
  PE X (.Call (.Attribute o name apos) (e::es) [] cM) (c2F r to t):=by
 intro pins s σ H Q I h;refine BL fK iM fJ rfl (L2.thn (ho pins s σ H _ I h) λv s1 ⟨x,H1,I1,r1,⟨p,FT,ex,hH⟩,q1⟩=>?_);subst ex;obtain rfl:v=bL p:=r1;refine⟨"dict",id,so,slot,yp,o9 I1 hH,a0K I1 hH,?_⟩;have hA:=ha cM pins s1 σ H1 _ I1 q1;rw[hs]at hA ⊢;refine mD (by show (false||(cH cM (au es X.env)).any (·.1))=false;rw[eJ]<;>rfl) (nM ?_);exact L2.thn hA λus s2 ⟨vs,H2,I2,r2,q2⟩=>hm pins s2 σ H2 (.ref p) vs (.ref p) us Q I2 rfl r2 q2
def b7G(X:Cx):V->List V->Hp->VK->Prop:=λx xs H Q=>∃p es kt k y,x=.ref p/\xs=[y]/\H p=cz (g7 p es)/\KeysAt X H kt es k y/\(B5 es k=false->Q .non H)/\∀e∈es,e.1=k->Q e.2.2 H
def b3d(hu:X.A.units+64<dW):MtR X "dict.get" (b7G X):=by
 intro pins s σ H x xs v us Q I rx rv h;obtain⟨p,es,kt,k,y,rfl,rfl,hH,K,q1,q2⟩:=h;cases (show v=bL p from rx)
 obtain⟨w,rfl,rw⟩:=rv.one;exact b9g (by lia) I hH K rw (λhf s' I'=>⟨.non,H,I',rfl,q1 hf⟩) λe he gA x s' I' r'=>⟨e.2.2,H,I',r',q2 e he gA⟩
def a8n{d k r:D}(h:a3h kt d k=cz r):∃kvs,d=.dict kvs/\p7 kt k=true/\r=(v5 kvs k).getD .none:=by
 cases d with
 |dict kvs=>
  have h':(if p7 kt k then cz ((v5 kvs k).getD .none) else xn)=cz r:=h;by_cases c:p7 kt k=true
  ·rw[aD c]at h';exact⟨kvs,rfl,c,(aE h').symm⟩
  ·rw[aM c]at h';cases h'
 |_=>cases h
def b9l(hu:X.A.units+64<dW)(ha:PX X M a fa (.bor (.d kt u)))(hb:PX X M b fb cb)(oF:a5G u=true:=by rfl)(fK:d_ a "get" X.env (cC a X.env)=cC a X.env:=by rfl)
  (iM:((cH cM (au [b] X.env)).all (λx=>!x.1)&&(e_ cM (dE [] X.env)).all (λx=>x.1.isSome)
   && decide (([b]:List Expr).length+([]:List eP).length+(if ([]:List eP).isEmpty then 0 else 1)<30))=true:=by rfl)
  (fJ:(apos.endLine==cM.line)=true:=by rfl) (hs:au [b] X.env=(false,cC b X.env)::au [] X.env:=by rfl) (eJ:(cH cM (au [] X.env)).any (·.1)=false:=by rfl) :
  PX X M (.Call (.Attribute a "get" apos) [b] [] cM) (e2 (a3h kt) fa fb) (.bor u):=by
 obtain⟨ta,pa,qa⟩:=ha.out;obtain⟨tb,pb,qb⟩:=hb.out;refine .mk ⟨_,a8m uF uE (b3d hu) pa (j8 pb o7 hs) fK iM fJ hs eJ,λZ σ H P F d Q S hf q=>?_⟩;obtain⟨x,y,h1,h2,h3⟩:=D9 hf;obtain⟨kvs,rfl,hk,rfl⟩:=a8n h3;refine qa Z σ H P F _ _ S h1 λv H1 e1 ⟨fp,o,sub⟩=>?_
 obtain⟨p,es,ds,fs,rfl,hH,_,FU,_⟩:=o.dict;refine⟨⟨p,es,rfl,hH⟩,qb Z σ H1 P F y _ (S.grow e1) h2 λw H2 e2 r2=>?_⟩;obtain⟨p',jH,jT,jG,ep,wm,kc,zM,h5,h6,hl,hn⟩:=(o.grow e2).dict;cases ep
 injection kc with nt
 have K:=keysAt (X:=X) h5 hk r2.den;refine⟨p,jH,kt,y,w,rfl,rfl,wm,K,λhf=>?_,λe he gA=>?_⟩
 ·have:v5 kvs y=xn:=Y2 (by rw[nt,M7 hl];exact hf);rw[this]at q;exact q .non H2 (e1.trans e2) ⟨[],a6I oF,λa ha=>(nomatch ha)⟩
 ·obtain⟨j,d',f,_,_,g',o',s'⟩:=a8l h6 hl hn K he gA;rw[nt,g']at q;exact q _ H2 (e1.trans e2) ⟨f,o',λx hx=>sub x (by rw[zM];exact aw _ (s' x hx))⟩
def b0W:CallR X (.builtin "len") (λxs H Q=>∃p es,xs=[V.ref p]/\H p=cz (g7 p es)/\Q (.int es.length) H):=by
 intro pins s σ H xs us Q I rv h;obtain⟨p,es,rfl,hH,q⟩:=h;obtain⟨w,rfl,rw⟩:=rv.one;cases (show w=bL p from rw)
 exact b9h I hH λt s' I'=>⟨.int es.length,H,I',⟨t,rfl⟩,q⟩
def b6c(hm:X.mg "len"=xn)(ha:PX X M a fa (.bor (.d kt u)))(hg:Gl X "len":=by rfl)(he:au [a] X.env=(false,cC a X.env)::au [] X.env:=by rfl)(gH:(cH pos (au [] X.env)).any (·.1)=false:=by rfl) :
  PX X M (.Call (.Name "len" p) [a] [] pos) (eCl a9w (a7 fa b8)) (.new .i):=by
 obtain⟨ta,pa,qa⟩:=ha.out;refine .mk ⟨_,a2N b0W hg hm PySem.boot_len (j8 pa o7 he) (by decide) (by decide) he gH,λZ σ H P F d Q S hf q=>?_⟩;obtain⟨xs,h1,h2⟩:=bnd hf;obtain⟨x,h3,h4⟩:=bnd h1;obtain⟨kO,h5,h6⟩:=bnd h4;cases h5
 cases h6
 have hx:∃kvs,x=.dict kvs/\d=.int kvs.length:=by
  cases x with
  |dict kvs=>cases h2;exact⟨kvs,rfl,rfl⟩
  |_=>cases h2
 obtain⟨kvs,rfl,rfl⟩:=hx;refine qa Z σ H P F _ _ S h3 λv H1 e1 ⟨fp,o,sub⟩=>?_
 obtain⟨p,es,ds,fs,rfl,hH,hd,_,_,_,hl,_⟩:=o.dict
 injection hd with hd
 have hlen:kvs.length=es.length:=by rw[hd,pC,ai,hl,tK]
 refine⟨p,es,rfl,hH,?_⟩;rw[<-hlen];exact q _ H1 e1 (N4 (by simp only[imm]) den_int (S.lst' e1))
def a6J(h:cQ)(hb:du<h.objs.size):ObjOk P w H (h.push {cls:=.type "dict",data:=.dict #[]}) h.objs.size (g7 h.objs.size []):=
 a1n (gN.mpr (cP (bM hb))) (cE _) bI (bj _ rfl) ⟨rfl,rfl,rfl⟩ rfl (λ_=>rfl) .nil
def b3e:PE X (.Dict [] [] pos) (λ_ H Q=>∀p,H p=xn->Q (.ref p) (upd H p (g7 p []))):=λpins s σ H Q I h=>
 wpAny_Dict_empty ⟨.ref s.heap.objs.size,_,I.laid (a:=s.heap.objs.size) (o:=g7 s.heap.objs.size []) (t':=s.toks) (λ_ _ q=>aF _ q) (az _) (a6J s.heap I.sysBelow),rfl,h _ (I.hok.fresh (az _))⟩
def W2(kt:Bool)(u:Ty):PX X M (.Dict [] [] pos) (eC (.dict [])) (.new (.d kt u)):=by
 refine .mk ⟨_,b3e,λZ σ H P F d Q S hf q=>?_⟩;cases hf
 intro p hp;refine q _ _ (k9 hp _) ⟨[p],?_,by simp,λa ha=>by rw[aq.mp ha];exact hp⟩;simp only[Own];exact⟨p,[],[],[],rfl,g8,rfl,rfl,⟨bI,λe he=>(nomatch he)⟩,p5⟩
end
section
variable {K:ag}{H:Hp}{F:List ax}
theorem StE.dict{Z:List D}(S:StE K M Z σ H P F)(hm:M[i]?=cz (.own (.d kt u))) :
  ∃a es ds fs,σ[i]?=cz (cz (.ref a))/\H a=cz (g7 a es)/\Z.getD i .none=.dict ((es.map (·.1)).zip ds)/\(∀e∈es,keyOk kt e.1/\Den K (cut H F) e.2.1 e.1)/\ListAll (Own K H F u) (es.map (·.2.2)) ds fs/\ds.length=es.length/\(es.map (·.1)).Nodup:=by
 obtain⟨v,f,h1,o,_⟩:=S.get hm;obtain⟨a,es,ds,fs,rfl,h2,h3,_,h5,h6,h7,h8⟩:=o.dict;exact⟨a,es,ds,fs,h1,h2,h3,h5,h6,h7,h8⟩
theorem a6K:∀{es:List (D×V×V)} {j:Nat} {e:D×V×V},(es.map (·.1)).Nodup->(∀e∈es,aH e.1 k=true↔e.1=k)->es[j]?=cz e->e.1=k->(es.map λe=>if aH e.1 k then (e.1,e.2.1,v) else e).map (·.2.2)=(es.map (·.2.2)).set j v
 |[],j,e,_,_,hj,_=>by simp at hj
 |e0::es,0,e,hn,mq,hj,gA=>by
  rw[ay,bZ]at hn;cases hj
  have jF:es.map (λe=>if aH e.1 k then (e.1,e.2.1,v) else e)=es:=by
   have:∀e'∈es,(if aH e'.1 k then (e'.1,e'.2.1,v) else e')=e':=λe' lP=>by
    rw[aM];intro q;exact hn.1 (by rw[gA,<-(mq e' (aw _ lP)).mp q];exact dg lP)
   rw[bA this,tO]
  rw[ay,aD ((mq _ aL).mpr gA),jF];rfl
 |e0::es,j+1,e,hn,mq,hj,gA=>by
  rw[ay,bZ]at hn;have nu:es[j]?=cz e:=by simpa using hj
  have iU:¬ aH e0.1 k=true:=λq=>hn.1 (by rw[(mq _ aL).mp q,<-gA];exact dg (bh nu))
  rw[ay,aM iU,ay,ay,dX,a6K hn.2 (λe he=>mq e (aw _ he)) nu gA]
def Pend.dput{Z:List D}(h:Pend K ([]++[.own u]) ([]++[d]) ([]++[cz v]) M Z σ H P F)(hm:M[i]?=cz (.own (.d kt u)))(hk:keyOk kt k)(Dt:Den K H kv k) :
  ∃a es ds fs,σ[i]?=cz (cz (.ref a))/\H a=cz (g7 a es)/\Z.getD i .none=.dict ((es.map (·.1)).zip ds)/\(∀e∈es,keyOk kt e.1/\Den K (cut H F) e.2.1 e.1)/\ListAll (Own K H F u) (es.map (·.2.2)) ds fs/\ds.length=es.length/\(es.map (·.1)).Nodup/\
   StR K M (Z.set i (.dict (K2 ((es.map (·.1)).zip ds) k d))) σ (upd H a (g7 a (a0J es k kv v))) P F:=by
 obtain⟨_,_,S⟩:=h;obtain⟨G,h1,h2,h3⟩:=S.all;have mh:StAll K H F (.own u::M) (d::Z) (cz v::σ) G:=by simpa using h1
 simp only[StAll]at mh;obtain⟨d',Z',o',σ',fv,G2,e1,e2,rfl,⟨v',e3,ov⟩,h5⟩:=mh;cases e1
 cases e2
 cases e3
 obtain⟨dd,oo,f,pre,post,q1,q2,⟨v2,rfl,q3⟩,rfl,q5⟩:=h5.at_ hm;obtain⟨a,es,ds,fs,rfl,r2,r3,rfl,r5,r6,hl,hn⟩:=q3.dict;have wb:a∈F:=h3 a (by simp);have iN:∀o,Same (cut H F) (cut (upd H a o) F):=λo b o' hb=>by
  obtain⟨n1,n2⟩:=l7 hb;exact i4 n1 (by rw[b9 (show b≠a from λz=>n1 (z▸wb))];exact n2)
 have cnt:∀b,b=a->(pre++post).count b=0/\fs.count b=0/\fv.count b=0:=λb e=>by
  subst e;have:=eS.mp h2 b;simp only[bV,bE,wF]at this ⊢;exact⟨by lia,by lia,by lia⟩
 have kk:∀(l:List ax) (o:HO),(∀b,b=a->l.count b=0)->∀b∈l,upd H a o b=H b:=λl o hc b hb=>b9 λz=>by
  have:=hc b z;rw[jP]at this;exact this hb
 have Du:Den K (cut H F) kv k:=Dt.imm_out S.lst k (U8 _ hk.1);have mq:∀e∈es,aH e.1 k=true↔e.1=k:=λe he=>D7 e.1 k (r5 e he).1.1 hk.1
 have fin:∀(jH:List (D×V×V)) (jT:List D) (jG:List ax),(jH.map (·.1)).Nodup->(∀e∈jH,keyOk kt e.1/\Den K (cut H F) e.2.1 e.1)->ListAll (Own K (upd H a (g7 a jH)) F u) (jH.map (·.2.2)) jT jG->(∀b,jG.count b<=fs.count b+fv.count b)->
   StR K M (Z.set i (.dict ((jH.map (·.1)).zip jT))) σ (upd H a (g7 a jH)) P F:=λjH jT jG vt sX ha og=>by
  have o1:Own K (upd H a (g7 a jH)) F (.d kt u) (.ref a) (.dict ((jH.map (·.1)).zip jT)) (a::jG):=by
   simp only[Own];exact⟨a,jH,jT,jG,rfl,g8,rfl,rfl,⟨vt,λe he=>⟨(sX e he).1,(sX e he).2.up (iN _)⟩⟩,ha⟩
  have q:=q5 (upd H a (g7 a jH)) F (.own (.d kt u)) (.dict ((jH.map (·.1)).zip jT)) (cz (.ref a)) _ (kk _ _ λb e=>(cnt b e).1) (iN _) ⟨_,rfl,o1⟩;rw[set_same (l:=σ) q2,set_same (l:=M) hm]at q;refine⟨⟨_,q,V5 h2 λb=>?_,λb hb=>?_⟩,λb hb=>?_,S.prot.trans (iN _)⟩
  ·have:=og b;simp only[bV,bE,gh];lia
  ·have hc:0<(fv++(pre++(a::fs++post))).count b:=by
    have h0:=fD.mpr hb;have:=og b;simp only[bV,bE,gh]at h0 ⊢;lia
   exact h3 b (fD.mp hc)
  ·by_cases e:b=a
   ·subst e;exact⟨⟨g7 b jH,trivial⟩,g8⟩
   ·obtain⟨ys,y⟩:=S.lst b hb;exact⟨ys,by rw[b9 e];exact y⟩
 refine⟨a,es,ds,fs,q2,r2,by rw[A9 q1];exact r3,r5,r6,hl,hn,?_⟩;cases hf:B5 es k with
 |false=>
  rw[a3f hf,b0T (by rw[M7 hl];exact hf),<-a6H (kv:=kv) (v:=v) hl];refine fin (es++[(k,kv,v)]) (ds++[d]) (fs++fv) ?_ ?_ ?_ λb=>by rw[bV];exact az _
  ·rw[aK,bC];refine⟨hn,by simp,λx hx y hy e=>?_⟩;simp only[ay,c_,aq]at hy;subst hy;subst e;obtain⟨e,he,rfl⟩:=aJ.mp hx;unfold B5 at hf;rw[eD]at hf;exact hf e he ((mq e he).mpr rfl)
  ·intro e he;rcases ar.mp he with z|z
   ·exact r5 e z
   ·rw[aq.mp z];exact⟨hk,Du⟩
  ·rw[aK];refine (n6 (iN _) r6 (kk _ _ λb e=>(cnt b e).2.1)).append ?_;have:=m7 (R:=Own K (upd H a (g7 a (es++[(k,kv,v)]))) F u) (ov.frame (iN _) u (kk _ _ λb e=>(cnt b e).2.2)) p5
   rwa[bb]at this
 |true=>
  have hh:=hf;unfold B5 at hf;rw[ow]at hf;obtain⟨e,he,gA⟩:=hf;have vP:=(mq e he).mp gA;obtain⟨j,hj⟩:=df.mp he;have pI:j<ds.length:=by rw[hl];exact (aQ.mp hj).1
  have sT:a0J es k kv v=es.map λe=>if aH e.1 k then (e.1,e.2.1,v) else e:=by unfold a0J;rw[hh];rfl
  have vh:K2 ((es.map (·.1)).zip ds) k d=(es.map (·.1)).zip (ds.set j d):=by
   unfold K2;rw[M7 hl,hh];exact a1U (v:=v) hl mq hn hj vP
  have rT:(a0J es k kv v).map (·.1)=es.map (·.1):=by rw[sT];exact a3g
  rw[vh,<-rT];obtain⟨w3,f3,a1,a2,s1,s2,Bt,s4⟩:=r6.zip (ae pI);have vb:(a0J es k kv v).map (·.2.2)=(es.map (·.2.2)).set j v:=by
   rw[sT];exact a6K hn mq hj vP
  refine fin (a0J es k kv v) (ds.set j d) (a1++(fv++a2)) (by rw[rT];exact hn) ?_ ?_ λb=>by rw[Bt];simp only[bV];lia
  ·intro e' lP;rw[sT]at lP;obtain⟨e0,AQ,rfl⟩:=aJ.mp lP
   split
   ·exact r5 e0 AQ
   ·exact r5 e0 AQ
  ·rw[vb];have c5:∀b,b=a->(a1++a2).count b=0:=λb e=>by have:=(cnt b e).2.1;rw[Bt]at this;simp only[bV]at this ⊢;lia
   exact s4 _ F v d fv (kk _ _ c5) (iN _) (ov.frame (iN _) u (kk _ _ λb e=>(cnt b e).2.2))
end
noncomputable def E7(i:Nat)(kt:Bool)(fk fv:EvE):EvS:=λZ=>(fv Z).bind λd=>(fk Z).bind λk=>match Z.getD i .none with
 |.dict kvs=>if p7 kt k&&decide (kvs.length<1000000) then cz (.nx (Z.set i (.dict (K2 kvs k d)))) else xn
 |_=>xn
abbrev EvX:=List D->Option (D×List D)
def C5(kvs:List (D×D))(k d:D):List (D×D):=if K5 kvs k then kvs else kvs++[(k,d)]
def scal:D->Bool
 |.int _=>true
 |.bool _=>true
 |.none=>true
 |_=>false
noncomputable def T6(i:Nat)(kt:Bool)(fk fe:EvE):EvX:=λZ=>(fk Z).bind λk=>(fe Z).bind λd=>match Z.getD i .none with
 |.dict kvs=>if p7 kt k&&decide (kvs.length<1000000)&&scal d then cz ((v5 kvs k).getD d,Z.set i (.dict (C5 kvs k d))) else xn
 |_=>xn
noncomputable def a6L(j:Nat)(f:EvX):EvS:=λZ=>(f Z).bind λp=>match p.2.getD j .none with
 |.list ds=>if ds.length<1000000 then cz (.nx (p.2.set j (.list (ds++[p.1])))) else xn
 |_=>xn
noncomputable def b3f(f:EvX):EvS:=λZ=>(f Z).bind λp=>cz (.nx p.2)
def b3g(h:scal d=true)(hd:Den K H v d):∀H',Den K H' v d:=by
 intro H';cases d with
 |int i=>cases hd.int_inv;exact den_int
 |bool i=>cases hd.bool_inv;exact den_bool
 |none=>cases hd.none_inv;exact den_none
 |_=>cases h
def b3h(h:scal d=true):imm d=true:=by
 cases d with
 |int i=>simp only[imm]
 |bool i=>simp only[imm]
 |none=>simp only[imm]
 |_=>cases h
noncomputable def PXE(X:Cx)(M:List Md)(e:Expr)(f:EvX)(u:Ty)(M1:List Md):Prop:=
 ∃t,PE X e t/\∀(Z:List D) (σ:L2.St) (H P:Hp) (F:List ax) (d:D) (Z':List D) (Q:VK),StR X.K M Z σ H P F->f Z=cz (d,Z')->
  (∀v H' F',Pend X.K ([]++[.own u]) ([]++[d]) ([]++[cz v]) M1 Z' σ H' P F'->Q v H')->t σ H Q
section
variable {X:Cx}{M M1 ML:List Md}{e k v:Expr}{fk fe fv:EvE}{f:EvX}{ck:Cat}{kt:Bool}{u w:Ty}{pos apos cM jg:fT}
def c1f(X:Cx)(td ty tv:TE):TS:=λD σ H=>tv σ H λv H1=>td σ H1 λx H2=>ty σ H2 λy H3=>∃a es kt k,x=.ref a/\H3 a=cz (g7 a es)/\KeysAt X H3 kt es k y/\es.length<a_/\D.nx σ (upd H3 a (g7 a (a0J es k y v)))
def b6d(hu:X.A.units+64<dW)(ho:PE X o td)(hi:PE X k ty)(hv:PE X v tv)(hs:eU v (cz (.Subscript o k jg)) pos.line X.env=pure false) :
  PS X (.Assign [.Subscript o k jg] v pos) (c1f X td ty tv):=by
 intro pins s σ H D I h;refine wpAny_Assign_Subscript (L2.thn (hv pins s σ H _ I h) λr s1 ⟨v,H1,I1,rv,q1⟩=>L2.thn (ho pins s1 σ H1 _ I1 q1) λu s2 ⟨x,H2,I2,rx,q2⟩=>L2.thn (hi pins s2 σ H2 _ I2 q2) λiv s3 ⟨y,H3,I3,ry,a,es,kt,k,ex,hH,K,hl,q3⟩=>?_) hs;subst ex;obtain rfl:u=bL a:=rx;exact a8k (by lia) I3 hH K ry rv hl λs4 I4=>⟨σ,_,I4,q3⟩
def a2D(i:Nat)(hu:X.A.units+64<dW)(hk:PX X M1 k fk ck)(hv:PMX X M v fv u M1)(hN:X.N[i]?=cz x:=by rfl)(qD:Vis X.env.scope x:=by first|exact bO rfl|exact bN (bO rfl)|exact bN (bN rfl))(hd:(x==("__debug__":bG))=false:=by decide)
  (iE:(x==("__classdict__":bG))=false:=by decide) (hm:M1[i]?=cz (.own (.d kt u)):=by rfl) (hs:eU v (cz (.Subscript (.Name x px) k jg)) pos.line X.env=pure false:=by rfl) :
  PSX X w ML M (.Assign [.Subscript (.Name x px) k jg] v pos) (E7 i kt fk fv) M1:=by
 obtain⟨tv,pv,qv⟩:=hv;obtain⟨tk,pk,qk⟩:=hk.out;refine .mk ⟨_,b6d hu (A0 hN qD hd iE) pk pv hs,λD Z σ H P F o S hg kk=>?_⟩;obtain⟨d,h1,g1⟩:=bnd hg;obtain⟨y,h2,g2⟩:=bnd g1;refine qv [] [] [] Z σ H P F d _ S.pend h1 λv1 H1 F1 e1 S1=>?_
 obtain⟨a,es,ds,fs,ha,hH,hZ,_⟩:=S1.e.dict hm;rw[hZ]at g2;have ni:(if (p7 kt y&&decide (((es.map (·.1)).zip ds).length<1000000))=true then cz (Out.nx (Z.set i (.dict (K2 ((es.map (·.1)).zip ds) y d)))) else xn)=cz o:=g2;by_cases c:(p7 kt y&&decide (((es.map (·.1)).zip ds).length<1000000))=true
 ·rw[aD c]at ni;cases ni
  rw[aB]at c;refine⟨_,ha,qk Z σ H1 P F1 y _ S1.e h2 λkv H2 e2 r2=>?_⟩;obtain⟨a',jH,jT,jG,rY,wm,rZ,hK,_,rS,_,S3⟩:=(S1.grow e2).dput hm (K6 c.1) r2.den;rw[ha]at rY;cases rY
  rw[hZ]at rZ
  injection rZ with rZ
  refine⟨a,jH,kt,y,rfl,wm,keysAt hK c.1 r2.den,?_,kk σ _ F1 (by rw[rZ];exact S3)⟩;have hlen:((jH.map (·.1)).zip jT).length=jH.length:=by rw[pC,ai,rS,tK]
  rw[<-hlen,<-rZ];exact jB (bB c.2) (by rw[dt];decide)
 ·rw[aM c]at ni;cases ni
def b9m(X:Cx):V->List V->Hp->VK->Prop:=λx xs H Q=>∃p es kt k y z,x=.ref p/\xs=[y,z]/\H p=cz (g7 p es)/\KeysAt X H kt es k y/\es.length<a_/\(B5 es k=false->Q z (upd H p (g7 p (es++[(k,y,z)]))))/\∀e∈es,e.1=k->Q e.2.2 H
def b6e(hu:X.A.units+64<dW):MtR X "dict.setdefault" (b9m X):=by
 intro pins s σ H x xs v us Q I rx rv h;obtain⟨p,es,kt,k,y,z,rfl,rfl,hH,K,hl,q1,q2⟩:=h;cases (show v=bL p from rx)
 obtain⟨w1,w2,rfl,r1,r2⟩:=vals2 rv;exact b5Z (by lia) I hH K r1 r2 hl (λhf s' I'=>⟨z,_,I',r2,q1 hf⟩) λe he gA x s' I' r'=>⟨e.2.2,H,I',r',q2 e he gA⟩
def a6M(i:Nat)(hu:X.A.units+64<dW)(hk:PX X M k fk (.new .i))(he:PX X M e fe (.new .i))(hN:X.N[i]?=cz x:=by rfl)(qD:Vis X.env.scope x:=by first|exact bO rfl|exact bN (bO rfl)|exact bN (bN rfl))(hd:(x==("__debug__":bG))=false:=by decide)
  (iE:(x==("__classdict__":bG))=false:=by decide) (hm:M[i]?=cz (.own (.d kt .i)):=by rfl) (fK:d_ (.Name x px) "setdefault" X.env (cC (.Name x px) X.env)=cC (.Name x px) X.env:=by rfl)
  (iM:((cH cM (au [k,e] X.env)).all (λx=>!x.1)&&(e_ cM (dE [] X.env)).all (λx=>x.1.isSome)
   && decide (([k,e]:List Expr).length+([]:List eP).length+(if ([]:List eP).isEmpty then 0 else 1)<30))=true:=by rfl)
  (fJ:(apos.endLine==cM.line)=true:=by rfl) (hs:au [k,e] X.env=(false,cC k X.env)::au [e] X.env:=by rfl) (mf:au [e] X.env=(false,cC e X.env)::au [] X.env:=by rfl) (eJ:(cH cM (au [e] X.env)).any (·.1)=false:=by rfl) :
  PXE X M (.Call (.Attribute (.Name x px) "setdefault" apos) [k,e] [] cM) (T6 i kt fk fe) .i M:=by
 obtain⟨tk,pk,qk⟩:=hk.out;obtain⟨te,pe,qe⟩:=he.out;refine⟨_,a8m PySem.F.slot_dict_setdefault PySem.F.type_dict_setdefault (b6e hu) (A0 hN qD hd iE) (j8 pk (j8 pe o7 mf) hs) fK iM fJ hs eJ,λZ σ H P F d Z' Q S hf q=>?_⟩;obtain⟨y,h1,g1⟩:=bnd hf;obtain⟨z,h2,g2⟩:=bnd g1;obtain⟨a,es,ds,fs,ha,hH,hZ,_⟩:=S.toE.dict hm;rw[hZ]at g2;have ni:(if (p7 kt y&&decide (((es.map (·.1)).zip ds).length<1000000)&&scal z)=true then cz ((v5 ((es.map (·.1)).zip ds) y).getD z,Z.set i (.dict (C5 ((es.map (·.1)).zip ds) y z))) else xn)=cz (d,Z'):=g2;by_cases c:(p7 kt y&&decide (((es.map (·.1)).zip ds).length<1000000)&&scal z)=true
 ·rw[aD c]at ni
  injection ni with ni
  injection ni with ed eZ
  rw[aB,aB]at c;refine⟨.ref a,ha,⟨a,es,rfl,hH⟩,?_⟩;refine qk Z σ H P F y _ S.toE h1 λkv H1 e1 r1=>qe Z σ H1 P F z _ (S.grow e1).toE h2 λzv H2 e2 r2=>?_
  have S2:=S.grow (e1.trans e2);have wx:=r1.den.up e2;have own:∀(H':Hp) (F':List ax),Own X.K H' ([]++F') .i zv z []:=λH' F'=>by
   simp only[Own];exact⟨trivial,b3h c.2,b3g c.2 r2.den _⟩
  have S3:=S2.pend.new (Same.refl H2) (own H2 F) bI λa ha=>(nomatch ha)
  obtain⟨a',jH,jT,jG,rY,wm,rZ,h5,h6,hl,hn,S4⟩:=S3.dput hm (K6 c.1.1) wx;rw[ha]at rY;cases rY
  rw[hZ]at rZ
  injection rZ with nt
  have K:KeysAt X H2 kt jH y kv:=keysAt h5 c.1.1 wx;have hlen:jH.length<a_:=by
   have e3:((jH.map (·.1)).zip jT).length=jH.length:=by rw[pC,ai,hl,tK]
   rw[<-e3,<-nt];exact jB (bB c.1.2) (by rw[dt];decide)
  refine⟨a,jH,kt,y,kv,zv,rfl,rfl,wm,K,hlen,λhf=>?_,λe he gA=>?_⟩
  ·have oF:K5 ((es.map (·.1)).zip ds) y=false:=by rw[nt,M7 hl];exact hf
   have eE:a0J jH y kv zv=jH++[(y,kv,zv)]:=a3f hf;rw[<-eE];have vV:d=z:=by rw[<-ed,Y2 oF];rfl
   have zr:Z'=Z.set i (.dict (K2 ((jH.map (·.1)).zip jT) y z)):=by
    rw[<-eZ,<-nt];unfold C5 K2;rw[oF];rfl
   rw[vV,zr]at q;exact q zv _ _ (S4.pend.new (Same.refl _) (own _ _) bI λa ha=>(nomatch ha))
  ·obtain⟨j,d',f,_,_,g',o',_⟩:=a8l h6 hl hn K he gA;obtain⟨rfl,o2⟩:=a1O o';have vV:d=d':=by rw[<-ed,nt,g'];rfl
   have zr:Z'=Z:=by
    rw[<-eZ];unfold C5;rw[a6G (by rw[nt];exact g'),aD rfl,<-hZ];have hi:∃x,Z[i]?=cz x:=by
     obtain⟨G,q1,_⟩:=S.all;obtain⟨d0,_,_,_,_,z1,_⟩:=q1.at_ hm;exact⟨d0,z1⟩
    obtain⟨x,hx⟩:=hi;rw[A9 hx];exact set_same hx
   rw[vV,zr]at q;exact q _ H2 _ (S2.pend.new (Same.refl _) (by simp only[Own,bK];exact⟨trivial,o2⟩) bI λa ha=>(nomatch ha))
 ·rw[aM c]at ni;cases ni
end
section
variable {X:Cx}{M M1 ML:List Md}{e:Expr}{f:EvX}{u w t:Ty}{pos apos cM:fT}
def b6f(j:Nat)(he:PXE X M e f t M1)(hN:X.N[j]?=cz x:=by rfl)(qD:Vis X.env.scope x:=by first|exact bO rfl|exact bN (bO rfl)|exact bN (bN rfl))(hd:(x==("__debug__":bG))=false:=by decide)
  (iE:(x==("__classdict__":bG))=false:=by decide) (Df:M[j]?=cz (.own (.l t)):=by rfl) (hm:M1[j]?=cz (.own (.l t)):=by rfl) (hni:∀Z p,f Z=cz p->p.2.getD j .none=Z.getD j .none)
  (fK:d_ (.Name x px) "append" X.env (cC (.Name x px) X.env)=cC (.Name x px) X.env:=by rfl)
  (iM:((cH cM (au [e] X.env)).all (λx=>!x.1)&&(e_ cM (dE [] X.env)).all (λx=>x.1.isSome)
   && decide ([e].length+([]:List eP).length+(if ([]:List eP).isEmpty then 0 else 1)<30))=true:=by rfl)
  (fJ:(apos.endLine==cM.line)=true:=by rfl) (hs:au [e] X.env=(false,cC e X.env)::au [] X.env:=by rfl) (eJ:(cH cM (au [] X.env)).any (·.1)=false:=by rfl)
  (oR:eU (.Call (.Attribute (.Name x px) "append" apos) [e] [] cM) xn pos.line X.env=pure false:=by rfl) :
  PSX X w ML M (.Expr (.Call (.Attribute (.Name x px) "append" apos) [e] [] cM) pos) (a6L j f) M1:=by
 obtain⟨te,pe,qe⟩:=he;refine .mk ⟨_,Q6 (a4s eV kz ku X5 (A0 hN qD hd iE) (j8 pe o7 hs) fK iM fJ hs eJ) oR,λD Z σ H P F o S hg k=>?_⟩;obtain⟨⟨d,Z'⟩,h1,g1⟩:=bnd hg;have pU:=hni Z _ h1;have hl:∃ds,Z'.getD j .none=.list ds/\ds.length<1000000/\o=.nx (Z'.set j (.list (ds++[d]))):=by
  dsimp only at g1
  cases hx:Z'.getD j .none with
  |list ds=>
   rw[hx]at g1;have xu:(if ds.length<1000000 then cz (Out.nx (Z'.set j (.list (ds++[d])))) else xn)=cz o:=g1;by_cases c:ds.length<1000000
   ·rw[aD c]at xu;exact⟨ds,rfl,c,(aE xu).symm⟩
   ·rw[aM c]at xu;cases xu
  |_=>rw[hx]at g1;cases g1
 obtain⟨ds,hZ,hz,rfl⟩:=hl;obtain⟨v,fv,hv,ov,_⟩:=S.toE.get Df;have pZ:∃a xs,v=.ref a/\H a=cz (.lst xs):=by
  rw[<-pU]at ov;rw[hZ]at ov;simp only[Own]at ov;rcases ov with⟨_,hi,_⟩|⟨a,xs,_,_,rfl,h2,_⟩
  ·simp only[imm]at hi;cases hi
  ·exact⟨a,xs,rfl,h2⟩
 obtain⟨a,xs,rfl,ha⟩:=pZ;refine⟨.ref a,hv,.inl ⟨rfl,xs,SqL.of ha⟩,qe Z σ H P F d Z' _ S h1 λv1 H2 F2 S2=>?_⟩;have rX:dAt (.l t) (Z'.getD j .none) []=cz (.l t,.list ds):=by rw[hZ];rfl
 obtain⟨b',kO,e',uP,hl,S3,_⟩:=S2.put hm hv rX (show wk H2 (.ref a) [] (.ref a) from rfl);cases e'
 rw[hZ]at S3;refine⟨a,kO,v1,rfl,rfl,uP,?_,k σ _ F2 S3⟩;rw[hl];exact jB hz (by rw[dt];decide)
def a8o(gL:i≠j):∀Z p,T6 i kt fk fe Z=cz p->p.2.getD j .none=Z.getD j .none:=λZ p h=>by
 obtain⟨k,_,g1⟩:=bnd h;obtain⟨d,_,g2⟩:=bnd g1;have key:∀x:D,(Z.set i x).getD j .none=Z.getD j .none:=λx=>by
  rw[ab,ab,bu gL]
 cases hx:Z.getD i .none with
 |dict kvs=>
  rw[hx]at g2;have ni:(if (p7 kt k&&decide (kvs.length<1000000)&&scal d)=true then cz ((v5 kvs k).getD d,Z.set i (.dict (C5 kvs k d))) else xn)=cz p:=g2;by_cases c:(p7 kt k&&decide (kvs.length<1000000)&&scal d)=true
  ·rw[aD c]at ni;cases ni;exact key _
  ·rw[aM c]at ni;cases ni
 |_=>rw[hx]at g2;cases g2
def b9n(he:PXE X M e f t M1)(hs:eU e xn pos.line X.env=pure false:=by rfl):PSX X w ML M (.Expr e pos) (b3f f) M1:=by
 obtain⟨te,pe,qe⟩:=he;refine .mk ⟨_,Q6 pe hs,λD Z σ H P F o S hg k=>?_⟩;obtain⟨⟨d,Z'⟩,h1,g1⟩:=bnd hg;cases g1
 refine qe Z σ H P F d Z' _ S h1 λv H' F' S'=>?_
 obtain⟨l1,l2,S2⟩:=S';obtain⟨G,a1,a2,a3⟩:=S2.all;have wB:StAll X.K H' F' (.own t::M1) (d::Z') (cz v::σ) G:=by simpa using a1
 simp only[StAll]at wB;obtain⟨d',r',o',s',fv,G2,e1,e2,rfl,_,h5⟩:=wB;cases e1
 cases e2
 exact k σ H' F' ⟨⟨G2,h5,(bC.mp a2).2.1,λa ha=>a3 a (ah _ ha)⟩,S2.lst,S2.prot⟩
end
noncomputable def b3i(i:Nat)(f:EvE):EvS:=λZ=>(f Z).bind λd=>(asI d).bind λn=>(asI (Z.getD i .none)).bind λm=>cz (.nx (Z.set i (.int (m+n))))
section
variable {X:Cx}{M ML:List Md}{e:Expr}{f:EvE}{c:Cat}{u:Ty}{pos pos':fT}
def b9o(i:Nat)(hN:X.N.Nodup)(he:PX X M e f c)(hi:X.N[i]?=cz x:=by rfl)(hx:Loc X.env.scope x:=by first|exact bO rfl|exact bN rfl)(hm:M[i]?=cz (.own .i):=by rfl)(hf:X.fn x=true∨X.env.scope.names.lookup x=cz .local:=by first|exact .inl rfl|exact .inr rfl) :
  PSX X u ML M (.AugAssign (.Name x pos') .Add e pos) (b3i i f) M:=by
 obtain⟨te,pe,qe⟩:=he.out;refine .mk ⟨_,b8e hN hi hx pe b8f hf,λD Z σ H P F o S hg k=>?_⟩;obtain⟨d,h1,g1⟩:=bnd hg;obtain⟨n,h2,g2⟩:=bnd g1;obtain⟨m,h3,g3⟩:=bnd g2;cases g3
 cases H9 h2
 have h4:=H9 h3;obtain⟨v,fv,hv,ov,_⟩:=S.toE.get hm;rw[h4]at ov;obtain⟨_,_,dv⟩:=a1O ov;have ev:=dv.int_inv;refine⟨v,hv,qe Z σ H P F _ _ S.toE h1 λw H1 e1 r1=>⟨m,n,ev,r1.den.int_inv,?_⟩⟩;have S1:=S.grow e1;have:=S1.set (u:=.i) (v:=.int (m+n)) (d:=.int (m+n)) (fp:=[]) hm (Same.refl _) (by simp only[Own,bK];exact⟨trivial,by simp only[imm],den_int⟩) bI λa ha=>(nomatch ha)
 rw[set_same hm]at this;exact k _ _ _ this
end
def intsOf:List D->Option (List Int)
 |[]=>cz []
 |.int i::r=>(intsOf r).map (i::·)
 |_=>xn
def P7(i:Int)(r:List Int):Int:=r.foldl (λa b=>if b>a then b else a) i
noncomputable def Z8:List D->Option D
 |[.list ds]=>(intsOf ds).bind λis=>match is with
  |[]=>xn
  |i::r=>cz (.int (P7 i r))
 |_=>xn
theorem I9:∀{ds:List D} {is:List Int},intsOf ds=cz is->ds=is.map .int
 |[],is,h=>by cases h;rfl
 |.int i::r,is,h=>by
  obtain⟨js,h1,rfl⟩:=fq.mp (show (intsOf r).map (i::·)=cz is from h);rw[ay,<-I9 h1]
 |.none::_,_,h|.bool _::_,_,h|.str _::_,_,h|.list _::_,_,h|.tuple _::_,_,h|.dict _::_,_,h=>nomatch h
def a0m(is:List Int):intsOf (is.map .int)=cz is:=by
 induction is with
 |nil=>rfl
 |cons i is ih=>show (intsOf (is.map .int)).map (i::·)=_;rw[ih];rfl
theorem a9x:∀(r:List Int) (i:Int),i<=P7 i r/\(∀x∈r,x<=P7 i r)/\(P7 i r=i∨P7 i r∈r)
 |[],i=>⟨wG _,λx hx=>(nomatch hx),.inl rfl⟩
 |y::r,i=>by
  obtain⟨h1,h2,h3⟩:=a9x r (if y>i then y else i);have e:P7 i (y::r)=P7 (if y>i then y else i) r:=rfl;rw[e];refine⟨?_,λx hx=>?_,?_⟩
  ·by_cases c:y>i
   ·rw[aD c]at h1 ⊢;lia
   ·rw[aM c]at h1 ⊢;exact h1
  ·rcases aI.mp hx with z|z
   ·subst z;by_cases c:x>i
    ·rw[aD c]at h1 ⊢;exact h1
    ·rw[aM c]at h1 ⊢;lia
   ·exact h2 x z
  ·rcases h3 with z|z
   ·by_cases c:y>i
    ·rw[aD c]at z ⊢;exact .inr (by rw[z];exact aL)
    ·rw[aM c]at z ⊢;exact .inl z
   ·exact .inr (aw _ z)
section
variable {X:Cx}
def a8p{ns:List Int}:∀{us:List aj},Vals (ns.map V.int) us->∃xs:List (Int×Tok),us=xs.map (λp=>jx p.1 p.2)/\xs.map (·.1)=ns:=by
 induction ns with
 |nil=>intro us r;cases r;exact⟨[],rfl,rfl⟩
 |cons n ns ih=>
  intro us r;cases r with
  |cons r1 r2=>
   obtain⟨t,rfl⟩:=r1;obtain⟨xs,h1,h2⟩:=ih r2;exact⟨(n,t)::xs,by rw[ay,<-h1],by rw[ay,h2]⟩
def b0X(hc:X.calm=true):CallR X (.builtin "max") (λxs H Q=>∃(p:ax) (i:Int) (r:List Int),xs=[.ref p]/\SqX X.K H p ((i::r).map V.int)/\Q (.int (P7 i r)) H):=by
 intro pins s σ H xs us Q I rv h;obtain⟨p,i,r,rfl,hp,q⟩:=h;obtain⟨u,rfl,rx⟩:=vals1 rv;cases (show u=bL p from rx)
 obtain⟨_,its,n,xO,ho⟩:=hp.ok I;obtain⟨ys,h1,h2⟩:=a8p xO;have e1:its.toArray=intItems ys.toArray:=by rw[h1];simp[intItems]
 have hl:s.heap.IsList p (intItems ys.toArray):=⟨_,ho,rfl,n,by rw[<-e1]⟩;have hlen:ys.length=r.length+1:=by have:=dH et h2;simpa using this
 have num:∀j,j<ys.length->oA ys.toArray j=(i::r).getD j 0:=λj hj=>by
  have:(ys.map (·.1))[j]?=(i::r)[j]?:=by rw[h2]
  unfold oA;rw[ab,<-this];simp
 refine max_intList (I.ok.hd hc) hl (by simp;lia) λv h' tk hv hk=>?_
 obtain⟨t,rfl⟩:=intItems_at hv;obtain⟨b1,b2⟩:=argBest_gt (oA ys.toArray) (ys.toArray.size-1);have kN:ys.toArray.size=r.length+1:=by simp[hlen]
 have hb:argBest (λi j=>decide (oA ys.toArray i>oA ys.toArray j)) (ys.toArray.size-1)<ys.length:=by lia
 have hm:oA ys.toArray (argBest (λi j=>decide (oA ys.toArray i>oA ys.toArray j)) (ys.toArray.size-1))=P7 i r:=by
  obtain⟨g1,g2,g3⟩:=a9x r i;generalize argBest (λi j=>decide (oA ys.toArray i>oA ys.toArray j)) (ys.toArray.size-1)=a at b1 b2 hb;have up:oA ys.toArray a<=P7 i r:=by
   rw[num a hb];have iW:(i::r).getD a 0∈i::r:=by
    rw[ab,ae (by simp;lia)];exact bW _
   rcases aI.mp iW with z|z
   ·rw[z];exact g1
   ·exact g2 _ z
  have dn:P7 i r<=oA ys.toArray a:=by
   have iW:P7 i r∈i::r:=by
    rcases g3 with z|z
    ·rw[z];exact aL
    ·exact aw _ z
   obtain⟨j,hj,ej⟩:=jc.mp iW;have nu:j<ys.length:=by simp at hj;lia
   have:=b2 j (by lia);rw[num j nu,ab,ae hj]at this;have e3:((i::r)[j]?).getD 0=(i::r)[j]:=by rw[ae hj];rfl
   simp only[kL]at this;lia
  lia
 rw[hm];exact⟨.int (P7 i r),H,I.kept (t':=tk) λb o e=>hk b o e,⟨t,rfl⟩,q⟩
def a9y(hc:X.calm=true):a9m X (.builtin "max") Z8:=by
 refine⟨_,b0X hc,λxs H ds d Q hd hg q=>?_⟩
 match ds,hg with
 |[.list es],hg=>
  obtain⟨is,h1,g1⟩:=bnd (show (intsOf es).bind _=cz d from hg);cases is with
  |nil=>cases g1
  |cons i r=>
   cases g1
   obtain⟨v,rfl,h⟩:=a0E hd;obtain⟨a,ys,rfl,h2,h3⟩:=h.list_inv;have he:=I9 h1;subst he;have hv:ys=(i::r).map V.int:=by
    clear h1 hg hd h h2 q;generalize (i::r)=l at h3
    induction l generalizing ys with
    |nil=>exact h3.nil_inv
    |cons x l ih=>
     obtain⟨w,rs,rfl,k1,k2⟩:=h3.cons_inv;rw[k1.int_inv,ih _ k2];rfl
   subst hv;exact⟨a,i,r,rfl,h2,q _ (by simp only[imm]) λ_=>den_int⟩
 |[.none],hg|[.bool _],hg|[.str _],hg|[.dict _],hg|[.int _],hg|[.tuple _],hg=>cases hg
 |[],hg=>cases hg
 |d1::_::_,hg=>cases d1<;>cases hg
end
def Itv(K:ag)(a:ax)(n:Nat):It:=
 ⟨λi H=>i<n/\∃xs,SqL K H a xs/\xs.length=n,λi H x H'=>H'=H/\∀xs,SqL K H a xs->xs[n-1-i]?=cz x,λi _=>n<=i⟩
def b3j(a it:ax)(n:Nat):Turn P w K tg (Itv K a n) [it] it (λi h=>i<=n/\h.IsRevIter it a ((n:Int)-1-(i:Int))) where
 mem:=by simp
 obj:=λi h st b hb=>by
  have e:b=it:=by simpa using hb
  subst e;obtain⟨_,o,e,c,d⟩:=st;exact⟨o,e,λv z=>by rw[d]at z;cases z⟩
 keep:=λi h h' st k=>⟨st.1,st.2.at λo e=>k it (by simp) o e⟩
 item:=by
  intro X hP hw hK hc i pins s σ H E I hf st hg;subst hP hw hK;obtain⟨hi,xs,hq,oD⟩:=hg;obtain⟨its,rv,p,hz⟩:=I.list hq;have iX:n-1-i<xs.length:=by lia
  obtain⟨u,hu,ru⟩:=rv.get (ae iX);obtain⟨f0,f1,f2,f3,f4,f5⟩:=hf it (by simp);have e:(n:Int)-1-(i:Int)=((n-1-i:Nat):Int):=by lia
  have hit:=st.2;rw[e]at hit;refine wpAny_pyNext_rev_item hit p.isList (x:=u) (by simpa using hu) λh' cS sb=>?_
  have e2:((n-1-i:Nat):Int)-1=(n:Int)-1-((i+1:Nat):Int):=by lia
  rw[e2]at cS;have I1:Inv X pins σ H {s with heap:=h'}:=I.turned (t':=s.toks) (λb o hb e=>(sb.2 b hb).trans e) f0 f1 f3 f4 f5;obtain⟨o,eo,c,d⟩:=id cS;exact⟨u,rfl,b2m (s:={s with heap:=h'}) eo c d (by decide) ⟨_,H,I1,ru,⟨rfl,λys hy=>by rw[I.list_inj hy hq];exact ae iX⟩,⟨by lia,cS⟩,λb hb=>(hf b hb).1⟩⟩
 done:=by
  intro X hP hw hK hc i pins s σ H E I hf st hg;subst hP hw hK;obtain⟨f0,f1,f2,f3,f4,f5⟩:=hf it (by simp);have hn:n<=i:=hg;have e:(n:Int)-1-(i:Int)=-1:=by have:=st.1;lia
  have hit:=st.2;rw[e]at hit;exact wpAny_pyNext_rev_end (I.ok.hd hc) hit λh' eb=>⟨rfl,I.turned (t':=s.toks) (λb o hb e=>eb b o hb e) f0 f1 f3 f4 f5⟩
 self:=λ_ _ _ _ _ st h=>wpAny_pyIter_revIter st.2 h
noncomputable def iRv(a:EvE):EvA:=λZ=>(a Z).bind λd=>(asL d).bind λds=>cz ds.reverse
section
variable {X:Cx}{M:List Md}{a b e tg:Expr}{fa fb:EvE}{ca cb:Cat}{pos p apos cM:fT}
def c1g(K:ag)(ta:TA):TI:=λσ H R=>ta σ H λvs H1=>∃a xs,vs=[.ref a]/\SqL K H1 a xs/\R (Itv K a xs.length) H1
open PyProof.Rows in
def b9p(hg:Gl X "reversed")(hm:X.mg "reversed"=xn)(ha:PA X [a] ta)(hs:au [a] X.env=[(false,cC a X.env)]:=by rfl):PI X tg (.Call (.Name "reversed" p) [a] [] pos) (c1g X.K ta):=by
 intro pins s σ H R I h;refine Call_ (U5 I hg hm PyProof.Rows.Boot.«reversed» (fm (L2.thn (ha pos pins s σ H _ I h) λus s1 ⟨vs,H1,I1,r1,q1⟩=>?_) hs rfl));obtain⟨l,xs,e,hq,q⟩:=q1;subst e;cases r1 with
 |cons r rr=>
  cases rr
  cases (show _=bL l from r)
  obtain⟨its,rv,pl,hz⟩:=I1.list hq;have hlen:its.toArray.size=xs.length:=by rw[be];exact rv.length.symm
  refine call_reversed_list pl.isList ?_;refine wpAny_pyIter_revIter (it:=s1.heap.objs.size) (l:=l) (i:=(its.toArray.size:Int)-1) ⟨_,bj _ rfl,rfl,rfl⟩ ?_;refine⟨s1.heap.objs.size,[s1.heap.objs.size],_,_,H1,rfl,I1.kept (t':=s1.toks) λb o e=>aF _ e,b3j l _ xs.length,⟨cE _,?_⟩,λb hb=>?_,q⟩
  ·have e0:(xs.length:Int)-1-((0:Nat):Int)=(its.toArray.size:Int)-1:=by rw[hlen];lia
   rw[e0];exact⟨_,bj _ rfl,rfl,rfl⟩
  ·have e:b=s1.heap.objs.size:=by simpa using hb
   subst e;exact I1.fpOk (az _) (I1.hok.fresh (az _))
def b0Y{K:ag}{a:ax}{xs:List V}:Walks (Itv K a xs.length) (λH=>SqL K H a xs) xs.reverse where
 go:=λi H h hi=>⟨by simpa using hi,xs,h,rfl⟩
 stop:=λi H h hi=>by show xs.length<=i;simpa using hi
 yld:=λi H x H' h hi y=>by
  refine⟨y.1,?_⟩;have lN:i<xs.length:=by simpa using hi
  rw[List.getElem?_reverse lN];exact y.2 xs h
theorem W3:∀{ds:List D} {xs:List V},DenAll K H xs ds->DenAll K H xs.reverse ds.reverse
 |[],_,h=>by rw[h.nil_inv];exact denAll_nil
 |d::ds,_,h=>by
  obtain⟨v,r,rfl,h1,h2⟩:=h.cons_inv;rw[kg,kg];exact (W3 h2).append (denAll_cons h1 denAll_nil)
def b6g(hm:X.mg "reversed"=xn)(h:PX X M a fa ca)(hc:frozen ca:=by trivial)(hg:Gl X "reversed":=by rfl)(he:au [a] X.env=[(false,cC a X.env)]:=by rfl)(oX:au [a] X.env=(false,cC a X.env)::au [] X.env:=by rfl) :
  PIX X M tg (.Call (.Name "reversed" p) [a] [] pos) (iRv fa):=by
 obtain⟨t,p,q⟩:=h.out;refine⟨_,b9p hg hm (j8 p o7 oX) he,λZ σ H P F ds R S hf k=>?_⟩;obtain⟨d,h1,g1⟩:=bnd hf;obtain⟨es,h2,g2⟩:=bnd g1;cases P6 h2
 cases g2
 refine q Z σ H P F _ _ S h1 λv H1 e1 r1=>?_
 obtain⟨aa,xs,rfl,k1,k2⟩:=(R1 hc r1).list_inv;exact⟨aa,xs,rfl,(O4 k1 k6).l,k _ xs.reverse _ H1 e1 b0Y (λH2 e2=>(O4 k1 e2).l) (W3 k2)⟩
def a3i:D->D->Option D
 |.list ds,y=>if ba ds&&y.canLay0&&decide (y.depth<=60) then cz (.int (ds.countP λd=>aH d y)) else xn
 |_,_=>xn
def b9q(K:ag):V->List V->Hp->VK->Prop:=λx xs H Q=>∃p ys ds y d,x=.ref p/\xs=[y]/\SqX K H p ys/\DenAll K H ys ds/\Den K H y d/\ba ds=true/\d.canLay0=true/\d.depth<=60/\Q (.int (ds.countP λe=>aH e d)) H
def a5H(r:iZ h us ds as):∀{j:Nat} {u:aj},us[j]?=cz u->∃d bs,ds[j]?=cz d/\Reads h u d bs:=by
 induction ds generalizing us as with
 |nil=>intro j u hu;cases r;simp at hu
 |cons d ds ih=>
  intro j u hu;cases r with
  |cons r1 r2=>
   cases j with
   |zero=>cases hu;exact⟨_,_,rfl,r1⟩
   |succ j=>exact ih r2 (by simpa using hu)
open Classical in
noncomputable def b6h(h:cQ)(d:D)(u:aj):Bool:=decide (∃d' bs,Reads h u d' bs/\d'.canLay0=true/\aH d' d=true)
def a9z{d e:D}(r:Reads h u e bs)(hl:e.canLay0=true):b6h h d u=aH e d:=by
 unfold b6h;cases q:aH e d with
 |true=>exact @aY _ (_) ⟨e,bs,r,hl,q⟩
 |false=>
  refine @br _ (_) ?_;rintro⟨d',EM,r1,r2,r3⟩;rw[SeqAt.Reads.unique d' e u _ _ r2 r1 r,q]at r3;cases r3
def b3k(hu:X.A.units+64<dW):MtR X "list.count" (b9q X.K):=by
 intro pins s σ H x xs v us Q I rx rv h;obtain⟨p,ys,ds,y,d,rfl,rfl,hp,DN,hd,c1,c2,c3,q⟩:=h;cases (show v=bL p from rx)
 obtain⟨w,rfl,rw⟩:=rv.one;obtain⟨_,its,n,xO,ho⟩:=hp.ok I;obtain⟨as,ra⟩:=DenAll.reads I ds c1 DN xO;obtain⟨bs,rb⟩:=Den.reads I d c2 hd rw;have lay:∀{l:List D} {e:D},ba l=true->e∈l->e.canLay0=true:=by
  intro l
  induction l with
  |nil=>intro e _ he;cases he
  |cons x l ih=>
   intro e hl he;simp only[ba,aB]at hl;rcases aI.mp he with z|z
   ·rw[z];exact hl.1
   ·exact ih hl.2 z
 have cnt:∀{us:List aj} {ds:List D} {as:List ax},iZ s.heap us ds as->ba ds=true->us.countP (b6h s.heap d)=ds.countP λe=>aH e d:=by
  intro us ds
  induction ds generalizing us with
  |nil=>intro as r _;cases r;rfl
  |cons d0 ds ih=>
   intro as r hl;simp only[ba,aB]at hl;cases r with
   |cons r1 r2=>rw[EZ,EZ,ih r2 hl.2,a9z r1 hl.1]
 refine call_meets sj ⟨_,ho,rfl⟩ PySem.F.entry_list_count (PySem.F.args_list_count_2 _ _) (SeqAt.list_countAt p its.toArray n xn #[] w (b6h s.heap d)) ⟨ho,λu rP=>?_,⟨.int _,H,I.tok _,⟨_,rfl⟩,?_⟩⟩
 ·obtain⟨j,hj⟩:=df.mp (show u∈its by simpa using rP);obtain⟨e,EM,he,re⟩:=a5H ra hj;have hle:=lay c1 (bh he);rw[a9z re hle];exact rA e d X.A.in1 s _ _ _ _ re rb hle c2 (by have:=Nat.min_le_right e.depth d.depth;show X.A.units+1+_<_;lia)
 ·have:=cnt ra c1;simp only[xE];rw[this];exact q
def b3l(hu:X.A.units+64<dW)(ha:PX X M a fa ca)(hb:PX X M b fb cb)(fK:d_ a "count" X.env (cC a X.env)=cC a X.env:=by rfl)
  (iM:((cH cM (au [b] X.env)).all (λx=>!x.1)&&(e_ cM (dE [] X.env)).all (λx=>x.1.isSome)
   && decide (([b]:List Expr).length+([]:List eP).length+(if ([]:List eP).isEmpty then 0 else 1)<30))=true:=by rfl)
  (fJ:(apos.endLine==cM.line)=true:=by rfl) (hs:au [b] X.env=(false,cC b X.env)::au [] X.env:=by rfl) (eJ:(cH cM (au [] X.env)).any (·.1)=false:=by rfl) :
  PX X M (.Call (.Attribute a "count" apos) [b] [] cM) (e2 a3i fa fb) (.new .i):=by
 obtain⟨ta,pa,qa⟩:=ha.out;obtain⟨tb,pb,qb⟩:=hb.out;refine .mk ⟨_,a4s eV sj PySem.F.type_list_count (b3k hu) pa (j8 pb o7 hs) fK iM fJ hs eJ,λZ σ H P F d Q S hf q=>?_⟩;obtain⟨x,y,h1,h2,h3⟩:=D9 hf;have hx:∃ds,x=.list ds/\(ba ds&&y.canLay0&&decide (y.depth<=60))=true/\d=.int (ds.countP λd=>aH d y):=by
  cases x with
  |list ds=>
   have rg:(if (ba ds&&y.canLay0&&decide (y.depth<=60))=true then cz (aO (ds.countP λd=>aH d y)) else xn)=cz d:=h3;by_cases c:(ba ds&&y.canLay0&&decide (y.depth<=60))=true
   ·rw[aD c]at rg;exact⟨ds,rfl,c,(aE rg).symm⟩
   ·rw[aM c]at rg;cases rg
  |_=>cases h3
 obtain⟨ds,rfl,c,rfl⟩:=hx;rw[aB,aB]at c;refine qa Z σ H P F _ _ S h1 λv H1 e1 r1=>?_
 obtain⟨p,xs,rfl,k1,k2⟩:=r1.den.list_inv;refine⟨.inl ⟨rfl,xs,k1.l⟩,qb Z σ H1 P F y _ (S.grow e1) h2 λw H2 e2 r2=>?_⟩;exact⟨p,xs,ds,w,y,rfl,rfl,O4 k1 e2,k2.up e2,r2.den,c.1.1,c.1.2,bB c.2,q _ H2 (e1.trans e2) (N4 (by simp only[imm]) den_int (S.lst' (e1.trans e2)))⟩
end
noncomputable def PXL(X:Cx)(M:List Md)(i:Nat)(e:Expr)(f:EvE)(c:Cat):Prop:=
 ∃t,PE X e t/\∀(Z:List D) (σ:L2.St) (H P:Hp) (F:List ax) (d:D) (v:V) (Q:VK),StE X.K M Z σ H P F->σ[i]?=cz (cz v)->Den X.K H v (Z.getD i .none)->f Z=cz d->(∀v H',Same H H'->ResR X.K c H H' F v d->Q v H')->t σ H Q
noncomputable def b6i(X:Cx)(M:List Md)(i:Nat)(es:List Expr)(f:EvA):Prop:=
 ∃t,PA X es t/\∀(Z:List D) (σ:L2.St) (H P:Hp) (F:List ax) (ds:List D) (v:V) (Q:List V->Hp->Prop),StE X.K M Z σ H P F->σ[i]?=cz (cz v)->Den X.K H v (Z.getD i .none)->f Z=cz ds->(∀vs H',Same H H'->DenAll X.K H' vs ds->Q vs H')->t σ H Q
section
variable {X:Cx}{M M1 M2 ML M':List Md}{a e e0:Expr}{es:List Expr}{f fa:EvE}{c ca:Cat}{i j:Nat}{u w t:Ty}{x y:bG}{pos p:fT}
def PXL.of(h:PX X M e f c):PXL X M i e f c:=by
 obtain⟨t,p,q⟩:=h.out;exact⟨t,p,λZ σ H P F d v Q S _ _ hf k=>q Z σ H P F d Q S hf k⟩
def a6N(hN:X.N[i]?=cz x:=by rfl)(hv:Vis X.env.scope x:=by first|exact bO rfl|exact bN (bO rfl)|exact bN (bN rfl))(hd:(x==("__debug__":bG))=false:=by decide)
  (iE:(x==("__classdict__":bG))=false:=by decide):PXL X M i (.Name x pos) (a6 i) .tmp:=by
 refine⟨_,A0 hN hv hd iE,λZ σ H P F d v Q S hs zc hf k=>?_⟩;cases hf
 exact⟨v,hs,k v H (Same.refl _) zc⟩
def a6O:b6i X M i [] b8:=⟨_,o7,λZ σ H P F ds v Q S _ _ hf q=>by cases hf;exact q [] H (Same.refl _) denAll_nil⟩
def Y3(ha:PXL X M i a fa ca)(hr:b6i X M i es fr)(hs:au (a::es) X.env=(false,cC a X.env)::au es X.env:=by rfl):b6i X M i (a::es) (a7 fa fr):=by
 obtain⟨ta,pa,qa⟩:=ha;obtain⟨tr,pr,qr⟩:=hr;refine⟨_,j8 pa pr hs,λZ σ H P F ds v Q S hv hd hf q=>?_⟩;obtain⟨x,h1,hf⟩:=bnd hf;obtain⟨xs,h2,hf⟩:=bnd hf;cases hf
 exact qa Z σ H P F _ v _ S hv hd h1 λv1 H1 e1 r1=>qr Z σ H1 P F _ v _ (S.grow e1) hv (hd.up e1) h2 λvs H2 e2 r2=>q (v1::vs) H2 (e1.trans e2) (denAll_cons (r1.den.up e2) r2)
def a6P{k n:Nat}{ps:List bG}{m:List D->Option D}{f:EvA}(W:Has X.prog X.w X.K X.mg X.base x k ps (spD X.K n m u))(hr:Room k X.A)(h:b6i X M i (e0::es) f)(hu:u.shut=true:=by rfl)(hl:(e0::es).length=n:=by rfl)(hfl:∀Z ds,f Z=cz ds->ds.length=(e0::es).length)
  (hg:Gl X x:=by rfl) (lF:(x==("__debug__":bG))=false:=by decide) (he:au (e0::es) X.env=(false,cC e0 X.env)::au es X.env:=by rfl) (gH:(cH pos (au es X.env)).any (·.1)=false:=by rfl) :
  PXL X M i (.Call (.Name x p) (e0::es) [] pos) (eCl m f) (.new u):=by
 obtain⟨t,pa,qa⟩:=h;refine⟨_,a5t W hr pa hg lF he gH,λZ σ H P F d v Q S hv zc hf q=>?_⟩;obtain⟨ds,h1,hf⟩:=bnd hf;refine qa Z σ H P F ds v _ S hv zc h1 λvs H1 e1 r1=>?_
 show spD X.K n m u (vs++[]) H1 Q E0;rw[bb];refine⟨ds,d,by rw[r1.length,hfl Z ds h1,hl],r1,hf,λv H' fp e o nd fr=>q v H' (e1.trans e) ⟨fp,o.shut_out (λa ha=>?_) u hu,nd,λa ha=>e1.free (fr a ha)⟩⟩;rcases ar.mp ha with z|z
 ·exact o.lst u a z
 ·exact S.lst' (e1.trans e) a z
noncomputable def Y4(j i:Nat)(f:EvE):EvS:=λZ=>match Z.getD j .none with
 |.list ds=>if ds.length<1000000 then (f (Z.set j (.list (ds++[Z.getD i .none])))).bind λd=>cz (.nx ((Z.set j (.list (ds++[Z.getD i .none]))).set i d)) else xn
 |_=>xn
def b0Z(j i:Nat){apos cM lV:fT}(gL:i≠j)(xp:X.N.Nodup)(xm:X.N[j]?=cz x:=by rfl)(xo:X.N[i]?=cz y:=by rfl)(hm:M[j]?=cz (.own (.l t)):=by rfl)(vz:M[i]?=cz (.own t):=by rfl)
  (hL:PXL X (M.set i .dead) i e f (.new t)) (jF:PSsX X w ML M nV g M')
  (yl:Vis X.env.scope x:=by first|exact bO rfl|exact bN (bO rfl)|exact bN (bN rfl)) (zd:(x==("__debug__":bG))=false:=by decide) (zg:(x==("__classdict__":bG))=false:=by decide)
  (sO:Vis X.env.scope y:=by first|exact bO rfl|exact bN (bO rfl)|exact bN (bN rfl)) (oY:(y==("__debug__":bG))=false:=by decide) (zh:(y==("__classdict__":bG))=false:=by decide)
  (Dg:Loc X.env.scope y:=by first|exact bO rfl|exact bN rfl) (vM:X.fn y=true∨X.env.scope.names.lookup y=cz .local:=by first|exact .inl rfl|exact .inr rfl)
  (fK:d_ (.Name x px) "append" X.env (cC (.Name x px) X.env)=cC (.Name x px) X.env:=by rfl)
  (iM:((cH cM (au [.Name y py] X.env)).all (λx=>!x.1)&&(e_ cM (dE [] X.env)).all (λx=>x.1.isSome)
   && decide (([.Name y py]:List Expr).length+([]:List eP).length+(if ([]:List eP).isEmpty then 0 else 1)<30))=true:=by rfl)
  (fJ:(apos.endLine==cM.line)=true:=by rfl) (hs:au [.Name y py] X.env=(false,cC (.Name y py) X.env)::au [] X.env:=by rfl) (eJ:(cH cM (au [] X.env)).any (·.1)=false:=by rfl)
  (oR:eU (.Call (.Attribute (.Name x px) "append" apos) [.Name y py] [] cM) xn pos.line X.env=pure false:=by rfl) (sQ:eU e (cz (.Name y pz)) lV.line X.env=pure false:=by rfl) :
  PSsX X w ML M (.Expr (.Call (.Attribute (.Name x px) "append" apos) [.Name y py] [] cM) pos::.Assign [.Name y pz] e lV::nV) (e7 (Y4 j i f) g) M':=by
 obtain⟨te,pe,qe⟩:=hL;obtain⟨tr,pr,qr⟩:=jF.out;refine .mk ⟨_,a0z (Q6 (a4s eV kz ku X5 (A0 xm yl zd zg) (j8 (A0 xo sO oY zh) o7 hs) fK iM fJ hs eJ) oR) (a0z (a5k xp xo Dg pe sQ vM) pr),λD Z σ H P F o S hg k=>?_⟩;obtain⟨o1,h1,g1⟩:=bnd hg;have hl:∃ds d,Z.getD j .none=.list ds/\ds.length<1000000/\f (Z.set j (.list (ds++[Z.getD i .none])))=cz d/\o1=.nx ((Z.set j (.list (ds++[Z.getD i .none]))).set i d):=by
  unfold Y4 at h1;cases hx:Z.getD j .none with
  |list ds=>
   rw[hx]at h1;have mh:(if ds.length<1000000 then (f (Z.set j (.list (ds++[Z.getD i .none])))).bind λd=>cz (Out.nx ((Z.set j (.list (ds++[Z.getD i .none]))).set i d)) else xn)=cz o1:=h1;by_cases c:ds.length<1000000
   ·rw[aD c]at mh;obtain⟨d,z1,z2⟩:=bnd mh;exact⟨ds,d,rfl,c,z1,(aE z2).symm⟩
   ·rw[aM c]at mh;cases mh
  |_=>rw[hx]at h1;cases h1
 obtain⟨ds,d,hZ,hz,DJ,rfl⟩:=hl;obtain⟨vj,fj,sN,xS,_⟩:=S.toE.get hm;have pZ:∃a xs,vj=.ref a/\H a=cz (.lst xs):=by
  rw[hZ]at xS;simp only[Own]at xS;rcases xS with⟨_,hi,_⟩|⟨a,xs,_,_,rfl,h2,_⟩
  ·simp only[imm]at hi;cases hi
  ·exact⟨a,xs,rfl,h2⟩
 obtain⟨a,xs,rfl,ha⟩:=pZ;obtain⟨vi,qR,S1⟩:=S.pend.move vz;have uj:(M.set i .dead)[j]?=cz (.own (.l t)):=by rw[bu gL];exact hm
 have rX:dAt (.l t) (Z.getD j .none) []=cz (.l t,.list ds):=by rw[hZ];rfl
 obtain⟨b',kO,e',uP,hlen,S3,_⟩:=S1.put uj sN rX (show wk H (.ref a) [] (.ref a) from rfl);cases e'
 rw[hZ]at S3;refine⟨.ref a,sN,.inl ⟨rfl,xs,SqL.of ha⟩,vi,qR,a,kO,vi,rfl,rfl,uP,by rw[hlen];exact jB hz (by rw[dt];decide),?_⟩;have zS:StR X.K (M.set i .dead) (Z.set j (.list (ds++[Z.getD i .none]))) σ (upd H a (.lst (kO++[vi]))) P F:=S3;have kT:Den X.K (upd H a (.lst (kO++[vi]))) vi (Z.getD i .none):=by
  obtain⟨v2,f2,uc,o2,_⟩:=zS.toE.get uj;rw[sN]at uc;cases uc
  have lE:∃x,Z[j]?=cz x:=by
   obtain⟨G,q1,_⟩:=S.all;obtain⟨d0,_,_,_,_,z1,_⟩:=q1.at_ hm;exact⟨d0,z1⟩
  obtain⟨x0,t_⟩:=lE;have pI:j<Z.length:=(aQ.mp t_).1;have DB:(Z.set j (.list (ds++[Z.getD i .none]))).getD j .none=.list (ds++[Z.getD i .none]):=by
   rw[ab,dC pI];rfl
  rw[DB]at o2;simp only[Own]at o2;rcases o2 with⟨_,hi,_⟩|⟨a2,ys,es,fs,ea,h2,ed,_,la⟩
  ·simp only[imm]at hi;cases hi
  ·cases ea
   cases ed
   rw[g8]at h2;cases h2
   have qX:kO.length=ds.length:=hlen;obtain⟨v3,f3,_,_,e3,d3,_⟩:=la.at_ (k:=ds.length) (d:=Z.getD i .none) (by simp);rw[<-qX,cF (az _),jz]at e3;cases e3
   exact d3.den
 have DC:(Z.set j (.list (ds++[Z.getD i .none]))).getD i .none=Z.getD i .none:=by
  rw[ab,ab,bu (cP gL)]
 refine qe _ σ _ P F d vi _ zS.toE qR (by rw[DC];exact kT) DJ λv4 H4 e4 r4=>?_
 obtain⟨fp,o4,n4,f4⟩:=r4;have De:(M.set i .dead)[i]?=cz .dead:=by
  have mT:i<M.length:=(aQ.mp vz).1;rw[dC mT]
 have S5:=zS.set De e4 o4 n4 f4;rw[List.set_set,set_same vz]at S5;exact qr D _ _ _ P _ o S5 g1 k
end
def b6j{X:Cx}{pins:List (ax×fY)}{σ:L2.St}{H:Hp}{s:av}{h':cQ}{t':Nat}{ch:List ax}{T:ax}{xs:List V}(I:Inv X pins σ H s)(k:∀b o,b∉ch->s.heap.get? b=cz o->h'.get? b=cz o)
  (hf:∀b∈ch,a3X X pins H b) (hT:s.heap.objs.size<=T) (new:ObjOk X.prog X.w (upd H T (.tup xs)) h' T (.tup xs)):Inv X pins σ (upd H T (.tup xs)) {s with heap:=h',toks:=t'}:=by
 have hn:H T=xn:=I.hok.fresh hT;have neT:∀b o,s.heap.get? b=cz o->b≠T:=λb o e z=>absurd (bt (aT e) (by rw[z];exact hT)) (dS _)
 have pQ:∀b u,H b=cz u->b∉ch:=λb u e hb=>by rw[(hf b hb).1]at e;cases e
 refine I.step (g':=s.gens) (d':=s.drawn) (ch:=ch) (λb hb=>⟨(hf b hb).2.2.2.1,(hf b hb).2.1,(hf b hb).2.2.2.2.1,(hf b hb).2.2.2.2.2⟩) (λb o _ _ hc e _=>k b o hc e) (λb o _ _ hc e _=>⟨o.slots,k b o hc e⟩) (λb o _ e n=>by rw[b9 (neT b o e)];exact n)
  (λb o hc e=>⟨o,k b o hc e⟩) (λb ys e=>by rw[b9 (i8 e hn)];exact e) (λb o u e=>by rw[b9 (i8 e hn)];exact e) (λb ps e=>⟨#[],by rw[b9 (i8 e hn),e];simp⟩) (λm hm=>?_) (λb u e=>?_) I.bare
 ·obtain⟨o,es,ep,ho,r⟩:=hm;exact⟨o,es,ep,k _ o (λhb=>(hf _ hb).2.1 rfl) ho,r⟩
 ·by_cases hb:b=T
  ·subst hb;rw[g8]at e;cases e;exact new
  ·rw[b9 hb]at e;refine (I.hok b u e).stay (λc v hc q=>k c v ?_ q) (λc q=>by rw[b9 (i8 q hn)];exact q) λc ys q=>by rw[b9 (i8 q hn)];exact q
   rcases hc with z|z
   ·rw[z];exact pQ b u e
   ·exact pQ c _ z
def b6k{X:Cx}{pins:List (ax×fY)}{σ:L2.St}{H:Hp}{s:av}{h':cQ}{t':Nat}{ch:List ax}(I:Inv X pins σ H s)(k:∀b o,b∉ch->s.heap.get? b=cz o->h'.get? b=cz o)
  (hf:∀b∈ch,a3X X pins H b):Inv X pins σ H {s with heap:=h',toks:=t'}:=by
 have pQ:∀b u,H b=cz u->b∉ch:=λb u e hb=>by rw[(hf b hb).1]at e;cases e
 refine I.step (g':=s.gens) (d':=s.drawn) (ch:=ch) (λb hb=>⟨(hf b hb).2.2.2.1,(hf b hb).2.1,(hf b hb).2.2.2.2.1,(hf b hb).2.2.2.2.2⟩) (λb o _ _ hc e _=>k b o hc e) (λb o _ _ hc e _=>⟨o.slots,k b o hc e⟩) (λb o _ e n=>n)
  (λb o hc e=>⟨o,k b o hc e⟩) (λb ys e=>e) (λb o u e=>e) (λb ps e=>⟨#[],by rw[e];simp⟩) (λm hm=>?_) (λb u e=>?_) I.bare
 ·obtain⟨o,es,ep,ho,r⟩:=hm;exact⟨o,es,ep,k _ o (λhb=>(hf _ hb).2.1 rfl) ho,r⟩
 ·refine (I.hok b u e).stay (λc v hc q=>k c v ?_ q) (λc q=>q) λc ys q=>q
  rcases hc with z|z
  ·rw[z];exact pQ b u e
  ·exact pQ c _ z
def Ite(K:ag)(a:ax):It:=
 ⟨λi H=>∃xs x,SqL K H a xs/\xs[i]?=cz x,λi H x H'=>∃T y,H T=xn/\H'=upd H T (.tup [.int i,y])/\x=.ref T/\∀xs,SqL K H a xs->xs[i]?=cz y,λi H=>∃xs,SqL K H a xs/\xs.length<=i⟩
def b1a{P:bD}{w:cm}{K:ag}{elts:List Expr}{kk:Nat}{jg:fT}(a e it:ax)(DL:e≠it):Turn P w K (.Tuple elts kk jg) (Ite K a) [e,it] e (λi h=>(∃old,IsEnum h e it i old)/\h.IsListIter it a i) where
 mem:=by simp
 obj:=λi h st b hb=>by
  obtain⟨⟨old,he⟩,o,eo,c,d⟩:=st;rcases aI.mp hb with rfl|hb
  ·exact⟨_,he,λv z=>by cases z⟩
  ·cases aq.mp hb
   exact⟨o,eo,λv z=>by rw[d]at z;cases z⟩
 keep:=λi h h' st k=>by
  obtain⟨⟨old,he⟩,hit⟩:=st;exact⟨⟨old,k e (by simp) _ he⟩,hit.at λo x=>k it (by simp) o x⟩
 item:=by
  intro X hP hw hK hc i pins s σ H E I hf st hg;subst hP hw hK;obtain⟨xs,x,hq,hx⟩:=hg;obtain⟨its,rv,p,hz⟩:=I.list hq;obtain⟨u,hu,ru⟩:=rv.get hx;obtain⟨⟨old,he⟩,hit⟩:=st;have hle:a≠e:=λz=>by
   obtain⟨o,eo,c,_⟩:=p.isList;rw[z,he]at eo;cases eo
   exact absurd (show fL "enumerate"=fL "list" from c) (by decide)
  have Dm:a≠it:=λz=>by
   obtain⟨o,eo,c,_⟩:=p.isList;obtain⟨o2,Ex,c2,_⟩:=hit;rw[z,Ex]at eo;cases eo
   rw[c2]at c;exact absurd c (by decide)
  have W:=WalksT.enumerate (prog:=X.prog) (w:=X.w) (A:=X.A) (I.ok.hd hc) e it a DL hle Dm its.toArray;have mT:i<its.toArray.size:=by
   have:=(aQ.mp hu).1;simpa using this
  refine W.item i s _ E mT ⟨⟨old,he⟩,hit,p.isList⟩ λT vals h' tk hP hT yq wg hk=>⟨.ref T,rfl,W.go elts kk jg i T {s with heap:=h',toks:=tk} _ E wg λh2 vg vG=>?_⟩
  obtain⟨t,y,hy,rfl⟩:=hP;have ey:y=u:=by
   have h1:its[i]?=cz y:=by simpa using hy
   rw[hu]at h1;exact (aE h1).symm
  subst ey;have A_:=W.apart i T h' wg;obtain⟨oT,eT,cT⟩:=yq;have hn:H T=xn:=I.hok.fresh hT;have new:ObjOk X.prog X.w (upd H T (.tup [.int i,x])) h2 T (.tup [.int i,x]):=by
   refine⟨by rw[dt];show 2<=_;decide,[.int i t,y],?_,oT,vG T oT A_ eT,cT⟩;exact .cons ⟨t,rfl⟩ (.cons ru .nil)
  refine⟨.ref T,upd H T (.tup [.int i,x]),b6j (s:=s) (t':=tk) I (λb o hb q=>vG b o hb (hk b o hb q)) hf hT new,rfl,⟨T,x,hn,rfl,rfl,λys uY=>by rw[I.list_inj uY hq];exact hx⟩,⟨vg.1,vg.2.1⟩,λb hb=>?_⟩;rw[b9 (λz=>A_ (by rw[<-z];exact hb))];exact (hf b hb).1
 done:=by
  intro X hP hw hK hc i pins s σ H E I hf st hg;subst hP hw hK;obtain⟨xs,hq,hx⟩:=hg;obtain⟨its,rv,p,hz⟩:=I.list hq;have hl:=rv.length;obtain⟨⟨old,he⟩,hit⟩:=st;exact wpAny_pyNext_enum_end (I.ok.hd hc) he hit p.isList (f_ (by simp;lia)) λh' hx=>⟨rfl,b6k (t':=s.toks) I (λb o hb y=>hx b o (λz=>hb (by simp[z])) y) hf⟩
 self:=λ_ _ _ _ _ st h=>by
  obtain⟨⟨old,he⟩,_⟩:=st;exact wpAny_pyIter_enum he h
def F5:List D->Nat->List D
 |[],_=>[]
 |d::ds,k=>.tuple [.int k,d]::F5 ds (k+1)
noncomputable def iEn(a:EvE):EvA:=λZ=>(a Z).bind λd=>(asL d).bind λds=>cz (F5 ds 0)
theorem a3j:∀(ds:List D) (k:Nat),(F5 ds k).length=ds.length
 |[],_=>rfl
 |d::ds,k=>by show (F5 ds (k+1)).length+1=_;rw[a3j ds];rfl
theorem a3k:∀(ds:List D) (k i:Nat) (d:D),ds[i]?=cz d->(F5 ds k)[i]?=cz (.tuple [.int ((k+i:Nat):Int),d])
 |[],_,i,d,h=>by simp at h
 |d0::ds,k,0,d,h=>by
  have:d0=d:=by simpa using h
  subst this;rfl
 |d0::ds,k,i+1,d,h=>by
  have:=a3k ds (k+1) i d (by simpa using h);show (F5 ds (k+1))[i]?=_;rw[this,gn,jC 1]
section
variable {X:Cx}{M ML:List Md}{a e iter:Expr}{elts:List Expr}{kk:Nat}{jg pos p:fT}{fa:EvE}{ca:Cat}{u:Ty}{body:List iq}{g:EvS}
def c2G(K:ag)(ta:TA):TI:=λσ H R=>ta σ H λvs H1=>∃a xs,vs=[.ref a]/\SqL K H1 a xs/\R (Ite K a) H1
open PyProof.Rows in
def b6l(hg:Gl X "enumerate")(hm:X.mg "enumerate"=xn)(ha:PA X [a] ta)(hs:au [a] X.env=[(false,cC a X.env)]:=by rfl):PI X (.Tuple elts kk jg) (.Call (.Name "enumerate" p) [a] [] pos) (c2G X.K ta):=by
 intro pins s σ H R I h;refine Call_ (U5 I hg hm PyProof.Rows.Boot.«enumerate» (fm (L2.thn (ha pos pins s σ H _ I h) λus s1 ⟨vs,H1,I1,r1,q1⟩=>?_) hs rfl));obtain⟨l,xs,e,hq,q⟩:=q1;subst e;cases r1 with
 |cons r rr=>
  cases rr
  cases (show _=bL l from r)
  obtain⟨its,rv,pl,hz⟩:=I1.list hq;refine call_enumerate_list pl.isList λh' he hit kN hk=>?_
  refine wpAny_pyIter_enum he ?_;refine⟨s1.heap.objs.size+1,[s1.heap.objs.size+1,s1.heap.objs.size],_,_,H1,rfl,I1.kept (t':=s1.toks) hk,b1a l _ _ (Nat.succ_ne_self _),⟨⟨_,he⟩,hit⟩,λb hb=>?_,q⟩;have uv:s1.heap.objs.size<=b:=by
   rcases aI.mp hb with z|z
   ·rw[z];exact wD _
   ·rw[aq.mp z];exact az _
  exact I1.fpOk uv (I1.hok.fresh uv)
noncomputable def c1h(X:Cx)(M:List Md)(tg iter:Expr)(f:EvE):Prop:=
 ∃wi,PI X tg iter wi/\∀(Z:List D) (σ:L2.St) (H P:Hp) (F:List ax) (ds:List D) (R:It->Hp->Prop),StE X.K M Z σ H P F->f Z=cz (.list ds)->
  (∀a xs H1,Same H H1->(∀H2,Same (cut H1 F) H2->SqL X.K H2 a xs)->DenAll X.K (cut H1 F) xs ds->R (Ite X.K a) H1)->wi σ H R
def b9r(hm:X.mg "enumerate"=xn)(h:PX X M a fa ca)(hc:frozen ca:=by trivial)(hg:Gl X "enumerate":=by rfl)(he:au [a] X.env=[(false,cC a X.env)]:=by rfl)(oX:au [a] X.env=(false,cC a X.env)::au [] X.env:=by rfl) :
  c1h X M (.Tuple elts kk jg) (.Call (.Name "enumerate" p) [a] [] pos) fa:=by
 obtain⟨t,p,q⟩:=h.out;refine⟨_,b6l hg hm (j8 p o7 oX) he,λZ σ H P F ds R S hf k=>?_⟩;refine q Z σ H P F _ _ S hf λv H1 e1 r1=>?_
 obtain⟨aa,xs,rfl,k1,k2⟩:=(R1 hc r1).list_inv;exact⟨aa,xs,rfl,(O4 k1 k6).l,k _ xs H1 e1 (λH2 e2=>(O4 k1 e2).l) k2⟩
def b3m{Z ps:List D}(h:iI f Z=cz ps):f Z=cz ps:=by
 obtain⟨ds,h1,g1⟩:=bnd h;by_cases c:c9 ds=true
 ·have:(if c9 ds=true then cz ds else xn)=cz ps:=g1;rw[aD c]at this;rw[h1,this]
 ·have:(if c9 ds=true then cz ds else xn)=cz ps:=g1;rw[aM c]at this;cases this
def a5I{set:List D->D->Option (List D)}{m:D->Prop}(hc:X.calm=true)(hp:nS (aW X.prog X.w) X.A X.env X.xe)(hi:c1h X M tg iter fa)(hg:PG X tg gt)(hs:b2O X.K M MB gt set m)(hm:∀Z ds,fi Z=cz ds->∀d∈ds,m d)(DI:∀{Z ps},fi Z=cz ps->iEn fa Z=cz ps)(hb:PSsX X u M MB body g M)
  (hf:∀x,eK iter X.env x=pure x:=by intro _;rfl):PSX X u ML M (.For tg iter body [] pos) (y6 fi set g) M:=by
 obtain⟨wi,pi,qi⟩:=hi;obtain⟨tb,pb,qb⟩:=hb.out;refine .mk ⟨_,a7K hp hc pi hg pb hf,λD Z σ H P F o S qY k=>?_⟩;obtain⟨ps,h1,g1⟩:=bnd qY;obtain⟨d0,h2,g2⟩:=bnd (DI h1);obtain⟨ds,h3,g3⟩:=bnd g2;cases P6 h3
 have ui:F5 ds 0=ps:=aE g3;refine qi Z σ H P F ds _ S.toE h2 λa xs H1 e1 qT hx=>?_
 have S1:=S.grow e1;have oD:=hx.length;have gH:ps.length=ds.length:=by rw[<-ui,a3j]
 refine⟨λi n σ' H'=>n=xs.length-i/\i<=xs.length/\∃Z' F',StR X.K M Z' σ' H' (cut H1 F) F'/\U2 set g (ps.drop i) Z'=cz o,⟨xs.length,by simp,cE _,Z,F,⟨S1.all,S1.lst,Same.refl _⟩,g1⟩,?_⟩;rintro i n σ' H' ⟨rfl,hi,Z',F',S',hfl⟩;have nq:Same (cut H1 F) (cut H' F'):=S'.prot;have q:=qT H' (nq.trans k6);by_cases iX:i<xs.length
 ·refine .inr ⟨⟨xs,xs[i],q,ae iX⟩,λσ2 H2=>∃Z2 F2,StR X.K M Z2 σ2 H2 (cut H1 F) F2/\U2 set g (ps.drop (i+1)) Z2=cz o,λσ2 H2 ⟨Z2,F2,S2,h2⟩=>⟨xs.length-(i+1),by lia,rfl,iX,Z2,F2,S2,h2⟩,λx H2 hy=>?_⟩;obtain⟨T,y,hT,rfl,rfl,yf⟩:=hy;have pR:=yf xs q;have mT:i<ps.length:=by lia
  have ny:ps.drop i=ps[i]::ps.drop (i+1):=dO mT;rw[ny]at hfl;obtain⟨Z1,ue,g4⟩:=bnd (show (set Z' ps[i]).bind _=cz o from hfl);obtain⟨o1,hg1,g5⟩:=bnd g4;obtain⟨d',oY,rW⟩:=(hx.up nq).getV pR;have rQ:ps[i]=.tuple [.int (i:Nat),d']:=by
   have:=a3k ds 0 i d' oY;rw[ui,ae mT,ir]at this;exact aE this
  have r_:Same H' (upd H' T (.tup [.int i,y])):=k9 hT _;have S2:=S'.grow r_;have Ed:T∉F':=λz=>by
   obtain⟨ys,e⟩:=S'.lst T z;rw[hT]at e;cases e
  have kT:Den X.K (cut (upd H' T (.tup [.int i,y])) F') (.ref T) (.tuple [.int (i:Nat),d']):=by
   have qZ:Same (cut H' F') (cut (upd H' T (.tup [.int i,y])) F'):=G9 r_;have hd2:=rW.up qZ;have tE:cut (upd H' T (.tup [.int i,y])) F' T=cz (.tup [.int i,y]):=i4 Ed g8;simp only[Den];exact⟨T,[.int i,y],rfl,SqT.of tE,denAll_cons den_int (denAll_cons hd2 denAll_nil)⟩
  rw[rQ]at ue;refine hs Z' σ' _ (cut H1 F) F' (.ref T) _ Z1 _ S2 kT (hm Z ps h1 _ (by rw[<-rQ];exact bW mT)) ue λσ3 F3 S3=>qb _ Z1 σ3 _ (cut H1 F) F3 o1 S3 hg1 ?_
  cases o1 with
  |nx Z2=>exact λσ4 H4 F4 S4=>⟨Z2,F4,S4,g5⟩
  |ct Z2=>exact λσ4 H4 F4 S4=>⟨Z2,F4,S4,g5⟩
  |bk Z2=>
   have:o=.nx Z2:=(aE g5).symm;subst this;exact λσ4 H4 F4 S4=>k σ4 H4 F4 ⟨S4.all,S4.lst,S1.prot.trans S4.prot⟩
  |rt d=>
   have:o=.rt d:=(aE g5).symm;subst this;refine λv H4 fp o nd fr e=>k v H4 fp o nd (λa ha=>?_) (S1.prot.trans e)
   exact S1.prot.free (fr a ha)
 ·have e:i=xs.length:=by lia
  subst e;rw[oD,<-gH,iT]at hfl;have:o=.nx Z':=(aE hfl).symm;subst this;exact .inl ⟨⟨xs,q,az _⟩,k σ' H' F' ⟨S'.all,S'.lst,S1.prot.trans S'.prot⟩⟩
end
def insI(n:Int):List Int->List Int
 |[]=>[n]
 |m::ms=>if n<=m then n::m::ms else m::insI n ms
def srt:List Int->List Int
 |[]=>[]
 |n::ns=>insI n (srt ns)
theorem vals_ints:∀{vs:List aj} {ns:List Int},ma vs ns->Vals (ns.map V.int) vs
 |_,_,.nil=>.nil
 |_,_,.cons n t r=>.cons ⟨t,rfl⟩ (vals_ints r)
theorem b9s:∀ns:List Int,c9 (ns.map aO)=true
 |[]=>by simp only[c_,c9]
 |n::ns=>by simp only[ay,c9,imm,b9s ns,eO]
noncomputable def eD1(kt:Bool)(fk fv:EvE):EvE:=λZ=>(fk Z).bind λk=>(fv Z).bind λd=>if p7 kt k then cz (.dict [(k,d)]) else xn
section
variable {X:Cx}{M:List Md}{k v:Expr}{fk fv:EvE}{ck:Cat}{kt:Bool}{u:Ty}{pos:fT}
def b1b(hu:X.A.units+64<dW)(hk:PE X k tk)(hv:PE X v tv):PE X (.Dict [cz k] [v] pos) (λσ H Q=>∀p,H p=xn->tk σ (upd H p (g7 p [])) λkv H1=>tv σ H1 λvv H2=>∃kt kd,H2 p=cz (g7 p [])/\KeysAt X H2 kt [] kd kv/\Q (.ref p) (upd H2 p (g7 p [(kd,kv,vv)]))):=by
 intro pins s σ H Q I h;have I1:=I.laid (a:=s.heap.objs.size) (o:=g7 s.heap.objs.size []) (t':=s.toks) (λ_ _ q=>aF _ q) (az _) (b0P s.heap I.sysBelow);rw[arm_eval_Dict,zip_pairTrees [cz k] [v] X.env pos rfl rfl,dictDisplay_pairs (pairTrees [cz k] [v] X.env pos) (by simp[pairTrees]) (by rw[pairTrees_length _ _ _ _ rfl rfl];simp)];refine af (lz (af ?_));unfold subDict;refine af (wpAny_alloc ?_);refine af (cZ ?_);rw[aD (by rw[pairTrees_length _ _ _ _ rfl rfl];simp)];refine af ?_;refine pairTrees_cons_walk (L2.thn (hk pins _ σ _ _ I1 (h _ (I.hok.fresh (az _)))) λkv s2 ⟨x,H1,I2,rx,q⟩=>L2.thn (hv pins s2 σ H1 _ I2 q) λvv s3 ⟨y,H2,I3,ry,kt,kd,e,K,q4⟩=>?_);refine pairTrees_nil_walk ?_;refine cZ ?_;refine af ?_;rw[pD];refine af (af (set_dict I3 (by lia) e K rx ry (by rw[dt];decide) λs' I'=>aC ?_));show aX _ _ (forIn ([]:List (aj×aj)) PUnit.unit _) _ _ _;rw[qA];exact aC (aC (aC (aC ⟨.ref _,_,I',rfl,q4⟩)))
def b3n(hu:X.A.units+64<dW)(hk:PX X M k fk ck)(hv:PX X M v fv (.new u)):PX X M (.Dict [cz k] [v] pos) (eD1 kt fk fv) (.new (.d kt u)):=by
 obtain⟨tk,pk,qk⟩:=hk.out;obtain⟨tv,pv,qv⟩:=hv.out;refine .mk ⟨_,b1b hu pk pv,λZ σ H P F d Q S hf q=>?_⟩;obtain⟨kd,h1,g1⟩:=bnd hf;obtain⟨vd,h2,g2⟩:=bnd g1;by_cases c:p7 kt kd=true
 ·rw[aD c]at g2;cases g2
  intro p hp;have s0:=k9 hp (g7 p []);have S0:StE X.K M Z σ (upd H p (g7 p [])) P ([p]++F):=S.more s0 (λa ha=>by rw[aq.mp ha];exact hp) λa ha=>by rw[aq.mp ha];exact⟨⟨g7 p [],trivial⟩,g8⟩
  refine qk Z σ _ P ([p]++F) kd _ S0 h1 λkv H1 s1 r1=>qv Z σ H1 P ([p]++F) vd _ (S0.grow s1) h2 λvv H2 s2 ⟨fp,o,hn,nQ⟩=>?_
  have jV:H2 p=cz (g7 p []):=(s1.trans s2) _ _ g8;have vm:∀a∈fp,a≠p:=λa ha z=>by
   have:=nQ a ha;rw[z,s1 _ _ g8]at this;cases this
  have hF:∀a∈(p::fp)++F,∃ys:MuO,upd H2 p (g7 p [(kd,kv,vv)]) a=cz ys.1:=λa ha=>by
   by_cases e:a=p
   ·subst e;exact⟨⟨g7 a _,trivial⟩,g8⟩
   ·rw[b9 e];rcases ar.mp ha with z|z
    ·rcases aI.mp z with z|z
     ·exact absurd z e
     ·exact o.lst u a z
    ·exact ((S0.grow s1).grow s2).lst a (ah _ z)
  have hc:Same (cut H2 (fp++([p]++F))) (cut (upd H2 p (g7 p [(kd,kv,vv)])) ((p::fp)++F)):=λa x hx=>by
   obtain⟨n1,n2⟩:=l7 hx;have q_:a≠p:=λz=>n1 (by rw[z];simp)
   refine i4 (λz=>n1 ?_) (by rw[b9 q_];exact n2);rcases ar.mp z with z|z
   ·rcases aI.mp z with z|z
    ·exact absurd z q_
    ·exact ak _ z
   ·exact ah _ (ah _ z)
  refine⟨kt,kd,jV,⟨(λe he=>nomatch he),K6 c,r1.den.up s2⟩,q _ _ (λa x hx=>?_) ⟨p::fp,?_,?_,λa ha=>?_⟩⟩
  ·rw[b9 (λz=>by rw[z,hp]at hx;cases hx)];exact (s0.trans (s1.trans s2)) _ _ hx
  ·simp only[Own];refine⟨p,[(kd,kv,vv)],[vd],fp++[],rfl,g8,rfl,by rw[bb],⟨by simp,λe he=>?_⟩,m7 (o.frame hc u λa ha=>b9 (vm a ha)) p5⟩;rw[aq.mp he];refine⟨K6 c,Den.imm_out hF kd (U8 _ (K6 c).1) ?_⟩;have dk:=r1.den.up s2;exact (Den.imm_out (F:=[p]) (λa ha=>by rw[aq.mp ha];exact⟨⟨g7 p [],trivial⟩,jV⟩) kd (U8 _ (K6 c).1) dk).up λa x hx=>by
    obtain⟨n1,n2⟩:=l7 hx;rw[b9 (λz=>n1 (by rw[z];simp))];exact n2
  ·exact bZ.mpr ⟨λz=>vm p z rfl,hn⟩
  ·rcases aI.mp ha with z|z
   ·rw[z];exact hp
   ·exact s0.free (s1.free (nQ a z))
 ·rw[aM c]at g2;cases g2
end
end VS
namespace PySem
open Sem (wp)
set_option maxRecDepth 100000
def Heap.IsValuesView.at{h g1:cQ}{v d}(x:h.IsValuesView v d)(e:∀o,h.get? v=cz o->g1.get? v=cz o):g1.IsValuesView v d:=let⟨o,ho,r⟩:=x;⟨o,e _ ho,r⟩
theorem Heap.IsValuesView.push{h:cQ}{v d}(x:h.IsValuesView v d)(o:fY):(h.push o).IsValuesView v d:=x.at λ_ e=>aF o e
section
variable {prog:bD}{w:cm}{K:Type}[DecidableEq K]{knd:KeyKind prog w K}{A:bP}{E:aj->av->Prop}{s:av}
def b1c(hT:s.TypeIs (.ref d) "dict")(h:Q false s):aX (aW prog w) A (gM (.ref d)) Q E s:=by
 unfold gM;refine af (gB hT tP.lookup ?_);generalize wq:("dict.__len__":String)=ye
 wp_delta
 rw[show splitId ye=cz ("dict","__len__") from by subst wq;decide +kernel];subst wq;refine af (lS (T:="dict") (b:=true) hT (by rw[isSubtype_type];kernel_rfl) ?_);refine iz (λrd=>absurd rd (by decide)) (λ_=>?_);refine iz (λ_=>?_) (λrd=>absurd (by decide +kernel) rd);refine af (pL hT ?_);exact aC h
def b1d(hT:s.TypeIs (.ref d) "dict_values")(h:Q false s):aX (aW prog w) A (gM (.ref d)) Q E s:=by
 unfold gM;refine af (gB hT F.slot_dict_values_len.lookup ?_);generalize wq:("dict_values.__len__":String)=ye
 wp_delta
 rw[show splitId ye=cz ("dict_values","__len__") from by subst wq;decide +kernel];subst wq;refine af (lS (T:="dict_values") (b:=true) hT (by rw[isSubtype_type];kernel_rfl) ?_);refine iz (λrd=>absurd rd (by decide)) (λ_=>?_);refine iz (λ_=>?_) (λrd=>absurd (by decide +kernel) rd);refine af (pL hT ?_);exact aC h
def b3o(hh:A.handled=xn)(hd:(d==du)=false)(hm:s.heap.DictAt knd d kvs ep)
  (kN:kvs.length<=a_) (L0:ax) (res:aj) (c₀:Nat) (zl:s.heap.get? L0=cz {cls:=.type "list",data:=.seq #[] c₀})
  (kR:∀g1 tq ac cq,(∀b o,b≠L0->s.heap.get? b=cz o->g1.get? b=cz o)->g1.get? L0=cz {cls:=.type "list",dict:=xn,data:=.seq ac cq,slots:=#[]}->
   qB (λi v=>∃k x,kvs[i]?=cz (k,x)/\knd.is k v=true) ac kvs.length->R (.ok (.ret res)) {s with heap:=g1,toks:=tq}) :
  aX (aW prog w) A.in1 (cR (.ref L0) (.ref d) res)
   (λtH sq=>match tH with|.done f=>R (.ok f) sq|.again cq=>cq.quiet=true/\gY (aW prog w) A cq R sq) (λe sq=>R (.error e) sq) s:=by
 have qH:L0≠d:=λe=>by
  obtain⟨o,es,ho,hx,kJ,_⟩:=hm;rw[<-e,zl]at ho;cases ho
  cases kJ
 have wc:L0≠s.heap.objs.size:=bM (aT zl);have vU:d≠s.heap.objs.size:=bM hm.lt_size;have zw:L0∉[s.heap.objs.size,d]:=λinn=>by
  rcases aI.mp inn with e|e
  ·exact wc e
  ·exact qH (aq.mp e)
 have W:=(Walks.dictKeys (prog:=prog) (w:=w) (knd:=knd) (A:=A.in1) hh s.heap.objs.size d vU kvs ep).toS;have key:∀(h:cQ) (c₁ tq:Nat),h.IsKeyIter s.heap.objs.size d 0 kvs.length ep->h.DictAt knd d kvs ep->(∀b o,b≠L0->s.heap.get? b=cz o->h.get? b=cz o)->
   h.get? L0=cz {cls:=.type "list",data:=.seq #[] c₁}->gY (aW prog w) A (.builtin "list.extend.loop" ⟨[.ref L0,.ref s.heap.objs.size,res],[]⟩) R {s with heap:=h,toks:=tq}:=by
  intro h c₁ tq hit tx hk pK;refine codeAny_extend_loopS W kN L0 zw res kvs.length 0 _ #[] c₁ rfl (cE _) ⟨hit,tx⟩ pK (qB.nil _) λsq ac cq vw pJ lY=>?_
  rw[Moved.eq_with vw];refine kR sq.heap sq.toks ac cq (λb o nb e=>vw.heap b o (λinn=>?_) (hk b o nb e)) pJ lY;rcases aI.mp inn with e'|inn
  ·exact nb e'
  ·exact absurd (aT e) (by rw[aq.mp inn];exact dS _)
 unfold cR;refine af (pL (T:="dict") hm.dictOf.typeIs ?_);have h1:iw (.ref L0) (.ref d)=false:=by simp[iw,qH]
 have h2:(fL "dict" == fL "list")=false:=by decide
 have h3:(fL "dict" == fL "tuple")=false:=by decide
 simp only[h1,h2,h3,Bool.or_false,bz,dw];refine af (wpAny_pyIter_dict hd hm ?_);refine af (cZ (b1c ((hm.push _).dictOf.typeIs) ?_));have pK:=aF {cls:=.type "dict_keyiterator",data:=.fields #[.ref d,.int 0 0,.int kvs.length 0,.int ep 0]} zl;have lX:(s.heap.push {cls:=.type "dict_keyiterator",data:=.fields #[.ref d,.int 0 0,.int kvs.length 0,.int ep 0]}).IsKeyIter s.heap.objs.size d 0 kvs.length ep:=⟨_,bj _ rfl,rfl,rfl⟩;refine iz (λ_=>?_) (λ_=>aC ⟨lA km _,key _ c₀ _ lX (hm.push _) (λb o _ e=>aF _ e) pK⟩);refine af (iC ?_);refine af ?_;show aX _ _ (nN L0 (·.push .none) >>= λ_=>nN L0 (·.pop)) _ _ _;refine af (iy pK rfl ?_);have qM:=cJ (bY (·.push bx)) pK rfl;refine iy (hz:=by seq_fits) qM rfl ?_;have xH:=cJ (bY (·.pop)) qM rfl;have rest:∀b o,b≠L0->(s.heap.push {cls:=.type "dict_keyiterator",data:=.fields #[.ref d,.int 0 0,.int kvs.length 0,.int ep 0]}).get? b=cz o->(((s.heap.push {cls:=.type "dict_keyiterator",data:=.fields #[.ref d,.int 0 0,.int kvs.length 0,.int ep 0]}).update L0 (bY (·.push bx))).update L0 (bY (·.pop))).get? b=cz o:=λb o nb e=>(dF _ _ (cP nb)).trans ((dF _ _ (cP nb)).trans e)
 exact aC ⟨lA km _,key _ _ _ (lX.at λo e=>rest _ o (cP wc) e) ((hm.push _).at' λo e=>rest _ o (cP qH) e) (λb o nb e=>rest b o nb (aF _ e)) xH⟩
def b1e(hh:A.handled=xn)(hd:(d==du)=false)(hm:s.heap.DictAt knd d kvs ep)
  (kN:kvs.length<=a_) (L0:ax) (zl:s.heap.get? L0=cz {cls:=.type "list",data:=.seq #[]})
  (kR:∀g1 tq ac cq,(∀b o,b≠L0->s.heap.get? b=cz o->g1.get? b=cz o)->g1.get? L0=cz {cls:=.type "list",dict:=xn,data:=.seq ac cq,slots:=#[]}->
   qB (λi v=>∃k x,kvs[i]?=cz (k,x)/\knd.is k v=true) ac kvs.length->R (.ok (.ret .none)) {s with heap:=g1,toks:=tq}) :
  aX (aW prog w) A.in1 (Builtin.«list.__init__» ⟨[.ref L0,.ref d],[]⟩)
   (λtH sq=>match tH with|.done f=>R (.ok f) sq|.again cq=>cq.quiet=true/\gY (aW prog w) A cq R sq) (λe sq=>R (.error e) sq) s:=by
 have qH:L0≠d:=λe=>by
  obtain⟨o,es,ho,hx,kJ,_⟩:=hm;rw[<-e,zl]at ho;cases ho
  cases kJ
 show aX _ _ (do let old <-jd (.ref L0);BG (.ref L0) (λ_=>#[]);letGo old.toList.reverse;cR (.ref L0) (.ref d) .none) _ _ s;refine af ?_;unfold jd;refine af (uK zl rfl (aC ?_));show aX _ _ (nN L0 (λ_=>#[]) >>= λ_=>letGo (#[]:Array aj).toList.reverse >>= λ_=>cR (.ref L0) (.ref d) .none) _ _ s;refine af (iy zl rfl ?_);have qM:=cJ (bY (λ_=>(#[]:Array aj))) zl rfl;have rest:∀b o,b≠L0->s.heap.get? b=cz o->(s.heap.update L0 (bY (λ_=>(#[]:Array aj)))).get? b=cz o:=
  λb o nb e=>(dF _ _ (cP nb)).trans e
 refine af (rK ?_);refine b3o hh hd (hm.at' λo e=>rest d o (cP qH) e) kN L0 .none _ qM λg1 tq ac cq hk pJ lY=>?_
 exact kR g1 tq ac cq (λb o nb e=>hk b o nb (rest b o nb e)) pJ lY
def a3l(hh:A.handled=xn)(hd:(d==du)=false)(hm:s.heap.DictAt knd d kvs ep)
  (kN:kvs.length<=a_)
  (kQ:∀g1 tq ac cq,(∀b o,s.heap.get? b=cz o->g1.get? b=cz o)->
   g1.get? s.heap.objs.size=cz {cls:=.type "list",dict:=xn,data:=.seq ac cq,slots:=#[]}->qB (λi v=>∃k x,kvs[i]?=cz (k,x)/\knd.is k v=true) ac kvs.length->Q (.ref s.heap.objs.size) {s with heap:=g1,toks:=tq}) :
  aX (aW prog w) A (call (.type "list") [.ref d]) Q E s:=by
 refine callType_codes (Q₁:=λobj s₁=>obj=.ref s.heap.objs.size/\s₁={s with heap:=s.heap.push {cls:=.type "list",data:=.seq #[]}}) F.called_list (F.typeCall_list_1 _) F.entry_list_init
  (code_list_new _ ⟨rfl,rfl⟩) λobj s₁ h₁=>?_
 obtain⟨rfl,rfl⟩:=h₁;have zl:(s.heap.push {cls:=.type "list",data:=.seq #[]}).get? s.heap.objs.size=cz {cls:=.type "list",data:=.seq #[]}:=bj _ rfl;refine⟨⟨_,zl,rfl⟩,F.args_list_init_2 _ _,b1e (A:=A.in1) hh hd (hm.push _) kN _ zl λg1 tq ac cq hk pJ lY=>?_⟩;exact⟨rfl,kQ g1 tq ac cq (λb o e=>hk b o (bM (aT e)) (aF _ e)) pJ lY⟩
def b3p(hh:A.handled=xn)(hd:(d==du)=false)(hm:s.heap.DictAt knd d kvs ep)(hv:s.heap.IsValuesView v d)
  (kN:kvs.length<=a_) (L0:ax) (res:aj) (c₀:Nat) (zl:s.heap.get? L0=cz {cls:=.type "list",data:=.seq #[] c₀})
  (kR:∀g1 tq ac cq,(∀b o,b≠L0->s.heap.get? b=cz o->g1.get? b=cz o)->g1.get? L0=cz {cls:=.type "list",dict:=xn,data:=.seq ac cq,slots:=#[]}->
   qB (λi v=>∃k,kvs[i]?=cz (k,v)) ac kvs.length->R (.ok (.ret res)) {s with heap:=g1,toks:=tq}) :
  aX (aW prog w) A.in1 (cR (.ref L0) (.ref v) res)
   (λtH sq=>match tH with|.done f=>R (.ok f) sq|.again cq=>cq.quiet=true/\gY (aW prog w) A cq R sq) (λe sq=>R (.error e) sq) s:=by
 have qH:L0≠d:=λe=>by
  obtain⟨o,es,ho,hx,kJ,_⟩:=hm;rw[<-e,zl]at ho;cases ho
  cases kJ
 have zu:L0≠v:=λe=>by
  obtain⟨o,ho,hc,kJ⟩:=hv;rw[<-e,zl]at ho;cases ho
  cases kJ
 have wc:L0≠s.heap.objs.size:=bM (aT zl);have vU:d≠s.heap.objs.size:=bM hm.lt_size;have zw:L0∉[s.heap.objs.size,d]:=λinn=>by
  rcases aI.mp inn with e|e
  ·exact wc e
  ·exact qH (aq.mp e)
 have W:=(Walks.dictValues (prog:=prog) (w:=w) (knd:=knd) (A:=A.in1) hh s.heap.objs.size d vU kvs ep).toS;have key:∀(h:cQ) (c₁ tq:Nat),h.IsValIter s.heap.objs.size d 0 kvs.length ep->h.DictAt knd d kvs ep->(∀b o,b≠L0->s.heap.get? b=cz o->h.get? b=cz o)->
   h.get? L0=cz {cls:=.type "list",data:=.seq #[] c₁}->gY (aW prog w) A (.builtin "list.extend.loop" ⟨[.ref L0,.ref s.heap.objs.size,res],[]⟩) R {s with heap:=h,toks:=tq}:=by
  intro h c₁ tq hit tx hk pK;refine codeAny_extend_loopS W kN L0 zw res kvs.length 0 _ #[] c₁ rfl (cE _) ⟨hit,tx⟩ pK (qB.nil _) λsq ac cq vw pJ lY=>?_
  rw[Moved.eq_with vw];refine kR sq.heap sq.toks ac cq (λb o nb e=>vw.heap b o (λinn=>?_) (hk b o nb e)) pJ lY;rcases aI.mp inn with e'|inn
  ·exact nb e'
  ·exact absurd (aT e) (by rw[aq.mp inn];exact dS _)
 unfold cR;refine af (pL (T:="dict_values") hv.typeIs ?_);have h1:iw (.ref L0) (.ref v)=false:=by simp[iw,zu]
 have h2:(fL "dict_values" == fL "list")=false:=by decide
 have h3:(fL "dict_values" == fL "tuple")=false:=by decide
 simp only[h1,h2,h3,Bool.or_false,bz,dw];refine af (wpAny_pyIter_values hv hm ?_);refine af (cZ (b1d ((hv.push _).typeIs) ?_));have pK:=aF {cls:=.type "dict_valueiterator",data:=.fields #[.ref d,.int 0 0,.int kvs.length 0,.int ep 0]} zl;have lX:(s.heap.push {cls:=.type "dict_valueiterator",data:=.fields #[.ref d,.int 0 0,.int kvs.length 0,.int ep 0]}).IsValIter s.heap.objs.size d 0 kvs.length ep:=⟨_,bj _ rfl,rfl,rfl⟩;refine iz (λ_=>?_) (λ_=>aC ⟨lA km _,key _ c₀ _ lX (hm.push _) (λb o _ e=>aF _ e) pK⟩);refine af (iC ?_);refine af ?_;show aX _ _ (nN L0 (·.push .none) >>= λ_=>nN L0 (·.pop)) _ _ _;refine af (iy pK rfl ?_);have qM:=cJ (bY (·.push bx)) pK rfl;refine iy (hz:=by seq_fits) qM rfl ?_;have xH:=cJ (bY (·.pop)) qM rfl;have rest:∀b o,b≠L0->(s.heap.push {cls:=.type "dict_valueiterator",data:=.fields #[.ref d,.int 0 0,.int kvs.length 0,.int ep 0]}).get? b=cz o->(((s.heap.push {cls:=.type "dict_valueiterator",data:=.fields #[.ref d,.int 0 0,.int kvs.length 0,.int ep 0]}).update L0 (bY (·.push bx))).update L0 (bY (·.pop))).get? b=cz o:=λb o nb e=>(dF _ _ (cP nb)).trans ((dF _ _ (cP nb)).trans e)
 exact aC ⟨lA km _,key _ _ _ (lX.at λo e=>rest _ o (cP wc) e) ((hm.push _).at' λo e=>rest _ o (cP qH) e) (λb o nb e=>rest b o nb (aF _ e)) xH⟩
def b1f(hh:A.handled=xn)(hd:(d==du)=false)(hm:s.heap.DictAt knd d kvs ep)(hv:s.heap.IsValuesView v d)
  (kN:kvs.length<=a_) (L0:ax) (zl:s.heap.get? L0=cz {cls:=.type "list",data:=.seq #[]})
  (kR:∀g1 tq ac cq,(∀b o,b≠L0->s.heap.get? b=cz o->g1.get? b=cz o)->g1.get? L0=cz {cls:=.type "list",dict:=xn,data:=.seq ac cq,slots:=#[]}->
   qB (λi v=>∃k,kvs[i]?=cz (k,v)) ac kvs.length->R (.ok (.ret .none)) {s with heap:=g1,toks:=tq}) :
  aX (aW prog w) A.in1 (Builtin.«list.__init__» ⟨[.ref L0,.ref v],[]⟩)
   (λtH sq=>match tH with|.done f=>R (.ok f) sq|.again cq=>cq.quiet=true/\gY (aW prog w) A cq R sq) (λe sq=>R (.error e) sq) s:=by
 have qH:L0≠d:=λe=>by
  obtain⟨o,es,ho,hx,kJ,_⟩:=hm;rw[<-e,zl]at ho;cases ho
  cases kJ
 have zu:L0≠v:=λe=>by
  obtain⟨o,ho,hc,kJ⟩:=hv;rw[<-e,zl]at ho;cases ho
  cases kJ
 show aX _ _ (do let old <-jd (.ref L0);BG (.ref L0) (λ_=>#[]);letGo old.toList.reverse;cR (.ref L0) (.ref v) .none) _ _ s;refine af ?_;unfold jd;refine af (uK zl rfl (aC ?_));show aX _ _ (nN L0 (λ_=>#[]) >>= λ_=>letGo (#[]:Array aj).toList.reverse >>= λ_=>cR (.ref L0) (.ref v) .none) _ _ s;refine af (iy zl rfl ?_);have qM:=cJ (bY (λ_=>(#[]:Array aj))) zl rfl;have rest:∀b o,b≠L0->s.heap.get? b=cz o->(s.heap.update L0 (bY (λ_=>(#[]:Array aj)))).get? b=cz o:=
  λb o nb e=>(dF _ _ (cP nb)).trans e
 refine af (rK ?_);refine b3p hh hd (hm.at' λo e=>rest d o (cP qH) e) (hv.at λo e=>rest v o (cP zu) e) kN L0 .none _ qM λg1 tq ac cq hk pJ lY=>?_
 exact kR g1 tq ac cq (λb o nb e=>hk b o nb (rest b o nb e)) pJ lY
def a3m(hh:A.handled=xn)(hd:(d==du)=false)(hm:s.heap.DictAt knd d kvs ep)(hv:s.heap.IsValuesView v d)
  (kN:kvs.length<=a_)
  (kQ:∀g1 tq ac cq,(∀b o,s.heap.get? b=cz o->g1.get? b=cz o)->
   g1.get? s.heap.objs.size=cz {cls:=.type "list",dict:=xn,data:=.seq ac cq,slots:=#[]}->qB (λi v=>∃k,kvs[i]?=cz (k,v)) ac kvs.length->Q (.ref s.heap.objs.size) {s with heap:=g1,toks:=tq}) :
  aX (aW prog w) A (call (.type "list") [.ref v]) Q E s:=by
 refine callType_codes (Q₁:=λobj s₁=>obj=.ref s.heap.objs.size/\s₁={s with heap:=s.heap.push {cls:=.type "list",data:=.seq #[]}}) F.called_list (F.typeCall_list_1 _) F.entry_list_init
  (code_list_new _ ⟨rfl,rfl⟩) λobj s₁ h₁=>?_
 obtain⟨rfl,rfl⟩:=h₁;have zl:(s.heap.push {cls:=.type "list",data:=.seq #[]}).get? s.heap.objs.size=cz {cls:=.type "list",data:=.seq #[]}:=bj _ rfl;refine⟨⟨_,zl,rfl⟩,F.args_list_init_2 _ _,b1f (A:=A.in1) hh hd (hm.push _) (hv.push _) kN _ zl λg1 tq ac cq hk pJ lY=>?_⟩;exact⟨rfl,kQ g1 tq ac cq (λb o e=>hk b o (bM (aT e)) (aF _ e)) pJ lY⟩
end
end PySem
namespace VS
open PySem PySem.Spec L2
theorem a2E:∀{xs:List V} {us:List aj},xs.length=us.length->(∀(i:Nat) (x:V) (u:aj),xs[i]?=cz x->us[i]?=cz u->RelV x u)->Vals xs us
 |[],[],_,_=>.nil
 |[],_::_,h,_=>by simp at h
 |_::_,[],h,_=>by simp at h
 |x::xs,u::us,hl,h=>.cons (h 0 x u rfl rfl) (a2E (by simpa using hl) λi x u h1 h2=>h (i+1) x u (by simpa using h1) (by simpa using h2))
def J0(es:List (D×V×V)):Prop:=∀e∈es,∃n,e.1=.int n/\e.2.1=.int n
def EKv(e:D×V×V)(kv:Int×aj):Prop:=e.1=.int kv.1/\e.2.1=.int kv.1/\RelV e.2.2 kv.2
def b1g(h:fO T4 es l):J0 es->∃kvs:List (Int×aj),Pairs (gW P w) l kvs/\fO EKv es kvs:=by
 induction h with
 |nil=>exact λ_=>⟨[],.nil,.nil⟩
 |@cons e x es l r _ ih=>
  intro hk;obtain⟨kvs,h1,h2⟩:=ih λe he=>hk e (aw _ he)
  obtain⟨n,e1,e2⟩:=hk e aL;obtain⟨hh,n_,sP⟩:=r;rw[e2]at n_;obtain⟨t,ht⟩:=(show ∃t,x.key=jx n t from n_);exact⟨(n,x.val)::kvs,.cons (by rw[ht];simp[gW,jM]) rfl h1,.cons ⟨e1,e2,sP⟩ h2⟩
def b3q(h:fO EKv es kvs):es.map (·.1)=(kvs.map (·.1)).map aO:=by
 induction h with
 |nil=>rfl
 |cons r _ ih=>rw[ay,ay,ay,ih,r.1]
section
variable {X:Cx}{M:List Md}{a o:Expr}{fa:EvE}{ca:Cat}{pos p apos cM:fT}
def a0n(I:Inv X pins σ H s)(hH:H d=cz (g7 d es))(hk:J0 es) :
  ∃kvs ep,s.heap.DictAt (gW X.prog X.w) d kvs ep/\(d==du)=false/\es.length<=a_/\fO EKv es kvs:=by
 obtain⟨h0,hl,hn,o,ents,ep,h1,h2,h3,h4⟩:=y7 I hH;obtain⟨kvs,p1,p2⟩:=b1g (P:=X.prog) (w:=X.w) h4 hk;refine⟨kvs,ep,⟨o,ents,h1,h2,h3,λx hx=>?_,p1,?_⟩,h0,hl,p2⟩
 ·obtain⟨j,hj⟩:=df.mp (je.mpr hx);obtain⟨e,he,hh,n_,_⟩:=a1T h4 hj;obtain⟨n,e1,e2⟩:=hk e (bh he);rw[e2]at n_;obtain⟨t,ht⟩:=(show ∃t,x.key=jx n t from n_);exact⟨n,by rw[ht];simp[gW,jM],by rw[hh,e1];rfl⟩
 ·rw[b3q p2]at hn;exact List.Pairwise.of_map aO (λa b h e=>h (by rw[e])) hn
def a8q(hc:X.calm=true):CallR X (.type "list") (λxs H Q=>∃p es,xs=[.ref p]/\H p=cz (g7 p es)/\J0 es/\∀l,H l=xn->Q (.ref l) (upd H l (.lst (es.map (·.2.1))))):=by
 intro pins s σ H xs us Q I rv h;obtain⟨p,es,rfl,hH,hk,q⟩:=h;obtain⟨u,rfl,rx⟩:=vals1 rv;cases (show u=bL p from rx)
 obtain⟨kvs,ep,tE,h0,hl,hp⟩:=a0n I hH hk;have hlen:=gG hp;refine a3l (knd:=gW X.prog X.w) (I.ok.hd hc) h0 tE (by lia) λg1 tq ac cq keep ho lY=>?_
 refine⟨.ref s.heap.objs.size,_,I.laid (t':=tq) keep (az _) (show ObjOk X.prog X.w _ g1 _ (.lst (es.map (·.2.1))) from⟨by rw[ai];exact hl,ac.toList,cq,?_,by rw[wI];exact ho⟩),rfl,q _ (I.hok.fresh (az _))⟩;refine a2E (by rw[ai];have z1:=lY.1;have z2:ac.toList.length=ac.size:=aR;lia) λi x u h1 h2=>?_
 rw[bT]at h2;obtain⟨k,y,h3,h4⟩:=lY.2 i u h2;rw[aU]at h1;obtain⟨e,he,rfl⟩:=fq.mp h1;obtain⟨kv,g3,g4⟩:=L9 hp he;rw[h3]at g3;cases g3
 obtain⟨t,rfl⟩:=aj.isInt_shape h4;rw[g4.2.1];exact⟨t,rfl⟩
def a4L(v d:ax):HO:=.ext λh=>h.IsValuesView v d
def b1h{h':cQ}(h:h'.IsValuesView v d):ObjOk P w H' h' v (a4L v d):=
 ⟨h,let⟨o,ho,_⟩:=h;⟨o,ho⟩,λx1 x2 ⟨o,ho,r⟩ hk=>⟨o,hk _ ho,r⟩⟩
def b1i(ho:PE X o to)(fK:d_ o "values" X.env (cC o X.env)=cC o X.env:=by rfl)(fJ:(apos.endLine==cM.line)=true:=by rfl) :
  PE X (.Call (.Attribute o "values" apos) [] [] cM) (λσ H Q=>to σ H λx H1=>∃p es,x=.ref p/\H1 p=cz (g7 p es)/\J0 es/\∀l,H1 l=xn->Q (.ref l) (upd H1 l (a4L l p))):=by
 intro pins s σ H Q I h;refine wpAny_Call_method0_late fK fJ (L2.thn (ho pins s σ H _ I h) λv s1 ⟨x,H1,I1,r1,p,es,ex,hH,hk,q1⟩=>?_);subst ex;obtain rfl:v=bL p:=r1;obtain⟨kvs,ep,tE,h0,hl,hp⟩:=a0n I1 hH hk;refine⟨"dict","dict.values",so,rD,PySem.F.type_dict_values,o9 I1 hH,a0K I1 hH,mD rfl (PySem.evalArgs_none ?_)⟩;refine call_meetsIn rD (o9 I1 hH) PySem.F.entry_dict_values (PySem.F.args_dict_values_1 _) (meets_dict_values (gW X.prog X.w) p h0) ⟨⟨kvs,tE.dictOf⟩,?_⟩;exact⟨.ref s1.heap.objs.size,_,I1.laid (a:=s1.heap.objs.size) (o:=a4L s1.heap.objs.size p) (t':=s1.toks) (λ_ _ q=>aF _ q) (az _) (b1h ⟨_,bj _ rfl,rfl,rfl⟩),rfl,q1 _ (I1.hok.fresh (az _))⟩
def a8r(hc:X.calm=true):CallR X (.type "list") (λxs H Q=>∃v p es,xs=[.ref v]/\H v=cz (a4L v p)/\H p=cz (g7 p es)/\J0 es/\∀l,H l=xn->Q (.ref l) (upd H l (.lst (es.map (·.2.2))))):=by
 intro pins s σ H xs us Q I rv h;obtain⟨v,p,es,rfl,hV,hH,hk,q⟩:=h;obtain⟨u,rfl,rx⟩:=vals1 rv;cases (show u=bL v from rx)
 obtain⟨kvs,ep,tE,h0,hl,hp⟩:=a0n I hH hk;have CB:s.heap.IsValuesView v p:=(show ObjOk X.prog X.w H s.heap v (a4L v p) from I.hok v _ hV).1;have hlen:=gG hp;refine a3m (knd:=gW X.prog X.w) (I.ok.hd hc) h0 tE CB (by lia) λg1 tq ac cq keep ho lY=>?_
 refine⟨.ref s.heap.objs.size,_,I.laid (t':=tq) keep (az _) (show ObjOk X.prog X.w _ g1 _ (.lst (es.map (·.2.2))) from⟨by rw[ai];exact hl,ac.toList,cq,?_,by rw[wI];exact ho⟩),rfl,q _ (I.hok.fresh (az _))⟩;refine a2E (by rw[ai];have z1:=lY.1;have z2:ac.toList.length=ac.size:=aR;lia) λi x u h1 h2=>?_
 rw[bT]at h2;obtain⟨k,h3⟩:=lY.2 i u h2;rw[aU]at h1;obtain⟨e,he,rfl⟩:=fq.mp h1;obtain⟨kv,g3,g4⟩:=L9 hp he;rw[h3]at g3;cases g3
 exact g4.2.2
def intKeyed(h:DenKV K H es kvs)(hk:kvs.all (λp=>p7 false p.1)=true):J0 es:=λe he=>by
 have h1:e.1∈kvs.map (·.1):=by rw[<-h.keys];exact dg he
 obtain⟨kv,h2,h3⟩:=aJ.mp h1;obtain⟨n,hn⟩:=(K6 (eM.mp hk kv h2)).2.2.2 rfl;have hd:=h.kden e he;rw[<-h3,hn]at hd;exact⟨n,by rw[<-h3,hn],hd.int_inv⟩
theorem a0L:∀{es:List (D×V×V)},J0 es->DenAll K H (es.map (·.2.1)) (es.map (·.1))
 |[],_=>denAll_nil
 |e::es,h=>by
  obtain⟨n,e1,e2⟩:=h e aL;rw[ay,ay,e1,e2];exact denAll_cons den_int (a0L λe he=>h e (aw _ he))
theorem a0M:∀{es:List (D×V×V)},J0 es->c9 (es.map (·.1))=true
 |[],_=>by simp only[c_,c9]
 |e::es,h=>by
  obtain⟨n,e1,_⟩:=h e aL;simp only[ay,c9,e1,imm,a0M λe he=>h e (aw _ he),eO]
noncomputable def a5J(a:EvE):EvE:=λZ=>(a Z).bind λd=>match d with
 |.dict kvs=>if kvs.all (λp=>p7 false p.1) then cz (.list (kvs.map (·.1))) else xn
 |_=>xn
def b3r(hc:X.calm=true)(hm:X.mg "list"=xn)(ha:PX X M a fa ca)(hg:Gl X "list":=by rfl)(he:au [a] X.env=(false,cC a X.env)::au [] X.env:=by rfl)(gH:(cH pos (au [] X.env)).any (·.1)=false:=by rfl) :
  PX X M (.Call (.Name "list" p) [a] [] pos) (a5J fa) (.new (.l .i)):=by
 obtain⟨ta,pa,qa⟩:=ha.out;refine .mk ⟨_,X4 (a8q hc) hg hm PyProof.Rows.Boot.«list» (j8 pa o7 he) (by decide) (by decide) he gH,λZ σ H P F d Q S hf q=>?_⟩;obtain⟨x,h1,g1⟩:=bnd hf;cases x with
 |dict kvs=>
  by_cases c:kvs.all (λp=>p7 false p.1)=true
  ·have g2:(if kvs.all (λp=>p7 false p.1) then cz (cU (kvs.map (·.1))) else xn)=cz d:=g1;rw[aD c]at g2;cases g2
   refine qa Z σ H P F _ _ S h1 λv H1 e1 r1=>?_
   obtain⟨pp,es,rfl,k1,k2⟩:=r1.den.dict_inv;have hk:=intKeyed k2 c;refine⟨pp,es,rfl,k1,hk,λz hz=>q _ _ (e1.trans (k9 hz _)) ?_⟩;rw[<-k2.keys];exact Y1 (a0L hk) (a0M hk) e1 hz (S.lst' e1)
  ·have g2:(if kvs.all (λp=>p7 false p.1) then cz (cU (kvs.map (·.1))) else xn)=cz d:=g1;rw[aM c]at g2;cases g2
 |_=>cases g1
noncomputable def a5K(a:EvE):EvE:=λZ=>(a Z).bind λd=>match d with
 |.dict kvs=>if kvs.all (λp=>p7 false p.1)&&c9 (kvs.map (·.2)) then cz (.list (kvs.map (·.2))) else xn
 |_=>xn
def b3s(hc:X.calm=true)(hm:X.mg "list"=xn)(ha:PX X M a fa ca)(hg:Gl X "list":=by rfl)(fK:d_ a "values" X.env (cC a X.env)=cC a X.env:=by rfl)(fJ:(apos.endLine==cM.line)=true:=by rfl)
  (he:au [.Call (.Attribute a "values" apos) [] [] cM] X.env=(false,cC (.Call (.Attribute a "values" apos) [] [] cM) X.env)::au [] X.env:=by rfl) (gH:(cH pos (au [] X.env)).any (·.1)=false:=by rfl) :
  PX X M (.Call (.Name "list" p) [.Call (.Attribute a "values" apos) [] [] cM] [] pos) (a5K fa) (.new (.l .i)):=by
 obtain⟨ta,pa,qa⟩:=ha.out;refine .mk ⟨_,X4 (a8r hc) hg hm PyProof.Rows.Boot.«list» (j8 (b1i pa fK fJ) o7 he) (by decide) (by decide) he gH,λZ σ H P F d Q S hf q=>?_⟩;obtain⟨x,h1,g1⟩:=bnd hf;cases x with
 |dict kvs=>
  have g2:(if kvs.all (λp=>p7 false p.1)&&c9 (kvs.map (·.2)) then cz (cU (kvs.map (·.2))) else xn)=cz d:=g1;by_cases c:(kvs.all (λp=>p7 false p.1)&&c9 (kvs.map (·.2)))=true
  ·rw[aD c]at g2;cases g2
   rw[aB]at c;refine qa Z σ H P F _ _ S h1 λv H1 e1 r1=>?_
   obtain⟨pp,es,rfl,k1,k2⟩:=r1.den.dict_inv;have hk:=intKeyed k2 c.1;refine⟨pp,es,rfl,k1,hk,λy hy=>?_⟩;have e2:=k9 hy (a4L y pp);refine⟨y,pp,es,rfl,g8,e2 _ _ k1,hk,λz hz=>q _ _ ((e1.trans e2).trans (k9 hz _)) ?_⟩;exact Y1 (k2.vals.up e2) c.2 (e1.trans e2) hz (S.lst' (e1.trans e2))
  ·rw[aM c]at g2;cases g2
 |_=>cases g1
end
section
variable {R:V->D->List ax->Prop}
theorem a3n:∀{ds:List D} {xs:List V} {fs:List ax},ListAll R xs ds fs->∃fl:List (List ax),fs=fl.flatten/\fl.length=ds.length/\∀(j:Nat) (v:V) (d:D),xs[j]?=cz v->ds[j]?=cz d->R v d (fl.getD j [])
 |[],_,_,h=>by
  obtain⟨rfl,rfl⟩:=h.nil_inv;exact⟨[],rfl,rfl,λj v d h1=>by simp at h1⟩
 |d::ds,_,_,h=>by
  obtain⟨v,r,f,g,rfl,rfl,h1,h2⟩:=h.cons_inv;obtain⟨fl,rfl,h3,h4⟩:=a3n h2;refine⟨f::fl,rfl,by simp[h3],λj w e q1 q2=>?_⟩;cases j with
  |zero=>cases q1;cases q2;exact h1
  |succ j=>exact h4 j w e (by simpa using q1) (by simpa using q2)
theorem a1V:∀{gl:List (List ax)} {ds:List D} {xs:List V},xs.length=gl.length->ds.length=gl.length->(∀(j:Nat) (v:V) (d:D),xs[j]?=cz v->ds[j]?=cz d->R v d (gl.getD j []))->ListAll R xs ds gl.flatten
 |[],ds,xs,h1,h2,_=>by
  rw[ie.mp h1,ie.mp h2];exact p5
 |g::gl,[],xs,h1,h2,_=>by simp at h2
 |g::gl,d::ds,[],h1,h2,_=>by simp at h1
 |g::gl,d::ds,v::xs,h1,h2,h=>m7 (h 0 v d rfl rfl) (a1V (by simpa using h1) (by simpa using h2) λj w e q1 q2=>h (j+1) w e (by simpa using q1) (by simpa using q2))
end
def a3o(fl:List (List ax))(jl:List (Option Nat)):List (List ax):=jl.map λo=>match o with
 |some j=>fl.getD j []
 |none=>[]
theorem a6Q(b:ax):∀(fl:List (List ax)) (j:Nat),(fl.getD j []).count b+(fl.set j []).flatten.count b=fl.flatten.count b
 |[],j=>by simp
 |f::fl,0=>by simp
 |f::fl,j+1=>by
  have:=a6Q b fl j;simp only[dX,List.flatten_cons,bV,dQ];lia
theorem Y5(b:ax):∀(jl:List (Option Nat)) (fl:List (List ax)),(jl.filterMap id).Nodup->(a3o fl jl).flatten.count b<=fl.flatten.count b
 |[],fl,_=>by simp[a3o]
 |none::jl,fl,h=>by
  have:=Y5 b jl fl (by simpa using h);simpa[a3o]using this
 |some j::jl,fl,h=>by
  have h':(j::jl.filterMap id).Nodup:=by simpa using h
  obtain⟨h1,h2⟩:=bZ.mp h';have ih:=Y5 b jl (fl.set j []) h2;have e:a3o (fl.set j []) jl=a3o fl jl:=by
   refine bA λo ho=>?_
   cases o with
   |none=>rfl
   |some i=>
    have gL:j≠i:=λz=>h1 (dY.mpr ⟨cz i,ho,by rw[z];rfl⟩)
    show (fl.set j []).getD i []=fl.getD i [];rw[ab,ab,bu gL]
  rw[e]at ih;have h3:=a6Q b fl j;show (fl.getD j []++(a3o fl jl).flatten).count b<=_;rw[bV];lia
noncomputable def a5L(i:Nat)(fa:EvE):EvE:=λZ=>(fa Z).bind λd=>(asI d).bind λn=>match Z.getD i .none with
 |.dict kvs=>if 0<=n/\n<=1000000 then cz (.list ((j6 0 n.toNat).map λk=>(v5 kvs k).getD .none)) else xn
 |_=>xn
section
variable {X:Cx}{M:List Md}{a:Expr}{fa:EvE}{ca:Cat}{u:Ty}{pos apos cM p1 p2 p3 p4 rp:fT}
def E8(es:List (D×V×V))(k:D):Option Nat:=es.findIdx? λe=>aH e.1 k
def valAt(es:List (D×V×V))(k:D):V:=match E8 es k with
 |some j=>((es.map (·.2.2))[j]?).getD .non
 |none=>.non
def a4M(es:List (D×V×V))(ds:List D)(k:D):D:=match E8 es k with
 |some j=>(ds[j]?).getD .none
 |none=>.none
theorem a4N:∀{es:List (D×V×V)} {ds:List D} (k:D),ds.length=es.length->a4M es ds k=(v5 ((es.map (·.1)).zip ds) k).getD .none
 |[],ds,k,_=>by simp[a4M,E8,v5]
 |e::es,[],k,h=>by simp at h
 |e::es,d::ds,k,h=>by
  have ih:=a4N (es:=es) (ds:=ds) k (by simpa using h);unfold a4M E8 v5 at ih ⊢;rw[ay,dB,jr,List.findIdx?_cons];cases hq:aH e.1 k with
  |true=>rfl
  |false=>
   simp only[bz,dw]at ih ⊢;rw[<-ih];cases es.findIdx? λe=>aH e.1 k with
   |none=>rfl
   |some j=>rfl
def a3p:E8 es k=xn↔B5 es k=false:=by
 unfold E8 B5;rw[List.findIdx?_eq_none_iff,eD];exact⟨λh e he=>by rw[h e he];decide,λh e he=>by have:=h e he;cases hq:aH e.1 k with|true=>exact absurd hq this|false=>rfl⟩
def R9(h:E8 es k=cz j):∃e,es[j]?=cz e/\aH e.1 k=true:=by
 unfold E8 at h;obtain⟨h1,h2,_⟩:=List.findIdx?_eq_some_iff_getElem.mp h;exact⟨es[j],ae h1,h2⟩
def b1j{es:List (D×V×V)}{ds:List D}(oF:a5G u=true)(hl:ds.length=es.length)(hk:∀e∈es,keyOk false e.1)(hn:(es.map (·.1)).Nodup)(h:ListAll (Own K H F u) (es.map (·.2.2)) ds fs)(nr:fs.Nodup) :
  ∀(n:Nat),∃jG,ListAll (Own K H F u) ((j6 0 n).map (valAt es)) ((j6 0 n).map (a4M es ds)) jG/\jG.Nodup/\∀a∈jG,a∈fs:=λn=>by
 obtain⟨fl,rfl,h1,h2⟩:=a3n h;have pY:(((j6 0 n).map (E8 es)).filterMap id).Nodup:=by
  rw[zX];show ((j6 0 n).filterMap λk=>E8 es k).Nodup;unfold j6;rw[zX];refine List.Pairwise.filterMap _ (λk k' iU j hj j' nu e=>iU ?_) List.nodup_range;obtain⟨e1,q1,q2⟩:=R9 (show E8 es (.int (0+(k:Int)))=cz j from hj);obtain⟨e2,q3,q4⟩:=R9 (show E8 es (.int (0+(k':Int)))=cz j' from nu);subst e;rw[q1]at q3;cases q3
  have p_:=(hk e1 (bh q1)).1;have z1:=(D7 e1.1 (.int (0+(k:Int))) p_ rfl).mp q2;have z2:=(D7 e1.1 (.int (0+(k':Int))) p_ rfl).mp q4;rw[z1]at z2
  injection z2 with z2
  lia
 refine⟨(a3o fl ((j6 0 n).map (E8 es))).flatten,a1V (by simp[a3o]) (by simp[a3o]) λj v d q1 q2=>?_,?_,λa ha=>?_⟩
 ·rw[aU]at q1 q2;obtain⟨k,e1,rfl⟩:=fq.mp q1;rw[e1]at q2;cases q2
  have e3:(a3o fl ((j6 0 n).map (E8 es))).getD j []=match E8 es k with
   |some j=>fl.getD j []
   |none=>[]:=by
   unfold a3o;rw[ab,aU,aU,e1];rfl
  rw[e3];unfold valAt a4M;cases uk:E8 es k with
  |none=>exact a6I oF
  |some i=>
   obtain⟨e,he,_⟩:=R9 uk;have hi:=(aQ.mp he).1;have hd:ds[i]?=cz ds[i]:=ae (by lia);have hx:(es.map (·.2.2))[i]?=cz e.2.2:=by rw[aU,he];rfl
   have:=h2 i _ _ hx hd;show Own K H F u (((es.map (·.2.2))[i]?).getD .non) ((ds[i]?).getD .none) (fl.getD i []);rw[hx,hd];exact this
 ·exact V5 nr λb=>Y5 b _ _ pY
 ·have:=Y5 a ((j6 0 n).map (E8 es)) fl pY;exact fD.mp (bt (fD.mpr ha) this)
def b3t{es:List (D×V×V)}(hn:(es.map (·.1)).Nodup)(h:e∈es)(h0:e0∈es)(hk:e.1=e0.1):e=e0:=by
 induction es with
 |nil=>cases h
 |cons x es ih=>
  rw[ay,bZ]at hn;rcases aI.mp h with z|z<;>rcases aI.mp h0 with z'|z'
  ·rw[z,z']
  ·exact absurd (aJ.mpr ⟨e0,z',by rw[<-hk,z]⟩) hn.1
  ·exact absurd (aJ.mpr ⟨e,z,by rw[hk,z']⟩) hn.1
  ·exact ih hn.2 z z'
def a6R(X:Cx):TE:=λσ H Q=>∃v,σ[1]?=cz (cz v)/\(∃p es,v=.ref p/\H p=cz (g7 p es))/\∃w,σ[0]?=cz (cz w)/\b7G X v [w] H Q
def b6m(hu:X.A.units+64<dW)(Ej:X.N[0]?=cz y:=by rfl)(rO:Vis X.env.scope y:=by first|exact bO rfl|exact bN (bO rfl)|exact bN (bN rfl))(DQ:(y==("__debug__":bG))=false:=by decide)(DW:(y==("__classdict__":bG))=false:=by decide)
  (Ei:X.N[1]?=cz x:=by rfl) (ym:Vis X.env.scope x:=by first|exact bO rfl|exact bN (bO rfl)|exact bN (bN rfl)) (vV:(x==("__debug__":bG))=false:=by decide) (zk:(x==("__classdict__":bG))=false:=by decide)
  (fK:d_ (.Name x p1) "get" X.env (cC (.Name x p1) X.env)=cC (.Name x p1) X.env:=by rfl)
  (iM:((cH cM (au [.Name y p2] X.env)).all (λx=>!x.1)&&(e_ cM (dE [] X.env)).all (λx=>x.1.isSome)
   && decide (([.Name y p2]:List Expr).length+([]:List eP).length+(if ([]:List eP).isEmpty then 0 else 1)<30))=true:=by rfl)
  (fJ:(apos.endLine==cM.line)=true:=by rfl) (hs:au [.Name y p2] X.env=(false,cC (.Name y p2) X.env)::au [] X.env:=by rfl) (eJ:(cH cM (au [] X.env)).any (·.1)=false:=by rfl) :
  PE X (.Call (.Attribute (.Name x p1) "get" apos) [.Name y p2] [] cM) (a6R X):=by
 intro pins s σ H Q I h;refine a8m uF uE (b3d hu) (A0 Ei ym vV zk) (j8 (A0 Ej rO DQ DW) o7 hs) fK iM fJ hs eJ pins s σ H Q I ?_;obtain⟨v,h1,h2,w,h3,h4⟩:=h;exact⟨v,h1,h2,w,h3,h4⟩
def a9A:TT:=λ_ H Q=>Q true H
def b6n:PTs X' [] a9A:=a9l
def b1k(i:Nat)(hc:X.calm=true)(Dc:X.mg "range"=xn)(ha:PX X M a fa ca)(hg:∀cl Cl s H fp,PG (G8 X ([y]++[x]) scope cl Cl s H fp) (.Name y p3) (K0 0))(he:∀cl Cl s H fp,PE (G8 X ([y]++[x]) scope cl Cl s H fp) (.Call (.Attribute (.Name x p1) "get" apos) [.Name y p2] [] cM) (a6R (G8 X ([y]++[x]) scope cl Cl s H fp)))
  (hm:M[i]?=cz (.own (.d false u)):=by rfl) (oF:a5G u=true:=by rfl) (C:Q8 scope X.env.kindOf [x] [i] X.N=true:=by rfl) (DA:Gl X "range":=by rfl) (DM:au [a] X.env=[(false,cC a X.env)]:=by rfl) (za:au [a] X.env=(false,cC a X.env)::au [] X.env:=by rfl)
  (hs:∀x,eK (.Call (.Name "range" rp) [a] [] p4) X.env x=pure x:=by intro _;rfl) :
  PMX X M (.ListComp (.Call (.Attribute (.Name x p1) "get" apos) [.Name y p2] [] cM) [⟨.Name y p3,.Call (.Name "range" rp) [a] [] p4,[],0⟩] scope pos) (a5L i fa) (.l u) (M.set i .dead):=by
 have he:∀cl Cl s H fp,PE (G8 X ([y]++[x]) scope cl Cl s H fp) (.Call (.Attribute (.Name x p1) "get" apos) [.Name y p2] [] cM) (a6R X):=λcl Cl s0 H0 fp pins s σ H Q I h=>by
  refine he cl Cl s0 H0 fp pins s σ H Q I ?_;obtain⟨v,h1,h2,w,h3,p,es,kt,k,y,h4,h5,h6,⟨k1,k2,k3⟩,h7,h8⟩:=h;exact⟨v,h1,h2,w,h3,p,es,kt,k,y,h4,h5,h6,⟨k1,k2,k3⟩,h7,h8⟩
 obtain⟨wi,pi,qi⟩:=t7 (tg:=.Name y p3) (p:=rp) (pos:=p4) Dc ha DA DM za;refine⟨_,a6u (tn:=[y]) (ys:=[x]) (js:=[i]) (tt:=a9A) (te:=a6R X) hc pi C hg (λ_ _ _ _ _=>b6n) he hs,λMp Zp σp Z σ H P F d Q S hf k=>?_⟩;obtain⟨dn,h1,g1⟩:=bnd hf;obtain⟨n,h2,g2⟩:=bnd g1;cases H9 h2
 obtain⟨l1,l2,S0⟩:=S;cases hZ:Z.getD i .none with
 |dict kvs=>
  rw[hZ]at g2;have g3:(if 0<=n/\n<=1000000 then cz (cU ((j6 0 n.toNat).map λk=>(v5 kvs k).getD .none)) else xn)=cz d:=g2;by_cases c:0<=n/\n<=1000000
  ·rw[aD c]at g3;cases g3
   refine qi Z σ H P F (j6 0 n.toNat) _ (Pend.e ⟨l1,l2,S0⟩) (a4d h1 c.1 (by lia)) λJ xs Pr H1 e1 hw qT hx Dl hD=>?_
   have S1:=S0.grow e1;have zD:Dl∉F:=λz=>by obtain⟨zs,w⟩:=S1.lst Dl z;rw[hD]at w;cases w
   obtain⟨G,a1,a2,a3⟩:=S1.all;obtain⟨G1,G2,rfl,a4,a5⟩:=a1.splitAt l1 l2;obtain⟨dd,oo,f,pre,post,q1,q2,⟨v2,rfl,q3⟩,rfl,q5⟩:=a5.at_ hm;obtain⟨b,es,ds,fs,rfl,r2,r3,rfl,r5,r6,hl,hn⟩:=q3.dict;have tx:dd=.dict kvs:=by rw[<-hZ,A9 q1]
   rw[tx]at r3
   injection r3 with r3
   have AV:b≠Dl:=λz=>by rw[z,hD]at r2;cases r2
   have pR:∀(j:Nat) (x:V),xs[j]?=cz x->x=V.int (j:Int)/\(j6 0 n.toNat)[j]?=cz (aO (j:Int)):=λj x hj=>by
    obtain⟨dj,z1,z2⟩:=hx.getV hj;have z3:=z1;unfold j6 at z3;rw[aU]at z3;obtain⟨m,z4,z5⟩:=fq.mp z3;have xa:m=j:=by
     have iX:=(aQ.mp z4).1;rw[bH]at iX;rw[fQ iX]at z4;exact (aE z4).symm
    subst xa;have z6:aO (0+(m:Int))=dj:=z5;rw[Int.zero_add]at z6;subst z6;exact⟨z2.int_inv,z1⟩
   have oD:=hx.length;refine a4F (tt:=a9A) (te:=a6R X) (g:=K0 0) (R:=λH'=>Q (.ref Dl) H') hw (λj ys σ' H'=>(∃w,σ'=[w,cz (.ref b)])/\H'=upd H1 Dl (.lst ys)/\ys=((j6 0 n.toNat).take j).map (valAt es)/\ys.length<=j) ?_ ?_ ?_ ?_
   ·refine⟨⟨xn,?_⟩,rfl,rfl,az _⟩;show [xn]++[(σ[i]?).getD xn]=_;rw[q2];rfl
   ·rintro j ys σ' H' ⟨_,rfl,_⟩;refine qT _ (λz o hz=>?_);obtain⟨n1,n2⟩:=l7 hz;rw[b9 (λe=>by rw[e,hD]at n2;cases n2)];exact n2
   ·rintro j x ys σ' H' Cw ⟨⟨w,rfl⟩,rfl,uY,yg⟩;obtain⟨rfl,yz⟩:=pR j x Cw;have pI:=(aQ.mp yz).1;have Dv:(j6 0 n.toNat).length=n.toNat:=by simp[j6]
    have fin:∀v,v=valAt es (.int (j:Int))->(upd H1 Dl (.lst ys)) Dl=cz (.lst ys)/\ys.length<a_/\(∃w,[cz (V.int (j:Int)),cz (.ref b)]=[w,cz (.ref b)])/\upd (upd H1 Dl (.lst ys)) Dl (.lst (ys++[v]))=upd H1 Dl (.lst (ys++[v]))/\ys++[v]=((j6 0 n.toNat).take (j+1)).map (valAt es)/\(ys++[v]).length<=j+1:=λv hv=>by
     refine⟨g8,hJ (cV yg (by lia)) (show 1000000<a_ by rw[dt];decide),⟨_,rfl⟩,b5g ..,?_,by rw[aA];simp;lia⟩;rw[BD,yz,aK,<-uY,hv];rfl
    unfold K0 a9A;refine a5r ?_;refine⟨.ref b,rfl,⟨b,es,rfl,by rw[b9 AV];exact r2⟩,.int (j:Int),rfl,b,es,false,.int (j:Int),.int (j:Int),rfl,rfl,by rw[b9 AV];exact r2,⟨λe he=>⟨(r5 e he).1,?_⟩,K6 rfl,den_int⟩,λhf=>?_,λe he gA=>?_⟩
    ·exact ((r5 e he).2.up k6).up λz o hz=>by rw[b9 (λq=>by rw[q,hD]at hz;cases hz)];exact hz
    ·refine fin .non ?_;unfold valAt;rw[a3p.mpr hf]
    ·refine fin e.2.2 ?_;have heq:aH e.1 (.int (j:Int))=true:=(D7 e.1 _ (r5 e he).1.1 rfl).mpr gA;unfold valAt;cases uk:E8 es (.int (j:Int)) with
     |none=>
      have:=a3p.mp uk;unfold B5 at this;rw[eD]at this;exact absurd heq (this e he)
     |some i0=>
      obtain⟨e0,z1,z2⟩:=R9 uk;have z3:=(D7 e0.1 _ (r5 e0 (bh z1)).1.1 rfl).mp z2;have z4:=b3t hn he (bh z1) (gA.trans z3.symm);show _=((es.map (·.2.2))[i0]?).getD .non;rw[aU,z1,z4];rfl
   ·rintro ys σ' H' ⟨_,rfl,uY,_⟩;have uX:ys=(j6 0 n.toNat).map (valAt es):=by
     rw[uY,oD,ou]
    have tu:fs.Nodup:=by
     have:=(bC.mp (bC.mp (bC.mp a2).2.1).2.1).1;exact (bZ.mp this).2
    obtain⟨jG,w1,w2,w3⟩:=b1j oF hl (λe he=>(r5 e he).1) hn r6 tu n.toNat;have iN:Same (cut H1 F) (cut (upd H1 Dl (.lst ys)) (Dl::F)):=λz o hz=>by
     obtain⟨n1,n2⟩:=l7 hz;have Aq:z≠Dl:=λe=>by rw[e,hD]at n2;cases n2
     exact i4 (λq=>by rcases aI.mp q with q|q;exact Aq q;exact n1 q) (by rw[b9 Aq];exact n2)
    have keep:∀z∈F,upd H1 Dl (.lst ys) z=H1 z:=λz hz=>b9 λe=>zD (e▸hz)
    have FN:∀z∈G1++(pre++(b::fs++post)),z∈F:=a3;have vN:∀z∈fs,z∈F:=λz hz=>a3 z (by simp[hz])
    have own:Own X.K (upd H1 Dl (.lst ys)) (Dl::F) (.l u) (.ref Dl) (.list ((j6 0 n.toNat).map λk=>(v5 kvs k).getD .none)) (Dl::jG):=by
     simp only[Own];refine .inr ⟨Dl,ys,_,jG,rfl,g8,rfl,rfl,?_⟩;have hd:((j6 0 n.toNat).map λk=>(v5 kvs k).getD .none)=(j6 0 n.toNat).map (a4M es ds):=by
      refine bA λk _=>?_
      rw[a4N k hl,r3]
     rw[hd,uX];rw[uX]at iN keep;exact n6 iN w1 λz hz=>keep z (vN z (w3 z hz))
    have q:=q5 (upd H1 Dl (.lst ys)) (Dl::F) .dead dd (cz (.ref b)) [] (λz hz=>keep z (a3 z (by
     rcases ar.mp hz with y|y
     ·exact ah _ (ak _ y)
     ·exact ah _ (ah _ (ah _ y))))) iN rfl
    rw[set_same q1,set_same q2]at q;have qj:=(a4.frame iN λz hz=>keep z (a3 z (ak _ hz))).join (i5 (m:=.own (.l u)) (d:=.list ((j6 0 n.toNat).map λk=>(v5 kvs k).getD .none)) (o:=cz (.ref Dl)) (f:=Dl::jG) ⟨_,rfl,own⟩ q);refine k (.ref Dl) _ (Dl::F) (e1.trans (k9 hD _)) ⟨by simp[l1],by simp[l2],⟨⟨G1++(Dl::jG++(pre++([]++post))),by simpa using qj,?_,λz hz=>?_⟩,λz hz=>?_,S1.prot.trans iN⟩⟩
    ·refine eS.mpr λz=>?_
     have c1:=eS.mp a2 z;have c2:jG.count z<=fs.count z:=by
      by_cases hz:z∈jG
      ·have y1:=eS.mp w2 z;have y2:=fD.mpr (w3 z hz);lia
      ·rw[jP.mpr hz];lia
     by_cases hz:z=Dl
     ·subst hz;have y:(G1++(pre++(b::fs++post))).count z=0:=jP.mpr λy=>zD (a3 z y)
      simp only[bV,bE,gh,bK,EN,pG]at c1 y ⊢;lia
     ·have rN:(Dl==z)=false:=gN.mpr λe=>hz e.symm
      simp only[bV,bE,gh,bK,rN,bz,dw]at c1 ⊢;lia
    ·simp only[ar,aI,bE,bK]at hz ⊢;rcases hz with y|y|y|y|y
     ·exact .inr (a3 z (by simp[y]))
     ·exact .inl y
     ·exact .inr (vN z (w3 z y))
     ·exact .inr (a3 z (by simp[y]))
     ·exact .inr (a3 z (by simp[y]))
    ·by_cases e:z=Dl
     ·subst e;exact⟨⟨.lst ys,trivial⟩,g8⟩
     ·rcases aI.mp hz with y|y
      ·exact absurd y e
      ·obtain⟨zs,w⟩:=S1.lst z y;exact⟨zs,by rw[b9 e];exact w⟩
  ·rw[aM c]at g3;cases g3
 |_=>rw[hZ]at g2;cases g2
end
noncomputable def spO(K:ag)(m:List D->Option D)(w u:Ty):Sp:=λvs H Q _=>∃v0 d0 vl dl d mi,vs=[v0,vl]/\Den K (cut H mi) v0 d0/\Own K H mi w vl dl mi/\mi.Nodup/\m [d0,dl]=cz d/\∀v H' fp,Same (cut H mi) H'->Own K H' fp u v d fp->fp.Nodup->(∀a∈fp,cut H mi a=xn)->Q v H'
noncomputable def fnO(n:Nat)(g:EvS):List D->Option D:=λds=>match ds with
 |[d0,dl]=>(g (d0::dl::aG n .none)).bind λo=>match o with
  |.rt d=>cz d
  |_=>xn
 |_=>xn
theorem a3q:∀n,StAll K H F (aG n .dead) (aG n .none) (aG n xn) []
 |0=>L5
 |n+1=>by
  have:=i5 (m:=.dead) (d:=.none) (o:=xn) (f:=[]) (K:=K) (H:=H) (F:=F) rfl (a3q n);simpa[gQ]using this
open PyProof.Rows in
def b3u{P:bD}{w:cm}{K:ag}{mg:bG->Option aj}{base:cQ}{x:bG}{st:iq}{f:ax}{fd:dP}{N ps:List bG}{k n:Nat}{wt u:Ty}{g:EvS}{M':List Md}(F:Fun K x x st f fd)(S:FnScope N ps (f6 st))(ui:ps.length=2)(hn:N.length=2+n)
  (hb:∀(fW:aj) (A:bP) (outer:List nL) (s:av) (H:Hp) (E:XK),Room k (A.deeper (iB x (f6 st) s.heap.objs.size f fW))->PSsX (Z0 CX0 P w K mg base N x (f6 st) f fW A outer s H E).nox u [] (.own .f::.own wt::aG n .dead) (r9 st) g M') :
  FnOk P w K mg base CX0 (k+1) f fd ps (spO K (fnO n g) wt u):=by
 refine F.ok S (λvs H Q E h=>?_) (λfW A outer s H vs Q E hr h=>?_)
 ·obtain⟨v0,d0,vl,dl,d,mi,rfl,_⟩:=h;exact ui.symm
 obtain⟨v0,d0,vl,dl,d,mi,rfl,hd,ho,nr,hm,q⟩:=h;obtain⟨t,p,r⟩:=(hb fW A outer s H E hr).out;refine⟨t,p,?_⟩;obtain⟨o,h1,h2⟩:=bnd (show (g (d0::dl::aG n .none)).bind _=cz d from hm);cases o with
 |rt d'=>
  have kE:cz d'=cz d:=h2;cases kE
  have e:L2.start N [v0,vl]=cz v0::cz vl::aG n xn:=by
   unfold L2.start;rw[show N.length-[v0,vl].length=n by simp;lia];rfl
  rw[e];have nY:StAll K H mi (.own .f::.own wt::aG n .dead) (d0::dl::aG n .none) (cz v0::cz vl::aG n xn) ([]++(mi++[])):=by
   refine i5 (m:=.own .f) ⟨v0,rfl,?_⟩ (i5 (m:=.own wt) ⟨vl,rfl,ho⟩ (a3q n));simp only[Own];exact⟨trivial,hd⟩
  refine r _ _ _ H (cut H mi) mi (.rt d) ⟨⟨_,nY,by simpa using nr,λa ha=>by simpa using ha⟩,ho.lst wt,Same.refl _⟩ h1 ?_;exact λv H' fp o nd fr e=>q v H' fp e o nd fr
 |_=>cases h2
section
variable {X:Cx}{M:List Md}{e0 el:Expr}{f0 fl:EvE}{c0:Cat}{wt u:Ty}{x:bG}{p pos:fT}
noncomputable def b6o(m:List D->Option D)(f0 fl:EvE):EvE:=λZ=>(f0 Z).bind λa=>(fl Z).bind λb=>m [a,b]
end
def frz:Md->Md
 |.own .i=>.own .i
 |.own _=>.own .f
 |m=>m
section
variable {K:ag}{M:List Md}{Z:List D}{σ:L2.St}{H P:Hp}{F:List ax}{i j:Nat}{t:Ty}{ds es:List D}
def StR.extendL(gL:i≠j)(h:StR K M Z σ H P F)(hi:M[i]?=cz (.own (.l t)))(hj:M[j]?=cz (.own (.l t)))(AZ:Z.getD i .none=.list ds)(AY:Z.getD j .none=.list es) :
  ∃a b xs zs,σ[i]?=cz (cz (.ref a))/\σ[j]?=cz (cz (.ref b))/\H a=cz (.lst xs)/\H b=cz (.lst zs)/\xs.length=ds.length/\zs.length=es.length/\StR K (M.set j .dead) (Z.set i (.list (ds++es))) σ (upd H a (.lst (xs++zs))) P F/\Den K (upd H a (.lst (xs++zs))) (.ref b) (.list es):=by
 obtain⟨G,h1,h2,h3⟩:=h.all;obtain⟨dj,oj,fj,qO,oz,Bs,xx,⟨vj,rfl,Oj⟩,zK,Ey⟩:=h1.at_ hj;rw[A9 Bs]at AY;subst AY;simp only[Own]at Oj;rcases Oj with⟨_,lN,_⟩|⟨b,zs,jH,gs,rfl,uz,lP,rfl,Bb⟩
 ·simp only[imm]at lN;cases lN
 cases lP
 rw[zK]at h2;have q1:=Ey H F .dead (.list es) (cz (.ref b)) [] (λ_ _=>rfl) (Same.refl _) rfl;rw[set_same Bs,set_same xx]at q1;have xa:(M.set j .dead)[i]?=cz (.own (.l t)):=by rw[bu (cP gL)];exact hi
 obtain⟨di,oi,f1,pO,nj,EB,xy,⟨vi,rfl,Oi⟩,EA,Ez⟩:=q1.at_ xa;rw[A9 EB]at AZ;subst AZ;simp only[Own]at Oi;rcases Oi with⟨_,lN,_⟩|⟨a,xs,jT,fi,rfl,sd,kc,rfl,Bc⟩
 ·simp only[imm]at lN;cases lN
 cases kc
 have rq:qO++oz=pO++((a::fi)++nj):=by simpa using EA
 have apart:=a1g h2;have iW:∀x∈qO++oz,x∈F:=λx hx=>h3 x (by rw[zK];exact mem_mid hx)
 have tF:a∈qO++oz:=by rw[rq];simp
 have rd:a≠b:=λz=>apart b aL (by rw[<-z];exact tF)
 have wb:a∈F:=iW a tF;have qZ:Same (cut H F) (cut (upd H a (.lst (xs++zs))) F):=λc o' xj=>by
  obtain⟨r1,r2⟩:=l7 xj;have ne:c≠a:=λz=>r1 (by rw[z];exact wb)
  exact i4 r1 (by rw[b9 ne];exact r2)
 have vp:(pO++((a::fi)++nj)).Nodup:=by rw[<-rq];exact P4 h2
 have v_:a∉fi++nj:=by
  have:=(bC.mp vp).2.1;rw[bE,bZ]at this;exact this.1
 have vZ:a∉pO:=λz=>(bC.mp vp).2.2 a z a (by simp) rfl
 have zq:a∉gs:=λz=>apart a (aw _ z) tF
 have LB:ListAll (Own K (upd H a (.lst (xs++zs))) F t) zs es gs:=Bb.imp λv d f hf _ q=>q.frame qZ t λx hx=>b9 λz=>zq (by rw[<-z];exact hf x hx)
 have LA:ListAll (Own K (upd H a (.lst (xs++zs))) F t) xs ds fi:=Bc.imp λv d f hf _ q=>q.frame qZ t λx hx=>b9 λz=>v_ (ak _ (by rw[<-z];exact hf x hx))
 have own:Own K (upd H a (.lst (xs++zs))) F (.l t) (.ref a) (.list (ds++es)) (a::(fi++gs)):=by
  simp only[Own];exact .inr ⟨a,xs++zs,ds++es,fi++gs,rfl,g8,rfl,rfl,LA.append LB⟩
 have q2:=Ez _ _ (.own (.l t)) (.list (ds++es)) (cz (.ref a)) (a::(fi++gs)) (λx hx=>b9 λz=>by
  rcases ar.mp hx with y|y
  ·exact vZ (by rw[<-z];exact y)
  ·exact v_ (ah _ (by rw[<-z];exact y))) qZ ⟨_,rfl,own⟩
 rw[set_same xa,set_same xy]at q2;have og:∀x,(qO++oz).count x=(pO++((a::fi)++nj)).count x:=λx=>by rw[rq]
 refine⟨a,b,xs,zs,xy,xx,sd,uz,Bc.length,Bb.length,⟨⟨_,q2,V5 h2 λx=>?_,λx hx=>?_⟩,λx hx=>?_,h.prot.trans qZ⟩,den_list (.inl (.inl (by rw[b9 (cP rd)];exact uz))) (ListAll.den (λv d f q=>q.den) LB)⟩
 ·have:=og x;simp only[bV,bE,gh]at this ⊢;lia
 ·have va:x∈pO++((a::fi)++nj)∨x∈gs:=by
   simp only[ar,aI,bE]at hx ⊢;rcases hx with z|z|(z|z)|z
   ·exact .inl (.inl z)
   ·exact .inl (.inr (.inl z))
   ·exact .inl (.inr (.inr (.inl z)))
   ·exact .inr z
   ·exact .inl (.inr (.inr (.inr z)))
  rcases va with z|z
  ·exact iW x (by rw[rq];exact z)
  ·exact h3 x (by rw[zK];simp[z])
 ·by_cases z:x=a
  ·exact⟨⟨.lst (xs++zs),trivial⟩,by rw[z,g8]⟩
  ·rw[b9 z];exact h.lst x hx
end
noncomputable def a1W(i j:Nat):EvS:=λZ=>match Z.getD i .none,Z.getD j .none with
 |.list ds,.list es=>if ds.length+es.length<=1000000 then cz (.nx (Z.set i (.list (ds++es)))) else xn
 |_,_=>xn
section
variable {X:Cx}{M M1 ML:List Md}{w t:Ty}{e iter:Expr}{f:EvE}{fi:EvA}{x y z:bG}{px py pz pm pos lV uR apos cM:fT}
def b6p(i j jm:Nat)(gL:i≠j)(xb:j≠jm)(Dy:i≠jm)(hM:M=(M1.set j .dead).set jm .dead)(hc:X.calm=true)(hp:nS (aW X.prog X.w) X.A X.env X.xe)(xp:X.N.Nodup)(hi:PIX X M1 (.Name z pm) iter fi)(hL:PXL X M j e f (.new (.l t)))
  (vz:M1[i]?=cz (.own (.l t)):=by rfl) (uj:M1[j]?=cz (.own (.l t)):=by rfl) (w_:M1[jm]?=cz mm:=by rfl) (xo:X.N[i]?=cz x:=by rfl) (xm:X.N[j]?=cz y:=by rfl) (Eh:X.N[jm]?=cz z:=by rfl)
  (sO:Vis X.env.scope x:=by first|exact bO rfl|exact bN (bO rfl)|exact bN (bN rfl)) (oY:(x==("__debug__":bG))=false:=by decide) (zh:(x==("__classdict__":bG))=false:=by decide)
  (yl:Vis X.env.scope y:=by first|exact bO rfl|exact bN (bO rfl)|exact bN (bN rfl)) (zd:(y==("__debug__":bG))=false:=by decide) (zg:(y==("__classdict__":bG))=false:=by decide)
  (Dk:Loc X.env.scope y:=by first|exact bO rfl|exact bN rfl) (xg:X.fn y=true∨X.env.scope.names.lookup y=cz .local:=by first|exact .inl rfl|exact .inr rfl)
  (Di:Loc X.env.scope z:=by first|exact bO rfl|exact bN rfl) (DH:X.fn z=true∨X.env.scope.names.lookup z=cz .local:=by first|exact .inl rfl|exact .inr rfl)
  (fK:d_ (.Name x px) "extend" X.env (cC (.Name x px) X.env)=cC (.Name x px) X.env:=by rfl)
  (iM:((cH cM (au [.Name y py] X.env)).all (λx=>!x.1)&&(e_ cM (dE [] X.env)).all (λx=>x.1.isSome)
   && decide (([.Name y py]:List Expr).length+([]:List eP).length+(if ([]:List eP).isEmpty then 0 else 1)<30))=true:=by rfl)
  (fJ:(apos.endLine==cM.line)=true:=by rfl) (hs:au [.Name y py] X.env=(false,cC (.Name y py) X.env)::au [] X.env:=by rfl) (eJ:(cH cM (au [] X.env)).any (·.1)=false:=by rfl)
  (oR:eU (.Call (.Attribute (.Name x px) "extend" apos) [.Name y py] [] cM) xn uR.line X.env=pure false:=by rfl) (sQ:eU e (cz (.Name y pz)) lV.line X.env=pure false:=by rfl)
  (hf:∀x,eK iter X.env x=pure x:=by intro _;rfl) :
  PSX X w ML M1 (.For (.Name z pm) iter [.Assign [.Name y pz] e lV,.Expr (.Call (.Attribute (.Name x px) "extend" apos) [.Name y py] [] cM) uR] [] pos) (y6 fi (o8 jm) (e7 (g9 j f) (a1W i j))) M:=by
 obtain⟨wi,pi,qi⟩:=hi;obtain⟨te,pe,qe⟩:=hL;have lm:jm<M1.length:=(aQ.mp w_).1;have lj:j<M1.length:=(aQ.mp uj).1;have Ek:M[i]?=cz (.own (.l t)):=by rw[hM,bu (cP Dy),bu (cP gL)];exact vz
 have zy:M[j]?=cz .dead:=by rw[hM,bu (cP xb),dC lj]
 have Ba:M[jm]?=cz .dead:=by rw[hM,dC (by rw[gg];exact lm)]
 refine .mk ⟨_,a7K hp hc pi (n5 xp Eh Di DH) (a0z (a5k xp xm Dk pe sQ xg) (a9h (Q6 (a4s eV rC rB a4t (A0 xo sO oY zh) (j8 (A0 xm yl zd zg) o7 hs) fK iM fJ hs eJ) oR))) hf,λE Z σ H P F o S qY k=>?_⟩;obtain⟨ds,h1,g1⟩:=bnd qY;refine qi Z σ H P F ds _ S.toE h1 λJ xs Pr H1 e1 hw qT hx=>?_
 have S1:=S.grow e1;have oD:=hx.length;obtain⟨v0,f0,rO,o0,_⟩:=S1.toE.get uj;have S0:StR X.K M Z σ H1 P F:=by
  rw[hM];exact (S1.dead uj).dead (m:=mm) (by rw[bu xb];exact w_)
 refine⟨λn m σ' H'=>m=xs.length-n/\n<=xs.length/\∃Z' F' v,StR X.K M Z' σ' H' (cut H1 F) F'/\σ'[j]?=cz (cz v)/\Den X.K H' v (Z'.getD j .none)/\U2 (o8 jm) (e7 (g9 j f) (a1W i j)) (ds.drop n) Z'=cz o,⟨xs.length,by simp,cE _,Z,F,v0,⟨S0.all,S0.lst,Same.refl _⟩,rO,o0.den,g1⟩,?_⟩;rintro n m σ' H' ⟨rfl,hn,Z',F',v,S',hv,kT,hfl⟩;have q:=qT H' (S'.prot.trans k6);by_cases iX:n<xs.length
 ·refine .inr ⟨hw.go n H' q iX,λσ2 H2=>∃Z2 F2 v2,StR X.K M Z2 σ2 H2 (cut H1 F) F2/\σ2[j]?=cz (cz v2)/\Den X.K H2 v2 (Z2.getD j .none)/\U2 (o8 jm) (e7 (g9 j f) (a1W i j)) (ds.drop (n+1)) Z2=cz o,λσ2 H2 zz=>⟨xs.length-(n+1),by lia,rfl,iX,zz⟩,λvx H2 hy=>?_⟩;obtain⟨rfl,pR⟩:=hw.yld n H' vx H2 q iX hy;have mT:n<ds.length:=by lia
  rw[dO mT]at hfl;obtain⟨Z1,ue,g2⟩:=bnd (show (o8 jm Z' ds[n]).bind _=cz o from hfl);cases ue
  obtain⟨o1,hg1,g3⟩:=bnd g2;obtain⟨oa,Ec,Eb⟩:=bnd (show (g9 j f (Z'.set jm ds[n])).bind _=cz o1 from hg1);obtain⟨dy,vM,CQ⟩:=bnd (show (f (Z'.set jm ds[n])).bind (λd=>cz (Out.nx ((Z'.set jm ds[n]).set j d)))=cz oa from Ec);cases CQ
  have S2:=S'.kill Ba ds[n] (cz vx);rw[set_same Ba]at S2;have uc:(σ'.set jm (cz vx))[j]?=cz (cz v):=by rw[bu (cP xb)];exact hv
  have hd2:(Z'.set jm ds[n]).getD j .none=Z'.getD j .none:=by rw[ab,bu (cP xb),ab]
  refine qe _ (σ'.set jm (cz vx)) H2 (cut H1 F) F' dy v _ S2.toE uc (by rw[hd2];exact kT) vM λvy H3 e3 ⟨fp,o3,n3,f3⟩=>?_
  have S3:=S2.set zy e3 o3 n3 f3;have zA:(M.set j (.own (.l t)))[i]?=cz (.own (.l t)):=by rw[bu (cP gL)];exact Ek
  have zx:(M.set j (.own (.l t)))[j]?=cz (.own (.l t)):=dC (aQ.mp zy).1;have y_:∃es fs,((Z'.set jm ds[n]).set j dy).getD i .none=.list es/\((Z'.set jm ds[n]).set j dy).getD j .none=.list fs/\es.length+fs.length<=1000000/\o1=.nx (((Z'.set jm ds[n]).set j dy).set i (.list (es++fs))):=by
   have o_:a1W i j ((Z'.set jm ds[n]).set j dy)=cz o1:=Eb;unfold a1W at o_;generalize ((Z'.set jm ds[n]).set j dy).getD i .none=d1 at o_;generalize ((Z'.set jm ds[n]).set j dy).getD j .none=d2 at o_;cases d1 with
   |list es=>
    cases d2 with
    |list fs=>
     have h':(if es.length+fs.length<=1000000 then cz (Out.nx (((Z'.set jm ds[n]).set j dy).set i (.list (es++fs)))) else xn)=cz o1:=o_;by_cases cc:es.length+fs.length<=1000000
     ·rw[aD cc]at h';exact⟨es,fs,rfl,rfl,cc,(aE h').symm⟩
     ·rw[aM cc]at h';cases h'
    |_=>cases o_
   |_=>cases o_
  obtain⟨es,fs,DK,tu,kN,rfl⟩:=y_;obtain⟨a,b,tR,wJ,sJ,qQ,sd,uz,l1,l2,S4,D4⟩:=S3.extendL gL zA zx DK tu;have hz:a_=16777216:=dt;refine⟨.ref a,sJ,.inl ⟨rfl,tR,SqL.of sd⟩,.ref b,qQ,a,b,tR,wJ,rfl,rfl,sd,uz,by lia,?_⟩;rw[List.set_set,set_same zy]at S4;refine⟨_,_,.ref b,S4,qQ,?_,g3⟩;rw[ab,bu gL,<-ab,tu];exact D4
 ·have e:n=xs.length:=by lia
  subst e;rw[oD,iT]at hfl;have:o=.nx Z':=(aE hfl).symm;subst this;exact .inl ⟨hw.stop _ H' q (az _),k σ' H' F' ⟨S'.all,S'.lst,S0.prot.trans S'.prot⟩⟩
end
noncomputable def a6S(i:Nat)(f:EvE):EvS:=λZ=>(f Z).bind λd=>match d,Z.getD i .none with
 |.list es,.list ds=>if ds.length+es.length<=1000000 then cz (.nx (Z.set i (.list (ds++es)))) else xn
 |_,_=>xn
section
variable {X:Cx}{t w:Ty}{ML M:List Md}{e:Expr}{f:EvE}{pos apos cM:fT}{x:bG}{px:fT}
def b6q(i:Nat)(he:PX X M e f (.new (.l t)))(hm:M[i]?=cz (.own (.l t)):=by rfl)(hN:X.N[i]?=cz x:=by rfl)(hv:Vis X.env.scope x:=by first|exact bO rfl|exact bN (bO rfl)|exact bN (bN rfl))(hd:(x==("__debug__":bG))=false:=by decide)
  (iE:(x==("__classdict__":bG))=false:=by decide)
  (fK:d_ (.Name x px) "extend" X.env (cC (.Name x px) X.env)=cC (.Name x px) X.env:=by rfl)
  (iM:((cH cM (au [e] X.env)).all (λx=>!x.1)&&(e_ cM (dE [] X.env)).all (λx=>x.1.isSome)
   && decide ([e].length+([]:List eP).length+(if ([]:List eP).isEmpty then 0 else 1)<30))=true:=by rfl)
  (fJ:(apos.endLine==cM.line)=true:=by rfl) (hs:au [e] X.env=(false,cC e X.env)::au [] X.env:=by rfl) (eJ:(cH cM (au [] X.env)).any (·.1)=false:=by rfl)
  (oR:eU (.Call (.Attribute (.Name x px) "extend" apos) [e] [] cM) xn pos.line X.env=pure false:=by rfl) :
  PSX X w ML M (.Expr (.Call (.Attribute (.Name x px) "extend" apos) [e] [] cM) pos) (a6S i f) M:=by
 obtain⟨te,pe,qe⟩:=he.out;refine .mk ⟨_,Q6 (a4s eV rC rB a4t (A0 hN hv hd iE) (j8 pe o7 hs) fK iM fJ hs eJ) oR,λD Z σ H P F o S hg k=>?_⟩;obtain⟨d,h3,g3⟩:=bnd hg;have hl:∃es ds,d=.list es/\Z.getD i .none=.list ds/\ds.length+es.length<=1000000/\o=.nx (Z.set i (.list (ds++es))):=by
  cases d with
  |list es=>
   cases hr:Z.getD i iH with
   |list ds=>
    rw[hr]at g3;have xt:(if ds.length+es.length<=1000000 then cz (Out.nx (Z.set i (.list (ds++es)))) else xn)=cz o:=g3;by_cases c:ds.length+es.length<=1000000
    ·rw[aD c]at xt;exact⟨es,ds,rfl,rfl,c,(aE xt).symm⟩
    ·rw[aM c]at xt;cases xt
   |_=>rw[hr]at g3;cases g3
  |_=>cases g3
 obtain⟨es,ds,rfl,hr,hz,rfl⟩:=hl;obtain⟨v0,f0,e0,o0,BS⟩:=S.toE.get hm;rw[hr]at o0;simp only[Own]at o0;rcases o0 with⟨_,hi,_⟩|⟨b,xs,jT,fs,rfl,hH,kc,rfl,hL⟩
 ·simp only[imm]at hi;cases hi
 cases kc
 refine⟨.ref b,e0,.inl ⟨rfl,xs,SqL.of hH⟩,qe Z σ H P F _ _ S.toE h3 λv1 H1 e1 ⟨fp,o1,nd,fr⟩=>?_⟩;obtain⟨_,_,S1⟩:=S.pend.new e1 o1 nd fr;have ER:StR X.K (.own (.l t)::M) (.list es::Z) (cz v1::σ) H1 P (fp++F):=S1;obtain⟨a,b',tR,wJ,sJ,qQ,sd,uz,l1,l2,S4,_⟩:=ER.extendL (i:=i+1) (j:=0) (by lia) (by simpa using hm) rfl (by simpa using hr) rfl;have ea:b=a:=by
  have:(cz (cz (V.ref b)):Option (Option V))=cz (cz (.ref a)):=by rw[<-e0];simpa using sJ
  cases this;rfl
 subst ea;cases (show (cz (cz v1):Option (Option V))=cz (cz (.ref b')) from qQ)
 have u_:tR=xs:=by rw[e1 _ _ hH]at sd;cases sd;rfl
 subst u_;have kN:a_=16777216:=dt;refine⟨b,b',tR,wJ,rfl,rfl,sd,uz,by lia,k σ _ (fp++F) ?_⟩;obtain⟨G,q1,q2,q3⟩:=S4.all;have Af:StAll X.K (upd H1 b (.lst (tR++wJ))) (fp++F) (.dead::M) (.list es::Z.set i (.list (ds++es))) (cz (.ref b')::σ) G:=q1;simp only[StAll]at Af;obtain⟨d,Z',o',σ',f',g',z1,z2,rfl,z4,z5⟩:=Af;cases z1
 cases z2
 have BI:f'=[]:=z4;subst BI;exact⟨⟨g',z5,by simpa using q2,λa ha=>q3 a (by simpa using ha)⟩,S4.lst,S4.prot⟩
end
end VS
namespace VS
open PySem PySem.Spec L2
open PyProof.Rows (KeyOrd mirror bubble getElem?_mirror_all getElem?_bubble mirror_perm bubble_perm)
open PySem.W (KasT kas_asc kas_desc kas_rev kas_tail3 kas_descPart kas_count kas_place kas_bin kas_sort)
section
variable {O:KeyOrd}{key:Nat->O.α}{N:Nat}{sh:av}{cmp:Nat->Nat->(Bool->av->Prop)->av->Prop}
def kyP(key:Nat->O.α)(p:Array Nat)(i:Nat):O.α:=key (p.getD i 0)
def b1l(key:Nat->O.α)(p:Array Nat)(k:Nat):Prop:=∀i j,i<=j->j<k->O.kle (kyP key p i) (kyP key p j)
def AllN(N:Nat)(p:Array Nat):Prop:=p.toList.Perm (ao N)
theorem AllN.size(h:AllN N p):p.size=N:=by
 have:=h.length_eq;simpa using this
end
end VS
namespace PySem
open Sem (wp)
set_option maxRecDepth 100000
def Heap.RawDict(hp:cQ)(d:ax)(rows:Array hX)(ep:Nat):Prop:=∃u,hp.get? d=cz u/\u.ExactDict/\u.data=.dict rows ep
section
variable {prog:bD}{w:cm}{A:bP}{E:aj->av->Prop}{sh:av}{d it:ax}{rows:Array hX}{ep i:Nat}
def Heap.RawDict.at{h h':cQ}(x:h.RawDict d rows ep)(e:∀o,h.get? d=cz o->h'.get? d=cz o):h'.RawDict d rows ep:=let⟨u,hu,r⟩:=x;⟨u,e _ hu,r⟩
def Heap.RawDict.typeIs(x:sh.heap.RawDict d rows ep):sh.TypeIs (.ref d) "dict":=let⟨u,hu,r,_⟩:=x;⟨u,hu,r.1⟩
def b3v(h0:(d==du)=false)(hm:sh.heap.RawDict d rows ep)
  (q:Q (.ref sh.heap.objs.size) {sh with heap:=sh.heap.push {cls:=.type "dict_keyiterator",data:=.fields #[.ref d,.int 0 0,.int rows.size 0,.int ep 0]}}) :
  aX (aW prog w) A (pyIter (.ref d)) Q E sh:=by
 obtain⟨u,hu,hx,kJ⟩:=id hm;refine wpAny_pyIter_slot hm.typeIs F.slot_dict_iter (eA F.slot_dict_iter hm.typeIs F.entry_dict_iter ?_ (F.args_dict_iter_1 _));unfold Builtin.«dict.__iter__»;refine af ?_;unfold Builtin.Dict.dictSlotNone;refine af (mM hm.typeIs ?_);show aX _ _ (pure (bL d)) _ _ sh;refine aC ?_;show aX _ _ (Gc d >>= _) _ _ sh;unfold Gc;rw[aM (by rw[h0];exact cw)];refine af (aC (af (gK hu kJ (af (sC hu kJ ?_)))));refine af (iV (aC ⟨_,rfl,"dict_keyiterator",_,⟨_,bj _ rfl,rfl⟩,fA.lookup,?_⟩));simpa[jw]using q
def b3w(hI:sh.heap.IsKeyIter it d i rows.size ep)(hm:sh.heap.RawDict d rows ep)(hi:i<rows.size)
  (q:∀h',h'.IsKeyIter it d (i+1) rows.size ep->mC it sh.heap h'->Q (cz rows[i].key) {sh with heap:=h'}):aX (aW prog w) A (uQ (.ref it)) Q E sh:=by
 obtain⟨x,hx,Av,sM⟩:=id hI;obtain⟨u,hu,_,vc⟩:=id hm;unfold uQ;refine af (oy (gc (name:=cI "__next__") hI.typeIs fA (eA fA hI.typeIs sv ?_ (rJ _))));refine af (aC (af (af ?_)))
 first|refine af (gw hI.typeIs (aC ?_))|refine af (ij hI.typeIs (aC ?_))
 refine af (wpAny_fieldsOf hx sM ?_);simp only[show tQ "dict_keyiterator"=false from by decide,bz,dw];show aX _ _ (if (bL d==bx)=true then _ else _) _ _ sh;rw[aM (show ¬ (bL d==bx)=true from cw)];refine af (aC (af (gK hu vc ?_)));rw[aM (by simp)];refine af (aC (af (sC hu vc ?_)));rw[aM (by simp)];refine aC ?_;simp only[show ¬ (i:Int)<0 from by lia,dw,bg,bo hi];refine af ?_
 first|refine af (gw hI.typeIs (aC ?_))|refine af (ij hI.typeIs (aC ?_))
 refine af (Fe hI.typeIs ?_);show aX _ _ (setField (.ref it) 1 (jw ((i:Int)+1)) >>= _) _ _ sh;refine af (wpAny_setField hx sM (by simp) ?_);have Be:(sh.heap.update it (fY.mapFields (·.setIfInBounds 1 (jw ((i:Int)+1))))).IsKeyIter it d (i+1) rows.size ep:=
  ⟨_,cJ _ hx (fY.isFreed_of_fields (fY.data_mapFields sM _)),(fY.cls_mapFields ..).trans Av,by rw[fY.data_mapFields sM];simp[jw]⟩
 refine af (cZ ?_);refine af (Fe (s:={sh with heap:=sh.heap.update it (fY.mapFields (·.setIfInBounds 1 (jw ((i:Int)+1))))}) Be.typeIs ?_);show aX _ _ (pure rows[i].key) _ _ _;exact aC (aC ⟨_,rfl,aC (q _ Be (fE ..))⟩)
def b3x(hh:A.handled=xn)(hI:sh.heap.IsKeyIter it d i rows.size ep)(hm:sh.heap.RawDict d rows ep)(hi:rows.size<=i)
  (q:∀h',cQ.ExtBut it sh.heap h'->Q xn {sh with heap:=h'}):aX (aW prog w) A (uQ (.ref it)) Q E sh:=by
 obtain⟨x,hx,Av,sM⟩:=id hI;obtain⟨u,hu,_,vc⟩:=id hm;unfold uQ;refine af (oy (gc (name:=cI "__next__") hI.typeIs fA (eA fA hI.typeIs sv ?_ (rJ _))));refine af (aC (af (af ?_)))
 first|refine af (gw hI.typeIs (aC ?_))|refine af (ij hI.typeIs (aC ?_))
 refine af (wpAny_fieldsOf hx sM ?_);simp only[show tQ "dict_keyiterator"=false from by decide,bz,dw];show aX _ _ (if (bL d==bx)=true then _ else _) _ _ sh;rw[aM (show ¬ (bL d==bx)=true from cw)];refine af (aC (af (gK hu vc ?_)));rw[aM (by simp)];refine af (aC (af (sC hu vc ?_)));rw[aM (by simp)];refine aC ?_;simp only[show ¬ (i:Int)<0 from by lia,dw,bg,f_ hi];refine af ?_
 first|refine af (gw hI.typeIs (aC ?_))|refine af (ij hI.typeIs (aC ?_))
 show aX _ _ (setField (.ref it) 0 .none >>= _) _ _ sh;refine af (wpAny_setField hx sM (by simp) ?_);show aX _ _ (newExc (.type "StopIteration") [] >>= _) _ _ _;refine af ?_;simp only[newExc,newTuple];refine af (iV ?_ (by size_fits));refine af (m:=firstArgMember _ _) (wpAny_of_eq (a:=bx) (by first|rfl|(simp only[firstArgMember];rfl)) ?_);refine iV ?_ (by size_fits);simp only[raiseNew];refine af (wpAny_handled ?_);rw[show A.in1.handled=xn from hh];refine af (aC (wpAny_throw ?_));refine af (lS (b:=true) (T:="StopIteration") ⟨_,bj _ rfl,rfl⟩ isSubtype_stop ?_);exact aC (q _ (((fE ..).extBut.push _).push _))
def b1m(hh:A.handled=xn)(iU:d≠it):Walks prog w A it [it,d] [it] rows.size (λi v=>∃e,rows[i]?=cz e/\v=e.key) (λi h=>h.IsKeyIter it d i rows.size ep/\h.RawDict d rows ep) where
 sub:=λb hb=>aI.mpr (.inl (aq.mp hb))
 frame:=λ_ _ _ st hk=>⟨st.1.at λo e=>hk it aL o e,st.2.at λo e=>hk d (aw _ aL) o e⟩
 item:=λi s Q E hi st q=>b3w st.1 st.2 hi λh' hI hs=>q _ h' s.toks ⟨rows[i],bo hi,rfl⟩ ⟨hI,st.2.at λo e=>hs.extBut d o iU e⟩ λb o hb e=>hs.extBut b o (λz=>hb (by rw[z];exact aq.mpr rfl)) e
 done:=λs Q E st q=>b3x hh st.1 st.2 (az _) λh' he=>q h' s.toks λb o hb e=>he b o (λz=>hb (by rw[z];exact aq.mpr rfl)) e
 self:=λ_ _ _ _ st q=>wpAny_pyIter_keyiter st.1 q
def b6r(h0:(d==du)=false):W.KdlSrc prog w "dict" d d rows.size (λi v=>∃e,rows[i]?=cz e/\v=e.key) (λh=>h.RawDict d rows ep) where
 type:=λ_ hm=>hm.typeIs
 there:=λh hm=>let⟨_,hu,_⟩:=hm;⟨aT hu,aT hu⟩
 keep:=λ_ _ hm hk=>hm.at λo e=>hk d (.inl rfl) o e
 notList:=by decide
 notTuple:=by decide
 hint:=λ_ _ s _ hm q=>W.kdl_hint_dict (Heap.RawDict.typeIs (sh:=s) hm) q
 iter:=λ_ _ hh hm=>⟨_,_,(λ_ _ q=>b3v h0 hm q),b1m hh (let⟨_,hu,_⟩:=hm;bM (aT hu)),⟨⟨_,bj _ rfl,rfl,rfl⟩,hm.at λ_ e=>aF _ e⟩⟩
end
end PySem
namespace VS
open PySem PyProof.Rows
def a5M:Bool->bR->Array bR->Nat->Nat->Nat->StateT dr zR (Option Nat):=sortPriv% PySem.Builtin.gallop
structure CmpS (prog:bD) (w:cm) (A:bP) (s:av) (κ:fg) (O:KeyOrd) (ky:bR->O.α) (S:bR->Prop):Prop where
 lt:∀x y:bR,S x->S y->∀C:Bool->av->Prop,C (O.blt (ky x) (ky y)) s->aX (aW prog w) A (keyLt' κ x.1 y.1) C (λ_ _=>False) s
section
variable {prog:bD}{w:cm}{A:bP}{E:aj->av->Prop}{s:av}{κ:fg}{O:KeyOrd}{ky:bR->O.α}{S:bR->Prop}{st:dr}
def a3r(H:CmpS prog w A s κ O ky S)(hk:kindOf st=κ)(hx:S x)(hy:S y)(h:Q (cz (O.blt (ky x) (ky y))) st):sA (aW prog w) A E s (lt' x y) Q st:=by
 rw[lt'_eq];refine aN (kG ?_);rw[hk];refine aN (wpS_lift (oy ?_));refine dU (H.lt x y hx hy (λb s'=>b=O.blt (ky x) (ky y)/\s'=s) ⟨rfl,rfl⟩) (λb s' hb=>?_) λ_ _ e=>e.elim
 obtain⟨rfl,rfl⟩:=hb;exact⟨rfl,aV h⟩
def l5{arr:Array bR}(hi:i<arr.size)(h:Q arr[i] st):sA (aW prog w) A E s (elem' arr i) Q st:=by
 rw[elem'_eq,bo hi];exact aV h
end
section
variable {prog:bD}{w:cm}{A:bP}{E:aj->av->Prop}{s:av}{κ:fg}{O:KeyOrd}{ky:bR->O.α}{S:bR->Prop}{st:dr}
def b3y(ky:bR->O.α)(S:bR->Prop)(arr:Array bR)(base n:Nat)(ka:Nat->O.α):Prop:=∀i,i<n->∃h:base+i<arr.size,ky arr[base+i]=ka i/\S arr[base+i]
def prG(left:Bool)(k:O.α)(ka:Nat->O.α)(i:Nat):Bool:=if left then O.blt (ka i) k else !O.blt k (ka i)
def M8(H:CmpS prog w A s κ O ky S)(hk:kindOf st=κ)(P:b3y ky S arr base n ka)(hS:S key)(hi:i<n)(h:Q (cz (prG left (ky key) ka i)) st) :
  sA (aW prog w) A E s (do let x <-elem' arr (base+i);if left then lt' x key else return (<-lt' key x).map (!·)) Q st:=by
 obtain⟨hb,e,hs⟩:=P i hi;refine aN (l5 hb ?_);unfold prG at h;cases left with
 |true=>exact a3r H hk hs hS (by rw[e];exact h)
 |false=>exact aN (a3r H hk hS hs (aV (by rw[e];exact h)))
def a3s(H:CmpS prog w A s κ O ky S)(hk:kindOf st=κ)(P:b3y ky S arr base n ka)(hS:S key)(hh:hint<n)(mono:∀i j,i<=j->j<n->prG left (ky key) ka j=true->prG left (ky key) ka i=true) 
  (q:∀k,k<=n->(∀i,i<k->prG left (ky key) ka i=true)->(∀i,k<=i->i<n->prG left (ky key) ka i=false)->Q (cz k) st):sA (aW prog w) A E s (a5M left key arr base n hint) Q st:=by
 have tI:∀i j,i<=j->j<n->prG left (ky key) ka i=false->prG left (ky key) ka j=false:=λi j gL hj hi=>by
  cases c:prG left (ky key) ka j with
  |false=>rfl
  |true=>rw[mono i j gL hj c]at hi;cases hi
 refine aN (M8 H hk P hS hh ?_);have wA:∀f:Nat->(Option (Option Nat)×Nat×Nat)->StateT dr zR (ForInStep (Option (Option Nat)×Nat×Nat)),
   (∀x l r (Q':ForInStep (Option (Option Nat)×Nat×Nat)->dr->Prop),l≥r->Q' (.done (xn,l,r)) st->sA (aW prog w) A E s (f x (xn,l,r)) Q' st)->
   (∀x l r (Q':ForInStep (Option (Option Nat)×Nat×Nat)->dr->Prop),¬ l≥r->l+(r-l) / 2<n->(prG left (ky key) ka (l+(r-l) / 2)=true->Q' (.yield (xn,l+(r-l) / 2+1,r)) st)->(prG left (ky key) ka (l+(r-l) / 2)=false->Q' (.yield (xn,l,l+(r-l) / 2)) st)->sA (aW prog w) A E s (f x (xn,l,r)) Q' st)->
   ∀lo hi,lo<=hi->hi<=n->(∀i,i<lo->prG left (ky key) ka i=true)->(∀i,hi<=i->i<n->prG left (ky key) ka i=false)->
   sA (aW prog w) A E s (forIn [0:n] ((xn:Option (Option Nat)),lo,hi) f) (λc cS=>cS=st/\∃r,c=(xn,r,r)/\r<=n/\(∀i,i<r->prG left (ky key) ka i=true)/\(∀i,r<=i->i<n->prG left (ky key) ka i=false)) st:=by
  intro f f1 f2 lo hi h1 h2 h3 h4;refine dD (I:=λx c cS=>cS=st/\∃l r,c=(xn,l,r)/\l<=r/\r<=n/\r-l<=n-x/\(∀i,i<l->prG left (ky key) ka i=true)/\(∀i,r<=i->i<n->prG left (ky key) ka i=false)) ?step ?fin ⟨rfl,lo,hi,rfl,h1,h2,by lia,h3,h4⟩
  case fin=>
   rintro c cS ⟨rfl,l,r,rfl,g1,g2,g3,g4,g5⟩;have:l=r:=by lia
   subst this;exact⟨rfl,l,rfl,g2,g4,g5⟩
  case step=>
   rintro x c cS _ hx ⟨rfl,l,r,rfl,g1,g2,g3,g4,g5⟩;by_cases c:l≥r
   ·have:l=r:=by lia
    subst this;exact f1 x l l _ c ⟨rfl,l,rfl,g2,g4,g5⟩
   ·refine f2 x l r _ c (by lia) (λd=>?_) λd=>?_
    ·exact⟨rfl,_,_,rfl,by lia,g2,by lia,λi hi=>mono i _ (show i<=l+(r-l) / 2 by lia) (by lia) d,g5⟩
    ·exact⟨rfl,_,_,rfl,by lia,by lia,by lia,g4,λi hi hn=>tI _ i hi hn d⟩
 dsimp only
 cases d:prG left (ky key) ka hint with
 |true=>
  rw[aD rfl];refine aN (fG (dD (I:=λx c cS=>cS=st/\∃l o,c=(xn,l,o)/\l<o/\x+1<=o/\hint+l<n/\prG left (ky key) ka (hint+l)=true)
   (Q:=λc cS=>cS=st/\∃l o,c=(xn,l,o)/\l<o/\hint+l<n/\prG left (ky key) ka (hint+l)=true/\(hint+o<n->prG left (ky key) ka (hint+o)=false)) ?step ?fin ⟨rfl,0,1,rfl,by lia,by lia,by lia,d⟩) ?post)
  case fin=>
   rintro c cS ⟨rfl,l,o,rfl,g1,g2,g3,g4⟩;exact⟨rfl,l,o,rfl,g1,g3,g4,λz=>by lia⟩
  case post=>
   rintro c cS ⟨rfl,l,o,rfl,g1,g2,g3,g4⟩
   dsimp only
   refine aN (fG (wA _ (λx l r Q' c h=>?_) (λx l r Q' c hm ht hf=>?_) (hint+l+1) (hint+min o (n-hint)) (by lia) (by lia) (λi hi=>mono i (hint+l) (by lia) g2 g3) (λi hi hn=>(cG (hint+o) n).elim (λz=>tI (hint+o) i (by lia) hn (g4 z)) λz=>by lia)) λc cS ⟨e,r,e2,r1,r2,r3⟩=>?_)
   ·dsimp only;rw[aD c];exact aV h
   ·dsimp only
    rw[aM c];refine aN (M8 H hk P hS hm ?_)
    dsimp only
    cases d':prG left (ky key) ka (l+(r-l) / 2) with
    |true=>rw[aD rfl];exact aV (ht d')
    |false=>simp only[bz,dw];exact aV (hf d')
   ·subst e e2;exact aV (q r r1 r2 r3)
  case step=>
   rintro x c cS _ hx ⟨rfl,l,o,rfl,g1,g2,g3,g4⟩
   dsimp only
   by_cases c:o≥n-hint
   ·rw[aD c];exact aV ⟨rfl,l,o,rfl,g1,g3,g4,λz=>by lia⟩
   ·rw[aM c];refine aN (M8 H hk P hS (show hint+o<n by lia) ?_)
    dsimp only
    cases e:prG left (ky key) ka (hint+o) with
    |true=>
     simp only[gq,bz,dw];exact aV ⟨rfl,o,2*o+1,rfl,by lia,by lia,by lia,e⟩
    |false=>
     simp only[Bool.not_false,pG];exact aV ⟨rfl,l,o,rfl,g1,g3,g4,λ_=>e⟩
 |false=>
  simp only[bz,dw];refine aN (fG (dD (I:=λx c cS=>cS=st/\∃l o,c=(xn,l,o)/\l<o/\x+1<=o/\l<=hint/\prG left (ky key) ka (hint-l)=false)
   (Q:=λc cS=>cS=st/\∃l o,c=(xn,l,o)/\l<o/\l<=hint/\prG left (ky key) ka (hint-l)=false/\(o<=hint->prG left (ky key) ka (hint-o)=true)) ?step ?fin ⟨rfl,0,1,rfl,by lia,by lia,by lia,d⟩) ?post)
  case fin=>
   rintro c cS ⟨rfl,l,o,rfl,g1,g2,g3,g4⟩;exact⟨rfl,l,o,rfl,g1,g3,g4,λz=>by lia⟩
  case post=>
   rintro c cS ⟨rfl,l,o,rfl,g1,g2,g3,g4⟩
   dsimp only
   refine aN (fG (wA _ (λx l r Q' c h=>?_) (λx l r Q' c hm ht hf=>?_) (hint+1-min o (hint+1)) (hint-l) (by lia) (by lia) (λi hi=>(cG hint o).elim (λz=>by lia) λz=>mono i (hint-o) (by lia) (by lia) (g4 z)) (λi hi hn=>tI (hint-l) i (by lia) hn g3)) λc cS ⟨e,r,e2,r1,r2,r3⟩=>?_)
   ·dsimp only;rw[aD c];exact aV h
   ·dsimp only
    rw[aM c];refine aN (M8 H hk P hS hm ?_)
    dsimp only
    cases d':prG left (ky key) ka (l+(r-l) / 2) with
    |true=>rw[aD rfl];exact aV (ht d')
    |false=>simp only[bz,dw];exact aV (hf d')
   ·subst e e2;exact aV (q r r1 r2 r3)
  case step=>
   rintro x c cS _ hx ⟨rfl,l,o,rfl,g1,g2,g3,g4⟩
   dsimp only
   by_cases c:o≥hint+1
   ·rw[aD c];exact aV ⟨rfl,l,o,rfl,g1,g3,g4,λz=>by lia⟩
   ·rw[aM c];refine aN (M8 H hk P hS (show hint-o<n by lia) ?_)
    dsimp only
    cases e:prG left (ky key) ka (hint-o) with
    |true=>
     rw[aD rfl];exact aV ⟨rfl,l,o,rfl,g1,g3,g4,λ_=>e⟩
    |false=>
     simp only[bz,dw];exact aV ⟨rfl,o,2*o+1,rfl,by lia,by lia,by lia,e⟩
end
section
variable {O:KeyOrd}{ky:bR->O.α}
def UpA(ky:bR->O.α)(a:Array bR):Prop:=∀i j (hj:j<a.size) (h:i<=j),O.kle (ky (a[i]'(by lia))) (ky a[j])
structure MInv (ky:bR->O.α) (a b out:Array bR) (ia ib:Nat):Prop where
 la:ia<=a.size
 lb:ib<=b.size
 pm:out.toList.Perm (a.toList.take ia++b.toList.take ib)
 up:out.toList.Pairwise λx y=>O.kle (ky x) (ky y)
 ra:∀x∈out.toList,∀i (h:i<a.size),ia<=i->O.kle (ky x) (ky a[i])
 rb:∀x∈out.toList,∀i (h:i<b.size),ib<=i->O.kle (ky x) (ky b[i])
def take_snoc{α:Type}{l:List α}(h:i<l.length):l.take (i+1)=l.take i++[l[i]]:=(List.take_append_getElem h).symm
def MInv.stepA(M:MInv ky a b out ia ib)(ua:UpA ky a)(h:ia<a.size)(hb:∀j (hj:j<b.size),ib<=j->O.kle (ky a[ia]) (ky b[j])):MInv ky a b (out.push a[ia]) (ia+1) ib:=by
 refine⟨h,M.lb,?_,?_,λx hx i hi hh=>?_,λx hx j hj hh=>?_⟩
 ·rw[cx,take_snoc (by simpa using h),aP];refine (M.pm.append_right _).trans ?_;rw[aP];refine lI _ ?_;rw[bX];exact List.perm_append_comm
 ·rw[cx,dM];refine⟨M.up,dJ _ _,λx hx y hy=>?_⟩;rw[aq.mp hy];exact M.ra x hx ia h (az _)
 ·rw[cx]at hx;rcases ar.mp hx with z|z
  ·exact M.ra x z i hi (by lia)
  ·rw[aq.mp z];exact ua ia i hi (by lia)
 ·rw[cx]at hx;rcases ar.mp hx with z|z
  ·exact M.rb x z j hj hh
  ·rw[aq.mp z];exact hb j hj hh
def MInv.stepB(M:MInv ky a b out ia ib)(ub:UpA ky b)(h:ib<b.size)(ha:∀i (hi:i<a.size),ia<=i->O.kle (ky b[ib]) (ky a[i])):MInv ky a b (out.push b[ib]) ia (ib+1):=by
 refine⟨M.la,h,?_,?_,λx hx i hi hh=>?_,λx hx j hj hh=>?_⟩
 ·rw[cx,take_snoc (l:=b.toList) (by simpa using h),<-aP,bX];exact M.pm.append_right _
 ·rw[cx,dM];refine⟨M.up,dJ _ _,λx hx y hy=>?_⟩;rw[aq.mp hy];exact M.rb x hx ib h (az _)
 ·rw[cx]at hx;rcases ar.mp hx with z|z
  ·exact M.ra x z i hi hh
  ·rw[aq.mp z];exact ha i hi hh
 ·rw[cx]at hx;rcases ar.mp hx with z|z
  ·exact M.rb x z j hj (by lia)
  ·rw[aq.mp z];exact ub ib j hj (by lia)
def a0N{a out:Array bR}(h:i+k<a.size):(out++a.extract i (i+k)).push (a[i+k]'h)=out++a.extract i (i+(k+1)):=by
 rw[ox,jS]
 congr 1;apply h_;rw[mE,gF,gF];simp only[jY];rw[show i+k-i=k by lia,show i+(k+1)-i=k+1 by lia,take_snoc (by rw[iS,aR];lia),BF,bX]
theorem MInv.manyA(ua:UpA ky a):∀(k:Nat) {out:Array bR},MInv ky a b out ia ib->ia+k<=a.size->(∀i (hi:i<a.size),ia<=i->i<ia+k->∀j (hj:j<b.size),ib<=j->O.kle (ky a[i]) (ky b[j]))->MInv ky a b (out++a.extract ia (ia+k)) (ia+k) ib
 |0,out,M,_,_=>by
  have e:a.extract ia (ia+0)=#[]:=by apply h_;simp
  rw[e,ic];exact M
 |k+1,out,M,h,hb=>by
  have ih:=MInv.manyA ua k M (by lia) λi hi h1 h2=>hb i hi h1 (by lia)
  have:=ih.stepA ua (show ia+k<a.size by lia) λj hj h1=>hb (ia+k) (by lia) (by lia) (by lia) j hj h1
  rw[a0N (by lia)]at this;exact this
theorem MInv.manyB(ub:UpA ky b):∀(k:Nat) {out:Array bR},MInv ky a b out ia ib->ib+k<=b.size->(∀j (hj:j<b.size),ib<=j->j<ib+k->∀i (hi:i<a.size),ia<=i->O.kle (ky b[j]) (ky a[i]))->MInv ky a b (out++b.extract ib (ib+k)) ia (ib+k)
 |0,out,M,_,_=>by
  have e:b.extract ib (ib+0)=#[]:=by apply h_;simp
  rw[e,ic];exact M
 |k+1,out,M,h,hb=>by
  have ih:=MInv.manyB ub k M (by lia) λi hi h1 h2=>hb i hi h1 (by lia)
  have:=ih.stepB ub (show ib+k<b.size by lia) λj hj h1=>hb (ib+k) (by lia) (by lia) (by lia) j hj h1
  rw[a0N (by lia)]at this;exact this
def P8(ky:bR->O.α)(a b out:Array bR):Prop:=out.toList.Perm (a.toList++b.toList)/\out.toList.Pairwise λx y=>O.kle (ky x) (ky y)
def MInv.all(M:MInv ky a b out a.size b.size):P8 ky a b out:=by
 refine⟨?_,M.up⟩;have:=M.pm
 rwa[tL (by simp),tL (by simp)]at this
def MInv.doneB(M:MInv ky a b out ia b.size)(ua:UpA ky a):P8 ky a b (out++a.extract ia a.size++b.extract b.size b.size):=by
 have:=MInv.manyA ua (a.size-ia) M (by have:=M.la;lia) λi hi _ _ j hj h=>by lia
 rw[show ia+(a.size-ia)=a.size by have:=M.la;lia]at this;have e:b.extract b.size b.size=#[]:=by simp
 rw[e,ic];exact this.all
def MInv.doneA(M:MInv ky a b out a.size ib)(ub:UpA ky b):P8 ky a b (out++a.extract a.size a.size++b.extract ib b.size):=by
 have:=MInv.manyB ub (b.size-ib) M (by have:=M.lb;lia) λi hi _ _ j hj h=>by lia
 rw[show ib+(b.size-ib)=b.size by have:=M.lb;lia]at this;have e:a.extract a.size a.size=#[]:=by simp
 rw[e,ic];exact this.all
def MInv.last(M:MInv ky a b out ia ib)(ua:UpA ky a)(ub:UpA ky b)(h:ia+1=a.size)(hl:∀j (hj:j<b.size),O.kle (ky b[j]) (ky (a[ia]'(by lia)))):P8 ky a b (out++b.extract ib b.size++a.extract ia a.size):=by
 have M1:=MInv.manyB ub (b.size-ib) M (by have:=M.lb;lia) λj hj _ _ i hi h2=>by
  have:i=ia:=by lia
  subst this;exact hl j hj
 rw[show ib+(b.size-ib)=b.size by have:=M.lb;lia]at M1;have M2:=MInv.manyA ua 1 M1 (by lia) λi hi _ _ j hj h2=>by lia
 rw[h]at M2;exact M2.all
end
def b3z:Array bR->Array bR->StateT dr zR (Array bR):=sortPriv% PySem.Builtin.mergeLo
def a4e:Nat->StateT dr zR Unit:=sortPriv% PySem.Builtin.setMinGallop
section
variable {prog:bD}{w:cm}{A:bP}{E:aj->av->Prop}{s:av}{κ:fg}{O:KeyOrd}{ky:bR->O.α}{S:bR->Prop}{st:dr}
def SameG(st cS:dr):Prop:=kindOf cS=kindOf st/\aZ cS=aZ st/\b_ cS=b_ st/\fN cS=fN st
def SameG.refl(st:dr):SameG st st:=⟨rfl,rfl,rfl,rfl⟩
theorem SameG.trans(x:SameG a b)(y:SameG b c):SameG a c:=⟨y.1.trans x.1,y.2.1.trans x.2.1,y.2.2.1.trans x.2.2.1,y.2.2.2.trans x.2.2.2⟩
def a0O(h:∀cS,SameG st cS->Q () cS):sA (aW prog w) A E s (a4e g) Q st:=by
 exact ix (h _ ⟨rfl,rfl,rfl,rfl⟩)
def P9(h:Q () st):sA (aW prog w) A E s (rule x) Q st:=wpS_lift (iC ⟨rfl,h⟩)
def j7{β:Type}{c:Prop}{dc:Decidable c}{x y:StateT dr zR β}{Q:β->dr->Prop}(h:c->sA (aW prog w) A E s x Q st)(g:¬ c->sA (aW prog w) A E s y Q st):sA (aW prog w) A E s (ite c x y) Q st:=by
 by_cases d:c
 ·rw[aD d];exact h d
 ·rw[aM d];exact g d
def x6{i j:Nat}(h:¬ (i==j)=true):i≠j:=λe=>h (by rw[e];exact EN j)
def Q0{γ δ:Sort _}{β:Type}{R:γ->δ->Prop}{F:γ->δ->StateT dr zR β}{x:StateT dr zR β}{Q:β->dr->Prop}(tl:∀g d,R g d->sA (aW prog w) A E s (F g d) Q st)(mn:(∀g d,R g d->sA (aW prog w) A E s (F g d) Q st)->sA (aW prog w) A E s x Q st):sA (aW prog w) A E s x Q st:=mn tl
def a5N:(!O.blt k x)=true↔O.kle x k:=by unfold KeyOrd.kle;cases O.blt k x<;>simp
def UpR(ky:bR->O.α)(arr:Array bR)(base n:Nat):Prop:=∀i j (hj:j<arr.size) (h:i<=j),base<=i->j<base+n->O.kle (ky (arr[i]'(by lia))) (ky arr[j])
def UpA.part(u:UpA ky arr)(base n:Nat):UpR ky arr base n:=λi j hj h _ _=>u i j hj h
def kyD(ky:bR->O.α)(arr:Array bR)(base:Nat)(d:O.α)(i:Nat):O.α:=(arr[base+i]?.map ky).getD d
def a0o{arr:Array bR}(h:base+i<arr.size):kyD ky arr base d i=ky arr[base+i]:=by unfold kyD;rw[bo h];rfl
def part_of{arr:Array bR}(hn:base+n<=arr.size)(pN:∀i (h:i<arr.size),base<=i->i<base+n->S arr[i])(d:O.α):b3y ky S arr base n (kyD ky arr base d):=λi hi=>⟨by lia,(a0o (by lia)).symm,pN _ _ (by lia) (by lia)⟩
def a3t(H:CmpS prog w A s κ O ky S)(hk:kindOf st=κ)(u:UpR ky arr base n)(pN:∀i (h:i<arr.size),base<=i->i<base+n->S arr[i])(hS:S key)(hn:base+n<=arr.size)(hh:hint<n) 
  (q:∀k,k<=n->(∀i (h:i<arr.size),base<=i->i<base+k->O.kle (ky arr[i]) (ky key))->(∀i (h:i<arr.size),base+k<=i->i<base+n->O.klt (ky key) (ky arr[i]))->Q (cz k) st):sA (aW prog w) A E s (a5M false key arr base n hint) Q st:=by
 have at_:∀i (h:i<arr.size),base<=i->kyD ky arr base (ky key) (i-base)=ky arr[i]:=λi h hb=>by
  have e:base+(i-base)=i:=by lia
  rw[a0o (by lia)];simp only[e]
 refine a3s H hk (part_of hn pN (ky key)) hS hh (λi j gL hj h=>?_) λk k1 k2 k3=>q k k1 (λi h hb hi=>?_) λi h hb hi=>?_
 ·have h':=a5N.mp h;refine a5N.mpr (dq ?_ h');rw[a0o (show base+i<arr.size by lia),a0o (show base+j<arr.size by lia)];exact u (base+i) (base+j) (by lia) (by lia) (by lia) (by lia)
 ·have:=a5N.mp (k2 (i-base) (by lia))
  rwa[at_ i h hb]at this
 ·have:=k3 (i-base) (by lia) (by lia);have h2:(!O.blt (ky key) (kyD ky arr base (ky key) (i-base)))=false:=this;rw[at_ i h (by lia)]at h2;show O.blt _ _=true;simpa using h2
def a3u(H:CmpS prog w A s κ O ky S)(hk:kindOf st=κ)(u:UpR ky arr base n)(pN:∀i (h:i<arr.size),base<=i->i<base+n->S arr[i])(hS:S key)(hn:base+n<=arr.size)(hh:hint<n) 
  (q:∀k,k<=n->(∀i (h:i<arr.size),base<=i->i<base+k->O.klt (ky arr[i]) (ky key))->(∀i (h:i<arr.size),base+k<=i->i<base+n->O.kle (ky key) (ky arr[i]))->Q (cz k) st):sA (aW prog w) A E s (a5M true key arr base n hint) Q st:=by
 have at_:∀i (h:i<arr.size),base<=i->kyD ky arr base (ky key) (i-base)=ky arr[i]:=λi h hb=>by
  have e:base+(i-base)=i:=by lia
  rw[a0o (by lia)];simp only[e]
 refine a3s H hk (part_of hn pN (ky key)) hS hh (λi j gL hj h=>?_) λk k1 k2 k3=>q k k1 (λi h hb hi=>?_) λi h hb hi=>?_
 ·have h':O.klt _ _:=h;refine (KeyOrd.klt_of_kle_of_klt ?_ h':O.klt _ _);rw[a0o (show base+i<arr.size by lia),a0o (show base+j<arr.size by lia)];exact u (base+i) (base+j) (by lia) (by lia) (by lia) (by lia)
 ·have:O.blt _ _=true:=k2 (i-base) (by lia);rw[at_ i h hb]at this;exact this
 ·have:O.blt _ _=false:=k3 (i-base) (by lia) (by lia);rw[at_ i h (by lia)]at this;exact this
def a6T(H:CmpS prog w A s κ O ky S)(hk:kindOf st=κ)(ua:UpA ky a)(ub:UpA ky b)(sa:∀i (h:i<a.size),S a[i])(sb:∀i (h:i<b.size),S b[i])(a0:0<a.size)(b0:0<b.size)(hf:O.klt (ky b[0]) (ky a[0]))(hl:∀j (hj:j<b.size),O.klt (ky b[j]) (ky (a[a.size-1]'(by lia))))
  (q:∀out cS,SameG st cS->P8 ky a b out->Q out cS):sA (aW prog w) A E s (b3z a b) Q st:=by
 have M0:MInv ky a b #[b[0]] 0 1:=by
  have M:MInv ky a b #[] 0 0:=⟨cE _,cE _,by simp,by simp,λx hx=>by simp at hx,λx hx=>by simp at hx⟩;have:=M.stepB ub b0 λi hi _=>cL (fB hf (ua 0 i hi (by lia)))
  simpa using this
 have mQ:∀{out:Array bR} {ia ib:Nat},MInv ky a b out ia ib->ia+1=a.size->P8 ky a b (out++b.extract ib b.size++a.extract ia a.size):=λ{out ia ib} M h=>M.last ua ub h λj hj=>by
  have:=hl j hj;have e:a.size-1=ia:=by lia
  simp only[e]at this;exact cL this
 refine aN (P9 ?_);refine aN (l5 b0 ?_);refine j7 (λc1=>?_) λc1=>?_
 ·have e:1=b.size:=eq_of_beq c1;refine aV (q _ _ (SameG.refl _) ?_);have:=M0;rw[e]at this ⊢;exact this.doneB ua
 have EL:1≠b.size:=x6 c1;refine j7 (λc2=>aV (q _ _ (SameG.refl _) (mQ M0 (eq_of_beq c2)))) λc2=>?_
 have EK:0+1≠a.size:=x6 c2;refine aN (kG ?_);refine aN (fG (dD (I:=λx c cS=>SameG st cS/\∃out ia ib mg,c=(xn,out,ia,ib,mg)/\MInv ky a b out ia ib/\ia+1<a.size/\ib<b.size/\x+1<=ia+ib)
  (Q:=λc cS=>SameG st cS/\∃r z,c=(cz r,z)/\P8 ky a b r) ?ostep ?ofin ⟨SameG.refl _,#[b[0]],0,1,_,rfl,M0,by lia,by lia,by lia⟩) ?opost)
 case opost=>
  rintro c cS ⟨hs,r,z,rfl,hm⟩;exact aV (q r cS hs hm)
 case ofin=>
  rintro c cS ⟨hs,out,ia,ib,mg,rfl,M,h1,h2,h3⟩;lia
 case ostep=>
  rintro x c cS _ hx ⟨hs,out,ia,ib,mg,rfl,M,h1,h2,h3⟩;refine aN (fG (dD (I:=λx' c fC=>SameG st fC/\∃jh lK lW ac bc,c=(xn,jh,lK,lW,ac,bc)/\MInv ky a b jh lK lW/\lK+1<a.size/\lW<b.size/\lK+lW=ia+ib+x')
   (Q:=λc fC=>SameG st fC/\((∃r z,c=(cz r,z)/\P8 ky a b r)∨∃jh lK lW ac bc,c=(xn,jh,lK,lW,ac,bc)/\MInv ky a b jh lK lW/\lK+1<a.size/\lW<b.size/\ia+ib+1<=lK+lW)) ?istep ?ifin ⟨hs,out,ia,ib,_,_,rfl,M,h1,h2,by lia⟩) ?ipost)
  case ifin=>
   rintro c fC ⟨jf,jh,lK,lW,ac,bc,rfl,M',g1,g2,g3⟩;exact⟨jf,.inr ⟨_,_,_,_,_,rfl,M',g1,g2,by lia⟩⟩
  case istep=>
   rintro x' c fC _ va ⟨jf,jh,lK,lW,ac,bc,rfl,M',g1,g2,g3⟩;have xc:lK<a.size:=by lia
   refine aN (l5 g2 (aN (l5 xc ?_)));refine aN (a3r H (jf.1.trans hk) (sb _ g2) (sa _ xc) (j7 (λc=>?_) λc=>?_))
   ·refine aN (l5 g2 (j7 (λd=>?_) λd=>?_))
    ·have M2:=M'.stepB ub g2 λi hi h=>cL (fB c (ua lK i hi h))
     have e:lW+1=b.size:=eq_of_beq d;refine aV ⟨jf,.inl ⟨_,_,rfl,?_⟩⟩;rw[e]at M2 ⊢;exact M2.doneB ua
    ·have M2:=M'.stepB ub g2 λi hi h=>cL (fB c (ua lK i hi h))
     have e:lW+1≠b.size:=x6 d;exact j7 (λ_=>aV ⟨jf,.inr ⟨_,lK,lW+1,_,_,rfl,M2,g1,by lia,by lia⟩⟩) λ_=>aV ⟨jf,_,lK,lW+1,_,_,rfl,M2,g1,by lia,by lia⟩
   ·have c:=fM.mpr c;have M2:=M'.stepA ua xc λj hj h=>dq (show O.kle (ky a[lK]) (ky b[lW]) from c) (ub lW j hj h)
    refine aN (l5 xc (j7 (λd=>aV ⟨jf,.inl ⟨_,_,rfl,mQ M2 (eq_of_beq d)⟩⟩) λd=>?_));have e:lK+1+1≠a.size:=x6 d;exact j7 (λ_=>aV ⟨jf,.inr ⟨_,lK+1,lW,_,_,rfl,M2,by lia,g2,by lia⟩⟩) λ_=>aV ⟨jf,_,lK+1,lW,_,_,rfl,M2,by lia,g2,by lia⟩
  case ipost=>
   rintro c fC ⟨jf,⟨r,z,rfl,hm⟩|⟨jh,lK,lW,ac,bc,rfl,M',g1,g2,g3⟩⟩
   ·exact aV ⟨jf,r,_,rfl,hm⟩
   refine aN (P9 ?_);refine aN (fG (dD (I:=λ_ c jt=>SameG st jt/\∃o2 i2 j2 mg ac bc,c=(xn,o2,i2,j2,mg,ac,bc)/\MInv ky a b o2 i2 j2/\i2+1<a.size/\j2<b.size/\lK+lW<=i2+j2)
    (Q:=λc jt=>SameG st jt/\((∃r z,c=(cz r,z)/\P8 ky a b r)∨∃o2 i2 j2 mg ac bc,c=(xn,o2,i2,j2,mg,ac,bc)/\MInv ky a b o2 i2 j2/\i2+1<a.size/\j2<b.size/\lK+lW<=i2+j2)) ?gstep ?gfin ⟨jf,jh,lK,lW,_,_,_,rfl,M',g1,g2,az _⟩) ?gpost)
   case gfin=>
    rintro c jt ⟨mf,x⟩;exact⟨mf,.inr x⟩
   case gpost=>
    rintro c jt ⟨mf,⟨r,z,rfl,hm⟩|⟨o2,i2,j2,sG,zQ,zO,rfl,M2,k1,k2,k3⟩⟩
    ·exact aV ⟨mf,r,_,rfl,hm⟩
    refine aN (a0O λiF sR=>aV ?_);exact⟨mf.trans sR,o2,i2,j2,_,rfl,M2,k1,k2,by lia⟩
   case gstep=>
    rintro y c jt _ hy ⟨mf,o2,i2,j2,sG,zQ,zO,rfl,M2,k1,k2,k3⟩
    dsimp only
    refine' Q0 (γ:=Nat) (δ:=True) (R:=λ_ _=>True) (λmg tt _=>?tl0) λtl=>?mn0
    case mn0=>
     have u:=trivial;refine j7 (λ_=>?_) λ_=>?_
     ·generalize sG-1=g;exact tl g u u
     ·exact tl sG u u
    refine aN (a0O λiF sR=>?_);have mS:=mf.trans sR;refine aN (l5 k2 ?_);refine aN (a3t H (mS.1.trans hk) (ua.part _ _) (λi h _ _=>sa i h) (sb _ k2) (by lia) (by lia) λk q1 q2 q3=>?_);refine' Q0 (R:=λi3 o3=>MInv ky a b o3 i3 j2/\i3=i2+k/\i3+1<a.size) (λi3 o3 h3=>?tl1) λtl=>?mn1
    case mn1=>
     refine j7 (λvH=>?_) λvH=>?_
     ·have M3:=MInv.manyA ua k M2 (by lia) λi hi h1 h2 j hj h3=>dq (q2 i hi h1 h2) (ub j2 j hj h3)
      refine j7 (λd=>aV ⟨mS,.inl ⟨_,_,rfl,mQ M3 (eq_of_beq d)⟩⟩) λd=>j7 (λd2=>?_) λd2=>?_
      ·have e2:i2+k=a.size:=eq_of_beq d2;refine aV ⟨mS,.inl ⟨_,_,rfl,?_⟩⟩;have BC:=M3;rw[e2]at BC ⊢;exact BC.doneA ub
      have e1:=x6 d;have e2:=x6 d2;generalize o2++a.extract i2 (i2+k)=o3 at M3 ⊢;obtain⟨i3,ei⟩:∃i3,i3=i2+k:=⟨_,rfl⟩;rw[<-ei]at M3 ⊢;exact tl i3 o3 ⟨M3,ei,by lia⟩
     ·exact tl i2 o2 ⟨M2,by lia,k1⟩
    obtain⟨M3,ei,qd⟩:=h3;have qd:i3<a.size:=by lia
    refine aN (l5 k2 ?_);have M4:=M3.stepB ub k2 λi hi h=>cL (q3 i hi (by lia) (by lia))
    refine j7 (λd3=>?_) λd3=>?_
    ·have e3:j2+1=b.size:=eq_of_beq d3;refine aV ⟨mS,.inl ⟨_,_,rfl,?_⟩⟩;rw[e3]at M4 ⊢;exact M4.doneB ua
    have e3:=x6 d3;refine aN (l5 qd ?_);refine aN (a3u H (mS.1.trans hk) (ub.part _ _) (λi h _ _=>sb i h) (sa _ qd) (by lia) (by lia) λk' r1 r2 r3=>?_);refine' Q0 (R:=λj3 o3=>MInv ky a b o3 i3 j3/\j3=j2+1+k'/\j3<b.size) (λj3 o3 h3=>?tl2) λtl=>?mn2
    case mn2=>
     refine j7 (λp_=>?_) λp_=>?_
     ·have M5:=MInv.manyB ub k' M4 (by lia) λj hj h1 h2 i hi h3=>cL (fB (r2 j hj h1 h2) (ua i3 i hi h3))
      refine j7 (λd4=>?_) λd4=>?_
      ·have e4:j2+1+k'=b.size:=eq_of_beq d4;refine aV ⟨mS,.inl ⟨_,_,rfl,?_⟩⟩;rw[e4]at M5 ⊢;exact M5.doneB ua
      have e4:=x6 d4;generalize o3.push b[j2]++b.extract (j2+1) (j2+1+k')=o4 at M5 ⊢;obtain⟨j3,ej⟩:∃j3,j3=j2+1+k':=⟨_,rfl⟩;rw[<-ej]at M5 ⊢;exact tl j3 o4 ⟨M5,ej,by lia⟩
     ·generalize o3.push b[j2]=o4 at M4 ⊢;obtain⟨j3,ej⟩:∃j3,j3=j2+1:=⟨_,rfl⟩;rw[<-ej]at M4 ⊢;exact tl j3 o4 ⟨M4,by lia,by lia⟩
    obtain⟨M5,ej,FF⟩:=h3;have M6:=M5.stepA ua qd λj hj h=>r3 j hj (by lia) (by lia)
    refine aN (l5 qd (j7 (λd=>aV ⟨mS,.inl ⟨_,_,rfl,mQ M6 (eq_of_beq d)⟩⟩) λd=>?_));have e5:=x6 d;exact j7 (λ_=>aV ⟨mS,.inr ⟨_,_,_,_,_,_,rfl,M6,by lia,by lia,by lia⟩⟩) λ_=>aV ⟨mS,_,_,_,_,_,_,rfl,M6,by lia,by lia,by lia⟩
end
section
variable {O:KeyOrd}{ky:bR->O.α}
structure NInv (ky:bR->O.α) (a b out:Array bR) (na nb:Nat):Prop where
 la:na<=a.size
 lb:nb<=b.size
 pm:out.toList.Perm (a.toList.drop na++b.toList.drop nb)
 up:out.toList.Pairwise λx y=>O.kle (ky y) (ky x)
 ra:∀x∈out.toList,∀i (h:i<a.size),i<na->O.kle (ky a[i]) (ky x)
 rb:∀x∈out.toList,∀i (h:i<b.size),i<nb->O.kle (ky b[i]) (ky x)
def a1o{α:Type}{l:List α}(h:i<l.length):l.drop i=l[i]::l.drop (i+1):=dO h
def NInv.stepA(M:NInv ky a b out (na+1) nb)(ua:UpA ky a)(h:na<a.size)(hb:∀j (hj:j<b.size),j<nb->O.kle (ky b[j]) (ky a[na])):NInv ky a b (out.push a[na]) na nb:=by
 refine⟨by lia,M.lb,?_,?_,λx hx i hi hh=>?_,λx hx j hj hh=>?_⟩
 ·rw[cx,a1o (l:=a.toList) (by simpa using h),bX,bE];exact (qz _ _).trans (M.pm.cons _)
 ·rw[cx,dM];refine⟨M.up,dJ _ _,λx hx y hy=>?_⟩;rw[aq.mp hy];exact M.ra x hx na h (by lia)
 ·rw[cx]at hx;rcases ar.mp hx with z|z
  ·exact M.ra x z i hi (by lia)
  ·rw[aq.mp z];exact ua i na h (by lia)
 ·rw[cx]at hx;rcases ar.mp hx with z|z
  ·exact M.rb x z j hj hh
  ·rw[aq.mp z];exact hb j hj hh
def NInv.stepB(M:NInv ky a b out na (nb+1))(ub:UpA ky b)(h:nb<b.size)(ha:∀i (hi:i<a.size),i<na->O.kle (ky a[i]) (ky b[nb])):NInv ky a b (out.push b[nb]) na nb:=by
 refine⟨M.la,by lia,?_,?_,λx hx i hi hh=>?_,λx hx j hj hh=>?_⟩
 ·rw[cx,a1o (l:=b.toList) (by simpa using h),bX];refine (qz _ _).trans ((M.pm.cons _).trans ?_);exact List.perm_middle.symm
 ·rw[cx,dM];refine⟨M.up,dJ _ _,λx hx y hy=>?_⟩;rw[aq.mp hy];exact M.rb x hx nb h (by lia)
 ·rw[cx]at hx;rcases ar.mp hx with z|z
  ·exact M.ra x z i hi hh
  ·rw[aq.mp z];exact ha i hi hh
 ·rw[cx]at hx;rcases ar.mp hx with z|z
  ·exact M.rb x z j hj (by lia)
  ·rw[aq.mp z];exact ub j nb h (by lia)
def a6U{a out:Array bR}(h:i<a.size)(hn:i<n)(Fy:n<=a.size):(out++(a.extract (i+1) n).reverse).push a[i]=out++(a.extract i n).reverse:=by
 rw[ox,jS]
 congr 1;apply h_;simp only[mE,me,gF,jY];rw[show n-i=(n-(i+1))+1 by lia,a1o (l:=a.toList) (i:=i) (by simpa using h),List.take_succ_cons,kg,bX]
theorem NInv.manyA(ua:UpA ky a):∀(k:Nat) {out:Array bR},NInv ky a b out na nb->k<=na->(∀i (hi:i<a.size),na-k<=i->i<na->∀j (hj:j<b.size),j<nb->O.kle (ky b[j]) (ky a[i]))->NInv ky a b (out++(a.extract (na-k) na).reverse) (na-k) nb
 |0,out,M,_,_=>by
  have e:a.extract (na-0) na=#[]:=by apply h_;simp
  rw[e];simpa using M
 |k+1,out,M,h,hb=>by
  have ih:=NInv.manyA ua k M (by lia) λi hi h1 h2=>hb i hi (by lia) h2
  have AN:=M.la;rw[show na-k=(na-(k+1))+1 by lia]at ih;have:=ih.stepA ua (show na-(k+1)<a.size by lia) λj hj h1=>hb (na-(k+1)) (by lia) (az _) (by lia) j hj h1
  rw[a6U (by lia) (by lia) AN]at this;exact this
theorem NInv.manyB(ub:UpA ky b):∀(k:Nat) {out:Array bR},NInv ky a b out na nb->k<=nb->(∀j (hj:j<b.size),nb-k<=j->j<nb->∀i (hi:i<a.size),i<na->O.kle (ky a[i]) (ky b[j]))->NInv ky a b (out++(b.extract (nb-k) nb).reverse) na (nb-k)
 |0,out,M,_,_=>by
  have e:b.extract (nb-0) nb=#[]:=by apply h_;simp
  rw[e];simpa using M
 |k+1,out,M,h,hb=>by
  have ih:=NInv.manyB ub k M (by lia) λi hi h1 h2=>hb i hi (by lia) h2
  have AM:=M.lb;rw[show nb-k=(nb-(k+1))+1 by lia]at ih;have:=ih.stepB ub (show nb-(k+1)<b.size by lia) λj hj h1=>hb (nb-(k+1)) (by lia) (az _) (by lia) j hj h1
  rw[a6U (by lia) (by lia) AM]at this;exact this
def NInv.all(M:NInv ky a b out 0 0):P8 ky a b out.reverse:=by
 refine⟨?_,?_⟩
 ·rw[me];refine (List.reverse_perm _).trans ?_;simpa using M.pm
 ·rw[me,uH];exact M.up
def a2F{out c:Array bR}:(out++c.reverse).reverse=c++out.reverse:=by apply h_;simp
def NInv.doneA(M:NInv ky a b out 0 nb)(ub:UpA ky b):P8 ky a b (a.extract 0 0++b.extract 0 nb++out.reverse):=by
 have:=(NInv.manyB ub nb M (az _) λj hj _ _ i hi h=>by lia);rw[jz]at this;have e:a.extract 0 0=#[]:=by apply h_;simp
 have:=this.all;rw[a2F]at this;rw[e,Array.empty_append];exact this
def NInv.doneB(M:NInv ky a b out na 0)(ua:UpA ky a):P8 ky a b (a.extract 0 na++b.extract 0 0++out.reverse):=by
 have:=(NInv.manyA ua na M (az _) λj hj _ _ i hi h=>by lia);rw[jz]at this;have e:b.extract 0 0=#[]:=by apply h_;simp
 have:=this.all;rw[a2F]at this;rw[e,ic];exact this
def NInv.first(M:NInv ky a b out na 1)(ua:UpA ky a)(ub:UpA ky b)(b0:0<b.size)(hf:∀i (hi:i<a.size),O.kle (ky b[0]) (ky a[i])):P8 ky a b (b.extract 0 1++a.extract 0 na++out.reverse):=by
 have M1:=NInv.manyA ua na M (az _) λi hi _ _ j hj h=>by
  have:j=0:=by lia
  subst this;exact hf i hi
 rw[jz]at M1;have M2:=(NInv.manyB ub 1 M1 (az _) λj hj _ _ i hi h=>by lia);rw[jz]at M2;have:=M2.all;rw[a2F,a2F,<-jS]at this;exact this
end
def b3A:Array bR->Array bR->StateT dr zR (Array bR):=sortPriv% PySem.Builtin.mergeHi
section
variable {prog:bD}{w:cm}{A:bP}{E:aj->av->Prop}{s:av}{κ:fg}{O:KeyOrd}{ky:bR->O.α}{S:bR->Prop}{st:dr}
def a6V(H:CmpS prog w A s κ O ky S)(hk:kindOf st=κ)(ua:UpA ky a)(ub:UpA ky b)(sa:∀i (h:i<a.size),S a[i])(sb:∀i (h:i<b.size),S b[i])(a0:0<a.size)(b0:0<b.size)(hf:O.klt (ky b[0]) (ky a[0]))(hl:∀j (hj:j<b.size),O.klt (ky b[j]) (ky (a[a.size-1]'(by lia))))
  (q:∀out cS,SameG st cS->P8 ky a b out->Q out cS):sA (aW prog w) A E s (b3A a b) Q st:=by
 have M0:NInv ky a b #[a[a.size-1]'(by lia)] (a.size-1) b.size:=by
  have M:NInv ky a b #[] (a.size-1+1) b.size:=⟨by lia,az _,by simp;lia,by simp,λx hx=>by simp at hx,λx hx=>by simp at hx⟩;have:=M.stepA ua (show a.size-1<a.size by lia) λj hj _=>cL (hl j hj)
  simpa using this
 have qf:∀i (hi:i<a.size),O.kle (ky b[0]) (ky a[i]):=λi hi=>cL (fB hf (ua 0 i hi (by lia)))
 have lQ:∀{out:Array bR} {na nb:Nat},NInv ky a b out na nb->nb=1->P8 ky a b (b.extract 0 nb++a.extract 0 na++out.reverse):=λ{out na nb} M h=>by subst h;exact M.first ua ub b0 qf
 have mU:∀{out:Array bR} {na nb:Nat},NInv ky a b out na nb->na=0->P8 ky a b (a.extract 0 na++b.extract 0 nb++out.reverse):=λ{out na nb} M h=>by subst h;exact M.doneA ub
 refine aN (P9 ?_);refine aN (l5 (show a.size-1<a.size by lia) ?_);refine j7 (λc1=>aV (q _ _ (SameG.refl _) (mU M0 (eq_of_beq c1)))) λc1=>j7 (λc2=>aV (q _ _ (SameG.refl _) (lQ M0 (eq_of_beq c2)))) λc2=>?_
 have EL:a.size-1≠0:=x6 c1;have EK:b.size≠1:=x6 c2;refine aN (kG ?_);refine aN (fG (dD (I:=λx c cS=>SameG st cS/\∃na nb out mg,c=(xn,na,nb,out,mg)/\NInv ky a b out na nb/\0<na/\1<nb/\na+nb+x+1<=a.size+b.size)
  (Q:=λc cS=>SameG st cS/\∃r z,c=(cz r,z)/\P8 ky a b r) ?ostep ?ofin ⟨SameG.refl _,a.size-1,b.size,_,_,rfl,M0,by lia,by lia,by lia⟩) ?opost)
 case opost=>
  rintro c cS ⟨hs,r,z,rfl,hm⟩;exact aV (q r cS hs hm)
 case ofin=>
  rintro c cS ⟨hs,na,nb,out,mg,rfl,M,h1,h2,h3⟩;lia
 case ostep=>
  rintro x c cS _ hx ⟨hs,na,nb,out,mg,rfl,M,h1,h2,h3⟩;have AN:=M.la;have AM:=M.lb;refine aN (fG (dD (I:=λx' c fC=>SameG st fC/\∃lh lg jh ac bc,c=(xn,lh,lg,jh,ac,bc)/\NInv ky a b jh lh lg/\0<lh/\1<lg/\lh+lg+x'=na+nb)
   (Q:=λc fC=>SameG st fC/\((∃r z,c=(cz r,z)/\P8 ky a b r)∨∃lh lg jh ac bc,c=(xn,lh,lg,jh,ac,bc)/\NInv ky a b jh lh lg/\0<lh/\1<lg/\lh+lg+1<=na+nb)) ?istep ?ifin ⟨hs,na,nb,out,_,_,rfl,M,h1,h2,by lia⟩) ?ipost)
  case ifin=>
   rintro c fC ⟨jf,lh,lg,jh,ac,bc,rfl,M',g1,g2,g3⟩;exact⟨jf,.inr ⟨_,_,_,_,_,rfl,M',g1,g2,by lia⟩⟩
  case istep=>
   rintro x' c fC _ va ⟨jf,lh,lg,jh,ac,bc,rfl,M',g1,g2,g3⟩;have ja:lh-1<a.size:=by have:=M'.la;lia
   have jb:lg-1<b.size:=by have:=M'.lb;lia
   refine aN (l5 jb (aN (l5 ja ?_)));refine aN (a3r H (jf.1.trans hk) (sb _ jb) (sa _ ja) (j7 (λc=>?_) λc=>?_))
   ·have M2:=NInv.stepA (na:=lh-1) (by rw[show lh-1+1=lh by lia];exact M') ua ja λj hj h=>cL (KeyOrd.klt_of_kle_of_klt (ub j (lg-1) jb (by lia)) c)
    refine aN (l5 ja (j7 (λd=>aV ⟨jf,.inl ⟨_,_,rfl,mU M2 (eq_of_beq d)⟩⟩) λd=>?_));have e:lh-1≠0:=x6 d;exact j7 (λ_=>aV ⟨jf,.inr ⟨lh-1,lg,_,_,_,rfl,M2,by lia,g2,by lia⟩⟩) λ_=>aV ⟨jf,lh-1,lg,_,_,_,rfl,M2,by lia,g2,by lia⟩
   ·have c:=fM.mpr c;have M2:=NInv.stepB (nb:=lg-1) (by rw[show lg-1+1=lg by lia];exact M') ub jb λi hi h=>dq (ua i (lh-1) ja (by lia)) (show O.kle (ky a[lh-1]) (ky b[lg-1]) from c)
    refine aN (l5 jb (j7 (λd=>aV ⟨jf,.inl ⟨_,_,rfl,lQ M2 (eq_of_beq d)⟩⟩) λd=>?_));have e:lg-1≠1:=x6 d;exact j7 (λ_=>aV ⟨jf,.inr ⟨lh,lg-1,_,_,_,rfl,M2,g1,by lia,by lia⟩⟩) λ_=>aV ⟨jf,lh,lg-1,_,_,_,rfl,M2,g1,by lia,by lia⟩
  case ipost=>
   rintro c fC ⟨jf,⟨r,z,rfl,hm⟩|⟨lh,lg,jh,ac,bc,rfl,M',g1,g2,g3⟩⟩
   ·exact aV ⟨jf,r,_,rfl,hm⟩
   refine aN (P9 ?_);refine aN (fG (dD (I:=λ_ c jt=>SameG st jt/\∃i2 j2 o2 mg ac bc,c=(xn,i2,j2,o2,mg,ac,bc)/\NInv ky a b o2 i2 j2/\0<i2/\1<j2/\i2+j2<=lh+lg)
    (Q:=λc jt=>SameG st jt/\((∃r z,c=(cz r,z)/\P8 ky a b r)∨∃i2 j2 o2 mg ac bc,c=(xn,i2,j2,o2,mg,ac,bc)/\NInv ky a b o2 i2 j2/\0<i2/\1<j2/\i2+j2<=lh+lg)) ?gstep ?gfin ⟨jf,lh,lg,jh,_,_,_,rfl,M',g1,g2,az _⟩) ?gpost)
   case gfin=>
    rintro c jt ⟨mf,x⟩;exact⟨mf,.inr x⟩
   case gpost=>
    rintro c jt ⟨mf,⟨r,z,rfl,hm⟩|⟨i2,j2,o2,sG,zQ,zO,rfl,M2,k1,k2,k3⟩⟩
    ·exact aV ⟨mf,r,_,rfl,hm⟩
    refine aN (a0O λiF sR=>aV ?_);exact⟨mf.trans sR,i2,j2,o2,_,rfl,M2,k1,k2,by lia⟩
   case gstep=>
    rintro y c jt _ hy ⟨mf,i2,j2,o2,sG,zQ,zO,rfl,M2,k1,k2,k3⟩;have ja:=M2.la;have jb:=M2.lb;have uV:j2-1<b.size:=by lia
    dsimp only
    refine' Q0 (γ:=Nat) (δ:=True) (R:=λ_ _=>True) (λmg tt _=>?tl0) λtl=>?mn0
    case mn0=>
     have u:=trivial;refine j7 (λ_=>?_) λ_=>?_
     ·generalize sG-1=g;exact tl g u u
     ·exact tl sG u u
    refine aN (a0O λiF sR=>?_);have mS:=mf.trans sR;refine aN (l5 uV ?_);refine aN (a3t H (mS.1.trans hk) (ua.part _ _) (λi h _ _=>sa i h) (sb _ uV) (by lia) (by lia) λk q1 q2 q3=>?_)
    dsimp only
    generalize lY:i2-k=ac;refine' Q0 (R:=λi3 o3=>NInv ky a b o3 i3 j2/\i3=k/\0<i3) (λi3 o3 h3=>?tl1) λtl=>?mn1
    case mn1=>
     refine j7 (λvH=>?_) λvH=>?_
     ·have M3:=NInv.manyA ua (i2-k) M2 (by lia) λi hi h1 h2 j hj h3=>dq (ub j (j2-1) uV (by lia)) (cL (q3 i hi (by lia) (by lia)))
      rw[show i2-(i2-k)=k by lia]at M3;refine j7 (λd=>aV ⟨mS,.inl ⟨_,_,rfl,mU M3 (eq_of_beq d)⟩⟩) λd=>?_
      have e1:=x6 d;generalize o2++(a.extract k i2).reverse=o3 at M3 ⊢;obtain⟨i3,ei⟩:∃i3,i3=k:=⟨_,rfl⟩;rw[<-ei]at M3 ⊢;exact tl i3 o3 ⟨M3,ei,by lia⟩
     ·exact tl i2 o2 ⟨M2,by lia,k1⟩
    obtain⟨M3,ei,h0⟩:=h3;have M4:=NInv.stepB (nb:=j2-1) (by rw[show j2-1+1=j2 by lia];exact M3) ub uV λi hi h=>q2 i hi (by lia) (by lia)
    refine aN (l5 uV (j7 (λd=>aV ⟨mS,.inl ⟨_,_,rfl,lQ M4 (eq_of_beq d)⟩⟩) λd3=>?_));have e3:=x6 d3;have qd:i3-1<a.size:=by lia
    refine aN (l5 qd ?_);refine aN (a3u H (mS.1.trans hk) (ub.part _ _) (λi h _ _=>sb i h) (sa _ qd) (by lia) (by lia) λk' r1 r2 r3=>?_)
    dsimp only
    generalize FH:j2-1-k'=bc;refine' Q0 (R:=λj3 o4=>NInv ky a b o4 i3 j3/\j3=k'/\1<j3) (λj3 o4 h3=>?tl2) λtl=>?mn2
    case mn2=>
     refine j7 (λp_=>?_) λp_=>?_
     ·have M5:=NInv.manyB ub (j2-1-k') M4 (by lia) λj hj h1 h2 i hi h3=>dq (ua i (i3-1) qd (by lia)) (r3 j hj (by lia) (by lia))
      rw[show j2-1-(j2-1-k')=k' by lia]at M5;refine j7 (λd=>aV ⟨mS,.inl ⟨_,_,rfl,lQ M5 (eq_of_beq d)⟩⟩) λd4=>j7 (λd6=>?_) λd6=>?_
      ·have e6:k'=0:=eq_of_beq d6;refine aV ⟨mS,.inl ⟨_,_,rfl,?_⟩⟩;have BB:=M5;rw[e6]at BB ⊢;exact BB.doneB ua
      have e4:=x6 d4;have e6:=x6 d6;generalize o3.push b[j2-1]++(b.extract k' (j2-1)).reverse=o4 at M5 ⊢;obtain⟨j3,ej⟩:∃j3,j3=k':=⟨_,rfl⟩;rw[<-ej]at M5 ⊢;exact tl j3 o4 ⟨M5,ej,by lia⟩
     ·generalize o3.push b[j2-1]=o4 at M4 ⊢;exact tl (j2-1) o4 ⟨M4,by lia,by lia⟩
    obtain⟨M5,ej,h1⟩:=h3;have M6:=NInv.stepA (na:=i3-1) (by rw[show i3-1+1=i3 by lia];exact M5) ua qd λj hj h=>cL (r2 j hj (by lia) (by lia))
    refine aN (l5 qd (j7 (λd=>aV ⟨mS,.inl ⟨_,_,rfl,mU M6 (eq_of_beq d)⟩⟩) λd=>?_));have e5:=x6 d;exact j7 (λ_=>aV ⟨mS,.inr ⟨_,_,_,_,_,_,rfl,M6,by lia,by lia,by lia⟩⟩) λ_=>aV ⟨mS,_,_,_,_,_,_,rfl,M6,by lia,by lia,by lia⟩
end
theorem a9B{α:Type}(p0:Nat):∀(l:List α) (n:Nat) (arr:Array α),p0+n+l.length<=arr.size->((l.zipIdx n).foldl (λa (q:α×Nat)=>a.setIfInBounds (p0+q.2) q.1) arr).toList=arr.toList.take (p0+n)++l++arr.toList.drop (p0+n+l.length)
 |[],n,arr,h=>by simp
 |x::l,n,arr,h=>by
  rw[aS]at h;rw[List.zipIdx_cons,Ga,a9B p0 l (n+1) _ (by rw[Array.size_setIfInBounds];lia),Array.toList_setIfInBounds];have hl:p0+n<arr.toList.length:=by rw[aR];lia
  have e1:(arr.toList.set (p0+n) x).take (p0+(n+1))=arr.toList.take (p0+n)++[x]:=by
   rw[show p0+(n+1)=(p0+n)+1 by lia,take_snoc (by rw[gg];exact hl),List.take_set_of_le (az _),List.getElem_set_self]
  have e2:(arr.toList.set (p0+n) x).drop (p0+(n+1)+l.length)=arr.toList.drop (p0+n+(x::l).length):=by
   rw[List.drop_set_of_lt (by lia),aS]
   congr 1;lia
  rw[e1,e2];simp
section
variable {prog:bD}{w:cm}{A:bP}{E:aj->av->Prop}{s:av}{κ:fg}{O:KeyOrd}{ky:bR->O.α}{S:bR->Prop}{st:dr}
def b6s(h:Q ⟨⟩ cS):sA (aW prog w) A E s (set cS:StateT dr zR PUnit) Q st:=by
 unfold sA;rw[StateT.run_set];exact aC ⟨rfl,h⟩
def a1X{arr:Array bR}{base n:Nat}(u:UpR ky arr base n)(hn:base+n<=arr.size){lo hi:Nat}(h1:base<=lo)(h2:lo<=hi)(h3:hi<=base+n):UpA ky (arr.extract lo hi):=by
 intro i j hj h;rw[ng]at hj;rw[dR,dR];exact u (lo+i) (lo+j) (by lia) (by lia) (by lia) (by lia)
structure Fused (ky:bR->O.α) (arr mv:Array bR) (lo hi:Nat):Prop where
 pm:mv.toList.Perm arr.toList
 out:∀t,t<lo∨hi<=t->mv[t]?=arr[t]?
 up:UpR ky mv lo (hi-lo)
def a6W(H:CmpS prog w A s κ O ky S)(hk:kindOf st=κ){i sa na pw sb nb xR:Nat}(p1:(b_ st)[i]?=cz (sa,na,pw))(p2:(b_ st)[i+1]?=cz (sb,nb,xR))(yt:sb=sa+na)(wU:0<na)(xW:0<nb)(kN:sb+nb<=(aZ st).size)(sS:∀i (h:i<(aZ st).size),S (aZ st)[i])(u1:UpR ky (aZ st) sa na)(u2:UpR ky (aZ st) sb nb)(hfl:fN st=xn){Q:Bool->dr->Prop}
  (q:∀cS,kindOf cS=kindOf st->fN cS=xn->b_ cS=((b_ st).setIfInBounds i (sa,na+nb,pw)).eraseIdxIfInBounds (i+1)->Fused ky (aZ st) (aZ cS) sa (sb+nb)->Q true cS):sA (aW prog w) A E s (mergeAt' i) Q st:=by
 refine aN (kG ?_);rw[p1,p2]
 dsimp only
 refine aN (b6s ?_);have b0:sb<(aZ st).size:=by lia
 refine aN (l5 b0 ?_);refine aN (a3t H (by exact hk) u1 (λi h _ _=>sS i h) (sS _ b0) (by lia) wU λk k1 k2 k3=>?_)
 dsimp only
 have si:(∀i (hi:i<(aZ st).size),sa<=i->i<sb->O.kle (ky (aZ st)[i]) (ky (aZ st)[sb]))->Fused ky (aZ st) (aZ st) sa (sb+nb):=λh=>⟨jQ _,λ_ _=>rfl,λi j hj gL h1 h2=>by
  rcases cG j sb with c|c
  ·exact u1 i j hj gL h1 (by lia)
  ·rcases cG i sb with d|d
   ·exact dq (h i (by lia) h1 d) (u2 sb j hj c (az _) (by lia))
   ·exact u2 i j hj gL d (by lia)⟩
 by_cases c1:(na-k==0)=true
 ·rw[aD c1];have e:na-k=0:=by simpa using c1
  exact aV (q _ rfl hfl rfl (si λi hi h1 h2=>k2 i hi h1 (by lia)))
 rw[aM c1];have e1:na-k≠0:=by simpa using c1
 have al:sa+k+(na-k)-1<(aZ st).size:=by lia
 refine aN (l5 al ?_);refine aN (a3u H (by exact hk) u2 (λi h _ _=>sS i h) (sS _ al) (by lia) (by lia) λm m1 m2 m3=>?_)
 dsimp only
 by_cases c2:(m==0)=true
 ·rw[aD c2];have e:m=0:=by simpa using c2
  refine aV (q _ rfl hfl rfl (si λi hi h1 h2=>?_));refine dq (u1 i (sa+k+(na-k)-1) al (by lia) h1 (by lia)) (m3 sb b0 (by lia) (by lia))
 rw[aM c2];have e2:m≠0:=by simpa using c2
 have xs:((aZ st).extract (sa+k) sb).size=na-k:=by rw[ng];lia
 have ys:((aZ st).extract sb (sb+m)).size=m:=by rw[ng];lia
 have ux:UpA ky ((aZ st).extract (sa+k) sb):=a1X u1 (by lia) (by lia) (by lia) (by lia);have uy:UpA ky ((aZ st).extract sb (sb+m)):=a1X u2 (by lia) (by lia) (by lia) (by lia);have sx:∀i (h:i<((aZ st).extract (sa+k) sb).size),S ((aZ st).extract (sa+k) sb)[i]:=λi h=>by rw[dR];exact sS _ _
 have sy:∀i (h:i<((aZ st).extract sb (sb+m)).size),S ((aZ st).extract sb (sb+m))[i]:=λi h=>by rw[dR];exact sS _ _
 have hf:O.klt (ky (((aZ st).extract sb (sb+m))[0]'(by lia))) (ky (((aZ st).extract (sa+k) sb)[0]'(by lia))):=by
  rw[dR,dR];exact k3 (sa+k+0) (by lia) (by lia) (by lia)
 have hl:∀j (hj:j<((aZ st).extract sb (sb+m)).size),O.klt (ky ((aZ st).extract sb (sb+m))[j]) (ky (((aZ st).extract (sa+k) sb)[((aZ st).extract (sa+k) sb).size-1]'(by lia))):=λj hj=>by
  rw[dR,dR];have:=m2 (sb+j) (by lia) (by lia) (by lia);simp only[xs];have e:sa+k+(na-k-1)=sa+k+(na-k)-1:=by lia
  simp only[e];exact this
 have fin:∀out cS,SameG (tS st (((b_ st).setIfInBounds i (sa,na+nb,pw)).eraseIdxIfInBounds (i+1))) cS->P8 ky ((aZ st).extract (sa+k) sb) ((aZ st).extract sb (sb+m)) out->
   sA (aW prog w) A E s (do
    modify λs=>setArr s (out.toList.zipIdx.foldl (λa (p,j)=>a.setIfInBounds (sa+k+j) p) (aZ s))
    return (fN (<-get)).isNone) Q cS:=by
  intro out cS ⟨g1,g2,g3,g4⟩ hm;have os:out.size=na-k+m:=by
   have:=hm.1.length_eq;rw[aA,aR,aR,aR,xs,ys]at this;exact this
  have ni:aZ cS=aZ st:=g2;have wl:=a9B (sa+k) out.toList 0 (aZ st) (by rw[aR];lia);rw[Nat.add_zero,aR]at wl;refine aN (ix (aN (kG (aV ?_))));have ff:(fN cS).isNone=true:=by rw[show fN cS=fN st from g4,hfl];rfl
  show Q (fN cS).isNone _;rw[ff];refine q _ g1 (by show fN cS=xn;rw[show fN cS=fN st from g4,hfl]) g3 ?_;show Fused ky (aZ st) (out.toList.zipIdx.foldl (λa (q:bR×Nat)=>a.setIfInBounds (sa+k+q.2) q.1) (aZ cS)) sa (sb+nb);rw[ni];generalize hW:out.toList.zipIdx.foldl (λa (q:bR×Nat)=>a.setIfInBounds (sa+k+q.2) q.1) (aZ st)=W at wl;have Ar:((aZ st).extract (sa+k) sb).toList++((aZ st).extract sb (sb+m)).toList=((aZ st).toList.drop (sa+k)).take (na-k+m):=by
   rw[gF,gF];simp only[jY];rw[show sb-(sa+k)=na-k by lia,show sb+m-sb=m by lia,List.take_add,List.drop_drop,show sa+k+(na-k)=sb by lia]
  have ws:W.size=(aZ st).size:=by
   have:=dH et wl;rw[aA,aA,er,iS,aR,aR,aR]at this;lia
  have lo:∀t,t<sa+k->W[t]?=(aZ st)[t]?:=λt ht=>by
   rw[<-bT,wl,aP,dA (by rw[er,aR];lia),kC ht,bT]
  have hi:∀t,sa+k+out.size<=t->W[t]?=(aZ st)[t]?:=λt ht=>by
   rw[<-bT,wl,cF (by rw[aA,er,aR,aR];lia),List.getElem?_drop,aA,er,aR,aR,<-bT]
   congr 1;lia
  have mid:∀t,t<out.size->W[sa+k+t]?=out[t]?:=λt ht=>by
   rw[<-bT,wl,aP,cF (by rw[er,aR];lia),er,aR,dA (by rw[aR];lia),bT]
   congr 1;lia
  have src:∀x∈out.toList,∃u,∃h:u<(aZ st).size,sa+k<=u/\u<sb+m/\x=(aZ st)[u]:=λx hx=>by
   have h1:=hm.1.mem_iff.mp hx;rw[Ar]at h1;obtain⟨v,hv,e⟩:=jc.mp h1;rw[er,iS,aR]at hv;refine⟨sa+k+v,by lia,by lia,by lia,?_⟩;rw[<-e,List.getElem_take,BF,bX]
  refine⟨?_,λt ht=>?_,λt1 t2 h2 Bj hlo s_=>?_⟩
  ·rw[wl];have e:(aZ st).toList=(aZ st).toList.take (sa+k)++((aZ st).toList.drop (sa+k)).take (na-k+m)++(aZ st).toList.drop (sa+k+out.size):=by
    have e2:(aZ st).toList.drop (sa+k+(na-k+m))=((aZ st).toList.drop (sa+k)).drop (na-k+m):=by rw[List.drop_drop]
    rw[os,aP,e2,iJ,iJ]
   conv=>rhs;rw[e]
   refine List.Perm.append_right _ (lI _ ?_);rw[<-Ar];exact hm.1
  ·rcases ht with h|h
   ·exact lo t (by lia)
   ·exact hi t (by lia)
  ·have sg:∀t (h:t<W.size),t<sa+k->∃h':t<(aZ st).size,W[t]=(aZ st)[t]:=λt h ht=>by
    have:=lo t ht;rw[bo h,bo (by lia)]at this;exact⟨by lia,aE this⟩
   have oJ:∀t (h:t<W.size),sa+k+out.size<=t->∃h':t<(aZ st).size,W[t]=(aZ st)[t]:=λt h ht=>by
    have:=hi t ht;rw[bo h,bo (by lia)]at this;exact⟨by lia,aE this⟩
   have om:∀t (h:t<W.size),sa+k<=t->t<sa+k+out.size->∃h':t-(sa+k)<out.size,W[t]=out[t-(sa+k)]:=λt h ht Fv=>by
    have:=mid (t-(sa+k)) (by lia);have e:sa+k+(t-(sa+k))=t:=by lia
    rw[e,bo h,bo (by lia)]at this;exact⟨by lia,aE this⟩
   have w1:t1<W.size:=by lia
   rcases cG t1 (sa+k) with c|c
   ·obtain⟨mh,e1⟩:=sg t1 w1 c;rw[e1];rcases cG t2 (sa+k) with d|d
    ·obtain⟨kE,e2⟩:=sg t2 h2 d;rw[e2];exact u1 t1 t2 kE Bj hlo (by lia)
    ·have key:∀u (hu:u<(aZ st).size),sa+k<=u->u<sb+nb->O.kle (ky (aZ st)[t1]) (ky (aZ st)[u]):=λu hu yo Ax=>by
      rcases cG u sb with z|z
      ·exact u1 t1 u hu (by lia) hlo (by lia)
      ·exact dq (k2 t1 mh hlo c) (u2 sb u hu z (az _) (by lia))
     rcases cG t2 (sa+k+out.size) with z|z
     ·obtain⟨kE,e2⟩:=om t2 h2 d z;rw[e2];obtain⟨u,hu,yo,Ax,e⟩:=src out[t2-(sa+k)] (gT kE);rw[e];exact key u hu yo (by lia)
     ·obtain⟨kE,e2⟩:=oJ t2 h2 z;rw[e2];exact key t2 kE (by lia) (by lia)
   ·rcases cG t1 (sa+k+out.size) with d|d
    ·obtain⟨mh,e1⟩:=om t1 w1 c d;rw[e1];rcases cG t2 (sa+k+out.size) with z|z
     ·obtain⟨kE,e2⟩:=om t2 h2 (by lia) z;rw[e2];rcases cG t1 t2 with y|y
      ·have:=qJ.mp hm.2 (t1-(sa+k)) (t2-(sa+k)) (by rw[aR];lia) (by rw[aR];lia) (by lia)
       rwa[bX,bX]at this
      ·have:t1=t2:=by lia
       subst this;exact eG _
     ·obtain⟨kE,e2⟩:=oJ t2 h2 z;rw[e2];obtain⟨u,hu,yo,Ax,e⟩:=src out[t1-(sa+k)] (gT mh);rw[e];rcases cG u sb with y|y
      ·exact dq (u1 u (sa+k+(na-k)-1) al (by lia) (by lia) (by lia)) (m3 t2 kE (by lia) (by lia))
      ·exact u2 u t2 kE (by lia) y (by lia)
    ·obtain⟨mh,e1⟩:=oJ t1 w1 d;obtain⟨kE,e2⟩:=oJ t2 h2 (by lia);rw[e1,e2];exact u2 t1 t2 kE Bj (by lia) (by lia)
 split
 ·exact aN (a6T H (by exact hk) ux uy sx sy (by lia) (by lia) hf hl λout cS hs hm=>fin out cS hs hm)
 ·exact aN (a6V H (by exact hk) ux uy sx sy (by lia) (by lia) hf hl λout cS hs hm=>fin out cS hs hm)
end
def a6X{α:Sort _}{P:α->Prop}{G:Prop}(code:α)(h:P code)(k:P code->G):G:=k h
section
variable {prog:bD}{w:cm}{A:bP}{E:aj->av->Prop}{s:av}{κ:fg}{O:KeyOrd}{ky:bR->O.α}{S:bR->Prop}{st:dr}
def kq(ky:bR->O.α)(d:O.α)(arr:Array bR)(t:Nat):O.α:=(arr[t]?.map ky).getD d
def W4{xs ys:Array bR}(h:xs[i]?=ys[j]?):kq ky d xs i=kq ky d ys j:=by unfold kq;rw[h]
def a9C{arr:Array bR}(h:t<arr.size):kq ky d arr t=ky arr[t]:=by unfold kq;rw[bo h];rfl
def a1p{xs:Array bR}(hj:j<=xs.size)(k:Nat):kq ky d (nh xs i j ((j-i) / 2)) k=if i<=k/\k<j then kq ky d xs (i+j-1-k) else kq ky d xs k:=by
 have e:=getElem?_mirror_all (i:=i) hj k
 split
 ·rename_i h;rw[aD h]at e;exact W4 e
 ·rename_i h;rw[aM h]at e;exact W4 e
def M9{xs:Array bR}(hj:j<=xs.size)(heq:∀k,i<=k->k<j->kq ky d xs k=kq ky d xs (j-1))(k:Nat):kq ky d (nh xs i j ((j-i) / 2)) k=kq ky d xs k:=by
 rw[a1p hj]
 split
 ·rw[heq _ (by lia) (by lia),heq k (by lia) (by lia)]
 ·rfl
def AscTo(ky:bR->O.α)(d:O.α)(arr:Array bR)(lo n:Nat):Prop:=∀i j,i<=j->j<n->O.kle (kq ky d arr (lo+i)) (kq ky d arr (lo+j))
def a6Y(ky:bR->O.α)(d:O.α)(arr:Array bR)(lo n:Nat):Prop:=∀i j,i<=j->j<n->O.kle (kq ky d arr (lo+j)) (kq ky d arr (lo+i))
def AscTo.up{d:O.α}{arr:Array bR}{lo n:Nat}(h:AscTo ky d arr lo n):UpR ky arr lo n:=λi j hj gL h1 h2=>by
 have:=h (i-lo) (j-lo) (by lia) (by lia);rw[show lo+(i-lo)=i by lia,show lo+(j-lo)=j by lia,a9C hj,a9C (show i<arr.size by lia)]at this;exact this
structure SB (S:bR->Prop) (κ:fg) (kM st:dr) (lo hi:Nat):Prop where
 kind:kindOf st=κ
 fl:fN st=xn
 pn:b_ st=b_ kM
 pm:(aZ st).Perm (aZ kM)
 out:∀t,t<lo∨hi<=t->(aZ st)[t]?=(aZ kM)[t]?
 all:∀i (h:i<(aZ st).size),S (aZ st)[i]
theorem SB.size{kM:dr}{lo hi:Nat}(h:SB S κ kM st lo hi):(aZ st).size=(aZ kM).size:=by have:=(fF.mp h.pm).length_eq;simpa using this
def SB.mod{kM:dr}{lo hi:Nat}(h:SB S κ kM st lo hi){xs:Array bR}(p:xs.Perm (aZ st))(o:∀t,t<lo∨hi<=t->xs[t]?=(aZ st)[t]?):SB S κ kM (setArr st xs) lo hi:=by
 refine⟨h.kind,h.fl,h.pn,p.trans h.pm,λt ht=>(o t ht).trans (h.out t ht),λi hi=>?_⟩;have hm:xs[i]∈(aZ st).toList:=(fF.mp p).mem_iff.mp (gT hi);obtain⟨j,hj,e⟩:=jc.mp hm;show S xs[i];rw[<-e,bX];exact h.all j (by simpa using hj)
def SB.mir{kM:dr}{lo hi i j:Nat}(h:SB S κ kM st lo hi)(h1:lo<=i)(h2:j<=hi)(h3:j<=(aZ st).size):SB S κ kM (setArr st (nh (aZ st) i j ((j-i) / 2))) lo hi:=h.mod (mirror_perm _ _ _ _) λt ht=>by
 rw[getElem?_mirror_all h3,aM (by lia)]
def L6(H:CmpS prog w A s κ O ky S){d:O.α}{kM:dr}{lo hi i j:Nat}(B:SB S κ kM st lo hi)(lN:i<(aZ st).size)(nu:j<(aZ st).size){Q:Option Bool->dr->Prop}(h:Q (cz (O.blt (kq ky d (aZ st) i) (kq ky d (aZ st) j))) st):sA (aW prog w) A E s (ltAt' i j) Q st:=by
 rw[ltAt'_eq];refine aN (kG ?_)
 dsimp only
 refine aN (l5 lN (aN (l5 nu ?_)));rw[a9C lN,a9C nu]at h;exact a3r H B.kind (B.all _ _) (B.all _ _) h
def a0P(h:Q () (setArr st (nh (aZ st) i j ((j-i) / 2)))):sA (aW prog w) A E s (reverseSlice' i j) Q st:=by
 rw[reverseSlice'_eq];exact ix h
def a4f(H:CmpS prog w A s κ O ky S){d:O.α}{kM:dr}{lo ik:Nat}(B:SB S κ kM st lo (lo+ik))(hn:lo+ik<=(aZ kM).size)(h1:1<=ik){Q:Option Nat->dr->Prop}
  (q:∀m cS,SB S κ kM cS lo (lo+ik)->1<=m->m<=ik->AscTo ky d (aZ cS) lo m->Q (cz m) cS):sA (aW prog w) A E s (countRun' lo ik) Q st:=by
 have zP:∀{cS:dr},AscTo ky d (aZ cS) lo 1:=λ{cS} i j gL hj=>by
  have:i=j:=by lia
  subst this;exact eG _
 have oK:∀{cS:dr} {n:Nat},1<=n->AscTo ky d (aZ cS) lo n->O.blt (kq ky d (aZ cS) (lo+n)) (kq ky d (aZ cS) (lo+n-1))=false->AscTo ky d (aZ cS) lo (n+1):=λ{cS n} wZ ha hb i j gL hj=>by
  by_cases c:j<n
  ·exact ha i j gL c
  ·have:j=n:=by lia
   subst this;by_cases e:i=j
   ·subst e;exact eG _
   ·have h2:=ha i (j-1) (by lia) (by lia);rw[show lo+(j-1)=lo+j-1 by lia]at h2;exact dq h2 hb
 rw[countRun'_eq];refine aN (fG (dD (I:=λx c cS=>cS=st/\c=(xn,x)/\AscTo ky d (aZ st) lo x)
  (Q:=λc cS=>cS=st/\∃n,c=(xn,n)/\1<=n/\n<=ik/\AscTo ky d (aZ st) lo n/\(n=ik∨O.klt (kq ky d (aZ st) (lo+n)) (kq ky d (aZ st) (lo+n-1)))) ?astep ?afin ⟨rfl,rfl,zP⟩) ?apost)
 case afin=>
  rintro c cS ⟨rfl,rfl,ha⟩;rw[show max 1 ik=ik by lia]at ha ⊢;exact⟨rfl,ik,rfl,h1,az _,ha,.inl rfl⟩
 case astep=>
  rintro x c cS wV Cy ⟨rfl,rfl,ha⟩;have sz:=B.size
  dsimp only
  exact aN (L6 H (d:=d) B (by lia) (by lia) (j7 (λhb=>aV ⟨rfl,x,rfl,wV,by lia,ha,.inr hb⟩) λhb=>aV ⟨rfl,rfl,oK wV ha (fM.mpr hb)⟩))
 case apost=>
  rintro c cS ⟨rfl,n,rfl,n1,nn,ha,CO⟩;have sz:=B.size
  dsimp only
  refine j7 (λcn=>aV (q n cS B n1 nn ha)) λcn=>?_
  have en:=x6 cn;have iX:O.klt (kq ky d (aZ cS) (lo+n)) (kq ky d (aZ cS) (lo+n-1)):=CO.resolve_left en;refine' a6X (P:=λcode=>∀wN:dr,SB S κ kM wN lo (lo+ik)->a6Y ky d (aZ wN) lo (n+1)->sA (aW prog w) A E s code Q wN) _ ?desc λdesc=>?main
  case main=>
   refine j7 (λDz=>?_) λDz=>?_
   ·refine aN (L6 H (d:=d) B (by lia) (by lia) (j7 (λoE=>aV (q n cS B n1 nn ha)) λoE=>?_))
    ·have oE:=fM.mpr oE;have jk:∀t,lo<=t->t<lo+n->kq ky d (aZ cS) t=kq ky d (aZ cS) (lo+n-1):=λt t1 t2=>by
      have a1:=ha 0 (t-lo) (by lia) (by lia);have a2:=ha (t-lo) (n-1) (by lia) (by lia);rw[show lo+0=lo by lia,show lo+(t-lo)=t by lia]at a1;rw[show lo+(t-lo)=t by lia,show lo+(n-1)=lo+n-1 by lia]at a2;exact KeyOrd.kle_antisymm a2 (dq oE a1)
     refine aN (a0P ?_);refine desc _ (B.mir (i:=lo) (j:=lo+n) (az _) (by lia) (by lia)) λi j gL hj=>?_
     show O.kle (kq ky d (nh (aZ cS) lo (lo+n) ((lo+n-lo) / 2)) (lo+j)) (kq ky d (nh (aZ cS) lo (lo+n) ((lo+n-lo) / 2)) (lo+i));rw[M9 (by lia) jk,M9 (by lia) jk];by_cases Dv:j<n
     ·rw[jk (lo+i) (by lia) (by lia),jk (lo+j) (by lia) (by lia)];exact eG _
     ·have nu:j=n:=by lia
      subst nu;by_cases lN:i=j
      ·subst lN;exact eG _
      ·rw[jk (lo+i) (by lia) (by lia)];exact cL iX
   ·have e:n=1:=by lia
    refine desc _ B λi j gL hj=>?_
    by_cases lN:i=j
    ·subst lN;exact eG _
    ·have xf:lo+i=lo+n-1:=by lia
     have Dx:lo+j=lo+n:=by lia
     rw[xf,Dx];exact cL iX
  case desc=>
   intro wN B1 D1;have Fk:=B1.size;refine aN (P9 ?_);refine aN (fG (dD (I:=λx c kZ=>∃mP,c=(xn,x,mP)/\SB S κ kM kZ lo (lo+ik)/\a6Y ky d (aZ kZ) lo x/\mP+1<=x/\∀t,lo+x-(mP+1)<=t->t<lo+x->kq ky d (aZ kZ) t=kq ky d (aZ kZ) (lo+x-1))
    (Q:=λc kZ=>∃x mP,c=(xn,x,mP)/\n+1<=x/\x<=ik/\SB S κ kM kZ lo (lo+ik)/\a6Y ky d (aZ kZ) lo x/\mP+1<=x/\∀t,lo+x-(mP+1)<=t->t<lo+x->kq ky d (aZ kZ) t=kq ky d (aZ kZ) (lo+x-1)) ?dstep ?dfin ⟨0,rfl,B1,D1,by lia,λt t1 t2=>by rw[show t=lo+(n+1)-1 by lia]⟩) ?dpost)
   case dfin=>
    rintro c kZ ⟨mP,rfl,B2,D2,q1,q2⟩;rw[show max (n+1) ik=ik by lia]at D2 q1 q2 ⊢;exact⟨ik,mP,rfl,by lia,az _,B2,D2,q1,q2⟩
   case dstep=>
    rintro x c kZ wV Cy ⟨mP,rfl,B2,D2,q1,q2⟩;have BR:=B2.size
    dsimp only
    refine aN (L6 H (d:=d) B2 (by lia) (by lia) (j7 (λll=>?_) λll=>?_))
    ·have rM:∀xs:Array bR,(∀k,kq ky d xs k=kq ky d (aZ kZ) k)->a6Y ky d xs lo (x+1):=by
      intro xs hk i j gL hj;rw[hk,hk];by_cases sY:j<x
      ·exact D2 i j gL sY
      ·have nu:j=x:=by lia
       subst nu;by_cases lN:i=j
       ·subst lN;exact eG _
       ·have h2:=D2 i (j-1) (by lia) (by lia);rw[show lo+(j-1)=lo+j-1 by lia]at h2;exact dq (cL ll) h2
     refine j7 (λsW=>?_) λsW=>?_
     ·refine aN (a0P (aV ⟨0,rfl,B2.mir (i:=lo+x-(mP+1)) (j:=lo+x) (by lia) (by lia) (by lia),rM _ (M9 (by lia) q2),by lia,λt t1 t2=>by rw[show t=lo+(x+1)-1 by lia]⟩))
     ·exact aV ⟨0,rfl,B2,rM _ (λ_=>rfl),by lia,λt t1 t2=>by rw[show t=lo+(x+1)-1 by lia]⟩
    ·have ll:=fM.mpr ll;refine aN (L6 H (d:=d) B2 (by lia) (by lia) (j7 (λlM=>?_) λlM=>?_))
     ·exact aV ⟨x,mP,rfl,wV,by lia,B2,D2,q1,q2⟩
     ·have lM:=fM.mpr lM;have vO:kq ky d (aZ kZ) (lo+x)=kq ky d (aZ kZ) (lo+x-1):=KeyOrd.kle_antisymm lM ll;refine aV ⟨mP+1,rfl,B2,λi j gL hj=>?_,by lia,λt t1 t2=>?_⟩
      ·by_cases sY:j<x
       ·exact D2 i j gL sY
       ·have nu:j=x:=by lia
        subst nu;by_cases lN:i=j
        ·subst lN;exact eG _
        ·have h2:=D2 i (j-1) (by lia) (by lia);rw[show lo+(j-1)=lo+j-1 by lia]at h2;rw[vO];exact h2
      ·rw[show lo+(x+1)-1=lo+x by lia];by_cases yS:t=lo+x
       ·subst yS;rfl
       ·rw[vO];exact q2 t (by lia) (by lia)
   case dpost=>
    rintro c kZ ⟨x,mP,rfl,x1,x2,B2,D2,q1,q2⟩;have BR:=B2.size
    dsimp only
    refine' a6X (P:=λcode=>∀jt:dr,SB S κ kM jt lo (lo+ik)->a6Y ky d (aZ jt) lo x->sA (aW prog w) A E s code Q jt) _ ?tl λtl=>?mn
    case mn=>
     refine j7 (λsW=>?_) λsW=>?_
     ·refine aN (a0P ?_);refine tl _ (B2.mir (i:=lo+x-(mP+1)) (j:=lo+x) (by lia) (by lia) (by lia)) λi j gL hj=>?_
      show O.kle (kq ky d (nh (aZ kZ) (lo+x-(mP+1)) (lo+x) ((lo+x-(lo+x-(mP+1))) / 2)) (lo+j)) (kq ky d (nh (aZ kZ) (lo+x-(mP+1)) (lo+x) ((lo+x-(lo+x-(mP+1))) / 2)) (lo+i));rw[M9 (by lia) q2,M9 (by lia) q2];exact D2 i j gL hj
     ·exact tl _ B2 D2
    case tl=>
     intro jt B3 D3;have Fj:=B3.size;refine aN (a0P ?_);have B4:=B3.mir (i:=lo) (j:=lo+x) (az _) (by lia) (by lia);have A4:AscTo ky d (aZ (setArr jt (nh (aZ jt) lo (lo+x) ((lo+x-lo) / 2)))) lo x:=λi j gL hj=>by
      show O.kle (kq ky d (nh (aZ jt) lo (lo+x) ((lo+x-lo) / 2)) (lo+i)) (kq ky d (nh (aZ jt) lo (lo+x) ((lo+x-lo) / 2)) (lo+j));rw[a1p (by lia),a1p (by lia),aD (by lia),aD (by lia)];have:=D3 (x-1-j) (x-1-i) (by lia) (by lia);rw[show lo+(x-1-j)=lo+(lo+x)-1-(lo+j) by lia,show lo+(x-1-i)=lo+(lo+x)-1-(lo+i) by lia]at this;exact this
     generalize setArr jt (nh (aZ jt) lo (lo+x) ((lo+x-lo) / 2))=iF at B4 A4 ⊢;refine aN (fG (dD (I:=λy c cS=>cS=iF/\c=(xn,y)/\AscTo ky d (aZ iF) lo y)
      (Q:=λc cS=>cS=iF/\∃m,c=(xn,m)/\1<=m/\m<=ik/\AscTo ky d (aZ iF) lo m) ?bstep ?bfin ⟨rfl,rfl,A4⟩) ?bpost)
     case bfin=>
      rintro c cS ⟨rfl,rfl,ha⟩;rw[show max x ik=ik by lia]at ha ⊢;exact⟨rfl,ik,rfl,h1,az _,ha⟩
     case bstep=>
      rintro y c cS Fu Ft ⟨rfl,rfl,ha⟩;have Fi:=B4.size
      dsimp only
      exact aN (L6 H (d:=d) B4 (by lia) (by lia) (j7 (λhb=>aV ⟨rfl,y,rfl,by lia,by lia,ha⟩) λhb=>aV ⟨rfl,rfl,oK (by lia) ha (fM.mpr hb)⟩))
     case bpost=>
      rintro c cS ⟨rfl,m,rfl,m1,m2,ha⟩;exact aV (q m cS B4 m1 m2 ha)
end
section
variable {prog:bD}{w:cm}{A:bP}{E:aj->av->Prop}{s:av}{κ:fg}{O:KeyOrd}{ky:bR->O.α}{S:bR->Prop}{st:dr}
def a4O{xs:Array bR}(hs:src<xs.size)(hd:e<=src)(k:Nat) :
  kq ky d (bubble xs src e) k=if k=src-e then kq ky d xs src else if src-e<k/\k<=src then kq ky d xs (k-1) else kq ky d xs k:=by
 have e:=getElem?_bubble hs e hd k
 split
 ·rename_i h1;rw[aD h1]at e;exact W4 e
 ·rename_i h1
  rw[aM h1]at e
  split
  ·rename_i h2;rw[aD h2]at e;exact W4 e
  ·rename_i h2;rw[aM h2]at e;exact W4 e
def a2v(H:CmpS prog w A s κ O ky S){d:O.α}{kM:dr}{lo hi n ok:Nat}(B:SB S κ kM st lo hi)(hn:lo+n<=(aZ kM).size)(hh:lo+n<=hi)(hok:ok<=n)(hs:AscTo ky d (aZ st) lo ok){Q:Bool->dr->Prop}
  (q:∀cS,SB S κ kM cS lo hi->AscTo ky d (aZ cS) lo n->Q true cS):sA (aW prog w) A E s (binarySort' lo n ok) Q st:=by
 rw[binarySort'_eq];refine aN (fG (dD (I:=λk c cS=>c=(xn,())/\SB S κ kM cS lo hi/\AscTo ky d (aZ cS) lo (min k n))
  (Q:=λc cS=>c=(xn,())/\SB S κ kM cS lo hi/\AscTo ky d (aZ cS) lo n) ?step ?fin ?init) ?post)
 case post=>
  rintro c cS ⟨rfl,B',jf⟩;exact aV (q cS B' jf)
 case init=>
  refine⟨rfl,B,λi j gL hj=>?_⟩;by_cases h1:ok=0
  ·have:i=j:=by lia
   subst this;exact eG _
  ·exact hs i j gL (by lia)
 case fin=>
  rintro c cS ⟨hc,B',jf⟩;refine⟨hc,B',?_⟩
  rwa[show min (max (max ok 1) n) n=n by lia]at jf
 case step=>
  rintro k c cS FI vD ⟨rfl,B',jf⟩;rw[show min k n=k by lia]at jf;have sz:=B'.size;refine aN (fG (dD (I:=λx c fC=>fC=cS/\∃l r,c=(xn,l,r)/\l<=r/\r<=k/\r-l<=k-x/\
    (∀i,i<l->O.kle (kq ky d (aZ cS) (lo+i)) (kq ky d (aZ cS) (lo+k)))/\(∀i,r<=i->i<k->O.klt (kq ky d (aZ cS) (lo+k)) (kq ky d (aZ cS) (lo+i))))
   (Q:=λc fC=>fC=cS/\∃l r,c=(xn,l,r)/\l<=k/\
    (∀i,i<l->O.kle (kq ky d (aZ cS) (lo+i)) (kq ky d (aZ cS) (lo+k)))/\(∀i,l<=i->i<k->O.klt (kq ky d (aZ cS) (lo+k)) (kq ky d (aZ cS) (lo+i)))) ?istep ?ifin ?iinit) ?ipost)
  case iinit=>exact⟨rfl,0,k,rfl,by lia,by lia,by lia,λi hi=>by lia,λi h1 h2=>by lia⟩
  case ifin=>
   rintro c fC ⟨rfl,l,r,rfl,Dh,yw,hm,hlo,s_⟩;have:l=r:=by lia
   subst this;exact⟨rfl,l,l,rfl,yw,hlo,s_⟩
  case istep=>
   rintro x c fC _ As ⟨rfl,l,r,rfl,Dh,yw,hm,hlo,s_⟩
   dsimp only
   by_cases tm:l≥r
   ·rw[aD tm];have:l=r:=by lia
    subst this;exact aV ⟨rfl,l,l,rfl,yw,hlo,s_⟩
   ·rw[aM tm];refine aN (L6 H (d:=d) B' (by lia) (by lia) ?_)
    dsimp only
    cases ll:O.blt (kq ky d (aZ fC) (lo+k)) (kq ky d (aZ fC) (lo+(l+r) / 2)) with
    |true=>
     rw[aD rfl];refine aV ⟨rfl,l,(l+r) / 2,rfl,by lia,by lia,by lia,hlo,λi h1 h2=>?_⟩;exact fB ll (jf _ _ h1 h2)
    |false=>
     simp only[bz,dw];refine aV ⟨rfl,(l+r) / 2+1,r,rfl,by lia,by lia,by lia,λi h1=>?_,s_⟩;exact dq (jf i ((l+r) / 2) (by lia) (by lia)) (show O.kle _ _ from ll)
  case ipost=>
   rintro c fC ⟨rfl,l,r,rfl,FA,hlo,s_⟩;show sA _ _ _ _ (do moveDown' (lo+k) (lo+l);pure (fI (xn,()))) _ _;rw[moveDown'_eq];have jW:lo+k<(aZ fC).size:=by lia
   refine aN (ix (aV ⟨rfl,B'.mod (bubble_perm _ _ _) λt ht=>?_,?_⟩))
   ·rw[getElem?_bubble jW _ (by lia),aM (by lia),aM (by lia)]
   rw[show min (k+1) n=k+1 by lia];intro i j gL hj;show O.kle (kq ky d (bubble (aZ fC) (lo+k) (lo+k-(lo+l))) (lo+i)) (kq ky d (bubble (aZ fC) (lo+k) (lo+k-(lo+l))) (lo+j));rw[a4O jW (by lia),a4O jW (by lia),show lo+k-(lo+k-(lo+l))=lo+l by lia];have mf:∀a b,lo<=a->a<=b->b<lo+k->O.kle (kq ky d (aZ fC) a) (kq ky d (aZ fC) b):=λa b h1 h2 h3=>by
    have:=jf (a-lo) (b-lo) (by lia) (by lia)
    rwa[show lo+(a-lo)=a by lia,show lo+(b-lo)=b by lia]at this
   have yU:∀a,lo+l<=a->a<lo+k->O.klt (kq ky d (aZ fC) (lo+k)) (kq ky d (aZ fC) a):=λa h1 h2=>by
    have:=s_ (a-lo) (by lia) (by lia)
    rwa[show lo+(a-lo)=a by lia]at this
   repeat' split
   all_goals first
    | (exfalso;lia)
    |exact eG _
    |exact hlo _ (by lia)
    |exact cL (yU _ (by lia) (by lia))
    |exact mf _ _ (by lia) (by lia) (by lia)
end
section
variable {prog:bD}{w:cm}{A:bP}{E:aj->av->Prop}{s:av}{κ:fg}{O:KeyOrd}{ky:bR->O.α}{S:bR->Prop}{st:dr}
def Chain(ky:bR->O.α)(arr:Array bR):List (Nat×Nat)->Nat->Nat->Prop
 |[],a,b=>a=b
 | (x,n)::l,a,b=>x=a/\0<n/\UpR ky arr x n/\Chain ky arr l (x+n) b
theorem Chain.len:∀{l:List (Nat×Nat)} {a b:Nat},Chain ky arr l a b->a+l.length<=b
 |[],a,b,h=>by have h:a=b:=h;simp;lia
 | (x,n)::l,a,b,⟨e,h0,_,h⟩=>by have:=h.len;rw[aS];lia
theorem Chain.app{arr:Array bR}{l2:List (Nat×Nat)}:∀{l1:List (Nat×Nat)} {a b:Nat},Chain ky arr (l1++l2) a b↔∃c,Chain ky arr l1 a c/\Chain ky arr l2 c b
 |[],a,b=>⟨λh=>⟨a,rfl,h⟩,λ⟨c,e,h⟩=>by have e:a=c:=e;subst e;exact h⟩
 | (x,n)::l,a,b=>by
  show (x=a/\0<n/\UpR ky arr x n/\Chain ky arr (l++l2) (x+n) b)↔_;rw[Chain.app (l1:=l)];exact⟨λ⟨h1,h2,h3,c,h4,h5⟩=>⟨c,⟨h1,h2,h3,h4⟩,h5⟩,λ⟨c,⟨h1,h2,h3,h4⟩,h5⟩=>⟨h1,h2,h3,c,h4,h5⟩⟩
def UpR.congr{arr mv:Array bR}(h:UpR ky arr x n)(e:∀t,x<=t->t<x+n->mv[t]?=arr[t]?):UpR ky mv x n:=λi j hj gL h1 h2=>by
 have ej:=e j (by lia) h2;have ei:=e i h1 (by lia);rw[bo hj]at ej;rw[bo (show i<mv.size by lia)]at ei;obtain⟨j2,xx⟩:=qC.mp ej.symm;obtain⟨i2,xy⟩:=qC.mp ei.symm;rw[<-xx,<-xy];exact h i j j2 gL h1 h2
theorem Chain.congr{arr mv:Array bR}:∀{l:List (Nat×Nat)} {a b:Nat},Chain ky arr l a b->(∀t,a<=t->t<b->mv[t]?=arr[t]?)->Chain ky mv l a b
 |[],a,b,h,_=>h
 | (x,n)::l,a,b,⟨e,h0,u,h⟩,he=>by
  have hl:=h.len;exact⟨e,h0,u.congr λt t1 t2=>he t (by lia) (by lia),h.congr λt t1 t2=>he t (by lia) t2⟩
def a0p(st:dr):List (Nat×Nat):=(b_ st).toList.map λr=>(r.1,r.2.1)
structure RI (S:bR->Prop) (κ:fg) (ky:bR->O.α) (a0:Array bR) (st:dr) (lo:Nat):Prop where
 kind:kindOf st=κ
 fl:fN st=xn
 pm:(aZ st).Perm a0
 all:∀i (h:i<(aZ st).size),S (aZ st)[i]
 ch:Chain ky (aZ st) (a0p st) 0 lo
 hlo:lo<=a0.size
theorem RI.size{a0:Array bR}{lo:Nat}(h:RI S κ ky a0 st lo):(aZ st).size=a0.size:=by have:=(fF.mp h.pm).length_eq;simpa using this
def a6Z{α:Type}{l:List α}(h:i+1<l.length):l=l.take i++l[i]::l[i+1]::l.drop (i+2):=by
 conv=>lhs;rw[<-iJ i l]
 rw[dO (show i<l.length by lia),dO h]
def a4P(l1 l2:List α)(a b v:α):((l1++a::b::l2).set l1.length v).eraseIdx (l1.length+1)=l1++v::l2:=by
 induction l1 with
 |nil=>rfl
 |cons x l1 ih=>simp only[bE,aS,dX,List.eraseIdx_cons_succ,ih]
def a7a(p:Array α)(i:Nat)(v:α):((p.setIfInBounds i v).eraseIdxIfInBounds (i+1)).toList=(p.toList.set i v).eraseIdx (i+1):=by
 obtain⟨l⟩:=p;simp
def RI.merge(H:CmpS prog w A s κ O ky S){a0:Array bR}{lo i:Nat}(R:RI S κ ky a0 st lo)(hi:i+1<(b_ st).size){Q:Bool->dr->Prop}
  (q:∀cS,RI S κ ky a0 cS lo->(∀t,lo<=t->(aZ cS)[t]?=(aZ st)[t]?)->(b_ cS).size+1=(b_ st).size->Q true cS):sA (aW prog w) A E s (mergeAt' i) Q st:=by
 have hl:i+1<(b_ st).toList.length:=by rw[aR];exact hi
 have sp:=a6Z hl;have ya:((b_ st).toList.take i).length=i:=by rw[er];lia
 generalize FD:(b_ st).toList.take i=l1 at sp ya;generalize qX:(b_ st).toList.drop (i+2)=l2 at sp;obtain⟨⟨sa,na,pw⟩,ea⟩:∃x,x=(b_ st).toList[i]:=⟨_,rfl⟩;obtain⟨⟨sb,nb,xR⟩,eb⟩:∃x,x=(b_ st).toList[i+1]:=⟨_,rfl⟩;rw[<-ea,<-eb]at sp;have p1:(b_ st)[i]?=cz (sa,na,pw):=by rw[bo (by lia),ea,bX]
 have p2:(b_ st)[i+1]?=cz (sb,nb,xR):=by rw[bo hi,eb,bX]
 have ch:=R.ch;rw[a0p,sp,aK,Chain.app]at ch;obtain⟨c,c1,e1,wU,u1,e2,xW,u2,c2⟩:=ch
 dsimp only at e1 wU u1 e2 xW u2 c2
 have cl:=c2.len;have FY:=c1.len;have sz:=R.size;have Ad:=R.hlo;refine a6W H R.kind p1 p2 e2 wU xW (by lia) R.all u1 u2 R.fl λcS k' f' pe F=>q cS ⟨k'.trans R.kind,f',(fF.mpr F.pm).trans R.pm,λi hi=>?_,?_,Ad⟩ (λt ht=>F.out t (by lia)) ?_
 ·have hm:(aZ cS)[i]∈(aZ st).toList:=F.pm.mem_iff.mp (gT hi);obtain⟨j,hj,e⟩:=jc.mp hm;rw[<-e,bX];exact R.all j (by simpa using hj)
 ·have e:(b_ cS).toList=l1++(sa,na+nb,pw)::l2:=by
   rw[pe,a7a,sp]
   conv=>lhs;rw[<-ya]
   exact a4P _ _ _ _ _
  rw[a0p,e,aK,Chain.app];refine⟨c,c1.congr λt _ t2=>F.out t (by lia),e1,by dsimp only;lia,?_,?_⟩
  ·dsimp only
   have:=F.up
   rwa[show sb+nb-sa=na+nb by lia]at this
  ·dsimp only
   rw[show sa+(na+nb)=sb+nb by lia];exact c2.congr λt t1 _=>F.out t (by lia)
 ·have:=dH et (dH Array.toList pe);rw[a7a,sp]at this;rw[<-ya,a4P]at this;have h2:=dH et sp;simp only[aR,aA,aS]at this h2;lia
end
section
variable {prog:bD}{w:cm}{A:bP}{E:aj->av->Prop}{s:av}{κ:fg}{O:KeyOrd}{ky:bR->O.α}{S:bR->Prop}{st:dr}
def RI.pend{a0:Array bR}{lo:Nat}(R:RI S κ ky a0 st lo){p:Array (Nat×Nat×Nat)}(e:p.toList.map (λr=>(r.1,r.2.1))=a0p st):RI S κ ky a0 (tS st p) lo:=
 ⟨R.kind,R.fl,R.pm,R.all,by show Chain ky (aZ st) (p.toList.map _) 0 lo;rw[e];exact R.ch,R.hlo⟩
theorem RI.push{a0:Array bR}{lo n:Nat}(R:RI S κ ky a0 st lo)(n0:0<n)(hn:lo+n<=a0.size)(u:UpR ky (aZ st) lo n):RI S κ ky a0 (tS st ((b_ st).push (lo,n,0))) (lo+n):=
 ⟨R.kind,R.fl,R.pm,R.all,by
  show Chain ky (aZ st) (((b_ st).push (lo,n,0)).toList.map _) 0 (lo+n);rw[cx,aK,Chain.app];exact⟨lo,R.ch,rfl,n0,u,rfl⟩,hn⟩
def RI.sb{a0:Array bR}{lo hi:Nat}(R:RI S κ ky a0 st lo):SB S κ st st lo hi:=⟨R.kind,R.fl,rfl,Gd _,λ_ _=>rfl,R.all⟩
def RI.ofSB{a0:Array bR}{lo hi:Nat}{cS:dr}(R:RI S κ ky a0 st lo)(B:SB S κ st cS lo hi):RI S κ ky a0 cS lo:=
 ⟨B.kind,B.fl,B.pm.trans R.pm,B.all,by
  unfold a0p;rw[B.pn];exact R.ch.congr λt _ t2=>B.out t (.inl t2),R.hlo⟩
def b6t[Decidable c](h1:a+1<n)(h2:b+1<n):(if c then a else b)+1<n:=by split<;>assumption
def Z9(p:Array (Nat×Nat×Nat))(i pw:Nat):(p.modify i λ(x,len,_)=>(x,len,pw)).toList.map (λr=>(r.1,r.2.1))=p.toList.map λr=>(r.1,r.2.1):=by
 apply kj;intro k;rw[aU,aU,bT,bT,Array.getElem?_modify]
 split
 ·cases p[k]?<;>rfl
 ·rfl
def a4g(H:CmpS prog w A s κ O ky S)(d:O.α)(R0:RI S κ ky a0 st 0) 
  (q:∀cS,(aZ cS).Perm a0->fN cS=xn->UpA ky (aZ cS)->Q () cS):sA (aW prog w) A E s sortRuns' Q st:=by
 rw[sortRuns'_eq];refine aN (kG ?_)
 try dsimp only
 simp only[R0.size];refine aN (fG (dD
  (I:=λx c cS=>∃lo,c=(xn,lo)/\RI S κ ky a0 cS lo/\x<=lo)
  (Q:=λc cS=>c=(xn,a0.size)/\RI S κ ky a0 cS a0.size) ?step ?fin ⟨0,rfl,R0,az _⟩) ?post)
 case fin=>
  rintro c cS ⟨lo,rfl,R,h⟩;have:=R.hlo;have e:lo=a0.size:=by lia
  subst e;exact⟨rfl,R⟩
 case step=>
  rintro x c cS _ hx ⟨lo,rfl,R,h⟩
  try dsimp only
  have Ad:=R.hlo;by_cases c1:lo≥a0.size
  ·rw[aD c1];have e:lo=a0.size:=by lia
   subst e;exact aV ⟨rfl,R⟩
  rw[aM c1];have sz:=R.size;refine aN (a4f H (d:=d) R.sb (by lia) (by lia) λm kZ B2 m1 m2 A2=>?_)
  try dsimp only
  by_cases c2:m<minRun' a0.size a0.size 0
  ·rw[aD c2];refine aN (P9 ?_);have f1:lo+min (a0.size-lo) (minRun' a0.size a0.size 0)<=a0.size:=by lia
   have f2:m<=min (a0.size-lo) (minRun' a0.size a0.size 0):=by lia
   generalize min (a0.size-lo) (minRun' a0.size a0.size 0)=n at f1 f2 ⊢;refine aN (a2v H (d:=d) B2 (by lia) (by lia) f2 A2 λjt B3 A3=>?_);simp only[gq,bz,dw];have n0:0<n:=by lia
   have R3:=R.ofSB B3;have u3:=A3.up;refine aN (kG ?_);have fin:∀iF:dr,RI S κ ky a0 iF lo->UpR ky (aZ iF) lo n->∃sH,(xn,lo+n)=((xn,sH):Option Unit×Nat)/\RI S κ ky a0 (tS iF ((b_ iF).push (lo,n,0))) sH/\x+1<=sH:=λiF R4 u4=>⟨lo+n,rfl,R4.push n0 f1 u4,by lia⟩
   cases hb:(b_ jt).back? with
   |none=>
    try dsimp only
    exact aN (ix (aV (fin _ R3 u3)))
   |some r=>
    obtain⟨s1,n1,Cc⟩:=r
    try dsimp only
    refine aN (fG (dD (I:=λ_ c iF=>c=(xn,())/\RI S κ ky a0 iF lo/\UpR ky (aZ iF) lo n) (Q:=λc iF=>c=(xn,())/\RI S κ ky a0 iF lo/\UpR ky (aZ iF) lo n) ?_ (λ_ _ hh=>hh) ⟨rfl,R3,u3⟩) ?_)
    ·rintro y c iF _ _ ⟨rfl,R4,u4⟩
     try dsimp only
     refine aN (kG ?_);by_cases c3:(b_ iF).size>1
     ·rw[aD c3,bo (by lia)];generalize (b_ iF)[(b_ iF).size-2]'(by lia)=r2;obtain⟨s2,n2,pP⟩:=r2
      try dsimp only
      by_cases c4:pP<=power' a0.size (2*s1+n1) (2*s1+n1+n1+n) a0.size
      ·rw[aD c4];exact aV ⟨rfl,R4,u4⟩
      ·rw[aM c4];refine aN (R4.merge H (by lia) λpF R5 o5 _=>?_);simp only[gq,bz,dw];exact aV ⟨rfl,R5,u4.congr λt t1 _=>o5 t t1⟩
     ·rw[aM c3];exact aV ⟨rfl,R4,u4⟩
    ·rintro c iF ⟨rfl,R4,u4⟩
     try dsimp only
     exact aN (ix (aN (ix (aV (fin _ (R4.pend (Z9 _ _ _)) u4)))))
  ·rw[aM c2];obtain⟨n,en⟩:∃n,n=m:=⟨m,rfl⟩;obtain⟨jt,es⟩:∃jt,jt=kZ:=⟨kZ,rfl⟩;rw[<-en,<-es];have n0:0<n:=by lia
   have f1:lo+n<=a0.size:=by lia
   have R3:RI S κ ky a0 jt lo:=by rw[es];exact R.ofSB B2
   have u3:UpR ky (aZ jt) lo n:=by rw[es,en];exact A2.up
   refine aN (kG ?_);have fin:∀iF:dr,RI S κ ky a0 iF lo->UpR ky (aZ iF) lo n->∃sH,(xn,lo+n)=((xn,sH):Option Unit×Nat)/\RI S κ ky a0 (tS iF ((b_ iF).push (lo,n,0))) sH/\x+1<=sH:=λiF R4 u4=>⟨lo+n,rfl,R4.push n0 f1 u4,by lia⟩
   cases hb:(b_ jt).back? with
   |none=>
    try dsimp only
    exact aN (ix (aV (fin _ R3 u3)))
   |some r=>
    obtain⟨s1,n1,Cc⟩:=r
    try dsimp only
    refine aN (fG (dD (I:=λ_ c iF=>c=(xn,())/\RI S κ ky a0 iF lo/\UpR ky (aZ iF) lo n) (Q:=λc iF=>c=(xn,())/\RI S κ ky a0 iF lo/\UpR ky (aZ iF) lo n) ?_ (λ_ _ hh=>hh) ⟨rfl,R3,u3⟩) ?_)
    ·rintro y c iF _ _ ⟨rfl,R4,u4⟩
     try dsimp only
     refine aN (kG ?_);by_cases c3:(b_ iF).size>1
     ·rw[aD c3,bo (by lia)];generalize (b_ iF)[(b_ iF).size-2]'(by lia)=r2;obtain⟨s2,n2,pP⟩:=r2
      try dsimp only
      by_cases c4:pP<=power' a0.size (2*s1+n1) (2*s1+n1+n1+n) a0.size
      ·rw[aD c4];exact aV ⟨rfl,R4,u4⟩
      ·rw[aM c4];refine aN (R4.merge H (by lia) λpF R5 o5 _=>?_);simp only[gq,bz,dw];exact aV ⟨rfl,R5,u4.congr λt t1 _=>o5 t t1⟩
     ·rw[aM c3];exact aV ⟨rfl,R4,u4⟩
    ·rintro c iF ⟨rfl,R4,u4⟩
     try dsimp only
     exact aN (ix (aN (ix (aV (fin _ (R4.pend (Z9 _ _ _)) u4)))))
 case post=>
  rintro c cS ⟨rfl,R⟩
  try dsimp only
  have cl:=R.ch.len;rw[a0p,ai,aR]at cl;refine aN (fG (dD (I:=λx c fC=>c=(xn,())/\RI S κ ky a0 fC a0.size/\(b_ fC).size+x<=a0.size) (Q:=λc fC=>c=(xn,())/\RI S κ ky a0 fC a0.size/\(b_ fC).size<=1) ?_ ?_ ⟨rfl,R,by lia⟩) ?_)
  ·rintro x c fC _ hx ⟨rfl,R2,h2⟩
   try dsimp only
   refine aN (kG ?_);by_cases c1:(b_ fC).size<=1
   ·rw[aD c1];exact aV ⟨rfl,R2,c1⟩
   rw[aM c1];refine aN (R2.merge H (b6t (by lia) (by lia)) λpF R5 _ e5=>?_);simp only[gq,bz,dw];exact aV ⟨rfl,R5,by lia⟩
  ·rintro c fC ⟨rfl,R2,h2⟩;exact⟨rfl,R2,by lia⟩
  ·rintro c fC ⟨rfl,R2,h2⟩;refine aV (q fC R2.pm R2.fl ?_);have ch:=R2.ch;have sz:=R2.size;unfold a0p at ch;generalize hp:(b_ fC).toList=l at ch;have hl:l.length<=1:=by rw[<-hp,aR];exact h2
   match l,hl,ch with
   |[],_,ch=>
    have ch:0=a0.size:=ch;intro i j hj gL;lia
   |[(x,n,pw)],_,⟨e1,_,u,e2⟩=>
    have e2:x+n=a0.size:=e2;intro i j hj gL;exact u i j hj gL (by dsimp only at e1 ⊢;lia) (by dsimp only at e1 ⊢;lia)
end
end VS
namespace VS
open PySem PyProof.Rows
open PySem.W (kas_item)
def b1n{α β:Type}{f:α->β}{l l':List β}(h:l.Perm l'):∀m:List α,l'=m.map f->∃m':List α,m'.Perm m/\l=m'.map f:=by
 induction h with
 |nil=>intro m e;exact⟨m,jQ _,e⟩
 |cons x _ ih=>
  intro m e
  match m,e with
  |y::m,e=>
   rw[ay,gk]at e;obtain⟨m',p,e2⟩:=ih m e.2;exact⟨y::m',p.cons y,by rw[ay,e.1,e2]⟩
 |swap x y l=>
  intro m e
  match m,e with
  |a::b::m,e=>
   rw[ay,ay,gk,gk]at e;exact⟨b::a::m,List.Perm.swap a b m,by rw[ay,ay,e.1,e.2.1,e.2.2]⟩
 |trans _ _ yd yc=>
  intro m e;obtain⟨m1,p1,e1⟩:=yc m e;obtain⟨m2,p2,e2⟩:=yd m1 e1;exact⟨m2,p2.trans p1,e2⟩
section
variable {prog:bD}{w:cm}{A:bP}{E:aj->av->Prop}{s:av}{κ:fg}{O:KeyOrd}{key:Nat->O.α}{ks vs:List aj}
noncomputable def b6u(key:Nat->O.α)(ks:List aj)(x:bR):O.α:=
 open Classical in if h : ∃ i, i<ks.length /\ ks.getD i bx = x.1 then key h.choose else key 0
def a5O(cong:∀i j,i<ks.length->j<ks.length->ks.getD i bx=ks.getD j bx->key i=key j){x:bR}(hi:i<ks.length)(e:ks.getD i bx=x.1):b6u key ks x=key i:=by
 have h:∃i,i<ks.length/\ks.getD i bx=x.1:=⟨i,hi,e⟩;unfold b6u;rw[dif_pos h];exact cong _ _ h.choose_spec.1 hi (h.choose_spec.2.trans e.symm)
def b6v(hl:ks.length=vs.length)(iX:∀(i j:Nat) (C:Bool->av->Prop),i<vs.length->j<vs.length->C (O.blt (key i) (key j)) s->aX (aW prog w) A (keyLt' κ (ks.getD i bx) (ks.getD j bx)) C (λ_ _=>False) s)
  (cong:∀i j,i<ks.length->j<ks.length->ks.getD i bx=ks.getD j bx->key i=key j) :
  aX (aW prog w) A ((sortRuns').run (dr.mk' κ (ks.toArray.zip vs.toArray) #[] 7 xn)) (λr s'=>s'=s/\∃p:Array Nat,aZ r.2=p.map (ml (ks.toArray.zip vs.toArray))/\fN r.2=xn/\AllN vs.length p/\b1l key p vs.length) E s:=by
 have zs:(ks.toArray.zip vs.toArray).size=vs.length:=by simp[hl]
 have it:∀i,i<vs.length->ml (ks.toArray.zip vs.toArray) i=(ks.getD i bx,vs.getD i bx):=λi hi=>PySem.W.kat_item hl i
 have hz:∀i (h:i<(ks.toArray.zip vs.toArray).size),(ks.toArray.zip vs.toArray)[i]=(ks.getD i bx,vs.getD i bx):=λi h=>by
  rw[<-it i (by lia)];unfold ml;rw[zZ,dif_pos h];rfl
 have H:CmpS prog w A s κ O (b6u key ks) (λx=>∃i,i<vs.length/\x.1=ks.getD i bx):=⟨λx y ⟨i,hi,ei⟩ ⟨j,hj,ej⟩ C hC=>by
  rw[a5O cong (by lia) ei.symm,a5O cong (by lia) ej.symm]at hC;rw[ei,ej];exact iX i j C hi hj hC⟩
 show sA (aW prog w) A E s sortRuns' (λ_ cS=>∃p:Array Nat,aZ cS=p.map (ml (ks.toArray.zip vs.toArray))/\fN cS=xn/\AllN vs.length p/\b1l key p vs.length) (dr.mk' κ (ks.toArray.zip vs.toArray) #[] 7 xn);refine a4g (st:=dr.mk' κ (ks.toArray.zip vs.toArray) #[] 7 xn) H (key 0) (a0:=ks.toArray.zip vs.toArray) ⟨rfl,rfl,Gd _,λi h=>⟨i,?_,?_⟩,rfl,cE _⟩ λcS pm fl up=>?_
 ·have h':i<(ks.toArray.zip vs.toArray).size:=h;lia
 ·show (ks.toArray.zip vs.toArray)[i].1=_;rw[hz]
 have el:(ks.toArray.zip vs.toArray).toList=(ao vs.length).map (ml (ks.toArray.zip vs.toArray)):=by
  apply fV
  ·rw[aR,ai,bH];exact zs
  intro i h1 h2;rw[bX,cY,m_,hz,it i (by rw[aR]at h1;lia)]
 obtain⟨p,pp,pe⟩:=b1n (fF.mp pm) _ el;have hp:AllN vs.length p.toArray:=pp;have ea:aZ cS=p.toArray.map (ml (ks.toArray.zip vs.toArray)):=by
  apply Array.toList_inj.mp;rw[Array.toList_map,pe]
 refine⟨p.toArray,ea,fl,hp,λi j gL hj=>?_⟩;have gH:p.length=vs.length:=by have:=pp.length_eq;rw[bH]at this;exact this
 have sz:(aZ cS).size=vs.length:=by rw[ea,Array.size_map,be];exact gH
 have hk:∀t (ht:t<(aZ cS).size),b6u key ks (aZ cS)[t]=kyP key p.toArray t:=λt ht=>by
  have yr:t<p.length:=by lia
  have hm:p[t]<vs.length:=bw.mp (pp.mem_iff.mp (bW yr));have e1:(aZ cS)[t]=ml (ks.toArray.zip vs.toArray) p[t]:=by
   have:(aZ cS)[t]?=(p.toArray.map (ml (ks.toArray.zip vs.toArray)))[t]?:=by rw[ea]
   rw[bo ht,Array.getElem?_map]at this;simp only[List.getElem?_toArray,ae yr,pA,nH]at this;exact this
  rw[e1,it _ hm,a5O cong (i:=p[t]) (by lia) rfl];unfold kyP;simp[zZ,yr]
 have:=up i j (by lia) gL;rw[hk i (by lia),hk j (by lia)]at this;exact this
end
end VS
namespace VS
open PySem PySem.Spec L2
open PyProof.Rows (KeyOrd SortKind SortSt keyKind' keyLt' seqObj listItems_at listUpdate_at seqEpoch_at arrOf failedOf get?_update_seq list_sort_plain general' tuples' size_push' slot_list_sort entry_list_sort args_list_sort kind_sorted plain_sorted entry_sorted args_sorted1)
open PySem.W (kas_sort kas_ask kas_item kat_run kat_snds)
section
variable {prog:bD}{w:cm}{A:bP}{E:aj->av->Prop}{sh:av}{vs:List aj}{κ:fg}{O:KeyOrd}{key:Nat->O.α}
def Kept(h h':cQ):Prop:=∀b o,h.get? b=cz o->h'.get? b=cz o
theorem Kept.push(x:Kept h h')(o:fY):Kept h (h'.push o):=λb u e=>aF _ (x b u e)
def Kept.upd(x:Kept h h')(f:fY->fY)(ha:h.objs.size<=a):Kept h (h'.update a f):=λb u e=>by
 rw[dF _ _ (jA (bt (aT e) ha))];exact x b u e
structure Sortable (prog:bD) (w:cm) (A:bP) (h0:cQ) (ks:List aj) (κ:fg) (O:KeyOrd) (key:Nat->O.α):Prop where
 kind:2<=ks.length->∀(s:av) (E:aj->av->Prop) (Q:fg->av->Prop),Kept h0 s.heap->Q κ s->aX (aW prog w) A (keyKind' ks.toArray) Q E s
 lt:∀(s:av) (i j:Nat) (C:Bool->av->Prop),Kept h0 s.heap->i<ks.length->j<ks.length->C (O.blt (key i) (key j)) s->aX (aW prog w) A (keyLt' κ (ks.getD i bx) (ks.getD j bx)) C (λ_ _=>False) s
 cong:∀i j,i<ks.length->j<ks.length->ks.getD i bx=ks.getD j bx->key i=key j
def Gives(prog:bD)(w:cm)(A:bP)(sh:av)(r:aj)(vs:List aj):Prop:=
 ∀(E:aj->av->Prop) (Q:List aj->av->Prop),(∀(h':cQ) (tk:Nat),Kept sh.heap h'->sh.heap.objs.size<=h'.objs.size->Q vs {sh with heap:=h',toks:=tk})->aX (aW prog w) A (collect r) Q E sh
def a8s(hh:A.handled=xn)(h0:(d==du)=false)(hm:sh.heap.RawDict d rows ep)(hz:rows.size<=a_):Gives prog w A sh (.ref d) (rows.toList.map (·.key)):=λE Q q=>by
 have hd:d<sh.heap.objs.size:=let⟨_,hu,_⟩:=hm;aT hu
 have fin:∀(h':cQ) (tk:Nat) (acc:Array aj) (c:Nat),(∀b o,b≠sh.heap.objs.size->(sh.heap.push {cls:=.type "list",data:=.seq ([]:List aj).toArray}).get? b=cz o->h'.get? b=cz o)->
   h'.get? sh.heap.objs.size=cz {cls:=.type "list",dict:=xn,data:=.seq acc c,slots:=#[]}->qB (λi v=>∃e,rows[i]?=cz e/\v=e.key) acc rows.size->Q acc.toList {sh with heap:=h',toks:=tk}:=by
  intro h' tk acc c hk hS oh;have e:acc.toList=rows.toList.map (·.key):=by
   refine kj λi=>?_
   rw[aU,bT,bT];by_cases c:i<rows.size
   ·obtain⟨x,hx⟩:∃x,acc[i]?=cz x:=⟨_,bo (by rw[oh.1];exact c)⟩;obtain⟨y,h1,h2⟩:=oh.2 i x hx;rw[hx,h1,h2];rfl
   ·rw[f_ (by rw[oh.1];lia),f_ (by lia)];rfl
  rw[e];exact q h' tk (λb o x=>hk b o (bM (aT x)) (aF _ x)) (fw (aT hS))
 unfold collect;refine af (wpAny_runValue (codeAny_builtin PyProof.Rows.entry_proto_collect' ?_));rw[bP.under_plainId PySem.F.plain_proto_collect _];show aX _ A.in1 (newList [] >>= λl=>again (.builtin "list.__iadd__" ⟨[l,.ref d],[]⟩)) _ _ sh;refine af (iV (aC ⟨lA sk _,codeAny_builtin PyProof.Rows.entry_list_iadd' ?_⟩));rw[bP.under_plainId sk _];show aX _ A.in1 (cR (.ref sh.heap.objs.size) (.ref d) (.ref sh.heap.objs.size)) _ _ _;refine dU (W.kdl_extend (A:=A) (s:={sh with heap:=sh.heap.push {cls:=.type "list",data:=.seq ([]:List aj).toArray}})
  (R:=λ(g:Result) (s':av)=>∃(h':cQ) (tk:Nat) (acc:Array aj) (c:Nat),g=.ok (.ret (.ref sh.heap.objs.size))/\s'={sh with heap:=h',toks:=tk}/\
   h'.get? sh.heap.objs.size=cz {cls:=.type "list",dict:=xn,data:=.seq acc c,slots:=#[]}/\Q acc.toList {sh with heap:=h',toks:=tk})
  (b6r (ep:=ep) h0) hh (hm.at λo e=>aF _ e) sh.heap.objs.size (jA hd) (jA hd) (.ref sh.heap.objs.size) 0 (bj _ rfl)
  (λh' tk acc c hk hS oh=>⟨h',tk,acc,c,rfl,rfl,hS,fin h' tk acc c hk hS oh⟩) hz) (λg s' x=>?_) λe s' x=>?_
 ·cases g with
  |done f=>
   obtain⟨h',tk,acc,c,e,rfl,hS,qq⟩:=x;cases e
   show aX _ A (load sh.heap.objs.size >>= _) _ _ _;exact af (wpAny_load hS (aC qq))
  |again c₁=>
   refine⟨x.1,gX x.2 λg s₂ y=>?_⟩;obtain⟨h',tk,acc,c,rfl,rfl,hS,qq⟩:=y;show aX _ A (load sh.heap.objs.size >>= _) _ _ _;exact af (wpAny_load hS (aC qq))
 ·obtain⟨_,_,_,_,e',_⟩:=x;cases e'
end
end VS
namespace VS
open PySem PySem.Spec L2
open PyProof.Rows (KeyOrd SortKind keyKind' keyLt' tuples' oneType' IntsAre oneLt')
open PySem.W (KatLex KatTups BoolBack)
def F6:List Int->List Int->Bool
 |[],[]=>false
 |[],_::_=>true
 |_::_,[]=>false
 |a::x,b::y=>if a=b then F6 x y else decide (a<b)
theorem a0Q:∀a,F6 a a=false
 |[]=>rfl
 |a::x=>by rw[F6,aD rfl];exact a0Q x
theorem S6:∀a b,F6 a b=false->F6 b a=false->a=b
 |[],[],_,_=>rfl
 |[],_::_,h,_=>by cases h
 |_::_,[],_,h=>by cases h
 |a::x,b::y,h1,h2=>by
  rw[F6]at h1 h2;by_cases c:a=b
  ·subst c;rw[aD rfl]at h1 h2;rw[S6 x y h1 h2]
  ·rw[aM c]at h1;rw[aM (λz=>c z.symm)]at h2;have:=jE h1;have:=jE h2;lia
theorem S7:∀a b c,F6 a b=true->F6 b c=true->F6 a c=true
 |[],[],_,h,_=>by cases h
 |[],_::_,[],_,h=>by cases h
 |[],_::_,_::_,_,_=>rfl
 |_::_,[],_,h,_=>by cases h
 |_::_,_::_,[],_,h=>by cases h
 |a::x,b::y,c::z,h1,h2=>by
  rw[F6]at h1 h2 ⊢;by_cases e1:a=b
  ·subst e1;rw[aD rfl]at h1;by_cases e2:a=c
   ·rw[aD e2]at h2 ⊢;exact S7 x y z h1 h2
   ·rw[aM e2]at h2 ⊢;exact h2
  ·rw[aM e1]at h1;have q1:=bB h1;by_cases e2:b=c
   ·subst e2;rw[aM e1];exact h1
   ·rw[aM e2]at h2;have q2:=bB h2;rw[aM (by lia)];exact aY (by lia)
def b1o(h:F6 a b=true):F6 b a=false:=by
 cases c:F6 b a with
 |false=>rfl
 |true=>rw[<-a0Q a,S7 _ _ _ h c]
def b3B(a b c:List Int)(h:F6 a c=true):F6 a b=true∨F6 b c=true:=by
 cases h1:F6 a b with
 |true=>exact .inl rfl
 |false=>
  refine .inr ?_;cases h2:F6 b a with
  |true=>exact S7 _ _ _ h2 h
  |false=>rw[<-S6 a b h1 h2];exact h
def OI:KeyOrd:=⟨List Int,F6,a0Q,S7,b3B,S6⟩
end VS
namespace VS
open PySem PySem.Spec L2
open PyProof.Rows (IntsAre seqObj)
def b1p(n:List Int):List (List Int)->List (List Int)
 |[]=>[n]
 |m::ms=>if F6 m n then m::b1p n ms else n::m::ms
def a8t:List (List Int)->List (List Int)
 |[]=>[]
 |n::ns=>b1p n (a8t ns)
def leL(a b:List Int):Prop:=F6 b a=false
def b1q(h1:leL a b)(h2:leL b c):leL a c:=PyProof.Rows.KeyOrd.kle_trans (O:=OI) h1 h2
theorem a1q(n:List Int):∀ms,(b1p n ms).Perm (n::ms)
 |[]=>jQ _
 |m::ms=>by
  unfold b1p;by_cases c:F6 m n=true
  ·rw[aD c];exact ((a1q n ms).cons m).trans (List.Perm.swap n m ms)
  ·rw[aM c]
theorem a1r:∀ns,(a8t ns).Perm ns
 |[]=>jQ _
 |n::ns=>(a1q n (a8t ns)).trans ((a1r ns).cons n)
theorem a1Y(n:List Int):∀ms:List (List Int),ms.Pairwise leL->(b1p n ms).Pairwise leL
 |[],_=>dJ ..
 |m::ms,h=>by
  unfold b1p;obtain⟨h1,h2⟩:=hU.mp h;by_cases c:F6 m n=true
  ·rw[aD c];refine hU.mpr ⟨λx hx=>?_,a1Y n ms h2⟩;rcases aI.mp ((a1q n ms).mem_iff.mp hx) with z|z
   ·rw[z];exact b1o c
   ·exact h1 x z
  ·rw[aM c];have AJ:leL n m:=by simpa[leL]using c
   refine hU.mpr ⟨λx hx=>?_,h⟩;rcases aI.mp hx with z|z
   ·rw[z];exact AJ
   ·exact b1q AJ (h1 x z)
theorem a1Z:∀ns:List (List Int),(a8t ns).Pairwise leL
 |[]=>kl
 |n::ns=>a1Y n _ (a1Z ns)
def b1r{a b:List (List Int)}(hp:a.Perm b)(ha:a.Pairwise leL):a=a8t b:=
 List.Perm.eq_of_pairwise (λx y _ _ h1 h2=>S6 _ _ h2 h1) ha (a1Z b) (hp.trans (a1r b).symm)
def kD(kt:Bool)(ns:List Int):D:=if kt then .tuple (ns.map .int) else .int (ns.headD 0)
def b9t(kt:Bool):D->Option (List Int)
 |.int n=>if kt then xn else cz [n]
 |.tuple ds=>if kt then intsOf ds else xn
 |_=>xn
def a9D(kt:Bool):List D->Option (List (List Int))
 |[]=>cz []
 |d::ds=>(b9t kt d).bind λns=>(a9D kt ds).bind λr=>cz (ns::r)
def b1s(h:b9t kt d=cz ns):d=kD kt ns/\(kt=false->ns.length=1):=by
 cases d with
 |int n=>
  cases kt with
  |true=>cases h
  |false=>cases h;exact⟨rfl,λ_=>rfl⟩
 |tuple ds=>
  cases kt with
  |false=>cases h
  |true=>
   have h':intsOf ds=cz ns:=h;cases I9 h'
   exact⟨rfl,λz=>by cases z⟩
 |_=>cases h
theorem a3v:∀{ds:List D} {nss:List (List Int)},a9D kt ds=cz nss->ds=nss.map (kD kt)/\(kt=false->∀ns∈nss,ns.length=1)
 |[],nss,h=>by cases h;exact⟨rfl,λ_ _ z=>(nomatch z)⟩
 |d::ds,nss,h=>by
  obtain⟨ns,h1,h⟩:=bnd (show (b9t kt d).bind _=cz nss from h);obtain⟨r,h2,h3⟩:=bnd h;cases h3
  obtain⟨e1,e2⟩:=b1s h1;obtain⟨e3,e4⟩:=a3v h2;refine⟨by rw[ay,<-e1,<-e3],λz x hx=>?_⟩;rcases aI.mp hx with y|y
  ·rw[y];exact e2 z
  ·exact e4 z x y
section
variable {X:Cx}{pins:List (ax×fY)}{σ:L2.St}{H:Hp}{s:av}
def b6w{key:Nat->List Int}{p:Array Nat}(hp:AllN N p)(hu:b1l (O:=OI) key p N):(p.toList.map key).Pairwise leL:=by
 rw[qJ];intro i j hi hj gL;rw[ai,aR,hp.size]at hi hj;have z:=hu i j (fw gL) hj;have e:∀k (hk:k<N),kyP (O:=OI) key p k=(p.toList.map key)[k]'(by rw[ai,aR,hp.size];exact hk):=λk hk=>by
  have sX:k<p.size:=by rw[hp.size];exact hk
  simp only[kyP,cY,bX]
  congr 1;simp[zZ,sX]
 rw[e i hi,e j hj]at z;exact z
def a4h:∀{l:List α} {p:List Nat},p.Perm (ao l.length)->(p.map λi=>l.getD i d).Perm l:=by
 intro l p h;refine (h.map _).trans (List.Perm.of_eq ?_);refine kj λi=>?_
 rw[aU];by_cases c:i<l.length
 ·rw[fQ c,pA,ae c,ab,ae c];rfl
 ·rw[lH (by simpa using c),lH (by simpa using c)];rfl
end
section
variable {X:Cx}{M:List Md}{a:Expr}{fa:EvE}{ca:Cat}{pos p:fT}
def b9u:D->Option (List D)
 |.dict kvs=>cz (kvs.map (·.1))
 |_=>xn
theorem a2a:∀{kvs:List (D×D)} {es:List (D×V×V)},DenKV K H es kvs->DenAll K H (es.map (·.2.1)) (kvs.map (·.1))
 |[],es,h=>by
  simp only[DenKV]at h;subst h;exact denAll_nil
 | (k,d)::r,es,h=>by
  simp only[DenKV]at h;obtain⟨e,q,rfl,h2,h3,h4,h5⟩:=h;exact denAll_cons h3 (a2a h5)
end
end VS
namespace VS
open PySem PySem.Spec L2
section
variable {K:ag}{H:Hp}{F:List ax}{kt:Bool}{u:Ty}
def b3C(wb:a∈F)(o:HO):Same (cut H F) (cut (upd H a o) F):=λb o' hb=>by
 obtain⟨n1,n2⟩:=l7 hb;exact i4 n1 (by rw[b9 (show b≠a from λz=>n1 (z▸wb))];exact n2)
end
def b9v:∀{us:List α},us.length=1->∃a,us=[a]
 |[a],_=>⟨a,rfl⟩
def b9w:∀{us:List α},us.length=2->∃a b,us=[a,b]
 |[a,b],_=>⟨a,b,rfl⟩
def c1i:∀{us:List α},us.length=3->∃a b c,us=[a,b,c]
 |[a,b,c],_=>⟨a,b,c,rfl⟩
def c2H:∀{us:List α},us.length=4->∃a b c d,us=[a,b,c,d]
 |[a,b,c,d],_=>⟨a,b,c,d,rfl⟩
def c2I:∀{us:List α},us.length=5->∃a b c d e,us=[a,b,c,d,e]
 |[a,b,c,d,e],_=>⟨a,b,c,d,e,rfl⟩
def c2J:∀{us:List α},us.length=6->∃a b c d e f,us=[a,b,c,d,e,f]
 |[a,b,c,d,e,f],_=>⟨a,b,c,d,e,f,rfl⟩
end VS
namespace VS
open PySem PySem.Spec L2
open PyProof.Rows (KeyOrd SortKind SortSt keyKind' keyLt' seqObj listItems_at listUpdate_at seqEpoch_at arrOf failedOf get?_update_seq general' size_push' ksk_end ksk_tail)
open PySem.W (kas_sort kas_ask kas_item kat_run kat_snds)
section
variable {prog:bD}{w:cm}{A:bP}{E:aj->av->Prop}{sh:av}{vs ks:List aj}{κ:fg}{O:KeyOrd}{key:Nat->O.α}{R:cQ->Prop}
structure SortableR (prog:bD) (w:cm) (A:bP) (R:cQ->Prop) (ks:List aj) (κ:fg) (O:KeyOrd) (key:Nat->O.α):Prop where
 kind:2<=ks.length->∀(s:av) (E:aj->av->Prop) (Q:fg->av->Prop),R s.heap->Q κ s->aX (aW prog w) A (keyKind' ks.toArray) Q E s
 lt:∀(s:av) (i j:Nat) (C:Bool->av->Prop),R s.heap->i<ks.length->j<ks.length->C (O.blt (key i) (key j)) s->aX (aW prog w) A (keyLt' κ (ks.getD i bx) (ks.getD j bx)) C (λ_ _=>False) s
 cong:∀h,R h->∀i j,i<ks.length->j<ks.length->ks.getD i bx=ks.getD j bx->key i=key j
def a2b{a kS:ax}{e e1:Nat}{P:ET->av->Prop}{st:dr}{out:List aj}(yG:out.length<=a_)(jW:ks.length<=a_)(zp:(aZ st).map (·.2)=out.toArray)(hf:fN st=xn)(ho:sh.heap.get? a=cz (iA "list" #[] e1))(hk:sh.heap.get? kS=cz (iA "list" ks.toArray e))(iU:kS≠a)
  (q:P (.done (.ret .none)) {sh with heap:=(sh.heap.update kS (bY λ_=>(#[]:Array aj))).update a (bY λ_=>out.toArray)}) :
  aX (aW prog w) A (ksk_tail a false e1 (.ref kS) st) P E sh:=by
 have s1:=fE sh.heap kS (bY λ_=>(#[]:Array aj));have Al:(sh.heap.update kS (bY λ_=>(#[]:Array aj))).get? a=cz (iA "list" #[] e1):=(s1.2 a iU.symm).trans ho;unfold ksk_tail
 try dsimp only
 rw[zp];refine af (sI hk rfl ?_ (by rw[be];exact jW) (cE _));refine af (rK ?_);refine af (seqEpoch_at Al rfl ?_);simp only[bz,dw];refine af (sI Al rfl ?_ (cE _) (by rw[be];exact nJ yG));rw[hf];simp only[bne_self_eq_false,bz,dw];exact aC q
def a8u{a kS:ax}{e e1:Nat}{P:ET->av->Prop}(hl:ks.length=vs.length)(S:SortableR prog w A R ks κ O key)(hR:R sh.heap)(ho:sh.heap.get? a=cz (iA "list" #[] e1))(hk:sh.heap.get? kS=cz (iA "list" ks.toArray e))(iU:kS≠a)(rf:vs.length<65536)
  (q:∀p:Array Nat,AllN vs.length p->b1l key p vs.length->P (.done (.ret .none)) {sh with heap:=(sh.heap.update kS (bY λ_=>(#[]:Array aj))).update a (bY λ_=>(p.toList.map λi=>vs.getD i bx).toArray)}) :
  aX (aW prog w) A (ksk_end a false vs.toArray e1 (.ref kS) ks.toArray) P E sh:=by
 have jW:ks.length<=a_:=by rw[dt];lia
 have yG:∀p:Array Nat,AllN vs.length p->(p.toList.map λi=>vs.getD i bx).length<=a_:=λp hp=>by rw[ai,hp.length_eq,bH,dt];lia
 unfold ksk_end
 try dsimp only
 simp only[bz,dw];by_cases h2:vs.toArray.size<2
 ·rw[aD h2,aD h2];refine af (aC ?_);rw[StateT.run_pure];refine af (aC ?_);have qX:vs.length<2:=by simpa using h2
  have e0:(List.toArray (ao vs.length)).toList.map (λi=>vs.getD i bx)=vs:=by
   match vs,qX with
   |[],_=>rfl
   |[v],_=>rfl
   |_::_::_,h=>simp at h;lia
  have ez:(aZ (dr.mk' general' (ks.toArray.zip vs.toArray) #[] 7 xn)).map (·.2)=vs.toArray:=by
   show (ks.toArray.zip vs.toArray).map (·.2)=vs.toArray;simp[List.map_snd_zip,hl]
  dsimp only
  have q0:=q (List.toArray (ao vs.length)) (jQ _) λi j a b=>by
   obtain rfl:i=j:=by lia
   exact eG _
  rw[e0]at q0;exact a2b (out:=vs) (by rw[dt];lia) jW ez rfl ho hk iU q0
 ·rw[aM h2,aM h2];have FE:¬ vs.length<2:=by simpa using h2
  have qX:2<=vs.length:=by lia
  refine af (S.kind (by lia) sh _ _ hR ?_);refine af (dU (b6v (key:=key) hl (λi j C hi hj hC=>S.lt sh i j C hR (by lia) (by lia) hC) (S.cong _ hR)) ?_ λ_ _ e=>e);rintro⟨⟨⟩,cS⟩ s' ⟨rfl,p,zp,hf,hp,hu⟩
  dsimp only
  exact a2b (yG p hp) jW (kat_snds hl zp) hf ho hk iU (q p hp hu)
end
end VS
namespace VS
open PySem PySem.Spec L2
open PyProof.Rows (seqObj listItems_at listUpdate_at seqEpoch_at ksk_end ksk_rest ksk_fold)
section
variable {X:Cx}{pins:List (ax×fY)}{σ:L2.St}{k:Nat}{f:ax}{fd:dP}{ps:List bG}{sp:Sp}
def b6x(F:FnOk X.prog X.w X.K X.mg X.base CX0 k f fd ps sp)(hr:Room k X.A.in1.in1)(hb:Binds X.K fd ps [])(I:Inv X pins σ H s)(r:Vals vs us)(h:sp vs H Q E0) :
  aX (aW X.prog X.w) X.A.in1.in1 (call (.ref f) us) (EP X pins σ Q) (λ_ _=>False) s:=by
 have hl:us.length=ps.length:=by rw[<-r.length];exact F.len _ _ _ _ h
 have xl:=hb s us I.kIn (by rw[bb];exact hl);rw[bb]at xl;refine uL (gX (F.run X.A.in1.in1 X.stack s H ⟨us,[]⟩ us vs Q E0 hr I.env0.in1.in1 xl r h) λr s' hq=>?_);cases r with
 |error e=>exact hq
 |ok fl=>
  cases fl with
  |ret u=>exact I.after hq
  |next=>exact cK hq
  |brk=>exact cK hq
  |cont=>exact cK hq
def SameX(a:ax)(H H':Hp):Prop:=∀b o,b≠a->H b=cz o->H' b=cz o
def SameX.refl(a:ax)(H:Hp):SameX a H H:=λ_ _ _ h=>h
theorem SameX.cut(h:SameX a H H'):Same (cut H [a]) (cut H' [a]):=λb o hb=>by
 obtain⟨n1,n2⟩:=l7 hb;exact i4 n1 (h b o (λz=>n1 (by rw[z];exact aq.mpr rfl)) n2)
def b6y{a kS:ax}{e1:Nat}{xs:List V}{us:List aj}{kd:Nat->D}{P:ET->av->Prop}{E:aj->av->Prop}{s:av}{H:Hp}(I:Inv X pins σ H s)(rv:Vals xs us)(hk:H kS=cz (.lst []))(rf:us.length<65536)
  (turn:∀(i:Nat) (x:V) (u:aj),xs[i]?=cz x->us[i]?=cz u->∀(s':av) (H':Hp),Inv X pins σ H' s'->SameX kS H H'->(∃kvs,H' kS=cz (.lst kvs))->aX (aW X.prog X.w) X.A.in1.in1 (call (.ref f) [u]) (EP X pins σ λv H2=>Same H' H2/\Den X.K (cut H2 [kS]) v (kd i)) (λ_ _=>False) s')
  (fin:∀(s':av) (H':Hp) (kvs:List V) (ks:List aj) (n:Nat),Inv X pins σ H' s'->SameX kS H H'->H' kS=cz (.lst kvs)->Vals kvs ks->kvs.length=us.length->(∀i v,kvs[i]?=cz v->Den X.K (cut H' [kS]) v (kd i))->s'.heap.get? kS=cz (iA "list" ks.toArray n)->
   aX (aW X.prog X.w) X.A.in1.in1 (ksk_end a false us.toArray e1 (.ref kS) ks.toArray) P E s') :
  aX (aW X.prog X.w) X.A.in1.in1 (ksk_rest a (.ref f) false us.toArray e1 (.ref kS)) P E s:=by
 unfold ksk_rest;refine af (iC ?_)
 first
  |rw[List.forIn_toArray]
  | (rw[<-jR];simp only[xE])
  |rw[<-jR]
 refine af (ksk_fold (λj s'=>∃(Hj:Hp) (kvs:List V),Inv X pins σ Hj s'/\SameX kS H Hj/\Hj kS=cz (.lst kvs)/\kvs.length=j/\∀i v,kvs[i]?=cz v->Den X.K (cut Hj [kS]) v (kd i)) us 0 s
  ⟨H,[],I,SameX.refl _ _,hk,rfl,λi v h=>by simp at h⟩ ?step ?done)
 case step=>
  rintro j u s' hu ⟨Hj,kvs,I',sx,jW,hlen,kT⟩;simp only[ir]at hlen ⊢;have hj:j<us.length:=(aQ.mp hu).1;obtain⟨x,hx⟩:∃x,xs[j]?=cz x:=⟨_,ae (by rw[rv.length];exact hj)⟩;refine af (oy (dU (turn j x u hx hu s' Hj I' sx ⟨kvs,jW⟩) (λkv uN he=>?_) λ_ _ hF=>hF.elim));obtain⟨v,H2,I2,r2,same,den⟩:=he
  try dsimp only
  have vG:H2 kS=cz (.lst kvs):=same _ _ jW;obtain⟨z,its,n,r,hl,e⟩:=I2.lstM vG;refine af (sI e rfl ?_ (by rw[be,dt];lia) (cV (Nat.le_of_eq (Array.size_push ..)) (by rw[be,dt];lia)));have I3:=I2.lset (t':=uN.toks) (f:=(·.push kv)) (its':=its++[kv]) (ys:=kvs++[v]) vG e (by simp) (r.append (.cons r2 .nil)) (by rw[aA,bS,dt];lia);have c2:Same (cut H2 [kS]) (cut (upd H2 kS (.lst (kvs++[v]))) [kS]):=b3C (aq.mpr rfl) _;refine aC ⟨rfl,upd H2 kS (.lst (kvs++[v])),kvs++[v],I3,λb o hb ho=>?_,g8,by rw[aA,hlen];rfl,λi w hw=>?_⟩
  ·rw[b9 hb];exact same _ _ (sx b o hb ho)
  ·rcases cG i kvs.length with c|c
   ·rw[dA c]at hw;exact (kT i w hw).up (((SameX.cut λb o _ h=>same _ _ h)).trans c2)
   ·rw[cF c]at hw;have mT:i-kvs.length=0:=by
     have:=(aQ.mp hw).1;simp at this;lia
    rw[mT]at hw;have e9:v=w:=by simpa using hw
    have e8:i=j:=by lia
    subst e9;subst e8;exact den.up c2
 case done=>
  rintro s' ⟨Hj,kvs,I',sx,jW,hlen,kT⟩;rw[ir]at hlen;obtain⟨z,its,n,r,hl,e⟩:=I'.lstM jW
  try dsimp only
  refine af (listItems_at e rfl ?_);exact fin s' Hj kvs its n I' sx jW r hlen kT e
end
end VS
namespace VS
open PySem PySem.Spec L2
section
variable {X:Cx}{pins:List (ax×fY)}{σ:L2.St}{H:Hp}{s:av}{a:ax}{o:HO}
def b1t(I:Inv X pins σ H s)(hn:H a=xn)(ha:X.s₀.heap.objs.size<=a)(wa:a≠X.env.locals)(lY:∀x c,X.env.cells.lookup x=cz c->c≠a)(q_:∀p∈X.pn++pins,p.1≠a)(new:ObjOk X.prog X.w (upd H a o) s.heap a o):Inv X pins σ (upd H a o) s where
 ok:=I.ok
 os:=I.os
 bare:=I.bare
 base:=⟨I.base.keep,I.base.slot,λb u q n hx=>by rw[b9 (bM (bt (aT q) ha))];exact I.base.free b u q n hx,I.base.there,
  λb xs q=>by rw[b9 (i8 (I.base.tups b xs q) hn)];exact I.base.tups b xs q,
  λb u xs q=>by rw[b9 (i8 (I.base.frzs b u xs q) hn)];exact I.base.frzs b u xs q,
  λb ps q=>by
   obtain⟨more,e⟩:=I.base.tbls b ps q;exact⟨more,by rw[b9 (i8 e hn)];exact e⟩⟩
 loc:=I.loc
 cell:=I.cell
 free:=by rw[b9 (cP wa)];exact I.free
 freeC:=λx c e=>by rw[b9 (lY x c e)];exact I.freeC x c e
 pin:=λp hp=>⟨(I.pin p hp).1,by rw[b9 (q_ p hp)];exact (I.pin p hp).2.1,(I.pin p hp).2.2⟩
 hok:=λb u e=>by
  by_cases hb:b=a
  ·subst hb;rw[g8]at e;cases e;exact new
  ·rw[b9 hb]at e;exact (I.hok b u e).stay (λc v _ q=>q) (λc q=>by rw[b9 (i8 q hn)];exact q) λc xs q=>by rw[b9 (i8 q hn)];exact q
 len:=I.len
end
end VS
namespace VS
open PySem PySem.Spec L2
open PyProof.Rows (KeyOrd SortKind seqObj listItems_at listUpdate_at seqEpoch_at ksk_tree ksk_rest ksk_end ksk_t1 ksk_s1 ksk_l1 kind_sorted plain_sorted entry_sorted slot_list_sort entry_list_sort call_function_entry_kw wpAny_call_entry_kw size_push' get?_update_seq)
section
variable {X:Cx}{pins:List (ax×fY)}{σ:L2.St}{f:ax}{O:KeyOrd}{key:Nat->O.α}{κ:fg}{H:Hp}{s:av}
def a8v{us:List aj}{xs:List V}{kd:Nat->D}(I:Inv X pins σ H s)(hg:Gives X.prog X.w X.A.in1 s r us)(rv:Vals xs us)(rf:us.length<65536)
  (turn:∀(k_:List (ax×fY)) (kS:ax) (i:Nat) (x:V) (u:aj),xs[i]?=cz x->us[i]?=cz u->∀(s':av) (H':Hp),Inv X k_ σ H' s'->Same H H'->H kS=xn->(∃kvs,H' kS=cz (.lst kvs))->aX (aW X.prog X.w) X.A.in1.in1 (call (.ref f) [u]) (EP X k_ σ λv H2=>Same H' H2/\Den X.K (cut H2 [kS]) v (kd i)) (λ_ _=>False) s')
  (srt:∀(k_:List (ax×fY)) (kS:ax) (s':av) (H':Hp) (kvs:List V) (ks:List aj),Inv X k_ σ H' s'->Vals kvs ks->kvs.length=us.length->(∀i v,kvs[i]?=cz v->Den X.K (cut H' [kS]) v (kd i))->H' kS=cz (.lst kvs)->∃R:cQ->Prop,SortableR X.prog X.w X.A.in1.in1 R ks κ O key/\R s'.heap)
  (fin:∀(p:Array Nat) (z:ax) (H':Hp),AllN us.length p->b1l key p us.length->Same H H'->H z=xn->H' z=xn->Q (.ref z) (upd H' z (.lst (p.toList.map λi=>xs.getD i .non)))) :
  aX (aW X.prog X.w) X.A (call (.builtin "sorted") [r] [(cI "key",.ref f)]) (EP X pins σ Q) X.xe s:=by
 have oD:xs.length=us.length:=rv.length;have ud:us.length<=a_:=by rw[dt];lia
 refine call_function_entry_kw kind_sorted plain_sorted entry_sorted (ksk_s1 _ _) ?_;unfold Builtin.«sorted»;refine af (m:=checkCount "sorted" 1 1 _) (aC ?_);refine af (hg _ _ λh1 tk k1 z1=>?_);refine af (wpAny_newList ?_ ud);have oL:(h1.push (iA "list" us.toArray 0)).get? h1.objs.size=cz (iA "list" us.toArray 0):=bj _ rfl;refine af (cZ (wpAny_call_entry_kw slot_list_sort ⟨_,oL,rfl⟩ entry_list_sort ?body (ksk_l1 _ _)))
 case body=>
  show aX (aW X.prog X.w) X.A.in1.in1 (Builtin.«list.sort» ⟨[.ref h1.objs.size],[(cI "key",.ref f)]⟩) _ _ _;rw[ksk_t1];unfold ksk_tree;obtain⟨a,ea⟩:∃a,a=h1.objs.size:=⟨_,rfl⟩;rw[<-ea]at oL ⊢;have sL:s.heap.objs.size<=a:=by rw[ea];exact z1
  obtain⟨c1,o1⟩:∃c1,((h1.push (iA "list" us.toArray 0)).update a (bY λ_=>(#[]:Array aj))).get? a=cz (iA "list" #[] c1):=⟨_,get?_update_seq oL λ_=>#[]⟩;refine af (listItems_at oL rfl (af (sI oL rfl ?_ (by rw[be];exact ud) (cE _))));refine af (seqEpoch_at o1 rfl (af (wpAny_newTuple ?_ ud)));refine af (wpAny_newList ?_ (cE _));refine cZ ?_;obtain⟨jV,zL⟩:∃jV:cQ,jV=((h1.push (iA "list" us.toArray 0)).update a (bY λ_=>(#[]:Array aj))).push (iA "tuple" us.toArray 0):=⟨_,rfl⟩;have Cp:∀b u,s.heap.get? b=cz u->jV.get? b=cz u:=λb u hb=>by
   rw[zL];exact (((show Kept s.heap h1 from k1).push _).upd _ sL).push _ b u hb
  have o2:jV.get? a=cz (iA "list" #[] c1):=by rw[zL];exact aF _ o1
  have wj:H a=xn:=I.hok.fresh sL;have wa:a≠X.env.locals:=jA (bt I.lt sL);have I2:Inv X pins σ H {s with heap:=jV,toks:=tk}:=I.kept Cp;have Fb:Inv X ((a,iA "list" #[] c1)::pins) σ H {s with heap:=jV,toks:=tk}:=I2.pins_of λp hp=>by
   rcases aI.mp hp with rfl|hp
   ·exact⟨o2,wj,wa,I.nofs sL,λv=>by intro z;cases z⟩
   ·exact I2.pin p (ah _ hp)
  have I3:=Fb.lnew (t':=tk) (its:=[]) (ys:=[]) .nil (cE _);have vD:H jV.objs.size=xn:=I2.fresh;show aX (aW X.prog X.w) X.A.in1.in1 (ksk_rest a (.ref f) false us.toArray c1 (.ref (cQ.objs (cQ.push ((h1.push (iA "list" us.toArray 0)).update a (bY λ_=>(#[]:Array aj))) (iA "tuple" us.toArray 0))).size)) _ _ _;rw[<-zL];refine b6y (X:=X) (a:=a) (f:=f) (kd:=kd) (kS:=jV.objs.size) (H:=upd H jV.objs.size (.lst [])) I3 rv g8 rf (λi x u hx hu s' H' I' sx hk=>turn _ jV.objs.size i x u hx hu s' H' I' (λb o hb=>sx b o (i8 hb vD) (by rw[b9 (i8 hb vD)];exact hb)) vD hk) λs' H' kvs ks n I' sx jW rk hlen kT ek=>?_
  have pa:=I'.pin (a,iA "list" #[] c1) (ah _ aL);have iU:jV.objs.size≠a:=jA (aT o2);obtain⟨R,S,hR⟩:=srt _ jV.objs.size s' H' kvs ks I' rk hlen kT jW;refine a8u (sh:=s') (by rw[<-rk.length];exact hlen) S hR pa.1 ek iU rf λp hp hu=>⟨_,rfl,?_⟩
  have J1:=I'.lset (t':=s'.toks) (f:=λ_=>(#[]:Array aj)) (its':=[]) (ys:=[]) jW ek rfl .nil (cE _);have J2:Inv X pins σ (upd H' jV.objs.size (.lst [])) {s' with heap:=s'.heap.update jV.objs.size (bY λ_=>(#[]:Array aj)),toks:=s'.toks}:=J1.pins_of λp hp=>J1.pin p (by rcases ar.mp (ah X.pn hp) with z|z;exact ak _ z;exact ah _ (aw _ z))
  have wZ:upd H' jV.objs.size (.lst []) a=xn:=by rw[b9 iU.symm];exact pa.2.1
  have AD:X.s₀.heap.objs.size<=a:=cV I.sz sL;have lY:∀x c,X.env.cells.lookup x=cz c->c≠a:=λx c e z=>by
   obtain⟨v,hv⟩:=I.cell x c e;obtain⟨ob,CP,_⟩:=hv;have this:=aT CP;rw[z]at this;exact dS _ (bt this sL)
  have q_:∀p∈X.pn++pins,p.1≠a:=λp hp z=>by
   have this:=aT (I.pin p hp).1;rw[z]at this;exact dS _ (bt this sL)
  have oa:(s'.heap.update jV.objs.size (bY λ_=>(#[]:Array aj))).get? a=cz (iA "list" #[] c1):=((fE s'.heap jV.objs.size _).2 a iU.symm).trans pa.1;have J3:=J2.turned (it:=a) (t':=s'.toks) (h':=(s'.heap.update jV.objs.size (bY λ_=>(#[]:Array aj))).update a (bY λ_=>(p.toList.map λi=>us.getD i bx).toArray)) (λb o hb ho=>((fE (s'.heap.update jV.objs.size (bY λ_=>(#[]:Array aj))) a _).2 b hb).trans ho) wZ wa (.inr AD) lY q_;obtain⟨c3,o3⟩:∃c3,((s'.heap.update jV.objs.size (bY λ_=>(#[]:Array aj))).update a (bY λ_=>(p.toList.map λi=>us.getD i bx).toArray)).get? a=cz (iA "list" (p.toList.map λi=>us.getD i bx).toArray c3):=⟨_,get?_update_seq oa λ_=>_⟩;have gH:p.toList.length=us.length:=by rw[hp.length_eq,bH]
  have hv:Vals (p.toList.map λi=>xs.getD i .non) (p.toList.map λi=>us.getD i bx):=by
   refine a2E (by rw[ai,ai]) λi x u g1 g2=>?_
   rw[aU]at g1 g2;obtain⟨j,j1,rfl⟩:=fq.mp g1;rw[j1]at g2;cases g2
   have hj:j<us.length:=bw.mp (hp.mem_iff.mp (bh j1));have sY:xs[j]?=cz (xs.getD j .non):=by rw[ae (by lia),ab,ae (by lia)];rfl
   obtain⟨u,hu,ru⟩:=rv.get sY;show RelV (xs.getD j .non) (us.getD j bx);rw[ab (l:=us),hu];exact ru
  have J4:=b1t (a:=a) (o:=.lst (p.toList.map λi=>xs.getD i .non)) J3 wZ AD wa lY q_ ⟨by rw[ai,gH];exact ud,_,c3,hv,o3⟩;refine aC ⟨.ref a,rfl,.ref a,_,J4,rfl,fin p a _ hp hu (λb o hb=>?_) wj wZ⟩;have zm:=i8 hb vD;rw[b9 zm];exact sx b o zm (by rw[b9 zm];exact hb)
end
end VS
namespace VS
open PySem PySem.Spec L2
open PySem.W (KatLex KatTups BoolBack)
open PyProof.Rows (KeyOrd SortKind keyKind' keyLt' tuples')
def kdP(ns:List Int):D:=.tuple [.int ns.length,.tuple (ns.map .int)]
def sqD(l:Bool)(ns:List Int):D:=if l then .list (ns.map .int) else .tuple (ns.map .int)
def kdQ(l:Bool)(ns:List Int):D:=.tuple [.int ns.length,sqD l ns]
def b6z(l:Bool)(ns:List Int):D->Bool
 |.list ds=>l&&decide (intsOf ds=cz ns)
 |.tuple ds=>!l&&decide (intsOf ds=cz ns)
 |_=>false
def b9x(l:Bool)(ns:List Int):Option D->Bool
 |some (.tuple [.int n,d])=>decide (n=ns.length)&&b6z l ns d
 |_=>false
def b1u(h:b6z l ns d=true):d=sqD l ns:=by
 cases d with
 |list ds=>
  have h':(l&&decide (intsOf ds=cz ns))=true:=h;rw[aB]at h';rw[h'.1,I9 (bB h'.2)];rfl
 |tuple ds=>
  have h':(!l&&decide (intsOf ds=cz ns))=true:=h;rw[aB,Bool.not_eq_true']at h';rw[h'.1,I9 (bB h'.2)];rfl
 |_=>cases h
def b1v:∀{o:Option D},b9x l ns o=true->o=cz (kdQ l ns)
 |some (.tuple [.int n,d]),h=>by
  have h':(decide (n=ns.length)&&b6z l ns d)=true:=h;rw[aB]at h';rw[bB h'.1,b1u h'.2];rfl
def b6A(l:Bool)(ns:List Int):b9x l ns (cz (kdQ l ns))=true:=by
 show (decide ((ns.length:Int)=ns.length)&&b6z l ns (sqD l ns))=true;rw[aY rfl,mL];cases l
 ·show (!false&&decide (intsOf (ns.map .int)=cz ns))=true;rw[a0m,aY rfl];rfl
 ·show (true&&decide (intsOf (ns.map .int)=cz ns))=true;rw[a0m,aY rfl];rfl
noncomputable def b1w(l:Bool)(m:List D->Option D)(nss:List (List Int)):Bool:=decide (nss.length<65536)&&nss.all λns=>b9x l ns (m [sqD l ns])
def b1x(h:b1w l m nss=true):nss.length<65536/\∀ns∈nss,m [sqD l ns]=cz (kdQ l ns):=by
 unfold b1w at h;rw[aB,eM]at h;exact⟨bB h.1,λns hn=>b1v (h.2 ns hn)⟩
def b6B{nss:List (List Int)}(h:nss.length<65536)(hm:∀ns∈nss,m [sqD l ns]=cz (kdQ l ns)):b1w l m nss=true:=by
 unfold b1w;rw[aB,eM];exact⟨aY h,λns hn=>by rw[hm ns hn];exact b6A l ns⟩
theorem eqI:∀xs ys:List Int,bQ (xs.map aO) (ys.map aO)=decide (xs=ys)
 |[],[]=>by simp[bQ]
 |[],_::_=>by simp[bQ]
 |_::_,[]=>by simp[bQ]
 |x::xs,y::ys=>by
  have:aH (.int x) (.int y)=decide (x=y):=by
   show (x==y)=decide (x=y);exact gv x y
  simp only[ay,bQ,this,eqI xs ys,gk];by_cases h1:x=y<;>by_cases h2:xs=ys<;>simp[h1,h2]
theorem b9y:∀ns:List Int,ba (ns.map aO)=true
 |[]=>by simp only[c_,ba]
 |n::ns=>by simp only[ay,ba,dI,b9y ns,eO]
theorem c1j:∀ns:List Int,cW (ns.map aO)=0
 |[]=>by simp only[c_,cW]
 |n::ns=>by simp only[ay,cW,eX,c1j ns];rfl
def a5P(r:Reads h v (kdQ l ns) as) :
  ∃(a:ax) (o:fY) (vs:Array aj) (m:Nat) (t:Tok) (u:aj) (bs:List ax),v=.ref a/\h.get? a=cz o/\o.cls=.type "tuple"/\o.data=.seq vs m/\vs.toList=[.int ns.length t,u]/\Reads h u (sqD l ns) bs:=by
 unfold kdQ at r;cases r with
 |@tuple a o vs m xs as ho hc hd rs=>
  generalize hv:vs.toList=l at rs;cases rs with
  |cons r1 rs=>
   cases rs with
   |cons r2 rs=>
    cases rs with
    |nil=>
     cases r1 with
     |int i t=>exact⟨a,o,vs,m,t,_,_,rfl,ho,hc,hd,hv,r2⟩
section
variable {prog:bD}{w:cm}{A:bP}
theorem b7H:∀{ks:List aj} {nss:List (List Int)},ks.length=nss.length->(∀i,i<ks.length->∃as,Reads h (ks.getD i bx) (kdQ l (nss.getD i [])) as)->∃fs,KatTups h ks fs/\fs.length=ks.length/\∀v∈fs,∃n t,v=jx n t
 |[],_,_,_=>⟨[],trivial,rfl,λ_ h=>(nomatch h)⟩
 |v::vs,[],hl,_=>by simp at hl
 |v::vs,ns::nss,hl,hv=>by
  obtain⟨fs,h1,h2,h3⟩:=b7H (ks:=vs) (nss:=nss) (by simpa using hl) λi hi=>by have:=hv (i+1) (by simpa using hi);simpa using this
  obtain⟨as,r⟩:=hv 0 (Nat.zero_lt_succ _);obtain⟨a,o,xs,m,t,u,bs,e,ho,hc,hd,hx,_⟩:=a5P (show Reads h v (kdQ l ns) as from r);have t_:xs[0]?=cz (jx ns.length t):=by rw[<-bT,hx];rfl
  refine⟨jx ns.length t::fs,⟨⟨a,o,xs,m,e,ho,hc,hd,t_⟩,h1⟩,by rw[aS,aS,h2],λy hy=>?_⟩;rcases aI.mp hy with z|z
  ·rw[z];exact⟨_,_,rfl⟩
  ·exact h3 y z
def b6C(h:kdQ l ms=kdQ l ns):ns=ms:=by
 have ii:∀{a b:List Int},a.map aO=b.map aO->b=a:=λ{a b} e=>((List.map_inj_right λx y e=>by cases e;rfl).mp e).symm
 unfold kdQ at h;have h2:=(rH (rH (cy.inj h)).2).1;cases l with
 |true=>exact ii (cU.inj h2)
 |false=>exact ii (cy.inj h2)
theorem a3w:∀a b,F6 a b=HT.lexLt a b
 |[],[]=>rfl
 |[],_::_=>rfl
 |_::_,[]=>rfl
 |_::x,_::y=>by rw[F6,HT.a2O,a3w x y]
theorem a3x:∀{ns:List Int} {vs:List aj} {as:List ax},iZ h vs (ns.map aO) as->ma vs ns
 |[],_,_,r=>by cases r;exact .nil
 |n::ns,_,_,r=>by cases r with|cons r1 r2=>cases r1;exact .cons _ _ (a3x r2)
def a7b(r:Reads h v (sqD false ns) as):∃a its,v=.ref a/\PyProof.Rows.IsTup h a its/\ma its.toList ns:=by
 replace r:Reads h v (.tuple (ns.map .int)) as:=r
 cases r with
 |@tuple a o vs m xs as ho hc hd rs=>exact⟨a,vs,rfl,⟨o,ho,hc,m,hd⟩,a3x rs⟩
def a4i{ks:List aj}{nss:List (List Int)}(hl:ks.length=nss.length)(hu:A.units+8<dW) :
  SortableR prog w A (λh=>∀i,i<ks.length->∃as,Reads h (ks.getD i bx) (kdQ false (nss.getD i [])) as) ks (tuples' true) OI (λi=>(((nss.getD i []).length:Nat):Int)::nss.getD i []) where
 kind:=λh2 s E Q hR q=>by
  obtain⟨fs,h1,kE,h3⟩:=b7H hl hR;refine W.kat_kind (T:=fL "int") h1 (by lia) (λv CC=>?_) rfl q;obtain⟨n,t,rfl⟩:=h3 v CC;exact λA Q E s _ q=>aC q
 cong:=λh hR i j hi hj e=>by
  obtain⟨as,ri⟩:=hR i hi;obtain⟨bs,rj⟩:=hR j hj;rw[<-e]at rj;have z:=(PyProof.Rows.reads_det (λ_ _ e _=>e) ri rj).1;have:nss.getD i []=nss.getD j []:=b6C z;exact dH (λns:List Int=>(((ns.length:Nat):Int)::ns:List Int)) this
 lt:=λs i j C hR hi hj q=>by
  obtain⟨as,ri⟩:=hR i hi;obtain⟨bs,rj⟩:=hR j hj;obtain⟨a,o,xs,k,t,u,us,e1,ho,_,hd,hx,ru⟩:=a5P ri;obtain⟨a',o',ys,k',t',u',Fg,e2,oW,_,kc,hy,xP⟩:=a5P rj;rw[e1,e2];refine W.kat_lt ho hd oW kc ?_;have q':C (F6 ((((nss.getD i []).length:Nat):Int)::nss.getD i []) ((((nss.getD j []).length:Nat):Int)::nss.getD j [])) s:=q;generalize nss.getD i []=ns at q' hx ru;generalize nss.getD j []=ms at q' hy xP;rw[hx,hy,dB,dB,mZ];have hz:decide (xs.size<ys.size)=false:=by
   have z1:=dH et hx;have z2:=dH et hy;rw[aR]at z1 z2;simp only[aS,gU]at z1 z2;exact br (by lia)
  rw[hz];rw[F6]at q';refine W.kat_cons (wpAny_eqBool_int ?_);have lay:∀ns:List Int,(sqD false ns).canLay0=true:=λns=>by simp only[sqD,dw,bz,dI];exact b9y ns
  have FW:(sqD false ns).depth<=1:=by simp only[sqD,dw,bz,eX,c1j];lia
  by_cases c:((ns.length:Nat):Int)=((ms.length:Nat):Int)
  ·rw[aD c]at q';rw[show (((ns.length:Nat):Int)==((ms.length:Nat):Int))=true by simp[c]];refine W.kat_yes (W.kat_cons (rA _ _ A s _ _ _ _ ru xP (lay ns) (lay ms) (by have:=lr (sqD false ns).depth (sqD false ms).depth;lia) _ _ _ _ ?_));have ee:aH (sqD false ns) (sqD false ms)=decide (ns=ms):=by simp only[sqD,dw,bz,aH];exact eqI ns ms
   rw[ee];by_cases c2:ns=ms
   ·rw[aY c2];refine W.kat_yes (W.kat_nil ?_);rw[c2,a0Q]at q';exact q'
   ·rw[br c2];refine W.kat_no ?_;refine W.kat_one _ _ ?_;obtain⟨_,_,z1,p1,i1⟩:=a7b ru;obtain⟨_,_,z2,p2,i2⟩:=a7b xP;rw[z1,z2];exact HT.a7P p1 p2 i1 i2 (by lia) (by rw[<-a3w];exact q')
  ·rw[aM c]at q';rw[show (((ns.length:Nat):Int)==((ms.length:Nat):Int))=false by simp[c]];exact W.kat_no (PyProof.Rows.oneLt_int q')
end
end VS
namespace VS
open PySem PySem.Spec L2
def a1s(ns:List Int):List Int:=((ns.length:Nat):Int)::ns
def U3(nss:List (List Int)):List (List Int):=(a8t (nss.map a1s)).map sr
def b3D{nss:List (List Int)}(hp:AllN nss.length p)(hu:b1l (O:=OI) (λi=>(((nss.getD i []).length:Nat):Int)::nss.getD i []) p nss.length):p.toList.map (λi=>nss.getD i [])=U3 nss:=by
 unfold U3;have e:p.toList.map (λi=>(((nss.getD i []).length:Nat):Int)::nss.getD i [])=a8t (nss.map a1s):=by
  refine b1r ?_ (b6w hp hu);have h:=(a4h (d:=([]:List Int)) (l:=nss) hp).map a1s;rw[bF]at h;exact h
 rw[<-e,bF];rfl
section
variable {X:Cx}{pins:List (ax×fY)}{σ:L2.St}{H:Hp}{s:av}{k:Nat}{f:ax}{fd:dP}{ps:List bG}{m:List D->Option D}
def b1y{nss:List (List Int)}(F:FnOk X.prog X.w X.K X.mg X.base CX0 k f fd ps (spD X.K 1 m .i))(hr:Room k X.A.in1.in1)(hb:Binds X.K fd ps [])(I:Inv X pins σ H s)(hg:Gives X.prog X.w X.A.in1 s r us)(rv:Vals xs us)(hd:DenAll X.K H xs (nss.map λns=>.tuple (ns.map .int)))
  (rf:nss.length<65536) (hm:∀ns∈nss,m [.tuple (ns.map .int)]=cz (kdP ns)) (q:∀z out H',Same H H'->H z=xn->H' z=xn->DenAll X.K H' out ((U3 nss).map λns=>.tuple (ns.map .int))->Q (.ref z) (upd H' z (.lst out))) :
  aX (aW X.prog X.w) X.A (call (.builtin "sorted") [r] [(cI "key",.ref f)]) (EP X pins σ Q) X.xe s:=by
 have oD:xs.length=nss.length:=by rw[hd.length,ai]
 have Aw:us.length=nss.length:=by rw[<-rv.length];exact oD
 have rW:∀i x,xs[i]?=cz x->i<nss.length/\Den X.K H x (.tuple ((nss.getD i []).map .int)):=λi x hx=>by
  have hi:i<nss.length:=by rw[<-oD];exact (aQ.mp hx).1
  have e1:(nss.map λns=>cy (ns.map .int))[i]?=cz (.tuple ((nss.getD i []).map .int)):=by rw[aU,ae hi,ab,ae hi];rfl
  obtain⟨v,hv,dv⟩:=hd.get e1;rw[hx]at hv;cases hv
  exact⟨hi,dv⟩
 have iW:∀i,i<nss.length->nss.getD i []∈nss:=λi hi=>by rw[ab,ae hi];exact bW hi
 have yT:∀ns:List Int,imm (kdP ns)=true:=λns=>by unfold kdP;simp only[imm,c9,eN,mL];exact b9s ns
 have vC:∀ns:List Int,(kdP ns).canLay0=true:=λns=>by unfold kdP;simp only[dI,ba,eN,mL];exact b9y ns
 refine a8v (f:=f) (O:=OI) (κ:=PyProof.Rows.tuples' true) (key:=λi=>(((nss.getD i []).length:Nat):Int)::nss.getD i []) (kd:=λi=>kdP (nss.getD i [])) I hg rv (by lia) (λk_ kS i x u hx hu s' H' I' same _ hk=>?_) (λk_ kS s' H' kvs ks I' rk hlen kT jW=>?_) λp z H' hp hu same hz rN=>?_
 ·obtain⟨hi,dx⟩:=rW i x hx;obtain⟨u',rP,ru⟩:=rv.get hx;rw[hu]at rP;cases rP
  refine b6x F hr hb I' (.cons ru .nil) ⟨[.tuple ((nss.getD i []).map .int)],kdP (nss.getD i []),rfl,denAll_cons (dx.up same) denAll_nil,hm _ (iW i hi),λv H2 fp e o nd fr=>⟨e,(o.den _).imm_out (F:=[kS]) (λb hb=>by obtain⟨kvs,hk⟩:=hk;rw[aq.mp hb];exact⟨⟨.lst kvs,trivial⟩,e _ _ hk⟩) _ (yT _)⟩⟩
 ·have Ds:ks.length=nss.length:=by rw[<-rk.length,hlen];exact Aw
  refine⟨_,a4i (nss:=nss) Ds (by have:=hr.un;lia),λi hi=>?_⟩;obtain⟨v,hv⟩:∃v,kvs[i]?=cz v:=⟨_,ae (by rw[rk.length];exact hi)⟩;obtain⟨u,hu,ru⟩:=rk.get hv;rw[ab,hu];exact Den.reads I' _ (vC _) ((kT i v hv).up k6) ru
 ·rw[Aw]at hp hu;refine q z _ H' same hz rN ?_;rw[<-b3D hp hu,bF];have:∀l:List Nat,(∀j∈l,j<nss.length)->DenAll X.K H' (l.map λi=>xs.getD i .non) (l.map ((λns=>cy (ns.map .int)) ∘ λi=>nss.getD i [])):=by
   intro l
   induction l with
   |nil=>intro _;exact denAll_nil
   |cons j l ih=>
    intro hj;have pI:=hj j aL;have sY:xs[j]?=cz (xs.getD j .non):=by rw[ae (by lia),ab,ae (by lia)];rfl
    exact denAll_cons ((rW j _ sY).2.up same) (ih λk hk=>hj k (aw _ hk))
  exact this _ λj hj=>bw.mp (hp.mem_iff.mp hj)
def a8w{nss:List (List Int)}(hc:X.calm=true)(F:FnOk X.prog X.w X.K X.mg X.base CX0 k f fd ps (spD X.K 1 m .i))(hr:Room k X.A.in1.in1)(hb:Binds X.K fd ps [])(I:Inv X pins σ H s)(hH:H p=cz (g7 p es))(hd:DenAll X.K H (es.map (·.2.1)) (nss.map λns=>.tuple (ns.map .int)))
  (rf:nss.length<65536) (hm:∀ns∈nss,m [.tuple (ns.map .int)]=cz (kdP ns)) (q:∀z out H',Same H H'->H z=xn->H' z=xn->DenAll X.K H' out ((U3 nss).map λns=>.tuple (ns.map .int))->Q (.ref z) (upd H' z (.lst out))) :
  aX (aW X.prog X.w) X.A (call (.builtin "sorted") [.ref p] [(cI "key",.ref f)]) (EP X pins σ Q) X.xe s:=by
 obtain⟨h0,hl,hn,o,ents,ep,g1,g2,g3,g4⟩:=y7 I hH;refine b1y F hr hb I (a8s (by simpa using I.ok.hd hc) h0 ⟨o,g1,g2,g3⟩ (by have z:=gG g4;have z2:ents.toList.length=ents.size:=aR;lia)) ?_ hd rf hm q;have:∀{es:List (D×V×V)} {l:List hX},fO T4 es l->Vals (es.map (·.2.1)) (l.map (·.key)):=by
  intro es l h
  induction h with
  |nil=>exact .nil
  |cons r _ ih=>exact .cons r.2.1 ih
 exact this g4
end
def a8x(ns:List Int):D:=.tuple (ns.map .int)
noncomputable def a0q(m:List D->Option D)(a:EvE):EvE:=λZ=>(a Z).bind λd=>(b9u d).bind λks=>(a9D true ks).bind λnss=>if b1w false m nss then cz (.list ((U3 nss).map a8x)) else xn
section
variable {X:Cx}{M:List Md}{a:Expr}{fa:EvE}{ca:Cat}{pos p py lC:fT}{y:bG}{k:Nat}{ps:List bG}{m:List D->Option D}{ta:TE}
noncomputable def b9z(X:Cx)(m:List D->Option D)(ta:TE):TE:=λσ H Q=>a6q ta b2q σ H λxs H1=>∃pd es nss,xs=[V.ref pd]/\H1 pd=cz (g7 pd es)/\DenAll X.K H1 (es.map (·.2.1)) (nss.map a8x)/\nss.length<65536/\(∀ns∈nss,m [a8x ns]=cz (kdP ns))/\∀z out H',Same H1 H'->H1 z=xn->H' z=xn->DenAll X.K H' out ((U3 nss).map a8x)->Q (.ref z) (upd H' z (.lst out))
def b3E(hc:X.calm=true)(yK:X.mg "sorted"=xn)(W:Has X.prog X.w X.K X.mg X.base y k ps (spD X.K 1 m .i))(hr:Room (k+2) X.A)(ha:PE X a ta)(hg:Gl X "sorted":=by rfl)(vL:Gl X y:=by rfl)(vQ:(y==("__debug__":bG))=false:=by decide)
  (he:au [a] X.env=(false,cC a X.env)::au [] X.env:=by rfl) (oX:cH pos (au [a] X.env)=(false,cC a X.env)::cH pos (au [] X.env):=by rfl) (eJ:(cH pos (au [a] X.env)).any (·.1)=false:=by rfl)
  (jk:(e_ pos (dE [⟨cz (cI "key"),.Name y py,lC⟩] X.env)).all (·.1.isSome)=true:=by rfl) (yO:(e_ pos (dE [⟨cz (cI "key"),.Name y py,lC⟩] X.env)).any (·.1.isNone)=false:=by rfl)
  (jW:(e_ pos (dE [⟨cz (cI "key"),.Name y py,lC⟩] X.env)).filterMap (·.1)=[cI "key"]:=by rfl) :
  PE X (.Call (.Name "sorted" p) [a] [⟨cz (cI "key"),.Name y py,lC⟩] pos) (b9z X m ta):=by
 obtain⟨f,fd,F,b,kp,C_⟩:=W.ex;intro pins s σ H Q I h;refine gz (U5 I hg yK PyProof.Rows.Boot.«sorted» ?_ (by decide) (by decide));have hA:PA X [a] (a6q ta b2q):=j8 ha o7 he;have hK:PK X [⟨cz (cI "key"),.Name y py,lC⟩] (a6q (tC (.ref f)) b2q):=b5u (a9g vL C_ rfl vQ) b8s;refine PyProof.Rows.callWith_kw (L2.thn (hA pos pins s σ H _ I h) λus s1 ⟨xs,H1,I1,r1,pd,es,nss,e0,hH,hd,rf,hm,q⟩=>?_) oX eJ jk yO;subst e0;refine L2.thn (hK pos pins s1 σ H1 (λzs H2=>zs=[.ref f]/\H2=H1) I1 ⟨rfl,rfl⟩) λws s2 ⟨zs,H2,I2,r2,ez,eH⟩=>?_
 subst ez;subst eH;rw[jW];obtain⟨u,rfl,ru⟩:=r1.one;obtain⟨w,rfl,uO⟩:=r2.one;cases (show u=bL pd from ru)
 cases (show w=bL f from uO)
 exact a8w hc F hr.in1.in1 b I2 hH hd rf hm q
def a7c(hc:X.calm=true)(yK:X.mg "sorted"=xn)(W:Has X.prog X.w X.K X.mg X.base y k ps (spD X.K 1 m .i))(hr:Room (k+2) X.A)(ha:PX X M a fa ca)(hg:Gl X "sorted":=by rfl)(vL:Gl X y:=by rfl)(vQ:(y==("__debug__":bG))=false:=by decide)
  (he:au [a] X.env=(false,cC a X.env)::au [] X.env:=by rfl) (oX:cH pos (au [a] X.env)=(false,cC a X.env)::cH pos (au [] X.env):=by rfl) (eJ:(cH pos (au [a] X.env)).any (·.1)=false:=by rfl)
  (jk:(e_ pos (dE [⟨cz (cI "key"),.Name y py,lC⟩] X.env)).all (·.1.isSome)=true:=by rfl) (yO:(e_ pos (dE [⟨cz (cI "key"),.Name y py,lC⟩] X.env)).any (·.1.isNone)=false:=by rfl)
  (jW:(e_ pos (dE [⟨cz (cI "key"),.Name y py,lC⟩] X.env)).filterMap (·.1)=[cI "key"]:=by rfl) :
  PX X M (.Call (.Name "sorted" p) [a] [⟨cz (cI "key"),.Name y py,lC⟩] pos) (a0q m fa) (.new (.l .i)):=by
 obtain⟨ta,pa,qa⟩:=ha.out;refine .mk ⟨_,b3E hc yK W hr pa hg vL vQ he oX eJ jk yO jW,λZ σ H P F d Q S hf q=>?_⟩;obtain⟨x,h1,g1⟩:=bnd hf;obtain⟨ks,h2,g2⟩:=bnd g1;obtain⟨nss,h3,g3⟩:=bnd g2;obtain⟨e1,_⟩:=a3v h3;by_cases c:b1w false m nss=true
 ·rw[aD c]at g3;have c:nss.length<65536/\∀ns∈nss,m [a8x ns]=cz (kdP ns):=b1x c;cases g3
  cases x with
  |dict kvs=>
   cases h2
   refine qa Z σ H P F _ _ S h1 λv H1 w1 r1=>?_
   obtain⟨pp,es,rfl,k1,k2⟩:=r1.den.dict_inv;refine⟨pp,es,nss,rfl,k1,?_,c.1,c.2,λz out H' same hz rN ho=>q _ _ ((w1.trans same).trans (k9 rN _)) ?_⟩
   ·have hk:=a2a k2;rw[e1]at hk;exact hk
   ·have hi:∀l:List (List Int),c9 (l.map a8x)=true:=λl=>by
     induction l with
     |nil=>simp only[c_,c9]
     |cons ns l ih=>simp only[ay,c9,ih,eN,a8x,imm];exact b9s ns
    exact Y1 ho (hi _) (w1.trans same) rN (S.lst' (w1.trans same))
  |_=>cases h2
 ·rw[aM c]at g3;cases g3
end
section
variable {X:Cx}{M:List Md}{a b:Expr}{rest:List Expr}{fa fb:EvE}{u:Ty}{pos:fT}{ta tb:TE}
def b9A(ha:PE X a ta)(hb:PE X (.BoolOp .Or (b::rest) pos) tb):PE X (.BoolOp .Or (a::b::rest) pos) (λσ H Q=>ta σ H λx H1=>∃k,b5r X.K x H1 k/\if k=true then Q x H1 else tb σ H1 Q):=by
 intro pins s σ H Q I h;refine PyProof.Rows.BoolOp_or (L2.thn (ha pins s σ H _ I h) λv s1 ⟨x,H1,I1,r1,k,hk,q1⟩=>?_);refine L2.thn (b2o pins s1 σ H1 x v (λc H2=>c=k/\H2=H1) I1 r1 ⟨k,hk,rfl,rfl⟩) λc s2 ⟨H2,I2,ec,eH⟩=>?_
 subst ec;subst eH;cases c with
 |true=>exact⟨x,H2,I2,r1,q1⟩
 |false=>exact hb pins s2 σ H2 Q I2 q1
noncomputable def b6D(fa fb:EvE):EvE:=λZ=>(fa Z).bind λd=>(tr d).bind λk=>if k then cz d else fb Z
def b9B(ha:PX X M a fa (.new u))(hb:PX X M (.BoolOp .Or (b::rest) pos) fb (.new u)):PX X M (.BoolOp .Or (a::b::rest) pos) (b6D fa fb) (.new u):=by
 obtain⟨ta,pa,qa⟩:=ha.out;obtain⟨tb,pb,qb⟩:=hb.out;refine .mk ⟨_,b9A pa pb,λZ σ H P F d Q S hf q=>?_⟩;obtain⟨x,h1,hf⟩:=bnd hf;obtain⟨k,h2,hf⟩:=bnd hf;refine qa Z σ H P F _ _ S h1 λv H1 e1 r1=>⟨k,b2D r1.den h2,?_⟩
 cases k with
 |true=>
  have qf:d=x:=(aE hf).symm;subst qf;exact a5r (q _ H1 e1 r1)
 |false=>exact a6t (qb Z σ H1 P F d Q (S.grow e1) hf λw H2 e2 r2=>q w H2 (e1.trans e2) (r2.early e1))
end
def a7d(F:List ax)(H H2:Hp):Hp:=λa=>if a∈F then H a else H2 a
def a0R(h:a∈F):a7d F H H2 a=H a:=aD h
def p6(h:a∉F):a7d F H H2 a=H2 a:=aM h
def b9C(sp:Sp):Sp:=λvs H Q E=>∃F:List ax,(∀a∈F,∃ys:MuO,H a=cz ys.1)/\sp vs (cut H F) (λv H2=>(∀a∈F,H2 a=xn)->Q v (a7d F H H2)) E
section
variable {P:bD}{w:cm}{K:ag}{mg:bG->Option aj}{base:cQ}{k:Nat}{f:ax}{fd:dP}{ps:List bG}{sp:Sp}{H:Hp}{h:cQ}{F:List ax}
def a1t(hF:∀a∈F,∃ys:MuO,H a=cz ys.1)(e:H b=cz o)(n:¬ Mu o):b∉F:=λz=>by
 obtain⟨ys,hy⟩:=hF b z;rw[e]at hy;cases hy
 exact n ys.2
def b9D(h:Pin a o):¬ Mu o:=by cases o<;>first|exact λz=>z|exact λ_=>h
def b6E(hk:HOk P w H h)(hF:∀a∈F,∃ys:MuO,H a=cz ys.1):HOk P w (cut H F) h:=λa o e=>by
 obtain⟨_,e'⟩:=l7 e;exact (hk a o e').stay (λb u _ q=>q) (λb q=>i4 (a1t hF q (λz=>z)) q) λb xs q=>i4 (a1t hF q (b9D xs.2)) q
def y8(n:H a=xn):cut H F a=xn:=by
 by_cases q:a∈F
 ·exact U9 q
 ·rw[X7 q];exact n
def a8y(F0:FnOk P w K mg base CX0 k f fd ps sp):FnOk P w K mg base CX0 k f fd ps (b9C sp) where
 len:=λvs H Q E ⟨F,_,hs⟩=>F0.len _ _ _ _ hs
 run:=λA outer s H args us vs Q E hr he hb hv ⟨F,hF,hs⟩=>by
  have lP:Env0 P w K mg base A outer s (cut H F):=⟨he.frames,he.mod,λb o e=>⟨(he.bs b o e).1,y8 (he.bs b o e).2⟩,he.bsz,he.funs,λb hb=>y8 (he.frf b hb),b6E he.hok hF,he.bare,λx hx p e=>let⟨qs,t,e1,e2⟩:=he.tabs x hx p e;⟨qs,t,i4 (a1t hF e1 (λz=>z)) e1,e2⟩⟩;refine gX (F0.run A outer s (cut H F) args us vs _ E hr lP hb hv hs) λr s' hq=>?_
  cases r with
  |error e=>exact hq
  |ok fl=>
   cases fl with
   |ret u=>
    obtain⟨v,H2,os,bare,un,oU,rv,q⟩:=(show CE outer P w (cut H F) s _ u s' from hq);have there:∀a∈F,∃o,s.heap.get? a=cz o:=λa ha=>by
     obtain⟨⟨ys,hm⟩,hy⟩:=hF a ha;have:=he.hok a _ hy;cases ys with
     |lst xs=>obtain⟨_,its,n,r,e⟩:=this;exact⟨_,e⟩
     |dK kvs=>obtain⟨_,_,vs,_,ob,es,ep,e,_⟩:=this;exact⟨_,e⟩
     |ext φ=>obtain⟨_,e,_⟩:=this;exact e
     |_=>exact cK hm
    have Bf:∀a∈F,H2 a=xn:=λa ha=>by
     obtain⟨o,ho⟩:=there a ha;exact un.free a o ho (U9 ha) (by simp)
    have CW:∀{b:ax},H b=xn->b∉F:=λ{b} n z=>by
     obtain⟨ys,hy⟩:=hF b z;rw[n]at hy;cases hy
    refine (show CE outer P w H s Q u s' from⟨v,a7d F H H2,os,bare,?_,?_,rv,q Bf⟩)
    ·refine⟨λb o q n hb hx=>un.keep b o q (y8 n) hb hx,λb o q n hb hx=>un.slot b o q (y8 n) hb hx,λb o q n hx=>?_,un.there,λb xs q=>?_,λb o u q=>?_,λb ps q=>?_⟩
     ·rw[p6 (CW n)];exact un.free b o q (y8 n) hx
     ·have n:=a1t hF q (λz=>z);rw[p6 n];exact un.tups b xs (i4 n q)
     ·have n:=a1t hF q (λz=>z);rw[p6 n];exact un.frzs b o u (i4 n q)
     ·have n:=a1t hF q (λz=>z);rw[p6 n];exact un.tbls b ps (i4 n q)
    ·intro a o e;by_cases ha:a∈F
     ·rw[a0R ha]at e;have hk:∀u,s.heap.get? a=cz u->s'.heap.get? a=cz u:=λu q=>un.keep a u q (U9 ha) (λz=>by rw[he.frf a z]at e;cases e) (by simp)
      obtain⟨⟨ys,hm⟩,hy⟩:=hF a ha;have ho:=he.hok a _ hy;have eo:o=ys:=aE (e.symm.trans hy);rw[eo];cases ys with
      |lst xs=>obtain⟨z,its,n,r,e⟩:=ho;exact⟨z,its,n,r,hk _ e⟩
      |dK kvs=>obtain⟨z,y,vs,r,ob,es,ep,e,c⟩:=ho;exact⟨z,y,vs,r,ob,es,ep,hk _ e,c⟩
      |ext φ=>obtain⟨h1,⟨ob,h2⟩,h3⟩:=ho;exact⟨h3 _ _ h1 hk,⟨ob,hk _ h2⟩,h3⟩
      |_=>exact cK hm
     ·rw[p6 ha]at e;have lE:∀{b:ax} {o:HO},H2 b=cz o->a7d F H H2 b=cz o:=λ{b} {o} q=>by
       rw[p6 (λz=>by rw[Bf b z]at q;cases q)];exact q
      exact (oU a o e).stay (λb u _ q=>q) (λb q=>lE q) λb xs q=>lE q
   |next=>exact cK hq
   |brk=>exact cK hq
   |cont=>exact cK hq
end
section
variable {X:Cx}{M:List Md}{a e0:Expr}{es:List Expr}{fa:EvE}{f:EvA}{ca:Cat}{u:Ty}{x:bG}{p pos:fT}
def b1z(W:Has X.prog X.w X.K X.mg X.base x k ps sp):Has X.prog X.w X.K X.mg X.base x k ps (b9C sp):=by
 obtain⟨f,fd,F,b⟩:=W.ex;exact⟨f,fd,a8y F,b⟩
noncomputable def PAF(X:Cx)(M:List Md)(es:List Expr)(f:EvA):Prop:=
 ∃t,PA X es t/\∀(Z:List D) (σ:L2.St) (H P:Hp) (F:List ax) (ds:List D) (Q:List V->Hp->Prop),StE X.K M Z σ H P F->f Z=cz ds->(∀vs H',Same H H'->DenAll X.K (cut H' F) vs ds->Q vs H')->t σ H Q
def a9E:PAF X M [] b8:=⟨_,o7,λZ σ H P F ds Q S hf q=>by cases hf;exact q [] H (Same.refl _) denAll_nil⟩
def a0S(ha:PX X M a fa ca)(hr:PAF X M es fr)(hc:frozen ca:=by trivial)(hs:au (a::es) X.env=(false,cC a X.env)::au es X.env:=by rfl):PAF X M (a::es) (a7 fa fr):=by
 obtain⟨ta,pa,qa⟩:=ha.out;obtain⟨tr,pr,qr⟩:=hr;refine⟨_,j8 pa pr hs,λZ σ H P F ds Q S hf q=>?_⟩;obtain⟨x,h1,hf⟩:=bnd hf;obtain⟨xs,h2,hf⟩:=bnd hf;cases hf
 exact qa Z σ H P F _ _ S h1 λv H1 e1 r1=>qr Z σ H1 P F _ _ (S.grow e1) h2 λvs H2 e2 r2=>q (v::vs) H2 (e1.trans e2) (denAll_cons ((R1 hc r1).up (G9 e2)) r2)
def a7e(W:Has X.prog X.w X.K X.mg X.base x k ps (spD X.K n m u))(hr:Room k X.A)(h:PAF X M (e0::es) f)(hl:(e0::es).length=n:=by rfl)(hfl:∀Z ds,f Z=cz ds->ds.length=(e0::es).length)
  (hg:Gl X x:=by rfl) (lF:(x==("__debug__":bG))=false:=by decide) (he:au (e0::es) X.env=(false,cC e0 X.env)::au es X.env:=by rfl) (gH:(cH pos (au es X.env)).any (·.1)=false:=by rfl) :
  PX X M (.Call (.Name x p) (e0::es) [] pos) (eCl m f) (.new u):=by
 obtain⟨t,pa,qa⟩:=h;refine .mk ⟨_,a5t (b1z W) hr pa hg lF he gH,λZ σ H P F d Q S hf q=>?_⟩;obtain⟨ds,h1,hf⟩:=bnd hf;refine qa Z σ H P F ds _ S h1 λvs H1 e1 r1=>?_
 show b9C (spD X.K n m u) (vs++[]) H1 Q E0;rw[bb];refine⟨F,S.lst' e1,ds,d,by rw[r1.length,hfl Z ds h1,hl],r1,hf,λv H2 fp e o nd fr hz=>q v (a7d F H1 H2) ?_ ?_⟩
 ·intro b o' hb;have vX:=e1 b o' hb;by_cases c:b∈F
  ·rw[a0R c];exact vX
  ·rw[p6 c];exact e b o' (i4 c vX)
 ·have uq:∀a∈fp,a∉F:=λa ha z=>by
   obtain⟨ys,hy⟩:=o.lst u a ha;rw[hz a z]at hy;cases hy
  refine⟨fp,Own.frame (λb o' hb=>?_) u o (λa ha=>p6 (uq a ha)),nd,λa ha=>?_⟩
  ·obtain⟨n1,n2⟩:=l7 hb;have n3:b∉F:=λz=>by rw[hz b z]at n2;cases n2
   exact i4 (λz=>(ar.mp z).elim n1 n3) (by rw[p6 n3];exact n2)
  ·have:=fr a ha;rw[X7 (uq a ha)]at this;exact e1.free this
end
def Junk(H:Hp)(C:List ax):Prop:=∀a∈C,∀u,H a=cz u->∃o,u=.frz o (.own a)
section
variable {K:ag}{H H':Hp}{C F:List ax}
theorem Junk.cut(h:Junk H C):Junk (cut H F) C:=λa ha u e=>h a ha u (l7 e).2
def Junk.out(h:Junk H C)(e:H a=cz u)(n:∀o,u≠.frz o (.own a)):a∉C:=λz=>by
 obtain⟨o,q⟩:=h a z u e;exact n o q
def b3F(h:Junk H C)(q:SqX K H a xs):SqX K (VS.cut H C) a xs:=by
 rcases q with (q|⟨o,q⟩)|q
 ·exact .inl (.inl (i4 (h.out q λo z=>(nomatch z)) q))
 ·exact .inl (.inr ⟨o,i4 (h.out q λo z=>by cases z) q⟩)
 ·exact .inr q
def b3G(h:Junk H C)(q:SqT K H a xs):SqT K (VS.cut H C) a xs:=by
 rcases q with (q|⟨o,q⟩)|q
 ·exact .inl (.inl (i4 (h.out q λo z=>(nomatch z)) q))
 ·exact .inl (.inr ⟨o,i4 (h.out q λo z=>by cases z) q⟩)
 ·exact .inr q
def a3y(h:Junk H C)(q:H a=cz (g7 a es)):VS.cut H C a=cz (g7 a es):=
 i4 (h.out q λo z=>by unfold g7 at z;cases z) q
mutual
theorem Den.junk(h:Junk H C):∀(d:bp) {v:V},Den K H v d->Den K (VS.cut H C) v d
 |.none,_,q=>by simpa only [Den]using q
 |.bool _,_,q=>by simpa only [Den]using q
 |.int _,_,q=>by simpa only [Den]using q
 |.str _,_,q=>by simpa only [Den]using q
 |.list ds,_,q=>by
  obtain⟨a,xs,rfl,h1,h2⟩:=q.list_inv;exact den_list (b3F h h1) (DenAll.junk h ds h2)
 |.tuple ds,_,q=>by
  obtain⟨a,xs,rfl,h1,h2⟩:=q.tup_inv;exact den_tup (b3G h h1) (DenAll.junk h ds h2)
 |.dict kvs,_,q=>by
  obtain⟨a,es,rfl,h1,h2⟩:=q.dict_inv;simp only[Den];exact⟨a,es,rfl,a3y h h1,DenKV.junk h kvs h2⟩
theorem DenAll.junk(h:Junk H C):∀(ds:List bp) {xs:List V},DenAll K H xs ds->DenAll K (VS.cut H C) xs ds
 |[],_,q=>by simpa only [DenAll]using q
 |d::ds,_,q=>by
  obtain⟨v,r,rfl,h1,h2⟩:=q.cons_inv;exact denAll_cons (Den.junk h d h1) (DenAll.junk h ds h2)
theorem DenKV.junk(h:Junk H C):∀(kvs:List (bp×bp)) {es:List (bp×V×V)},DenKV K H es kvs->DenKV K (VS.cut H C) es kvs
 |[],_,q=>by simpa only [DenKV]using q
 | (k,d)::r,_,q=>by
  simp only[DenKV]at q ⊢;obtain⟨x,es,h1,h2,h3,h4,h5⟩:=q;exact⟨x,es,h1,h2,Den.junk h k h3,Den.junk h d h4,DenKV.junk h r h5⟩
end
def b3H(a:ax):VS.cut (VS.cut H C) F a=VS.cut (VS.cut H F) C a:=by
 unfold VS.cut;by_cases h1:a∈F<;>by_cases h2:a∈C<;>simp[h1,h2]
def Y6(h:Junk H C)(q:Den K (VS.cut H F) v d):Den K (VS.cut (VS.cut H C) F) v d:=
 (Den.junk h.cut d q).up λa o e=>by rw[b3H];exact e
mutual
theorem Own.junk(h:Junk H C):∀(u:Ty) {v:V} {d:bp} {fp:List ax},Own K H F u v d fp->Own K (VS.cut H C) F u v d fp
 |.i,_,_,_,q=>by simp only[Own]at q ⊢;exact⟨q.1,q.2.1,Y6 h q.2.2⟩
 |.f,_,_,_,q=>by simp only[Own]at q ⊢;exact⟨q.1,Y6 h q.2⟩
 |.l u,_,_,_,q=>by
  simp only[Own]at q ⊢;rcases q with⟨h1,h2,q⟩|⟨a,xs,ds,fs,rfl,h1,rfl,rfl,h2⟩
  ·exact .inl ⟨h1,h2,Y6 h q⟩
  ·exact .inr ⟨a,xs,ds,fs,rfl,i4 (h.out h1 λo z=>(nomatch z)) h1,rfl,rfl,h2.imp λv d f _ _ z=>Own.junk h u z⟩
 |.tp us,_,_,_,q=>by
  simp only[Own]at q ⊢;obtain⟨a,xs,ds,rfl,h1,h0,rfl,h2⟩:=q;exact⟨a,xs,ds,rfl,i4 (h.out h1 λo z=>(nomatch z)) h1,h0,rfl,OwnTs.junk h us h2⟩
 |.d kt u,_,_,_,q=>by
  simp only[Own]at q ⊢;obtain⟨a,es,ds,fs,rfl,h1,rfl,rfl,h3,h2⟩:=q;exact⟨a,es,ds,fs,rfl,a3y h h1,rfl,rfl,⟨h3.1,λx hx=>⟨(h3.2 x hx).1,Y6 h (h3.2 x hx).2⟩⟩,h2.imp λv d f _ _ z=>Own.junk h u z⟩
theorem OwnTs.junk(h:Junk H C):∀(us:List Ty) {xs:List V} {ds:List bp} {fp:List ax},OwnTs K H F us xs ds fp->OwnTs K (VS.cut H C) F us xs ds fp
 |[],_,_,_,q=>by simpa only [OwnTs]using q
 |u::us,_,_,_,q=>by
  simp only[OwnTs]at q ⊢;obtain⟨v,r,d,e,f,g,rfl,rfl,rfl,h1,h2⟩:=q;exact⟨v,r,d,e,f,g,rfl,rfl,rfl,Own.junk h u h1,OwnTs.junk h us h2⟩
end
def a7f(k:HOk P w H h)(j:Junk H C):HOk P w (VS.cut H C) h:=λa o e=>by
 obtain⟨na,e'⟩:=l7 e;refine (k a o e').stay (λb u _ q=>q) (λb q=>i4 (j.out q λo z=>(nomatch z)) q) λb u q=>i4 (λhb=>?_) q
 obtain⟨u,hu⟩:=u;obtain⟨ob,z⟩:=j b hb u q;subst z;have rP:b=a:=hu;exact na (rP▸hb)
def b1A(t:TabsIn K H)(j:Junk H C):TabsIn K (VS.cut H C):=λx hx p e=>by
 obtain⟨qs,t',e1,e2⟩:=t x hx p e;exact⟨qs,t',i4 (j.out e1 λo z=>(nomatch z)) e1,e2⟩
end
end VS
namespace VS
open PySem PySem.Spec L2 PyProof.Rows
noncomputable def FnV(P:bD)(w:cm)(K:ag)(mg:bG->Option aj)(base:cQ)(k n:Nat)(u:Ty)(m:List D->Option D)(H:Hp)(v:V):Prop:=
 ∃fa fo,v=.ref fa/\H fa=cz (.frz fo (.own fa))/\(∃fd,fo.data=.func fd)/\
  ∀(A:bP) (outer:List nL) (s:av) (us:List aj) (vs:List V) (Q:VK) (E:XK),Room k A->Env0 P w K mg base A outer s H->Vals vs us->spD K n m u vs H Q E->
   gY (aW P w) A (.call (.ref fa) ⟨us,[]⟩) (CR CX0 outer P w H s Q E) s
section
variable {X:Cx}{M:List Md}{a e0:Expr}{es:List Expr}{fa:EvE}{f:EvA}{ca:Cat}{u:Ty}{x:bG}{p pos:fT}
noncomputable def b9E(X:Cx)(i k n:Nat)(u:Ty)(m:List D->Option D)(t:TA):TE:=λσ H Q=>∃v,σ[i]?=cz (cz v)/\t σ H λvs H1=>FnV X.prog X.w X.K X.mg X.base k n u m H1 v/\spD X.K n m u vs H1 Q E0
def b3I(hr:Room k X.A)(ha:PA X (e0::es) t)(hN:X.N[i]?=cz x)(hv:Vis X.env.scope x)(hd:(x==("__debug__":bG))=false)(iE:(x==("__classdict__":bG))=false)
  (he:au (e0::es) X.env=(false,cC e0 X.env)::au es X.env) (gH:(cH pos (au es X.env)).any (·.1)=false):PE X (.Call (.Name x p) (e0::es) [] pos) (b9E X i k n u m t):=by
 intro pins s σ H Q I ⟨v,e,h⟩;refine gz (L2.thn (A0 hN hv hd iE pins s σ H (λv' H'=>v'=v/\H'=H) I ⟨v,e,rfl,rfl⟩) λu1 s1 ⟨v',H',I1,r1,z1,z2⟩=>?_);subst z1;subst z2;rw[he];refine PySem.W.callWith_of (P:=λh=>∃fa fo fd,u1=.ref fa/\h.get? fa=cz fo/\fo.data=.func fd) (by show ((false||(cH pos (au es X.env)).any (·.1))||false)=false;rw[gH];rfl) (λh ⟨fa,fo,fd,q1,q2,q3⟩=>?_) (nM ?_)
 ·subst q1;obtain⟨cls,dict,data,slots⟩:=fo;have Cb:data=.func fd:=q3;subst Cb;exact⟨.frame,.inl rfl,(PySem.W.Looks.ld (part:=xn) q2).andThen .now⟩
 ·have rY:=ha pos pins s1 σ H' _ I1 h;rw[he]at rY;refine L2.thn rY λus s2 ⟨vs,H2,I2,r2,⟨fa,fo,q1,q2,⟨fd,q3⟩,q4⟩,q5⟩=>⟨?_,?_⟩
  ·have xQ:u1=.ref fa:=by rw[q1]at r1;exact r1
   exact⟨fa,fo,fd,xQ,(I2.hok fa _ q2).1,q3⟩
  ·have xQ:u1=.ref fa:=by rw[q1]at r1;exact r1
   subst xQ;refine uL (gX (q4 X.A X.stack s2 us vs Q E0 hr I2.env0 r2 q5) λr s' hq=>?_);cases r with
   |error e=>exact cK hq
   |ok fl=>
    cases fl with
    |ret u=>exact I2.after hq
    |next=>exact cK hq
    |brk=>exact cK hq
    |cont=>exact cK hq
def StE.getF{K:ag}{Z:List D}{σ:L2.St}{H P:Hp}{F:List ax}{Φ:Hp->V->Prop}(h:StE K M Z σ H P F){i:Nat}(hm:M[i]?=cz (.fn Φ)):∃v,σ[i]?=cz (cz v)/\∀H',Same (cut H F) H'->Φ H' v:=by
 obtain⟨G,h1,h3⟩:=h.all;obtain⟨d,o,f,pre,post,e1,e2,⟨_,v,rfl,q⟩,e4,_⟩:=h1.at_ hm;exact⟨v,e2,q⟩
def b3J(i:Nat){k n:Nat}{m:List D->Option D}(hr:Room k X.A)(h:PAX X M (e0::es) f)(hm:M[i]?=cz (.fn (FnV X.prog X.w X.K X.mg X.base k n u m)):=by rfl)(hu:u.shut=true:=by rfl)(hl:(e0::es).length=n:=by rfl)(hfl:∀Z ds,f Z=cz ds->ds.length=(e0::es).length)
  (hN:X.N[i]?=cz x:=by rfl) (hv:Vis X.env.scope x:=by first|exact bO rfl|exact bN (bO rfl)|exact bN (bN rfl)) (lF:(x==("__debug__":bG))=false:=by decide) (iE:(x==("__classdict__":bG))=false:=by decide)
  (he:au (e0::es) X.env=(false,cC e0 X.env)::au es X.env:=by rfl) (gH:(cH pos (au es X.env)).any (·.1)=false:=by rfl) :
  PX X M (.Call (.Name x p) (e0::es) [] pos) (eCl m f) (.new u):=by
 obtain⟨t,pa,qa⟩:=h;refine .mk ⟨_,b3I (i:=i) (n:=n) (m:=m) (u:=u) hr pa hN hv lF iE he gH,λZ σ H P F d Q S hf q=>?_⟩;obtain⟨ds,h1,hf⟩:=bnd hf;obtain⟨v,ym,uc⟩:=S.getF hm;refine⟨v,ym,qa Z σ H P F ds _ S h1 λvs H1 e1 r1=>⟨uc H1 (k6.trans e1),?_⟩⟩;refine⟨ds,d,by rw[r1.length,hfl Z ds h1,hl],r1,hf,λv H' fp e o nd fr=>q v H' (e1.trans e) ⟨fp,o.shut_out (λa ha=>?_) u hu,nd,λa ha=>e1.free (fr a ha)⟩⟩;rcases ar.mp ha with z|z
 ·exact o.lst u a z
 ·exact S.lst' (e1.trans e) a z
end
def spL(K:ag)(n:Nat)(Φ:(List D->Option D)->Hp->V->Prop)(m:(List D->Option D)->List D->Option D)(u:Ty):Sp:=λvs H Q _=>∃rs v gm ds d,vs=rs++[v]/\rs.length=n/\DenAll K H rs ds/\(∀H',Same H H'->Φ gm H' v)/\m gm ds=cz d/\
 ∀v H' fp,Same H H'->Own K H' fp u v d fp->fp.Nodup->(∀a∈fp,H a=xn)->Q v H'
def fnL(us:List Ty)(n:Nat)(g:(List D->Option D)->EvS):(List D->Option D)->List D->Option D:=λgm ds=>if argsOk us ds then (g gm (ds++(.none::aG n .none))).bind λo=>match o with
 |.rt d=>cz d
 |_=>xn
 else xn
theorem StAll.app{K:ag}{H:Hp}{F:List ax}:∀{M1 M2:List Md} {Z1 Z2:List D} {σ1 σ2:L2.St} {f1 f2:List ax},StAll K H F M1 Z1 σ1 f1->StAll K H F M2 Z2 σ2 f2->StAll K H F (M1++M2) (Z1++Z2) (σ1++σ2) (f1++f2)
 |[],_,_,_,_,_,_,_,h,q=>by simp only[StAll]at h;obtain⟨rfl,rfl,rfl⟩:=h;exact q
 |m::M,_,_,_,_,_,_,_,h,q=>by
  simp only[StAll]at h;obtain⟨d,Z,o,σ,f,g,rfl,rfl,rfl,h1,h2⟩:=h;rw[aP];exact i5 h1 (StAll.app h2 q)
theorem a2c{K:ag}{H:Hp}{F:List ax}:∀n:Nat,StAll K H F (aG n .dead) (aG n .none) (aG n xn) []
 |0=>L5
 |n+1=>i5 (f:=[]) (g:=[]) rfl (a2c n)
def b3K{P:bD}{w:cm}{K:ag}{mg:bG->Option aj}{base:cQ}{x:bG}{st:iq}{f:ax}{fd:dP}{N ps:List bG}{k n:Nat}{us:List Ty}{u:Ty}{Φ:(List D->Option D)->Hp->V->Prop}{g:(List D->Option D)->EvS}{M':(List D->Option D)->List Md}(F:Fun K x x st f fd)(S:FnScope N ps (f6 st))(nk:us.length+1=ps.length)(hn:N.length=ps.length+n)
  (hb:∀(gm:List D->Option D) (fW:aj) (A:bP) (outer:List nL) (s:av) (H:Hp) (E:XK),Room k (A.deeper (iB x (f6 st) s.heap.objs.size f fW))->PSsX (Z0 CX0 P w K mg base N x (f6 st) f fW A outer s H E).nox u [] (us.map .own++(.fn (Φ gm)::aG n .dead)) (r9 st) (g gm) (M' gm)) :
  FnOk P w K mg base CX0 (k+1) f fd ps (spL K us.length Φ (fnL us n g) u):=by
 refine F.ok S (λvs H Q E h=>?_) (λfW A outer s H vs Q E hr h=>?_)
 ·obtain⟨rs,v,gm,ds,d,rfl,hl,_⟩:=h;rw[aA,hl];exact nk
 obtain⟨rs,v,gm,ds,d,rfl,hl,hd,hΦ,hm,q⟩:=h;obtain⟨t,p,r⟩:=(hb gm fW A outer s H E hr).out;refine⟨t,p,?_⟩;unfold fnL at hm;by_cases ha:argsOk us ds=true
 ·rw[aD ha]at hm;obtain⟨o,h1,h2⟩:=bnd hm;cases o with
  |rt d'=>
   have kE:cz d'=cz d:=h2;cases kE
   have e:L2.start N (rs++[v])=rs.map cz++(cz v::aG n xn):=by
    unfold L2.start;rw[show N.length-(rs++[v]).length=n by rw[aA,hl];show N.length-(us.length+1)=n;lia];simp
   rw[e];have h0:=R7 (K:=K) (H:=H) ha hd 0;simp only[gP,bb]at h0;have nY:=h0.app (i5 (K:=K) (H:=H) (F:=[]) (m:=.fn (Φ gm)) (d:=iH) (o:=cz v) (f:=[]) ⟨rfl,v,rfl,λH' e'=>hΦ H' (by rw[K3]at e';exact e')⟩ (a2c n));refine r _ _ _ H H [] (.rt d) ⟨⟨_,nY,bI,λa ha=>(nomatch ha)⟩,λa ha=>(nomatch ha),by rw[K3];exact Same.refl H⟩ h1 ?_;exact λv H' fp o nd fr e=>q v H' fp e o nd fr
  |_=>cases h2
 ·rw[aM ha]at hm;cases hm
section
variable {X:Cx}{M:List Md}{e0:Expr}{es:List Expr}{f:EvA}{u:Ty}{x y:bG}{p pv pos:fT}
def b6F:∀(Z:List D) ds,b8 Z=cz ds->ds.length=0:=λZ ds h=>by cases h;rfl
def b3L(h:∀Z ds,fr Z=cz ds->ds.length=n):∀Z ds,a7 fa fr Z=cz ds->ds.length=n+1:=λZ ds q=>by
 obtain⟨x,h1,q⟩:=bnd q;obtain⟨xs,h2,q⟩:=bnd q;cases q
 rw[aS,h Z xs h2]
noncomputable def PAL(X:Cx)(M:List Md)(es:List Expr)(f:EvA)(Ψ:Hp->V->Prop):Prop:=
 ∃t,PA X es t/\∀(Z:List D) (σ:L2.St) (H P:Hp) (F:List ax) (ds:List D) (Q:List V->Hp->Prop),StE X.K M Z σ H P F->f Z=cz ds->
  (∀vs v H',Same H H'->DenAll X.K H' vs ds->Ψ H' v->Q (vs++[v]) H')->t σ H Q
def b3M(ha:PX X M a fa ca)(hr:PAL X M es fr Ψ)(hs:au (a::es) X.env=(false,cC a X.env)::au es X.env:=by rfl):PAL X M (a::es) (a7 fa fr) Ψ:=by
 obtain⟨ta,pa,qa⟩:=ha.out;obtain⟨tr,pr,qr⟩:=hr;refine⟨_,j8 pa pr hs,λZ σ H P F ds Q S hf q=>?_⟩;obtain⟨x,h1,hf⟩:=bnd hf;obtain⟨xs,h2,hf⟩:=bnd hf;cases hf
 exact qa Z σ H P F _ _ S h1 λv H1 e1 r1=>qr Z σ H1 P F _ _ (S.grow e1) h2 λvs w H2 e2 r2 hw=>q (v::vs) w H2 (e1.trans e2) (denAll_cons (r1.den.up e2) r2) hw
end
def a7g:∀(l r:List aj),kF l->kF r->kF (l++r):=by
 intro l
 fun_induction kF l with
 |case1=>intro r _ h;exact h
 |case2 a t b u c rest ih=>intro r h1 h2;simp only[bE,kF];exact ih r h1 h2
 |case3=>intro r h;exact h.elim
def b1B:∀(l r:List aj),kF l->lZ pos (l++r)=cz cv->lZ pos l=cz cv∨lZ pos r=cz cv:=by
 intro l
 fun_induction kF l with
 |case1=>intro r _ h;exact .inr h
 |case2 a t b u c rest ih=>
  intro r h1 h2;simp only[bE,lZ]at h2 ⊢
  split at h2
  ·rename_i hc
   rw[aD hc];exact .inl h2
  ·rename_i hc
   rw[aM hc];exact ih r h1 h2
 |case3=>intro r h;exact h.elim
def LamO(q:bG)(params:nU)(body:Expr)(scope:gD)(clos:List (bG×ax))(H:Hp)(fa:ax):Prop:=
 ∃pm c' mr oc vs t b,H fa=cz (.frz (eW "<lambda>" q params body scope clos pm c' mr) (.own fa))/\H c'=cz (.frz oc (.own b))/\oc.data=.fields vs/\vs[1]?=cz (.str q t)
def LamO.up(h:LamO q params body scope clos H fa)(e:Same H H'):LamO q params body scope clos H' fa:=by
 obtain⟨pm,c',mr,oc,vs,t,b,h1,h2,h3⟩:=h;exact⟨pm,c',mr,oc,vs,t,b,e _ _ h1,e _ _ h2,h3⟩
def c1k(q:bG)(params:nU)(body:Expr)(scope:gD)(clos:List (bG×ax)):TE:=λ_ H Q=>∀fa H',Same H H'->LamO q params body scope clos H' fa->Q (.ref fa) H'
def b1C{X:Cx}(hx:x∈L7)(hP:B6 X.K x=cz P)(hc:X.env.code=.ref c)(hd:gE X.base c P)(hq:X.env.qual++"<lambda>"=U4 x)
  (oZ:pf scope X.env=pure clos) (tw:defaultsOf params X.env=([],[])):PE X (.Lambda params body scope kI) (c1k (U4 x) params body scope clos):=by
 intro pins s σ H Q I h;refine PySem.W.kla_eval tw ?_;rw[hq];obtain⟨qs,t0,e1,e2⟩:=I.tabs x hx P hP;obtain⟨ps,wd,ht,hf⟩:=(show a6n H s.heap P qs from I.hok P _ e1);have yV:s.heap.Ns bU X.mg:=I.mod.glob.keeps I.bk;obtain⟨bm,ob,b1,b2,b3,b4,b5,b6⟩:=I.mod.bmain;have DF:bU≠P:=λq=>by
  obtain⟨o,es,ep,e,kc,_⟩:=yV;rw[q,wd]at e;cases e;cases kc
 have DY:bm≠P:=λq=>by
  have e:=I.bk _ _ b3;rw[q,wd]at e;cases e;cases b4
 have DZ:bm≠bU:=λq=>by
  obtain⟨o,es,ep,e,kc,_⟩:=I.mod.glob;rw[q,e]at b3;cases b3;rw[kc]at b6;cases b6
 have hB:s.heap.BuiltinsAt X.mg P:=⟨bm,ob,b1,b2,DZ,DY,I.bk _ _ b3,b4,b5,b6⟩;have hC:gE s.heap c P:=hd.keeps I.bk;cases hn:lZ kI ps.toList with
 |some cv=>
  obtain⟨c',oc,vs,q,t,t',rfl,z2,z3,z4,z5⟩:=hf kI cv hn;rw[e2]at z5;have BH:rz (U4 x) t0=rz q t':=aE z5;cases BH
  refine PySem.W.kla_makeFunctionHit (mg:=X.mg) oZ I.ok.glob yV hc hC wd ht hn hB λmr h' tk hk kN=>?_
  have oe:H h'.objs.size=xn:=I.hok.fresh kN;have I':=I.laid (a:=h'.objs.size) (o:=.frz (eW "<lambda>" (U4 x) params body scope clos ((X.mg "__name__").getD .none) c' mr) (.own h'.objs.size)) (t':=tk) (h':=h'.push (eW "<lambda>" (U4 x) params body scope clos ((X.mg "__name__").getD .none) c' mr)) (λb u e=>aF _ (hk b u e)) kN ⟨bj _ rfl,_,bj _ rfl⟩;refine⟨.ref h'.objs.size,_,I',rfl,h _ _ (k9 oe _) ⟨_,c',mr,oc,vs,t,P,g8,?_,z3,z4⟩⟩;rw[b9 (i8 z2 oe)];exact z2
 |none=>
  refine PySem.W.kla_makeFunction (mg:=X.mg) oZ I.ok.glob yV hc hC wd ht hn DF hB λc' mr h' tk Cv tm iX yx Az=>?_
  obtain⟨c2,oc,vs,t,rc,vn,AS,qD⟩:=yx;cases rc
  have Ef:P<s.heap.objs.size:=aT wd;have xi:H c'=xn:=I.hok.fresh tm;have tu:s.heap.objs.size<=h'.objs.size:=fw (hJ tm iX);have oe:H h'.objs.size=xn:=I.hok.fresh tu;have iU:c'≠h'.objs.size:=bM iX;have low:∀b u,H b=cz u->upd (upd H c' (.frz oc (.own P))) h'.objs.size (.frz (eW "<lambda>" (U4 x) params body scope clos ((X.mg "__name__").getD .none) c' mr) (.own h'.objs.size)) b=cz u:=λb u e=>by
   rw[b9 (i8 e oe),b9 (i8 e xi)];exact e
  have xY:∀b,b<s.heap.objs.size->H b=xn->upd (upd H c' (.frz oc (.own P))) h'.objs.size (.frz (eW "<lambda>" (U4 x) params body scope clos ((X.mg "__name__").getD .none) c' mr) (.own h'.objs.size)) b=xn:=λb hb e=>by
   rw[b9 (bM (bt hb tu)),b9 (bM (bt hb tm))];exact e
  have kp:∀b o,b≠P->s.heap.get? b=cz o->(h'.push (eW "<lambda>" (U4 x) params body scope clos ((X.mg "__name__").getD .none) c' mr)).get? b=cz o:=λb o hb e=>aF _ (Cv b o hb e)
  have nP:∀b,H b=xn->b≠P:=λb e z=>by rw[z,e1]at e;cases e
  have I':=I.un (t':=tk) (h':=h'.push (eW "<lambda>" (U4 x) params body scope clos ((X.mg "__name__").getD .none) c' mr)) (H':=upd (upd H c' (.frz oc (.own P))) h'.objs.size (.frz (eW "<lambda>" (U4 x) params body scope clos ((X.mg "__name__").getD .none) c' mr) (.own h'.objs.size)))
   ⟨λb o e n _ _=>kp b o (nP b n) e,λb o e n _ _=>⟨o.slots,kp b o (nP b n) e⟩,λb o e n _=>xY b (aT e) n,λb o e _=>by
    by_cases hb:b=P
    ·exact⟨_,by rw[hb];exact aF _ Az⟩
    ·exact⟨o,kp b o hb e⟩,λb xs e=>low b _ e,λb o u e=>low b _ e,λb Fl e=>⟨#[],by rw[low b _ e];simp⟩⟩ (λb u e=>by
    by_cases vX:b=h'.objs.size
    ·subst vX;rw[g8]at e;cases e
     exact⟨bj _ rfl,_,bj _ rfl⟩
    ·rw[b9 vX]at e;by_cases AX:b=c'
     ·subst AX;rw[g8]at e;cases e
      exact⟨aF _ vn,_,aF _ vn⟩
     ·rw[b9 AX]at e;by_cases AW:b=P
      ·subst AW;rw[e1]at e;cases e
       refine⟨_,aF _ Az,?_,λpos cv z=>?_⟩
       ·have:(ps++#[jw kI.line,jw kI.col,bL c']).toList=ps.toList++[jw kI.line,jw kI.col,bL c']:=by simp
        rw[this];exact a7g _ _ ht trivial
       ·have:(ps++#[jw kI.line,jw kI.col,bL c']).toList=ps.toList++[jw kI.line,jw kI.col,bL c']:=by simp
        rw[this]at z;rcases b1B _ _ ht z with z|z
        ·obtain⟨c3,Ci,BN,q3,t3,t4,y1,y2,y3,y4,y5⟩:=hf pos cv z;exact⟨c3,Ci,BN,q3,t3,t4,y1,low _ _ y2,y3,y4,y5⟩
        ·have z':cv=.ref c':=by
          simp only[jw,lZ]at z
          split at z
          ·exact (aE z).symm
          ·cases z
         refine⟨c',oc,vs,U4 x,t,t0,z',?_,AS,qD,e2⟩;rw[b9 iU,g8]
      ·refine (I.hok b u e).stay (λd v kc q=>kp d v (λz=>?_) q) (λd q=>low _ _ q) λd v q=>low _ _ q
       rcases kc with z'|z'
       ·exact AW (z'.symm.trans z)
       ·rw[z,e1]at z';cases z')
  refine⟨.ref h'.objs.size,_,I',rfl,h _ _ (λb u e=>low b u e) ⟨_,c',mr,oc,vs,t,P,g8,?_,AS,qD⟩⟩;rw[b9 iU,g8]
def a9F(P:bD)(w:cm)(K:ag)(mg:bG->Option aj)(base:cQ)(N:List bG)(q:bG)(scope:gD)(f:ax)(cd:aj)(cl:List (bG×ax))(A:bP)(outer:List nL)(s:av)(H:Hp):Cx where
 prog:=P
 w:=w
 K:=K
 mg:=mg
 base:=base
 A:=A.deeper (jy q scope s.heap.objs.size f cd cl)
 N:=N
 s₀:=s
 H₀:=H
 env:=jy q scope s.heap.objs.size f cd cl
 outer:=outer
 stack:=jy q scope s.heap.objs.size f cd cl::outer
 ex:=[]
 calm:=true
 fn:=λ_=>false
 pn:=[]
 xe:=λ_ _=>False
structure LamScope (N ps ys:List bG) (sc:gD) (cl:List (bG×ax)):Prop where
 kind:sc.kind=.function
 co:sc.isCoroutine=false
 gen:sc.isGenerator=false
 nd:N.Nodup
 pre:N=ps++ys
 par:∀x∈ps,sc.names.lookup x=cz .local
 fre:∀y∈ys,sc.names.lookup y=cz .free
 ncell:∀x∈sc.names,x.2≠.cell
 has:(sc.names.all λx=>x.2 !=.free||(cl.lookup x.1).isSome)=true
def CellsIn(cl:List (bG×ax))(H:Hp):List bG->List V->Prop
 |[],vs=>vs=[]
 |y::ys,vs=>∃v r c ob uo,vs=v::r/\cl.lookup y=cz c/\H c=cz (.frz ob (.own c))/\ob.data=.cell (cz uo)/\RelV v uo/\CellsIn cl H ys r
section
variable {cl:List (bG×ax)}{H H':Hp}
theorem CellsIn.up(e:Same H H'):∀{ys:List bG} {vs:List V},CellsIn cl H ys vs->CellsIn cl H' ys vs
 |[],_,h=>h
 |y::ys,_,h=>by
  obtain⟨v,r,c,ob,uo,h1,h2,h3,h4,h5,h6⟩:=h;exact⟨v,r,c,ob,uo,h1,h2,e _ _ h3,h4,h5,CellsIn.up e h6⟩
theorem CellsIn.len:∀{ys:List bG} {vs:List V},CellsIn cl H ys vs->vs.length=ys.length
 |[],_,h=>by rw[show _=[] from h];rfl
 |y::ys,_,h=>by
  obtain⟨v,r,c,ob,uo,rfl,h2,h3,h4,h5,h6⟩:=h;rw[aS,aS,CellsIn.len h6]
theorem CellsIn.get:∀{ys:List bG} {vs:List V} {i:Nat} {y:bG} {v:V},CellsIn cl H ys vs->ys[i]?=cz y->vs[i]?=cz v->∃c ob uo,cl.lookup y=cz c/\H c=cz (.frz ob (.own c))/\ob.data=.cell (cz uo)/\RelV v uo
 |[],_,i,y,v,_,e,_=>by simp at e
 |y0::ys,_,0,y,v,h,e1,e2=>by
  obtain⟨v',r,c,ob,uo,rfl,h2,h3,h4,h5,h6⟩:=h;have EF:y0=y:=by simpa using e1
  have EE:v'=v:=by simpa using e2
  subst EF EE;exact⟨c,ob,uo,h2,h3,h4,h5⟩
 |y0::ys,_,i+1,y,v,h,e1,e2=>by
  obtain⟨v',r,c,ob,uo,rfl,h2,h3,h4,h5,h6⟩:=h;exact CellsIn.get h6 (by simpa using e1) (by simpa using e2)
end
def b3N(cl:List (bG×ax))(H:Hp):Prop:=∀y c,cl.lookup y=cz c->∃ob uo,H c=cz (.frz ob (.own c))/\ob.data=.cell uo
noncomputable def fnE(us:List Ty)(qI:List D)(f:EvE):List D->Option D:=λds=>if argsOk us ds then f (ds++qI) else xn
theorem b7I{K:ag}{H:Hp}:∀{vs:List V} {ds:List D},DenAll K H vs ds->StAll K H [] (aG vs.length (.own .f)) ds (vs.map cz) []
 |_,[],h=>by rw[h.nil_inv];exact L5
 |_,d::ds,h=>by
  obtain⟨v,r,rfl,h1,h2⟩:=h.cons_inv;refine i5 (K:=K) (H:=H) (F:=[]) (m:=.own .f) (f:=[]) (g:=[]) ⟨v,rfl,?_⟩ (b7I h2);simp only[Own,K3];exact⟨trivial,h1⟩
theorem a2d:∀(ps:List α) (us:List β),((ps.zip us).map (·.1)).Sublist ps
 |[],_=>by rw[nK];exact gy _
 |p::ps,[]=>by rw[mZ];exact List.nil_sublist _
 |p::ps,u::us=>by rw[dB,ay];exact (a2d ps us).cons₂ p
def a3z{ps:List bG}{us:List aj}:∀{i:Nat} {y:bG} {v:aj},ps.Nodup->ps[i]?=cz y->us[i]?=cz v->(ps.zip us).reverse.lookup y=cz v:=by
 intro i y v nd h1 h2;have hm:(y,v)∈(ps.zip us).reverse:=by
  rw[List.mem_reverse];exact bh (by rw[qL];exact⟨h1,h2⟩)
 have hk:(((ps.zip us).reverse).map (·.1)).Nodup:=by
  rw[List.map_reverse];have h0:((ps.zip us).map (·.1)).Nodup:=nd.sublist (a2d ps us);exact uH.mpr (h0.imp λz=>cP z)
 have key:∀l:List (bG×aj),(l.map (·.1)).Nodup->(y,v)∈l->l.lookup y=cz v:=by
  intro l
  induction l with
  |nil=>intro _ h;cases h
  |cons p l ih=>
   intro hn hm;rw[ay,bZ]at hn;obtain⟨k,z⟩:=p;rcases aI.mp hm with e|e
   ·cases e;simp[List.lookup]
   ·have:(y==k)=false:=by
     rw[gN];intro q;exact hn.1 (q▸aJ.mpr ⟨_,e,rfl⟩)
    rw[fU,this];exact ih hn.2 e
 exact key _ hk hm
def b6G{P:bD}{w:cm}{K:ag}{mg:bG->Option aj}{base:cQ}{k:Nat}{q:bG}{params:nU}{body:Expr}{scope:gD}{cl:List (bG×ax)}{N ps ys:List bG}{us:List Ty}{u:Ty}{f:EvE}{lR:List V}{qI:List D}{H:Hp}{fa:ax}
  (L:LamO q params body scope cl H fa) (S:LamScope N ps ys scope cl) (sZ:∀x y c,cl.lookup x=cz c->cl.lookup y=cz c->x=y) (hC:CellsIn cl H ys lR) (xr:b3N cl H) (hD:DenAll K H lR qI) (nk:us.length=ps.length)
  (nz:∀(pm:aj) (c:ax) (mr:aj) (us:List aj),us.length=ps.length->qx (PySem.W.kla_fn "<lambda>" q params body scope cl pm (.ref c) mr) ⟨us,[]⟩=pure (ps.zip us))
  (hb:∀(c:ax) (A:bP) (outer:List nL) (s:av) (H:Hp),Room k (A.deeper (jy q scope s.heap.objs.size fa (.ref c) cl))->PX (a9F P w K mg base N q scope fa (.ref c) cl A outer s H) (us.map .own++aG ys.length (.own .f)) body f (.new u)) :
  FnV P w K mg base (k+1) ps.length u (fnE us qI f) H (.ref fa):=by
 obtain⟨pm,c',mr,oc,BO,t0,b0,l1,l2,l3,l4⟩:=L;refine⟨fa,_,rfl,l1,⟨_,rfl⟩,λA outer s as vs Q E hr e0 rv ⟨ds,d,hl,hd,hm,hq⟩=>?_⟩;obtain⟨C,memC,uW⟩:∃C:List ax,(∀c∈C,∃y,cl.lookup y=cz c)/\∀y c,cl.lookup y=cz c->c∈C:=
  ⟨(cl.map (·.1)).filterMap λy=>cl.lookup y,λc hc=>let⟨y,_,e⟩:=dY.mp hc;⟨y,e⟩,λy c e=>dY.mpr ⟨y,aJ.mpr ⟨(y,c),cB e,rfl⟩,e⟩⟩
 have J:Junk H C:=λa ha u e=>by
  obtain⟨y,hy⟩:=memC a ha;obtain⟨ob,uo,h1,_⟩:=xr y a hy;rw[h1]at e;cases e
  exact⟨ob,rfl⟩
 have Cr:∀a∈C,∃u,H a=cz u:=λa ha=>by
  obtain⟨y,hy⟩:=memC a ha;obtain⟨ob,uo,h1,_⟩:=xr y a hy;exact⟨_,h1⟩
 have lim:s.heap.NoLimit:=e0.mod.nolimit.keeps λb o e=>(e0.bs b o e).1
 have ho:s.heap.get? fa=cz (eW "<lambda>" q params body scope cl pm c' mr):=(e0.hok fa _ l1).1;have DS:s.heap.CodeRec (.ref c') q:=⟨c',oc,BO,t0,rfl,(e0.hok c' _ l2).1,l3,l4⟩;have Ea:as.length=ps.length:=by rw[<-rv.length];exact hl
 have Ck:ps.Nodup:=by have:=S.nd;rw[S.pre]at this;exact this.sublist (kB _ _)
 refine PySem.W.kla_callFunE hr.depth ho rfl S.co S.gen rfl DS ?_;rw[nz pm c' mr as Ea];refine aC (wpAny_newFunctionEnv S.ncell (λy hy=>S.par _ (jq hy).1) (λh₁ qV yt=>⟨lim.fresh _ yt,?_⟩) S.kind);show gY _ _ (.expr body (jy q scope s.heap.objs.size fa (.ref c') cl)) _ _;have oG:∀b o,s.heap.get? b=cz o->h₁.get? b=cz o:=λb o e=>yt.extBut b o (bM (aT e)) (aF _ e)
 have sF:∀b:ax,b∉(a9F P w K mg base N q scope fa (.ref c') cl A outer s (VS.cut H C)).ex:=λb z=>absurd (show b∈([]:List ax) from z) (by simp)
 have Dp:N.length=ps.length+ys.length:=by rw[S.pre,aA]
 have I:Inv (a9F P w K mg base N q scope fa (.ref c') cl A outer s (VS.cut H C)) [] (vs.map cz++lR.map cz) (VS.cut H C) {s with heap:=h₁,toks:=s.toks+(ps.zip as).length}:=by
  refine⟨⟨e0.mod,S.kind,rfl,rfl,az _,sZ,λx hx=>?_,λx c hx _=>(nomatch hx),λ_=>hr.hd,bP.frames_deeper e0.frames,.inr ⟨rfl,rfl⟩,λb z=>absurd z (sF b),λb o e=>⟨(e0.bs b o e).1,y8 (e0.bs b o e).2⟩,e0.bsz,λb _ _=>sF b,λb z=>absurd z (sF b),e0.funs,λb hb=>y8 (e0.frf b hb),b1A e0.tabs J⟩,
   rfl,e0.bare,Un.kept oG,⟨_,qV,λi x v h1 h2 h3=>?_⟩,λx c e=>?_,y8 (e0.hok.fresh (az _)),λx c e=>U9 (uW x c e),λp hp=>absurd (show p∈([]:List (ax×fY)) from hp) (by simp),(a7f e0.hok J).kept oG,?_⟩
  ·have va:scope.names.lookup x=cz .cell∨scope.names.lookup x=cz .free:=hx;rcases va with z|z
   ·exact absurd rfl (S.ncell _ (cB z))
   ·have w:=eM.mp S.has _ (cB z);rw[ly]at w;rcases w with w|w
    ·exact absurd (show (fH !=fH)=true from w) (by decide)
    ·exact kA.mp w
  ·have mh:(ps++ys)[i]?=cz x:=by rw[<-S.pre];exact h1
   by_cases hi:i<ps.length
   ·rw[dA hi]at mh;rw[dA (by rw[ai,hl];exact hi),aU]at h2;have kE:vs[i]?=cz v:=by
     cases e:vs[i]? with
     |none=>rw[e]at h2;cases h2
     |some a=>rw[e]at h2;cases h2;rfl
    obtain⟨u',hu,r⟩:=rv.get kE;exact⟨u',r,.inl ⟨S.par x (bh mh),a3z Ck mh hu⟩⟩
   ·rw[cF (by lia)]at mh;rw[cF (by rw[ai,hl];lia),ai,aU,hl]at h2;have kE:lR[i-ps.length]?=cz v:=by
     cases e:lR[i-ps.length]? with
     |none=>rw[e]at h2;cases h2
     |some a=>rw[e]at h2;cases h2;rfl
    obtain⟨c,ob,uo,z1,z2,z3,z4⟩:=hC.get mh kE;exact⟨uo,z4,.inr ⟨.inr (S.fre x (bh mh)),c,z1,ob,oG c ob (e0.hok c _ z2).1,z3⟩⟩
  ·obtain⟨ob,uo,z1,z2⟩:=xr x c e;exact⟨uo,ob,oG c ob (e0.hok c _ z1).1,z2⟩
  ·show _=N.length;rw[aA,ai,ai,hl,hC.len,Dp]
 obtain⟨t,pt,qt⟩:=(hb c' A outer s (VS.cut H C) (hr.deeper _)).out;unfold fnE at hm;by_cases ha:argsOk us ds=true
 ·rw[aD ha]at hm;have vU:DenAll K (VS.cut H C) vs ds:=DenAll.junk J ds hd;have DU:DenAll K (VS.cut H C) lR qI:=DenAll.junk J qI hD;have h0:=R7 (K:=K) (H:=VS.cut H C) ha vU 0;simp only[gP,bb]at h0;have h1:=b7I DU;rw[hC.len]at h1;have SE:StE K (us.map .own++aG ys.length (.own .f)) (ds++qI) (vs.map cz++lR.map cz) (VS.cut H C) (VS.cut H C) []:=⟨⟨_,h0.app h1,λa ha=>(nomatch ha)⟩,λa ha=>(nomatch ha),by rw[K3];exact Same.refl _⟩;refine PySem.W.kla_codeExpr (dU (pt [] _ _ (VS.cut H C) (λv H'=>Same (VS.cut H C) H'/\ResR K (.new u) (VS.cut H C) H' [] v d) I (qt (ds++qI) _ (VS.cut H C) (VS.cut H C) [] d _ SE hm λv H' e r=>⟨e,r⟩)) (λv s' hs=>?_) λe s' hs=>(show False from hs).elim);obtain⟨v',H',J',r',e',fp,o,nd,fr⟩:=hs;have oP:∀c∈C,H' c=xn:=λc hc=>by
   obtain⟨y,hy⟩:=memC c hc;exact J'.freeC y c hy
  have inn:∀{b:ax} {o:HO},H' b=cz o->a7d C H H' b=cz o:=λ{b o} q=>by
   rw[p6 (λz=>by rw[oP b z]at q;cases q)];exact q
  have nC:∀{b:ax},H b=xn->b∉C:=λ{b} n z=>by
   obtain⟨u,hu⟩:=Cr b z;rw[n]at hu;cases hu
  have xw:∀a∈fp,a∉C:=λa ha z=>by
   obtain⟨ys,q⟩:=o.lst u a ha;rw[oP a z]at q;cases q
  refine (show CE outer P w H s Q v s' from⟨v',a7d C H H',J'.os,J'.bare,⟨λb o q n hb hx=>J'.base.keep b o q (y8 n) hb hx,λb o q n hb hx=>J'.base.slot b o q (y8 n) hb hx,λb o q n hx=>?_,J'.base.there,λb xs e=>?_,λb o u e=>?_,λb ps e=>?_⟩,λb o e=>?_,r',hq v' _ fp (λb o e=>?_) ?_ nd λa ha=>?_⟩)
  ·rw[p6 (nC n)];exact J'.base.free b o q (y8 n) hx
  ·have nb:=J.out e λo z=>(nomatch z)
   rw[p6 nb];exact J'.base.tups b xs (i4 nb e)
  ·by_cases hb:b∈C
   ·rw[a0R hb];exact e
   ·rw[p6 hb];exact J'.base.frzs b o u (i4 hb e)
  ·have nb:=J.out e λo z=>(nomatch z)
   obtain⟨more,z⟩:=J'.base.tbls b ps (i4 nb e);exact⟨more,by rw[p6 nb];exact z⟩
  ·by_cases hb:b∈C
   ·rw[a0R hb]at e;obtain⟨ob,rfl⟩:=J b hb o e;have z:=(e0.hok b _ e).1;have z':=J'.base.keep b ob z (U9 hb) (λy=>by rw[e0.frf b y]at e;cases e) (by intro y;exact absurd (show b∈([]:List ax) from y) (by simp));exact⟨z',_,z'⟩
   ·rw[p6 hb]at e;exact (J'.hok b o e).stay (λ_ _ _ q=>q) (λb q=>inn q) λb u q=>inn q
  ·by_cases hb:b∈C
   ·rw[a0R hb];exact e
   ·rw[p6 hb];exact e' b o (i4 hb e)
  ·refine Own.frame (λb o' hb=>?_) u o λa ha=>p6 (xw a ha)
   obtain⟨n1,n2⟩:=l7 hb;exact i4 (λz=>n1 (ak _ z)) (inn n2)
  ·have:=fr a ha;rw[X7 (xw a ha)]at this;exact this
 ·rw[aM ha]at hm;cases hm
def a9G(X:Cx)(cl:List (bG×ax)):List bG->List Nat->Prop
 |[],js=>js=[]
 |y::ys,js=>∃j r c,js=j::r/\X.N[j]?=cz y/\X.env.kindOf y=cz .cell/\X.env.cells.lookup y=cz c/\cl.lookup y=cz c/\a9G X cl ys r
def c1l(X:Cx)(cl:List (bG×ax)):Prop:=∀p∈cl,X.env.cells.lookup p.1=cz p.2/\X.fn p.1=true
def b6H(σ:L2.St):List Nat->List V->Prop
 |[],vs=>vs=[]
 |j::js,vs=>∃v r,vs=v::r/\σ[j]?=cz (cz v)/\b6H σ js r
def b9F(X:Cx)(cl:List (bG×ax))(ys:List bG)(js:List Nat)(sp:Sp)(t:TA):TE:=λσ H Q=>t σ H λvs H1=>∃lR,b6H σ js lR/\
 ∀(H2:Hp) (C:List ax),(∀x y c,cl.lookup x=cz c->cl.lookup y=cz c->x=y)->Same H1 H2->CellsIn cl H2 ys lR->b3N cl H2->Junk H2 C->(∀b,b∉C->H2 b=H1 b)->(∀b∈C,H1 b=xn)->sp vs H2 (λv H'=>Junk H' C->Q v (VS.cut H' C)) E0
theorem a7h{cl:List (bG×ax)}(I:Inv X pins σ H s)(h2:∀y c,cl.lookup y=cz c->∀ob,s.heap.get? c=cz ob->H2 c=cz (.frz ob (.own c))) :
  ∀{ys:List bG} {js:List Nat} {lR:List V},a9G X cl ys js->b6H σ js lR->CellsIn cl H2 ys lR
 |[],js,lR,h,q=>by
  rw[show js=[] from h]at q;exact q
 |y::ys,_,lR,h,q=>by
  obtain⟨j,r,c,rfl,h1,h3,h4,h5,h6⟩:=h;obtain⟨v,rs,rfl,q1,q2⟩:=q;obtain⟨m,hn,hl⟩:=I.loc;obtain⟨u,ru,lk⟩:=hl j y v h1 q1 (.inr (.inl h3));rcases lk with⟨k,_⟩|⟨k,c',e',ob,z1,z2⟩
  ·rw[h3]at k;cases k
  ·rw[h4]at e';cases e'
   exact⟨v,rs,c,ob,u,rfl,h5,h2 y c h5 ob z1,z2,ru,a7h I h2 h6 q2⟩
section
variable {X:Cx}{k:Nat}{f:ax}{fd:dP}{ps:List bG}{sp:Sp}{x:bG}{p pos:fT}{e:Expr}{es:List Expr}{t:TA}{cl:List (bG×ax)}{ys:List bG}{js:List Nat}
def b3O(F:FnOk X.prog X.w X.K X.mg X.base CX0 k f fd ps sp)(hr:Room k X.A)(hg:Gl X x)(hm:X.mg x=cz (.ref f))(hk:fS X.K (.ref f)=true)(hb:Binds X.K fd ps [])(ha:PA X (e::es) t)(tz:a9G X cl ys js)(mo:c1l X cl)
  (lF:(x==("__debug__":bG))=false) (he:au (e::es) X.env=(false,cC e X.env)::au es X.env) (gH:(cH pos (au es X.env)).any (·.1)=false) :
  PE X (.Call (.Name x p) (e::es) [] pos) (b9F X cl ys js sp t):=by
 intro pins s0 σ H0 Q I0 h;refine gz (a5j I0 hg hm ?_ lF);refine zV (h₀:=X.base) I0.ok.mod.kin hk (L2.thn (ha pos pins s0 σ H0 _ I0 h) λus s ⟨vs,H,I,r,lR,DR,q⟩=>⟨I.kIn,?_⟩) he gH;obtain⟨C,memC,uW⟩:∃C:List ax,(∀c∈C,∃y,cl.lookup y=cz c)/\∀y c,cl.lookup y=cz c->c∈C:=
  ⟨(cl.map (·.1)).filterMap λy=>cl.lookup y,λc hc=>let⟨y,_,e⟩:=dY.mp hc;⟨y,e⟩,λy c e=>dY.mpr ⟨y,aJ.mpr ⟨(y,c),cB e,rfl⟩,e⟩⟩
 have oI:∀c∈C,∃y,X.env.cells.lookup y=cz c/\X.fn y=true:=λc hc=>by
  obtain⟨y,hy⟩:=memC c hc;exact⟨y,mo _ (cB hy)⟩
 have oP:∀c∈C,H c=xn:=λc hc=>by
  obtain⟨y,hy,_⟩:=oI c hc;exact I.freeC y c hy
 have mN:∀c∈C,∃ob v,s.heap.get? c=cz ob/\ob.data=.cell v:=λc hc=>by
  obtain⟨y,hy,_⟩:=oI c hc;obtain⟨v,ob,z1,z2⟩:=I.cell y c hy;exact⟨ob,v,z1,z2⟩
 have rV:∀c∈C,X.s₀.heap.objs.size<=c:=λc hc=>by
  obtain⟨y,hy,hf⟩:=oI c hc;exact I.ok.cab y c hf hy
 obtain⟨H2,qu,mK⟩:∃H2:Hp,(∀c∈C,∀ob,s.heap.get? c=cz ob->H2 c=cz (.frz ob (.own c)))/\∀b,b∉C->H2 b=H b:=
  ⟨λb=>if b∈C then (s.heap.get? b).map (λo=>HO.frz o (.own b)) else H b,λc hc ob z=>by show (if c∈C then _ else _)=_;rw[aD hc,z];rfl,λb hb=>aM hb⟩
 have lU:Same H H2:=λb o e=>by
  rw[mK b (λz=>by rw[oP b z]at e;cases e)];exact e
 have J2:Junk H2 C:=λa hm u e=>by
  obtain⟨ob,v,z1,_⟩:=mN a hm;rw[qu a hm ob z1]at e;cases e
  exact⟨ob,rfl⟩
 have oU:HOk X.prog X.w H2 s.heap:=λb o e=>by
  by_cases hb:b∈C
  ·obtain⟨ob,v,z1,_⟩:=mN b hb;rw[qu b hb ob z1]at e;cases e
   exact⟨z1,_,z1⟩
  ·rw[mK b hb]at e;exact (I.hok b o e).stay (λ_ _ _ q=>q) (λb q=>lU _ _ q) λb u q=>lU _ _ q
 have e0:Env0 X.prog X.w X.K X.mg X.base X.A X.stack s H2:=by
  have z:=I.env0;refine⟨z.frames,z.mod,λb o e=>⟨(z.bs b o e).1,?_⟩,z.bsz,z.funs,λb hb=>?_,oU,z.bare,λx hx p e=>?_⟩
  ·rw[mK b λhc=>absurd (bt (aT e) (cV I.ok.bsz (rV b hc))) (dS _)];exact (z.bs b o e).2
  ·rw[mK b λhc=>?_]
   ·exact z.frf b hb
   ·rcases aI.mp (I.stkSub b hb) with e|e
    ·obtain⟨y,hy,_⟩:=oI b hc;exact I.cne y b hy e
    ·obtain⟨_,o,ho,_⟩:=I.ok.funs.mem e;exact absurd (bt (aT ho) (rV b hc)) (dS _)
  ·obtain⟨qs,t',e1,e2⟩:=z.tabs x hx p e;exact⟨qs,t',lU _ _ e1,e2⟩
 have pS:=q H2 C (λx y c z1 z2=>I.ok.inj x y c (mo _ (cB z1)).1 (mo _ (cB z2)).1) lU (a7h I (λy c hy ob z=>qu c (uW y c hy) ob z) tz DR) (λy c hy=>by
  obtain⟨ob,v,z1,z2⟩:=mN c (uW y c hy);exact⟨ob,v,qu c (uW y c hy) ob z1,z2⟩) J2 mK oP
 have r2:Vals vs (us++[]):=by rw[bb];exact r
 have hl:(us++[]).length=ps.length:=by rw[<-r2.length];exact F.len _ _ _ _ pS
 refine uL (gX (F.run X.A X.stack s H2 ⟨us,[]⟩ (us++[]) vs _ E0 hr e0 (hb s us I.kIn hl) r2 pS) λr s' hq=>?_);cases r with
 |error e=>exact cK hq
 |ok fl=>
  cases fl with
  |next=>exact cK hq
  |brk=>exact cK hq
  |cont=>exact cK hq
  |ret u=>
   obtain⟨v,H',os,bare,un,pX,rv,qv⟩:=(show CE X.stack X.prog X.w H2 s _ u s' from hq);have fz:∀c∈C,∃ob,s.heap.get? c=cz ob/\H' c=cz (.frz ob (.own c))/\s'.heap.get? c=cz ob:=λc hc=>by
    obtain⟨ob,v,z1,_⟩:=mN c hc;have z2:=un.frzs c ob _ (qu c hc ob z1);exact⟨ob,z1,z2,(pX c _ z2).1⟩
   have J':Junk H' C:=λa hm u e=>by
    obtain⟨ob,_,z,_⟩:=fz a hm;rw[z]at e;cases e
    exact⟨ob,rfl⟩
   have n2:∀b,H b=xn->b∉C->H2 b=xn:=λb n hb=>by rw[mK b hb];exact n
   have oC:∀b u,H b=cz u->b∉C:=λb u e z=>by rw[oP b z]at e;cases e
   have BQ:Un (frs X.stack) [] H (VS.cut H' C) s.heap s'.heap:=by
    refine⟨λb o e n hb hx=>?_,λb o e n hb hx=>?_,λb o e n hx=>?_,un.there,λb xs e=>?_,λb o u e=>?_,λb ps e=>?_⟩
    ·by_cases hc:b∈C
     ·obtain⟨ob,z1,_,z3⟩:=fz b hc;rw[e]at z1;cases z1
      exact z3
     ·exact un.keep b o e (n2 b n hc) hb hx
    ·by_cases hc:b∈C
     ·obtain⟨ob,z1,_,z3⟩:=fz b hc;rw[e]at z1;cases z1
      exact⟨o.slots,z3⟩
     ·exact un.slot b o e (n2 b n hc) hb hx
    ·by_cases hc:b∈C
     ·exact U9 hc
     ·exact y8 (un.free b o e (n2 b n hc) hx)
    ·exact i4 (oC b _ e) (un.tups b xs (lU _ _ e))
    ·exact i4 (oC b _ e) (un.frzs b o u (lU _ _ e))
    ·obtain⟨more,z⟩:=un.tbls b ps (lU _ _ e);exact⟨more,i4 (oC b _ e) z⟩
   exact⟨v,VS.cut H' C,I.call' os BQ (a7f pX J') bare (λb z=>absurd z (by simp)),rv,qv J'⟩
end
def O8(scope:gD)(env:nL):List (bG×ax):=scope.names.foldl (λcs p=>if p.2==.free then (match env.cells.lookup p.1 with|some c=>(p.1,c)::cs|none=>cs) else cs) []
def a8z:∀p∈O8 scope env,env.cells.lookup p.1=cz p.2:=by
 have key:∀(l:List (bG×i_)) (cs:List (bG×ax)),(∀p∈cs,env.cells.lookup p.1=cz p.2)->∀p∈l.foldl (λcs p=>if p.2==.free then (match env.cells.lookup p.1 with|some c=>(p.1,c)::cs|none=>cs) else cs) cs,env.cells.lookup p.1=cz p.2:=by
  intro l
  induction l with
  |nil=>intro cs h;exact h
  |cons a l ih=>
   intro cs h;rw[Ga];refine ih _ λp hp=>?_
   split at hp
   ·split at hp
    ·rename_i c hc
     rcases aI.mp hp with e|e
     ·rw[e];exact hc
     ·exact h p e
    ·exact h p hp
   ·exact h p hp
 exact key _ _ λp hp=>(nomatch hp)
def b6I{X:Cx}(oe:∀x,X.fn x=true:=by exact λ_=>rfl):c1l X (O8 scope X.env):=λp hp=>⟨a8z p hp,oe _⟩
section
variable {X:Cx}{M:List Md}{e0:Expr}{es:List Expr}{f:EvA}{u uf:Ty}{x:bG}{p pos kI:fT}{params:nU}{body:Expr}{scope:gD}{ys:List bG}{js:List Nat}
def b6J(hx:y∈L7)(hP:B6 X.K y=cz P)(hc:X.env.code=.ref c)(hd:gE X.base c P)(hq:X.env.qual++"<lambda>"=U4 y)
  (oZ:pf scope X.env=pure (O8 scope X.env):=by rfl) (tw:defaultsOf params X.env=([],[]):=by rfl) (hs:au [.Lambda params body scope kI] X.env=(false,cC (.Lambda params body scope kI) X.env)::au [] X.env:=by rfl) :
  PAL X M [.Lambda params body scope kI] b8 λH v=>∃fa,v=.ref fa/\LamO (U4 y) params body scope (O8 scope X.env) H fa:=by
 refine⟨_,j8 (b1C hx hP hc hd hq oZ tw) o7 hs,λZ σ H P F ds Q S hf q=>?_⟩;cases hf
 exact λfa H' e L=>q [] (.ref fa) H' e denAll_nil ⟨fa,rfl,L⟩
def b9G(M:List Md):List Nat->Prop
 |[]=>True
 |j::js=>(∃w,M[j]?=cz (.own w))/\b9G M js
theorem a9H{K:ag}{Z:List D}{σ:L2.St}{H P:Hp}{F:List ax}(S:StE K M Z σ H P F):∀{js:List Nat},b9G M js->∃lR,b6H σ js lR/\DenAll K H lR (js.map λj=>Z.getD j .none)
 |[],_=>⟨[],rfl,denAll_nil⟩
 |j::js,h=>by
  obtain⟨⟨w,hw⟩,h2⟩:=h;obtain⟨v,fp,e,o,_⟩:=S.get hw;obtain⟨lR,q1,q2⟩:=a9H S h2;exact⟨v::lR,⟨v,lR,rfl,e,q1⟩,denAll_cons (o.den w) q2⟩
noncomputable def b6K(m:(List D->Option D)->List D->Option D)(us:List Ty)(js:List Nat)(fb:EvE)(f:EvA):EvE:=λZ=>(f Z).bind (m (fnE us (js.map λj=>Z.getD j .none) fb))
def a8A{k kf n:Nat}{ps pl N:List bG}{q:bG}{us:List Ty}{fb:EvE}{m:(List D->Option D)->List D->Option D}
  (W:Has X.prog X.w X.K X.mg X.base x k ps (spL X.K n (λgm=>FnV X.prog X.w X.K X.mg X.base (kf+1) pl.length uf gm) m u)) (hr:Room k X.A) (h:PAL X M (e0::es) f λH v=>∃fa,v=.ref fa/\LamO q params body scope (O8 scope X.env) H fa)
  (tz:a9G X (O8 scope X.env) ys js) (hM:b9G M js) (S:LamScope N pl ys scope (O8 scope X.env)) (nk:us.length=pl.length)
  (nz:∀(pm:aj) (c:ax) (mr:aj) (us:List aj),us.length=pl.length->qx (PySem.W.kla_fn "<lambda>" q params body scope (O8 scope X.env) pm (.ref c) mr) ⟨us,[]⟩=pure (pl.zip us))
  (hb:∀(fa c:ax) (A:bP) (outer:List nL) (s:av) (H:Hp),Room kf (A.deeper (jy q scope s.heap.objs.size fa (.ref c) (O8 scope X.env)))->PX (a9F X.prog X.w X.K X.mg X.base N q scope fa (.ref c) (O8 scope X.env) A outer s H) (us.map .own++aG ys.length (.own .f)) body fb (.new uf))
  (hfl:∀Z ds,f Z=cz ds->ds.length=n) (hu:u.shut=true:=by rfl) (oe:∀x,X.fn x=true:=by exact λ_=>rfl)
  (hg:Gl X x:=by rfl) (lF:(x==("__debug__":bG))=false:=by decide) (he:au (e0::es) X.env=(false,cC e0 X.env)::au es X.env:=by rfl) (gH:(cH pos (au es X.env)).any (·.1)=false:=by rfl) :
  PX X M (.Call (.Name x p) (e0::es) [] pos) (b6K m us js fb f) (.new u):=by
 obtain⟨t,pa,qa⟩:=h;obtain⟨FQ,fd,F,b,kp,Co⟩:=W.ex;refine .mk ⟨_,b3O F hr hg Co kp b pa tz (b6I oe) lF he gH,λZ σ H P F d Q S' hf q=>?_⟩;obtain⟨ds,h1,hf⟩:=bnd hf;refine qa Z σ H P F ds _ S' h1 λvs v H1 e1 r1 ⟨fa,hv,L⟩=>?_
 subst hv;obtain⟨lR,c1,c2⟩:=a9H (S'.grow e1) hM;refine⟨lR,c1,λH2 C sZ s2 ci EJ J2 o2 n2=>?_⟩;refine⟨vs,.ref fa,_,ds,d,rfl,by rw[r1.length];exact hfl Z ds h1,r1.up s2,λH' e'=>b6G (L.up (s2.trans e')) S sZ (ci.up e') (λy c z=>let⟨ob,uo,w1,w2⟩:=EJ y c z;⟨ob,uo,e' _ _ w1,w2⟩) (c2.up (s2.trans e')) nk nz (hb fa),hf,λv H' fp e o nd fr J'=>?_⟩;have xw:∀a∈fp,a∉C:=λa ha z=>by
  obtain⟨ys,w⟩:=o.lst u a ha;obtain⟨ob,w'⟩:=J' a z _ w;have:=ys.2;rw[w']at this;exact this
 have sm:Same H1 (VS.cut H' C):=λb o' hb=>i4 (λz=>by rw[n2 b z]at hb;cases hb) (e _ _ (s2 _ _ hb))
 refine q v (VS.cut H' C) (e1.trans sm) ⟨fp,(o.junk J' u).shut_out (λa ha=>?_) u hu,nd,λa ha=>?_⟩
 ·rcases ar.mp ha with z|z
  ·exact (o.junk J' u).lst u a z
  ·exact S'.lst' (e1.trans sm) a z
 ·have:=fr a ha;rw[o2 a (xw a ha)]at this;exact e1.free this
end
def b3P{P:bD}{w:cm}{K:ag}{mg:bG->Option aj}{base:cQ}{x:bG}{st:iq}{f:ax}{fd:dP}{N ps:List bG}{k n:Nat}{us:List Ty}{u:Ty}{g:EvS}{M':List Md}(F:Fun K x x st f fd)(S:FnScope N ps (f6 st))(nk:us.length=ps.length)(hn:N.length=ps.length+n)
  (hb:∀(A:bP) (outer:List nL) (s:av) (H:Hp) (E:XK),Room k (A.deeper (iB x (f6 st) s.heap.objs.size f fd.code))->PSsX (Z0 CX0 P w K mg base N x (f6 st) f fd.code A outer s H E).nox u [] (us.map .own++aG n .dead) (r9 st) g M') :
  FnOk P w K mg base CX0 (k+1) f fd ps (spD K ps.length (fnD us n g) u):=by
 obtain⟨oc,od,kV,doc,pm,an,fW,ct,oQ,rfl,lk,iE⟩:=F.ex;refine b7z lk iE S (λvs H Q E ⟨ds,d,hl,_⟩=>hl) λA outer s H vs Q E hr ⟨ds,d,hl,hd,hm,q⟩=>?_
 obtain⟨t,p,r⟩:=(hb A outer s H E hr).out;refine⟨t,p.nox,?_⟩;unfold fnD at hm;by_cases ha:argsOk us ds=true
 ·rw[aD ha]at hm;obtain⟨o,h1,h2⟩:=bnd hm;cases o with
  |rt d'=>
   have kE:cz d'=cz d:=h2;cases kE
   have e:L2.start N vs=vs.map cz++aG n xn:=by
    unfold L2.start;rw[show N.length-vs.length=n by lia]
   rw[e];refine r _ (ds++aG n iH) _ H H [] (.rt d) ⟨⟨[],R7 ha hd n,bI,λa ha=>(nomatch ha)⟩,λa ha=>(nomatch ha),by rw[K3];exact Same.refl H⟩ h1 ?_;exact λv H' fp o nd fr e=>q v H' fp e o nd fr
  |_=>cases h2
 ·rw[aM ha]at hm;cases hm
def b3Q{K:ag}{base:cQ}{fd:dP}(e:(B6 K x).isSome=true)(X:K.In base)(G:base.Ns bU mg)(a:gI K bU x=cz (cz (.ref f)))(l:K.lookup f=cz ⟨oc,od,.func fd,sl⟩) :
  ∃c p,fd.code=.ref c/\B6 K x=cz p/\gE base c p:=by
 obtain⟨p,hp⟩:=kA.mp e;obtain⟨f',Fp,Fo,Bm,Ac,c,h1,h2,h3,h4⟩:=a4I hp X G;have h5:=kr X G a;rw[h1]at h5;cases h5
 rw[l]at h2;cases h2
 exact⟨c,p,h3,hp,h4⟩
end VS
namespace VS
open PySem PySem.Spec L2
section
variable {X:Cx}{M:List Md}{e0:Expr}{f0:EvE}{c0:Cat}{wt u w:Ty}{ML:List Md}{x y:bG}{p pos:fT}
def b6L(i:Nat){px q lV:fT}(nr:X.N.Nodup)(W:Has X.prog X.w X.K X.mg X.base x k ps (spO X.K m wt u))(hr:Room k X.A)(h0:PX X M e0 f0 c0)(hc:frozen c0:=by trivial)(hu:u.shut=true:=by rfl)(hw:wt.shut=true:=by rfl)
  (hm:M[i]?=cz (.own wt):=by rfl) (hN:X.N[i]?=cz y:=by rfl) (hv:Vis X.env.scope y:=by first|exact bO rfl|exact bN (bO rfl)|exact bN (bN rfl)) (hd:(y==("__debug__":bG))=false:=by decide) (iE:(y==("__classdict__":bG))=false:=by decide)
  (hx:Loc X.env.scope y:=by first|exact bO rfl|exact bN rfl) (hf:X.fn y=true∨X.env.scope.names.lookup y=cz .local:=by first|exact .inl rfl|exact .inr rfl)
  (hg:Gl X x:=by rfl) (lF:(x==("__debug__":bG))=false:=by decide) (he:au [e0,.Name y q] X.env=(false,cC e0 X.env)::au [.Name y q] X.env:=by rfl) (zb:au [.Name y q] X.env=(false,cC (.Name y q) X.env)::au [] X.env:=by rfl) (gH:(cH pos (au [.Name y q] X.env)).any (·.1)=false:=by rfl)
  (hs:eU (.Call (.Name x p) [e0,.Name y q] [] pos) (cz (.Name y px)) lV.line X.env=pure false:=by rfl) :
  PSX X w ML M (.Assign [.Name y px] (.Call (.Name x p) [e0,.Name y q] [] pos) lV) (g9 i (b6o m f0 (a6 i))) (M.set i (.own u)):=by
 obtain⟨t0,p0,q0⟩:=h0.out;refine .mk ⟨_,a5k nr hN hx (a5t W hr (j8 p0 (j8 (A0 hN hv hd iE) o7 zb) he) hg lF he gH) hs hf,λD Z σ H P F o S qY kk=>?_⟩;obtain⟨d,h1,g1⟩:=bnd qY;cases g1
 obtain⟨a,a1,a2⟩:=bnd h1;obtain⟨b,b1,b2⟩:=bnd a2;cases b1
 refine q0 Z σ H P F a _ S.toE a1 λv0 H1 s1 r0=>?_
 obtain⟨G,h2,nd,xq⟩:=S.all;obtain⟨dd,oo,mi,pre,post,e1,e2,⟨vl,ev,e3⟩,e4,e5⟩:=h2.at_ hm;subst ev;rw[e4]at nd xq;have uq:∀z∈mi,z∈F:=λz hz=>xq z (ah _ (ak _ hz))
 have Cm:mi.Nodup:=(bC.mp (bC.mp nd).2.1).1;have AF:∀z∈pre++post,z∉mi/\z∈F:=λz hz=>by
  refine⟨λy=>?_,?_⟩
  ·rcases ar.mp hz with c|c
   ·exact (bC.mp nd).2.2 z c z (ak _ y) rfl
   ·exact (bC.mp (bC.mp nd).2.1).2.2 z y z c rfl
  ·rcases ar.mp hz with c|c
   ·exact xq z (ak _ c)
   ·exact xq z (ah _ (ah _ c))
 have zk:Same (cut H F) (cut H1 F):=G9 s1;have Bu:Own X.K H1 F wt vl dd mi:=Own.frame zk wt e3 λz hz=>S.toE.keep s1 z (uq z hz)
 refine⟨vl,e2,?_⟩;show spO X.K m wt u ([v0,vl]++[]) H1 _ E0;rw[bb];rw[A9 e1]at b2;refine⟨v0,a,vl,dd,d,mi,rfl,(R1 hc r0).up (D8 uq),Bu.shut_out (Bu.lst wt) wt hw,Cm,b2,λv H' fp e ov Cj Et=>?_⟩;have keep:∀z,z∉mi->∀o,H1 z=cz o->H' z=cz o/\z∉fp:=λz hz o ho=>⟨e _ _ (i4 hz ho),λy=>by have t:=i4 hz ho;rw[Et z y]at t;cases t⟩
 have AU:Same (cut H F) (cut H' (fp++F.filter λz=>!(mi.contains z))):=λz o hz=>by
  obtain⟨n1,n2⟩:=l7 hz;obtain⟨k1,k2⟩:=keep z (λy=>n1 (uq z y)) o (s1 _ _ n2);refine i4 (λy=>?_) k1;rcases ar.mp y with c|c
  ·exact k2 c
  ·exact n1 (eF.mp c).1
 have qW:∀z∈fp++F.filter (λz=>!(mi.contains z)),∃ys:MuO,H' z=cz ys.1:=λz hz=>by
  rcases ar.mp hz with c|c
  ·exact ov.lst u z c
  ·obtain⟨c1,c2⟩:=eF.mp c;obtain⟨ys,hy⟩:=S.toE.lst' s1 z c1;exact⟨ys,(keep z (λy=>by simp[y]at c2) _ hy).1⟩
 have hk:∀z∈pre++post,H' z=H z/\z∉fp:=λz hz=>by
  obtain⟨z1,z2⟩:=AF z hz;obtain⟨ys,hy⟩:=S.lst z z2;obtain⟨k1,k2⟩:=keep z z1 _ (s1 _ _ hy);exact⟨by rw[k1,hy],k2⟩
 refine kk _ _ (fp++F.filter λz=>!(mi.contains z)) ⟨⟨pre++(fp++post),e5 H' _ (.own u) d (cz v) fp (λz hz=>(hk z hz).1) AU ⟨v,rfl,ov.shut_out qW u hu⟩,X8 ?_ Cj λz hz y=>(hk z y).2 hz,λz hz=>?_⟩,qW,S.prot.trans AU⟩
 ·exact nd.sublist (mB (gy _) (jX _ _))
 ·rcases a2A hz with c|c
  ·exact ak _ c
  ·obtain⟨z1,z2⟩:=AF z c;exact ah _ (eF.mpr ⟨z2,by simp[z1]⟩)
end
end VS
namespace L2
open PySem
def Has.u(h:Has P w K mg base x i ps sp)(l:i<=j:=by decide):Has P w K mg base x j ps sp:=h.up l
end L2
namespace VS
open PySem PySem.Spec PyProof.Rows L2
structure DP (K:ag) (mg:bG->Option aj) (x:bG) (st:iq):Prop where
 ex:∃f fd,Fun K x x st f fd/\gI K bU x=cz (cz (.ref f))/\mg x=cz (.ref f)
section
variable {P:bD}{w:cm}{K:ag}{mg:bG->Option aj}{base h:cQ}{x:bG}{st:iq}{N ps:List bG}{k n:Nat}{us:List Ty}{u wt:Ty}{g:EvS}{sp:Sp}
def c1m{f:ax}{oc:aj}{od an:Option ax}{oQ:Array (Option aj)}{kV doc pm fW ct:aj}(X:K.In h)(G:h.Ns bU mg)(a:gI K bU x=cz (cz (.ref f)))(l:K.lookup f=cz ⟨oc,od,.func (fX x x (Q7 st) (r9 st) (f6 st) .none kV doc pm an fW ct),oQ⟩)
  (c:l_ K fW x=true) (k:fS K (.ref f)=true):DP K mg x st:=⟨_,_,b8v l c k,a,kr X G a⟩
def c2K(X:K.In h)(G:h.Ns bU mg)(a:gI K bU x=cz (cz (.int i t))):∃t,mg x=cz (.int i t):=⟨t,kr X G a⟩
abbrev BBy(x:bG)(st:iq)(ps:List bG):Prop:=∀(kV doc pm:aj) (an:Option ax) (fW ct:aj) (us:List aj),us.length=ps.length->qx (fX x x (Q7 st) (r9 st) (f6 st) .none kV doc pm an fW ct) ⟨us,[]⟩=pure (ps.zip us)
def n9(d:DP K mg x st)(h:∀f fd,Fun K x x st f fd->FnOk P w K mg base CX0 k f fd ps sp)(b:BBy x st ps:=by intro _ _ _ _ _ _ us hl;first|(obtain⟨_,rfl⟩:=b9v hl;rfl)|(obtain⟨_,_,rfl⟩:=b9w hl;rfl)|(obtain⟨_,_,_,rfl⟩:=c1i hl;rfl)|(obtain⟨_,_,_,_,rfl⟩:=c2H hl;rfl)|(obtain⟨_,_,_,_,_,rfl⟩:=c2I hl;rfl)|(obtain⟨_,_,_,_,_,_,rfl⟩:=c2J hl;rfl)):Has P w K mg base x k ps sp:=by
 obtain⟨f,fd,F,a,m⟩:=d.ex;exact⟨f,fd,h f fd F,F.binds b,F.kp,m⟩
def b6M(d:DP K mg x st)(h:∀f fd,Fun K x x st f fd->gI K bU x=cz (cz (.ref f))->FnOk P w K mg base CX0 k f fd ps sp)(b:BBy x st ps:=by intro _ _ _ _ _ _ us hl;first|(obtain⟨_,rfl⟩:=b9v hl;rfl)|(obtain⟨_,_,rfl⟩:=b9w hl;rfl)|(obtain⟨_,_,_,rfl⟩:=c1i hl;rfl)):Has P w K mg base x k ps sp:=by
 obtain⟨f,fd,F,a,m⟩:=d.ex;exact⟨f,fd,h f fd F a,F.binds b,F.kp,m⟩
def fnF(F:Fun K x x st f fd)(N:List bG)(hb:∀(S:FnScope N ps (f6 st)) (fW:aj) (A:bP) (outer:List nL) (s:av) (H:Hp) (E:XK),Room k (A.deeper (iB x (f6 st) s.heap.objs.size f fW))->PSsX (Z0 CX0 P w K mg base N x (f6 st) f fW A outer s H E).nox u [] (us.map .own++aG n .dead) (r9 st) g [])
  (S:FnScope N ps (f6 st):=by exact⟨rfl,rfl,rfl,by decide +kernel,rfl,by decide +kernel,by decide +kernel⟩) (nk:us.length=ps.length:=by rfl) (hn:N.length=ps.length+n:=by rfl):FnOk P w K mg base CX0 (k+1) f fd ps (spD K ps.length (fnD us n g) u):=b5T F S nk hn (hb S)
def c2L(F:Fun K x x st f fd)(N:List bG)(M':List Md)(hb:∀(S:FnScope N ps (f6 st)) (fW:aj) (A:bP) (outer:List nL) (s:av) (H:Hp) (E:XK),Room k (A.deeper (iB x (f6 st) s.heap.objs.size f fW))->PSsX (Z0 CX0 P w K mg base N x (f6 st) f fW A outer s H E).nox .i [] (us.map .own++aG n .dead) (r9 st) g M')
  (S:FnScope N ps (f6 st):=by exact⟨rfl,rfl,rfl,by decide +kernel,rfl,by decide +kernel,by decide +kernel⟩) (nk:us.length=ps.length:=by rfl) (hn:N.length=ps.length+n:=by rfl):FnOk P w K mg base CX0 (k+1) f fd ps (spD K ps.length (fnN us n g) .i):=b2Z F S nk hn (hb S)
def c2M(F:Fun K x x st f fd)(N:List bG)(hb:∀(S:FnScope N ps (f6 st)) (fW:aj) (A:bP) (outer:List nL) (s:av) (H:Hp) (E:XK),Room k (A.deeper (iB x (f6 st) s.heap.objs.size f fW))->PSsX (Z0 CX0 P w K mg base N x (f6 st) f fW A outer s H E).nox u [] (.own .f::.own wt::aG n .dead) (r9 st) g [])
  (S:FnScope N ps (f6 st):=by exact⟨rfl,rfl,rfl,by decide +kernel,rfl,by decide +kernel,by decide +kernel⟩) (nk:ps.length=2:=by rfl) (hn:N.length=2+n:=by rfl):FnOk P w K mg base CX0 (k+1) f fd ps (spO K (fnO n g) wt u):=b3u F S nk hn (hb S)
def c2N{Φ:(List D->Option D)->Hp->V->Prop}{g:(List D->Option D)->EvS}(F:Fun K x x st f fd)(N:List bG)(hb:∀(S:FnScope N ps (f6 st)) (gm:List D->Option D) (fW:aj) (A:bP) (outer:List nL) (s:av) (H:Hp) (E:XK),Room k (A.deeper (iB x (f6 st) s.heap.objs.size f fW))->PSsX (Z0 CX0 P w K mg base N x (f6 st) f fW A outer s H E).nox u [] (us.map .own++(.fn (Φ gm)::aG n .dead)) (r9 st) (g gm) [])
  (S:FnScope N ps (f6 st):=by exact⟨rfl,rfl,rfl,by decide +kernel,rfl,by decide +kernel,by decide +kernel⟩) (nk:us.length+1=ps.length:=by rfl) (hn:N.length=ps.length+n:=by rfl) (hj:j=us.length:=by rfl):FnOk P w K mg base CX0 (k+1) f fd ps (spL K j Φ (fnL us n g) u):=hj▸b3K (M':=λ_=>[]) F S nk hn (hb S)
def c2O(F:Fun K x x st f fd)(N:List bG)(lt:(B6 K x).isSome=true)(X:K.In base)(G:base.Ns bU mg)(a:gI K bU x=cz (cz (.ref f)))(hb:∀(S:FnScope N ps (f6 st)) (c:ax) (p:ax) (hc:fd.code=.ref c) (hp:B6 K x=cz p) (hd:gE base c p) (A:bP) (outer:List nL) (s:av) (H:Hp) (E:XK),Room k (A.deeper (iB x (f6 st) s.heap.objs.size f fd.code))->PSsX (Z0 CX0 P w K mg base N x (f6 st) f fd.code A outer s H E).nox u [] (us.map .own++aG n .dead) (r9 st) g [])
  (S:FnScope N ps (f6 st):=by exact⟨rfl,rfl,rfl,by decide +kernel,rfl,by decide +kernel,by decide +kernel⟩) (nk:us.length=ps.length:=by rfl) (hn:N.length=ps.length+n:=by rfl):FnOk P w K mg base CX0 (k+1) f fd ps (spD K ps.length (fnD us n g) u):=by
 obtain⟨oc,od,kV,doc,pm,an,fW,ct,oQ,e,lk,iE⟩:=F.ex;obtain⟨c,p,h1,h2,h3⟩:=b3Q lt X G a lk;exact b3P F S nk hn (hb S c p h1 h2 h3)
def b9H(yZ:mg x=cz (.ref fa))(d:DP K mg x st)(h:∀base:cQ,K.In base->base.Ns bU mg->∀fd,Fun K x x st fa fd->FnOk P w K mg base CX0 k fa fd [p] sp)(b:∀(kV doc pm:aj) (an:Option ax) (fW ct v:aj),qx (fX x x (Q7 st) (r9 st) (f6 st) .none kV doc pm an fW ct) ⟨[v],[]⟩=pure [(p,v)]:=by intros;rfl) :
  ∃fd:dP,(∀(s:av) (v:aj),nT s fd ⟨[v],[]⟩ [(p,v)])/\∀base:cQ,K.In base->base.Ns bU mg->FnOk P w K mg base CX0 k fa fd [p] sp:=by
 obtain⟨f,fd,F,a,m⟩:=d.ex;rw[yZ]at m;cases m
 refine⟨fd,λs v=>?_,λbase X G=>h base X G fd F⟩;obtain⟨oc,od,kV,doc,pm,an,fW,ct,oQ,rfl,lk,iE⟩:=F.ex;exact .of_eq (b kV doc pm an fW ct v)
end
section
variable {X:Cx}{M:List Md}{e e0:Expr}{es:List Expr}{fe:EvE}{f:EvA}{c:Cat}{u:Ty}{pos p:fT}{x:bG}
abbrev mdF:Md:=.own .f
abbrev mdI:Md:=.own .i
abbrev mdL:Md:=.own (.l .i)
abbrev K7:Md:=.own (.l (.l .i))
abbrev mdD:Md:=.dead
def c6(i:Nat)(hN:X.N[i]?=cz x:=by rfl)(hv:Vis X.env.scope x:=by first|exact bO rfl|exact bN (bO rfl)|exact bN (bN rfl))(hd:(x==("__debug__":bG))=false:=by decide)(iE:(x==("__classdict__":bG))=false:=by decide)(hm:M[i]?=cz (.own .f):=by rfl):PX X M (.Name x pos) (a6 i) (.bor .f):=z0 i hN hv hd iE hm
def c8(i:Nat)(hN:X.N[i]?=cz x:=by rfl)(hv:Vis X.env.scope x:=by first|exact bO rfl|exact bN (bO rfl)|exact bN (bN rfl))(hd:(x==("__debug__":bG))=false:=by decide)(iE:(x==("__classdict__":bG))=false:=by decide)(hm:M[i]?=cz (.own .i):=by rfl):PX X M (.Name x pos) (a6 i) (.bor .i):=z0 i hN hv hd iE hm
def T7(i:Nat)(hN:X.N[i]?=cz x:=by rfl)(hv:Vis X.env.scope x:=by first|exact bO rfl|exact bN (bO rfl)|exact bN (bN rfl))(hd:(x==("__debug__":bG))=false:=by decide)(iE:(x==("__classdict__":bG))=false:=by decide)(hm:M[i]?=cz (.own (.l .i)):=by rfl):PX X M (.Name x pos) (a6 i) (.bor (.l .i)):=z0 i hN hv hd iE hm
def y9(i:Nat)(hN:X.N.Nodup)(hi:X.N[i]?=cz x:=by rfl)(hx:Loc X.env.scope x:=by first|exact bO rfl|exact bN rfl)(hf:X.fn x=true∨X.env.scope.names.lookup x=cz .local:=by first|exact .inl rfl|exact .inr rfl|assumption):PG X (.Name x pos) (K0 i):=n5 hN hi hx hf
def r8(hm:X.mg "len"=xn)(h:PX X M e fe c)(hg:Gl X "len":=by rfl)(he:au [e] X.env=(false,cC e X.env)::au [] X.env:=by rfl)(gH:(cH pos (au [] X.env)).any (·.1)=false:=by rfl):PX X M (.Call (.Name "len" p) [e] [] pos) (eCl q9 (a7 fe b8)) (.new .i):=a2W b8D hm PySem.boot_len (a8 h f8 he) hg (by decide) (by decide) he gH
def m8(W:Has X.prog X.w X.K X.mg X.base x k ps (spD X.K n m u))(hr:Room k X.A)(h:PAX X M (e0::es) f)(hu:u.shut=true:=by rfl)(hl:(e0::es).length=n:=by rfl)(hfl:∀Z ds,f Z=cz ds->ds.length=(e0::es).length:=by first|exact m5 J7|exact m5 (m5 J7)|exact m5 (m5 (m5 J7))|exact m5 (m5 (m5 (m5 J7)))|exact m5 (m5 (m5 (m5 (m5 J7)))))
  (hg:Gl X x:=by rfl) (lF:(x==("__debug__":bG))=false:=by decide) (he:au (e0::es) X.env=(false,cC e0 X.env)::au es X.env:=by rfl) (gH:(cH pos (au es X.env)).any (·.1)=false:=by rfl) :
  PX X M (.Call (.Name x p) (e0::es) [] pos) (eCl m f) (.new u):=a5B W hr h hu hl hfl hg lF he gH
def W5(hu:X.A.units+64<dW:=by exact Room.units (by assumption)):OpS X (dh .Eq) dEq:=os_eq hu
def b3R(hu:X.A.units+64<dW:=by exact Room.units (by assumption)):OpS X (dh .NotEq) dNe:=c0D hu
end
end VS
namespace VS
open PySem L2
section
variable {a b c:EvE}{Z:List D}{d x y:D}
def chE(g':D->D->Option D):Option D->Option D->EvE->List D->Option D
 |some (.bool true),cz y,c,Z=>l2 g' (cz y) (c Z)
 |some (.bool false),cz _,_,_=>cz (.bool false)
 |_,_,_,_=>xn
def c2P:eCh g g' a b c Z=chE g' (l2 g (a Z) (b Z)) (b Z) c Z:=by
 unfold eCh;cases a Z with
 |none=>rfl
 |some x=>
  cases b Z with
  |none=>rfl
  |some y=>
   show (g x y).bind _=chE g' (g x y) (cz y) c Z;cases g x y with
   |none=>rfl
   |some z=>
    cases z with
    |bool k=>
     cases k with
     |false=>rfl
     |true=>cases h:c Z<;>simp[chE,asB,h,l2]
    |_=>rfl
def c1n:chE g' (cz (.bool true)) (cz y) c Z=l2 g' (cz y) (c Z):=rfl
def c1o:chE g' (cz (.bool false)) (cz y) c Z=cz (.bool false):=rfl
def c2Q:(true==true)=true:=rfl
def c2R:(true==false)=false:=rfl
def c2S:(false==true)=false:=rfl
def c2T:(false==false)=true:=rfl
def c2U:(true !=true)=false:=rfl
def c2V:(true !=false)=true:=rfl
def c2W:(false !=true)=true:=rfl
def c2X:(false !=false)=false:=rfl
def trB:tr (.bool k)=cz k:=rfl
def c1p:asB (.bool k)=cz k:=rfl
def b3S:isN .none=true:=rfl
def b6N:isN (.int i)=false:=rfl
def b3T:isN (.bool i)=false:=rfl
def b3U:isN (.list ds)=false:=rfl
def b6O:isN (.tuple ds)=false:=rfl
def b9I:a7U k x .none=cz (.bool (k !=isN x)):=rfl
def b1D:isInt (.int i)=true:=rfl
def a8B:isInt (.bool i)=true:=rfl
def a8C:isInt .none=false:=rfl
def a8D:isInt (.list ds)=false:=rfl
def b1E:isInt (.tuple ds)=false:=rfl
def b1F:isInt (.str s)=false:=rfl
def a8E:isInt (.dict s)=false:=rfl
def a8F:isBool (.int i)=false:=rfl
def a7i:isBool (.bool i)=true:=rfl
def a7j:isBool .none=false:=rfl
def a7k:isBool (.list ds)=false:=rfl
def a8G:isBool (.tuple ds)=false:=rfl
def a8H:isBool (.str s)=false:=rfl
def a7l:isBool (.dict s)=false:=rfl
def isList_list:isList (.list ds)=true:=rfl
def isList_int:isList (.int i)=false:=rfl
def a7m:isList .none=false:=rfl
def isList_bool:isList (.bool i)=false:=rfl
def a8I:isList (.tuple ds)=false:=rfl
def isList_str:isList (.str s)=false:=rfl
def isList_dict:isList (.dict s)=false:=rfl
def a7n:G0 (.tuple ds)=true:=rfl
def isTuple_list:G0 (.list ds)=false:=rfl
def isTuple_int:G0 (.int i)=false:=rfl
def lIs:Option D->Option D
 |some d=>b2F d
 |none=>xn
def a4Q:eI a Z=lIs (a Z):=by unfold eI;cases a Z<;>rfl
def a9I(h:c9 ds=true):lIs (cz (.list ds))=cz (.list ds):=by
 show (if c9 ds=true then cz (cU ds) else xn)=_;rw[aD h]
def b3V:Option D->Option D
 |some (.list ds)=>cz (.list ds)
 |some (.tuple ds)=>cz (.list ds)
 |_=>xn
def a9J:K1 a Z=b3V (a Z):=by
 unfold K1;cases a Z with
 |none=>rfl
 |some d=>cases d<;>rfl
def c1q:b3V (cz (.list ds))=cz (.list ds):=rfl
def c1r:b3V (cz (.tuple ds))=cz (.list ds):=rfl
def lL:Option D->Option (List D)
 |some d=>asL d
 |none=>xn
def b1G:iL a Z=lL (a Z):=by unfold iL;cases a Z<;>rfl
def c2Y:lL (cz (.list ds))=cz ds:=rfl
def lII:Option (List D)->Option (List D)
 |some ds=>if c9 ds then cz ds else xn
 |none=>xn
def c1s:iI f Z=lII (f Z):=by unfold iI;cases f Z<;>rfl
def a1u(h:f Z=cz ds)(hi:c9 ds=true):iI f Z=cz ds:=by rw[c1s,h];show (if c9 ds=true then cz ds else xn)=_;rw[aD hi]
def b9J{ds:List D}(h:ds.length<1000000):b9f i (.list ds) (cz d) Z=cz (.nx (Z.set i (.list (ds++[d])))):=W1 h
def b9K:o8 i Z d=cz (Z.set i d):=rfl
def b9L:a3a i j Z (.tuple [x,y])=cz ((Z.set i x).set j y):=rfl
def c1t:pt1 d=cz [d]:=rfl
def c1u:pt2 (.tuple [x,y])=cz [x,y]:=rfl
def c2Z:tT Z=cz true:=rfl
end
def K8(P:List D->Prop)(h1:∃Z,o=cz (.nx Z)/\P Z)(h2:∀Z,P Z->Z3 (s Z)=R):Z3 (thn o s)=R:=by
 obtain⟨Z,rfl,h⟩:=h1;exact h2 Z h
def b3W(P:List D->Prop)(h1:∃Z,o=cz (.nx Z)/\P Z)(h2:∀Z,P Z->s Z=R):thn o s=R:=by
 obtain⟨Z,rfl,h⟩:=h1;exact h2 Z h
def Q1{R:Option D->Prop}(P:List D->Prop)(h1:∃Z,o=cz (.nx Z)/\P Z)(h2:∀Z,P Z->R (Z3 (s Z))):R (Z3 (thn o s)):=by
 obtain⟨Z,rfl,h⟩:=h1;exact h2 Z h
theorem a7o(f:D->D):∀{ds:List D},(∀d∈ds,∃bs,pt d=cz bs/\g (bs++cs)=cz (f d))->N5 pt tT g cs ds=cz (ds.map f)
 |[],_=>rfl
 |d::ds,h=>by
  obtain⟨bs,h1,h2⟩:=h d aL;have ih:=a7o f (ds:=ds) λe he=>h e (aw _ he)
  show (pt d).bind _=_;rw[h1];show (g (bs++cs)).bind _=_;rw[h2];show (N5 pt tT g cs ds).bind _=_;rw[ih];rfl
def a3A{js:List Nat}{Z ds:List D}(f:D->D)(hf:fi Z=cz ds)(hl:ds.length<=1000000)(h:∀d∈ds,∃bs,pt d=cz bs/\g (bs++js.map λj=>Z.getD j .none)=cz (f d)) :
  l6 fi js pt tT g Z=cz (.list (ds.map f)):=by
 unfold l6;rw[hf];show (if ds.length<=1000000 then _ else xn)=_;rw[aD hl,a7o f h];rfl
def a5Q{js:List Nat}{Z:List D}(f:Nat->D)(ha:a Z=cz (.int n))(h0:0<=n)(h1:n<=1000000)(h:∀k:Nat,(k:Int)<n->g (.int k::js.map λj=>Z.getD j .none)=cz (f k)) :
  l6 (iR a) js pt1 tT g Z=cz (.list ((ao n.toNat).map f)):=by
 rw[a3A (ds:=j6 0 n.toNat) (λd=>match d with|.int i=>f i.toNat|_=>.none) (a4d ha h0 (by lia)) (by rw[a3e];lia)]
 ·unfold j6;rw[bF]
  congr 2;refine bA λk _=>?_
  show f (0+(k:Int)).toNat=f k
  congr 1;lia
 ·intro d hd;unfold j6 at hd;obtain⟨k,hk,rfl⟩:=aJ.mp hd;have:=bw.mp hk;refine⟨_,rfl,?_⟩;have e:(0:Int)+(k:Int)=k:=by lia
  rw[e];exact h k (by lia)
theorem l8(f:α->D)(h:∀x,imm (f x)=true):∀xs:List α,c9 (xs.map f)=true
 |[]=>by simp only[c_,c9]
 |x::xs=>by simp only[ay,c9,h x,l8 f h xs,eO]
end VS
namespace Prog
open PySem L2 VS
abbrev iD(ns:List Int):D:=.list (ns.map .int)
end Prog
namespace VS
open PySem L2
mutual
theorem eqv_refl:∀d:D,d.canLay0=true->aH d d=true
 |.none,_=>by simp[aH]
 |.bool b,_=>by simp[aH]
 |.int i,_=>by simp[aH]
 |.str x,_=>by simp[aH]
 |.list xs,h=>by
  simp only[dI]at h;simp only[aH];exact eqvAll_refl xs h
 |.tuple xs,h=>by
  simp only[dI]at h;simp only[aH];exact eqvAll_refl xs h
 |.dict _,h=>by simp[dI]at h
theorem eqvAll_refl:∀xs:List D,ba xs=true->bQ xs xs=true
 |[],_=>by simp only[bQ]
 |x::xs,h=>by
  simp only[ba,aB]at h;simp only[bQ,aB];exact⟨eqv_refl x h.1,eqvAll_refl xs h.2⟩
end
def b7J{a b:D}(ha:a.canLay0=true)(hb:b.canLay0=true)(hd:a.depth<=60):dEq a b=cz (.bool (aH a b)):=by
 unfold dEq b0H;rw[ha,hb,aY hd];simp
def c1v{a b:D}(ha:a.canLay0=true)(hb:b.canLay0=true)(hd:a.depth<=60):dNe a b=cz (.bool (!aH a b)):=by
 unfold dNe b0H;rw[ha,hb,aY hd];simp
def c1w{a:D}(ha:a.canLay0=true)(hd:a.depth<=60):dNe a a=cz (.bool false):=by rw[c1v ha ha hd,eqv_refl a ha];rfl
theorem a5R(f:α->D)(h:∀x,(f x).canLay0=true):∀xs:List α,ba (xs.map f)=true
 |[]=>by simp only[c_,ba]
 |x::xs=>by simp only[ay,ba,h x,a5R f h xs,eO]
theorem Y7(f:α->D)(n:Nat)(h:∀x,(f x).depth<=n):∀xs:List α,cW (xs.map f)<=n
 |[]=>by simp only[c_,cW];exact cE _
 |x::xs=>by
  simp only[ay,cW];exact Nat.max_le.mpr ⟨h x,Y7 f n h xs⟩
def b6P:(aO i).canLay0=true:=by simp only[dI]
def a1v:(aO i).depth=0:=by simp only[eX]
def lay_ints(ns:List Int):(cU (ns.map .int)).canLay0=true:=by
 simp only[dI];exact a5R _ (λ_=>b6P) ns
def a0r(ns:List Int):(cU (ns.map .int)).depth<=1:=by
 simp only[eX];have:=Y7 aO 0 (λx=>by rw[a1v];exact az _) ns;lia
theorem a3B:∀(xs ys:List Int),bQ (xs.map aO) (ys.map aO)=decide (xs=ys)
 |[],[]=>by simp[bQ]
 |[],_::_=>by simp[bQ]
 |_::_,[]=>by simp[bQ]
 |x::xs,y::ys=>by
  have:aH (.int x) (.int y)=decide (x=y):=by
   show (x==y)=decide (x=y);exact gv x y
  simp only[ay,bQ,this,a3B xs ys,gk];by_cases h1:x=y<;>by_cases h2:xs=ys<;>simp[h1,h2]
def c1x{xs ys:List Int}:dEq (.list (xs.map .int)) (.list (ys.map .int))=cz (.bool (decide (xs=ys))):=by
 rw[b7J (lay_ints _) (lay_ints _) (cV (a0r _) (by decide))];simp only[aH,a3B]
def b1H:Option D->Option D->Option D
 |some (.list ds),cz (.list es)=>if ds.length+es.length<=a_ then cz (.list (ds++es)) else xn
 |_,_=>xn
def a9K{Z:List D}:R6 a b Z=b1H (a Z) (b Z):=by
 unfold R6;cases a Z with
 |none=>rfl
 |some x=>
  cases x with
  |list ds=>
   cases b Z with
   |none=>rfl
   |some y=>cases y<;>rfl
  |_=>cases b Z<;>rfl
def b3X{ds es:List D}(h:ds.length+es.length<=16777216):b1H (cz (.list ds)) (cz (.list es))=cz (.list (ds++es)):=by
 show (if ds.length+es.length<=a_ then _ else _)=_;rw[aD (show ds.length+es.length<=a_ from h)]
def lSl:Option D->Option (Option Int)->Option (Option Int)->Option D
 |some (.list ds),cz l,cz h=>cz (.list (cutD ds l h))
 |_,_,_=>xn
def c3a{Z:List D}:eSl a lo hi Z=lSl (a Z) (lo Z) (hi Z):=by
 unfold eSl;cases a Z with
 |none=>rfl
 |some x=>
  cases x with
  |list ds=>
   cases lo Z with
   |none=>rfl
   |some y=>cases hi Z<;>rfl
  |_=>cases lo Z<;>cases hi Z<;>rfl
def c1y:lSl (cz (.list ds)) (cz l) (cz h)=cz (.list (cutD ds l h)):=rfl
def c1z{Z:List D}:oNo Z=cz xn:=rfl
def lO:Option D->Option (Option Int)
 |some (.int i)=>cz (cz i)
 |_=>xn
def c1A{Z:List D}:oSo a Z=lO (a Z):=by
 unfold oSo;cases a Z with
 |none=>rfl
 |some x=>cases x<;>rfl
def c3b:lO (cz (.int i))=cz (cz i):=rfl
def b9M{ds:List D}{k:Int}(h0:0<=k)(h1:k<=ds.length):cutD ds xn (cz k)=ds.take k.toNat:=by
 unfold cutD HT.sIx
 dsimp only
 rw[aM (by lia),List.drop_zero,Nat.sub_zero,lu (by lia)]
def a3C{xs ys:List Int}(h:xs.length+ys.length<=16777216):b1H (cz (.list (xs.map .int))) (cz (.list (ys.map .int)))=cz (.list ((xs++ys).map .int)):=by
 rw[b3X (by simpa using h),aK]
def a5S{xs:List Int}:lIs (cz (.list (xs.map .int)))=cz (.list (xs.map .int)):=a9I (w6 _)
def a2G:aH (.int x) (.int y)=decide (x=y):=by
 show (x==y)=decide (x=y);exact gv x y
def at0{α:Type}{x:α}{xs:List α}:L2.atI (x::xs) 0=cz x:=by
 unfold L2.atI ixN;rw[aD (by decide),aD (by simp only[aS];lia)];rfl
def at1{α:Type}{x y:α}{xs:List α}:L2.atI (x::y::xs) 1=cz y:=by
 unfold L2.atI ixN;rw[aD (by decide),aD (by simp only[aS];lia)];rfl
def u6{enc:α->D}{set:List D->D->Option (List D)}{xs:List α}{Z:List D}(I:List α->List D->Prop)(h0:I [] Z)
  (step:∀pre x post,xs=pre++x::post->∀Z,I pre Z->∃Z1 Z2,set Z (enc x)=cz Z1/\g Z1=cz (.nx Z2)/\I (pre++[x]) Z2) :
  ∃Z',U2 set g (xs.map enc) Z=cz (.nx Z')/\I xs Z':=by
 have key:∀(post pre:List α) (Z:List D),xs=pre++post->I pre Z->∃Z',U2 set g (post.map enc) Z=cz (.nx Z')/\I xs Z':=by
  intro post
  induction post with
  |nil=>
   intro pre Z e h;rw[bb]at e;subst e;exact⟨Z,rfl,h⟩
  |cons x post ih=>
   intro pre Z e h;obtain⟨Z1,Z2,h1,h2,h3⟩:=step pre x post e Z h;obtain⟨Z',h4,h5⟩:=ih (pre++[x]) Z2 (by rw[e,aP];rfl) h3;refine⟨Z',?_,h5⟩;show (set Z (enc x)).bind _=_;rw[h1];show (g Z1).bind _=_;rw[h2];exact h4
 exact key xs [] Z rfl h0
def a1w:j6 0 n=(ao n).map λ(k:Nat)=>aO k:=by
 unfold j6;refine bA λk _=>?_
 show aO (0+(k:Int))=.int k;rw[Int.zero_add]
def W6(h:ao n=pre++x::post):x=pre.length/\x<n/\pre=ao x:=by
 have hx:(ao n)[pre.length]?=cz x:=by rw[h];simp
 have iX:pre.length<n:=by have:=dH et h;simp at this;lia
 rw[fQ iX]at hx;have e:x=pre.length:=(aE hx).symm;refine⟨e,by lia,?_⟩;have:=dH (List.take pre.length) h;rw[List.take_append_of_le_length (az _),ou,pB,lu (by lia)]at this;rw[e,this]
def C6{set:List D->D->Option (List D)}{Z:List D}(I:Nat->List D->Prop)(h0:I 0 Z)
  (step:∀k,k<n->∀Z,I k Z->∃Z1 Z2,set Z (.int k)=cz Z1/\g Z1=cz (.nx Z2)/\I (k+1) Z2) :
  ∃Z',U2 set g (j6 0 n) Z=cz (.nx Z')/\I n Z':=by
 rw[a1w];obtain⟨Z',h1,h2⟩:=u6 (enc:=λ(k:Nat)=>aO k) (set:=set) (g:=g) (xs:=ao n) (Z:=Z) (λpre Z=>I pre.length Z) h0 λpre x post e Z h=>by
  obtain⟨e1,e2,_⟩:=W6 e;subst e1;obtain⟨Z1,Z2,a,b,c⟩:=step pre.length e2 Z h;exact⟨Z1,Z2,a,b,by rw[aA];exact c⟩
 rw[bH]at h2;exact⟨Z',h1,h2⟩
def big:Int:=10^60
def b9N:1000<big:=by decide
abbrev i9:=List (List (Int×Int))
def stD(p:Int×Int):D:=.tuple [.int p.1,.int p.2]
def rwD(r:List (Int×Int)):D:=.list (r.map stD)
def rowAt(m:i9)(s:Int):List (Int×Int):=m.getD s.toNat []
def stp(m:i9)(s a:Int):Int×Int:=(rowAt m s).getD a.toNat (0,0)
structure WF (m:i9) (k:Nat):Prop where
 pos:0<m.length
 le:m.length<=30
 k1:1<=k
 k5:k<=5
 rows:∀r∈m,r.length=k
 next:∀r∈m,∀p∈r,0<=p.2/\p.2<(m.length:Int)
def C8{m:i9}{s:Int}(h0:0<=s)(h1:s<m.length):rowAt m s∈m:=by
 unfold rowAt;rw[ab,ae (by lia)];exact bW _
def WF.row{m:i9}{k:Nat}(w:WF m k){s:Int}(h0:0<=s)(h1:s<m.length):(rowAt m s).length=k:=w.rows _ (C8 h0 h1)
def b6Q{m:i9}{k:Nat}(w:WF m k){s a:Int}(h0:0<=s)(h1:s<m.length)(h2:0<=a)(h3:a<k):stp m s a∈rowAt m s:=by
 have:=w.row h0 h1;unfold stp;rw[ab,ae (by lia)];exact bW _
def WF.nx{m:i9}{k:Nat}(w:WF m k){s a:Int}(h0:0<=s)(h1:s<m.length)(h2:0<=a)(h3:a<k):0<=(stp m s a).2/\(stp m s a).2<(m.length:Int):=w.next _ (C8 h0 h1) _ (b6Q w h0 h1 h2 h3)
def a1x{m:i9}{s:Int}(h0:0<=s)(h1:s<m.length):L2.atI (m.map rwD) s=cz (rwD (rowAt m s)):=by
 rw[V9 h0 (by rw[ai];exact h1),cY];unfold rowAt;rw[ab,ae (by lia)];rfl
def b1I{r:List (Int×Int)}{a:Int}(h0:0<=a)(h1:a<r.length):dIx (rwD r) (.int a)=cz (stD (r.getD a.toNat (0,0))):=by
 show L2.atI (r.map stD) a=_;rw[V9 h0 (by rw[ai];exact h1),cY,ab,ae (by lia)];rfl
def c1B:dIx (stD p) (.int 0)=cz (.int p.1):=rfl
def c1C:dIx (stD p) (.int 1)=cz (.int p.2):=rfl
def a1y:imm (stD p)=true:=by unfold stD;simp only[imm,c9,eO]
def b9O:a5y (stD p)=cz (stD p):=b2X a1y
def b6R:a5y (.int i)=cz (.int i):=b2X R8
def c1D:q9 [rwD r]=cz (.int r.length):=by
 show cz (aO ((r.map stD).length:Nat))=_;rw[ai]
def b6S{Z:List D}:b2T i j (cz (stD p)) Z=cz (.nx ((Z.set i (.int p.1)).set j (.int p.2))):=rfl
def b3Y(p:Int×Int):(stD p).canLay0=true:=by unfold stD;simp[dI,ba]
def a7p(p:Int×Int):(stD p).depth<=1:=by unfold stD;simp[eX,cW]
def i6(m:i9):Int->List Int->List Int×Int
 |s,[]=>([],s)
 |s,a::p=>((stp m s a).1::(i6 m (stp m s a).2 p).1,(i6 m (stp m s a).2 p).2)
theorem a4R(m:i9):∀(p q:List Int) (s:Int),i6 m s (p++q)=((i6 m s p).1++(i6 m (i6 m s p).2 q).1,(i6 m (i6 m s p).2 q).2)
 |[],q,s=>rfl
 |a::p,q,s=>by
  show ((stp m s a).1::(i6 m (stp m s a).2 (p++q)).1,(i6 m (stp m s a).2 (p++q)).2)=_;rw[a4R m p q];rfl
theorem a4S(m:i9):∀(p:List Int) (s:Int),(i6 m s p).1.length=p.length
 |[],s=>rfl
 |a::p,s=>by
  show (i6 m (stp m s a).2 p).1.length+1=_;rw[a4S m p];rfl
theorem a1z{m:i9}{k:Nat}(w:WF m k):∀(p:List Int) (s:Int),0<=s->s<m.length->(∀a∈p,0<=a/\a<(k:Int))->0<=(i6 m s p).2/\(i6 m s p).2<(m.length:Int)
 |[],s,h0,h1,_=>⟨h0,h1⟩
 |a::p,s,h0,h1,h=>by
  have ha:=h a aL;have hn:=w.nx h0 h1 ha.1 ha.2;exact a1z w p _ hn.1 hn.2 λb hb=>h b (aw _ hb)
def a0s(m:i9)(p:List Int)(a s:Int):i6 m s (p++[a])=((i6 m s p).1++[(stp m (i6 m s p).2 a).1],(stp m (i6 m s p).2 a).2):=by
 rw[a4R];rfl
def c3c:Option Out->Option D
 |some (.rt d)=>cz d
 |some (.nx _)=>cz .none
 |_=>xn
def c1E(h:argsOk us ds=true):fnN us n g ds=c3c (g (ds++aG n .none)):=by
 unfold fnN;rw[aD h];cases g (ds++aG n .none) with
 |none=>rfl
 |some o=>cases o<;>rfl
section
variable {i:Nat}{t u2:Ty}{Z ds es:List D}{e d:D}{fe fj fa:EvE}{j a:Int}
def b3Z{n:Nat}(h0:0<=j)(h1:j<n):ixN n j=cz j.toNat:=by
 unfold ixN;rw[aD h0,aD h1]
def c1F(h:Z.getD i .none=.list ds)(hf:fe Z=cz d)(hj:fj Z=cz (.int j))(h0:0<=j)(h1:j<ds.length):a5D i (.l t) n8 fj fe Z=cz (.nx (Z.set i (.list (ds.set j.toNat d)))):=by
 unfold a5D n8;rw[hf,h];show (fj Z).bind _=_;rw[hj];show (ixN ds.length j).bind _=_;rw[b3Z h0 h1];rfl
end
def eq_nil{p:List Int}:dEq (.list (p.map .int)) (.list [])=cz (.bool (decide (p=[]))):=c1x (ys:=[])
def b9P:b3V (cz (rwD r))=cz (rwD r):=rfl
def c1G:lIs (cz (rwD r))=cz (rwD r):=a9I (l8 _ (λ_=>a1y) r)
def a8J{m:i9}{Z:List D}(h:a Z=cz (.list (m.map rwD)))(hl:m.length<=1000):l6 (iL a) [] pt1 tT (eI (K1 (a6 0))) Z=cz (.list (m.map rwD)):=by
 rw[a3A (ds:=m.map rwD) id]
 ·rw[List.map_id]
 ·rw[b1G,h];rfl
 ·rw[ai];lia
 ·intro d hd;obtain⟨r,_,rfl⟩:=aJ.mp hd;refine⟨_,rfl,?_⟩;show eI (K1 (a6 0)) [rwD r]=cz (rwD r);rw[a4Q,a9J];show lIs (b3V (cz (rwD r)))=_;rw[b9P,c1G]
end VS
namespace Prog
open PySem L2 VS
def top(i:Nat):iq:=PySem.Challenge.pw_probewell_k59_one_book.main.body.getD i (.Pass ⟨0,0,0,0⟩)
structure Bn (K:ag) (mg:bG->Option aj):Prop where
 d0:DP K mg "_law_mixed" (top 41)
 d1:DP K mg "_law_pool" (top 42)
 d2:DP K mg "_law_machine" (top 43)
 d3:DP K mg "_law_turned" (top 44)
 d4:DP K mg "_law_blown" (top 45)
 d5:DP K mg "is_whole" (top 5)
 d6:DP K mg "need_size" (top 34)
 d7:DP K mg "first_of_classes" (top 30)
 d8:DP K mg "renumbered" (top 17)
 d9:DP K mg "finer_level" (top 16)
 d10:DP K mg "levels_of" (top 15)
 d11:DP K mg "ways_from" (top 27)
 d12:DP K mg "ways_by_state" (top 26)
 d13:DP K mg "reached" (top 25)
 d14:DP K mg "least" (top 29)
 d15:DP K mg "rank" (top 10)
 d16:DP K mg "marks_among" (top 22)
 d17:DP K mg "first_parting" (top 19)
 d18:DP K mg "first_unlike" (top 18)
 d19:DP K mg "apart_from" (top 14)
 d20:DP K mg "apart" (top 13)
 d21:DP K mg "marks" (top 21)
 d22:DP K mg "one_ask_longer" (top 35)
 d23:DP K mg "rows_of" (top 32)
 d24:DP K mg "asks_of" (top 8)
 d25:DP K mg "ways" (top 24)
 d26:DP K mg "walked" (top 11)
 d27:DP K mg "book_probes" (top 39)
 d28:DP K mg "book_size" (top 33)
 d29:DP K mg "book" (top 38)
 d30:DP K mg "law" (top 46)
 bool_:mg "bool"=xn
 enumerate_:mg "enumerate"=xn
 int_:mg "int"=xn
 isinstance_:mg "isinstance"=xn
 len_:mg "len"=xn
 list_:mg "list"=xn
 max_:mg "max"=xn
 range_:mg "range"=xn
 reversed_:mg "reversed"=xn
 sorted_:mg "sorted"=xn
 tuple_:mg "tuple"=xn
 MOST_IN_BOOK_:∃t,mg "MOST_IN_BOOK"=cz (.int 3000 t)
 MOST_STATES_:∃t,mg "MOST_STATES"=cz (.int 30 t)
structure Bk (P:bD) (w:cm) (K:ag) (mg:bG->Option aj) (base:cQ):Prop extends Bn K mg
variable {P:bD}{w:cm}{K:ag}{mg:bG->Option aj}{base:cQ}
abbrev HB(_:Bk P w K mg base):=Has P w K mg base
def c3d:(["_law_j","_law_of","_law_goal"]:List bG).Nodup:=by decide +kernel
def c1H:(["answer","after","numbers"]:List bG).Nodup:=by decide +kernel
def c3e:(["row"]:List bG).Nodup:=by decide +kernel
def c3f:(["step"]:List bG).Nodup:=by decide +kernel
def c3g:(["number","places"]:List bG).Nodup:=by decide +kernel
def c3h:(["state","machine","numbers"]:List bG).Nodup:=by decide +kernel
def c1I:(["probe"]:List bG).Nodup:=by decide +kernel
def c3i:(["level","one","other"]:List bG).Nodup:=by decide +kernel
def c3j:(["other","machine","levels","state"]:List bG).Nodup:=by decide +kernel
def c1J:(["state","machine","levels"]:List bG).Nodup:=by decide +kernel
def c1K:(["probes"]:List bG).Nodup:=by decide +kernel
def c1L:(["ask","row"]:List bG).Nodup:=by decide +kernel
def c1M:(["state","found"]:List bG).Nodup:=by decide +kernel
def c1N:(["probe","machine"]:List bG).Nodup:=by decide +kernel
def b4a:(["_law_row"]:List bG).Nodup:=by decide +kernel
def b_law_mixed:EvS:=(e7 (g9 2 (eC (.int 3))) (e7 (sIf (tB (e2 dGt (eCl q9 (a7 (a6 0) b8)) (eC (.int 0)))) (g9 2 (e2 q8 (a6 0) (e2 v9 (a6 1) (eCl q9 (a7 (a6 0) b8))))) E1) (e7 (g9 2 (e2 v9 (e2 O5 (e2 t5 (e2 t5 (e2 v9 (a6 2) (eC (.int 2147483629))) (e2 O5 (eC (.int 7919)) (a6 1))) (eC (.int 1))) (eC (.int 48271))) (eC (.int 2147483647)))) (u7 (e2 v9 (e2 O5 (a6 2) (e2 t5 (e2 t5 (e2 v9 (a6 2) (eC (.int 65521))) (a6 1)) (eC (.int 2)))) (eC (.int 2147483629)))))))
def m_law_mixed:=fnD [.f,.i] 1 b_law_mixed
abbrev C9(B:Bk P w K mg base)(k:Nat):=HB B "_law_mixed" k ["_law_script","_law_k"] (spD K 2 m_law_mixed .i)
def ok_law_mixed(B:Bk P w K mg base):C9 B 1:=
 n9 B.d0 λ_ _ F=>fnF F ["_law_script","_law_k","_law_cell"] λsc _ _ _ _ _ _ _=>by exact b7 (f9 2 (t:=.i) sc.nd (a9 c7)) (b7 (T5 (M':=[mdF,mdI,mdI]) (z8 a9n (r8 B.len_ (c6 0)) c7) (f7 (f9 2 (t:=.i) sc.nd (a9 (A5 (c6 0) (i7 w9 (c8 1) (r8 B.len_ (c6 0))))))) E9) (b7 (f9 2 (t:=.i) sc.nd (a9 (i7 w9 (i7 O6 (i7 t6 (i7 t6 (i7 w9 (c8 2) c7) (i7 O6 c7 (c8 1))) c7) c7) c7))) (f7 (l0 (a9 (i7 w9 (i7 O6 (c8 2) (i7 t6 (i7 t6 (i7 w9 (c8 2) c7) (c8 1)) c7)) c7))))))
def b_law_pool:EvS:=(e7 (g9 2 (e2 v9 (eCl m_law_mixed (a7 (a6 0) (a7 (a6 1) b8))) (eC (.int 3)))) (e7 (sIf (tB (e2 dEq (a6 2) (eC (.int 0)))) (u7 (x5 (a7 (eC (.int 0)) (a7 (eC (.int 1)) b8)))) E1) (e7 (sIf (tB (e2 dEq (a6 2) (eC (.int 1)))) (u7 (x5 (a7 (e2 a2t (e2 v9 (eCl m_law_mixed (a7 (a6 0) (a7 (e2 t5 (a6 1) (eC (.int 1))) b8))) (eC (.int 7))) (eC (.int 3))) (a7 (e2 a2t (e2 v9 (eCl m_law_mixed (a7 (a6 0) (a7 (e2 t5 (a6 1) (eC (.int 2))) b8))) (eC (.int 7))) (eC (.int 3))) b8)))) E1) (u7 (x5 (a7 (e2 a2t (eC (.int 1)) (e2 b0G (eC (.int 10)) (eC (.int 60)))) (a7 (e2 a2t (e2 t5 (e2 v9 (e2 b0G (eCl m_law_mixed (a7 (a6 0) (a7 (e2 t5 (a6 1) (eC (.int 1))) b8))) (eC (.int 7))) (e2 a2t (e2 O5 (eC (.int 2)) (e2 b0G (eC (.int 10)) (eC (.int 60)))) (eC (.int 1)))) (eC (.int 1))) (e2 b0G (eC (.int 10)) (eC (.int 60)))) b8)))))))
def m_law_pool:=fnD [.f,.i] 1 b_law_pool
abbrev a3D(B:Bk P w K mg base)(k:Nat):=HB B "_law_pool" k ["_law_script","_law_at"] (spD K 2 m_law_pool (.l .i))
def ok_law_pool(B:Bk P w K mg base)(cD:C9 B 1):a3D B 2:=
 n9 B.d1 λ_ _ F=>fnF F ["_law_script","_law_at","_law_way"] λsc _ _ _ _ _ _ hr=>by exact b7 (f9 2 (t:=.i) sc.nd (a9 (i7 w9 (m8 cD hr (a8 (c6 0) (a8 (c8 1) f8))) c7))) (b7 (T5 (M':=[mdF,mdI,mdI]) (z8 W5 (c8 2) c7) (f7 (l0 (a9 (p8 (n:=2) (u:=.i) (k8 (u:=.i) c7 (k8 (u:=.i) c7 k7)))))) E9) (b7 (T5 (M':=[mdF,mdI,mdI]) (z8 W5 (c8 2) c7) (f7 (l0 (a9 (p8 (n:=2) (u:=.i) (k8 (u:=.i) (i7 V0 (i7 w9 (m8 cD hr (a8 (c6 0) (a8 (i7 t6 (c8 1) c7) f8))) c7) c7) (k8 (u:=.i) (i7 V0 (i7 w9 (m8 cD hr (a8 (c6 0) (a8 (i7 t6 (c8 1) c7) f8))) c7) c7) k7)))))) E9) (f7 (l0 (a9 (p8 (n:=2) (u:=.i) (k8 (u:=.i) (i7 V0 c7 (i7 a5w c7 c7)) (k8 (u:=.i) (i7 V0 (i7 t6 (i7 w9 (i7 a5w (m8 cD hr (a8 (c6 0) (a8 (i7 t6 (c8 1) c7) f8))) c7) (i7 V0 (i7 O6 c7 (i7 a5w c7 c7)) c7)) c7) (i7 a5w c7 c7)) k7))))))))
def b_law_machine:EvS:=(e7 (g9 1 (e2 t5 (eC (.int 1)) (e2 v9 (eCl m_law_mixed (a7 (a6 0) (a7 (eC (.int 0)) b8))) (eC (.int 4))))) (e7 (g9 2 (e2 t5 (eC (.int 1)) (e2 v9 (eCl m_law_mixed (a7 (a6 0) (a7 (eC (.int 1)) b8))) (eC (.int 3))))) (e7 (g9 3 (eCl m_law_pool (a7 (a6 0) (a7 (eC (.int 2)) b8)))) (e7 (g9 4 (x5 b8)) (e7 (y6 (iR (a6 1)) (o8 5) (e7 (g9 6 (x5 b8)) (e7 (y6 (iR (a6 2)) (o8 7) (e7 (g9 8 (eCl m_law_mixed (a7 (a6 0) (a7 (e2 t5 (e2 t5 (eC (.int 10)) (e2 O5 (a6 5) (a6 2))) (a6 7)) b8)))) (D5 6 (.l .i) n8 (O7 (a7 (e2 C3 (a6 3) (e2 v9 (a6 8) (eC (.int 2)))) (a7 (e2 v9 (e2 b0E (a6 8) (eC (.int 6))) (a6 1)) b8)))))) (D5 4 (.l (.l .i)) n8 (a6 6))))) (u7 (a6 4)))))))
def m_law_machine:=fnD [.f] 8 b_law_machine
abbrev a0a(B:Bk P w K mg base)(k:Nat):=HB B "_law_machine" k ["_law_script"] (spD K 1 m_law_machine (.l (.l .i)))
def ok_law_machine(B:Bk P w K mg base)(cD:C9 B 2)(kn:a3D B 2):a0a B 3:=
 n9 B.d2 λ_ _ F=>fnF F ["_law_script","_law_states","_law_asks","_law_pool_here","_law_rows","_law_s","_law_row","_law_a","_law_cell"] λsc _ _ _ _ _ _ hr=>by exact b7 (f9 1 (t:=.i) sc.nd (a9 (i7 t6 c7 (i7 w9 (m8 cD hr (a8 (c6 0) (a8 c7 f8))) c7)))) (b7 (f9 2 (t:=.i) sc.nd (a9 (i7 t6 c7 (i7 w9 (m8 cD hr (a8 (c6 0) (a8 c7 f8))) c7)))) (b7 (f9 3 (t:=(.l .i)) sc.nd (a9 (m8 kn hr (a8 (c6 0) (a8 c7 f8))))) (b7 (f9 4 (t:=(.l (.l .i))) sc.nd (a9 (p8 (n:=0) (u:=(.l .i)) k7))) (b7 (A6 (M:=[mdF,mdI,mdI,mdL,K7,mdD,mdD,mdD,mdD]) (MB:=[mdF,mdI,mdI,mdL,K7,mdI,mdD,mdD,mdD]) rfl bJ (t7 B.range_ (c8 1)) (y9 5 sc.nd) L8 b0O (PSsX.weak (M2:=[mdF,mdI,mdI,mdL,K7,mdI,mdD,mdD,mdD]) (b7 (f9 6 (t:=(.l .i)) sc.nd (a9 (p8 (n:=0) (u:=.i) k7))) (b7 (A6 (M:=[mdF,mdI,mdI,mdL,K7,mdI,mdL,mdD,mdD]) (MB:=[mdF,mdI,mdI,mdL,K7,mdI,mdL,mdI,mdD]) rfl bJ (t7 B.range_ (c8 2)) (y9 7 sc.nd) L8 b0O (PSsX.weak (M2:=[mdF,mdI,mdI,mdL,K7,mdI,mdL,mdI,mdI]) (b7 (f9 8 (t:=.i) sc.nd (a9 (m8 cD hr (a8 (c6 0) (a8 (i7 t6 (i7 t6 c7 (i7 O6 (c8 5) (c8 2))) (c8 7)) f8))))) (f7 (V6 6 (u:=(.l .i)) (t:=.i) (G5 6 (u:=(.l .i))) (a9 (a2B (n:=2) (k8 (u:=.i) (PX.newi (V1 (T7 3) (i7 w9 (c8 8) c7))) (k8 (u:=.i) (i7 w9 (i7 b8x (c8 8) c7) (c8 1)) k7)))) Z7))) l9 ((j9 7).trans (j9 8)))) (f7 (V6 4 (u:=(.l (.l .i))) (t:=(.l .i)) (G5 4 (u:=(.l (.l .i)))) (B0 6 (u:=(.l .i))) Z7)))) l9 (j9 5))) (f7 (l0 (B0 4 (u:=(.l (.l .i))))))))))
def b_law_turned:EvS:=(e7 (y6 (iR2 (eC (.int 1)) (eCl q9 (a7 (a6 1) b8))) (o8 2) (e7 (g9 3 (e2 t5 (eC (.int 1)) (e2 v9 (eCl m_law_mixed (a7 (a6 0) (a7 (e2 t5 (eC (.int 60)) (a6 2)) b8))) (e2 a2t (eCl q9 (a7 (a6 1) b8)) (eC (.int 1)))))) (e7 (g9 4 (e2 C3 (a6 1) (a6 2))) (e7 (a5D 1 (.l .i) n8 (a6 2) (e2 C3 (a6 1) (a6 3))) (a5D 1 (.l .i) n8 (a6 3) (a6 4)))))) (u7 (a6 1)))
def m_law_turned:=fnO 3 b_law_turned
abbrev a0T(B:Bk P w K mg base)(k:Nat):=HB B "_law_turned" k ["_law_script","_law_of"] (spO K m_law_turned (.l .i) (.l .i))
def ok_law_turned(B:Bk P w K mg base)(cD:C9 B 1):a0T B 2:=
 n9 B.d3 λ_ _ F=>c2M F ["_law_script","_law_of","_law_k","_law_j","_law_kept"] λsc _ _ _ _ _ _ hr=>by exact b7 (A6 (M:=[mdF,mdL,mdD,mdD,mdD]) (MB:=[mdF,mdL,mdI,mdD,mdD]) rfl bJ (a2Y B.range_ c7 (r8 B.len_ (T7 1))) (y9 2 sc.nd) L8 (b7F) (PSsX.weak (M2:=[mdF,mdL,mdI,mdI,mdI]) (b7 (f9 3 (t:=.i) sc.nd (a9 (i7 t6 c7 (i7 w9 (m8 cD hr (a8 (c6 0) (a8 (i7 t6 c7 (c8 2)) f8))) (i7 V0 (r8 B.len_ (T7 1)) c7))))) (b7 (f9 4 (t:=.i) sc.nd (a9 (PX.newi (V1 (T7 1) (c8 2))))) (b7 (b2P 1 (u:=(.l .i)) (t:=.i) (G5 1 (u:=(.l .i))) (c8 2) (a9 (PX.newi (V1 (T7 1) (c8 3)))) Z7) (f7 (b2P 1 (u:=(.l .i)) (t:=.i) (G5 1 (u:=(.l .i))) (c8 3) (a9 (PX.newi (c8 4))) Z7))))) l9 (((j9 2).trans (j9 3)).trans (j9 4)))) (f7 (l0 (B0 1 (u:=(.l .i)))))
def b_law_blown:EvS:=(e7 (g9 3 (x5 (a7 (eC (.int 0)) b8))) (e7 (y6 (iR2 (eC (.int 1)) (a6 2)) (o8 4) (D5 3 (.l .i) n8 (e2 v9 (a6 4) (eCl q9 (a7 (a6 1) b8))))) (e7 (g9 3 (b6o m_law_turned (a6 0) (a6 3))) (e7 (g9 5 (x5 b8)) (e7 (y6 (iR (a6 2)) (o8 4) (e7 (g9 6 (x5 b8)) (e7 (y6 (iR (eCl q9 (a7 (e2 dIx (a6 1) (eC (.int 0))) b8))) (o8 7) (e7 (a1Q 8 9 (e2 q8 (e2 dIx (a6 1) (e2 C3 (a6 3) (a6 4))) (a6 7))) (e7 (g9 10 (l6 (iR (a6 2)) [3,9] pt1 (tB (e2 dEq (e2 C3 (a6 1) (a6 0)) (a6 2))) (a6 0))) (D5 6 (.l .i) n8 (O7 (a7 (a6 8) (a7 (e2 C3 (a6 10) (e2 v9 (eCl m_law_mixed (a7 (a6 0) (a7 (e2 t5 (e2 t5 (eC (.int 100)) (e2 O5 (eC (.int 3)) (a6 4))) (a6 7)) b8))) (eCl q9 (a7 (a6 10) b8)))) b8))))))) (D5 5 (.l (.l .i)) n8 (a6 6))))) (u7 (a6 5)))))))
def m_law_blown:=fnD [.f,.f,.i] 8 b_law_blown
abbrev a2e(B:Bk P w K mg base)(k:Nat):=HB B "_law_blown" k ["_law_script","_law_machine_here","_law_many"] (spD K 3 m_law_blown (.l (.l .i)))
def ok_law_blown(B:Bk P w K mg base)(cD:C9 B 2)(jn:a0T B 2):a2e B 3:=
 n9 B.d4 λ_ _ F=>fnF F ["_law_script","_law_machine_here","_law_many","_law_of","_law_k","_law_rows","_law_row","_law_a","_law_answer","_law_goal","_law_some"] λsc _ _ _ _ _ _ hr=>by exact b7 (f9 3 (t:=(.l .i)) sc.nd (a9 (p8 (n:=1) (u:=.i) (k8 (u:=.i) c7 k7)))) (b7 (A6 (M:=[mdF,mdF,mdI,mdL,mdD,mdD,mdD,mdD,mdD,mdD,mdD]) (MB:=[mdF,mdF,mdI,mdL,mdI,mdD,mdD,mdD,mdD,mdD,mdD]) rfl bJ (a2Y B.range_ c7 (c8 2)) (y9 4 sc.nd) L8 (b7F) (PSsX.weak (M2:=[mdF,mdF,mdI,mdL,mdI,mdD,mdD,mdD,mdD,mdD,mdD]) (f7 (V6 3 (u:=(.l .i)) (t:=.i) (G5 3 (u:=(.l .i))) (a9 (i7 w9 (c8 4) (r8 B.len_ (c6 1)))) Z7)) l9 (j9 4))) (b7 (b6L 3 (wt:=(.l .i)) (u:=(.l .i)) sc.nd jn hr (PX.newf (c6 0))) (b7 (f9 5 (t:=(.l (.l .i))) sc.nd (a9 (p8 (n:=0) (u:=(.l .i)) k7))) (b7 (A6 (M:=[mdF,mdF,mdI,mdL,mdD,K7,mdD,mdD,mdD,mdD,mdD]) (MB:=[mdF,mdF,mdI,mdL,mdI,K7,mdD,mdD,mdD,mdD,mdD]) rfl bJ (t7 B.range_ (c8 2)) (y9 4 sc.nd) L8 b0O (PSsX.weak (M2:=[mdF,mdF,mdI,mdL,mdI,K7,mdD,mdD,mdD,mdD,mdD]) (b7 (f9 6 (t:=(.l .i)) sc.nd (a9 (p8 (n:=0) (u:=.i) k7))) (b7 (A6 (M:=[mdF,mdF,mdI,mdL,mdI,K7,mdL,mdD,mdD,mdD,mdD]) (MB:=[mdF,mdF,mdI,mdL,mdI,K7,mdL,mdI,mdD,mdD,mdD]) rfl bJ (t7 B.range_ (r8 B.len_ (z7 (PX.newf (c6 1)) c7))) (y9 7 sc.nd) L8 b0O (PSsX.weak (M2:=[mdF,mdF,mdI,mdL,mdI,K7,mdL,mdI,mdI,mdI,mdL]) (b7 (b5R 8 9 (t:=.i) (u1:=.i) (u2:=.i) sc.nd rfl (a9 (A5 (z7 (PX.newf (c6 1)) (V1 (T7 3) (c8 4))) (c8 7))) (.inr (.inl ⟨rfl,rfl,rfl⟩)) (hg1:=x9 (y9 8 sc.nd) (x9 (y9 9 sc.nd) X3))) (b7 (a8d 10 (t:=.i) sc.nd rfl (tn:=["_law_j"]) (ys:=["_law_of","_law_goal"]) (js:=[3,9]) (mm:=.i) (t7 B.range_ (c8 2)) rfl (λ_ _ _ _ _=>n5 (i:=0) c3d rfl (bO rfl) (.inr rfl)) v6 (.inl rfl) a6A rfl (λ_ _ _ _ _=>b8F (z8 W5 (V1 (T7 1) (c8 0)) (c8 2))) (λ_ _ _ _ _=>(PX.newi (c8 0)))) (f7 (V6 6 (u:=(.l .i)) (t:=.i) (G5 6 (u:=(.l .i))) (a9 (a2B (n:=2) (k8 (u:=.i) (PX.newi (c8 8)) (k8 (u:=.i) (PX.newi (V1 (T7 10) (i7 w9 (m8 cD hr (a8 (c6 0) (a8 (i7 t6 (i7 t6 c7 (i7 O6 c7 (c8 4))) (c8 7)) f8))) (r8 B.len_ (T7 10))))) k7)))) Z7)))) l9 ((((j9 7).trans (j9 8)).trans (j9 9)).trans (j9 10)))) (f7 (V6 5 (u:=(.l (.l .i))) (t:=(.l .i)) (G5 5 (u:=(.l (.l .i)))) (B0 6 (u:=(.l .i))) Z7)))) l9 (j9 4))) (f7 (l0 (B0 5 (u:=(.l (.l .i))))))))))
def a3E:EvS:=(u7 (b5H (e1 (λd=>cz (.bool (isInt d))) (a6 0)) (b5I (e1 (λd=>cz (.bool (isBool d))) (a6 0)))))
def S8:=fnD [.f] 0 a3E
abbrev a3F(B:Bk P w K mg base)(k:Nat):=HB B "is_whole" k ["thing"] (spD K 1 S8 .i)
def a7q(B:Bk P w K mg base):a3F B 1:=
 n9 B.d5 λ_ _ F=>fnF F ["thing"] λ_ _ _ _ _ _ _ _=>by exact f7 (l0 (a9 (b8A (a1h b5M B.isinstance_ B.int_ PyProof.Rows.Boot.«int» (c6 0)) (b2C (b8B (a1h b2H B.isinstance_ B.bool_ PyProof.Rows.Boot.«bool» (c6 0)))))))
def a2f:EvS:=(sIf (a0C (tNo (tV (eCl S8 (a7 (a6 0) b8)))) (tNo (tB (eCh dLe dLe (eC (.int 1)) (a6 0) (a6 1))))) sNo E1)
def N6:=fnN [.f,.i] 0 a2f
abbrev a2g(B:Bk P w K mg base)(k:Nat):=HB B "need_size" k ["thing","most"] (spD K 2 N6 .i)
def a5T(B:Bk P w K mg base)(ko:a3F B 1):a2g B 2:=
 n9 B.d6 λ_ _ F=>c2L F ["thing","most"] [.own .f,.own .i] λ_ _ _ _ _ _ _ hr=>by exact f7 (T5 (M':=[mdF,mdI]) (PWX.pt (a2U (Y0 (X9 (m8 ko hr (a8 (c6 0) f8)))) (a5x (Y0 (b0I b7C b7C c7 (c6 0) (c8 1)))))) (f7 (b7E)) E9)
def N0:EvS:=(e7 (g9 2 (eC (.dict []))) (e7 (y6 (iI (iL (a6 0))) (o8 3) (b3f (T6 2 false (e2 q8 (a6 1) (a6 3)) (a6 3)))) (u7 (a5K (a6 2)))))
def x8:=fnD [.f,.f] 2 N0
abbrev N1(B:Bk P w K mg base)(k:Nat):=HB B "first_of_classes" k ["states","finest"] (spD K 2 x8 (.l .i))
def Z4(B:Bk P w K mg base):N1 B 1:=
 n9 B.d7 λ_ _ F=>fnF F ["states","finest","found","state"] λsc _ _ _ _ _ _ hr=>by exact b7 (f9 2 (t:=(.d false .i)) sc.nd (a9 (W2 false .i))) (b7 (A6 (M:=[mdF,mdF,.own (.d false .i),mdD]) (MB:=[mdF,mdF,.own (.d false .i),mdI]) rfl bJ (PIX.i (m6 (PX.newf (c6 0)))) (y9 3 sc.nd) L8 b2R (PSsX.weak (M2:=[mdF,mdF,.own (.d false .i),mdI]) (f7 (b9n (a6M 2 (kt:=false) (by exact hr.units) (A5 (c6 1) (c8 3)) (PX.newi (c8 3))))) l9 (j9 3))) (f7 (l0 (a9 (b3s rfl B.list_ (z0 2 (u:=(.d false .i))))))))
def S9:EvS:=(u7 (l6 (iI (iL (a6 0))) [1] pt2 tT (O7 (a7 (a6 0) (a7 (e2 q8 (a6 2) (a6 1)) b8)))))
def j5:=fnD [.f,.f] 0 S9
abbrev K9(B:Bk P w K mg base)(k:Nat):=HB B "renumbered" k ["row","numbers"] (spD K 2 j5 (.l .i))
def a4j(B:Bk P w K mg base):K9 B 1:=
 n9 B.d8 λ_ _ F=>fnF F ["row","numbers"] λ_ _ _ _ _ _ _ _=>by exact f7 (l0 (a9 (v7 rfl (tn:=["answer","after"]) (ys:=["numbers"]) (js:=[1]) (m:=.i) (PIX.i (m6 (PX.newf (c6 0)))) rfl (λ_ _ _ _ _=>a2L rfl (x9 (n5 (i:=0) c1H rfl (bO rfl) (.inr rfl)) (x9 (n5 (i:=1) c1H rfl (bO rfl) (.inr rfl)) X3))) b5O (.inl rfl) c0I rfl (λ_ _ _ _ _=>v8) (λ_ _ _ _ _=>(a2B (n:=2) (k8 (u:=.i) (PX.newi (c8 0)) (k8 (u:=.i) (A5 (c6 2) (c8 1)) k7)))))))
def a0b:EvS:=(e7 (g9 2 (eC (.dict []))) (e7 (g9 3 (x5 b8)) (e7 (y6 (iL (a6 0)) (o8 4) (e7 (g9 5 (V2 (eCl j5 (a7 (a6 4) (a7 (a6 1) b8))))) (a6L 3 (T6 2 true (a6 5) (eCl a9w (a7 (a6 2) b8)))))) (u7 (a6 3)))))
def u8:=fnD [.f,.f] 4 a0b
abbrev a0c(B:Bk P w K mg base)(k:Nat):=HB B "finer_level" k ["machine","level"] (spD K 2 u8 (.l .i))
def a3G(B:Bk P w K mg base)(eu:K9 B 1):a0c B 2:=
 n9 B.d9 λ_ _ F=>fnF F ["machine","level","numbers","finer","row","seen"] λsc _ _ _ _ _ _ hr=>by exact b7 (f9 2 (t:=(.d true .i)) sc.nd (a9 (W2 true .i))) (b7 (f9 3 (t:=(.l .i)) sc.nd (a9 (p8 (n:=0) (u:=.i) k7))) (b7 (A6 (M:=[mdF,mdF,.own (.d true .i),mdL,mdD,mdD]) (MB:=[mdF,mdF,.own (.d true .i),mdL,mdF,mdD]) rfl bJ (m6 (PX.newf (c6 0))) (y9 4 sc.nd) a1i (λ_ _ _ _ _=>trivial) (PSsX.weak (M2:=[mdF,mdF,.own (.d true .i),mdL,mdF,mdI]) (b7 (f9 5 (t:=.i) sc.nd (a9 (a2X B.tuple_ (m8 eu hr (a8 (c6 4) (a8 (c6 1) f8)))))) (f7 (b6f 3 (t:=.i) (a6M 2 (kt:=true) (by exact hr.units) (PX.newi (c8 5)) (b6c (kt:=true) (u:=.i) B.len_ (z0 2 (u:=(.d true .i))))) (hni:=a8o (by decide))))) l9 ((j9 4).trans (j9 5)))) (f7 (l0 (B0 3 (u:=(.l .i)))))))
def a2h:EvS:=(e7 (g9 1 (x5 (a7 (l6 (iL (a6 0)) [] pt1 tT (eC (.int 0))) b8))) (e7 (g9 2 (eCl u8 (a7 (a6 0) (a7 (e2 C3 (a6 1) (eC (.int (-1)))) b8)))) (e7 (sWh (λ_=>1000000) (tB (e2 dGt (eCl Z8 (a7 (a6 2) b8)) (eCl Z8 (a7 (e2 C3 (a6 1) (eC (.int (-1)))) b8)))) (e7 (Y4 1 2 (eCl u8 (a7 (a6 0) (a7 (a6 2) b8)))) E1)) (u7 (a6 1)))))
def D0:=fnD [.f] 2 a2h
abbrev W7(B:Bk P w K mg base)(k:Nat):=HB B "levels_of" k ["machine"] (spD K 1 D0 (.l (.l .i)))
def a5U(B:Bk P w K mg base)(gR:a0c B 2):W7 B 3:=
 n9 B.d10 λ_ _ F=>fnF F ["machine","levels","finer"] λsc _ _ _ _ _ _ hr=>by exact b7 (f9 1 (t:=(.l (.l .i))) sc.nd (a9 (p8 (n:=1) (u:=(.l .i)) (k8 (u:=(.l .i)) (v7 rfl (tn:=["row"]) (ys:=[]) (js:=[]) (m:=.f) (m6 (PX.newf (c6 0))) rfl (λ_ _ _ _ _=>n5 (i:=0) c3e rfl (bO rfl) (.inr rfl)) v6 (.inr rfl) a2Z rfl (λ_ _ _ _ _=>v8) (λ_ _ _ _ _=>c7)) k7)))) (b7 (f9 2 (t:=(.l .i)) sc.nd (a9 (m8 gR hr (a8 (c6 0) (a8 (V1 (z0 1 (u:=(.l (.l .i)))) (a7V)) f8))))) (b7 (a3b (M:=[mdF,K7,mdL]) (λ_=>1000000) bJ (z8 a9n (a2W (a9y rfl) B.max_ PyProof.Rows.Boot.«max» (a8 (T7 2) f8)) (a2W (a9y rfl) B.max_ PyProof.Rows.Boot.«max» (a8 (V1 (z0 1 (u:=(.l (.l .i)))) (a7V)) f8))) (b0Z 1 2 (t:=(.l .i)) (by decide) sc.nd rfl rfl rfl rfl (a6P (u:=(.l .i)) gR hr (Y3 (PXL.of (c6 0)) (Y3 (a6N) (a6O))) (hfl:=(m5 (m5 J7)))) E9)) (f7 (l0 (B0 1 (u:=(.l (.l .i))))))))
def a2i:(List D->Option D)->EvS:=λgm=>(e7 (g9 2 (eD1 false (a6 0) (x5 b8))) (e7 (g9 3 (x5 (a7 (a6 0) b8))) (e7 (sWh (λ_=>1000000) (tV (a6 3)) (e7 (g9 4 (x5 b8)) (e7 (y6 (iI (iL (a6 3))) (o8 5) (y6 (iI (iEn (eCl gm (a7 (a6 5) b8)))) (a3a 6 7) (sIf (tB (e2 (dIn true false) (a6 7) (a6 2))) (e7 (E7 2 false (a6 7) (eI (R6 (e2 (a5F false) (a6 2) (a6 5)) (x5 (a7 (a6 6) b8))))) (D5 4 (.l .i) n8 (a6 7))) E1))) (g9 3 (a6 4))))) (u7 (a6 2)))))
def N7:=fnL [.i] 6 a2i
abbrev a2j(B:Bk P w K mg base)(k:Nat):=HB B "ways_from" k ["start","led_to"] (spL K 1 (λgm=>FnV P w K mg base 1 1 (.l .i) gm) N7 (.d false (.l .i)))
def a5V(B:Bk P w K mg base):a2j B 2:=
 n9 B.d11 λ_ _ F=>c2N F ["start","led_to","found","newest","newer","place","ask","after"] λsc gm _ _ _ _ _ _ hr=>by exact b7 (f9 2 (t:=(.d false (.l .i))) sc.nd (a9 (b3n (kt:=false) (u:=(.l .i)) (by exact hr.units) (c8 0) (p8 (n:=0) (u:=.i) k7)))) (b7 (f9 3 (t:=(.l .i)) sc.nd (a9 (p8 (n:=1) (u:=.i) (k8 (u:=.i) (PX.newi (c8 0)) k7)))) (b7 (a3b (M:=[mdI,.fn (FnV P w K mg base 1 1 (.l .i) gm),.own (.d false (.l .i)),mdL,mdD,mdD,mdD,mdD]) (λ_=>1000000) bJ (X9 (T7 3)) (b7 (f9 4 (t:=(.l .i)) sc.nd (a9 (p8 (n:=0) (u:=.i) k7))) (b7 (PSX.weak (M1:=[mdI,.fn (FnV P w K mg base 1 1 (.l .i) gm),.own (.d false (.l .i)),mdF,mdL,mdD,mdD,mdD]) (A6 (M:=[mdI,.fn (FnV P w K mg base 1 1 (.l .i) gm),.own (.d false (.l .i)),mdF,mdL,mdD,mdD,mdD]) (MB:=[mdI,.fn (FnV P w K mg base 1 1 (.l .i) gm),.own (.d false (.l .i)),mdF,mdL,mdI,mdD,mdD]) rfl bJ (PIX.i (m6 (PX.newf (c6 3)))) (y9 5 sc.nd) L8 b2R (PSsX.weak (M2:=[mdI,.fn (FnV P w K mg base 1 1 (.l .i) gm),.own (.d false (.l .i)),mdF,mdL,mdI,mdD,mdD]) (f7 (a5I (fi:=(iI (iEn (eCl gm (a7 (a6 5) b8))))) (M:=[mdI,.fn (FnV P w K mg base 1 1 (.l .i) gm),.own (.d false (.l .i)),mdF,mdL,mdI,mdD,mdD]) (MB:=[mdI,.fn (FnV P w K mg base 1 1 (.l .i) gm),.own (.d false (.l .i)),mdF,mdL,mdI,mdI,mdI]) rfl bJ (b9r B.enumerate_ (PX.frz (b3J 1 (k:=1) (n:=1) (u:=(.l .i)) (m:=gm) (hr.mono (by decide)) (a8 (c8 5) f8) (hfl:=(m5 J7))))) (a2L rfl (x9 (y9 6 sc.nd) (x9 (y9 7 sc.nd) X3))) (a8c (w:=.i) (.inr rfl)) (λZ ds h d hd _=>b2R Z ds h d hd) b3m (PSsX.weak (M2:=[mdI,.fn (FnV P w K mg base 1 1 (.l .i) gm),.own (.d false (.l .i)),mdF,mdL,mdI,mdI,mdI]) (f7 (T5 (M':=[mdI,.fn (FnV P w K mg base 1 1 (.l .i) gm),.own (.d false (.l .i)),mdF,mdL,mdI,mdI,mdI]) (b9i (kt:=false) (u:=(.l .i)) (b0U (by exact hr.units)) (c8 7) (z0 2 (u:=(.d false (.l .i))))) (b7 (a2D 2 (kt:=false) (u:=(.l .i)) (by exact hr.units) (c8 7) (a9 (MkL.i (a5A (b9k (kt:=false) (u:=(.l .i)) (by exact hr.units) (z0 2 (u:=(.d false (.l .i)))) (c8 5)) (p8 (n:=1) (u:=.i) (k8 (u:=.i) (PX.newi (c8 6)) k7)))))) (f7 (V6 4 (u:=(.l .i)) (t:=.i) (G5 4 (u:=(.l .i))) (a9 (PX.newi (c8 7))) Z7))) E9)) l9 ((j9 6).trans (j9 7))))) l9 (j9 5))) (a0j 3) l9) (f7 (f9 3 (t:=(.l .i)) sc.nd (B0 4 (u:=(.l .i)))))))) (f7 (l0 (B0 2 (u:=(.d false (.l .i))))))))
def T8:EvS:=(u7 (b6K N7 [.i] [0] (l6 (iI (iL (e2 dIx (a6 1) (a6 0)))) [] pt1 tT (e2 q8 (a6 0) (eC (.int 1)))) (a7 (eC (.int 0)) b8)))
def t8:=fnD [.f] 0 T8
abbrev J8(B:Bk P w K mg base)(k:Nat):=HB B "ways_by_state" k ["machine"] (spD K 1 t8 (.d false (.l .i)))
def a1A(B:Bk P w K mg base)(jI:a2j B 2)(LT:(B6 K "ways_by_state").isSome=true)(KB:K.In base)(GB:base.Ns bU mg):J8 B 3:=
 b6M B.d12 λ_ _ F a=>c2O F ["machine"] LT KB GB a λ_ _ _ vW we vT A outer s H _ hr=>by exact f7 (l0 (a9 (by exact a8A (kf:=0) (u:=(.d false (.l .i))) (uf:=(.l .i)) (N:=["state","machine"]) (pl:=["state"]) (ys:=["machine"]) (js:=[0]) (us:=[.i]) jI hr (b3M c7 (b6J (by decide) we vW vT rfl)) ⟨_,_,_,rfl,rfl,rfl,rfl,rfl,rfl⟩ ⟨⟨_,rfl⟩,trivial⟩ (by exact⟨rfl,rfl,rfl,by decide +kernel,rfl,by decide +kernel,by decide +kernel,by decide +kernel,rfl⟩) rfl (λ_ _ _ us hl=>by obtain⟨_,rfl⟩:=VS.b9v hl;rfl) (λfa c A outer s H hr=>v7 rfl (tn:=["step"]) (ys:=[]) (js:=[]) (m:=.i) (PIX.i (m6 (z7 (PX.newf (c6 1)) (c8 0)))) rfl (λ_ _ _ _ _=>n5 (i:=0) c3f rfl (bO rfl) (.inr rfl)) v6 (.inl rfl) a4H rfl (λ_ _ _ _ _=>v8) (λ_ _ _ _ _=>(A5 (c8 0) c7))) (hfl:=(b3L b6F)))))
def a4T:EvS:=(u7 (a5J (eCl t8 (a7 (a6 0) b8))))
def Y8:=fnD [.f] 0 a4T
abbrev a4U(B:Bk P w K mg base)(k:Nat):=HB B "reached" k ["machine"] (spD K 1 Y8 (.l .i))
def a8K(B:Bk P w K mg base)(eY:J8 B 3):a4U B 4:=
 n9 B.d13 λ_ _ F=>fnF F ["machine"] λ_ _ _ _ _ _ _ hr=>by exact f7 (l0 (a9 (b3r rfl B.list_ (m8 eY hr (a8 (c6 0) f8)))))
def a9L:EvS:=(e7 (g9 1 (e2 dIx (eCl D0 (a7 (a6 0) b8)) (eC (.int (-1))))) (e7 (g9 2 (eCl x8 (a7 (eCl Y8 (a7 (a6 0) b8)) (a7 (a6 1) b8)))) (e7 (g9 3 (eC (.dict []))) (e7 (y6 (iI (iEn (a6 2))) (a3a 4 5) (E7 3 false (e2 q8 (a6 1) (a6 5)) (a6 4))) (e7 (g9 6 (l6 (iI (iL (a6 1))) [3] pt1 tT (e2 (a3h false) (a6 1) (a6 0)))) (u7 (l6 (iI (iL (a6 2))) [0,6] pt1 tT (eCl j5 (a7 (e2 dIx (a6 1) (a6 0)) (a7 (a6 2) b8))))))))))
def L1:=fnD [.f] 6 a9L
abbrev a5W(B:Bk P w K mg base)(k:Nat):=HB B "least" k ["machine"] (spD K 1 L1 (.l (.l .i)))
def b4b(B:Bk P w K mg base)(gr:N1 B 4)(eu:K9 B 4)(gx:W7 B 4)(kX:a4U B 4):a5W B 5:=
 n9 B.d14 λ_ _ F=>fnF F ["machine","finest","firsts","places","place","state","numbers"] λsc _ _ _ _ _ _ hr=>by exact b7 (f9 1 (t:=.f) sc.nd (a9 (z7 (PX.frz (m8 gx hr (a8 (c6 0) f8))) (a7V)))) (b7 (f9 2 (t:=(.l .i)) sc.nd (a9 (m8 gr hr (a8 (m8 kX hr (a8 (c6 0) f8)) (a8 (c6 1) f8))))) (b7 (f9 3 (t:=(.d false .i)) sc.nd (a9 (W2 false .i))) (b7 (PSX.weak (M1:=[mdF,mdF,mdF,.own (.d false .i),mdD,mdD,mdD]) (a5I (fi:=(iI (iEn (a6 2)))) (M:=[mdF,mdF,mdF,.own (.d false .i),mdD,mdD,mdD]) (MB:=[mdF,mdF,mdF,.own (.d false .i),mdI,mdI,mdD]) rfl bJ (b9r B.enumerate_ (PX.newf (c6 2))) (a2L rfl (x9 (y9 4 sc.nd) (x9 (y9 5 sc.nd) X3))) (a8c (w:=.i) (.inr rfl)) (λZ ds h d hd _=>b2R Z ds h d hd) b3m (PSsX.weak (M2:=[mdF,mdF,mdF,.own (.d false .i),mdI,mdI,mdD]) (f7 (a2D 3 (kt:=false) (u:=.i) (by exact hr.units) (A5 (c6 1) (c8 5)) (a9 (PX.newi (c8 4))))) l9 ((j9 4).trans (j9 5)))) (a0j 2) l9) (b7 (f9 6 (t:=(.l .i)) sc.nd (a9 (v7 rfl (tn:=["number"]) (ys:=["places"]) (js:=[3]) (m:=.i) (PIX.i (m6 (PX.newf (c6 1)))) rfl (λ_ _ _ _ _=>n5 (i:=0) c3g rfl (bO rfl) (.inr rfl)) v6 (.inl rfl) a4H rfl (λ_ _ _ _ _=>v8) (λ_ _ _ _ _=>(PX.newi (b9l (kt:=false) (u:=.i) (by exact hr.units) (z0 1 (u:=(.d false .i))) (c8 0))))))) (f7 (l0 (a9 (v7 rfl (tn:=["state"]) (ys:=["machine","numbers"]) (js:=[0,6]) (m:=.i) (PIX.i (m6 (PX.newf (c6 2)))) rfl (λ_ _ _ _ _=>n5 (i:=0) c3h rfl (bO rfl) (.inr rfl)) v6 (.inl rfl) a4H rfl (λ_ _ _ _ _=>v8) (λ_ _ _ _ _=>(m8 eu hr (a8 (z7 (PX.newf (c6 1)) (c8 0)) (a8 (T7 2) f8))))))))))))
def b4c:EvS:=(u7 (O7 (a7 (eCl q9 (a7 (a6 0) b8)) (a7 (a6 0) b8))))
def a0t:=fnD [.i] 0 b4c
abbrev a8L(B:Bk P w K mg base)(k:Nat):=HB B "rank" k ["probe"] (spD K 1 a0t .i)
def b6T(B:Bk P w K mg base):a8L B 1:=
 n9 B.d15 λ_ _ F=>fnF F ["probe"] λ_ _ _ _ _ _ _ _=>by exact f7 (l0 (a9 (a2B (n:=2) (k8 (u:=.i) (r8 B.len_ (c8 0)) (k8 (u:=.i) (PX.newi (c8 0)) k7)))))
def a0d:EvS:=(e7 (g9 1 (eC (.dict []))) (e7 (y6 (iL (a6 0)) (o8 2) (sIf (tB (e2 (a7U true) (a6 2) (eC .none))) (E7 1 true (V2 (a6 2)) (eC (.bool true))) E1)) (u7 (b6D (l6 (iI (iL (a0q a0t (a6 1)))) [] pt1 tT (eI (K1 (a6 0)))) (x5 (a7 (x5 b8) b8))))))
def B8:=fnD [.f] 2 a0d
abbrev a0e(B:Bk P w K mg base)(k:Nat):=HB B "marks_among" k ["probes"] (spD K 1 B8 (.l (.l .i)))
def a3H(B:Bk P w K mg base)(kY:a8L B 1):a0e B 4:=
 n9 B.d16 λ_ _ F=>fnF F ["probes","found","probe"] λsc _ _ _ _ _ _ hr=>by exact b7 (f9 1 (t:=(.d true .i)) sc.nd (a9 (W2 true .i))) (b7 (A6 (M:=[mdF,.own (.d true .i),mdD]) (MB:=[mdF,.own (.d true .i),mdF]) rfl bJ (m6 (PX.newf (c6 0))) (y9 2 sc.nd) a1i (λ_ _ _ _ _=>trivial) (PSsX.weak (M2:=[mdF,.own (.d true .i),mdF]) (f7 (T5 (M':=[mdF,.own (.d true .i),mdF]) (z8 b5G (c6 2) b2B) (f7 (a2D 1 (kt:=true) (u:=.i) (by exact hr.units) (a2X B.tuple_ (c6 2)) (a9 a4A))) E9)) l9 (j9 2))) (f7 (l0 (a9 (b9B (v7 rfl (tn:=["probe"]) (ys:=[]) (js:=[]) (m:=.i) (PIX.i (m6 (PX.frz (a7c rfl B.sorted_ kY hr (z0 1 (u:=(.d true .i))))))) rfl (λ_ _ _ _ _=>n5 (i:=0) c1I rfl (bO rfl) (.inr rfl)) v6 (.inl rfl) a4H rfl (λ_ _ _ _ _=>v8) (λ_ _ _ _ _=>(MkL.i (a0H B.list_ (PX.newi (c8 0)))))) (b2C (p8 (n:=1) (u:=(.l .i)) (k8 (u:=(.l .i)) (p8 (n:=0) (u:=.i) k7) k7))))))))
def T9:EvS:=(e7 (g9 2 (eC (.int 0))) (e7 (sWh (λ_=>1000000) (tB (e2 dEq (e2 q8 (a6 0) (a6 2)) (e2 q8 (a6 1) (a6 2)))) (b3i 2 (eC (.int 1)))) (u7 (a6 2))))
def t9:=fnD [.f,.f] 1 T9
abbrev U0(B:Bk P w K mg base)(k:Nat):=HB B "first_parting" k ["seen","against"] (spD K 2 t9 .i)
def a1B(B:Bk P w K mg base):U0 B 1:=
 n9 B.d17 λ_ _ F=>fnF F ["seen","against","ask"] λsc _ _ _ _ _ _ hr=>by exact b7 (f9 2 (t:=.i) sc.nd (a9 c7)) (b7 (a3b (M:=[mdF,mdF,mdI]) (λ_=>1000000) bJ (z8 W5 (A5 (c6 0) (c8 2)) (A5 (c6 1) (c8 2))) (f7 (b9o 2 sc.nd c7))) (f7 (l0 (a9 (PX.newi (c8 2))))))
def W8:EvS:=(e7 (g9 4 (e2 a3i (l6 (iL (a6 1)) [2,3] pt1 tT (e2 dEq (e2 q8 (a6 0) (a6 1)) (e2 q8 (a6 0) (a6 2)))) (eC (.bool true)))) (e7 (sIf (tB (e2 dEq (a6 4) (eCl q9 (a7 (a6 1) b8)))) (u7 (eC .none)) E1) (e7 (g9 5 (x5 b8)) (e7 (y6 (iRv (eSl (a6 1) oNo (oSo (a6 4)))) (o8 6) (e7 (g9 7 (eCl t9 (a7 (eCl j5 (a7 (e2 dIx (a6 0) (a6 2)) (a7 (a6 6) b8))) (a7 (eCl j5 (a7 (e2 dIx (a6 0) (a6 3)) (a7 (a6 6) b8))) b8)))) (e7 (D5 5 (.l .i) n8 (a6 7)) (e7 (g9 2 (e2 q8 (e2 q8 (e2 dIx (a6 0) (a6 2)) (a6 7)) (eC (.int 1)))) (g9 3 (e2 q8 (e2 q8 (e2 dIx (a6 0) (a6 3)) (a6 7)) (eC (.int 1)))))))) (u7 (a6 5))))))
def A7:=fnD [.f,.f,.i,.i] 4 W8
abbrev W9(B:Bk P w K mg base)(k:Nat):=HB B "first_unlike" k ["machine","levels","one","other"] (spD K 4 A7 (.l .i))
def a2w(B:Bk P w K mg base)(eu:K9 B 1)(g_:U0 B 1):W9 B 2:=
 n9 B.d18 λ_ _ F=>fnF F ["machine","levels","one","other","many","probe","level","ask"] λsc _ _ _ _ _ _ hr=>by exact b7 (f9 4 (t:=.i) sc.nd (a9 (b3l (by exact hr.units) (v7 rfl (tn:=["level"]) (ys:=["one","other"]) (js:=[2,3]) (m:=.f) (m6 (PX.newf (c6 1))) rfl (λ_ _ _ _ _=>n5 (i:=0) c3i rfl (bO rfl) (.inr rfl)) v6 (.inr rfl) a2Z rfl (λ_ _ _ _ _=>v8) (λ_ _ _ _ _=>(b8z W5 (A5 (c6 0) (c8 1)) (A5 (c6 0) (c8 2))))) a4A))) (b7 (T5 (M':=[mdF,mdF,mdI,mdI,mdI,mdD,mdD,mdD]) (z8 W5 (c8 4) (r8 B.len_ (c6 1))) (f7 (l0 (a9 (PX.itol (u:=.i) b2B)))) E9) (b7 (f9 5 (t:=(.l .i)) sc.nd (a9 (p8 (n:=0) (u:=.i) k7))) (b7 (A6 (M:=[mdF,mdF,mdI,mdI,mdI,mdL,mdD,mdD]) (MB:=[mdF,mdF,mdI,mdI,mdI,mdL,mdF,mdD]) rfl bJ (b6g B.reversed_ (PX.frz (MkL.fz (b2L (PX.newf (c6 1)) b2I (b2J (c8 4)))))) (y9 6 sc.nd) a1i (λ_ _ _ _ _=>trivial) (PSsX.weak (M2:=[mdF,mdF,mdI,mdI,mdI,mdL,mdF,mdI]) (b7 (f9 7 (t:=.i) sc.nd (a9 (m8 g_ hr (a8 (m8 eu hr (a8 (z7 (PX.newf (c6 0)) (c8 2)) (a8 (c6 6) f8))) (a8 (m8 eu hr (a8 (z7 (PX.newf (c6 0)) (c8 3)) (a8 (c6 6) f8))) f8))))) (b7 (V6 5 (u:=(.l .i)) (t:=.i) (G5 5 (u:=(.l .i))) (a9 (PX.newi (c8 7))) Z7) (b7 (f9 2 (t:=.i) sc.nd (a9 (A5 (A5 (z7 (PX.newf (c6 0)) (c8 2)) (c8 7)) c7))) (f7 (f9 3 (t:=.i) sc.nd (a9 (A5 (A5 (z7 (PX.newf (c6 0)) (c8 3)) (c8 7)) c7))))))) l9 ((j9 6).trans (j9 7)))) (f7 (l0 (B0 5 (u:=(.l .i))))))))
def a0U:EvS:=(u7 (l6 (iR (eCl q9 (a7 (a6 0) b8))) [0,1,2] pt1 tT (eCl A7 (a7 (a6 1) (a7 (a6 2) (a7 (a6 3) (a7 (a6 0) b8)))))))
def E4:=fnD [.f,.f,.i] 0 a0U
abbrev a0V(B:Bk P w K mg base)(k:Nat):=HB B "apart_from" k ["machine","levels","state"] (spD K 3 E4 (.l (.l .i)))
def a4k(B:Bk P w K mg base)(ip:W9 B 2):a0V B 3:=
 n9 B.d19 λ_ _ F=>fnF F ["machine","levels","state"] λ_ _ _ _ _ _ _ hr=>by exact f7 (l0 (a9 (v7 rfl (tn:=["other"]) (ys:=["machine","levels","state"]) (js:=[0,1,2]) (m:=.i) (t7 B.range_ (r8 B.len_ (c6 0))) rfl (λ_ _ _ _ _=>n5 (i:=0) c3j rfl (bO rfl) (.inr rfl)) v6 (.inl rfl) a6A rfl (λ_ _ _ _ _=>v8) (λ_ _ _ _ _=>(m8 ip hr (a8 (c6 1) (a8 (c6 2) (a8 (c8 3) (a8 (c8 0) f8)))))))))
def a9M:EvS:=(e7 (g9 1 (eCl D0 (a7 (a6 0) b8))) (u7 (l6 (iR (eCl q9 (a7 (a6 0) b8))) [0,1] pt1 tT (eCl E4 (a7 (a6 1) (a7 (a6 2) (a7 (a6 0) b8)))))))
def a0W:=fnD [.f] 1 a9M
abbrev a9N(B:Bk P w K mg base)(k:Nat):=HB B "apart" k ["machine"] (spD K 1 a0W (.l (.l (.l .i))))
def b4d(B:Bk P w K mg base)(gx:W7 B 3)(jo:a0V B 3):a9N B 4:=
 n9 B.d20 λ_ _ F=>fnF F ["machine","levels"] λsc _ _ _ _ _ _ hr=>by exact b7 (f9 1 (t:=(.l (.l .i))) sc.nd (a9 (m8 gx hr (a8 (c6 0) f8)))) (f7 (l0 (a9 (v7 rfl (tn:=["state"]) (ys:=["machine","levels"]) (js:=[0,1]) (m:=.i) (t7 B.range_ (r8 B.len_ (c6 0))) rfl (λ_ _ _ _ _=>n5 (i:=0) c1J rfl (bO rfl) (.inr rfl)) v6 (.inl rfl) a6A rfl (λ_ _ _ _ _=>v8) (λ_ _ _ _ _=>(m8 jo hr (a8 (c6 1) (a8 (z0 2 (u:=(.l (.l .i)))) (a8 (c8 0) f8)))))))))
def a9O:EvS:=(u7 (l6 (iL (eCl a0W (a7 (a6 0) b8))) [] pt1 tT (eCl B8 (a7 (a6 0) b8))))
def a2H:=fnD [.f] 0 a9O
abbrev a9P(B:Bk P w K mg base)(k:Nat):=HB B "marks" k ["machine"] (spD K 1 a2H (.l (.l (.l .i))))
def b4e(B:Bk P w K mg base)(iO:a0e B 4)(mY:a9N B 4):a9P B 5:=
 n9 B.d21 λ_ _ F=>fnF F ["machine"] λ_ _ _ _ _ _ _ hr=>by exact f7 (l0 (a9 (v7 rfl (tn:=["probes"]) (ys:=[]) (js:=[]) (m:=.f) (m6 (PX.frz (a5B (u:=(.l (.l (.l .i)))) mY hr (a8 (c6 0) f8) (hfl:=(m5 J7))))) rfl (λ_ _ _ _ _=>n5 (i:=0) c1K rfl (bO rfl) (.inr rfl)) v6 (.inr rfl) a2Z rfl (λ_ _ _ _ _=>v8) (λ_ _ _ _ _=>(m8 iO hr (a8 (c6 0) f8))))))
def Q2:EvS:=(e7 (g9 2 (x5 b8)) (e7 (y6 (iL (a6 0)) (o8 3) (a6S 2 (l6 (iR (a6 1)) [3] pt1 tT (eI (R6 (a6 1) (x5 (a7 (a6 0) b8))))))) (u7 (a6 2))))
def p9:=fnD [.f,.i] 2 Q2
abbrev Q3(B:Bk P w K mg base)(k:Nat):=HB B "one_ask_longer" k ["rows","asks"] (spD K 2 p9 (.l (.l .i)))
def a0X(B:Bk P w K mg base):Q3 B 1:=
 n9 B.d22 λ_ _ F=>fnF F ["rows","asks","found","row"] λsc _ _ _ _ _ _ _=>by exact b7 (f9 2 (t:=(.l (.l .i))) sc.nd (a9 (p8 (n:=0) (u:=(.l .i)) k7))) (b7 (A6 (M:=[mdF,mdI,K7,mdD]) (MB:=[mdF,mdI,K7,mdF]) rfl bJ (m6 (PX.newf (c6 0))) (y9 3 sc.nd) a1i (λ_ _ _ _ _=>trivial) (PSsX.weak (M2:=[mdF,mdI,K7,mdF]) (f7 (b6q 2 (t:=(.l .i)) (v7 rfl (tn:=["ask"]) (ys:=["row"]) (js:=[3]) (m:=.i) (t7 B.range_ (c8 1)) rfl (λ_ _ _ _ _=>n5 (i:=0) c1L rfl (bO rfl) (.inr rfl)) v6 (.inl rfl) a6A rfl (λ_ _ _ _ _=>v8) (λ_ _ _ _ _=>(MkL.i (a5A (PX.newf (c6 1)) (p8 (n:=1) (u:=.i) (k8 (u:=.i) (PX.newi (c8 0)) k7)))))))) l9 (j9 3))) (f7 (l0 (B0 2 (u:=(.l (.l .i)))))))
def a4V:EvS:=(e7 (g9 2 (x5 (a7 (x5 b8) b8))) (e7 (g9 3 (x5 (a7 (x5 b8) b8))) (e7 (y6 (iR (a6 1)) (o8 4) (e7 (g9 3 (eCl p9 (a7 (a6 3) (a7 (a6 0) b8)))) (a1W 2 3))) (u7 (a6 2)))))
def Y9:=fnD [.i,.i] 3 a4V
abbrev a4W(B:Bk P w K mg base)(k:Nat):=HB B "rows_of" k ["asks","most"] (spD K 2 Y9 (.l (.l .i)))
def a8M(B:Bk P w K mg base)(gO:Q3 B 1):a4W B 2:=
 n9 B.d23 λ_ _ F=>fnF F ["asks","most","found","newest","many"] λsc _ _ _ _ _ _ hr=>by exact b7 (f9 2 (t:=(.l (.l .i))) sc.nd (a9 (p8 (n:=1) (u:=(.l .i)) (k8 (u:=(.l .i)) (p8 (n:=0) (u:=.i) k7) k7)))) (b7 (f9 3 (t:=(.l (.l .i))) sc.nd (a9 (p8 (n:=1) (u:=(.l .i)) (k8 (u:=(.l .i)) (p8 (n:=0) (u:=.i) k7) k7)))) (b7 (b6p 2 3 4 (t:=(.l .i)) (M1:=[mdI,mdI,K7,K7,mdD]) (M:=[mdI,mdI,K7,mdD,mdD]) (by decide) (by decide) (by decide) rfl rfl bJ sc.nd (t7 B.range_ (c8 1)) (a6P (u:=(.l (.l .i))) gO hr (Y3 (a6N) (Y3 (PXL.of (c8 0)) (a6O))) (hfl:=(m5 (m5 J7))))) (f7 (l0 (B0 2 (u:=(.l (.l .i))))))))
def a1C:EvS:=(u7 (eCl q9 (a7 (e2 dIx (a6 0) (eC (.int 0))) b8)))
def F7:=fnD [.f] 0 a1C
abbrev a1D(B:Bk P w K mg base)(k:Nat):=HB B "asks_of" k ["machine"] (spD K 1 F7 .i)
def a8N(B:Bk P w K mg base):a1D B 1:=
 n9 B.d24 λ_ _ F=>fnF F ["machine"] λ_ _ _ _ _ _ _ _=>by exact f7 (l0 (a9 (r8 B.len_ (z7 (PX.newf (c6 0)) c7))))
def b4f:EvS:=(e7 (g9 1 (eCl t8 (a7 (a6 0) b8))) (u7 (a5L 1 (eCl q9 (a7 (a6 0) b8)))))
def a0u:=fnD [.f] 1 b4f
abbrev b4g(B:Bk P w K mg base)(k:Nat):=HB B "ways" k ["machine"] (spD K 1 a0u (.l (.l .i)))
def b6U(B:Bk P w K mg base)(eY:J8 B 3):b4g B 4:=
 n9 B.d25 λ_ _ F=>fnF F ["machine","found"] λsc _ _ _ _ _ _ hr=>by exact b7 (f9 1 (t:=(.d false (.l .i))) sc.nd (a9 (m8 eY hr (a8 (c6 0) f8)))) (f7 (l0 (b1k 1 (u:=(.l .i)) rfl B.range_ (r8 B.len_ (c6 0)) (λ_ _ _ _ _=>n5 (i:=0) c1M rfl (bO rfl) (.inr rfl)) (λ_ _ _ _ _=>b6m (by exact hr.units)))))
def a7r:EvS:=(e7 (g9 3 (x5 b8)) (e7 (y6 (iI (iL (a6 2))) (o8 4) (e7 (g9 5 (e2 q8 (e2 dIx (a6 0) (a6 1)) (a6 4))) (e7 (D5 3 (.l .i) n8 (e2 q8 (a6 5) (eC (.int 0)))) (g9 1 (e2 q8 (a6 5) (eC (.int 1))))))) (u7 (O7 (a7 (a6 3) (a7 (a6 1) b8))))))
def E5:=fnD [.f,.i,.f] 3 a7r
abbrev a3I(B:Bk P w K mg base)(k:Nat):=HB B "walked" k ["machine","state","probe"] (spD K 3 E5 (.tp [(.l .i),.i]))
def b1J(B:Bk P w K mg base):a3I B 1:=
 n9 B.d26 λ_ _ F=>fnF F ["machine","state","probe","answers","ask","step"] λsc _ _ _ _ _ _ _=>by exact b7 (f9 3 (t:=(.l .i)) sc.nd (a9 (p8 (n:=0) (u:=.i) k7))) (b7 (A6 (M:=[mdF,mdI,mdF,mdL,mdD,mdD]) (MB:=[mdF,mdI,mdF,mdL,mdI,mdD]) rfl bJ (PIX.i (m6 (PX.newf (c6 2)))) (y9 4 sc.nd) L8 b2R (PSsX.weak (M2:=[mdF,mdI,mdF,mdL,mdI,mdI]) (b7 (f9 5 (t:=.i) sc.nd (a9 (A5 (z7 (PX.newf (c6 0)) (c8 1)) (c8 4)))) (b7 (V6 3 (u:=(.l .i)) (t:=.i) (G5 3 (u:=(.l .i))) (a9 (A5 (c8 5) c7)) Z7) (f7 (f9 1 (t:=.i) sc.nd (a9 (A5 (c8 5) c7)))))) l9 ((j9 4).trans (j9 5)))) (f7 (l0 (b5Q (a6C (u:=(.l .i)) (B0 3 (u:=(.l .i))) (a6C (u:=.i) (a9 (PX.newi (c8 1))) (b5P)))))))
def a0f:EvS:=(e7 (g9 2 (eCl a2H (a7 (a6 0) b8))) (e7 (g9 3 (eCl Y9 (a7 (eCl F7 (a7 (a6 0) b8)) (a7 (e2 t5 (a6 1) (eC (.int 1))) b8)))) (e7 (g9 4 (eC (.dict []))) (e7 (y6 (iEn (eCl a0u (a7 (a6 0) b8))) (a3a 5 6) (y6 (iL (a6 3)) (o8 7) (y6 (iL (e2 dIx (a6 2) (e2 dIx (eCl E5 (a7 (a6 0) (a7 (a6 5) (a7 (a6 7) b8)))) (eC (.int 1))))) (o8 8) (E7 4 true (V2 (eI (R6 (eI (R6 (a6 6) (a6 7))) (a6 8)))) (eC (.bool true)))))) (u7 (l6 (iI (iL (a0q a0t (a6 4)))) [] pt1 tT (eI (K1 (a6 0)))))))))
def B9:=fnD [.f,.i] 7 a0f
abbrev a0g(B:Bk P w K mg base)(k:Nat):=HB B "book_probes" k ["small","extra"] (spD K 2 B9 (.l (.l .i)))
def a3J(B:Bk P w K mg base)(kY:a8L B 3)(mW:a9P B 5)(kW:a4W B 5)(ig:a1D B 5)(oq:b4g B 5)(iY:a3I B 5):a0g B 6:=
 n9 B.d27 λ_ _ F=>fnF F ["small","extra","marked","rows","found","state","way","row","mark"] λsc _ _ _ _ _ _ hr=>by exact b7 (f9 2 (t:=(.l (.l (.l .i)))) sc.nd (a9 (a5B (u:=(.l (.l (.l .i)))) mW hr (a8 (c6 0) f8) (hfl:=(m5 J7))))) (b7 (f9 3 (t:=(.l (.l .i))) sc.nd (a9 (m8 kW hr (a8 (m8 ig hr (a8 (c6 0) f8)) (a8 (i7 t6 (c8 1) c7) f8))))) (b7 (f9 4 (t:=(.d true .i)) sc.nd (a9 (W2 true .i))) (b7 (PSX.weak (M1:=[mdF,mdI,mdF,mdF,.own (.d true .i),mdD,mdD,mdD,mdD]) (a5I (fi:=(iEn (eCl a0u (a7 (a6 0) b8)))) (M:=[mdF,mdI,mdF,mdF,.own (.d true .i),mdD,mdD,mdD,mdD]) (MB:=[mdF,mdI,mdF,mdF,.own (.d true .i),mdF,mdF,mdD,mdD]) rfl bJ (b9r B.enumerate_ (PX.frz (m8 oq hr (a8 (c6 0) f8)))) (a2L rfl (x9 (y9 5 sc.nd) (x9 (y9 6 sc.nd) X3))) (a8c (w:=.f) (.inl rfl)) (λ_ _ _ _ _ e=>nomatch e) (λh=>h) (PSsX.weak (M2:=[mdF,mdI,mdF,mdF,.own (.d true .i),mdF,mdF,mdD,mdD]) (f7 (A6 (M:=[mdF,mdI,mdF,mdF,.own (.d true .i),mdF,mdF,mdD,mdD]) (MB:=[mdF,mdI,mdF,mdF,.own (.d true .i),mdF,mdF,mdF,mdD]) rfl bJ (m6 (PX.newf (c6 3))) (y9 7 sc.nd) a1i (λ_ _ _ _ _=>trivial) (PSsX.weak (M2:=[mdF,mdI,mdF,mdF,.own (.d true .i),mdF,mdF,mdF,mdD]) (f7 (A6 (M:=[mdF,mdI,mdF,mdF,.own (.d true .i),mdF,mdF,mdF,mdD]) (MB:=[mdF,mdI,mdF,mdF,.own (.d true .i),mdF,mdF,mdF,mdF]) rfl bJ (m6 (z7 (PX.newf (c6 2)) (b2Y (us:=[(.l .i),.i]) (j:=1) (m8 iY hr (a8 (c6 0) (a8 (c6 5) (a8 (c6 7) f8))))))) (y9 8 sc.nd) a1i (λ_ _ _ _ _=>trivial) (PSsX.weak (M2:=[mdF,mdI,mdF,mdF,.own (.d true .i),mdF,mdF,mdF,mdF]) (f7 (a2D 4 (kt:=true) (u:=.i) (by exact hr.units) (a2X B.tuple_ (MkL.i (a5A (MkL.i (a5A (PX.newf (c6 6)) (PX.newf (c6 7)))) (PX.newf (c6 8))))) (a9 a4A))) l9 (j9 8)))) l9 (j9 7)))) l9 ((j9 5).trans (j9 6)))) ((a0j 2).trans (a0j 3)) l9) (f7 (l0 (a9 (v7 rfl (tn:=["probe"]) (ys:=[]) (js:=[]) (m:=.i) (PIX.i (m6 (PX.frz (a7c rfl B.sorted_ kY hr (z0 4 (u:=(.d true .i))))))) rfl (λ_ _ _ _ _=>n5 (i:=0) c1I rfl (bO rfl) (.inr rfl)) v6 (.inl rfl) a4H rfl (λ_ _ _ _ _=>v8) (λ_ _ _ _ _=>(MkL.i (a0H B.list_ (PX.newi (c8 0))))))))))))
def a2k:EvS:=(e7 (g9 3 (eC (.int 1))) (e7 (y6 (iR (e2 t5 (a6 2) (eC (.int 1)))) (o8 4) (g9 3 (e2 t5 (e2 O5 (a6 3) (a6 1)) (eC (.int 1))))) (u7 (e2 O5 (e2 O5 (a6 0) (a6 3)) (eCl (a0G true) (a7 (e2 a2t (a6 0) (eC (.int 1))) (a7 (eC (.int 1)) b8)))))))
def N8:=fnD [.i,.i,.i] 2 a2k
abbrev a2l(B:Bk P w K mg base)(k:Nat):=HB B "book_size" k ["states","asks","extra"] (spD K 3 N8 .i)
def a5X(B:Bk P w K mg base):a2l B 1:=
 n9 B.d28 λ_ _ F=>fnF F ["states","asks","extra","rows","many"] λsc _ _ _ _ _ _ _=>by exact b7 (f9 3 (t:=.i) sc.nd (a9 c7)) (b7 (A6 (M:=[mdI,mdI,mdI,mdI,mdD]) (MB:=[mdI,mdI,mdI,mdI,mdI]) rfl bJ (t7 B.range_ (i7 t6 (c8 2) c7)) (y9 4 sc.nd) L8 b0O (PSsX.weak (M2:=[mdI,mdI,mdI,mdI,mdI]) (f7 (f9 3 (t:=.i) sc.nd (a9 (i7 t6 (i7 O6 (c8 3) (c8 1)) c7)))) l9 (j9 4))) (f7 (l0 (a9 (i7 O6 (i7 O6 (c8 0) (c8 3)) (a2W (b2G rfl) B.max_ PyProof.Rows.Boot.«max» (a8 (i7 V0 (c8 0) c7) (a8 c7 f8))))))))
def b4h:EvS:=(e7 (sEx (eCl N6 (a7 (a6 1) (a7 (eC (.int 30)) b8)))) (e7 (g9 2 (eCl L1 (a7 (a6 0) b8))) (e7 (g9 3 (eCl (a0G true) (a7 (e2 a2t (a6 1) (eCl q9 (a7 (a6 2) b8))) (a7 (eC (.int 0)) b8)))) (e7 (sIf (tB (e2 dGt (eCl N8 (a7 (eCl q9 (a7 (a6 2) b8)) (a7 (eCl F7 (a7 (a6 0) b8)) (a7 (a6 3) b8)))) (eC (.int 3000)))) sNo E1) (e7 (g9 4 (eCl B9 (a7 (a6 2) (a7 (a6 3) b8)))) (u7 (l6 (iL (a6 4)) [0] pt1 tT (O7 (a7 (a6 0) (a7 (e2 dIx (eCl E5 (a7 (a6 1) (a7 (eC (.int 0)) (a7 (a6 0) b8)))) (eC (.int 0))) b8))))))))))
def a0v:=fnD [.f,.f] 3 b4h
abbrev b4i(B:Bk P w K mg base)(k:Nat):=HB B "book" k ["machine","most"] (spD K 2 a0v .f)
def b6V(B:Bk P w K mg base)(jJ:a2g B 6)(jU:a5W B 6)(ig:a1D B 6)(iY:a3I B 6)(iQ:a0g B 6)(jL:a2l B 6):b4i B 7:=
 n9 B.d29 λ_ _ F=>fnF F ["machine","most","small","extra","probes"] λsc _ _ _ _ _ _ hr=>by exact b7 (b5S (m8 jJ hr (a8 (c6 1) (a8 (a9p B.MOST_STATES_) f8)))) (b7 (f9 2 (t:=(.l (.l .i))) sc.nd (a9 (m8 jU hr (a8 (c6 0) f8)))) (b7 (f9 3 (t:=.i) sc.nd (a9 (a2W (b2G rfl) B.max_ PyProof.Rows.Boot.«max» (a8 (i7 V0 (c6 1) (r8 B.len_ (z0 2 (u:=(.l (.l .i)))))) (a8 c7 f8))))) (b7 (T5 (M':=[mdF,mdF,K7,mdI,mdD]) (z8 a9n (m8 jL hr (a8 (r8 B.len_ (z0 2 (u:=(.l (.l .i))))) (a8 (m8 ig hr (a8 (c6 0) f8)) (a8 (c8 3) f8)))) (a9p B.MOST_IN_BOOK_)) (f7 (b7E)) E9) (b7 (f9 4 (t:=(.l (.l .i))) sc.nd (a9 (m8 iQ hr (a8 (z0 2 (u:=(.l (.l .i)))) (a8 (c8 3) f8))))) (f7 (PSX.weak (M1:=[mdF,mdF,K7,mdI,mdF]) (l0 (a9 (PX.frz (v7 rfl (tn:=["probe"]) (ys:=["machine"]) (js:=[0]) (m:=.f) (m6 (PX.newf (c6 4))) rfl (λ_ _ _ _ _=>n5 (i:=0) c1N rfl (bO rfl) (.inr rfl)) v6 (.inr rfl) a2Z rfl (λ_ _ _ _ _=>v8) (λ_ _ _ _ _=>(b8C (us:=[.f,(.l .i)]) (k8 (u:=.f) (PX.newf (c6 0)) (k8 (u:=(.l .i)) (b2Y (us:=[(.l .i),.i]) (j:=0) (m8 iY hr (a8 (c6 1) (a8 c7 (a8 (c6 0) f8))))) k7)))))))) (a0j 4) l9))))))
def b_law:EvS:=(e7 (g9 1 (eCl m_law_machine (a7 (a6 0) b8))) (e7 (g9 2 (eCl m_law_blown (a7 (a6 0) (a7 (a6 1) (a7 (e2 t5 (eCl q9 (a7 (a6 1) b8)) (e2 v9 (eCl m_law_mixed (a7 (a6 0) (a7 (eC (.int 5)) b8))) (eC (.int 6)))) b8))))) (e7 (g9 3 (eCl q9 (a7 (eCl L1 (a7 (l6 (iL (a6 1)) [] pt1 tT (eI (K1 (a6 0)))) b8)) b8))) (e7 (g9 4 (e2 t5 (a6 3) (eC (.int 1)))) (e7 (sIf (tB (e2 dGt (e2 O5 (eCl q9 (a7 (a6 1) b8)) (eCl q9 (a7 (e2 dIx (a6 1) (eC (.int 0))) b8))) (eC (.int 8)))) (g9 4 (a6 3)) E1) (e7 (g9 5 (e2 t5 (eC (.int 1)) (e2 v9 (eCl m_law_mixed (a7 (a6 0) (a7 (eC (.int 6)) b8))) (a6 4)))) (e7 (sIf (tAn (tB (e2 dEq (eCl q9 (a7 (e2 dIx (a6 1) (eC (.int 0))) b8)) (eC (.int 1)))) (tB (e2 dEq (e2 v9 (eCl m_law_mixed (a7 (a6 0) (a7 (eC (.int 7)) b8))) (eC (.int 8))) (eC (.int 4))))) (g9 5 (eC (.int 30))) E1) (e7 (g9 6 (eCl a0v (a7 (l6 (iL (a6 1)) [] pt1 tT (eI (K1 (a6 0)))) (a7 (a6 5) b8)))) (e7 (g9 7 (eCl a0v (a7 (l6 (iL (a6 2)) [] pt1 tT (eI (K1 (a6 0)))) (a7 (a6 5) b8)))) (e7 (sIf (a0C (tNo (tV (e1 (λd=>cz (.bool (isList d))) (a6 6)))) (a0C (tNo (tV (e1 (λd=>cz (.bool (isList d))) (a6 7)))) (tB (e2 dNe (eCl q9 (a7 (a6 6) b8)) (eCl q9 (a7 (a6 7) b8)))))) (u7 (eC (.bool false))) E1) (e7 (y6 (iR (eCl q9 (a7 (a6 6) b8))) (o8 8) (sIf (a0C (tNo (tV (e1 (λd=>cz (.bool (G0 d))) (e2 dIx (a6 6) (a6 8))))) (a0C (tNo (tV (e1 (λd=>cz (.bool (G0 d))) (e2 dIx (a6 7) (a6 8))))) (tB (e2 dNe (e2 dIx (a6 6) (a6 8)) (e2 dIx (a6 7) (a6 8)))))) (u7 (eC (.bool false))) E1)) (u7 (eC (.bool true))))))))))))))
def m_law:=fnD [.f] 8 b_law
def ok_law(B:Bk P w K mg base)(cD:C9 B 7)(iP:a0a B 7)(jK:a2e B 7)(jU:a5W B 7)(mX:b4i B 7)(F:Fun K "law" "law" (top 46) f fd):FnOk P w K mg base CX0 8 f fd ["_law_script"] (spD K 1 m_law .i):=
 fnF F ["_law_script","_law_machine_here","_law_other","_law_states","_law_room","_law_most","_law_found","_law_again","_law_k"] λsc _ _ _ _ _ _ hr=>by exact b7 (f9 1 (t:=(.l (.l .i))) sc.nd (a9 (m8 iP hr (a8 (c6 0) f8)))) (b7 (f9 2 (t:=(.l (.l .i))) sc.nd (a9 (m8 jK hr (a8 (c6 0) (a8 (z0 1 (u:=(.l (.l .i)))) (a8 (i7 t6 (r8 B.len_ (z0 1 (u:=(.l (.l .i))))) (i7 w9 (m8 cD hr (a8 (c6 0) (a8 c7 f8))) c7)) f8)))))) (b7 (PSX.weak (M1:=[mdF,mdF,K7,mdD,mdD,mdD,mdD,mdD,mdD]) (f9 3 (t:=.i) sc.nd (a9 (r8 B.len_ (m8 jU hr (a8 (v7 rfl (tn:=["_law_row"]) (ys:=[]) (js:=[]) (m:=.f) (m6 (PX.newf (c6 1))) rfl (λ_ _ _ _ _=>n5 (i:=0) b4a rfl (bO rfl) (.inr rfl)) v6 (.inr rfl) a2Z rfl (λ_ _ _ _ _=>v8) (λ_ _ _ _ _=>(MkL.i (a0H B.list_ (PX.newf (c6 0)))))) f8))))) (a0j 1) l9) (b7 (f9 4 (t:=.i) sc.nd (a9 (i7 t6 (c8 3) c7))) (b7 (T5 (M':=[mdF,mdF,K7,mdI,mdI,mdD,mdD,mdD,mdD]) (z8 a9n (i7 O6 (r8 B.len_ (c6 1)) (r8 B.len_ (z7 (PX.newf (c6 1)) c7))) c7) (f7 (f9 4 (t:=.i) sc.nd (a9 (PX.newi (c8 3))))) E9) (b7 (f9 5 (t:=.i) sc.nd (a9 (i7 t6 c7 (i7 w9 (m8 cD hr (a8 (c6 0) (a8 c7 f8))) (c8 4))))) (b7 (T5 (M':=[mdF,mdF,K7,mdI,mdI,mdI,mdD,mdD,mdD]) (PWX.pt (b5J (z8 W5 (r8 B.len_ (z7 (PX.newf (c6 1)) c7)) c7) (b2E (z8 W5 (i7 w9 (m8 cD hr (a8 (c6 0) (a8 c7 f8))) c7) c7)))) (f7 (f9 5 (t:=.i) sc.nd (a9 c7))) E9) (b7 (f9 6 (t:=.f) sc.nd (a9 (by exact a7e (u:=.f) mX hr (a0S (PX.frz (v7 rfl (tn:=["_law_row"]) (ys:=[]) (js:=[]) (m:=.f) (m6 (PX.newf (c6 1))) rfl (λ_ _ _ _ _=>n5 (i:=0) b4a rfl (bO rfl) (.inr rfl)) v6 (.inr rfl) a2Z rfl (λ_ _ _ _ _=>v8) (λ_ _ _ _ _=>(MkL.i (a0H B.list_ (PX.newf (c6 0))))))) (a0S (PX.newi (c8 5)) (a9E))) (hfl:=(m5 (m5 J7)))))) (b7 (PSX.weak (M1:=[mdF,mdF,mdF,mdI,mdI,mdI,mdF,mdD,mdD]) (f9 7 (t:=.f) sc.nd (a9 (by exact a7e (u:=.f) mX hr (a0S (PX.frz (v7 rfl (tn:=["_law_row"]) (ys:=[]) (js:=[]) (m:=.f) (m6 (PX.newf (c6 2))) rfl (λ_ _ _ _ _=>n5 (i:=0) b4a rfl (bO rfl) (.inr rfl)) v6 (.inr rfl) a2Z rfl (λ_ _ _ _ _=>v8) (λ_ _ _ _ _=>(MkL.i (a0H B.list_ (PX.newf (c6 0))))))) (a0S (PX.newi (c8 5)) (a9E))) (hfl:=(m5 (m5 J7)))))) (a0j 2) l9) (b7 (T5 (M':=[mdF,mdF,mdF,mdI,mdI,mdI,mdF,mdF,mdD]) (PWX.pt (a2U (Y0 (X9 (a1h a6z B.isinstance_ B.list_ PyProof.Rows.Boot.«list» (c6 6)))) (a2U (Y0 (X9 (a1h a6z B.isinstance_ B.list_ PyProof.Rows.Boot.«list» (c6 7)))) (a5x (z8 b3R (r8 B.len_ (c6 6)) (r8 B.len_ (c6 7))))))) (f7 (l0 (a9 a4A))) E9) (b7 (A6 (M:=[mdF,mdF,mdF,mdI,mdI,mdI,mdF,mdF,mdD]) (MB:=[mdF,mdF,mdF,mdI,mdI,mdI,mdF,mdF,mdI]) rfl bJ (t7 B.range_ (r8 B.len_ (c6 6))) (y9 8 sc.nd) L8 b0O (PSsX.weak (M2:=[mdF,mdF,mdF,mdI,mdI,mdI,mdF,mdF,mdI]) (f7 (T5 (M':=[mdF,mdF,mdF,mdI,mdI,mdI,mdF,mdF,mdI]) (PWX.pt (a2U (Y0 (X9 (a1h a4D B.isinstance_ B.tuple_ PyProof.Rows.Boot.«tuple» (z7 (PX.newf (c6 6)) (c8 8))))) (a2U (Y0 (X9 (a1h a4D B.isinstance_ B.tuple_ PyProof.Rows.Boot.«tuple» (z7 (PX.newf (c6 7)) (c8 8))))) (a5x (z8 b3R (z7 (PX.newf (c6 6)) (c8 8)) (z7 (PX.newf (c6 7)) (c8 8))))))) (f7 (l0 (a9 a4A))) E9)) l9 (j9 8))) (f7 (l0 (a9 a4A)))))))))))))
end Prog
local macro_rules | `(tactic| walk_at "ev")=>`(tactic| simp -implicitDefEqProofs (disch:=first | omega | assumption | decide) only [VS.v_var,VS.v_c,VS.v_1,VS.v_2,VS.c2v,VS.b9b,VS.a9s,VS.c2w,VS.c2x,VS.c0S,VS.c0T,VS.c0U,VS.v_and,VS.v_or,VS.v_not,VS.c2y,VS.a9t,VS.c0V,VS.V8,VS.a1S,VS.a9u,VS.c2z,VS.b2W,VS.c0W,VS.a9v,VS.b9c,VS.c2r,VS.b8L,VS.c2s,VS.b5X,VS.c2t,VS.c2u,VS.b8M,VS.b8N,VS.b8O,VS.c0N,VS.c0O,VS.b8P,VS.b8Q,VS.c0P,VS.c0Q,VS.b8R,VS.b8S,VS.b8T,VS.b2U,VS.b2V,VS.V7,VS.b8U,VS.b8V,VS.b8W,VS.a0k,VS.b8X,VS.c0R,VS.b5Y,VS.b8Y,VS.b8Z,VS.a2C,VS.b9a,VS.v_add,VS.v_sub,VS.v_lt,VS.c2A,VS.c2B,VS.c2C,VS.c0X,VS.c0Y,VS.b9d,VS.b9e,VS.c0Z,VS.c1a,VS.c1b,VS.c1c,VS.c1d,VS.c1e,VS.v_mod,VS.v_div,VS.c2P,VS.c1n,VS.c1o,VS.trB,VS.c1p,VS.b9I,VS.b3S,VS.b6N,VS.b3T,VS.b3U,VS.b6O,VS.b1D,VS.a8B,VS.a8C,VS.a8D,VS.b1E,VS.b1F,VS.a8E,VS.a8F,VS.a7i,VS.a7j,VS.a7k,VS.a8G,VS.a8H,VS.a7l,VS.isList_list,VS.isList_int,VS.a7m,VS.isList_bool,VS.a8I,VS.isList_str,VS.isList_dict,VS.a7n,VS.isTuple_list,VS.isTuple_int,VS.a4Q,VS.a9I,VS.a9J,VS.c1q,VS.c1r,VS.b1G,VS.c2Y,VS.a1u,VS.b9J,VS.b9K,VS.b9L,VS.c1t,VS.c1u,VS.c2Z,VS.at0,VS.at1,VS.c1B,VS.c1C,VS.b9O,VS.b6R,VS.c1D,VS.b6S,jv,dQ,fZ,dX,gQ,gP,bE,bK,bb,gq,Bool.not_false,mL,eN,Bool.false_and,Bool.and_false,VS.c2Q,VS.c2R,VS.c2S,VS.c2T,VS.c2U,VS.c2V,VS.c2W,VS.c2X,decide_true,decide_false,ai,ay,c_])
namespace Prog
open PySem L2 VS
def C0{ns:List Int}{j:Int}(a:0<=j)(b:j<ns.length):L2.atI (ns.map aO) j=cz (.int (ns.getD j.toNat 0)):=by
 rw[V9 a (by rw[ai];exact b),cY];rw[ab,ae (by lia)];rfl
end Prog
local macro_rules | `(tactic| walk_at "evm")=>`(tactic| first | (walk_at "ev";repeat (simp -implicitDefEqProofs (disch:=first | omega | assumption | decide) only [VS.a0l,VS.a5E];try walk_at "ev")) | (simp -implicitDefEqProofs (disch:=first | omega | assumption | decide) only [VS.a0l,VS.a5E];repeat (first | walk_at "ev" | simp -implicitDefEqProofs (disch:=first | omega | assumption | decide) only [VS.a0l,VS.a5E])))
namespace Prog
open PySem L2 VS
def a7s(ns:List Int)(k:Int):Int:=((if 0<ns.length then ns.getD (k % (ns.length:Int)).toNat 0 else 3) % 2147483629+7919*k+1)*48271 % 2147483647
def u9(ns:List Int)(k:Int):Int:=a7s ns k*(a7s ns k % 65521+k+2) % 2147483629
def b9Q(ns:List Int)(k:Int):0<=a7s ns k/\a7s ns k<2147483647:=⟨dN _ (by decide),de _ (by decide)⟩
def b6W(ns:List Int)(k:Int):0<=u9 ns k:=dN _ (by decide)
def atI_nums{ns:List Int}{j:Int}(a:0<=j)(b:j<ns.length):L2.atI (ns.map aO) j=cz (.int (ns.getD j.toNat 0)):=by
 rw[V9 a (by rw[ai];exact b),cY];rw[ab,ae (by lia)];rfl
def a3K(ns:List Int)(k:Int)(h0:0<=k)(h1:k<=1000):m_law_mixed [.list (ns.map .int),.int k]=cz (.int (u9 ns k)):=by
 unfold m_law_mixed;rw[D6 (by simp[VS.argsOk,imm])];unfold b_law_mixed;walk_at "evm";have hr:=b9Q ns k;by_cases c:0<ns.length
 ·rw[aY (by lia:(0:Int)<ns.length)];walk_at "evm";rw[atI_nums (dN _ (by lia)) (de _ (by lia))];walk_at "evm";have e:a7s ns k=(ns.getD (k % (ns.length:Int)).toNat 0 % 2147483629+7919*k+1)*48271 % 2147483647:=by unfold a7s;rw[aD c]
  rw[<-e]
  try walk_at "evm"
  rfl
 ·rw[br (by lia:¬ (0:Int)<ns.length)];walk_at "evm";have e:a7s ns k=(3 % 2147483629+7919*k+1)*48271 % 2147483647:=by unfold a7s;rw[aM c]
  rw[<-e]
  try walk_at "evm"
  rfl
end Prog
namespace VS
open PySem L2
abbrev Ky:=List (Int×Int)
def snoc_ind{P:List α->Prop}(h0:P [])(h1:∀l x,P l->P (l++[x]))(l:List α):P l:=by
 have h:∀r:List α,P r.reverse:=by
  intro r
  induction r with
  |nil=>exact h0
  |cons x r ih=>rw[kg];exact h1 _ _ ih
 have:=h l.reverse
 rwa[List.reverse_reverse]at this
def a4l(seen:List Ky)(x:Ky):List Ky:=if x∈seen then seen else seen++[x]
def ded(ks:List Ky):List Ky:=ks.foldl a4l []
def J6(ks:List Ky)(x:Ky):ded (ks++[x])=a4l (ded ks) x:=by unfold ded;rw[ki];rfl
def G6(h:x∈s):a4l s x=s:=aD h
def E6(h:x∉s):a4l s x=s++[x]:=aM h
def b4j:y∈a4l s x↔y∈s∨y=x:=by
 by_cases h:x∈s
 ·rw[G6 h];exact⟨bO,λz=>z.elim id λe=>e▸h⟩
 ·rw[E6 h];simp
def T0:y∈ded ks↔y∈ks:=by
 induction ks using snoc_ind with
 |h0=>simp[ded]
 |h1 l x ih=>rw[J6,b4j,ih];simp
def a9Q(ks:List Ky):(ded ks).length<=ks.length:=by
 induction ks using snoc_ind with
 |h0=>simp[ded]
 |h1 l x ih=>
  rw[J6,aA,bS];by_cases h:x∈ded l
  ·rw[G6 h];lia
  ·rw[E6 h,aA,bS];lia
def b4k(h:y∈s):(a4l s x).idxOf y=s.idxOf y:=by
 by_cases c:x∈s
 ·rw[G6 c]
 ·rw[E6 c,kh,aD h]
def b6X{s:List Ky}{x y:Ky}(hx:x∈s)(h:s.idxOf x=s.idxOf y):x=y:=by
 have h1:=cu.mpr hx;have e1:s[s.idxOf x]'h1=x:=dZ h1;have h2:s.idxOf y<s.length:=by rw[<-h];exact h1
 have e2:s[s.idxOf y]'h2=y:=dZ h2;rw[<-e1,<-e2]
 congr 1
def a9R(h:ks≠[]):∃x∈ks,(ded ks).idxOf x+1=(ded ks).length:=by
 induction ks using snoc_ind with
 |h0=>exact absurd rfl h
 |h1 l x ih=>
  rw[J6];by_cases c:x∈ded l
  ·have hl:l≠[]:=λe=>by subst e;simp[ded]at c
   obtain⟨y,hy,e⟩:=ih hl;exact⟨y,ak _ hy,by rw[G6 c];exact e⟩
  ·refine⟨x,by simp,?_⟩;rw[E6 c,kh,aM c,aA];simp
def a1E(ks:List Ky):List Int:=ks.map λx=>(((ded ks).idxOf x:Nat):Int)
def a7t(ks:List Ky):(a1E ks).length=ks.length:=ai ..
def b1K{α:Type}(f g:α->Ky)(ps:List α):(∀p∈ps,∀q∈ps,g p=g q->f p=f q)->(ded (ps.map f)).length<=(ded (ps.map g)).length/\((ded (ps.map g)).length<=(ded (ps.map f)).length->∀p∈ps,∀q∈ps,f p=f q->g p=g q):=by
 induction ps using snoc_ind with
 |h0=>exact λ_=>⟨az _,λ_ p hp=>nomatch hp⟩
 |h1 l x ih=>
  intro h;obtain⟨i1,i2⟩:=ih λp hp q hq=>h p (ak _ hp) q (ak _ hq)
  rw[aK,aK,cA,cA,J6,J6];have hx:x∈l++[x]:=by simp
  by_cases cg:g x∈ded (l.map g)
  ·obtain⟨q,hq,eq⟩:=aJ.mp (T0.mp cg);have Bq:f q=f x:=h q (ak _ hq) x hx eq;have cf:f x∈ded (l.map f):=T0.mpr (aJ.mpr ⟨q,hq,Bq⟩);rw[G6 cg,G6 cf];refine⟨i1,λhle p hp r hr e=>?_⟩;have key:∀p∈l,f p=f x->g p=g x:=λp hp e=>(i2 hle p hp q hq (e.trans Bq.symm)).trans eq
   rcases ar.mp hp with z|z<;>rcases ar.mp hr with y|y
   ·exact i2 hle p z r y e
   ·cases aq.mp y;exact key p z e
   ·cases aq.mp z;exact (key r y e.symm).symm
   ·cases aq.mp z;cases aq.mp y;rfl
  ·by_cases cf:f x∈ded (l.map f)
   ·rw[G6 cf,E6 cg,aA,bS];exact⟨by lia,λhle=>by lia⟩
   ·rw[E6 cf,E6 cg,aA,aA,bS,bS];refine⟨by lia,λhle p hp r hr e=>?_⟩;have no:∀p∈l,f p≠f x:=λp hp e=>cf (T0.mpr (aJ.mpr ⟨p,hp,e⟩))
    rcases ar.mp hp with z|z<;>rcases ar.mp hr with y|y
    ·exact i2 (by lia) p z r y e
    ·cases aq.mp y;exact absurd e (no p z)
    ·cases aq.mp z;exact absurd e.symm (no r y)
    ·cases aq.mp z;cases aq.mp y;rfl
def rn(r:Ky)(ls:List Int):Ky:=r.map λp=>(p.1,ls.getD p.2.toNat 0)
def a1F(r:Ky)(ls:List Int):(rn r ls).length=r.length:=ai ..
def lvl(m:i9):Nat->List Int
 |0=>m.map λ_=>0
 |d+1=>a1E (m.map λr=>rn r (lvl m d))
def kf(m:i9):Nat->Ky->Ky
 |0,_=>[]
 |d+1,r=>rn r (lvl m d)
def cls(m:i9)(d:Nat):Nat:=(ded (m.map (kf m d))).length
def lv(m:i9)(d:Nat)(s:Int):Int:=(lvl m d).getD s.toNat 0
def T1(m:i9):∀d,(lvl m d).length=m.length
 |0=>ai ..
 |d+1=>by unfold lvl;rw[a7t,ai]
def z9(m:i9)(s:Int):lv m 0 s=0:=by
 unfold lv lvl;rw[ab,aU];cases m[s.toNat]?<;>rfl
def a9S{m:i9}{d:Nat}{s:Int}(h0:0<=s)(h1:s<m.length):lv m (d+1) s=(((ded (m.map (kf m (d+1)))).idxOf (rn (rowAt m s) (lvl m d)):Nat):Int):=by
 have h2:s.toNat<m.length:=by lia
 show (a1E (m.map λr=>rn r (lvl m d))).getD s.toNat 0=_;unfold a1E rowAt;rw[ab,aU,aU,ab,ae h2];rfl
def a5Y{m:i9}{d:Nat}{s t:Int}(h0:0<=s)(h1:s<m.length)(h2:0<=t)(h3:t<m.length):lv m (d+1) s=lv m (d+1) t↔rn (rowAt m s) (lvl m d)=rn (rowAt m t) (lvl m d):=by
 rw[a9S h0 h1,a9S h2 h3];refine⟨λh=>?_,λh=>by rw[h]⟩;exact b6X (T0.mpr (aJ.mpr ⟨_,C8 h0 h1,rfl⟩)) (Int.ofNat_inj.mp h)
def c1O{r r':Ky}{ls:List Int}(hl:r.length=r'.length):rn r ls=rn r' ls↔∀a:Nat,a<r.length->(r.getD a (0,0)).1=(r'.getD a (0,0)).1/\ls.getD (r.getD a (0,0)).2.toNat 0=ls.getD (r'.getD a (0,0)).2.toNat 0:=by
 unfold rn
 constructor
 ·intro h a ha;have e:(r.map λp=>(p.1,ls.getD p.2.toNat 0))[a]?=(r'.map λp=>(p.1,ls.getD p.2.toNat 0))[a]?:=by rw[h]
  rw[aU,aU,ae ha,ae (by lia)]at e;rw[ab,ab,ae ha,ae (by lia)];simp only[pA,nH,Prod.mk.injEq]at e;exact e
 ·intro h;refine fV (by rw[ai,ai,hl]) λa h1 h2=>?_
  rw[ai]at h1 h2;have:=h a h1;rw[ab,ab,ae h1,ae h2]at this;rw[cY,cY];exact Prod.ext this.1 this.2
def L3{m:i9}{k d:Nat}(w:WF m k){s t:Int}(h0:0<=s)(h1:s<m.length)(h2:0<=t)(h3:t<m.length) :
  lv m (d+1) s=lv m (d+1) t↔∀a:Int,0<=a->a<k->(stp m s a).1=(stp m t a).1/\lv m d (stp m s a).2=lv m d (stp m t a).2:=by
 rw[a5Y h0 h1 h2 h3,c1O (by rw[w.row h0 h1,w.row h2 h3]),w.row h0 h1];refine⟨λh a a0 a1=>h a.toNat (by lia),λh a ha=>?_⟩;have:=h a (by lia) (by lia);unfold stp lv at this
 rwa[bg]at this
theorem a5Z{m:i9}{k:Nat}(w:WF m k):∀(d:Nat) {s t:Int},0<=s->s<m.length->0<=t->t<m.length->lv m (d+1) s=lv m (d+1) t->lv m d s=lv m d t
 |0,s,t,_,_,_,_,_=>by rw[z9,z9]
 |d+1,s,t,h0,h1,h2,h3,h=>by
  rw[L3 w h0 h1 h2 h3]at h ⊢;intro a a0 a1;have ha:=h a a0 a1;have n1:=w.nx h0 h1 a0 a1;have n2:=w.nx h2 h3 a0 a1;exact⟨ha.1,a5Z w d n1.1 n1.2 n2.1 n2.2 ha.2⟩
def b4l{m:i9}{r:Ky}(h:r∈m):∃s:Int,0<=s/\s<m.length/\rowAt m s=r:=by
 obtain⟨i,hi,e⟩:=fP h;refine⟨i,by lia,by lia,?_⟩;unfold rowAt;rw[bg,ab,ae hi];exact e
def b7K{m:i9}{d:Nat}{s t:Int}(h0:0<=s)(h1:s<m.length)(h2:0<=t)(h3:t<m.length):kf m d (rowAt m s)=kf m d (rowAt m t)↔lv m d s=lv m d t:=by
 cases d with
 |zero=>rw[z9,z9];exact⟨λ_=>rfl,λ_=>rfl⟩
 |succ d=>rw[a5Y h0 h1 h2 h3];rfl
def b4m{m:i9}{k:Nat}(w:WF m k)(d:Nat):cls m d<=cls m (d+1)/\(cls m (d+1)<=cls m d->∀s t:Int,0<=s->s<m.length->0<=t->t<m.length->lv m d s=lv m d t->lv m (d+1) s=lv m (d+1) t):=by
 obtain⟨c1,c2⟩:=b1K (kf m d) (kf m (d+1)) m λp hp q hq e=>by
  obtain⟨s,h0,h1,rfl⟩:=b4l hp;obtain⟨t,h2,h3,rfl⟩:=b4l hq;rw[b7K h0 h1 h2 h3]at e ⊢;exact a5Z w d h0 h1 h2 h3 e
 refine⟨c1,λhc s t h0 h1 h2 h3 e=>?_⟩;rw[<-b7K h0 h1 h2 h3]at e ⊢;exact c2 hc _ (C8 h0 h1) _ (C8 h2 h3) e
def a9T(m:i9)(d:Nat):cls m d<=m.length:=by
 have:=a9Q (m.map (kf m d));rw[ai]at this;exact this
def a0Y(w:WF m k)(d:Nat):1<=cls m d:=by
 have hm:m≠[]:=λe=>by have:=w.pos;rw[e]at this;exact absurd this (by decide)
 obtain⟨x,_,e⟩:=a9R (ks:=m.map (kf m d)) (λe=>hm (xF.mp e));unfold cls;lia
def fp:Ky->Ky->Nat
 |x::xs,y::ys=>if x=y then fp xs ys+1 else 0
 |_,_=>0
theorem a6a:∀{r r':Ky},r.length=r'.length->r≠r'->fp r r'<r.length/\r.getD (fp r r') (0,0)≠r'.getD (fp r r') (0,0)/\∀i<fp r r',r.getD i (0,0)=r'.getD i (0,0)
 |[],[],_,h=>absurd rfl h
 |[],_::_,h,_=>by simp at h
 |_::_,[],h,_=>by simp at h
 |x::xs,y::ys,hl,h=>by
  by_cases c:x=y
  ·subst c;have ih:=a6a (r:=xs) (r':=ys) (by simpa using hl) (λe=>h (by rw[e]));have e:fp (x::xs) (x::ys)=fp xs ys+1:=aD rfl;rw[e];refine⟨by rw[aS];lia,?_,λi hi=>?_⟩
   ·rw[dQ,dQ];exact ih.2.1
   ·cases i with
    |zero=>rfl
    |succ i=>rw[dQ,dQ];exact ih.2.2 i (by lia)
  ·have e:fp (x::xs) (y::ys)=0:=aM c;rw[e];exact⟨by rw[aS];lia,by rw[jv,jv];exact c,λi hi=>absurd hi (by lia)⟩
def fa(m:i9)(d:Nat)(s t:Int):Int:=(fp (rn (rowAt m s) (lvl m d)) (rn (rowAt m t) (lvl m d)):Nat)
def a6b{r:Ky}(h:i<r.length):(rn r ls).getD i (0,0)=((r.getD i (0,0)).1,ls.getD (r.getD i (0,0)).2.toNat 0):=by
 unfold rn;rw[ab,aU,ae h,ab,ae h];rfl
def a9U{m:i9}{k d:Nat}(w:WF m k){s t:Int}(h0:0<=s)(h1:s<m.length)(h2:0<=t)(h3:t<m.length)(h:lv m (d+1) s≠lv m (d+1) t) :
  (0<=fa m d s t/\fa m d s t<k)/\((stp m s (fa m d s t)).1≠(stp m t (fa m d s t)).1∨lv m d (stp m s (fa m d s t)).2≠lv m d (stp m t (fa m d s t)).2)/\
  ∀a:Int,0<=a->a<fa m d s t->(stp m s a).1=(stp m t a).1/\lv m d (stp m s a).2=lv m d (stp m t a).2:=by
 have l1:=w.row h0 h1;have l2:=w.row h2 h3;rw[ne_eq,a5Y h0 h1 h2 h3]at h;obtain⟨f1,f2,f3⟩:=a6a (r:=rn (rowAt m s) (lvl m d)) (r':=rn (rowAt m t) (lvl m d)) (by rw[a1F,a1F,l1,l2]) h;rw[a1F,l1]at f1;refine⟨⟨by unfold fa;lia,by unfold fa;lia⟩,?_,λa a0 a1=>?_⟩
 ·rw[a6b (by lia),a6b (by lia)]at f2;unfold stp lv fa;rw[bg];by_cases c:((rowAt m s).getD (fp (rn (rowAt m s) (lvl m d)) (rn (rowAt m t) (lvl m d))) (0,0)).1=((rowAt m t).getD (fp (rn (rowAt m s) (lvl m d)) (rn (rowAt m t) (lvl m d))) (0,0)).1
  ·exact .inr λe=>f2 (Prod.ext c e)
  ·exact .inl c
 ·unfold fa at a1;have:=f3 a.toNat (by lia);rw[a6b (by lia),a6b (by lia)]at this;unfold stp lv;have e1:=dH Prod.fst this;have e2:=dH Prod.snd this;exact⟨e1,e2⟩
def fu(m:i9):Nat->Int->Int->List Int
 |0,_,_=>[]
 |d+1,s,t=>fa m d s t::fu m d (stp m s (fa m d s t)).2 (stp m t (fa m d s t)).2
theorem b4n(m:i9):∀(d:Nat) (s t:Int),(fu m d s t).length=d
 |0,_,_=>rfl
 |d+1,s,t=>by show (fu m d _ _).length+1=_;rw[b4n m d]
theorem a3L(hp:∀d,p (d+1)=true->p d=true):∀N:Nat,∃c,(ao N).countP p=c/\c<=N/\(∀d<c,p d=true)/\∀d,c<=d->d<N->p d=false
 |0=>⟨0,rfl,az _,λd h=>absurd h (by lia),λd _ h=>absurd h (by lia)⟩
 |N+1=>by
  obtain⟨c,e,hc,h1,h2⟩:=a3L hp N;rw[gf,List.countP_append,e];by_cases cN:p N=true
  ·have DT:c=N:=by
    rcases cG c N with z|z
    ·have down:∀j i,i+j=N->p i=true:=by
      intro j
      induction j with
      |zero=>intro i e;rw[show i=N by lia];exact cN
      |succ j ih=>intro i e;exact hp i (ih (i+1) (by lia))
     have:=h2 c (az _) z;rw[down (N-c) c (by lia)]at this;cases this
    ·lia
   subst DT;refine⟨c+1,by simp[cN],az _,λd hd=>?_,λd hd kc=>absurd kc (by lia)⟩;rcases cG d c with z|z
   ·exact h1 d z
   ·rw[show d=c by lia];exact cN
  ·refine⟨c,by simp[cN],by lia,h1,λd hd kc=>?_⟩;rcases cG d N with z|z
   ·exact h2 d hd z
   ·rw[show d=N by lia];simpa using cN
def b9R:a9w [.dict kvs]=cz (.int kvs.length):=rfl
def a6c{Z ds:List D}(h:a Z=cz (.list ds))(hi:c9 ds=true):V2 a Z=cz (.tuple ds):=by
 unfold V2;rw[h];exact b2X (by simp only[imm];exact hi)
def b9S{Z:List D}(hk:fk Z=cz k)(he:fe Z=cz e)(hd:Z.getD i .none=.dict kvs)(hK:p7 kt k=true)(hl:kvs.length<1000000)(hs:scal e=true)(hj:Z.getD j .none=.list ds)(gL:i≠j)(qX:ds.length<1000000) :
  a6L j (T6 i kt fk fe) Z=cz (.nx ((Z.set i (.dict (C5 kvs k e))).set j (.list (ds++[(v5 kvs k).getD e])))):=by
 have hx:T6 i kt fk fe Z=cz ((v5 kvs k).getD e,Z.set i (.dict (C5 kvs k e))):=by
  unfold T6;rw[hk];show (fe Z).bind _=_;rw[he];show (match Z.getD i .none with|.dict kvs=>_|_=>_)=_;rw[hd];show (if _ then _ else _)=_;rw[aD (by rw[hK,aY hl,hs];rfl)]
 have Dw:(Z.set i (.dict (C5 kvs k e))).getD j .none=.list ds:=by
  rw[<-hj,ab,ab,bu gL]
 unfold a6L;rw[hx];show (match (Z.set i (.dict (C5 kvs k e))).getD j .none with|.list ds=>_|_=>_)=_;rw[Dw];show (if _ then _ else _)=_;rw[aD qX]
theorem a2I{I:Nat->List D->Prop}{Q:List D->Prop}(B:Nat)(step:∀j Z,I j Z->j<=B/\((c Z=cz false/\Q Z)∨(c Z=cz true/\∃Z',g Z=cz (.nx Z')/\I (j+1) Z'))):∀n j Z,I j Z->B<n+j->∃Z',whL c g n Z=cz (.nx Z')/\Q Z'
 |0,j,Z,h,hn=>absurd (step j Z h).1 (by lia)
 |n+1,j,Z,h,hn=>by
  rcases (step j Z h).2 with⟨e,q⟩|⟨e,Z',e2,h2⟩
  ·refine⟨Z,?_,q⟩;show (c Z).bind _=_;rw[e];rfl
  ·obtain⟨Z2,e3,q⟩:=a2I B step n (j+1) Z' h2 (by lia);refine⟨Z2,?_,q⟩;show (c Z).bind _=_;rw[e];show (g Z).bind _=_;rw[e2];exact e3
def b9T{Z:List D}:sWh (λ_=>n) c g Z=whL c g n Z:=rfl
def c3k{Z ds:List D}(h:a Z=cz (.list ds)):iRv a Z=cz ds.reverse:=by
 unfold iRv;rw[h];rfl
def b4o(p q:Int×Int):aH (stD p) (stD q)=decide (p=q):=by
 unfold stD;simp only[aH,bQ,a2G];rcases p with⟨a,b⟩
 rcases q with⟨c,d⟩
 by_cases h1:a=c<;>by_cases h2:b=d<;>simp[h1,h2]
theorem a9V:∀xs ys:Ky,bQ (xs.map stD) (ys.map stD)=decide (xs=ys)
 |[],[]=>by simp[bQ]
 |[],_::_=>by simp[bQ]
 |_::_,[]=>by simp[bQ]
 |x::xs,y::ys=>by
  simp only[ay,bQ,b4o,a9V xs ys,gk];by_cases h1:x=y<;>by_cases h2:xs=ys<;>simp[h1,h2]
def b9U:dEq (stD p) (stD q)=cz (.bool (decide (p=q))):=by
 rw[b7J (b3Y p) (b3Y q) (cV (a7p p) (by decide)),b4o]
def Q4(x:Ky):D:=.tuple (x.map stD)
def a7u(x y:Ky):aH (Q4 x) (Q4 y)=decide (x=y):=by
 unfold Q4;simp only[aH];exact a9V x y
theorem a3M:∀x:Ky,o6 (x.map stD)=true
 |[]=>rfl
 |p::x=>by
  show (B7 (stD p)&&o6 (x.map stD))=true;rw[a3M x];rfl
def b1L(x:Ky):p7 true (Q4 x)=true:=by
 have h1:B7 (Q4 x)=true:=a3M x;have h2:(Q4 x).depth<=7:=by
  unfold Q4;simp only[eX];have:=Y7 stD 1 a7p x;lia
 unfold p7;rw[h1,aY h2];rfl
def dz:List Ky->Nat->List (D×D)
 |[],_=>[]
 |x::xs,i=>(Q4 x,.int i)::dz xs (i+1)
theorem a8O:∀(s:List Ky) (i:Nat),(dz s i).length=s.length
 |[],_=>rfl
 |x::s,i=>by show (dz s (i+1)).length+1=_;rw[a8O s];rfl
theorem a9W:∀(s:List Ky) (x:Ky) (i:Nat),dz (s++[x]) i=dz s i++[(Q4 x,.int ((i+s.length:Nat):Int))]
 |[],x,i=>rfl
 |y::s,x,i=>by
  show (Q4 y,aO i)::dz (s++[x]) (i+1)=_;rw[a9W s x (i+1)];show _=(Q4 y,aO i)::(dz s (i+1)++_);rw[aS,gn,jC 1]
theorem a9X:∀(s:List Ky) (x:Ky) (i:Nat),K5 (dz s i) (Q4 x)=decide (x∈s)
 |[],x,i=>by simp[K5,dz]
 |y::s,x,i=>by
  have ih:=a9X s x (i+1);unfold K5 at ih ⊢;show (aH (Q4 y) (Q4 x)||(dz s (i+1)).any _)=_;rw[ih,a7u];by_cases h:y=x
  ·simp[h]
  ·have:¬ x=y:=λe=>h e.symm
   simp[h,this]
theorem a9Y:∀(s:List Ky) (x:Ky) (i:Nat),v5 (dz s i) (Q4 x)=if x∈s then cz (.int ((i+s.idxOf x:Nat):Int)) else xn
 |[],x,i=>by simp[v5,dz]
 |y::s,x,i=>by
  have ih:=a9Y s x (i+1);unfold v5 at ih ⊢;show (List.find? _ ((Q4 y,aO i)::dz s (i+1))).map _=_;rw[jr,a7u];by_cases h:y=x
  ·subst h;simp
  ·have h':¬ x=y:=λe=>h e.symm
   rw[br h];show zW _ (List.find? _ (dz s (i+1)))=_;rw[ih];have e:(y::s).idxOf x=s.idxOf x+1:=by
    rw[List.idxOf_cons,beq_false_of_ne h];rfl
   rw[e,gn,jC 1];by_cases c:x∈s
   ·rw[aD c,aD (aw _ c)]
   ·rw[aM c,aM (by simp[h',c])]
def b6Y(s:List Ky)(x:Ky):C5 (dz s 0) (Q4 x) (.int (s.length:Nat))=dz (a4l s x) 0:=by
 unfold C5;rw[a9X];by_cases c:x∈s
 ·rw[aY c,aD rfl,G6 c]
 ·rw[br c,aM (by decide),E6 c,a9W,ir]
def b6Z(s:List Ky)(x:Ky):(v5 (dz s 0) (Q4 x)).getD (.int (s.length:Nat))=.int (((a4l s x).idxOf x:Nat):Int):=by
 rw[a9Y];by_cases c:x∈s
 ·rw[aD c,G6 c,ir];rfl
 ·rw[aM c,E6 c,kh,aM c];simp
theorem a1G:∀(r:List Int) (i:Int),P7 i r∈i::r/\∀x∈i::r,x<=P7 i r
 |[],i=>⟨by simp[P7],λx hx=>by simp at hx;rw[hx];exact wG _⟩
 |y::r,i=>by
  have e:P7 i (y::r)=P7 (if y>i then y else i) r:=rfl;rw[e];by_cases c:y>i
  ·rw[aD c];obtain⟨h1,h2⟩:=a1G r y;refine⟨aw _ h1,λx hx=>?_⟩;rcases aI.mp hx with z|z
   ·have:=h2 y (by simp);lia
   ·exact h2 x z
  ·rw[aM c];obtain⟨h1,h2⟩:=a1G r i;refine⟨?_,λx hx=>?_⟩
   ·rcases aI.mp h1 with z|z
    ·rw[z];simp
    ·exact aw _ (aw _ z)
   ·rcases aI.mp hx with z|z
    ·rw[z];exact h2 i (by simp)
    ·rcases aI.mp z with y'|y'
     ·have:=h2 i (by simp);lia
     ·exact h2 x (aw _ y')
def b4p{ns:List Int}(h1:n∈ns)(h2:∀x∈ns,x<=n):Z8 [.list (ns.map .int)]=cz (.int n):=by
 show (intsOf (ns.map aO)).bind _=_;rw[a0m];cases ns with
 |nil=>cases h1
 |cons i r=>
  obtain⟨g1,g2⟩:=a1G r i;have a:=h2 _ g1;have b:=g2 _ h1;show cz (aO (P7 i r))=_;rw[show P7 i r=n by lia]
def b7a(h:ks≠[]):Z8 [.list ((a1E ks).map .int)]=cz (.int ((ded ks).length-1)):=by
 obtain⟨x,hx,e⟩:=a9R h;refine b4p ?_ λy hy=>?_
 ·exact aJ.mpr ⟨x,hx,by lia⟩
 ·obtain⟨z,hz,rfl⟩:=aJ.mp hy;have:=cu.mpr (T0.mpr hz);lia
def a9Z(w:WF m k):∀d,Z8 [.list ((lvl m d).map .int)]=cz (.int (cls m d-1))
 |0=>by
  have hm:m≠[]:=λe=>by have:=w.pos;rw[e]at this;exact absurd this (by decide)
  have hc:cls m 0=1:=by
   have h1:=a0Y w 0;unfold cls at h1 ⊢;have:∀l:i9,(ded (l.map (kf m 0))).length<=1:=by
    intro l
    induction l using snoc_ind with
    |h0=>simp[ded]
    |h1 l x ih=>
     rw[aK,cA,J6];by_cases c:kf m 0 x∈ded (l.map (kf m 0))
     ·rw[G6 c];exact ih
     ·have:l=[]:=by
       cases l with
       |nil=>rfl
       |cons y l=>exact absurd (T0.mpr (aJ.mpr ⟨y,by simp,rfl⟩)) c
      subst this;simp[a4l,ded]
   have:=this m;lia
  rw[hc];refine b4p ?_ λy hy=>?_
  ·cases m with
   |nil=>exact absurd rfl hm
   |cons r m=>exact aJ.mpr ⟨r,by simp,rfl⟩
  ·obtain⟨z,_,rfl⟩:=aJ.mp hy
   decide
 |d+1=>by
  have hm:m≠[]:=λe=>by have:=w.pos;rw[e]at this;exact absurd this (by decide)
  exact b7a (ks:=m.map λr=>rn r (lvl m d)) λe=>hm (xF.mp e)
def v_count{bs:List Bool}:a3i (.list (bs.map .bool)) (.bool true)=cz (.int (bs.countP id)):=by
 have h1:ba (bs.map cX)=true:=a5R _ (λx=>by simp only[dI]) bs;show (if (ba (bs.map cX)&&(cX true).canLay0&&decide ((cX true).depth<=60))=true then cz (aO ((bs.map cX).countP λd=>aH d (.bool true))) else xn)=_;rw[h1,aD (by simp[dI,eX])];rw[Gb]
 congr 3
 congr 1
 funext b
 cases b<;>rfl
theorem a4X(p:α->Bool)(f:α->D):∀{xs:List α},(∀x∈xs,∃bs,pt (enc x)=cz bs/\t (bs++cs)=cz (p x)/\(p x=true->g (bs++cs)=cz (f x)))->N5 pt t g cs (xs.map enc)=cz ((xs.filter p).map f)
 |[],_=>rfl
 |x::xs,h=>by
  obtain⟨bs,h1,h2,h3⟩:=h x aL;have ih:=a4X p f (xs:=xs) λe he=>h e (aw _ he)
  show (pt (enc x)).bind _=_;rw[h1];show (t (bs++cs)).bind _=_;rw[h2];cases c:p x with
  |true=>
   rw[List.filter_cons_of_pos c];show (g (bs++cs)).bind _=_;rw[h3 c];show (N5 pt t g cs (xs.map enc)).bind _=_;rw[ih];rfl
  |false=>
   rw[List.filter_cons_of_neg (by rw[c];decide)];exact ih
def b7b{js:List Nat}{Z:List D}(p:Nat->Bool)(f:Nat->D)(hf:fi Z=cz (j6 0 n))(hl:n<=1000000)(h:∀k:Nat,k<n->t (.int k::js.map λj=>Z.getD j .none)=cz (p k)/\(p k=true->g (.int k::js.map λj=>Z.getD j .none)=cz (f k))) :
  l6 fi js pt1 t g Z=cz (.list (((ao n).filter p).map f)):=by
 unfold l6;rw[hf];show (if (j6 0 n).length<=1000000 then _ else xn)=_;rw[aD (by rw[a3e];exact hl),a1w,a4X (enc:=λ(k:Nat)=>aO k) p f]
 ·rfl
 ·intro x hx;have:=h x (bw.mp hx);exact⟨[.int x],rfl,this.1,this.2⟩
def b4q{ns:List Int}:lIs (cz (.list (ns.map .int)))=cz (.list (ns.map .int)):=a9I (l8 _ (λ_=>R8) ns)
def T2(ks:List Int)(n k:Nat)(b r:Ky):Prop:=r.length=k/\∀a:Nat,a<k->(r.getD a (0,0)).1=(b.getD a (0,0)).1/\0<=(r.getD a (0,0)).2/\(r.getD a (0,0)).2<(n:Int)/\ks.getD (r.getD a (0,0)).2.toNat 0=(b.getD a (0,0)).2
def a0Z{α:Type}{l:List α}{x d:α}{i:Nat}(h:i<l.length):(l++[x]).getD i d=l.getD i d:=by
 rw[ab,ab,dA h]
def a1a{α:Type}{l:List α}{x d:α}:(l++[x]).getD l.length d=x:=by
 rw[ab,cF (az _),jz];rfl
def b1M{l:Ky}(h:i<l.length):l.getD i (0,0)∈l:=by
 rw[ab,ae h];exact bW _
def b1N{l:List Int}(h:i<l.length):l.getD i 0∈l:=by
 rw[ab,ae h];exact bW _
theorem a4Y(f:α->D):∀{xs:List α},(∀x∈xs,∃bs,pt (enc x)=cz bs/\g (bs++cs)=cz (f x))->N5 pt tT g cs (xs.map enc)=cz (xs.map f)
 |[],_=>rfl
 |x::xs,h=>by
  obtain⟨bs,h1,h2⟩:=h x aL;have ih:=a4Y f (xs:=xs) λe he=>h e (aw _ he)
  show (pt (enc x)).bind _=_;rw[h1];show (g (bs++cs)).bind _=_;rw[h2];show (N5 pt tT g cs (xs.map enc)).bind _=_;rw[ih];rfl
def N9{js:List Nat}{Z:List D}{xs:List α}(f:α->D)(hf:fi Z=cz (xs.map enc))(hl:xs.length<=1000000)(h:∀x∈xs,∃bs,pt (enc x)=cz bs/\g (bs++js.map λj=>Z.getD j .none)=cz (f x)) :
  l6 fi js pt tT g Z=cz (.list (xs.map f)):=by
 unfold l6;rw[hf];show (if (xs.map enc).length<=1000000 then _ else xn)=_;rw[aD (by rw[ai];exact hl),a4Y f h];rfl
theorem a2m:∀(ls:List Int) (k:Nat),F5 (ls.map .int) k=(ao ls.length).map λ(s:Nat)=>cy [.int ((k+s:Nat):Int),.int (ls.getD s 0)]
 |[],_=>rfl
 |n::ls,k=>by
  show cy [.int k,.int n]::F5 (ls.map .int) (k+1)=_;rw[a2m ls (k+1),aS,tM,ay,bF]
  congr 1;refine bA λs _=>?_
  show cy [.int ((k+1+s:Nat):Int),.int (ls.getD s 0)]=.tuple [.int ((k+(s+1):Nat):Int),.int ((n::ls).getD (s+1) 0)];rw[dQ,gn,jC 1]
def b9V{Z ds:List D}(h:a Z=cz (.list ds)):iEn a Z=cz (F5 ds 0):=by
 unfold iEn;rw[h];rfl
def c1P{Z:List D}(hk:fk Z=cz k)(he:fe Z=cz e)(hd:Z.getD i .none=.dict kvs)(hK:p7 kt k=true)(hl:kvs.length<1000000)(hs:scal e=true) :
  b3f (T6 i kt fk fe) Z=cz (.nx (Z.set i (.dict (C5 kvs k e)))):=by
 have hx:T6 i kt fk fe Z=cz ((v5 kvs k).getD e,Z.set i (.dict (C5 kvs k e))):=by
  unfold T6;rw[hk];show (fe Z).bind _=_;rw[he];show (match Z.getD i .none with|.dict kvs=>_|_=>_)=_;rw[hd];show (if _ then _ else _)=_;rw[aD (by rw[hK,aY hl,hs];rfl)]
 unfold b3f;rw[hx];rfl
section
variable {β α:Type}[DecidableEq β]
def dd1(W:List (β×α))(c:β×α):List (β×α):=if c.1∈W.map (·.1) then W else W++[c]
def dd(W C:List (β×α)):List (β×α):=C.foldl dd1 W
variable {W C C':List (β×α)}{c:β×α}{t:β}
def O9(h:c.1∈W.map (·.1)):dd1 W c=W:=aD h
def G7(h:c.1∉W.map (·.1)):dd1 W c=W++[c]:=aM h
def b4r:dd W (C++C')=dd (dd W C) C':=by unfold dd;rw[ki]
def O0:dd W (C++[c])=dd1 (dd W C) c:=by rw[b4r];rfl
def a3N(W C:List (β×α)):∃E,dd W C=W++E:=by
 induction C using snoc_ind with
 |h0=>exact⟨[],(bb _).symm⟩
 |h1 C c ih=>
  obtain⟨E,e⟩:=ih;rw[O0];by_cases h:c.1∈(dd W C).map (·.1)
  ·rw[O9 h];exact⟨E,e⟩
  ·rw[G7 h,e];exact⟨E++[c],aP ..⟩
def a3O(h:(W.map (·.1)).Nodup)(C:List (β×α)):((dd W C).map (·.1)).Nodup:=by
 induction C using snoc_ind with
 |h0=>exact h
 |h1 C c ih=>
  rw[O0];by_cases h:c.1∈(dd W C).map (·.1)
  ·rw[O9 h];exact ih
  ·rw[G7 h,aK,bC];refine⟨ih,by simp,λx hx y hy e=>h ?_⟩;rw[cA,aq]at hy;rw[<-hy,<-e];exact hx
def X0(W C:List (β×α)):(dd W C).Sublist (W++C):=by
 induction C using snoc_ind with
 |h0=>rw[bb];exact gy _
 |h1 C c ih=>
  rw[O0,<-aP];by_cases h:c.1∈(dd W C).map (·.1)
  ·rw[O9 h];exact ih.trans (kB _ _)
  ·rw[G7 h];exact ih.append (gy _)
def a8P(W C:List (β×α)):(dd W C).length<=W.length+C.length:=by
 have:=(X0 W C).length_le
 rwa[aA]at this
def b4s{R:α->α->Prop}(hR:(W++C).Pairwise λa b=>R a.2 b.2):∀e∈W++C,∃v,(e.1,v)∈dd W C/\(v=e.2∨R v e.2):=by
 induction C using snoc_ind with
 |h0=>
  intro e he;rw[bb]at he;exact⟨e.2,he,.inl rfl⟩
 |h1 C c ih=>
  intro e he;rw[<-aP]at hR he;obtain⟨h1,h2,h3⟩:=dM.mp hR;rw[O0];rcases ar.mp he with z|z
  ·obtain⟨v,hv,r⟩:=ih h1 e z;refine⟨v,?_,r⟩;by_cases h:c.1∈(dd W C).map (·.1)
   ·rw[O9 h];exact hv
   ·rw[G7 h];exact ak _ hv
  ·rw[aq.mp z];by_cases h:c.1∈(dd W C).map (·.1)
   ·rw[O9 h];obtain⟨x,hx,ex⟩:=aJ.mp h;refine⟨x.2,by rw[<-ex];exact hx,.inr (h3 x ((X0 W C).subset hx) c (by simp))⟩
   ·rw[G7 h];exact⟨c.2,by simp,.inl rfl⟩
end
def nodup_range{n:Nat}:∀{l:List Int},l.Nodup->(∀x∈l,0<=x/\x<(n:Int))->l.length<=n:=by
 induction n with
 |zero=>
  intro l _ h;cases l with
  |nil=>exact az _
  |cons x l=>have:=h x (by simp);lia
 |succ n ih=>
  intro l hd h;have h1:=ih (l:=l.erase (n:Int)) (hd.erase _) λx hx=>by
   have h2:=(List.Nodup.mem_erase_iff hd).mp hx;have:=h x h2.2;have:=h2.1;lia
  have h2:=List.length_erase (a:=(n:Int)) (l:=l);by_cases c:(n:Int)∈l
  ·rw[aD c]at h2;lia
  ·rw[aM c]at h2;lia
def wl:List Int->List Int->Prop
 |a::p,b::q=>a<b∨(a=b/\wl p q)
 |_,_=>False
def bf(p q:List Int):Prop:=p.length<q.length∨(p.length=q.length/\wl p q)
theorem b4t:∀{p q:List Int} (x y:List Int),wl p q->wl (p++x) (q++y)
 |[],_,_,_,h=>h.elim
 |_::_,[],_,_,h=>h.elim
 |a::p,b::q,x,y,h=>by
  rcases h with h|⟨e,h⟩
  ·exact .inl h
  ·exact .inr ⟨e,b4t x y h⟩
theorem b0a:∀(p:List Int) {x y:List Int},wl x y->wl (p++x) (p++y)
 |[],_,_,h=>h
 |a::p,_,_,h=>.inr ⟨rfl,b0a p h⟩
def b0b(a b:Int)(h:bf p q):bf (p++[a]) (q++[b]):=by
 rcases h with h|⟨e,h⟩
 ·exact .inl (by simp;lia)
 ·exact .inr ⟨by simp[e],b4t _ _ h⟩
def b4u(h:a<b):bf (p++[a]) (p++[b]):=.inr ⟨by simp,b0a p (.inl h)⟩
abbrev a0w:=List (Int×List Int)
def a4m(m:i9)(k:Nat)(e:Int×List Int):a0w:=(ao k).map λ(a:Nat)=>((stp m e.1 a).2,e.2++[(a:Int)])
abbrev W0:a0w:=[(0,[])]
abbrev Sor(W:a0w):Prop:=W.Pairwise λa b=>bf a.2 b.2
def b4v(m:i9)(k:Nat)(e:Int×List Int):Sor (a4m m k e):=by
 unfold Sor a4m;rw[BE];exact tN.imp λh=>b4u (by lia)
def b1O(m:i9)(k:Nat){V:a0w}(h:Sor V):Sor (V.flatMap (a4m m k)):=by
 induction V with
 |nil=>exact kl
 |cons e V ih=>
  obtain⟨h1,h2⟩:=hU.mp h;rw[eB];refine dM.mpr ⟨b4v m k e,ih h2,λx hx y hy=>?_⟩;obtain⟨f,hf,hy⟩:=cO.mp hy;obtain⟨a,_,rfl⟩:=aJ.mp hx;obtain⟨b,_,rfl⟩:=aJ.mp hy;exact b0b _ _ (h1 f hf)
def b1P(m:i9)(k:Nat){V:a0w}(h:Sor V):Sor (W0++V.flatMap (a4m m k)):=by
 refine dM.mpr ⟨dJ ..,b1O m k h,λx hx y hy=>?_⟩;rw[aq.mp hx];obtain⟨f,hf,hy⟩:=cO.mp hy;obtain⟨b,_,rfl⟩:=aJ.mp hy;exact .inl (by simp)
structure Met (m:i9) (k:Nat) (dn W:a0w):Prop where
 eq:W=dd W0 (dn.flatMap (a4m m k))
 pre:∃nw,W=dn++nw
 sor:Sor W
 ql:∀e∈W,e.2.length<=dn.length
structure AllMet (m:i9) (k:Nat) (W:a0w):Prop where
 eq:W=dd W0 (W.flatMap (a4m m k))
 sor:Sor W
 range:∀e∈W,0<=e.1/\e.1<(m.length:Int)
 ql:∀e∈W,e.2.length<=W.length
section
variable {m:i9}{k:Nat}{W:a0w}
def AllMet.nodup(h:AllMet m k W):(W.map (·.1)).Nodup:=by rw[h.eq];exact a3O (by simp) _
def AllMet.len(h:AllMet m k W):W.length<=m.length:=by
 have:=nodup_range h.nodup λx hx=>by
  obtain⟨e,he,rfl⟩:=aJ.mp hx;exact h.range e he
 rwa[ai]at this
def AllMet.zero(h:AllMet m k W):(0,[])∈W:=by
 obtain⟨E,hE⟩:=a3N W0 (W.flatMap (a4m m k));rw[h.eq,hE];exact aL
def AllMet.next(h:AllMet m k W){s:Int}{p:List Int}(hs:(s,p)∈W){a:Nat}(ha:a<k):∃q,((stp m s a).2,q)∈W/\(q=p++[(a:Int)]∨bf q (p++[(a:Int)])):=by
 have h1:=b4s (R:=bf) (b1P m k h.sor) ((stp m s a).2,p++[(a:Int)]) (ah _ (cO.mpr ⟨_,hs,aJ.mpr ⟨a,bw.mpr ha,rfl⟩⟩));rw[<-h.eq]at h1;exact h1
def AllMet.leads(h:AllMet m k W):∀(n:Nat) {s:Int} {p:List Int},p.length<=n->(s,p)∈W->(i6 m 0 p).2=s/\∀a∈p,0<=a/\a<(k:Int):=by
 intro n
 induction n with
 |zero=>
  intro s p hn hs;have hp:p=[]:=ie.mp (by lia);subst hp;rw[h.eq]at hs;rcases ar.mp ((X0 _ _).subset hs) with z|z
  ·have:=aq.mp z;cases this
   exact⟨rfl,λa ha=>nomatch ha⟩
  ·obtain⟨e,_,hc⟩:=cO.mp z;obtain⟨a,_,e2⟩:=aJ.mp hc;have:=dH Prod.snd e2;simp at this
 |succ n ih=>
  intro s p hn hs;rw[h.eq]at hs;rcases ar.mp ((X0 _ _).subset hs) with z|z
  ·have:=aq.mp z;cases this
   exact⟨rfl,λa ha=>nomatch ha⟩
  ·obtain⟨⟨t,q⟩,ht,hc⟩:=cO.mp z;obtain⟨a,ha,e2⟩:=aJ.mp hc;cases e2
   obtain⟨i1,i2⟩:=ih (s:=t) (p:=q) (by simp at hn;lia) ht;refine⟨by rw[a0s,i1],λb hb=>?_⟩;rcases ar.mp hb with z|z
   ·exact i2 b z
   ·rw[aq.mp z];have:=bw.mp ha;lia
end
section
variable {α:Type}
def kvD(enc:α->D)(W:List (Int×α)):List (D×D):=W.map λe=>(aO e.1,enc e.2)
variable {enc:α->D}{W:List (Int×α)}{t:Int}{x:α}
def b0c:(kvD enc W).length=W.length:=ai ..
def b0d{V:List (Int×α)}:kvD enc (W++V)=kvD enc W++kvD enc V:=aK ..
def a6d:K5 (kvD enc W) (.int t)=decide (t∈W.map (·.1)):=by
 induction W with
 |nil=>rfl
 |cons e W ih=>
  show (aH (.int e.1) (.int t)||K5 (kvD enc W) (.int t))=_;rw[a2G,ih];by_cases h1:e.1=t
  ·simp[h1]
  ·have h2:t≠e.1:=λz=>h1 z.symm
   simp[h1,h2]
def b0e(hn:(W.map (·.1)).Nodup)(h:(t,x)∈W):v5 (kvD enc W) (.int t)=cz (enc x):=by
 induction W with
 |nil=>cases h
 |cons e W ih=>
  rw[ay,bZ]at hn;unfold v5 kvD;rw[ay,jr];show zW _ (match aH (.int e.1) (.int t) with|true=>_|false=>_)=_;rw[a2G];rcases aI.mp h with z|z
  ·rw[<-z,aY rfl];rfl
  ·have h1:e.1≠t:=λq=>hn.1 (by rw[q];exact aJ.mpr ⟨_,z,rfl⟩)
   rw[br h1];exact ih hn.2 z
def a8Q(h:t∉W.map (·.1)):v5 (kvD enc W) (.int t)=xn:=by
 refine Y2 ?_;rw[a6d,br h]
def b4w(h:t∉W.map (·.1)):K2 (kvD enc W) (.int t) (enc x)=kvD enc (W++[(t,x)]):=by
 unfold K2;rw[a6d,br h,b0d];rfl
def b7c:C5 (kvD enc W) (.int t) (enc x)=kvD enc (dd1 W (t,x)):=by
 unfold C5;rw[a6d];by_cases h:t∈W.map (·.1)
 ·rw[aY h,O9 (c:=(t,x)) h];rfl
 ·rw[br h,G7 (c:=(t,x)) h,b0d];rfl
def dKey_i{t:Int}:p7 false (.int t)=true:=rfl
def b0f:(kvD enc W).all (λp=>p7 false p.1)=true:=by
 unfold kvD;rw[List.all_map,eM];exact λe _=>dKey_i
def b9W:(kvD enc W).map (·.1)=(W.map (·.1)).map aO:=by unfold kvD;rw[bF,bF];rfl
def b4x:(kvD enc W).map (·.2)=(W.map (·.2)).map enc:=by unfold kvD;rw[bF,bF];rfl
def b7d(hn:(W.map (·.1)).Nodup)(h:(t,x)∈W):a3h false (.dict (kvD enc W)) (.int t)=cz (enc x):=by
 show (if p7 false (.int t) then cz ((v5 (kvD enc W) (.int t)).getD .none) else xn)=_;rw[dKey_i,b0e hn h];rfl
def a8R(h:t∉W.map (·.1)):a3h false (.dict (kvD enc W)) (.int t)=cz .none:=by
 show (if p7 false (.int t) then cz ((v5 (kvD enc W) (.int t)).getD .none) else xn)=_;rw[dKey_i,a8Q h];rfl
end
def a8S{Z:List D}(hv:fv Z=cz d)(hk:fk Z=cz k)(hd:Z.getD i .none=.dict kvs)(hK:p7 kt k=true)(hl:kvs.length<1000000) :
  E7 i kt fk fv Z=cz (.nx (Z.set i (.dict (K2 kvs k d)))):=by
 unfold E7;rw[hv];show (fk Z).bind _=_;rw[hk];show (match Z.getD i .none with|.dict kvs=>_|_=>_)=_;rw[hd];show (if _ then _ else _)=_;rw[aD (by rw[hK,aY hl];rfl)]
def c3l{Z:List D}(hk:fk Z=cz k)(hv:fv Z=cz d)(hK:p7 kt k=true):eD1 kt fk fv Z=cz (.dict [(k,d)]):=by
 unfold eD1;rw[hk];show (fv Z).bind _=_;rw[hv];show (if _ then _ else _)=_;rw[hK];rfl
def b7e{α:Type}{enc:α->D}{W:List (Int×α)}{Z:List D}(h:a Z=cz (.dict (kvD enc W))):a5J a Z=cz (.list ((W.map (·.1)).map .int)):=by
 unfold a5J;rw[h];show (if _ then _ else _)=_;rw[aD b0f,b9W]
def b7f{Z:List D}(h:a Z=cz (.dict (kvD aO W))):a5K a Z=cz (.list ((W.map (·.2)).map .int)):=by
 unfold a5K;rw[h];show (if _ then _ else _)=_;rw[aD (by rw[b0f,b4x,l8 _ (λ_=>R8)];rfl),b4x]
section
variable {β:Type}[DecidableEq β]
abbrev O1(β:Type):=List (β×List Int)
def N2(nx:β->Nat->β)(k:Nat)(e:β×List Int):O1 β:=(ao k).map λ(a:Nat)=>(nx e.1 a,e.2++[(a:Int)])
abbrev WB(s:β):O1 β:=[(s,[])]
abbrev a6e(W:O1 β):Prop:=W.Pairwise λa b=>bf a.2 b.2
variable {nx:β->Nat->β}{k:Nat}{s:β}
def b1Q(e:β×List Int):a6e (N2 nx k e):=by
 unfold a6e N2;rw[BE];exact tN.imp λh=>b4u (by lia)
def a8T{V:O1 β}(h:a6e V):a6e (V.flatMap (N2 nx k)):=by
 induction V with
 |nil=>exact kl
 |cons e V ih=>
  obtain⟨h1,h2⟩:=hU.mp h;rw[eB];refine dM.mpr ⟨b1Q e,ih h2,λx hx y hy=>?_⟩;obtain⟨f,hf,hy⟩:=cO.mp hy;obtain⟨a,_,rfl⟩:=aJ.mp hx;obtain⟨b,_,rfl⟩:=aJ.mp hy;exact b0b _ _ (h1 f hf)
def a8U{V:O1 β}(h:a6e V):a6e (WB s++V.flatMap (N2 nx k)):=by
 refine dM.mpr ⟨dJ ..,a8T h,λx hx y hy=>?_⟩;rw[aq.mp hx];obtain⟨f,hf,hy⟩:=cO.mp hy;obtain⟨b,_,rfl⟩:=aJ.mp hy;exact .inl (by simp)
structure MetB (nx:β->Nat->β) (k:Nat) (s:β) (P:β->Prop) (dn W:O1 β):Prop where
 eq:W=dd (WB s) (dn.flatMap (N2 nx k))
 pre:∃nw,W=dn++nw
 sor:a6e W
 ql:∀e∈W,e.2.length<=dn.length
 ok:∀e∈W,P e.1
def c1Q(h:P s):MetB nx k s P [] (WB s):=⟨rfl,⟨WB s,rfl⟩,dJ ..,λe he=>by rw[aq.mp he];exact az _,λe he=>by rw[aq.mp he];exact h⟩
def MetB.nodup{P:β->Prop}{dn W:O1 β}(h:MetB nx k s P dn W):(W.map (·.1)).Nodup:=by rw[h.eq];exact a3O (by simp) _
def MetB.qlen(h:MetB nx k s P dn W)(he:e∈W):e.2.length<=W.length:=by
 have:=h.ql e he;obtain⟨nw,hn⟩:=h.pre;rw[hn,aA];lia
def MetB.step(hP:∀b a,P b->a<k->P (nx b a))(h:MetB nx k s P dn W)(hp:W=dn++e::nw):MetB nx k s P (dn++[e]) (dd W (N2 nx k e)):=by
 have hd:a6e (dn++[e]):=by
  have h1:=h.sor;rw[hp]at h1;exact h1.sublist (mB (gy _) (by simp))
 have he:dd W (N2 nx k e)=dd (WB s) ((dn++[e]).flatMap (N2 nx k)):=by
  rw[dG,eB,gJ,bb,b4r,<-h.eq]
 refine⟨he,?_,?_,λf hf=>?_,λf hf=>?_⟩
 ·obtain⟨E,hE⟩:=a3N W (N2 nx k e);exact⟨nw++E,by rw[hE,hp];simp⟩
 ·rw[he];exact (a8U hd).sublist (X0 _ _)
 ·rw[aA,bS];rcases ar.mp ((X0 _ _).subset hf) with z|z
  ·have:=h.ql f z;lia
  ·obtain⟨a,_,rfl⟩:=aJ.mp z;have:=h.ql e (by rw[hp];simp);simp;lia
 ·rcases ar.mp ((X0 _ _).subset hf) with z|z
  ·exact h.ok f z
  ·obtain⟨a,ha,rfl⟩:=aJ.mp z;exact hP e.1 a (h.ok e (by rw[hp];simp)) (bw.mp ha)
structure AllB (nx:β->Nat->β) (k:Nat) (s:β) (P:β->Prop) (W:O1 β):Prop where
 eq:W=dd (WB s) (W.flatMap (N2 nx k))
 sor:a6e W
 ql:∀e∈W,e.2.length<=W.length
 ok:∀e∈W,P e.1
def MetB.all(h:MetB nx k s P W W):AllB nx k s P W:=⟨h.eq,h.sor,λe he=>h.ql e he,h.ok⟩
end
section
variable {β α:Type}[DecidableEq β]
def kvB(key:β->D)(enc:α->D)(W:List (β×α)):List (D×D):=W.map λe=>(key e.1,enc e.2)
structure KeyB (kt:Bool) (key:β->D):Prop where
 eqv:∀a b,aH (key a) (key b)=decide (a=b)
 ok:∀a,p7 kt (key a)=true
 im:∀a,imm (key a)=true
variable {key:β->D}{enc:α->D}{W:List (β×α)}{t:β}{x:α}{kt:Bool}
def b7g:(kvB key enc W).length=W.length:=ai ..
def b7h{V:List (β×α)}:kvB key enc (W++V)=kvB key enc W++kvB key enc V:=aK ..
def a7v(K:KeyB kt key):K5 (kvB key enc W) (key t)=decide (t∈W.map (·.1)):=by
 induction W with
 |nil=>rfl
 |cons e W ih=>
  show (aH (key e.1) (key t)||K5 (kvB key enc W) (key t))=_;rw[K.eqv,ih];by_cases h1:e.1=t
  ·simp[h1]
  ·have h2:t≠e.1:=λz=>h1 z.symm
   simp[h1,h2]
def b4y(K:KeyB kt key)(hn:(W.map (·.1)).Nodup)(h:(t,x)∈W):v5 (kvB key enc W) (key t)=cz (enc x):=by
 induction W with
 |nil=>cases h
 |cons e W ih=>
  rw[ay,bZ]at hn;unfold v5 kvB;rw[ay,jr];show zW _ (match aH (key e.1) (key t) with|true=>_|false=>_)=_;rw[K.eqv];rcases aI.mp h with z|z
  ·rw[<-z,aY rfl];rfl
  ·have h1:e.1≠t:=λq=>hn.1 (by rw[q];exact aJ.mpr ⟨_,z,rfl⟩)
   rw[br h1];exact ih hn.2 z
def b1R(K:KeyB kt key)(h:t∉W.map (·.1)):K2 (kvB key enc W) (key t) (enc x)=kvB key enc (W++[(t,x)]):=by
 unfold K2;rw[a7v K,br h,b7h];rfl
def b4z(K:KeyB kt key):dIn neg kt (key t) (.dict (kvB key enc W))=cz (.bool (neg !=decide (t∈W.map (·.1)))):=by
 show (if p7 kt (key t) then cz (cX (neg !=K5 (kvB key enc W) (key t))) else xn)=_;rw[K.ok,a7v K];rfl
def b9X(K:KeyB kt key)(hn:(W.map (·.1)).Nodup)(h:(t,x)∈W):a5F kt (.dict (kvB key enc W)) (key t)=cz (enc x):=by
 show (if p7 kt (key t) then v5 (kvB key enc W) (key t) else xn)=_;rw[K.ok,b4y K hn h];rfl
end
def b4A{β α:Type}[DecidableEq β]{W:List (β×α)}{c:β×α}(h:L<=W.length):((dd1 W c).drop L).map (·.1)=if c.1∈W.map (·.1) then (W.drop L).map (·.1) else (W.drop L).map (·.1)++[c.1]:=by
 by_cases hc:c.1∈W.map (·.1)
 ·rw[O9 hc,aD hc]
 ·rw[G7 hc,aM hc,oN h,aK,cA]
def b4B[DecidableEq β](W C:List (β×α)):W.length<=(dd W C).length:=by
 obtain⟨E,e⟩:=a3N W C;rw[e,aA];lia
def b7i[DecidableEq β](C:List (β×α))(h:e∈W):e∈dd W C:=by
 obtain⟨E,q⟩:=a3N W C;rw[q];exact ak _ h
def c1R(h:argsOk us ds=true):fnL us n g gm ds=Z3 (g gm (ds++(.none::aG n .none))):=by
 unfold fnL;rw[aD h];cases g gm (ds++(.none::aG n .none)) with
 |none=>rfl
 |some o=>cases o<;>rfl
def c1S{Z ds:List D}(h:f Z=cz ds):b6K m us js fb f Z=m (fnE us (js.map λj=>Z.getD j .none) fb) ds:=by
 unfold b6K;rw[h];rfl
def c1T(h:argsOk us ds=true):fnE us qI f ds=f (ds++qI):=aD h
abbrev PW:=List ((Int×Int)×List Int)
def atI_nums{ns:List Int}{j:Int}(a:0<=j)(b:j<ns.length):L2.atI (ns.map aO) j=cz (.int (ns.getD j.toNat 0)):=by
 rw[V9 a (by rw[ai];exact b),cY];rw[ab,ae (by lia)];rfl
def a2x:Option (List Int)->D
 |none=>.none
 |some q=>.list (q.map .int)
def c1U:fnO n g [d0,dl]=Z3 (g (d0::dl::aG n .none)):=by
 show (g (d0::dl::aG n .none)).bind _=_;cases g (d0::dl::aG n .none) with
 |none=>rfl
 |some o=>cases o<;>rfl
end VS
namespace Prog
open PySem L2 VS
def P0{ls:List Int}(hn:∀p∈r,0<=p.2/\p.2<(ls.length:Int))(hl:r.length<=1000):j5 [rwD r,iD ls]=cz (rwD (rn r ls)):=by
 unfold j5;rw[D6 (by simp[VS.argsOk])];unfold S9;rw[a9u,a3A (ds:=r.map stD) (λd=>match d with|.tuple [.int a,.int b]=>stD (a,ls.getD b.toNat 0)|_=>.none)]
 ·rw[bF];show cz (cU (r.map _))=_;unfold rwD rn;rw[bF];rfl
 ·exact a1u (by unfold rwD;walk_at "ev") (l8 _ (λ_=>a1y) r)
 ·rw[ai];lia
 ·intro d hd;obtain⟨p,hp,rfl⟩:=aJ.mp hd;have:=hn p hp;refine⟨[.int p.1,.int p.2],rfl,?_⟩;show O7 _ [.int p.1,.int p.2,.list (ls.map .int)]=cz (stD (p.1,ls.getD p.2.toNat 0));walk_at "ev";rw[C0 this.1 this.2];walk_at "ev";rfl
def b4C{m:i9}{ls:List Int}(hn:∀r∈m,∀p∈r,0<=p.2/\p.2<(ls.length:Int))(hl:∀r∈m,r.length<=1000)(hm:m.length<=1000):u8 [.list (m.map rwD),iD ls]=cz (iD (a1E (m.map λr=>rn r ls))):=by
 unfold u8;rw[D6 (by simp[VS.argsOk])];unfold a0b;walk_at "ev";refine K8 (λZ=>∃x y z,Z=[.list (m.map rwD),iD ls,x,iD (a1E (m.map λr=>rn r ls)),y,z]) ?_ ?_
 ·obtain⟨Z',h1,x,y,rfl⟩:=u6 (enc:=rwD) (set:=o8 4) (xs:=m) (g:=e7 (g9 5 (V2 (eCl j5 (a7 (a6 4) (a7 (a6 1) b8))))) (a6L 3 (T6 2 true (a6 5) (eCl a9w (a7 (a6 2) b8)))))
   (Z:=[.list (m.map rwD),iD ls,.dict [],.list [],.none,.none])
   (λpre Z=>∃x y,Z=[.list (m.map rwD),iD ls,.dict (dz (ded (pre.map λr=>rn r ls)) 0),iD (a1E (pre.map λr=>rn r ls)),x,y])
   ⟨.none,.none,rfl⟩ (by
    rintro pre r post e Z ⟨x,y,rfl⟩;have hr:r∈m:=by rw[e];simp
    have hlen:pre.length<m.length:=by rw[e];simp
    have hd:=a9Q (pre.map λr=>rn r ls);rw[ai]at hd;refine⟨_,[.list (m.map rwD),iD ls,.dict (dz (ded ((pre++[r]).map λr=>rn r ls)) 0),iD (a1E ((pre++[r]).map λr=>rn r ls)),rwD r,Q4 (rn r ls)],rfl,?_,_,_,rfl⟩;walk_at "ev";rw[a6c (ds:=(rn r ls).map stD) (by walk_at "ev";exact P0 (hn r hr) (hl r hr)) (l8 _ (λ_=>a1y) _)];walk_at "ev";rw[b9S (k:=Q4 (rn r ls)) (e:=.int ((ded (pre.map λr=>rn r ls)).length:Nat)) (kvs:=dz (ded (pre.map λr=>rn r ls)) 0) (ds:=(a1E (pre.map λr=>rn r ls)).map .int) (by rfl) (by walk_at "ev";rw[b9R,a8O]) (by rfl) (b1L _) (by rw[a8O];lia) (by rfl) (by rfl) (by decide) (by rw[ai,a7t,ai];lia)];rw[b6Y,b6Z,aK,cA,J6];have sV:a1E ((pre.map λr=>rn r ls)++[rn r ls])=a1E (pre.map λr=>rn r ls)++[(((a4l (ded (pre.map λr=>rn r ls)) (rn r ls)).idxOf (rn r ls):Nat):Int)]:=by
     unfold a1E;rw[aK,cA,J6]
     congr 1;refine bA λy hy=>?_
     rw[b4k (T0.mpr hy)]
    rw[sV];unfold iD;rw[aK];rfl)
  exact⟨_,h1,_,_,_,rfl⟩
 ·rintro Z ⟨x,y,z,rfl⟩;walk_at "ev"
end Prog
namespace VS
open PySem L2
def b4D{Z ds:List D}(h:Z.getD j .none=.list ds)(hl:ds.length<1000000)(hf:f (Z.set j (.list (ds++[Z.getD i .none])))=cz d):Y4 j i f Z=cz (.nx ((Z.set j (.list (ds++[Z.getD i .none]))).set i d)):=by
 unfold Y4;rw[h];show (if _ then _ else _)=_;rw[aD hl,hf];rfl
def a6f{α:Type}{f:Nat->α}{j:Nat}:L2.atI ((ao (j+1)).map f) (-1)=cz (f j):=by
 unfold L2.atI ixN;rw[ai,bH,aM (by decide),aD (by lia)];show ((ao (j+1)).map f)[((j+1:Nat)+(-1:Int)).toNat]?=_;rw[show (((j+1:Nat):Int)+(-1:Int)).toNat=j by lia,aU,fQ (by lia)];rfl
end VS
namespace Prog
open PySem L2 VS
def a4Z{m:i9}{k:Nat}(w:WF m k)(d:Nat):u8 [.list (m.map rwD),iD (lvl m d)]=cz (iD (lvl m (d+1))):=by
 refine b4C (λr hr p hp=>?_) (λr hr=>by rw[w.rows r hr];have:=w.k5;lia) (by have:=w.le;lia);rw[T1];exact w.next r hr p hp
def a5a{m:i9}{k:Nat}(w:WF m k):∃D:Nat,D0 [.list (m.map rwD)]=cz (.list ((ao (D+1)).map λd=>iD (lvl m d)))/\D+1<=m.length/\(∀i<D,cls m i<cls m (i+1))/\
  ∀s t:Int,0<=s->s<m.length->0<=t->t<m.length->lv m D s=lv m D t->lv m (D+1) s=lv m (D+1) t:=by
 unfold D0;rw[D6 (by simp[VS.argsOk])];unfold a2h;have hle:=w.le;have h0:l6 (iL (a6 0)) [] pt1 tT (eC (.int 0)) [.list (m.map rwD),.none,.none]=cz (iD (lvl m 0)):=by
  rw[a3A (ds:=m.map rwD) (λ_=>.int 0)]
  ·rw[bF];show _=cz (cU ((m.map λ_=>(0:Int)).map .int));rw[bF];rfl
  ·walk_at "ev"
  ·rw[ai];lia
  ·exact λd hd=>⟨[d],rfl,rfl⟩
 walk_at "ev";show ∃D,Z3 (thn (b5W 1 (listE (b2S (l6 (iL (a6 0)) [] pt1 tT (eC (.int 0)) [.list (m.map rwD),.none,.none]) (cz []))) [.list (m.map rwD),.none,.none]) _)=_/\_;rw[h0];walk_at "ev";rw[show L2.atI [iD (lvl m 0)] (-1)=cz (iD (lvl m 0)) from a6f (f:=λd=>iD (lvl m d)) (j:=0)];walk_at "ev";rw[a4Z w 0];walk_at "ev";rw[b9T];obtain⟨Z',h1,D,rfl,q1,q2⟩:=a2I (c:=tB (e2 dGt (eCl Z8 (a7 (a6 2) b8)) (eCl Z8 (a7 (e2 C3 (a6 1) (eC (.int (-1)))) b8)))) (g:=e7 (Y4 1 2 (eCl u8 (a7 (a6 0) (a7 (a6 2) b8)))) E1)
  (I:=λj Z=>Z=[.list (m.map rwD),.list ((ao (j+1)).map λd=>iD (lvl m d)),iD (lvl m (j+1))]/\∀i<j,cls m i<cls m (i+1))
  (Q:=λZ=>∃j,Z=[.list (m.map rwD),.list ((ao (j+1)).map λd=>iD (lvl m d)),iD (lvl m (j+1))]/\(∀i<j,cls m i<cls m (i+1))/\cls m (j+1)<=cls m j) 30
  (by
   rintro j Z ⟨rfl,hc⟩;have up:∀i≤j,i+1<=cls m i:=by
    intro i
    induction i with
    |zero=>intro _;exact a0Y w 0
    |succ i ih=>intro hi;have:=ih (by lia);have:=hc i (by lia);lia
   have hj:=up j (az _);have oZ:=a9T m j;refine⟨by lia,?_⟩;have iE:tB (e2 dGt (eCl Z8 (a7 (a6 2) b8)) (eCl Z8 (a7 (e2 C3 (a6 1) (eC (.int (-1)))) b8))) [.list (m.map rwD),.list ((ao (j+1)).map λd=>iD (lvl m d)),iD (lvl m (j+1))]=cz (decide (cls m j<cls m (j+1))):=by
    walk_at "ev";rw[a6f (f:=λd=>iD (lvl m d))];walk_at "ev";unfold iD;rw[a9Z w,a9Z w];walk_at "ev";have h1:=a0Y w j;have h2:=a0Y w (j+1)
    congr 1;exact decide_eq_decide.mpr (by lia)
   rw[iE];by_cases c:cls m j<cls m (j+1)
   ·refine .inr ⟨by rw[aY c],[.list (m.map rwD),.list ((ao (j+2)).map λd=>iD (lvl m d)),iD (lvl m (j+2))],?_,rfl,λi hi=>?_⟩
    ·rw[V8,b4D (ds:=(ao (j+1)).map λd=>iD (lvl m d)) (d:=iD (lvl m (j+2))) (by rfl) (by rw[ai,bH];lia) (by walk_at "ev";exact a4Z w (j+1))];walk_at "ev";rw[gf (n:=j+1),aK];rfl
    ·rcases cG i j with z|z
     ·exact hc i z
     ·rw[show i=j by lia];exact c
   ·exact .inl ⟨by rw[br c],j,rfl,hc,by lia⟩) 1000000 0 [.list (m.map rwD),.list [iD (lvl m 0)],iD (lvl m 1)] ⟨rfl,λi hi=>absurd hi (by lia)⟩ (by lia)
 rw[h1];walk_at "ev";have up:∀i≤D,i+1<=cls m i:=by
  intro i
  induction i with
  |zero=>intro _;exact a0Y w 0
  |succ i ih=>intro hi;have:=ih (by lia);have:=q1 i (by lia);lia
 have hj:=up D (az _);have oZ:=a9T m D;exact⟨D,rfl,by lia,q1,λs t s0 s1 t0 t1 h=>(b4m w D).2 q2 s t s0 s1 t0 t1 h⟩
end Prog
namespace VS
open PySem L2
def dk1(K:List Int)(x:Int):List Int:=if x∈K then K else K++[x]
def dkk(K L:List Int):List Int:=L.foldl dk1 K
section
variable {K L L':List Int}{x:Int}
def P1(h:x∈K):dk1 K x=K:=aD h
def O2(h:x∉K):dk1 K x=K++[x]:=aM h
def O3:dkk K (L++L')=dkk (dkk K L) L':=by unfold dkk;rw[ki]
def A8:dkk K (L++[x])=dk1 (dkk K L) x:=by rw[O3];rfl
def L4(K L:List Int):x∈dkk K L↔x∈K∨x∈L:=by
 induction L using snoc_ind with
 |h0=>simp[dkk]
 |h1 L y ih=>
  rw[A8,ar,<-or_assoc,<-ih,aq];by_cases h:y∈dkk K L
  ·rw[P1 h];exact⟨.inl,λz=>z.elim id λz=>z▸h⟩
  ·rw[O2 h,ar,aq]
def a1b(K L:List Int):∃E,dkk K L=K++E:=by
 induction L using snoc_ind with
 |h0=>exact⟨[],(bb _).symm⟩
 |h1 L y ih=>
  obtain⟨E,e⟩:=ih;rw[A8];by_cases h:y∈dkk K L
  ·rw[P1 h];exact⟨E,e⟩
  ·rw[O2 h,e];exact⟨E++[y],aP ..⟩
def b1S(h:K.Nodup)(L:List Int):(dkk K L).Nodup:=by
 induction L using snoc_ind with
 |h0=>exact h
 |h1 L y ih=>
  rw[A8];by_cases hy:y∈dkk K L
  ·rw[P1 hy];exact ih
  ·rw[O2 hy,bC];exact⟨ih,by simp,λa ha b hb e=>hy (by rw[aq.mp hb]at e;exact e▸ha)⟩
def b4E(h:∀x∈L,x∈K):dkk K L=K:=by
 induction L using snoc_ind with
 |h0=>rfl
 |h1 L y ih=>
  have e:=ih λx hx=>h x (ak _ hx)
  rw[A8,e,P1 (h y (by simp))]
def b7j(c:Int->Int)(X K L:List Int):dkk X ((dkk K L).map c)=dkk X ((K++L).map c):=by
 induction L using snoc_ind with
 |h0=>rw[bb];rfl
 |h1 L y ih=>
  rw[A8,<-aP,aK,cA,A8,<-ih];by_cases h:y∈dkk K L
  ·rw[P1 h,P1];exact (L4 _ _).mpr (.inr (dg h))
  ·rw[O2 h,aK,cA,A8]
def b4F(W C:List (Int×α)):(dd W C).map (·.1)=dkk (W.map (·.1)) (C.map (·.1)):=by
 induction C using snoc_ind with
 |h0=>rfl
 |h1 C c ih=>
  rw[O0,aK,cA,A8,<-ih];by_cases h:c.1∈(dd W C).map (·.1)
  ·rw[O9 h,P1 h]
  ·rw[G7 h,O2 h,aK,cA]
def b7k{A B:List Int}(h:x∈A):(A++B).idxOf x=A.idxOf x:=by rw[kh,aD h]
def b4G{s:List Int}(hx:x∈s)(hy:y∈s)(h:s.idxOf x=s.idxOf y):x=y:=by
 have h1:=dZ (cu.mpr hx);have h2:=dZ (cu.mpr hy);rw[<-h1,<-h2];simp only[h]
end
section
variable {m:i9}{k:Nat}{c:Int->Int}{r:List Int}
def a6g(m:i9)(k:Nat)(c:Int->Int):Prop:=∀s t:Int,0<=s->s<m.length->0<=t->t<m.length->c s=c t->∀a:Int,0<=a->a<k->(stp m s a).1=(stp m t a).1/\c (stp m s a).2=c (stp m t a).2
structure Rch (m:i9) (k:Nat) (r:List Int):Prop where
 eq:r=dkk [0] (r.flatMap λs=>(ao k).map λ(a:Nat)=>(stp m s a).2)
 range:∀s∈r,0<=s/\s<(m.length:Int)
 len:r.length<=m.length
 walks:∀s∈r,∃p:List Int,(i6 m 0 p).2=s/\∀a∈p,0<=a/\a<(k:Int)
def fc(c:Int->Int)(r:List Int):List (Int×Int):=dd [] (r.map λs=>(c s,s))
def cl(c:Int->Int)(r:List Int):List Int:=(fc c r).map (·.1)
def fs(c:Int->Int)(r:List Int):List Int:=(fc c r).map (·.2)
def pls(c:Int->Int)(r:List Int)(s:Int):Nat:=(cl c r).idxOf (c s)
def m9(m:i9)(c:Int->Int)(r:List Int):i9:=(fs c r).map λf=>(rowAt m f).map λp=>(p.1,(pls c r p.2:Int))
def a0x{e:Int×Int}(h:e∈fc c r):e.2∈r/\e.1=c e.2:=by
 have h1:=(X0 _ _).subset h;rw[bK]at h1;obtain⟨s,hs,rfl⟩:=aJ.mp h1;exact⟨hs,rfl⟩
def b0g:cl c r=dkk [] (r.map c):=by
 unfold cl fc;rw[b4F,bF];rfl
def X1:(cl c r).Nodup:=by rw[b0g];exact b1S bI _
def a1H(h:s∈r):c s∈cl c r:=by rw[b0g];exact (L4 _ _).mpr (.inr (dg h))
def a1I:(cl c r).length=(fs c r).length:=by unfold cl fs;rw[ai,ai]
def a8V:(fs c r).length<=r.length:=by
 have:=a8P (W:=[]) (r.map λs=>(c s,s));unfold fs fc;rw[ai];simpa using this
def a1c(i:Nat)(h:i<(fs c r).length):∃f,(fs c r)[i]?=cz f/\f∈r/\(cl c r)[i]?=cz (c f):=by
 have h1:i<(fc c r).length:=by unfold fs at h;rwa[ai]at h
 refine⟨((fc c r)[i]).2,?_,?_,?_⟩
 ·unfold fs;rw[aU,ae h1];rfl
 ·exact (a0x (bW h1)).1
 ·unfold cl;rw[aU,ae h1,<-(a0x (bW h1)).2];rfl
def b9Y:cl c r=(fs c r).map c:=by
 unfold cl fs;rw[bF];exact bA λe he=>(a0x he).2
def a3P(h:s∈r):pls c r s<(fs c r).length:=by rw[<-a1I];exact cu.mpr (a1H h)
def b4H(h:s∈r):∃f,(fs c r)[pls c r s]?=cz f/\f∈r/\c f=c s:=by
 obtain⟨f,h1,h2,h3⟩:=a1c (c:=c) (r:=r) _ (a3P h);refine⟨f,h1,h2,?_⟩;have h4:=dZ (cu.mpr (a1H (c:=c) h));have h5:=ae (cu.mpr (a1H (c:=c) h));rw[h4]at h5;unfold pls at h3;rw[h5]at h3;exact (aE h3).symm
def Rch.zero(R:Rch m k r):0∈r:=by rw[R.eq];exact (L4 _ _).mpr (.inl (by simp))
def Rch.next(R:Rch m k r){s:Int}(hs:s∈r){a:Int}(h0:0<=a)(h1:a<k):(stp m s a).2∈r:=by
 rw[R.eq];refine (L4 _ _).mpr (.inr (cO.mpr ⟨s,hs,aJ.mpr ⟨a.toNat,bw.mpr (by lia),?_⟩⟩));rw[fR h0]
def a7w(R:Rch m k r):pls c r 0=0:=by
 unfold pls;rw[b0g,R.eq];obtain⟨E,e⟩:=a1b [0] (r.flatMap λs=>(ao k).map λ(a:Nat)=>(stp m s a).2);rw[e,aK,O3];obtain⟨E2,e2⟩:=a1b (dkk [] ([0].map c)) (E.map c);rw[e2];show (([]++[c 0])++E2).idxOf (c 0)=0;simp
def F8:(m9 m c r).length=(fs c r).length:=ai ..
def a8W(h:(fs c r)[i]?=cz f):rowAt (m9 m c r) (i:Nat)=(rowAt m f).map λp=>(p.1,(pls c r p.2:Int)):=by
 unfold rowAt m9;rw[bg,ab,aU,h];rfl
def a3Q(w:WF m k)(iK:∀s:Int,0<=s->s<m.length->(rowAt m s).length=k){i:Nat}{f:Int}(h:(fs c r)[i]?=cz f)(h0:0<=f)(h1:f<m.length){a:Int}(a0:0<=a)(a1:a<k):stp (m9 m c r) (i:Nat) a=((stp m f a).1,(pls c r (stp m f a).2:Int)):=by
 unfold stp;rw[a8W h,ab,aU];have hl:=iK f h0 h1;rw[ae (by lia),ab,ae (by lia)];rfl
def a1J(w:WF m k)(R:Rch m k r):WF (m9 m c r) k:=by
 refine⟨?_,?_,w.k1,w.k5,λx hx=>?_,λx hx p hp=>?_⟩
 ·rw[F8];exact hJ (cE _) (a3P (c:=c) R.zero)
 ·rw[F8];have:=a8V (c:=c) (r:=r);have:=R.len;have:=w.le;lia
 ·obtain⟨f,hf,rfl⟩:=aJ.mp hx;rw[ai];obtain⟨e,he,rfl⟩:=aJ.mp hf;have h1:=R.range _ (a0x he).1;exact w.rows _ (by
   unfold rowAt;rw[ab,ae (by lia)];exact bW _)
 ·obtain⟨f,hf,rfl⟩:=aJ.mp hx;obtain⟨q,hq,rfl⟩:=aJ.mp hp;obtain⟨e,he,rfl⟩:=aJ.mp hf;have h1:=(a0x he).1;have hr:=R.range _ h1;have hm:rowAt m e.2∈m:=by
   unfold rowAt;rw[ab,ae (by lia)];exact bW _
  obtain⟨j,hj⟩:=df.mp hq;have pI:=(aQ.mp hj).1;rw[w.rows _ hm]at pI;have hs:stp m e.2 (j:Nat)=q:=by
   unfold stp;rw[bg,ab,hj];rfl
  have h2:=R.next h1 (a:=(j:Nat)) (by lia) (by lia);rw[hs]at h2;have h3:=a3P (c:=c) h2;rw[F8];show (0:Int)<=(pls c r q.2:Int)/\(pls c r q.2:Int)<((fs c r).length:Int);lia
def X2(w:WF m k)(iK:∀s:Int,0<=s->s<m.length->(rowAt m s).length=k)(C:a6g m k c)(R:Rch m k r){s:Int}(hs:s∈r){a:Int}(a0:0<=a)(a1:a<k):stp (m9 m c r) (pls c r s:Int) a=((stp m s a).1,(pls c r (stp m s a).2:Int)):=by
 obtain⟨f,h1,h2,h3⟩:=b4H (c:=c) hs;have r1:=R.range _ h2;have r2:=R.range _ hs;rw[a3Q w iK h1 r1.1 r1.2 a0 a1];obtain⟨h4,h5⟩:=C f s r1.1 r1.2 r2.1 r2.2 h3 a a0 a1;rw[h4];unfold pls;rw[h5]
theorem a2n(w:WF m k)(iK:∀s:Int,0<=s->s<m.length->(rowAt m s).length=k)(C:a6g m k c)(R:Rch m k r):∀(p:List Int) {s:Int},s∈r->(∀a∈p,0<=a/\a<(k:Int))->i6 (m9 m c r) (pls c r s:Int) p=((i6 m s p).1,(pls c r (i6 m s p).2:Int))
 |[],s,_,_=>rfl
 |a::p,s,hs,h=>by
  have ha:=h a aL;show ((stp (m9 m c r) (pls c r s:Int) a).1::(i6 (m9 m c r) (stp (m9 m c r) (pls c r s:Int) a).2 p).1,(i6 (m9 m c r) (stp (m9 m c r) (pls c r s:Int) a).2 p).2)=_;rw[X2 w iK C R hs ha.1 ha.2];show ((stp m s a).1::(i6 (m9 m c r) (pls c r (stp m s a).2:Int) p).1,(i6 (m9 m c r) (pls c r (stp m s a).2:Int) p).2)=_;rw[a2n w iK C R p (R.next hs ha.1 ha.2) λb hb=>h b (aw _ hb)];rfl
end
def AllMet.rch(h:AllMet m k W):Rch m k (W.map (·.1)):=by
 refine⟨?_,λs hs=>?_,by rw[ai];exact h.len,λs hs=>?_⟩
 ·have h1:=b4F W0 (W.flatMap (a4m m k));rw[<-h.eq]at h1;have h2:(W.flatMap (a4m m k)).map (·.1)=(W.map (·.1)).flatMap λs=>(ao k).map λ(a:Nat)=>(stp m s a).2:=by
   rw[EX,List.flatMap_map]
   congr 1
   funext e
   unfold a4m;rw[bF];rfl
  rw[h2]at h1;exact h1
 ·obtain⟨e,he,rfl⟩:=aJ.mp hs;exact h.range e he
 ·obtain⟨⟨t,p⟩,he,rfl⟩:=aJ.mp hs;exact⟨p,h.leads _ (az _) he⟩
section
variable {m:i9}{k:Nat}{c:Int->Int}{r:List Int}
def csu(m:i9)(k:Nat)(c:Int->Int)(s:Int):List Int:=(ao k).map λ(a:Nat)=>c (stp m s a).2
def b9Z(C:a6g m k c){s t:Int}(s0:0<=s)(s1:s<m.length)(t0:0<=t)(t1:t<m.length)(h:c s=c t):csu m k c s=csu m k c t:=by
 unfold csu;exact bA λa ha=>(C s t s0 s1 t0 t1 h a (by lia) (by have:=bw.mp ha;lia)).2
def a8X(C:a6g m k c)(X:List Int):∀(r:List Int),(∀s∈r,0<=s/\s<(m.length:Int))->dkk X (r.flatMap (csu m k c))=dkk X ((fs c r).flatMap (csu m k c)):=by
 intro r
 induction r using snoc_ind with
 |h0=>intro _;rfl
 |h1 r s ih=>
  intro hr;have ih:=ih λs hs=>hr s (ak _ hs)
  have hs:=hr s (by simp);rw[dG,O3,eB,gJ,bb];have e:fc c (r++[s])=dd1 (fc c r) (c s,s):=by unfold fc;rw[aK,cA,O0]
  by_cases h:c s∈(fc c r).map (·.1)
  ·have e2:fs c (r++[s])=fs c r:=by unfold fs;rw[e,O9 (c:=(c s,s)) h]
   rw[e2,<-ih];refine b4E λx hx=>(L4 _ _).mpr (.inr ?_)
   obtain⟨f,hf,ef⟩:=aJ.mp h;have qF:=a0x hf;have nQ:=hr f.2 (ak _ qF.1);rw[b9Z C hs.1 hs.2 nQ.1 nQ.2 (by rw[<-qF.2];exact ef.symm)]at hx;exact cO.mpr ⟨f.2,qF.1,hx⟩
  ·have e2:fs c (r++[s])=fs c r++[s]:=by unfold fs;rw[e,G7 (c:=(c s,s)) h,aK];rfl
   rw[e2,dG,O3,<-ih,eB,gJ,bb]
def a6h(C:a6g m k c)(R:Rch m k r):cl c r=dkk [c 0] ((fs c r).flatMap (csu m k c)):=by
 rw[<-a8X C [c 0] r R.range,b0g];have e:dkk [] (r.map c)=dkk [] ((dkk [0] (r.flatMap λs=>(ao k).map λ(a:Nat)=>(stp m s a).2)).map c):=by rw[<-R.eq]
 rw[e,b7j,aK,O3];have e2:(r.flatMap λs=>(ao k).map λ(a:Nat)=>(stp m s a).2).map c=r.flatMap (csu m k c):=by
  rw[EX]
  congr 1
  funext s
  unfold csu;rw[bF];rfl
 rw[e2];rfl
def b7l(C:a6g m k c)(R:Rch m k r){j:Nat}(hj:j<(fs c r).length):j<(dkk [c 0] (((fs c r).take j).flatMap (csu m k c))).length:=by
 refine EW λhZ=>?_
 have oZ:=a6h C R;rw[<-iJ j (fs c r),dG,O3]at oZ;obtain⟨E,e⟩:=a1b (dkk [c 0] (((fs c r).take j).flatMap (csu m k c))) (((fs c r).drop j).flatMap (csu m k c));rw[e]at oZ;have iW:∀x,x∈dkk [c 0] (((fs c r).take j).flatMap (csu m k c))↔x=c 0∨x∈((fs c r).take j).flatMap (csu m k c):=λx=>by rw[L4,aq]
 generalize dkk [c 0] (((fs c r).take j).flatMap (csu m k c))=Zq at hZ oZ iW;have vK:∀x∈Zq,(cl c r).idxOf x<j:=λx hx=>by
  rw[oZ,b7k hx];have:=cu.mpr hx;lia
 have vf:∀s∈r,c s∈Zq->∀a:Int,0<=a->a<k->c (stp m s a).2∈Zq:=λs hs hz a a0 a1=>by
  obtain⟨f,h1,h2,h3⟩:=b4H (c:=c) hs;have r1:=R.range _ h2;have r2:=R.range _ hs;rw[<-(C f s r1.1 r1.2 r2.1 r2.2 h3 a a0 a1).2];refine (iW _).mpr (.inr (cO.mpr ⟨f,?_,aJ.mpr ⟨a.toNat,bw.mpr (by lia),by rw[fR a0]⟩⟩));have hp:pls c r s<j:=vK _ hz;exact bh (i:=pls c r s) (by rw[kC hp];exact h1)
 have jk:∀p:List Int,(∀a∈p,0<=a/\a<(k:Int))->(i6 m 0 p).2∈r/\c (i6 m 0 p).2∈Zq:=by
  intro p
  induction p using snoc_ind with
  |h0=>exact λ_=>⟨R.zero,(iW _).mpr (.inl rfl)⟩
  |h1 p a ih=>
   intro hp;obtain⟨i1,i2⟩:=ih λb hb=>hp b (ak _ hb)
   have ha:=hp a (by simp);rw[a0s];exact⟨R.next i1 ha.1 ha.2,vf _ i1 i2 a ha.1 ha.2⟩
 obtain⟨f,f1,f2,f3⟩:=a1c (c:=c) (r:=r) j hj;obtain⟨p,p1,p2⟩:=R.walks f f2;have h1:=(jk p p2).2;rw[p1]at h1;have h2:=vK _ h1;have hi:(cl c r).idxOf (c f)<(cl c r).length:=cu.mpr (a1H f2);have h3:(cl c r)[(cl c r).idxOf (c f)]?=cz (c f):=by rw[ae hi,dZ hi]
 have:=(iu hi X1).mp (h3.trans f3.symm);lia
def b4I(h:(fs c r)[i]?=cz f):pls c r f=i:=by
 have hi:=(aQ.mp h).1;obtain⟨f',f1,f2,f3⟩:=a1c (c:=c) (r:=r) i hi;rw[h]at f1;cases f1
 have hj:(cl c r).idxOf (c f)<(cl c r).length:=cu.mpr (a1H f2);have h3:(cl c r)[(cl c r).idxOf (c f)]?=cz (c f):=by rw[ae hj,dZ hj]
 exact (iu hj X1).mp (h3.trans f3.symm)
end
theorem a3R:∀(l:List D) (j:Nat),F5 l j=(ao l.length).map λ(s:Nat)=>cy [.int ((j+s:Nat):Int),l.getD s .none]
 |[],_=>rfl
 |n::ls,k=>by
  show cy [.int k,n]::F5 ls (k+1)=_;rw[a3R ls (k+1),aS,tM,ay,bF]
  congr 1;refine bA λs _=>?_
  show cy [.int ((k+1+s:Nat):Int),ls.getD s .none]=.tuple [.int ((k+(s+1):Nat):Int),(n::ls).getD (s+1) .none];rw[dQ,gn,jC 1]
def a1d(f:Nat->D)(k:Nat):F5 ((ao k).map f) 0=(ao k).map λ(a:Nat)=>cy [.int (a:Int),f a]:=by
 rw[a3R,ai,bH];refine bA λa ha=>?_
 have h:=bw.mp ha;rw[ir,ab,aU,fQ h];rfl
end VS
namespace Prog
open PySem L2 VS
abbrev iDl:List Int->D:=λns=>.list (ns.map .int)
abbrev kLs{β:Type}(key:β->D)(l:List β):D:=.list (l.map key)
def b4J[DecidableEq β](K:KeyB false key){gm:List D->Option D}(hk:k<=5){W:O1 β}{q:List Int}(hq:(b,q)∈W)(nr:(W.map (·.1)).Nodup)(hL:L<=W.length)(hW:W.length<=1000)(wY:q.length<=1000)(s0 sE x y:D) :
  ∃x' y',U2 (a3a 6 7) ((sIf (tB (e2 (dIn true false) (a6 7) (a6 2))) (e7 (E7 2 false (a6 7) (eI (R6 (e2 (a5F false) (a6 2) (a6 5)) (x5 (a7 (a6 6) b8))))) (D5 4 (.l .i) n8 (a6 7))) E1)) ((ao k).map λ(a:Nat)=>cy [.int (a:Int),key (nx b a)]) [s0,.none,.dict (kvB key iDl W),sE,kLs key ((W.drop L).map (·.1)),key b,x,y] =
   cz (.nx [s0,.none,.dict (kvB key iDl (dd W (N2 nx k (b,q)))),sE,kLs key (((dd W (N2 nx k (b,q))).drop L).map (·.1)),key b,x',y']):=by
 obtain⟨Z',g1,x',y',rfl⟩:=u6 (enc:=λ(a:Nat)=>cy [.int (a:Int),key (nx b a)]) (set:=a3a 6 7) (xs:=ao k) (g:=(sIf (tB (e2 (dIn true false) (a6 7) (a6 2))) (e7 (E7 2 false (a6 7) (eI (R6 (e2 (a5F false) (a6 2) (a6 5)) (x5 (a7 (a6 6) b8))))) (D5 4 (.l .i) n8 (a6 7))) E1))
  (Z:=[s0,.none,.dict (kvB key iDl W),sE,kLs key ((W.drop L).map (·.1)),key b,x,y])
  (λpre Z=>∃x y,Z=[s0,.none,.dict (kvB key iDl (dd W (pre.map λ(a:Nat)=>(nx b a,q++[(a:Int)])))),sE,kLs key (((dd W (pre.map λ(a:Nat)=>(nx b a,q++[(a:Int)]))).drop L).map (·.1)),key b,x,y]) ⟨x,y,rfl⟩ (by
   rintro pre a post e Z ⟨x,y,rfl⟩;obtain⟨ea,ha,_⟩:=W6 e;have vq:=a3O nr (pre.map λ(a:Nat)=>(nx b a,q++[(a:Int)]));have iW:=b7i (pre.map λ(a:Nat)=>(nx b a,q++[(a:Int)])) hq;have hlen:=a8P W (pre.map λ(a:Nat)=>(nx b a,q++[(a:Int)]));have Dd:=b4B W (pre.map λ(a:Nat)=>(nx b a,q++[(a:Int)]));have gH:(pre.map λ(a:Nat)=>(nx b a,q++[(a:Int)])).length<=5:=by rw[ai];lia
   rw[aK,cA,O0];generalize dd W (pre.map λ(a:Nat)=>(nx b a,q++[(a:Int)]))=V at vq iW hlen Dd;have yS:=b9X (enc:=iDl) K vq iW;by_cases c:nx b a∈V.map (·.1)
   ·refine⟨_,[s0,.none,.dict (kvB key iDl V),sE,kLs key ((V.drop L).map (·.1)),key b,.int a,key (nx b a)],rfl,?_,_,_,by rw[O9 c]⟩;have lE:dIn true false (key (nx b a)) (.dict (kvB key iDl V))=cz (.bool false):=by rw[b4z K,aY c];rfl
    walk_at "ev";rw[lE];walk_at "ev"
   ·have lE:dIn true false (key (nx b a)) (.dict (kvB key iDl V))=cz (.bool true):=by rw[b4z K,br c];rfl
    have AR:=b4A (W:=V) (c:=(nx b a,q++[(a:Int)])) (L:=L) (by lia);rw[aM c]at AR;refine⟨_,[s0,.none,.dict (kvB key iDl (dd1 V (nx b a,q++[(a:Int)]))),sE,kLs key (((dd1 V (nx b a,q++[(a:Int)])).drop L).map (·.1)),key b,.int a,key (nx b a)],rfl,?_,_,_,rfl⟩;have FC:(((V.drop L).map (·.1)).map key).length<1000000:=by rw[ai,ai,iS];lia
    have sP:eI (R6 (e2 (a5F false) (a6 2) (a6 5)) (x5 (a7 (a6 6) b8))) [s0,.none,.dict (kvB key iDl V),sE,kLs key ((V.drop L).map (·.1)),key b,.int a,key (nx b a)]=cz (iDl (q++[(a:Int)])):=by
     rw[a4Q,a9K];walk_at "ev";rw[yS,b3X (by rw[ai];simp;lia)];show lIs (cz (.list (q.map .int++[.int a])))=_;rw[show q.map aO++[aO a]=(q++[(a:Int)]).map .int by rw[aK];rfl,b4q]
    walk_at "ev";rw[lE];walk_at "ev";rw[a8S (k:=key (nx b a)) (kvs:=kvB key iDl V) sP (by walk_at "ev") (by rfl) (K.ok _) (by rw[b7g];lia),b1R K c,<-G7 (W:=V) (c:=(nx b a,q++[(a:Int)])) c];walk_at "ev";rw[AR];unfold kLs;rw[aK];rfl)
 exact⟨x',y',g1⟩
def b7m[DecidableEq β](K:KeyB false key)(hk:k<=5)(h0:P s)(hP:∀b a,P b->a<k->P (nx b a))(hg:∀b,P b->gm [key b]=cz (.list ((ao k).map λ(a:Nat)=>key (nx b a))))
  (hB:∀l:List β,l.Nodup->(∀b∈l,P b)->l.length<=B) (FO:B<=900):∃W:O1 β,N7 gm [key s]=cz (.dict (kvB key iDl W))/\AllB nx k s P W:=by
 have len:∀{dn W:O1 β},MetB nx k s P dn W->W.length<=B:=λ{dn W} h=>by
  have:=hB _ h.nodup λb hb=>by
   obtain⟨e,he,rfl⟩:=aJ.mp hb;exact h.ok e he
  rwa[ai]at this
 unfold N7;rw[c1R (by simp[VS.argsOk,K.im])];unfold a2i;have Dq:=K.ok s;walk_at "ev";rw[c3l (k:=key s) (d:=.list []) (by walk_at "ev") (by walk_at "ev") Dq];walk_at "ev";refine Q1 (R:=λr=>∃W:O1 β,r=cz (.dict (kvB key iDl W))/\AllB nx k s P W) (λZ=>∃W x y z u v,Z=[key s,.none,.dict (kvB key iDl W),x,y,z,u,v]/\AllB nx k s P W) ?_ ?_
 ·rw[b9T];obtain⟨Z',g1,W,x,y,z,u,v,rfl,hA⟩:=a2I (c:=(tV (a6 3))) (g:=(e7 (g9 4 (x5 b8)) (e7 (y6 (iI (iL (a6 3))) (o8 5) (y6 (iI (iEn (eCl gm (a7 (a6 5) b8)))) (a3a 6 7) (sIf (tB (e2 (dIn true false) (a6 7) (a6 2))) (e7 (E7 2 false (a6 7) (eI (R6 (e2 (a5F false) (a6 2) (a6 5)) (x5 (a7 (a6 6) b8))))) (D5 4 (.l .i) n8 (a6 7))) E1))) (g9 3 (a6 4)))))
   (I:=λj Z=>∃(dn nw W:O1 β) (y z u v:D),W=dn++nw/\MetB nx k s P dn W/\j<=dn.length/\Z=[key s,.none,.dict (kvB key iDl W),kLs key (nw.map (·.1)),y,z,u,v])
   (Q:=λZ=>∃W x y z u v,Z=[key s,.none,.dict (kvB key iDl W),x,y,z,u,v]/\AllB nx k s P W) 900 (by
    rintro j Z ⟨dn,nw,W,y,z,u,v,hW,hM,hj,rfl⟩;have FJ:=len hM;have DO:dn.length<=W.length:=by rw[hW,aA];lia
    refine⟨by lia,?_⟩;cases nw with
    |nil=>
     rw[bb]at hW;rw[<-hW]at hM;exact .inl ⟨by walk_at "ev";rfl,W,_,_,_,_,_,rfl,hM.all⟩
    |cons e0 nw=>
     refine .inr ⟨by walk_at "ev";rfl,?_⟩;obtain⟨Z',g1,V,z',u',v',rfl,hV,uw⟩:=u6 (enc:=λ(e:β×List Int)=>key e.1) (set:=o8 5) (xs:=e0::nw) (g:=(y6 (iI (iEn (eCl gm (a7 (a6 5) b8)))) (a3a 6 7) (sIf (tB (e2 (dIn true false) (a6 7) (a6 2))) (e7 (E7 2 false (a6 7) (eI (R6 (e2 (a5F false) (a6 2) (a6 5)) (x5 (a7 (a6 6) b8))))) (D5 4 (.l .i) n8 (a6 7))) E1)))
      (Z:=[key s,.none,.dict (kvB key iDl W),kLs key ((e0::nw).map (·.1)),.list [],z,u,v])
      (λpre Z=>∃(V:O1 β) (z u v:D),Z=[key s,.none,.dict (kvB key iDl V),kLs key ((e0::nw).map (·.1)),kLs key ((V.drop W.length).map (·.1)),z,u,v]/\(∃E,V=W++E)/\MetB nx k s P (dn++pre) V)
      ⟨W,z,u,v,by rw[iT];rfl,⟨[],by rw[bb]⟩,by rw[bb];exact hM⟩ (by
       rintro pre e post he Z ⟨V,z,u,v,rfl,⟨E,hE⟩,uw⟩;obtain⟨b,q⟩:=e;have AA:(b,q)∈W:=by rw[hW,he];simp
       have AB:(b,q)∈V:=by rw[hE];exact ak _ AA
       have hs:P b:=hM.ok _ AA;have FK:=len uw;have wY:q.length<=1000:=by
        have AE:q.length<=V.length:=uw.qlen AB;lia
       have nY:MetB nx k s P ((dn++pre)++[(b,q)]) (dd V (N2 nx k (b,q))):=uw.step hP (nw:=post++E) (by rw[hE,hW,he];simp);obtain⟨x',y',g⟩:=b4J K (gm:=gm) (nx:=nx) hk AB uw.nodup (L:=W.length) (by rw[hE,aA];lia) (by lia) wY (key s) (kLs key ((e0::nw).map (·.1))) u v;refine⟨_,_,rfl,?_,dd V (N2 nx k (b,q)),key b,x',y',rfl,?_,by rw[<-aP];exact nY⟩
       ·have DE:=hg b hs;walk_at "ev";rw[a1u (ds:=(ao k).map λ(a:Nat)=>cy [.int (a:Int),key (nx b a)]) (by rw[b9V (ds:=(ao k).map λ(a:Nat)=>key (nx b a)) (by walk_at "ev";exact DE),a1d]) (l8 _ (λj=>by simp only[imm,c9,K.im,eO]) _)];walk_at "ev";exact g
       ·obtain⟨E2,En⟩:=a3N V (N2 nx k (b,q));exact⟨E++E2,by rw[En,hE,aP]⟩)
     obtain⟨E,hE⟩:=hV;refine⟨[key s,.none,.dict (kvB key iDl V),kLs key (E.map (·.1)),kLs key ((V.drop W.length).map (·.1)),z',u',v'],?_,dn++(e0::nw),E,V,_,_,_,_,by rw[hE,hW],uw,?_,rfl⟩
     ·walk_at "ev";rw[a1u (ds:=(e0::nw).map λe=>key e.1) (by walk_at "ev";rw[bF];rfl) (l8 _ (λ_=>K.im _) _)];walk_at "ev";refine b3W (λZ=>Z=[key s,.none,.dict (kvB key iDl V),kLs key ((e0::nw).map (·.1)),kLs key ((V.drop W.length).map (·.1)),z',u',v']) ⟨_,g1,rfl⟩ ?_;rintro Z rfl;walk_at "ev";rw[hE,List.drop_left]
     ·rw[aA,aS];lia) 1000000 0 [key s,.none,.dict [(key s,.list [])],.list [key s],.none,.none,.none,.none] ⟨[],WB s,WB s,_,_,_,_,rfl,c1Q h0,az _,rfl⟩ (by lia)
  exact⟨_,g1,W,x,y,z,u,v,rfl,hA⟩
 ·rintro Z ⟨W,x,y,z,u,v,rfl,hA⟩;walk_at "ev";exact⟨W,rfl,hA⟩
def a3S(z:α)(f:α->β)(l:List α):l.map f=(ao l.length).map λ(a:Nat)=>f (l.getD a z):=by
 refine fV (by simp) λi h1 h2=>?_
 have hi:i<l.length:=by simpa using h1
 simp[ab,ae hi]
def b4K:KeyB false (λi:Int=>aO i):=⟨λa b=>a2G,λ_=>dKey_i,λ_=>R8⟩
def AllMet.of(w:WF m k)(h:AllB (λs (a:Nat)=>(stp m s a).2) k 0 (λs=>0<=s/\s<(m.length:Int)) W):AllMet m k W:=⟨h.eq,h.sor,h.ok,h.ql⟩
def b0h(w:WF m k):∃W:a0w,t8 [.list (m.map rwD)]=cz (.dict (kvD iDl W))/\AllMet m k W:=by
 have hle:=w.le;have vF:=w.k5;have qU:=w.pos;unfold t8;rw[D6 (by simp[VS.argsOk])];unfold T8;walk_at "ev";rw[c1S (ds:=[.int 0]) (by walk_at "ev")];obtain⟨W,h,hA⟩:=b7m (key:=λi:Int=>aO i) b4K (gm:=fnE [.i] ([0].map λj=>([.list (m.map rwD)]:List D).getD j .none) ((l6 (iI (iL (e2 dIx (a6 1) (a6 0)))) [] pt1 tT (e2 q8 (a6 0) (eC (.int 1)))))) (nx:=λs (a:Nat)=>(stp m s a).2) (k:=k) (by lia) (s:=0) (P:=λs=>0<=s/\s<(m.length:Int)) ⟨wG _,by lia⟩
  (λb a hb ha=>w.nx hb.1 hb.2 (a:=a) (by lia) (by lia))
  (λb hb=>by
   rw[c1T (by simp[VS.argsOk,imm])];have ug:=w.row hb.1 hb.2;show ((l6 (iI (iL (e2 dIx (a6 1) (a6 0)))) [] pt1 tT (e2 q8 (a6 0) (eC (.int 1))))) [.int b,.list (m.map rwD)]=_;rw[N9 (enc:=stD) (xs:=rowAt m b) (λp=>aO p.2) (a1u (by walk_at "ev";rw[a1x hb.1 hb.2];rfl) (l8 _ (λ_=>a1y) _)) (by lia) (λp _=>⟨[stD p],rfl,by unfold stD;walk_at "ev"⟩),<-ug,a3S (0,0) (λp:Int×Int=>aO p.2) (rowAt m b)];rfl) (B:=m.length) (λl hn hl=>nodup_range hn hl) (by lia)
 refine⟨W,?_,AllMet.of w hA⟩;rw[h];rfl
def a8Y(w:WF m k):∃W:a0w,Y8 [.list (m.map rwD)]=cz (iD (W.map (·.1)))/\AllMet m k W:=by
 obtain⟨W,h,hA⟩:=b0h w;refine⟨W,?_,hA⟩;unfold Y8;rw[D6 (by simp[VS.argsOk])];unfold a4T;walk_at "ev";rw[b7e (W:=W) (enc:=iDl) (by walk_at "ev";exact h)];walk_at "ev"
def at_list{ds:List D}{i:Int}{d:D}(h0:0<=i)(h:ds[i.toNat]?=cz d):L2.atI ds i=cz d:=by
 have hl:=(aQ.mp h).1;unfold L2.atI;rw[b3Z h0 (by lia)];exact h
def b1T{ns:List D}(g:Int->Int)(hn:∀p∈r,0<=p.2/\ns[p.2.toNat]?=cz (.int (g p.2)))(hl:r.length<=1000):j5 [rwD r,.list ns]=cz (rwD (r.map λp=>(p.1,g p.2))):=by
 unfold j5;rw[D6 (by simp[VS.argsOk])];unfold S9;rw[a9u,a3A (ds:=r.map stD) (λd=>match d with|.tuple [.int a,.int b]=>stD (a,g b)|_=>.none)]
 ·rw[bF];show cz (cU (r.map _))=_;unfold rwD;rw[bF];rfl
 ·exact a1u (by unfold rwD;walk_at "ev") (l8 _ (λ_=>a1y) r)
 ·rw[ai];lia
 ·intro d hd;obtain⟨p,hp,rfl⟩:=aJ.mp hd;have:=hn p hp;refine⟨[.int p.1,.int p.2],rfl,?_⟩;show O7 _ [.int p.1,.int p.2,.list ns]=cz (stD (p.1,g p.2));walk_at "ev";rw[at_list this.1 this.2];walk_at "ev";rfl
abbrev cN(m:i9)(N:Nat):Int->Int:=λs=>(lvl m N).getD s.toNat 0
def b1U{m:i9}(hr:∀s∈r,0<=s/\s<(m.length:Int))(hl:r.length<=1000):x8 [iD r,iD (lvl m N)]=cz (iD (fs (cN m N) r)):=by
 have Dj:=T1 m N;unfold x8;rw[D6 (by simp[VS.argsOk])];unfold N0;walk_at "ev";rw[a1u (ds:=r.map aO) (by walk_at "ev") (l8 _ (λ_=>R8) _)];walk_at "ev";refine K8 (λZ=>∃x,Z=[iD r,iD (lvl m N),.dict (kvD aO (fc (cN m N) r)),x]) ?_ ?_
 ·obtain⟨Z',g1,x,rfl⟩:=u6 (enc:=aO) (set:=o8 3) (xs:=r) (g:=(b3f (T6 2 false (e2 q8 (a6 1) (a6 3)) (a6 3)))) (Z:=[iD r,iD (lvl m N),.dict [],.none])
   (λpre Z=>∃x,Z=[iD r,iD (lvl m N),.dict (kvD aO (dd [] (pre.map λs=>(cN m N s,s)))),x]) ⟨_,rfl⟩ (by
    rintro pre s post e Z ⟨x,rfl⟩;have hs:=hr s (by rw[e];simp);have hlen:=a8P (W:=[]) (pre.map λs=>(cN m N s,s));have gH:pre.length<=1000:=by have:=dH et e;simp at this;lia
    rw[ai,gU]at hlen;refine⟨_,[iD r,iD (lvl m N),.dict (kvD aO (dd [] ((pre++[s]).map λs=>(cN m N s,s)))),.int s],rfl,?_,_,rfl⟩;rw[c1P (k:=.int (cN m N s)) (e:=.int s) (kvs:=kvD aO (dd [] (pre.map λs=>(cN m N s,s)))) (by walk_at "ev";rw[C0 hs.1 (by lia)];walk_at "ev") (by walk_at "ev") (by rfl) dKey_i (by rw[b0c];lia) rfl,b7c (enc:=aO),aK,cA,O0];rfl)
  exact⟨_,g1,x,rfl⟩
 ·rintro Z ⟨x,rfl⟩;walk_at "ev";rw[b7f (W:=fc (cN m N) r) (by walk_at "ev")];walk_at "ev";rfl
def plc(c:Int->Int)(F:List Int)(j:Nat):List (Int×Int):=(ao j).map λ(i:Nat)=>(c (F.getD i 0),(i:Int))
def b4L(c:Int->Int)(F:List Int)(j:Nat):plc c F (j+1)=plc c F j++[(c (F.getD j 0),(j:Int))]:=by
 unfold plc;rw[gf,aK];rfl
def T3{l:List Int}(h:l[i]?=cz x):l.getD i 0=x:=by rw[ab,h];rfl
def b4M:(plc c (fs c r) (fs c r).length).map (·.1)=cl c r:=by
 rw[b9Y];unfold plc;rw[bF];refine fV (by simp) λi h1 h2=>?_
 have hi:i<(fs c r).length:=by simpa using h1
 simp only[cY,m_,Function.comp];rw[ab,ae hi];rfl
def b4N(w:WF m k):∃(N:Nat) (W:a0w),AllMet m k W/\(∀s t:Int,0<=s->s<m.length->0<=t->t<m.length->lv m N s=lv m N t->lv m (N+1) s=lv m (N+1) t)/\
  L1 [.list (m.map rwD)]=cz (.list ((m9 m (cN m N) (W.map (·.1))).map rwD)):=by
 have hle:=w.le;have vF:=w.k5;obtain⟨N,h1,_,_,hN⟩:=a5a w;obtain⟨W,h2,hA⟩:=a8Y w;refine⟨N,W,hA,hN,?_⟩;have R:=hA.rch;have h3:=b1U (m:=m) (N:=N) R.range (by have:=R.len;lia);have Dj:=T1 m N;generalize W.map (·.1)=r at h2 R h3;have ug:=R.len;have hfl:=a8V (c:=cN m N) (r:=r);unfold L1;rw[D6 (by simp[VS.argsOk])];unfold a9L;walk_at "ev";rw[h1];walk_at "ev";rw[a6f (f:=λd=>iD (lvl m d))];walk_at "ev";rw[h2];walk_at "ev";rw[h3];walk_at "ev";rw[a1u (ds:=(ao (fs (cN m N) r).length).map λ(s:Nat)=>cy [.int ((0+s:Nat):Int),.int ((fs (cN m N) r).getD s 0)]) (by rw[b9V (ds:=(fs (cN m N) r).map .int) (by rfl),a2m]) (l8 _ (λs=>by simp only[imm,c9,eO]) _)];walk_at "ev";have xi:=X1 (c:=cN m N) (r:=r);refine K8 (λZ=>∃x y,Z=[.list (m.map rwD),iD (lvl m N),iD (fs (cN m N) r),.dict (kvD aO (plc (cN m N) (fs (cN m N) r) (fs (cN m N) r).length)),x,y,.none]) ?_ ?_
 ·obtain⟨Z',g1,x,y,rfl⟩:=u6 (enc:=λ(s:Nat)=>cy [.int ((0+s:Nat):Int),.int ((fs (cN m N) r).getD s 0)]) (set:=a3a 4 5) (xs:=ao (fs (cN m N) r).length) (g:=(E7 3 false (e2 q8 (a6 1) (a6 5)) (a6 4)))
   (Z:=[.list (m.map rwD),iD (lvl m N),iD (fs (cN m N) r),.dict [],.none,.none,.none])
   (λpre Z=>∃x y,Z=[.list (m.map rwD),iD (lvl m N),iD (fs (cN m N) r),.dict (kvD aO (plc (cN m N) (fs (cN m N) r) pre.length)),x,y,.none]) ⟨_,_,rfl⟩ (by
    rintro pre j post e Z ⟨x,y,rfl⟩;obtain⟨ej,hj,_⟩:=W6 e;obtain⟨f,f1,f2,f3⟩:=a1c (c:=cN m N) (r:=r) j hj;have nQ:=R.range f f2;have xg:=T3 f1;refine⟨_,[.list (m.map rwD),iD (lvl m N),iD (fs (cN m N) r),.dict (kvD aO (plc (cN m N) (fs (cN m N) r) (pre++[j]).length)),.int ((0+j:Nat):Int),.int ((fs (cN m N) r).getD j 0),.none],rfl,?_,_,_,rfl⟩;have yI:cN m N f∉(plc (cN m N) (fs (cN m N) r) pre.length).map (·.1):=by
     intro lE;obtain⟨q,hq,e2⟩:=aJ.mp lE;obtain⟨i,hi,rfl⟩:=aJ.mp hq;have lN:=bw.mp hi;obtain⟨f',Eu,_,Bo⟩:=a1c (c:=cN m N) (r:=r) i (by lia);rw[T3 Eu]at e2;have e3:cN m N f'=cN m N f:=e2;rw[e3]at Bo;have:i=j:=(iu (by rw[a1I];lia) xi).mp (Bo.trans f3.symm);lia
    rw[a8S (k:=.int (cN m N f)) (d:=.int ((0+j:Nat):Int)) (kvs:=kvD aO (plc (cN m N) (fs (cN m N) r) pre.length)) (by walk_at "ev") (by walk_at "ev";rw[xg,C0 nQ.1 (by lia)];walk_at "ev") (by rfl) dKey_i (by rw[b0c];unfold plc;rw[ai,bH];lia),b4w (enc:=aO) (x:=((0+j:Nat):Int)) yI,aA,bS,b4L,<-ej,xg,ir];rfl)
  rw[bH]at g1;exact⟨_,g1,x,y,rfl⟩
 ·rintro Z ⟨x,y,rfl⟩;walk_at "ev";have AH:=b4M (c:=cN m N) (r:=r);have sV:(l6 (iI (iL (a6 1))) [3] pt1 tT (e2 (a3h false) (a6 1) (a6 0))) [.list (m.map rwD),iD (lvl m N),iD (fs (cN m N) r),.dict (kvD aO (plc (cN m N) (fs (cN m N) r) (fs (cN m N) r).length)),x,y,.none]=cz (.list ((lvl m N).map λz=>if z∈cl (cN m N) r then .int ((cl (cN m N) r).idxOf z:Nat) else .none)):=by
   refine N9 (enc:=aO) (xs:=lvl m N) (λz=>if z∈cl (cN m N) r then .int ((cl (cN m N) r).idxOf z:Nat) else .none) (a1u (by walk_at "ev") (l8 _ (λ_=>R8) _)) (by lia) λz hz=>⟨[.int z],rfl,?_⟩
   show e2 (a3h false) (a6 1) (a6 0) [.int z,.dict (kvD aO (plc (cN m N) (fs (cN m N) r) (fs (cN m N) r).length))]=_;walk_at "ev";by_cases hc:z∈cl (cN m N) r
   ·rw[aD hc];have hi:=cu.mpr hc;have lN:(cl (cN m N) r).idxOf z<(fs (cN m N) r).length:=by rw[<-a1I];exact hi
    obtain⟨f,f1,_,f3⟩:=a1c (c:=cN m N) (r:=r) _ lN;refine b7d (enc:=aO) (x:=((cl (cN m N) r).idxOf z:Nat)) (by rw[AH];exact xi) (aJ.mpr ⟨(cl (cN m N) r).idxOf z,bw.mpr lN,?_⟩);rw[T3 f1];have h5:=ae hi;rw[dZ hi,f3]at h5;rw[aE h5]
   ·rw[aM hc];exact a8R (by rw[AH];exact hc)
  rw[sV];walk_at "ev";have yY:(l6 (iI (iL (a6 2))) [0,6] pt1 tT (eCl j5 (a7 (e2 dIx (a6 1) (a6 0)) (a7 (a6 2) b8)))) [.list (m.map rwD),iD (lvl m N),iD (fs (cN m N) r),.dict (kvD aO (plc (cN m N) (fs (cN m N) r) (fs (cN m N) r).length)),x,y,.list ((lvl m N).map λz=>if z∈cl (cN m N) r then .int ((cl (cN m N) r).idxOf z:Nat) else .none)]=cz (.list ((fs (cN m N) r).map λf=>rwD ((rowAt m f).map λp=>(p.1,(pls (cN m N) r p.2:Int))))):=by
   refine N9 (Z:=[.list (m.map rwD),iD (lvl m N),iD (fs (cN m N) r),.dict (kvD aO (plc (cN m N) (fs (cN m N) r) (fs (cN m N) r).length)),x,y,.list ((lvl m N).map λz=>if z∈cl (cN m N) r then aO ((cl (cN m N) r).idxOf z:Nat) else .none)]) (fi:=iI (iL (a6 2))) (js:=[0,6]) (pt:=pt1) (g:=(eCl j5 (a7 (e2 dIx (a6 1) (a6 0)) (a7 (a6 2) b8)))) (enc:=aO) (xs:=fs (cN m N) r) (λf=>rwD ((rowAt m f).map λp=>(p.1,(pls (cN m N) r p.2:Int)))) (a1u (by walk_at "ev") (l8 _ (λ_=>R8) _)) (by lia) λf hf=>⟨[.int f],rfl,?_⟩
   have nQ:f∈r:=by
    obtain⟨e,he,rfl⟩:=aJ.mp hf;exact (a0x he).1
   have qF:=R.range f nQ;show eCl j5 _ [.int f,.list (m.map rwD),.list ((lvl m N).map λz=>if z∈cl (cN m N) r then aO ((cl (cN m N) r).idxOf z:Nat) else .none)]=_;walk_at "ev";rw[a1x qF.1 qF.2];walk_at "ev";refine b1T (λs=>(pls (cN m N) r s:Int)) (λp hp=>?_) (by rw[w.row qF.1 qF.2];lia);obtain⟨j,hj⟩:=df.mp hp;have pI:=(aQ.mp hj).1;rw[w.row qF.1 qF.2]at pI;have hs:stp m f (j:Nat)=p:=by
    unfold stp;rw[bg,ab,hj];rfl
   have h6:=R.next nQ (a:=(j:Nat)) (by lia) (by lia);rw[hs]at h6;have h7:=R.range _ h6;refine⟨h7.1,?_⟩;rw[aU,ae (by lia)];have h8:(lvl m N)[p.2.toNat]'(by lia)=cN m N p.2:=by
    show _=(lvl m N).getD p.2.toNat 0;rw[ab,ae (by lia)];rfl
   show cz (if (lvl m N)[p.2.toNat]'(by lia)∈cl (cN m N) r then aO ((cl (cN m N) r).idxOf ((lvl m N)[p.2.toNat]'(by lia)):Nat) else .none)=_;rw[h8,aD (a1H h6)];rfl
  rw[yY];walk_at "ev";unfold m9;rw[bF];rfl
end Prog
namespace VS
open PySem L2
def nxs(L:i9)(k:Nat)(i:Nat):List Int:=(ao k).map λ(a:Nat)=>(stp L (i:Nat) a).2
def ofR(c:Nat):List Int:=(ao c).map λ(i:Nat)=>(i:Int)
def Sim(k:Nat)(L M:i9)(i j:Int):Prop:=∀p:List Int,(∀a∈p,0<=a/\a<(k:Int))->(i6 L i p).1=(i6 M j p).1
structure Can (L:i9) (k:Nat):Prop where
 wf:WF L k
 all:dkk [0] ((ao L.length).flatMap (nxs L k))=ofR L.length
 lead:∀j,j<L.length->j<(dkk [0] ((ao j).flatMap (nxs L k))).length
 apart:∀i j:Nat,i<L.length->j<L.length->Sim k L L i j->i=j
theorem Sim.symm{k:Nat}{L M:i9}{i j:Int}(h:Sim k L M i j):Sim k M L j i:=λp hp=>(h p hp).symm
theorem Sim.trans(h:Sim k L M i j)(h':Sim k M N j l):Sim k L N i l:=λp hp=>(h p hp).trans (h' p hp)
def Sim.step{k:Nat}{L M:i9}{i j:Int}(h:Sim k L M i j){a:Int}(h0:0<=a)(h1:a<k):(stp L i a).1=(stp M j a).1/\Sim k L M (stp L i a).2 (stp M j a).2:=by
 constructor
 ·have:=h [a] (λb hb=>by rw[aq.mp hb];exact⟨h0,h1⟩);simpa[i6]using this
 ·intro p hp;have:=h (a::p) (λb hb=>by
   rcases aI.mp hb with z|z
   ·rw[z];exact⟨h0,h1⟩
   ·exact hp b z)
  simp only[i6]at this;exact (rH this).2
def b0i:x∈ofR c↔0<=x/\x<(c:Int):=by
 unfold ofR;rw[aJ]
 constructor
 ·rintro⟨i,hi,rfl⟩;have:=bw.mp hi;lia
 ·rintro⟨h0,h1⟩;exact⟨x.toNat,bw.mpr (by lia),by lia⟩
def a2J(c:Nat):(ofR c).length=c:=by unfold ofR;simp
def b4O(c j:Nat)(h:j<=c):(ofR c).take j=ofR j:=by
 unfold ofR;rw[<-List.map_take,pB,lu h]
def b0j(h:j<c):(ofR c)[j]?=cz (j:Int):=by
 unfold ofR;rw[aU,fQ h];rfl
def Can.pre(C:Can L k)(h:(ao L.length).flatMap (nxs L k)=Zq++Y):dkk [0] Zq=ofR (dkk [0] Zq).length:=by
 have h1:=C.all;rw[h,O3]at h1;obtain⟨E,e⟩:=a1b (dkk [0] Zq) Y;rw[e]at h1;have h2:=dH et h1;rw[aA,a2J]at h2;have h3:=dH (List.take (dkk [0] Zq).length) h1;rw[List.take_left,b4O _ _ (by lia)]at h3;exact h3
def Can.le(C:Can L k)(h:(ao L.length).flatMap (nxs L k)=Zq++Y):(dkk [0] Zq).length<=L.length:=by
 have h1:=C.all;rw[h,O3]at h1;obtain⟨E,e⟩:=a1b (dkk [0] Zq) Y;rw[e]at h1;have h2:=dH et h1;rw[aA,a2J]at h2;lia
def Can.new(C:Can L k)(h:(ao L.length).flatMap (nxs L k)=Zq++t::Y):(0<=t/\t<((dkk [0] Zq).length:Int)/\dkk [0] (Zq++[t])=dkk [0] Zq)∨(t=((dkk [0] Zq).length:Int)/\(dkk [0] (Zq++[t])).length=(dkk [0] Zq).length+1):=by
 have h1:=C.pre (Zq:=Zq) (Y:=t::Y) h;have h2:=C.pre (Zq:=Zq++[t]) (Y:=Y) (by rw[h,aP];rfl);rw[A8]at h2 ⊢;by_cases c:t∈dkk [0] Zq
 ·left
  rw[P1 c];rw[h1]at c;have:=b0i.mp c;exact⟨this.1,this.2,rfl⟩
 ·right
  rw[O2 c]at h2 ⊢;have h3:=dH (λl=>l[(dkk [0] Zq).length]?) h2;simp only[aA,bS]at h3 ⊢;rw[b0j (by lia)]at h3;simp at h3;exact⟨h3,trivial⟩
def a1K(h:j<n):ao n=ao j++j::(ao (n-j-1)).map (λi=>j+1+i):=by
 have:n=j+(1+(n-j-1)):=by lia
 conv=>lhs;rw[this]
 rw[List.range_add,List.range_add,aK]
 congr 1;show _=[j]++_
 congr 1;rw[bF];refine bA λi _=>?_
 show j+(1+i)=j+1+i;lia
def a7x{L:i9}(hj:j<L.length)(ha:a<k):∃Y,(ao L.length).flatMap (nxs L k)=((ao j).flatMap (nxs L k)++(ao a).map λ(b:Nat)=>(stp L (j:Nat) b).2)++(stp L (j:Nat) a).2::Y:=by
 refine⟨((ao (k-a-1)).map λi=>(stp L (j:Nat) ((a+1+i:Nat):Int)).2)++((ao (L.length-j-1)).map (λi=>j+1+i)).flatMap (nxs L k),?_⟩
 conv=>lhs;rw[a1K hj]
 rw[dG,eB];have:nxs L k j=(ao a).map (λ(b:Nat)=>(stp L (j:Nat) b).2)++(stp L (j:Nat) a).2::(ao (k-a-1)).map λi=>(stp L (j:Nat) ((a+1+i:Nat):Int)).2:=by
  unfold nxs
  conv=>lhs;rw[a1K ha]
  rw[aK,ay,bF];rfl
 rw[this];simp[aP]
def a7y(C:Can L k)(D:Can M k)(h0:Sim k L M 0 0):∀j:Nat,j<=L.length->j<=M.length/\(∀i<j,∀a:Nat,a<k->stp L (i:Nat) a=stp M (i:Nat) a)/\∀t:Int,0<=t->t<((dkk [0] ((ao j).flatMap (nxs L k))).length:Int)->Sim k L M t t:=by
 have flat:∀j,(∀i<j,∀a:Nat,a<k->stp L (i:Nat) a=stp M (i:Nat) a)->(ao j).flatMap (nxs L k)=(ao j).flatMap (nxs M k):=λj hr=>by
  rw[EY,EY]
  congr 1;refine bA λi hi=>?_
  unfold nxs;exact bA λa ha=>by rw[hr i (bw.mp hi) a (bw.mp ha)]
 intro j
 induction j with
 |zero=>
  intro _;refine⟨cE _,λi hi=>absurd hi (by lia),λt t0 t1=>?_⟩;have:t=0:=by
   have:((dkk [0] ((ao 0).flatMap (nxs L k))).length:Int)=1:=rfl;lia
  rw[this];exact h0
 |succ j ih=>
  intro hj;obtain⟨i1,i2,i3⟩:=ih (by lia);have hfl:=flat j i2;have iX:=C.lead j (by lia);have yQ:j<M.length:=by
   refine EW λtm=>?_
   have yQ:j=M.length:=by lia
   have h1:=D.all;rw[<-yQ,<-hfl]at h1;rw[h1,a2J]at iX;lia
  have CF:Sim k L M (j:Nat) (j:Nat):=i3 (j:Nat) (by lia) (by lia);have key:∀a,a<=k->(∀b:Nat,b<a->stp L (j:Nat) b=stp M (j:Nat) b)/\∀t:Int,0<=t->t<((dkk [0] ((ao j).flatMap (nxs L k)++(ao a).map λ(b:Nat)=>(stp L (j:Nat) b).2)).length:Int)->Sim k L M t t:=by
   intro a
   induction a with
   |zero=>
    intro _;refine⟨λb hb=>absurd hb (by lia),λt t0 t1=>i3 t t0 ?_⟩;simpa using t1
   |succ a Ct=>
    intro ha;obtain⟨r1,r2⟩:=Ct (by lia);obtain⟨s1,s2⟩:=CF.step (a:=(a:Nat)) (by lia) (by lia);obtain⟨Y,hY⟩:=a7x (L:=L) (k:=k) (j:=j) (a:=a) (by lia) (by lia);obtain⟨Y',zt⟩:=a7x (L:=M) (k:=k) (j:=j) (a:=a) yQ (by lia);have pU:((ao a).map λ(b:Nat)=>(stp M (j:Nat) b).2)=(ao a).map λ(b:Nat)=>(stp L (j:Nat) b).2:=bA λb hb=>by rw[r1 b (bw.mp hb)]
    rw[<-hfl,pU]at zt;have n1:=C.new hY;have n2:=D.new zt;have l1:=C.le hY;have l2:=D.le zt;have hr:(ao (a+1)).map (λ(b:Nat)=>(stp L (j:Nat) b).2)=(ao a).map (λ(b:Nat)=>(stp L (j:Nat) b).2)++[(stp L (j:Nat) a).2]:=by rw[gf,aK];rfl
    rw[hr,<-aP];generalize (ao j).flatMap (nxs L k)++(ao a).map (λ(b:Nat)=>(stp L (j:Nat) b).2)=Zq at r2 n1 n2 l1 l2;have wL:=C.wf.nx (s:=(j:Nat)) (a:=(a:Nat)) (by lia) (by lia) (by lia) (by lia);have wM:=D.wf.nx (s:=(j:Nat)) (a:=(a:Nat)) (by lia) (by lia) (by lia) (by lia);have e2:(stp L (j:Nat) a).2=(stp M (j:Nat) a).2:=by
     rcases n1 with⟨a0,a1,_⟩|⟨a1,_⟩
     ·have h5:=(r2 _ a0 a1).symm.trans s2;have:=D.apart (stp L (j:Nat) a).2.toNat (stp M (j:Nat) a).2.toNat (by lia) (by lia) (by
       rw[fR a0,fR wM.1];exact h5)
      lia
     ·rcases n2 with⟨b0,b1,_⟩|⟨b1,_⟩
      ·have h6:=s2.trans (r2 _ b0 b1).symm;have:=C.apart (stp L (j:Nat) a).2.toNat (stp M (j:Nat) a).2.toNat (by lia) (by lia) (by
        rw[fR wL.1,fR b0];exact h6)
       lia
      ·lia
    refine⟨λb hb=>?_,λt t0 t1=>?_⟩
    ·by_cases e:b<a
     ·exact r1 b e
     ·have:b=a:=by lia
      subst this;exact Prod.ext s1 e2
    ·rcases n1 with⟨_,_,a2⟩|⟨a1,a2⟩
     ·rw[a2]at t1;exact r2 t t0 t1
     ·rw[a2]at t1;by_cases e:t<((dkk [0] Zq).length:Int)
      ·exact r2 t t0 e
      ·have:t=(stp L (j:Nat) a).2:=by lia
       rw[this];rw[<-e2]at s2;exact s2
  obtain⟨k1,k2⟩:=key k (az _);refine⟨by lia,λi hi a ha=>?_,λt t0 t1=>k2 t t0 ?_⟩
  ·by_cases e:i<j
   ·exact i2 i e a ha
   ·have:i=j:=by lia
    subst this;exact k1 a ha
  ·rw[gf,dG,eB,gJ,bb]at t1;exact t1
def b4P(C:Can L k)(D:Can M k)(h0:Sim k L M 0 0):L=M:=by
 obtain⟨h1,h2,_⟩:=a7y C D h0 L.length (az _);obtain⟨h3,_,_⟩:=a7y D C h0.symm M.length (az _);refine fV (by lia) λi i1 i2=>?_
 have w1:=C.wf.rows L[i] (bW i1);have w2:=D.wf.rows M[i] (bW i2);refine fV (by lia) λa a1 a2=>?_
 have:=h2 i i1 a (by lia);unfold stp rowAt at this;rw[bg,bg,ab,ab,ab,ab,ae i1,ae i2]at this;simp only[kL]at this;rw[ae a1,ae a2]at this;exact this
def b4Q(K:List Int):∀(L:List Int),(∀x∈K++L,∀y∈K++L,f x=f y->x=y)->dkk (K.map f) (L.map f)=(dkk K L).map f:=by
 intro L
 induction L using snoc_ind with
 |h0=>intro _;rfl
 |h1 L x ih=>
  intro h;have ih:=ih λa ha b hb=>h a (by rw[<-aP];exact ak _ ha) b (by rw[<-aP];exact ak _ hb)
  rw[aK,cA,A8,A8,ih];by_cases c:x∈dkk K L
  ·rw[P1 c,P1 (dg c)]
  ·have hn:f x∉(dkk K L).map f:=λhm=>by
    obtain⟨y,hy,e⟩:=aJ.mp hm;have Cu:y∈K++(L++[x]):=by
     rcases (L4 K L).mp hy with z|z
     ·exact ak _ z
     ·exact ah _ (ak _ z)
    have:=h y Cu x (by simp) e;exact c (this▸hy)
   rw[O2 c,O2 hn,aK];rfl
section
variable {m:i9}{k:Nat}{c:Int->Int}{r:List Int}
def b1V(w:WF m k)(iK:∀s:Int,0<=s->s<m.length->(rowAt m s).length=k)(R:Rch m k r){i:Nat}{f:Int}(h:(fs c r)[i]?=cz f)(hf:f∈r):nxs (m9 m c r) k i=(csu m k c f).map λx=>((cl c r).idxOf x:Int):=by
 unfold nxs csu;rw[bF];refine bA λa ha=>?_
 have hr:=R.range f hf;have:=bw.mp ha;rw[a3Q w iK h hr.1 hr.2 (by lia) (by lia)];rfl
theorem a3T(w:WF m k)(iK:∀s:Int,0<=s->s<m.length->(rowAt m s).length=k)(R:Rch m k r):∀j,j<=(fs c r).length->(ao j).flatMap (nxs (m9 m c r) k)=(((fs c r).take j).flatMap (csu m k c)).map λx=>((cl c r).idxOf x:Int)
 |0,_=>by simp
 |j+1,h=>by
  obtain⟨f,f1,f2,f3⟩:=a1c (c:=c) (r:=r) j (by lia);rw[gf,dG,a3T w iK R j (by lia),BD,f1,dG,aK]
  congr 1;show [j].flatMap _=([f].flatMap _).map _;rw[eB,gJ,bb,eB,gJ,bb,b1V w iK R f1 f2]
def b1W(w:WF m k)(iK:∀s:Int,0<=s->s<m.length->(rowAt m s).length=k)(C:a6g m k c)(R:Rch m k r)(q_:∀i j:Nat,i<(m9 m c r).length->j<(m9 m c r).length->Sim k (m9 m c r) (m9 m c r) i j->i=j):Can (m9 m c r) k:=by
 have hL:(m9 m c r).length=(fs c r).length:=F8;have hz:=a7w (c:=c) R;have rN:([0]:List Int)=[c 0].map λx=>((cl c r).idxOf x:Int):=by
  show [(0:Int)]=[((pls c r 0:Nat):Int)];rw[hz];rfl
 have iW:∀j,∀x∈[c 0]++((fs c r).take j).flatMap (csu m k c),x∈cl c r:=λj x hx=>by
  rw[a6h C R];refine (L4 _ _).mpr ?_;rcases ar.mp hx with z|z
  ·exact .inl z
  ·obtain⟨f,hf,hx⟩:=cO.mp z;exact .inr (cO.mpr ⟨f,List.mem_of_mem_take hf,hx⟩)
 have hd:∀j,j<=(fs c r).length->dkk [0] ((ao j).flatMap (nxs (m9 m c r) k))=(dkk [c 0] (((fs c r).take j).flatMap (csu m k c))).map λx=>((cl c r).idxOf x:Int):=λj hj=>by
  rw[a3T w iK R j hj,rN];exact b4Q _ _ λx hx y hy e=>b4G (iW j x hx) (iW j y hy) (by lia)
 refine⟨a1J w R,?_,λj hj=>?_,q_⟩
 ·rw[hL,hd _ (az _),ou,<-a6h C R];refine fV (by rw[ai,a2J,a1I]) λi i1 i2=>?_
  have hi:i<(cl c r).length:=by simpa using i1
  rw[cY];have h2:=b0j (c:=(fs c r).length) (j:=i) (by rw[<-a1I];exact hi);rw[ae i2]at h2;rw[aE h2];have hj:(cl c r).idxOf (cl c r)[i]<(cl c r).length:=cu.mpr (bW hi);have h3:(cl c r)[(cl c r).idxOf (cl c r)[i]]?=(cl c r)[i]?:=by rw[ae hj,dZ hj,ae hi]
  have:=(iu hj X1).mp h3;lia
 ·rw[hL]at hj;rw[hd j (by lia),ai];exact b7l C R hj
end
end VS
namespace Prog
open PySem L2 VS
local macro_rules | `(tactic| walk_at "evc")=>`(tactic| first | (walk_at "ev";repeat (simp -implicitDefEqProofs (disch:=first | omega | assumption | decide) only [Prog.cell_eq];try walk_at "ev")) | (simp -implicitDefEqProofs (disch:=first | omega | assumption | decide) only [Prog.cell_eq];repeat (first | walk_at "ev" | simp -implicitDefEqProofs (disch:=first | omega | assumption | decide) only [Prog.cell_eq])))
def b7n(w:WF m k)(hN:∀s t:Int,0<=s->s<m.length->0<=t->t<m.length->lv m N s=lv m N t->lv m (N+1) s=lv m (N+1) t):a6g m k (cN m N):=by
 intro s t s0 s1 t0 t1 e a a0 a1;have h:=(L3 w s0 s1 t0 t1).mp (hN s t s0 s1 t0 t1 e);exact h a a0 a1
theorem b4R{L:i9}{k:Nat}(w:WF L k):∀(d:Nat) {i j:Int},0<=i->i<L.length->0<=j->j<L.length->Sim k L L i j->lv L d i=lv L d j
 |0,i,j,_,_,_,_,_=>by rw[z9,z9]
 |d+1,i,j,i0,i1,j0,j1,h=>by
  refine (L3 w i0 i1 j0 j1).mpr λa a0 a1=>?_
  obtain⟨h1,h2⟩:=h.step a0 a1;have n1:=w.nx i0 i1 a0 a1;have n2:=w.nx j0 j1 a0 a1;exact⟨h1,b4R w d n1.1 n1.2 n2.1 n2.2 h2⟩
theorem a2o{m:i9}{k:Nat}(w:WF m k){c:Int->Int}{r:List Int}(C:a6g m k c)(R:Rch m k r):∀(d:Nat) {s t:Int},s∈r->t∈r->lv (m9 m c r) d (pls c r s:Int)=lv (m9 m c r) d (pls c r t:Int)->lv m d s=lv m d t
 |0,s,t,_,_,_=>by rw[z9,z9]
 |d+1,s,t,hs,ht,h=>by
  have wL:=a1J (c:=c) w R;have iK:∀s:Int,0<=s->s<m.length->(rowAt m s).length=k:=λs h0 h1=>w.row h0 h1
  have s1:=R.range s hs;have t1:=R.range t ht;have p1:=a3P (c:=c) hs;have p2:=a3P (c:=c) ht;rw[<-F8 (m:=m)]at p1 p2;refine (L3 w s1.1 s1.2 t1.1 t1.2).mpr λa a0 a1=>?_
  obtain⟨h1,h2⟩:=(L3 wL (by lia) (by lia) (by lia) (by lia)).mp h a a0 a1;rw[X2 w iK C R hs a0 a1,X2 w iK C R ht a0 a1]at h1 h2;exact⟨h1,a2o w C R d (R.next hs a0 a1) (R.next ht a0 a1) h2⟩
def a5b(w:WF m k):∃L:i9,L1 [.list (m.map rwD)]=cz (.list (L.map rwD))/\Can L k/\Sim k L m 0 0/\L.length<=m.length:=by
 obtain⟨N,W,hA,hN,qW⟩:=b4N w;have R:=hA.rch;have hC:=b7n w hN;have wL:=a1J (c:=cN m N) w R;have iK:∀s:Int,0<=s->s<m.length->(rowAt m s).length=k:=λs h0 h1=>w.row h0 h1
 have hlen:(m9 m (cN m N) (W.map (·.1))).length=(fs (cN m N) (W.map (·.1))).length:=F8;refine⟨_,qW,b1W w iK hC R λi j hi hj hs=>?_,λp hp=>?_,?_⟩
 ·obtain⟨f,f1,f2,f3⟩:=a1c (c:=cN m N) (r:=W.map (·.1)) i (by lia);obtain⟨g,g1,g2,g3⟩:=a1c (c:=cN m N) (r:=W.map (·.1)) j (by lia);have e2:lv (m9 m (cN m N) (W.map (·.1))) N (pls (cN m N) (W.map (·.1)) f:Int)=lv (m9 m (cN m N) (W.map (·.1))) N (pls (cN m N) (W.map (·.1)) g:Int):=by
   rw[b4I f1,b4I g1];exact b4R wL N (by lia) (by lia) (by lia) (by lia) hs
  have e4:cN m N f=cN m N g:=a2o w hC R N f2 g2 e2;rw[e4]at f3;exact (iu (by rw[a1I];lia) X1).mp (f3.trans g3.symm)
 ·have:=a2n w iK hC R p R.zero hp;rw[a7w R,show ((0:Nat):Int)=0 from rfl]at this;rw[this]
 ·rw[hlen];have h1:(fs (cN m N) (W.map (·.1))).length<=(W.map (·.1)).length:=a8V;have h2:=R.len;lia
end Prog
namespace VS
open PySem L2
def wyD(W:a0w)(s:Nat):D:=(v5 (kvD (λns:List Int=>cU (ns.map .int)) W) (.int s)).getD .none
def c0a{W:a0w}(hn:(W.map (·.1)).Nodup){s:Nat}{p:List Int}(h:((s:Int),p)∈W):wyD W s=.list (p.map .int):=by
 unfold wyD;rw[b0e hn h];rfl
def b4S(W:a0w)(n:Nat):List D:=(ao n).map (wyD W)
end VS
namespace Prog
open PySem L2 VS
def b4T(w:WF m k)(h:t8 [.list (m.map rwD)]=cz (.dict (kvD iDl W))):a0u [.list (m.map rwD)]=cz (.list (b4S W m.length)):=by
 have hle:=w.le;unfold a0u;rw[D6 (by simp[VS.argsOk])];unfold b4f;walk_at "ev";rw[h];walk_at "ev";have hd:a5L 1 (eCl q9 (a7 (a6 0) b8)) [.list (m.map rwD),.dict (kvD iDl W)]=cz (.list (b4S W m.length)):=by
  unfold a5L;have h1:eCl q9 (a7 (a6 0) b8) [.list (m.map rwD),.dict (kvD iDl W)]=cz (.int m.length):=by walk_at "ev"
  rw[h1];show (if 0<=(m.length:Int)/\(m.length:Int)<=1000000 then cz (cU ((j6 0 (m.length:Int).toNat).map λk=>(v5 (kvD iDl W) k).getD .none)) else xn)=_;rw[aD ⟨by lia,by lia⟩,bg,a1w,bF];rfl
 rw[hd];walk_at "ev"
def b7o(w:WF m k):∃W:a0w,AllMet m k W/\a0u [.list (m.map rwD)]=cz (.list (b4S W m.length)):=by
 obtain⟨W,h,hA⟩:=b0h w;exact⟨W,hA,b4T w h⟩
abbrev GA:=List (List Int×List Int)
def C7(a:List Int):D:=.tuple (a.map .int)
def a7z(a b:List Int):aH (C7 a) (C7 b)=decide (a=b):=by
 unfold C7;simp only[aH];exact a3B a b
theorem a2p:∀a:List Int,o6 (a.map aO)=true
 |[]=>by simp only[c_,o6]
 |n::a=>by simp only[ay,o6,B7,a2p a,eO]
def a8Z(a:List Int):(C7 a).depth<=7:=by
 unfold C7;simp only[eX];have:=Y7 aO 0 (λ_=>by rw[a1v];exact az _) a;lia
def b1X(a:List Int):B7 (C7 a)=true:=by
 unfold C7;simp only[B7];exact a2p a
def b1Y(a:List Int):p7 true (C7 a)=true:=by
 unfold p7;rw[b1X,aY (a8Z a)];rfl
def dKey_i(e:Int):p7 false (.int e)=true:=by
 unfold p7;rw[show B7 (.int e)=true by simp only[B7],show (aO e).depth=0 from a1v];rfl
structure DdOk (f:Int->List Int×Int) (ss:List Int) (dd:GA):Prop where
 nd:(dd.map (·.1)).Nodup
 keys:∀a,a∈dd.map (·.1)↔∃s∈ss,(f s).1=a
 mem:∀q∈dd,∀e,e∈q.2↔∃s∈ss,f s=(q.1,e)
 nd2:∀q∈dd,q.2.Nodup
 len:dd.length<=ss.length
 b9w:∀q∈dd,q.2.length<=ss.length
theorem a3U:∀as:List (List Int),a9D true (as.map C7)=cz as
 |[]=>rfl
 |a::as=>by
  have h:intsOf (a.map aO)=cz a:=by
   induction a with
   |nil=>rfl
   |cons n a ih=>rw[ay];show (intsOf (a.map aO)).map (n::·)=_;rw[ih];rfl
  rw[ay];show (intsOf (a.map aO)).bind _=_;rw[h,eh,a3U as];rfl
end Prog
namespace VS
open PySem L2
def c1V{Z:List D}(hf:f Z=cz (.int n))(h:Z.getD i .none=.int k):b3i i f Z=cz (.nx (Z.set i (.int (k+n)))):=by
 unfold b3i;rw[hf,h];rfl
def mny(m:i9)(D:Nat)(s t:Int):Nat:=(ao (D+1)).countP λd=>decide (lv m d s=lv m d t)
def U1(m:i9)(D:Nat)(s t:Int):bp:=if mny m D s t=D+1 then .none else .list ((fu m (mny m D s t) s t).map .int)
def a7A{m:i9}{k:Nat}(w:WF m k)(D:Nat){s t:Int}(h0:0<=s)(h1:s<m.length)(h2:0<=t)(h3:t<m.length):1<=mny m D s t/\mny m D s t<=D+1/\(∀d<mny m D s t,lv m d s=lv m d t)/\∀d,mny m D s t<=d->d<=D->lv m d s≠lv m d t:=by
 obtain⟨c,e,c1,c2,c3⟩:=a3L (p:=λd=>decide (lv m d s=lv m d t)) (λd hd=>aY (a5Z w d h0 h1 h2 h3 (bB hd))) (D+1);have e':mny m D s t=c:=e;rw[e'];refine⟨?_,c1,λd hd=>bB (c2 d hd),λd hd kc=>jE (c3 d hd (by lia))⟩;rcases cG 0 c with z|z
 ·exact z
 ·have:=jE (c3 0 (by lia) (by lia));exact absurd (by rw[z9,z9]) this
end VS
namespace Prog
open PySem L2 VS
def a9a{r r':Ky}(hl:r.length=r'.length)(iU:r≠r')(h5:r.length<=1000):t9 [rwD r,rwD r']=cz (.int (fp r r':Nat)):=by
 unfold t9;rw[D6 (by simp[VS.argsOk])];unfold T9;walk_at "ev";rw[b9T];obtain⟨f1,f2,f3⟩:=a6a hl iU;obtain⟨Z',h1,rfl⟩:=a2I (c:=tB (e2 dEq (e2 q8 (a6 0) (a6 2)) (e2 q8 (a6 1) (a6 2)))) (g:=b3i 2 (eC (.int 1)))
  (I:=λj Z=>Z=[rwD r,rwD r',.int (j:Nat)]/\j<=fp r r') (Q:=λZ=>Z=[rwD r,rwD r',.int (fp r r':Nat)]) 1000
  (by
   rintro j Z ⟨rfl,hj⟩;refine⟨by lia,?_⟩;have hc:tB (e2 dEq (e2 q8 (a6 0) (a6 2)) (e2 q8 (a6 1) (a6 2))) [rwD r,rwD r',.int (j:Nat)]=cz (decide (r.getD j (0,0)=r'.getD j (0,0))):=by
    walk_at "ev";rw[b1I (by lia) (by lia),b1I (by lia) (by lia)];walk_at "ev";rw[b9U];walk_at "ev";rw[bg]
   rw[hc];rcases cG j (fp r r') with z|z
   ·refine .inr ⟨by rw[aY (f3 j z)],[rwD r,rwD r',.int ((j+1:Nat):Int)],?_,rfl,z⟩;rw[c1V (n:=1) (k:=(j:Nat)) rfl rfl];rfl
   ·have e:j=fp r r':=by lia
    subst e;exact .inl ⟨by rw[br f2],rfl⟩) 1000000 0 [rwD r,rwD r',.int 0] ⟨rfl,cE _⟩ (by lia)
 rw[h1];walk_at "ev"
theorem a2q(w:WF m k)(tY mn:D):∀(c:Nat) (s t:Int) (p:List Int) (x y:D),0<=s->s<m.length->0<=t->t<m.length->(c≠0->lv m c s≠lv m c t)->lv m (c-1) s=lv m (c-1) t->p.length+c<1000000->
  ∃s' t' x' y',U2 (o8 6) (e7 (g9 7 (eCl t9 (a7 (eCl j5 (a7 (e2 dIx (a6 0) (a6 2)) (a7 (a6 6) b8))) (a7 (eCl j5 (a7 (e2 dIx (a6 0) (a6 3)) (a7 (a6 6) b8))) b8)))) (e7 (D5 5 (.l .i) n8 (a6 7)) (e7 (g9 2 (e2 q8 (e2 q8 (e2 dIx (a6 0) (a6 2)) (a6 7)) (eC (.int 1)))) (g9 3 (e2 q8 (e2 q8 (e2 dIx (a6 0) (a6 3)) (a6 7)) (eC (.int 1)))))))
   ((ao c).map λd=>iD (lvl m d)).reverse [.list (m.map rwD),tY,.int s,.int t,mn,iD p,x,y]=cz (.nx [.list (m.map rwD),tY,.int s',.int t',mn,iD (p++fu m c s t),x',y'])
 |0,s,t,p,x,y,_,_,_,_,_,_,_=>by
  refine⟨s,t,x,y,?_⟩;show cz _=cz _;rw[show fu m 0 s t=[] from rfl,bb]
 |c+1,s,t,p,x,y,h0,h1,h2,h3,iU,heq,hlen=>by
  rw[gf,aK,List.reverse_append];have vo:=iU (by lia);obtain⟨⟨a0,a1⟩,f2,_⟩:=a9U w h0 h1 h2 h3 vo;have n1:=w.nx h0 h1 a0 a1;have n2:=w.nx h2 h3 a0 a1;have l1:=w.row h0 h1;have l2:=w.row h2 h3;have vF:=w.k5;have CU:c≠0->lv m c (stp m s (fa m c s t)).2≠lv m c (stp m t (fa m c s t)).2:=λhc=>by
   obtain⟨c',rfl⟩:∃c',c=c'+1:=⟨c-1,by lia⟩;have:=(L3 w h0 h1 h2 h3).mp heq _ a0 a1;exact f2.resolve_left (λz=>z this.1)
  have CV:lv m (c-1) (stp m s (fa m c s t)).2=lv m (c-1) (stp m t (fa m c s t)).2:=by
   cases c with
   |zero=>rw[z9,z9]
   |succ c'=>exact ((L3 w h0 h1 h2 h3).mp heq _ a0 a1).2
  obtain⟨s',t',x',y',ih⟩:=a2q w tY mn c (stp m s (fa m c s t)).2 (stp m t (fa m c s t)).2 (p++[fa m c s t]) (iD (lvl m c)) (.int (fa m c s t)) n1.1 n1.2 n2.1 n2.2 CU CV (by rw[aA];simp only[bS];lia);refine⟨s',t',x',y',?_⟩;show (o8 6 _ (iD (lvl m c))).bind _=_;show Option.bind (e7 _ _ [.list (m.map rwD),tY,.int s,.int t,mn,iD p,iD (lvl m c),y]) _=_;have hb:e7 (g9 7 (eCl t9 (a7 (eCl j5 (a7 (e2 dIx (a6 0) (a6 2)) (a7 (a6 6) b8))) (a7 (eCl j5 (a7 (e2 dIx (a6 0) (a6 3)) (a7 (a6 6) b8))) b8)))) (e7 (D5 5 (.l .i) n8 (a6 7)) (e7 (g9 2 (e2 q8 (e2 q8 (e2 dIx (a6 0) (a6 2)) (a6 7)) (eC (.int 1)))) (g9 3 (e2 q8 (e2 q8 (e2 dIx (a6 0) (a6 3)) (a6 7)) (eC (.int 1)))))) [.list (m.map rwD),tY,.int s,.int t,mn,iD p,iD (lvl m c),y]
    = cz (.nx [.list (m.map rwD),tY,.int (stp m s (fa m c s t)).2,.int (stp m t (fa m c s t)).2,mn,iD (p++[fa m c s t]),iD (lvl m c),.int (fa m c s t)]):=by
   walk_at "ev";rw[a1x h0 h1,a1x h2 h3];walk_at "ev";rw[P0 (λq hq=>by rw[T1];exact w.next _ (C8 h0 h1) q hq) (by lia),P0 (λq hq=>by rw[T1];exact w.next _ (C8 h2 h3) q hq) (by lia)];walk_at "ev";rw[a9a (by rw[a1F,a1F,l1,l2]) (λe=>vo ((a5Y h0 h1 h2 h3).mpr e)) (by rw[a1F,l1];lia)];walk_at "ev";unfold iD;rw[W1 (by rw[ai];lia)];walk_at "ev";have wB:fa m c s t<((rowAt m s).length:Int):=by rw[l1];exact a1
   have Bz:fa m c s t<((rowAt m t).length:Int):=by rw[l2];exact a1
   unfold fa at a0 wB Bz;rw[a1x h0 h1];walk_at "ev";rw[b1I a0 wB];walk_at "ev";rw[a1x h2 h3];walk_at "ev";rw[b1I a0 Bz];walk_at "ev";rw[aK];rfl
  rw[hb];have Ap:=ih;rw[aP]at Ap;exact Ap
def b1Z{m:i9}{k:Nat}(w:WF m k){D:Nat}(hD:D<=1000){s t:Int}(h0:0<=s)(h1:s<m.length)(h2:0<=t)(h3:t<m.length):A7 [.list (m.map rwD),.list ((ao (D+1)).map λd=>iD (lvl m d)),.int s,.int t]=cz (U1 m D s t):=by
 unfold A7;rw[D6 (by simp[VS.argsOk,imm])];unfold W8;obtain⟨c1,c2,c3,c4⟩:=a7A w D h0 h1 h2 h3;have hc:e2 a3i (l6 (iL (a6 1)) [2,3] pt1 tT (e2 dEq (e2 q8 (a6 0) (a6 1)) (e2 q8 (a6 0) (a6 2)))) (eC (.bool true)) [.list (m.map rwD),.list ((ao (D+1)).map λd=>iD (lvl m d)),.int s,.int t,.none,.none,.none,.none]=cz (.int (mny m D s t)):=by
  rw[v_2,N9 (enc:=λd=>iD (lvl m d)) (xs:=ao (D+1)) (λd=>.bool (decide (lv m d s=lv m d t)))]
  ·have e:(ao (D+1)).map (λd=>cX (decide (lv m d s=lv m d t)))=((ao (D+1)).map λd=>decide (lv m d s=lv m d t)).map cX:=by rw[bF];rfl
   rw[e,v_c,b8L,v_count,Gb];rfl
  ·walk_at "ev"
  ·rw[bH];lia
  ·intro d hd;refine⟨[iD (lvl m d)],rfl,?_⟩;show e2 dEq _ _ [iD (lvl m d),.int s,.int t]=_;walk_at "ev";rw[C0 h0 (by rw[T1];exact h1),C0 h2 (by rw[T1];exact h3)];walk_at "ev";rfl
 rw[bE,bE,bE,bE,bK,V8,a1S];show Z3 (thn (b5W 4 (e2 a3i (l6 (iL (a6 1)) [2,3] pt1 tT (e2 dEq (e2 q8 (a6 0) (a6 1)) (e2 q8 (a6 0) (a6 2)))) (eC (.bool true)) [.list (m.map rwD),.list ((ao (D+1)).map λd=>iD (lvl m d)),.int s,.int t,.none,.none,.none,.none]) [.list (m.map rwD),.list ((ao (D+1)).map λd=>iD (lvl m d)),.int s,.int t,.none,.none,.none,.none]) _)=_;rw[hc];walk_at "ev";rw[bH];by_cases c:mny m D s t=D+1
 ·rw[aY (show ((mny m D s t:Nat):Int)=((D+1:Nat):Int) by lia)];walk_at "ev";unfold U1;rw[aD c]
 ·rw[br (show ¬ ((mny m D s t:Nat):Int)=((D+1:Nat):Int) by lia)];walk_at "ev";rw[c3k (ds:=(ao (mny m D s t)).map λd=>iD (lvl m d))]
  ·obtain⟨s',t',x',y',h⟩:=a2q w (.list ((ao (D+1)).map λd=>iD (lvl m d))) (.int (mny m D s t:Nat)) (mny m D s t) s t [] .none .none h0 h1 h2 h3 (λ_=>c4 _ (az _) (by lia)) (c3 _ (by lia)) (by simp only[gU];lia);walk_at "ev";have h':=h;unfold iD at h' ⊢;rw[c_]at h';rw[h'];walk_at "ev";unfold U1;rw[aM c]
  ·rw[c3a];walk_at "ev";rw[c1z,c1A];walk_at "ev";rw[c3b,c1y,b9M (by lia) (by rw[ai,bH];lia),<-List.map_take,bg,pB,lu (by lia)]
def c1W(m:i9)(n D:Nat):bp:=.list ((ao n).map λ(s:Nat)=>.list ((ao n).map λ(t:Nat)=>U1 m D s t))
def a4n{m:i9}{k:Nat}(w:WF m k){D:Nat}(hD:D<=1000){s:Int}(h0:0<=s)(h1:s<m.length):E4 [.list (m.map rwD),.list ((ao (D+1)).map λd=>iD (lvl m d)),.int s]=cz (.list ((ao m.length).map λ(t:Nat)=>U1 m D s t)):=by
 unfold E4;rw[D6 (by simp[VS.argsOk,imm])];unfold a0U;have:=w.le;rw[a9u,a5Q (n:=m.length) (λ(t:Nat)=>U1 m D s t) (by walk_at "ev") (by lia) (by lia) (λt ht=>?_)]
 ·rw[bg];rfl
 ·show eCl A7 _ [.int t,.list (m.map rwD),.list ((ao (D+1)).map λd=>iD (lvl m d)),.int s]=_;walk_at "ev";exact b1Z w hD h0 h1 (by lia) ht
def b4U{m:i9}{k:Nat}(w:WF m k){D:Nat}(h1:D0 [.list (m.map rwD)]=cz (.list ((ao (D+1)).map λd=>iD (lvl m d))))(hD:D<=1000):a0W [.list (m.map rwD)]=cz (c1W m m.length D):=by
 have:=w.le;unfold a0W;rw[D6 (by simp[VS.argsOk])];unfold a9M;walk_at "ev";rw[h1];walk_at "ev";rw[a5Q (n:=m.length) (λ(s:Nat)=>.list ((ao m.length).map λ(t:Nat)=>U1 m D s t)) (by walk_at "ev") (by lia) (by lia) (λs hs=>?_)]
 ·rw[bg];rfl
 ·show eCl E4 _ [.int s,.list (m.map rwD),.list ((ao (D+1)).map λd=>iD (lvl m d))]=_;walk_at "ev";exact a4n w hD (by lia) hs
def b4V{m:i9}{k:Nat}(w:WF m k):∃D:Nat,a0W [.list (m.map rwD)]=cz (c1W m m.length D)/\D+1<=m.length/\
  ∀s t:Int,0<=s->s<m.length->0<=t->t<m.length->lv m D s=lv m D t->lv m (D+1) s=lv m (D+1) t:=by
 obtain⟨D,h1,h2,h3,h4⟩:=a5a w;have:=w.le;exact⟨D,b4U w h1 (by lia),h2,h4⟩
end Prog
namespace VS
open PySem L2
theorem b0k(w:WF m k):∀(c:Nat) (s t:Int),0<=s->s<m.length->0<=t->t<m.length->(c≠0->lv m c s≠lv m c t)->lv m (c-1) s=lv m (c-1) t->∀a∈fu m c s t,0<=a/\a<(k:Int)
 |0,s,t,_,_,_,_,_,_,a,ha=>nomatch ha
 |c+1,s,t,h0,h1,h2,h3,iU,heq,a,ha=>by
  obtain⟨⟨a0,a1⟩,f2,_⟩:=a9U w h0 h1 h2 h3 (iU (by lia));rcases aI.mp ha with e|ha
  ·rw[e];exact⟨a0,a1⟩
  ·have n1:=w.nx h0 h1 a0 a1;have n2:=w.nx h2 h3 a0 a1;refine b0k w c _ _ n1.1 n1.2 n2.1 n2.2 (λhc=>?_) ?_ a ha
   ·obtain⟨c',rfl⟩:∃c',c=c'+1:=⟨c-1,by lia⟩;exact f2.resolve_left λz=>z ((L3 w h0 h1 h2 h3).mp heq _ a0 a1).1
   ·cases c with
    |zero=>rw[z9,z9]
    |succ c'=>exact ((L3 w h0 h1 h2 h3).mp heq _ a0 a1).2
end VS
namespace Prog
open PySem L2 VS
def Q5(g:List Int->D)(l:List (List Int)):List (D×D):=l.map λp=>(C7 p,g p)
def a2y(p:List Int)(l:List (List Int)):List (List Int):=if p∈l then l else l++[p]
section
variable {g:List Int->D}{l:List (List Int)}{a:List Int}
def b4W:(Q5 g l).length=l.length:=ai ..
theorem a5c(a:List Int):∀l:List (List Int),K5 (Q5 g l) (C7 a)=decide (a∈l)
 |[]=>rfl
 |q::l=>by
  have ih:=a5c a l;unfold K5 Q5 at ih ⊢;rw[ay,List.any_cons,ih,a7z,Bool.eq_iff_iff];simp only[ly,Bv,aI];exact or_congr_left eq_comm
def b4X:K2 (Q5 g l) (C7 a) (g a)=Q5 g (a2y a l):=by
 unfold K2 a2y;rw[a5c];by_cases c:a∈l
 ·rw[aY c,aD rfl,aD c];unfold Q5;rw[bF];refine bA λx _=>?_
  show (if aH (C7 x) (C7 a)=true then (C7 x,g a) else (C7 x,g x))=(C7 x,g x);rw[a7z];by_cases e:x=a
  ·rw[aY e,aD rfl,e]
  ·rw[br e,aM cw]
 ·rw[br c,aM c,aM cw];unfold Q5;rw[aK];rfl
def b2a:(Q5 g l).map (·.1)=l.map C7:=by unfold Q5;rw[bF];rfl
def b0l{Z:List D}(hv:fv Z=cz (g a))(hk:fk Z=cz (C7 a))(hd:Z.getD i .none=.dict (Q5 g l))(hl:l.length<1000000):E7 i true fk fv Z=cz (.nx (Z.set i (.dict (Q5 g (a2y a l))))):=by
 rw[a8S hv hk hd (b1Y a) (by rw[b4W];exact hl),b4X]
def a7B:q∈a2y p l↔q∈l∨q=p:=by
 unfold a2y;by_cases c:p∈l
 ·rw[aD c];exact⟨.inl,λh=>h.elim id λe=>e▸c⟩
 ·rw[aM c,ar,aq]
def a7C:(a2y p l).length<=l.length+1:=by
 unfold a2y;by_cases c:p∈l
 ·rw[aD c];lia
 ·rw[aM c,aA];exact az _
end
def c1X(l:List (List Int)):Option (List Int)->List (List Int)
 |none=>l
 |some p=>a2y p l
def ddP(ps:List (Option (List Int))):List (List Int):=ps.foldl c1X []
def a3V(ps:List (Option (List Int)))(o:Option (List Int)):ddP (ps++[o])=c1X (ddP ps) o:=by unfold ddP;rw[ki];rfl
def b7p(ps:List (Option (List Int))):p∈ddP ps↔cz p∈ps:=by
 induction ps using snoc_ind with
 |h0=>exact⟨λh=>(nomatch h),λh=>(nomatch h)⟩
 |h1 ps o ih=>
  rw[a3V,ar,aq];cases o with
  |none=>exact ih.trans ⟨.inl,λh=>h.elim id λe=>nomatch e⟩
  |some q=>
   show p∈a2y q (ddP ps)↔_;rw[a7B,ih];exact or_congr_right ⟨λe=>by rw[e],λe=>aE e⟩
def a6i(ps:List (Option (List Int))):(ddP ps).length<=ps.length:=by
 induction ps using snoc_ind with
 |h0=>exact az _
 |h1 ps o ih=>
  rw[a3V,aA];cases o with
  |none=>exact nJ ih
  |some q=>exact cV a7C (Nat.succ_le_succ ih)
def F9(l:List (List Int)):(U3 l).Perm l:=by
 have h:=(a1r (l.map a1s)).map sr;rw[bF]at h;have e:l.map (sr ∘ a1s)=l:=List.map_id'' (f:=sr ∘ a1s) (λ_=>rfl) l;rw[e]at h;exact h
def a7D{Z:List D}(h:a Z=cz (.dict (Q5 g l)))(hl:l.length<65536)(hm:∀p∈l,m [C7 p]=cz (kdP p)):a0q m a Z=cz (.list ((U3 l).map C7)):=by
 unfold a0q;rw[h,eh];show (cz ((Q5 g l).map (·.1))).bind _=_;rw[eh,b2a,a3U,eh,aD (b6B (l:=false) hl hm)];rfl
def b7L{fa fb:EvE}{Z:List D}{d:D}{k:Bool}(h:fa Z=cz d)(hk:tr d=cz k):b6D fa fb Z=if k then cz d else fb Z:=by
 unfold b6D;rw[h,eh,hk,eh]
def a7E(a:List Int):imm (C7 a)=true:=by unfold C7;simp only[imm];exact w6 a
def b0m(p:List Int):a0t [C7 p]=cz (kdP p):=by
 unfold a0t C7;rw[D6 (by simp[VS.argsOk,imm,w6])];unfold b4c;walk_at "ev";rfl
def mkL(l:List (List Int)):List (List Int):=if l=[] then [[]] else U3 l
def a3W(ps:List (Option (List Int)))(hl:ps.length<64):B8 [.list (ps.map a2x)]=cz (.list ((mkL (ddP ps)).map iD)):=by
 have DO:=a6i ps;unfold B8;rw[D6 (by simp[VS.argsOk])];unfold a0d;walk_at "ev";refine K8 (λZ=>∃x,Z=[.list (ps.map a2x),.dict (Q5 (λ_=>cX true) (ddP ps)),x]) ?_ ?_
 ·obtain⟨Z',h1,x,rfl⟩:=u6 (enc:=a2x) (set:=o8 2) (xs:=ps) (g:=(sIf (tB (e2 (a7U true) (a6 2) (eC .none))) (E7 1 true (V2 (a6 2)) (eC (.bool true))) E1)) (Z:=[.list (ps.map a2x),.dict [],.none])
   (λpre Z=>∃x,Z=[.list (ps.map a2x),.dict (Q5 (λ_=>cX true) (ddP pre)),x]) ⟨_,rfl⟩ (by
    rintro pre o post e Z ⟨x,rfl⟩;have hlen:pre.length<64:=by have:=dH et e;simp at this;lia
    have hd2:=a6i pre;refine⟨_,[.list (ps.map a2x),.dict (Q5 (λ_=>cX true) (ddP (pre++[o]))),a2x o],rfl,?_,_,rfl⟩;rw[a3V];cases o with
    |none=>
     show (sIf (tB (e2 (a7U true) (a6 2) (eC .none))) (E7 1 true (V2 (a6 2)) (eC (.bool true))) E1) [.list (ps.map a2x),.dict (Q5 (λ_=>cX true) (ddP pre)),.none]=_;walk_at "ev";rfl
    |some p=>
     show (sIf (tB (e2 (a7U true) (a6 2) (eC .none))) (E7 1 true (V2 (a6 2)) (eC (.bool true))) E1) [.list (ps.map a2x),.dict (Q5 (λ_=>cX true) (ddP pre)),.list (p.map .int)]=_;walk_at "ev";rw[b0l (g:=(λ_=>cX true)) (a:=p) (l:=ddP pre) rfl (a6c (ds:=p.map .int) rfl (w6 p)) rfl (by lia)];rfl)
  exact⟨_,h1,_,rfl⟩
 ·rintro Z ⟨x,rfl⟩;have ud:(U3 (ddP ps)).length<=1000000:=by rw[(F9 _).length_eq];lia
  have hc:(l6 (iI (iL (a0q a0t (a6 1)))) [] pt1 tT (eI (K1 (a6 0)))) [.list (ps.map a2x),.dict (Q5 (λ_=>cX true) (ddP ps)),x]=cz (.list ((U3 (ddP ps)).map iD)):=by
   refine N9 (enc:=C7) (xs:=U3 (ddP ps)) iD ?_ ud λp _=>⟨[C7 p],rfl,?_⟩
   ·rw[a1u (ds:=(U3 (ddP ps)).map C7) ?_ (l8 _ a7E _)];rw[b1G,a7D (g:=(λ_=>cX true)) (l:=ddP ps) rfl (by lia) λp _=>b0m p];rfl
   ·have hi:=w6 p;show eI (K1 (a6 0)) [.tuple (p.map .int)]=_;walk_at "ev"
  walk_at "ev";unfold mkL;by_cases c:ddP ps=[]
  ·rw[aD c];rw[c]at hc;rw[c,b7L (k:=false) hc rfl];rfl
  ·rw[aM c];cases h:U3 (ddP ps) with
   |nil=>
    have:=(F9 (ddP ps)).symm;rw[h]at this;exact absurd this.eq_nil c
   |cons a l=>
    rw[h]at hc;rw[b7L (k:=true) hc rfl];rfl
def a2r(m:i9)(D:Nat)(s t:Int):Option (List Int):=if mny m D s t=D+1 then xn else cz (fu m (mny m D s t) s t)
def b7q(m:i9)(D:Nat)(s t:Int):a2x (a2r m D s t)=U1 m D s t:=by
 unfold a2r U1;by_cases c:mny m D s t=D+1
 ·rw[aD c,aD c];rfl
 ·rw[aM c,aM c];rfl
def a7F(m:i9)(D:Nat)(s:Int):List (List Int):=ddP ((ao m.length).map λ(t:Nat)=>a2r m D s t)
def mks(m:i9)(D:Nat)(s:Int):List (List Int):=mkL (a7F m D s)
def b4Y(w:WF m k):∃D:Nat,a2H [.list (m.map rwD)]=cz (.list ((ao m.length).map λ(s:Nat)=>cU ((mks m D s).map iD)))/\D+1<=m.length/\
  ∀s t:Int,0<=s->s<m.length->0<=t->t<m.length->lv m D s=lv m D t->lv m (D+1) s=lv m (D+1) t:=by
 have hn:=w.le;obtain⟨D,ha,hD,nY⟩:=b4V w;refine⟨D,?_,hD,nY⟩;unfold a2H;rw[D6 (by simp[VS.argsOk])];unfold a9O;walk_at "ev";rw[N9 (enc:=λ(s:Nat)=>cU ((ao m.length).map λ(t:Nat)=>U1 m D s t)) (xs:=ao m.length) (λ(s:Nat)=>cU ((mks m D s).map iD)) ?_ (by rw[bH];lia) ?_]
 ·rfl
 ·walk_at "ev";rw[ha];rfl
 ·intro s _;refine⟨[_],rfl,?_⟩;show eCl B8 (a7 (a6 0) b8) [cU ((ao m.length).map λ(t:Nat)=>U1 m D s t)]=_;have e:((ao m.length).map λ(t:Nat)=>U1 m D s t)=(((ao m.length).map λ(t:Nat)=>a2r m D s t).map a2x):=by
   rw[bF];exact bA λt _=>(b7q m D s t).symm
  walk_at "ev";rw[e,a3W _ (by rw[ai,bH];lia)];rfl
section
variable {m:i9}{k D:Nat}(w:WF m k)(nY:∀s t:Int,0<=s->s<m.length->0<=t->t<m.length->lv m D s=lv m D t->lv m (D+1) s=lv m (D+1) t)
include w
theorem a9b{s t:Int}{p:List Int}(s0:0<=s)(s1:s<m.length)(t0:0<=t)(t1:t<m.length)(h:a2r m D s t=cz p):∃c,p=fu m c s t/\1<=c/\c<=D/\lv m c s≠lv m c t/\lv m (c-1) s=lv m (c-1) t:=by
 obtain⟨c1,c2,c3,c4⟩:=a7A w D s0 s1 t0 t1;unfold a2r at h;by_cases c:mny m D s t=D+1
 ·rw[aD c]at h;cases h
 ·rw[aM c]at h;cases h
  exact⟨mny m D s t,rfl,c1,by lia,c4 _ (az _) (by lia),c3 _ (by lia)⟩
theorem b4Z{s:Int}{p:List Int}:p∈a7F m D s↔∃t:Nat,t<m.length/\a2r m D s t=cz p:=by
 unfold a7F;rw[b7p,aJ];exact⟨λ⟨t,ht,e⟩=>⟨t,bw.mp ht,e⟩,λ⟨t,ht,e⟩=>⟨t,bw.mpr ht,e⟩⟩
theorem b0n{s:Int}(s0:0<=s)(s1:s<m.length){p:List Int}(h:p∈a7F m D s):(∀a∈p,0<=a/\a<(k:Int))/\1<=p.length/\p.length<=D:=by
 obtain⟨t,ht,e⟩:=(b4Z w).mp h;obtain⟨c,rfl,c1,c2,c3,c4⟩:=a9b w s0 s1 (by lia) (by lia) e;rw[b4n];exact⟨b0k w c s t s0 s1 (by lia) (by lia) (λ_=>c3) c4,c1,c2⟩
theorem b7r(h:p∈mks m D s):p∈a7F m D s∨p=[]/\mks m D s=[[]]:=by
 unfold mks mkL at h ⊢;by_cases c:a7F m D s=[]
 ·rw[aD c]at h ⊢;exact .inr ⟨aq.mp h,rfl⟩
 ·rw[aM c]at h ⊢;exact .inl ((F9 _).mem_iff.mp h)
theorem c0b{s:Int}(s0:0<=s)(s1:s<m.length){p:List Int}(h:p∈mks m D s):(∀a∈p,0<=a/\a<(k:Int))/\p.length<=D:=by
 rcases b7r w h with z|⟨rfl,_⟩
 ·exact⟨(b0n w s0 s1 z).1,(b0n w s0 s1 z).2.2⟩
 ·exact⟨λa ha=>(nomatch ha),cE _⟩
theorem b7s(s:Int):(mks m D s).length<=31:=by
 have hn:=w.le;have h:(a7F m D s).length<=m.length:=by
  have:=a6i ((ao m.length).map λ(t:Nat)=>a2r m D s t);rw[ai,bH]at this;exact this
 unfold mks mkL;by_cases c:a7F m D s=[]
 ·rw[aD c];decide
 ·rw[aM c,(F9 _).length_eq];lia
end
end Prog
namespace VS
open PySem L2
def lng(k:Nat)(L:List (List Int)):List (List Int):=L.flatMap λr=>(ao k).map λ(x:Nat)=>r++[(x:Int)]
def lvR(k:Nat):Nat->List (List Int)
 |0=>[[]]
 |n+1=>lng k (lvR k n)
def J9(k:Nat):Nat->List (List Int)
 |0=>[[]]
 |n+1=>J9 k n++lvR k (n+1)
theorem a6j(k:Nat):∀L:List (List Int),(lng k L).length=L.length*k
 |[]=>by simp[lng]
 |x::L=>by
  have e:lng k (x::L)=((ao k).map λ(y:Nat)=>x++[(y:Int)])++lng k L:=rfl;rw[e,aA,ai,bH,a6j k L,aS,Nat.add_mul,Nat.one_mul,jC]
theorem a6k(k:Nat):∀n,(lvR k n).length=k^n
 |0=>rfl
 |n+1=>by
  show (lng k (lvR k n)).length=_;rw[a6j,a6k k n,Nat.pow_succ]
theorem a6l(k:Nat)(hk:1<=k):∀n,(J9 k n).length<=(n+1)*k^n
 |0=>by simp[J9]
 |n+1=>by
  show (J9 k n++lvR k (n+1)).length<=_;rw[aA,a6k];have h1:=a6l k hk n;have h2:k^n<=k^(n+1):=wC hk (wD n);have h3:(n+1)*k^n<=(n+1)*k^(n+1):=Nat.mul_le_mul_left _ h2;rw[Nat.add_mul (n+1) 1,Nat.one_mul];lia
def b7t(h:∀r∈L,r.length=n):∀r∈lng k L,r.length=n+1:=by
 intro r hr;obtain⟨q,hq,hr⟩:=cO.mp hr;obtain⟨x,_,rfl⟩:=aJ.mp hr;rw[aA,h q hq];rfl
theorem a9c(k:Nat):∀n,∀r∈lvR k n,r.length=n
 |0,r,h=>by rw[aq.mp h];rfl
 |n+1,r,h=>b7t (a9c k n) r h
theorem b0o(k:Nat):∀n,∀r∈J9 k n,r.length<=n
 |0,r,h=>by rw[aq.mp h];exact az _
 |n+1,r,h=>by
  rcases ar.mp h with z|z
  ·exact nJ (b0o k n r z)
  ·rw[a9c k (n+1) r z];exact az _
def lD(r:List Int):D:=.list (r.map .int)
end VS
namespace Prog
open PySem L2 VS
def b2b{k n:Nat}{L:List (List Int)}(hk:k<=5)(hl:L.length<=10000)(hm:∀r∈L,r.length=n)(hn:n<=100):p9 [.list (L.map lD),.int k]=cz (.list ((lng k L).map lD)):=by
 unfold p9;rw[D6 (by simp[VS.argsOk,imm])];unfold Q2;walk_at "ev";refine K8 (λZ=>∃x,Z=[.list (L.map lD),.int k,.list ((lng k L).map lD),x]) ?_ ?_
 ·obtain⟨Z',g1,x,rfl⟩:=u6 (enc:=lD) (set:=o8 3) (xs:=L) (g:=(a6S 2 (l6 (iR (a6 1)) [3] pt1 tT (eI (R6 (a6 1) (x5 (a7 (a6 0) b8))))))) (Z:=[.list (L.map lD),.int k,.list [],.none])
   (λpre Z=>∃x,Z=[.list (L.map lD),.int k,.list ((lng k pre).map lD),x]) ⟨_,rfl⟩ (by
    rintro pre r post e Z ⟨x,rfl⟩;have hr:=hm r (by rw[e];simp);have gH:pre.length<L.length:=by rw[e];simp
    have hc:(l6 (iR (a6 1)) [3] pt1 tT (eI (R6 (a6 1) (x5 (a7 (a6 0) b8))))) [.list (L.map lD),.int k,.list ((lng k pre).map lD),lD r]=cz (.list (((ao k).map λ(x:Nat)=>r++[(x:Int)]).map lD)):=by
     rw[a5Q (n:=k) (λ(x:Nat)=>lD (r++[(x:Int)])) (by walk_at "ev") (by lia) (by lia)]
     ·rw[bg,bF];rfl
     ·intro x hx;show eI (R6 (a6 1) (x5 (a7 (a6 0) b8))) [.int x,.list (r.map .int)]=_;rw[a4Q,a9K];walk_at "ev";rw[show b1H (cz (.list (r.map .int))) (cz (.list [.int (x:Int)]))=_ from a3C (xs:=r) (ys:=[(x:Int)]) (by simp;lia)];exact a5S
    refine⟨_,[.list (L.map lD),.int k,.list ((lng k (pre++[r])).map lD),lD r],rfl,?_,_,rfl⟩;show a6S 2 _ [.list (L.map lD),.int k,.list ((lng k pre).map lD),lD r]=_;unfold a6S;rw[hc,eh];show (if ((lng k pre).map lD).length+(((ao k).map λ(x:Nat)=>r++[(x:Int)]).map lD).length<=1000000 then cz (Out.nx [.list (L.map lD),.int k,.list ((lng k pre).map lD++(((ao k).map λ(x:Nat)=>r++[(x:Int)]).map lD)),lD r]) else xn)=_;have h1:pre.length*k<=10000*5:=md (by lia) hk;rw[aD (by rw[ai,a6j,ai,ai,bH];lia)];have e2:lng k (pre++[r])=lng k pre++((ao k).map λ(x:Nat)=>r++[(x:Int)]):=by
     unfold lng;rw[dG,List.flatMap_singleton]
    rw[e2,aK])
  exact⟨_,g1,_,rfl⟩
 ·rintro Z ⟨x,rfl⟩;walk_at "ev"
def a9d{k n:Nat}(p_:1<=k)(hk:k<=5)(hn:n<=31)(hp:k^n<=3125):Y9 [.int k,.int n]=cz (.list ((J9 k n).map lD)):=by
 unfold Y9;rw[D6 (by simp[VS.argsOk,imm])];unfold a4V;walk_at "ev";rw[a4d (n:=n) (by walk_at "ev") (by lia) (by lia),bg];walk_at "ev";refine K8 (λZ=>∃x y,Z=[.int k,.int n,.list ((J9 k n).map lD),x,y]) ?_ ?_
 ·obtain⟨Z',g1,x,rfl⟩:=C6 (n:=n) (set:=o8 4) (g:=(e7 (g9 3 (eCl p9 (a7 (a6 3) (a7 (a6 0) b8)))) (a1W 2 3))) (Z:=[.int k,.int n,.list [.list []],.list [.list []],.none])
   (λj Z=>∃x,Z=[.int k,.int n,.list ((J9 k j).map lD),.list ((lvR k j).map lD),x]) ⟨_,rfl⟩ (by
    rintro j hj Z ⟨x,rfl⟩;have yC:∀i,i<=n->k^i<=3125:=λi hi=>cV (wC p_ hi) hp
    refine⟨_,[.int k,.int n,.list ((J9 k (j+1)).map lD),.list ((lvR k (j+1)).map lD),.int j],rfl,?_,_,rfl⟩;show (e7 (g9 3 (eCl p9 (a7 (a6 3) (a7 (a6 0) b8)))) (a1W 2 3)) [.int k,.int n,.list ((J9 k j).map lD),.list ((lvR k j).map lD),.int j]=_;walk_at "ev";rw[b2b hk (by rw[a6k];have:=yC j (by lia);lia) (a9c k j) (by lia)];walk_at "ev";show (if ((J9 k j).map lD).length+((lng k (lvR k j)).map lD).length<=1000000 then cz (Out.nx [.int k,.int n,.list ((J9 k j).map lD++(lng k (lvR k j)).map lD),.list ((lng k (lvR k j)).map lD),.int j]) else xn)=_;have h1:=a6l k p_ j;have h2:(j+1)*k^j<=32*3125:=md (by lia) (yC j (by lia));have h3:(lng k (lvR k j)).length=k^(j+1):=a6k k (j+1);have h4:=yC (j+1) (by lia);rw[aD (by rw[ai,ai,h3];lia),<-aK];rfl)
  exact⟨_,g1,_,_,rfl⟩
 ·rintro Z ⟨x,y,rfl⟩;walk_at "ev"
def rF(a:Int):Nat->Int
 |0=>1
 |n+1=>rF a n*a+1
def szF(s a e:Int):Int:=s*rF a (e+1).toNat*(if 1<s then s-1 else 1)
def b7u(s a e:Int)(s0:1<=s)(s1:s<=30)(a0:1<=a)(a1:a<=5)(e0:0<=e)(e1:e<=30):N8 [.int s,.int a,.int e]=cz (.int (szF s a e)):=by
 unfold N8;rw[D6 (by simp[VS.argsOk,imm])];unfold a2k;walk_at "evm";rw[a4d (n:=e+1) (by walk_at "evm") (by lia) (by lia)];walk_at "evm";refine K8 (λZ=>∃x,Z=[.int s,.int a,.int e,.int (rF a (e+1).toNat),x]) ?_ ?_
 ·exact C6 (n:=(e+1).toNat) (λk Z=>∃x,Z=[.int s,.int a,.int e,.int (rF a k),x]) ⟨_,rfl⟩ λk hk Z ⟨x,hx⟩=>by
   subst hx;refine⟨_,_,rfl,?_,.int k,rfl⟩;walk_at "evm";rfl
 ·rintro Z ⟨x,rfl⟩;walk_at "evm";show Z3 (retS (l2 O5 (cz (.int (s*rF a (e+1).toNat))) (cz (.int (if 1>s-1 then 1 else s-1)))))=_;have e:(if (1:Int)>s-1 then 1 else s-1)=if 1<s then s-1 else 1:=by
   by_cases c:(1:Int)>s-1
   ·rw[aD c];by_cases d:1<s
    ·rw[aD d];lia
    ·rw[aM d]
   ·rw[aM c,aD (by lia)]
  rw[e];have hb:((if 1<s then s-1 else 1:Int)).natAbs<2^64:=by
   by_cases d:1<s
   ·rw[aD d];lia
   ·rw[aM d];decide
  rw[b8L,a5E hb];rfl
end Prog
local macro_rules | `(tactic| walk_at "evc")=>`(tactic| first | (walk_at "ev";repeat (simp -implicitDefEqProofs (disch:=first | omega | assumption | decide) only [Prog.a3K];try walk_at "ev")) | (simp -implicitDefEqProofs (disch:=first | omega | assumption | decide) only [Prog.a3K];repeat (first | walk_at "ev" | simp -implicitDefEqProofs (disch:=first | omega | assumption | decide) only [Prog.a3K])))
namespace Prog
open PySem L2 VS
def b2c(ns:List Int):∃mn:List Int,m_law_pool [.list (ns.map .int),.int 2]=cz (.list (mn.map .int))/\mn.length=2:=by
 unfold m_law_pool;rw[D6 (by simp[VS.argsOk,imm])];unfold b_law_pool;walk_at "evc";by_cases c:u9 ns 2 % 3=0
 ·rw[aY c];walk_at "evc";exact⟨[_,_],rfl,rfl⟩
 ·rw[br c];walk_at "evc";by_cases c2:u9 ns 2 % 3=1
  ·rw[aY c2];walk_at "evc";exact⟨[_,_],rfl,rfl⟩
  ·rw[br c2];walk_at "evc";have x0:=b6W ns (2+1);have x1:u9 ns (2+1)<2147483629:=de _ (by decide);have hp:b0F (u9 ns (2+1)) 7=true:=by
    unfold b0F;simp only[aB,Bv];exact⟨⟨by decide,by decide⟩,by lia⟩
   rw[v_pow (i:=10) (j:=60) (by decide),v_pow hp];have ED:(10^(60:Int).toNat:Int)=big:=by decide
   rw[ED];have Cd:=b9N;generalize big=T at Cd;walk_at "evc";rw[a0l (i:=2) (by decide)];walk_at "evc"
   try rw[v_mod (by lia)]
   try walk_at "evc"
   exact⟨[_,_],rfl,rfl⟩
local macro_rules | `(tactic| walk_at "ev1")=>`(tactic| simp -implicitDefEqProofs only [VS.a1S,VS.a9t,VS.a9s,VS.a2C,VS.a0k,VS.V7,fZ,dX])
def a6m(ns:List Int):∃(m:i9) (k:Nat),m_law_machine [.list (ns.map .int)]=cz (.list (m.map rwD))/\WF m k/\m.length<=4/\k<=3:=by
 unfold m_law_machine;rw[D6 (by simp[VS.argsOk])];unfold b_law_machine;walk_at "evc";have a0:=dN (u9 ns 0) (show (4:Int)≠0 by decide);have a1:=de (u9 ns 0) (show (0:Int)<4 by decide);have b0:=dN (u9 ns 1) (show (3:Int)≠0 by decide);have b1:=de (u9 ns 1) (show (0:Int)<3 by decide);obtain⟨n,hn⟩:∃n:Nat,1+u9 ns 0 % 4=n:=⟨(1+u9 ns 0 % 4).toNat,by lia⟩;obtain⟨k,hk⟩:∃k:Nat,1+u9 ns 1 % 3=k:=⟨(1+u9 ns 1 % 3).toNat,by lia⟩;rw[hn,hk];have n1:1<=n:=by lia
 have n4:n<=4:=by lia
 have k1:1<=k:=by lia
 have k3:k<=3:=by lia
 obtain⟨mn,hm,qE⟩:=b2c ns;rw[hm];walk_at "evc";rw[a4d (n:=n) (by walk_at "evc") (by lia) (by lia),bg];walk_at "evc";have row:∀s:Nat,s<n->∀(rows:D) (y z:D),∃(r:List (Int×Int)) (x' y':D),r.length=k/\(∀p∈r,0<=p.2/\p.2<(n:Int))/\
   (y6 (iR (a6 2)) (o8 7) (e7 (g9 8 (eCl m_law_mixed (a7 (a6 0) (a7 (e2 t5 (e2 t5 (eC (.int 10)) (e2 O5 (a6 5) (a6 2))) (a6 7)) b8)))) (D5 6 (.l .i) n8 (O7 (a7 (e2 C3 (a6 3) (e2 v9 (a6 8) (eC (.int 2)))) (a7 (e2 v9 (e2 b0E (a6 8) (eC (.int 6))) (a6 1)) b8))))))
    [.list (ns.map .int),.int n,.int k,.list (mn.map .int),rows,.int s,.list [],y,z]=cz (.nx [.list (ns.map .int),.int n,.int k,.list (mn.map .int),rows,.int s,rwD r,x',y']):=by
  intro s hs rows y z;walk_at "evc";rw[a4d (n:=k) (by walk_at "evc") (by lia) (by lia),bg];walk_at "evc";obtain⟨Z',h1,r,x',y',h2,h3,rfl⟩:=C6 (n:=k) (set:=o8 7) (g:=(e7 (g9 8 (eCl m_law_mixed (a7 (a6 0) (a7 (e2 t5 (e2 t5 (eC (.int 10)) (e2 O5 (a6 5) (a6 2))) (a6 7)) b8)))) (D5 6 (.l .i) n8 (O7 (a7 (e2 C3 (a6 3) (e2 v9 (a6 8) (eC (.int 2)))) (a7 (e2 v9 (e2 b0E (a6 8) (eC (.int 6))) (a6 1)) b8))))))
   (Z:=[.list (ns.map .int),.int n,.int k,.list (mn.map .int),rows,.int s,.list [],y,z])
   (λj Z=>∃(r:List (Int×Int)) (x' y':D),r.length=j/\(∀p∈r,0<=p.2/\p.2<(n:Int))/\Z=[.list (ns.map .int),.int n,.int k,.list (mn.map .int),rows,.int s,rwD r,x',y'])
   ⟨[],y,z,rfl,λp hp=>(nomatch hp),rfl⟩ (by
    rintro j hj Z ⟨r,x',y',hr,hp,rfl⟩;have Fw:(s:Int)*(k:Int)<=30*5:=by
     have:s*k<=30*5:=md (by lia) (by lia)
     exact_mod_cast this
    have CD:0<=(s:Int)*(k:Int):=Int.mul_nonneg (by lia) (by lia);have c0:=dN (u9 ns (10+(s:Int)*k+j)) (show (2:Int)≠0 by decide);have c1:=de (u9 ns (10+(s:Int)*k+j)) (show (0:Int)<2 by decide);have d0:=dN (u9 ns (10+(s:Int)*k+j) / 6) (show ((n:Int))≠0 by lia);have d1:=de (u9 ns (10+(s:Int)*k+j) / 6) (show (0:Int)<(n:Int) by lia);refine⟨_,[.list (ns.map .int),.int n,.int k,.list (mn.map .int),rows,.int s,rwD (r++[(mn.getD (u9 ns (10+(s:Int)*k+j) % 2).toNat 0,u9 ns (10+(s:Int)*k+j) / 6 % n)]),.int j,.int (u9 ns (10+(s:Int)*k+j))],rfl,?_,_,_,_,by simp[hr],?_,rfl⟩
    ·walk_at "evc";rw[a0l (i:=s) (by lia)];walk_at "evc";rw[C0 c0 (by rw[qE];exact c1)];walk_at "evc";unfold rwD;rw[W1 (by simp;lia),aK];rfl
    ·intro p CN;rcases ar.mp CN with z|z
     ·exact hp p z
     ·rw[aq.mp z];exact⟨d0,d1⟩)
  exact⟨r,x',y',h2,h3,h1⟩
 refine Q1 (R:=λo=>∃(m:i9) (k:Nat),o=cz (.list (m.map rwD))/\WF m k/\m.length<=4/\k<=3) (λZ=>∃(m:i9) (x y z w:D),m.length=n/\(∀r∈m,r.length=k/\∀p∈r,0<=p.2/\p.2<(n:Int))/\Z=[.list (ns.map .int),.int n,.int k,.list (mn.map .int),.list (m.map rwD),x,y,z,w]) ?_ ?_
 ·obtain⟨Z',h1,h2⟩:=C6 (n:=n) (set:=o8 5) (Z:=[.list (ns.map .int),.int n,.int k,.list (mn.map .int),.list [],.none,.none,.none,.none])
   (g:=(e7 (g9 6 (x5 b8)) (e7 (y6 (iR (a6 2)) (o8 7) (e7 (g9 8 (eCl m_law_mixed (a7 (a6 0) (a7 (e2 t5 (e2 t5 (eC (.int 10)) (e2 O5 (a6 5) (a6 2))) (a6 7)) b8)))) (D5 6 (.l .i) n8 (O7 (a7 (e2 C3 (a6 3) (e2 v9 (a6 8) (eC (.int 2)))) (a7 (e2 v9 (e2 b0E (a6 8) (eC (.int 6))) (a6 1)) b8)))))) (D5 4 (.l (.l .i)) n8 (a6 6)))))
   (λj Z=>∃(m:i9) (x y z w:D),m.length=j/\(∀r∈m,r.length=k/\∀p∈r,0<=p.2/\p.2<(n:Int))/\Z=[.list (ns.map .int),.int n,.int k,.list (mn.map .int),.list (m.map rwD),x,y,z,w])
   ⟨[],.none,.none,.none,.none,rfl,λr hr=>(nomatch hr),rfl⟩ (by
    rintro j hj Z ⟨m,x,y,z,w,pH,qE,rfl⟩;obtain⟨r,x',y',yB,yA,CI⟩:=row j hj (.list (m.map rwD)) z w;refine⟨_,[.list (ns.map .int),.int n,.int k,.list (mn.map .int),.list ((m++[r]).map rwD),.int j,rwD r,x',y'],rfl,?_,m++[r],_,_,_,_,by simp[pH],?_,rfl⟩
    ·rw[V8];walk_at "ev1";rw[V8,CI];walk_at "evc";rw[W1 (by simp;lia),aK];rfl
    ·intro q hq;rcases ar.mp hq with c|c
     ·exact qE q c
     ·rw[aq.mp c];exact⟨yB,yA⟩)
  exact⟨Z',h1,h2⟩
 ·rintro Z ⟨m,x,y,z,w,h1,h2,rfl⟩;walk_at "evc";exact⟨m,k,rfl,⟨by lia,by lia,k1,by lia,λr hr=>(h2 r hr).1,λr hr p hp=>by rw[h1];exact (h2 r hr).2 p hp⟩,by lia,k3⟩
def Kinds(m:i9)(k:Nat)(ks:List Int):Prop:=ks.length=m.length/\∀s t:Int,0<=s->s<m.length->0<=t->t<m.length->ks.getD s.toNat 0=ks.getD t.toNat 0->∀a:Int,0<=a->a<k->(stp m s a).1=(stp m t a).1/\ks.getD (stp m s a).2.toNat 0=ks.getD (stp m t a).2.toNat 0
def b5a{base m:i9}(w:WF base k){ks:List Int}(p_:1<=ks.length)(yP:ks.length<=30)(hl:m.length=ks.length)(h:∀s:Nat,s<m.length->T2 ks ks.length k (rowAt base (ks.getD s 0)) (m.getD s [])):WF m k/\Kinds m k ks:=by
 refine⟨⟨by lia,by lia,w.k1,w.k5,λr hr=>?_,λr hr p hp=>?_⟩,hl.symm,λs t s0 s1 t0 t1 e a a0 a1=>?_⟩
 ·obtain⟨i,hi,rfl⟩:=fP hr;have:=(h i hi).1
  rwa[ab,ae hi]at this
 ·obtain⟨i,hi,rfl⟩:=fP hr;have:=h i hi;rw[ab (l:=m),ae hi]at this;obtain⟨j,hj,rfl⟩:=fP hp;have q:=this.2 j (by have:=this.1;simp only[kL]at this;lia);simp only[kL]at q;rw[ab (l:=m[i]),ae hj]at q;rw[hl];exact⟨q.2.1,q.2.2.1⟩
 ·have q1:=(h s.toNat (by lia)).2 a.toNat (by lia);have q2:=(h t.toNat (by lia)).2 a.toNat (by lia);rw[<-e]at q2;have u1:stp m s a=(m.getD s.toNat []).getD a.toNat (0,0):=rfl;have u2:stp m t a=(m.getD t.toNat []).getD a.toNat (0,0):=rfl;rw[u1,u2];exact⟨q1.1.trans q2.1.symm,q1.2.2.2.trans q2.2.2.2.symm⟩
end Prog
namespace VS
open PySem L2
def c1Y{Z:List D}(ha:a Z=cz (.int i))(hb:b Z=cz (.int n))(h1:-1000000<=i)(h2:i<=1000000)(h3:-1000000<=n)(h4:n<=1000000):iR2 a b Z=cz (j6 i (n-i).toNat):=by
 unfold iR2;rw[ha];simp only[eh,asI,hb];rw[aD ⟨⟨by lia,by lia⟩,by lia,by lia⟩]
def b0p{Z:List D}(ha:a Z=cz (.int n))(hn:n<=1000):iR2 (eC (.int 1)) a Z=cz ((ao (n-1)).map λ(i:Nat)=>aO (1+(i:Int))):=by
 rw[c1Y (i:=1) (n:=n) rfl ha (by lia) (by lia) (by lia) (by lia)];unfold j6;rw[show ((n:Int)-1).toNat=n-1 by lia]
def b5b{l:List Int}(hi:i<l.length)(hj:j<l.length)(h:v∈l):v∈(l.set i (l.getD j 0)).set j (l.getD i 0):=by
 obtain⟨t,ht,e⟩:=fP h;have gi:l.getD i 0=l[i]:=by rw[ab,ae hi];rfl
 have gj:l.getD j 0=l[j]:=by rw[ab,ae hj];rfl
 rw[gi,gj];by_cases c1:t=i
 ·subst c1;exact bh (i:=j) (by rw[dC (by rw[gg];exact hj),e])
 ·by_cases c2:t=j
  ·subst c2;by_cases c3:i=t
   ·exact absurd c3.symm c1
   ·exact bh (i:=i) (by rw[bu (cP c3),dC hi,e])
  ·exact bh (i:=t) (by rw[bu (cP c2),bu (cP c1),ae ht,e])
def b5c{l:List Int}(hi:i<l.length)(hj:j<l.length)(h:v∈(l.set i (l.getD j 0)).set j (l.getD i 0)):v∈l:=by
 have gi:l.getD i 0∈l:=by rw[ab,ae hi];exact bW hi
 have gj:l.getD j 0∈l:=by rw[ab,ae hj];exact bW hj
 rcases qK h with z|z
 ·rcases qK z with y|y
  ·exact y
  ·rw[y];exact gj
 ·rw[z];exact gi
end VS
namespace Prog
open PySem L2 VS
local macro_rules | `(tactic| walk_at "ev1")=>`(tactic| simp -implicitDefEqProofs only [VS.a1S,VS.a9t,VS.a9s,VS.a2C,VS.a0k,VS.V7,fZ,dX])
def a7G(ns:List Int){ks:List Int}(h1:1<=ks.length)(Bi:ks.length<=30):∃qP:List Int,m_law_turned [.list (ns.map .int),iD ks]=cz (iD qP)/\qP.length=ks.length/\qP.getD 0 0=ks.getD 0 0/\∀v,v∈qP↔v∈ks:=by
 unfold m_law_turned;rw[c1U];unfold b_law_turned
 try walk_at "evc"
 rw[b0p (n:=ks.length) (by walk_at "evc") (by lia)]
 try walk_at "evc"
 refine Q1 (R:=λo=>∃qP:List Int,o=cz (iD qP)/\qP.length=ks.length/\qP.getD 0 0=ks.getD 0 0/\∀v,v∈qP↔v∈ks) (λZ=>∃(l:List Int) (x y z:D),l.length=ks.length/\l.getD 0 0=ks.getD 0 0/\(∀v,v∈l↔v∈ks)/\Z=[.list (ns.map .int),iD l,x,y,z]) ?_ ?_
 ·obtain⟨Z',g1,g2⟩:=u6 (enc:=λ(i:Nat)=>aO (1+(i:Int))) (set:=o8 2) (xs:=ao (ks.length-1)) (g:=(e7 (g9 3 (e2 t5 (eC (.int 1)) (e2 v9 (eCl m_law_mixed (a7 (a6 0) (a7 (e2 t5 (eC (.int 60)) (a6 2)) b8))) (e2 a2t (eCl q9 (a7 (a6 1) b8)) (eC (.int 1)))))) (e7 (g9 4 (e2 C3 (a6 1) (a6 2))) (e7 (a5D 1 (.l .i) n8 (a6 2) (e2 C3 (a6 1) (a6 3))) (a5D 1 (.l .i) n8 (a6 3) (a6 4)))))) (Z:=[.list (ns.map .int),iD ks,.none,.none,.none])
   (λ_ Z=>∃(l:List Int) (x y z:D),l.length=ks.length/\l.getD 0 0=ks.getD 0 0/\(∀v,v∈l↔v∈ks)/\Z=[.list (ns.map .int),iD l,x,y,z]) ⟨ks,_,_,_,rfl,rfl,λ_=>Iff.rfl,rfl⟩ (by
    rintro pre r post e Z ⟨l,x,y,z,l1,l2,l3,rfl⟩;have hr:r<ks.length-1:=bw.mp (by rw[e];simp);have c0:=dN (u9 ns (60+(1+(r:Int)))) (show (l.length:Int)-1≠0 by lia);have c1:=de (u9 ns (60+(1+(r:Int)))) (show (0:Int)<(l.length:Int)-1 by lia);obtain⟨j,hj⟩:∃j:Nat,1+u9 ns (60+(1+(r:Int))) % ((l.length:Int)-1)=j:=⟨(1+u9 ns (60+(1+(r:Int))) % ((l.length:Int)-1)).toNat,by lia⟩;have pI:j<l.length:=by lia
    have ug:r+1<l.length:=by lia
    refine⟨_,[.list (ns.map .int),iD ((l.set (r+1) (l.getD j 0)).set j (l.getD (r+1) 0)),.int (1+(r:Int)),.int j,.int (l.getD (r+1) 0)],rfl,?_,_,_,_,_,by rw[gg,gg];exact l1,?_,λv=>⟨λh=>(l3 v).mp (b5c ug pI h),λh=>b5b ug pI ((l3 v).mpr h)⟩,rfl⟩
    ·show (e7 (g9 3 (e2 t5 (eC (.int 1)) (e2 v9 (eCl m_law_mixed (a7 (a6 0) (a7 (e2 t5 (eC (.int 60)) (a6 2)) b8))) (e2 a2t (eCl q9 (a7 (a6 1) b8)) (eC (.int 1)))))) (e7 (g9 4 (e2 C3 (a6 1) (a6 2))) (e7 (a5D 1 (.l .i) n8 (a6 2) (e2 C3 (a6 1) (a6 3))) (a5D 1 (.l .i) n8 (a6 3) (a6 4))))) [.list (ns.map .int),iD l,.int (1+(r:Int)),y,z]=_
     try walk_at "evc"
     rw[hj]
     try walk_at "evc"
     rw[C0 (by lia) (by lia),show (1+(r:Int)).toNat=r+1 by lia]
     try walk_at "evc"
     rw[c1F (ds:=l.map .int) (d:=.int (l.getD j 0)) (j:=1+(r:Int)) rfl (by walk_at "evc";rw[C0 (by lia) (by lia),bg]) rfl (by lia) (by rw[ai];lia),show (1+(r:Int)).toNat=r+1 by lia]
     try walk_at "evc"
     rw[c1F (ds:=(l.map .int).set (r+1) (.int (l.getD j 0))) (d:=.int (l.getD (r+1) 0)) (j:=(j:Int)) rfl rfl rfl (by lia) (by rw[gg,ai];lia),bg];unfold iD;rw[List.map_set,List.map_set];rfl
    ·rw[ab,bu (by lia),bu (by lia),<-ab];exact l2)
  exact⟨Z',g1,g2⟩
 ·rintro Z ⟨l,x,y,z,l1,l2,l3,rfl⟩
  try walk_at "evc"
  exact⟨l,rfl,l1,l2,l3⟩
local macro_rules | `(tactic| walk_at "ev1")=>`(tactic| simp -implicitDefEqProofs only [VS.a1S,VS.a9t,VS.a9s,VS.a2C,VS.a0k,VS.V7,fZ,dX])
def a9e(ns:List Int)(w:WF base k){ks:List Int}(p_:1<=ks.length)(yP:ks.length<=30)(Dr:∀x∈ks,0<=x/\x<(base.length:Int))(uk:∀v:Int,0<=v->v<base.length->v∈ks)(x4:D) :
  ∃m:i9,Z3 (thn ((y6 (iR (a6 2)) (o8 4) (e7 (g9 6 (x5 b8)) (e7 (y6 (iR (eCl q9 (a7 (e2 dIx (a6 1) (eC (.int 0))) b8))) (o8 7) (e7 (a1Q 8 9 (e2 q8 (e2 dIx (a6 1) (e2 C3 (a6 3) (a6 4))) (a6 7))) (e7 (g9 10 (l6 (iR (a6 2)) [3,9] pt1 (tB (e2 dEq (e2 C3 (a6 1) (a6 0)) (a6 2))) (a6 0))) (D5 6 (.l .i) n8 (O7 (a7 (a6 8) (a7 (e2 C3 (a6 10) (e2 v9 (eCl m_law_mixed (a7 (a6 0) (a7 (e2 t5 (e2 t5 (eC (.int 100)) (e2 O5 (eC (.int 3)) (a6 4))) (a6 7)) b8))) (eCl q9 (a7 (a6 10) b8)))) b8))))))) (D5 5 (.l (.l .i)) n8 (a6 6))))) [.list (ns.map .int),.list (base.map rwD),.int (ks.length:Nat),iD ks,x4,.list [],.none,.none,.none,.none,.none]) (u7 (a6 5)))=cz (.list (m.map rwD))/\m.length=ks.length/\∀s:Nat,s<m.length->T2 ks ks.length k (rowAt base (ks.getD s 0)) (m.getD s []):=by
 have zo:(0:Int)<base.length:=by have:=w.pos;lia
 have FG:=w.le;have vF:=w.k5;have e0:(rowAt base 0).length=k:=w.row (by lia) zo;walk_at "evc";rw[a4d (n:=ks.length) (by walk_at "evc") (by lia) (by lia),bg];walk_at "evc";have row:∀s:Nat,s<ks.length->∀(rows x y z u:D),∃(r:Ky) (x' y' z' u':D),T2 ks ks.length k (rowAt base (ks.getD s 0)) r/\
   (y6 (iR (eCl q9 (a7 (e2 dIx (a6 1) (eC (.int 0))) b8))) (o8 7) (e7 (a1Q 8 9 (e2 q8 (e2 dIx (a6 1) (e2 C3 (a6 3) (a6 4))) (a6 7))) (e7 (g9 10 (l6 (iR (a6 2)) [3,9] pt1 (tB (e2 dEq (e2 C3 (a6 1) (a6 0)) (a6 2))) (a6 0))) (D5 6 (.l .i) n8 (O7 (a7 (a6 8) (a7 (e2 C3 (a6 10) (e2 v9 (eCl m_law_mixed (a7 (a6 0) (a7 (e2 t5 (e2 t5 (eC (.int 100)) (e2 O5 (eC (.int 3)) (a6 4))) (a6 7)) b8))) (eCl q9 (a7 (a6 10) b8)))) b8)))))))
    [.list (ns.map .int),.list (base.map rwD),.int (ks.length:Nat),iD ks,.int s,rows,.list [],x,y,z,u]=cz (.nx [.list (ns.map .int),.list (base.map rwD),.int (ks.length:Nat),iD ks,.int s,rows,rwD r,x',y',z',u']):=by
  intro s hs rows x y z u;have jW:=Dr _ (b1N hs);have iK:=w.row jW.1 jW.2;walk_at "evc";have vH:eCl q9 (a7 (e2 dIx (a6 1) (eC (.int 0))) b8) [.list (ns.map .int),.list (base.map rwD),.int (ks.length:Nat),iD ks,.int s,rows,.list [],x,y,z,u]=cz (.int (k:Nat)):=by
   walk_at "evc";rw[a1x (by lia) zo]
   try walk_at "evc"
   rw[e0]
  rw[a4d (n:=k) vH (by lia) (by lia),bg];walk_at "evc";obtain⟨Z',h1,r,x',y',z',u',h2,h3,rfl⟩:=C6 (n:=k) (set:=o8 7) (g:=(e7 (a1Q 8 9 (e2 q8 (e2 dIx (a6 1) (e2 C3 (a6 3) (a6 4))) (a6 7))) (e7 (g9 10 (l6 (iR (a6 2)) [3,9] pt1 (tB (e2 dEq (e2 C3 (a6 1) (a6 0)) (a6 2))) (a6 0))) (D5 6 (.l .i) n8 (O7 (a7 (a6 8) (a7 (e2 C3 (a6 10) (e2 v9 (eCl m_law_mixed (a7 (a6 0) (a7 (e2 t5 (e2 t5 (eC (.int 100)) (e2 O5 (eC (.int 3)) (a6 4))) (a6 7)) b8))) (eCl q9 (a7 (a6 10) b8)))) b8)))))))
   (Z:=[.list (ns.map .int),.list (base.map rwD),.int (ks.length:Nat),iD ks,.int s,rows,.list [],x,y,z,u])
   (λj Z=>∃(r:Ky) (x' y' z' u':D),r.length=j/\(∀a:Nat,a<j->(r.getD a (0,0)).1=((rowAt base (ks.getD s 0)).getD a (0,0)).1/\0<=(r.getD a (0,0)).2/\(r.getD a (0,0)).2<(ks.length:Int)/\ks.getD (r.getD a (0,0)).2.toNat 0=((rowAt base (ks.getD s 0)).getD a (0,0)).2)/\
    Z=[.list (ns.map .int),.list (base.map rwD),.int (ks.length:Nat),iD ks,.int s,rows,rwD r,x',y',z',u'])
   ⟨[],x,y,z,u,rfl,λa ha=>absurd ha (by lia),rfl⟩ (by
    rintro j hj Z ⟨r,x',y',z',u',hr,hp,rfl⟩;have nu:((j:Nat):Int)<((rowAt base (ks.getD s 0)).length:Int):=by rw[iK];lia
    have nY:(rowAt base (ks.getD s 0)).getD j (0,0)∈rowAt base (ks.getD s 0):=b1M (by lia);have hq:=w.next _ (C8 jW.1 jW.2) _ nY;have lE:=uk _ hq.1 hq.2;obtain⟨i0,xf,EC⟩:=fP lE;have iU:0<((ao ks.length).filter λt=>decide (ks.getD t 0=((rowAt base (ks.getD s 0)).getD j (0,0)).2)).length:=by
     refine List.length_pos_of_mem (a:=i0) (eF.mpr ⟨bw.mpr xf,aY ?_⟩);rw[ab,ae xf];exact EC
    generalize hL:(ao ks.length).filter (λt=>decide (ks.getD t 0=((rowAt base (ks.getD s 0)).getD j (0,0)).2))=L at iU;have Em:∀t∈L,t<ks.length/\ks.getD t 0=((rowAt base (ks.getD s 0)).getD j (0,0)).2:=λt ht=>by
     rw[<-hL]at ht;have:=eF.mp ht;exact⟨bw.mp this.1,bB this.2⟩
    have c0:=dN (u9 ns (100+3*(s:Int)+j)) (show ((L.length:Nat):Int)≠0 by lia);have c1:=de (u9 ns (100+3*(s:Int)+j)) (show (0:Int)<(L.length:Nat) by lia);have pW:(u9 ns (100+3*(s:Int)+j) % (L.length:Nat)).toNat<L.length:=by lia
    have AG:=Em _ (bW pW);refine⟨_,[.list (ns.map .int),.list (base.map rwD),.int (ks.length:Nat),iD ks,.int s,rows,rwD (r++[(((rowAt base (ks.getD s 0)).getD j (0,0)).1,((L[(u9 ns (100+3*(s:Int)+j) % (L.length:Nat)).toNat]'pW:Nat):Int))]),.int j,.int ((rowAt base (ks.getD s 0)).getD j (0,0)).1,.int ((rowAt base (ks.getD s 0)).getD j (0,0)).2,.list (L.map λ(t:Nat)=>.int t)],rfl,?_,_,_,_,_,_,by simp only[aA,bS];lia,?_,rfl⟩
    ·walk_at "evc";rw[C0 (by lia) (by lia),bg];walk_at "evc";rw[a1x jW.1 jW.2];walk_at "evc";rw[b1I (by lia) nu,bg];walk_at "evc";rw[b7b (n:=ks.length) (λt=>decide (ks.getD t 0=((rowAt base (ks.getD s 0)).getD j (0,0)).2)) (λ(t:Nat)=>.int t) (by rw[a4d (n:=ks.length) (by walk_at "evc") (by lia) (by lia),bg]) (by lia) (λt ht=>⟨by
      show tB _ [.int t,iD ks,.int ((rowAt base (ks.getD s 0)).getD j (0,0)).2]=_;walk_at "ev";rw[C0 (by lia) (by lia),bg];walk_at "ev",λ_=>rfl⟩),hL]
     walk_at "evc";rw[a0l (i:=3) (by decide)];walk_at "evc";rw[V9 c0 (by rw[ai];exact c1),cY];walk_at "evc";unfold rwD;rw[W1 (by rw[ai];lia),aK];rfl
    ·intro a ha;rcases cG a j with z|z
     ·rw[a0Z (by lia)];exact hp a z
     ·have e:a=r.length:=by lia
      subst e;rw[a1a];refine⟨by rw[hr],by lia,by have:=AG.1;lia,?_⟩;rw[hr];show ks.getD ((L[_]'pW:Nat):Int).toNat 0=_;rw[bg];exact AG.2)
  exact⟨r,x',y',z',u',⟨h2,h3⟩,h1⟩
 refine Q1 (R:=λo=>∃m:i9,o=cz (.list (m.map rwD))/\m.length=ks.length/\∀s:Nat,s<m.length->T2 ks ks.length k (rowAt base (ks.getD s 0)) (m.getD s [])) (λZ=>∃(m:i9) (x y z u v t:D),m.length=ks.length/\(∀s:Nat,s<m.length->T2 ks ks.length k (rowAt base (ks.getD s 0)) (m.getD s []))/\Z=[.list (ns.map .int),.list (base.map rwD),.int (ks.length:Nat),iD ks,x,.list (m.map rwD),y,z,u,v,t]) ?_ ?_
 ·obtain⟨Z',h1,h2⟩:=C6 (n:=ks.length) (set:=o8 4) (Z:=[.list (ns.map .int),.list (base.map rwD),.int (ks.length:Nat),iD ks,x4,.list [],.none,.none,.none,.none,.none])
   (g:=(e7 (g9 6 (x5 b8)) (e7 (y6 (iR (eCl q9 (a7 (e2 dIx (a6 1) (eC (.int 0))) b8))) (o8 7) (e7 (a1Q 8 9 (e2 q8 (e2 dIx (a6 1) (e2 C3 (a6 3) (a6 4))) (a6 7))) (e7 (g9 10 (l6 (iR (a6 2)) [3,9] pt1 (tB (e2 dEq (e2 C3 (a6 1) (a6 0)) (a6 2))) (a6 0))) (D5 6 (.l .i) n8 (O7 (a7 (a6 8) (a7 (e2 C3 (a6 10) (e2 v9 (eCl m_law_mixed (a7 (a6 0) (a7 (e2 t5 (e2 t5 (eC (.int 100)) (e2 O5 (eC (.int 3)) (a6 4))) (a6 7)) b8))) (eCl q9 (a7 (a6 10) b8)))) b8))))))) (D5 5 (.l (.l .i)) n8 (a6 6)))))
   (λj Z=>∃(m:i9) (x y z u v t:D),m.length=j/\(∀s:Nat,s<m.length->T2 ks ks.length k (rowAt base (ks.getD s 0)) (m.getD s []))/\Z=[.list (ns.map .int),.list (base.map rwD),.int (ks.length:Nat),iD ks,x,.list (m.map rwD),y,z,u,v,t])
   ⟨[],x4,.none,.none,.none,.none,.none,rfl,λs hs=>absurd hs (by simp),rfl⟩ (by
    rintro j hj Z ⟨m,x,y,z,u,v,t,pH,qE,rfl⟩;obtain⟨r,x',y',z',u',yB,yA⟩:=row j hj (.list (m.map rwD)) z u v t;refine⟨_,[.list (ns.map .int),.list (base.map rwD),.int (ks.length:Nat),iD ks,.int j,.list ((m++[r]).map rwD),rwD r,x',y',z',u'],rfl,?_,m++[r],_,_,_,_,_,_,by simp[pH],?_,rfl⟩
    ·rw[V8];walk_at "ev1";rw[V8,yA];walk_at "evc";rw[W1 (by rw[ai];lia),aK];rfl
    ·intro q hq;rcases cG q m.length with c|c
     ·rw[a0Z c];exact qE q c
     ·have e:q=m.length:=by simp at hq;lia
      subst e;rw[a1a];rw[pH];exact yB)
  exact⟨Z',h1,h2⟩
 ·rintro Z ⟨m,x,y,z,u,v,t,h1,h2,rfl⟩;walk_at "evc";exact⟨m,rfl,h1,h2⟩
theorem a5d{base m:i9}(w:WF base k){ks:List Int}(hl:m.length=ks.length)(h:∀s:Nat,s<m.length->T2 ks ks.length k (rowAt base (ks.getD s 0)) (m.getD s [])):∀(p:List Int) (s:Int),(∀a∈p,0<=a/\a<(k:Int))->0<=s->s<m.length->(i6 m s p).1=(i6 base (ks.getD s.toNat 0) p).1
 |[],_,_,_,_=>rfl
 |a::p,s,hp,s0,s1=>by
  have ha:=hp a aL;obtain⟨q1,q2,q3,q4⟩:=(h s.toNat (by lia)).2 a.toNat (by lia);have u1:stp m s a=(m.getD s.toNat []).getD a.toNat (0,0):=rfl;have u2:stp base (ks.getD s.toNat 0) a=(rowAt base (ks.getD s.toNat 0)).getD a.toNat (0,0):=rfl;have ih:=a5d w hl h p (stp m s a).2 (λb hb=>hp b (aw _ hb)) (by rw[u1];exact q2) (by rw[u1,hl];exact q3);show (stp m s a).1::(i6 m (stp m s a).2 p).1=(stp base (ks.getD s.toNat 0) a).1::(i6 base (stp base (ks.getD s.toNat 0) a).2 p).1;rw[ih]
  congr 1;rw[u1,u2,q4]
def a9f(ns:List Int)(w:WF base k)(hq:base.length+q<=30):∃m:i9,m_law_blown [.list (ns.map .int),.list (base.map rwD),.int ((base.length+q:Nat):Int)]=cz (.list (m.map rwD))/\WF m k/\m.length=base.length+q/\∀p:List Int,(∀a∈p,0<=a/\a<(k:Int))->(i6 m 0 p).1=(i6 base 0 p).1:=by
 have zo:0<base.length:=w.pos;unfold m_law_blown;rw[D6 (by simp[VS.argsOk,imm])];unfold b_law_blown;walk_at "evc";rw[b0p (n:=base.length+q) (by walk_at "evc") (by lia)]
 try walk_at "evc"
 refine Q1 (R:=λo=>∃m:i9,o=cz (.list (m.map rwD))/\WF m k/\m.length=base.length+q/\∀p:List Int,(∀a∈p,0<=a/\a<(k:Int))->(i6 m 0 p).1=(i6 base 0 p).1) (λZ=>∃(x:D),Z=[.list (ns.map .int),.list (base.map rwD),.int ((base.length+q:Nat):Int),iD (0::(ao (base.length+q-1)).map λ(i:Nat)=>(1+(i:Int)) % (base.length:Int)),x,.none,.none,.none,.none,.none,.none]) ?_ ?_
 ·obtain⟨Z',g1,x,rfl⟩:=u6 (enc:=λ(i:Nat)=>aO (1+(i:Int))) (set:=o8 4) (xs:=ao (base.length+q-1)) (g:=(D5 3 (.l .i) n8 (e2 v9 (a6 4) (eCl q9 (a7 (a6 1) b8))))) (Z:=[.list (ns.map .int),.list (base.map rwD),.int ((base.length+q:Nat):Int),.list [.int 0],.none,.none,.none,.none,.none,.none,.none])
   (λpre Z=>∃(x:D),Z=[.list (ns.map .int),.list (base.map rwD),.int ((base.length+q:Nat):Int),iD (0::pre.map λ(i:Nat)=>(1+(i:Int)) % (base.length:Int)),x,.none,.none,.none,.none,.none,.none]) ⟨_,rfl⟩ (by
    rintro pre r post e Z ⟨x,rfl⟩;have hr:r<base.length+q-1:=bw.mp (by rw[e];simp);have gH:pre.length<base.length+q-1:=by have:=dH et e;simp at this;lia
    refine⟨_,[.list (ns.map .int),.list (base.map rwD),.int ((base.length+q:Nat):Int),iD (0::(pre++[r]).map λ(i:Nat)=>(1+(i:Int)) % (base.length:Int)),.int (1+(r:Int)),.none,.none,.none,.none,.none,.none],rfl,?_,_,rfl⟩;show (D5 3 (.l .i) n8 (e2 v9 (a6 4) (eCl q9 (a7 (a6 1) b8)))) [.list (ns.map .int),.list (base.map rwD),.int ((base.length+q:Nat):Int),iD (0::pre.map λ(i:Nat)=>(1+(i:Int)) % (base.length:Int)),.int (1+(r:Int)),.none,.none,.none,.none,.none,.none]=_
    try walk_at "evc"
    unfold iD;rw[W1 (by rw[ai,aS,ai];lia)];rw[aK,<-bE,aK];rfl)
  exact⟨_,g1,x,rfl⟩
 ·rintro Z ⟨x,rfl⟩;obtain⟨ks,t1,t2,t3,t4⟩:=a7G ns (ks:=0::(ao (base.length+q-1)).map λ(i:Nat)=>(1+(i:Int)) % (base.length:Int)) (by simp) (by simp;lia);have tl:ks.length=base.length+q:=by rw[t2,aS,ai,bH];lia
  have oZ:b6o m_law_turned (a6 0) (a6 3) [.list (ns.map .int),.list (base.map rwD),.int ((base.length+q:Nat):Int),iD (0::(ao (base.length+q-1)).map λ(i:Nat)=>(1+(i:Int)) % (base.length:Int)),x,.none,.none,.none,.none,.none,.none]=cz (iD ks):=by
   unfold b6o;simp -implicitDefEqProofs only [a6,jv,dQ,eh];exact t1
  try walk_at "evc"
  rw[oZ]
  try walk_at "evc"
  obtain⟨m,f1,f2,f3⟩:=a9e ns w (ks:=ks) (by lia) (by lia) (λv hv=>by
   rcases aI.mp ((t4 v).mp hv) with z|z
   ·lia
   ·obtain⟨i,_,rfl⟩:=aJ.mp z;exact⟨dN _ (by lia),de _ (by lia)⟩) (λv v0 v1=>(t4 v).mpr (by
   by_cases e:v=0
   ·rw[e];simp
   ·refine aw _ (aJ.mpr ⟨(v-1).toNat,bw.mpr (by lia),?_⟩);rw[show 1+((v-1).toNat:Int)=v by lia];exact Int.emod_eq_of_lt v0 v1)) x
  rw[a9v,tl]at f1;refine⟨m,f1,(b5a w (by lia) (by lia) f2 f3).1,by lia,λp hp=>?_⟩;have:=a5d w f2 f3 p 0 hp (by lia) (by lia);rw[this,show (0:Int).toNat=0 from rfl,t3];rfl
def a5e{m:i9}{k:Nat}(w:WF m k){p:List Int}{s:Int}(h0:0<=s)(h1:s<m.length)(hp:∀x∈p,0<=x/\x<(k:Int))(hl:p.length<=13000) :
  E5 [.list (m.map rwD),.int s,.list (p.map .int)]=cz (.tuple [.list ((i6 m s p).1.map .int),.int (i6 m s p).2]):=by
 unfold E5;rw[D6 (by simp[VS.argsOk,imm])];unfold a7r;walk_at "ev";rw[a1u (ds:=p.map .int) (by walk_at "ev") (w6 p)];walk_at "ev";refine K8 (λZ=>∃x y:D,Z=[.list (m.map rwD),.int (i6 m s p).2,.list (p.map .int),.list ((i6 m s p).1.map .int),x,y]) ?_ ?_
 ·obtain⟨Z',h2,x,y,rfl⟩:=u6 (enc:=aO) (set:=o8 4) (xs:=p) (Z:=[.list (m.map rwD),.int s,.list (p.map .int),.list [],.none,.none])
   (g:=(e7 (g9 5 (e2 q8 (e2 dIx (a6 0) (a6 1)) (a6 4))) (e7 (D5 3 (.l .i) n8 (e2 q8 (a6 5) (eC (.int 0)))) (g9 1 (e2 q8 (a6 5) (eC (.int 1)))))))
   (λpre Z=>∃x y:D,Z=[.list (m.map rwD),.int (i6 m s pre).2,.list (p.map .int),.list ((i6 m s pre).1.map .int),x,y]) ⟨_,_,rfl⟩ (by
    rintro pre a post e Z ⟨x,y,rfl⟩;have oS:∀b∈pre,0<=b/\b<(k:Int):=λb hb=>hp b (by rw[e];exact ak _ hb)
    have ha:=hp a (by rw[e];simp);have hs:=a1z w pre s h0 h1 oS;have hr:=w.row hs.1 hs.2;have hlen:pre.length<13000:=by have:=dH et e;simp at this;lia
    refine⟨_,[.list (m.map rwD),.int (i6 m s (pre++[a])).2,.list (p.map .int),.list ((i6 m s (pre++[a])).1.map .int),.int a,stD (stp m (i6 m s pre).2 a)],rfl,?_,_,_,rfl⟩;walk_at "ev";rw[a1x hs.1 hs.2];walk_at "ev";rw[b1I ha.1 (by lia)];walk_at "ev";rw[W1 (by rw[ai,a4S];lia)];walk_at "ev";rw[a0s,aK];rfl)
  exact⟨_,h2,_,_,rfl⟩
 ·rintro Z ⟨x,y,rfl⟩;walk_at "ev"
def b2d(C:Can L k)(hA:AllMet L k W)(j:Nat):j<L.length->(j:Int)∈W.map (·.1):=by
 induction j using Nat.strongRecOn with
 |_ j ih=>
  intro hj;have h1:=C.lead j hj;have hc:=a1K hj;have hp:=C.pre (Zq:=(ao j).flatMap (nxs L k)) (Y:=(j::(ao (L.length-j-1)).map (λi=>j+1+i)).flatMap (nxs L k)) (by rw[hc,dG]);have hm:(j:Int)∈dkk [0] ((ao j).flatMap (nxs L k)):=by rw[hp];exact b0i.mpr ⟨by lia,by lia⟩
  rcases (L4 _ _).mp hm with z|z
  ·have:(j:Int)=0:=by simpa using z
   rw[this];exact aJ.mpr ⟨_,hA.zero,rfl⟩
  ·obtain⟨i,hi,h2⟩:=cO.mp z;obtain⟨a,ha,h3⟩:=aJ.mp h2;have gL:=bw.mp hi;obtain⟨⟨t,p⟩,rR,jV⟩:=aJ.mp (ih i gL (by lia));have jV:t=(i:Int):=jV;subst jV;obtain⟨q,hq,_⟩:=hA.next rR (bw.mp ha);exact aJ.mpr ⟨_,hq,h3⟩
theorem b5d(k:Nat):∀n,∀r∈lvR k n,∀a∈r,0<=a/\a<(k:Int)
 |0,r,hr,a,ha=>by
  have:r=[]:=by simpa[lvR]using hr
  rw[this]at ha;cases ha
 |n+1,r,hr,a,ha=>by
  have uh:r∈lng k (lvR k n):=hr;unfold lng at uh;obtain⟨q,hq,h2⟩:=cO.mp uh;obtain⟨x,hx,rfl⟩:=aJ.mp h2;have:=bw.mp hx;rcases ar.mp ha with z|z
  ·exact b5d k n q hq a z
  ·rw[aq.mp z];lia
theorem b5e(k:Nat):∀n,∀r∈J9 k n,∀a∈r,0<=a/\a<(k:Int)
 |0,r,hr=>b5d k 0 r hr
 |n+1,r,hr=>by
  have uh:r∈J9 k n++lvR k (n+1):=hr;rcases ar.mp uh with z|z
  ·exact b5e k n r z
  ·exact b5d k (n+1) r z
def GoodP(k:Nat)(l:List (List Int)):Prop:=∀p∈l,(∀a∈p,0<=a/\a<(k:Int))/\p.length<=100
def GoodP.ins{k:Nat}{l:List (List Int)}(h:GoodP k l){p:List Int}(h1:∀a∈p,0<=a/\a<(k:Int))(h2:p.length<=100):GoodP k (a2y p l):=λq hq=>by
 rcases a7B.mp hq with z|z
 ·exact h q z
 ·rw[z];exact⟨h1,h2⟩
abbrev eT(l:List (List Int)):VS.D:=.dict (Q5 (λ_=>cX true) l)
noncomputable def q2:EvS:=(E7 4 true (V2 (eI (R6 (eI (R6 (a6 6) (a6 7))) (a6 8)))) (eC (.bool true)))
noncomputable def q1:EvS:=y6 (iL (e2 dIx (a6 2) (e2 dIx (eCl E5 (a7 (a6 0) (a7 (a6 5) (a7 (a6 7) b8)))) (eC (.int 1))))) (o8 8) q2
noncomputable def q0:EvS:=y6 (iL (a6 3)) (o8 7) q1
def b2e(C:Can L k)(he:e<=30)(vF:k^(e+1)<=3125)(hR:(J9 k (e+1)).length<=64):∃ps:List (List Int),B9 [.list (L.map rwD),.int (e:Nat)]=cz (.list (ps.map iD))/\GoodP k ps/\ps.length<65536:=by
 have w:=C.wf;have hle:=w.le;have qU:=w.pos;obtain⟨D,yJ,hD,nY⟩:=b4Y w;obtain⟨W,hA,hw⟩:=b7o w;have wW:=hA.len;have e0:(rowAt L 0).length=k:=w.row (by lia) (by lia);unfold B9;rw[D6 (by simp[VS.argsOk,imm])];unfold a0f
 try walk_at "ev"
 rw[yJ]
 try walk_at "ev"
 have vY:F7 [.list (L.map rwD)]=cz (.int (k:Nat)):=by
  unfold F7;rw[D6 (by simp[VS.argsOk])];unfold a1C
  try walk_at "ev"
  rw[a1x (by lia) (by lia)]
  try walk_at "ev"
  rw[e0]
  try rfl
 rw[vY]
 try walk_at "ev"
 rw[show ((e:Nat):Int)+1=((e+1:Nat):Int) by lia,a9d w.k1 w.k5 (by lia) vF]
 try walk_at "ev"
 have Cz:eCl a0u (a7 (a6 0) b8) [.list (L.map rwD),.int (e:Nat),.list ((ao L.length).map λ(s:Nat)=>cU ((mks L D s).map iD)),.list ((J9 k (e+1)).map lD),.dict [],.none,.none,.none,.none]=cz (.list (b4S W L.length)):=by
  try walk_at "ev"
  exact hw
 rw[b9V Cz]
 try walk_at "ev"
 unfold b4S;rw[a1d];have AK:∀t:Int,0<=t->t<L.length->dIx (.list ((ao L.length).map λ(s:Nat)=>cU ((mks L D s).map iD))) (.int t)=cz (.list ((mks L D t).map iD)):=λt t0 t1=>by
  show L2.atI ((ao L.length).map λ(s:Nat)=>cU ((mks L D s).map iD)) t=_;rw[V9 t0 (by rw[ai,bH];exact t1),cY,m_,show ((t.toNat:Nat):Int)=t by lia]
 have hB:lL (cz (.list ((J9 k (e+1)).map lD)))=cz ((J9 k (e+1)).map lD):=rfl;generalize cU ((ao L.length).map λ(s:Nat)=>cU ((mks L D s).map iD))=A at AK ⊢;generalize cU ((J9 k (e+1)).map lD)=B at hB ⊢;refine Q1 (R:=λo=>∃ps:List (List Int),o=cz (.list (ps.map iD))/\GoodP k ps/\ps.length<65536) (λZ=>∃(l:List (List Int)) (x y z u:VS.D),GoodP k l/\l.length<65536/\Z=[.list (L.map rwD),.int (e:Nat),A,B,eT l,x,y,z,u]) ?_ ?_
 ·have inner:∀(s:Nat),s<L.length->∀(p r:List Int),(∀a∈p,0<=a/\a<(k:Int))->p.length<=30->r∈J9 k (e+1)->∀(l:List (List Int)),GoodP k l->l.length<70000->∀x:VS.D,∃l' x',q1 [.list (L.map rwD),.int (e:Nat),A,B,eT l,.int s,iD p,lD r,x]=cz (.nx [.list (L.map rwD),.int (e:Nat),A,B,eT l',.int s,iD p,lD r,x'])/\GoodP k l'/\l'.length<=l.length+31:=by
   intro s hs p r hp gH hr l g hl x;have yu:=b5e k _ r hr;have ug:=b0o k _ r hr;have qg:=a1z w r s (by lia) (by lia) yu;generalize ht:(i6 L s r).2=t at qg;have yi:e2 dIx (a6 2) (e2 dIx (eCl E5 (a7 (a6 0) (a7 (a6 5) (a7 (a6 7) b8)))) (eC (.int 1))) [.list (L.map rwD),.int (e:Nat),A,B,eT l,.int s,iD p,lD r,x]=cz (.list ((mks L D t).map iD)):=by
    have h2:E5 [.list (L.map rwD),.int s,lD r]=cz (.tuple [.list ((i6 L s r).1.map .int),.int (i6 L s r).2]):=a5e w (by lia) (by lia) yu (by lia)
    try walk_at "ev"
    rw[h2]
    try walk_at "ev"
    rw[ht];exact AK t qg.1 qg.2
   unfold q1;rw[a9v,b1G,yi];show ∃l' x',U2 (o8 8) q2 ((mks L D t).map iD) _=_/\_;have Fz:=b7s (D:=D) w t;obtain⟨Z',g1,l',x',q1,q2,rfl⟩:=u6 (enc:=iD) (set:=o8 8) (xs:=mks L D t) (g:=q2) (Z:=[.list (L.map rwD),.int (e:Nat),A,B,eT l,.int s,iD p,lD r,x])
    (λpre Z=>∃(l':List (List Int)) (x':VS.D),GoodP k l'/\l'.length<=l.length+pre.length/\Z=[.list (L.map rwD),.int (e:Nat),A,B,eT l',.int s,iD p,lD r,x']) ⟨l,x,g,az _,rfl⟩ (by
     rintro pre q post e1 Z ⟨l',x',q1,q2,rfl⟩;have hq:q∈mks L D t:=by rw[e1];simp
     obtain⟨AE,Fx⟩:=c0b w qg.1 qg.2 hq;have vk:pre.length<(mks L D t).length:=by rw[e1];simp
     have zi:eI (R6 (eI (R6 (a6 6) (a6 7))) (a6 8)) [.list (L.map rwD),.int (e:Nat),A,B,eT l',.int s,iD p,lD r,iD q]=cz (.list ((p++r++q).map .int)):=by
      rw[a4Q,a9K,a4Q,a9K];show lIs (b1H (lIs (b1H (cz (.list (p.map .int))) (cz (.list (r.map .int))))) (cz (.list (q.map .int))))=_;rw[a3C (by lia),a5S,a3C (by rw[aA];lia),a5S]
     have mT:=a7C (p:=p++r++q) (l:=l');refine⟨_,[.list (L.map rwD),.int (e:Nat),A,B,eT (a2y (p++r++q) l'),.int s,iD p,lD r,iD q],rfl,?_,a2y (p++r++q) l',iD q,q1.ins (λa ha=>?_) (by rw[aA,aA];lia),by rw[aA,bS];lia,rfl⟩
     ·show E7 4 true _ _ [.list (L.map rwD),.int (e:Nat),A,B,eT l',.int s,iD p,lD r,iD q]=_;rw[b0l (g:=(λ_=>cX true)) (a:=p++r++q) (l:=l') rfl (a6c (ds:=(p++r++q).map .int) zi (w6 _)) rfl (by lia)];rfl
     ·rcases ar.mp ha with z|z
      ·rcases ar.mp z with z|z
       ·exact hp a z
       ·exact yu a z
      ·exact AE a z)
   exact⟨l',x',g1,q1,by lia⟩
  have middle:∀(s:Nat),s<L.length->∀(p:List Int),(∀a∈p,0<=a/\a<(k:Int))->p.length<=30->∀(l:List (List Int)),GoodP k l->l.length<60000->∀y x:VS.D,∃l' y' x',q0 [.list (L.map rwD),.int (e:Nat),A,B,eT l,.int s,iD p,y,x]=cz (.nx [.list (L.map rwD),.int (e:Nat),A,B,eT l',.int s,iD p,y',x'])/\GoodP k l'/\l'.length<=l.length+2000:=by
   intro s hs p hp gH l g hl y x;unfold q0;rw[a9v,b1G,show a6 3 [.list (L.map rwD),.int (e:Nat),A,B,eT l,.int s,iD p,y,x]=cz B from rfl,hB];show ∃l' y' x',U2 (o8 7) q1 ((J9 k (e+1)).map lD) _=_/\_;obtain⟨Z',g1,l',y',x',q1,q2,rfl⟩:=u6 (enc:=lD) (set:=o8 7) (xs:=J9 k (e+1)) (g:=q1) (Z:=[.list (L.map rwD),.int (e:Nat),A,B,eT l,.int s,iD p,y,x])
    (λpre Z=>∃(l':List (List Int)) (y' x':VS.D),GoodP k l'/\l'.length<=l.length+31*pre.length/\Z=[.list (L.map rwD),.int (e:Nat),A,B,eT l',.int s,iD p,y',x']) ⟨l,y,x,g,az _,rfl⟩ (by
     rintro pre r post e1 Z ⟨l',y',x',q1,q2,rfl⟩;have hr:r∈J9 k (e+1):=by rw[e1];simp
     have vk:pre.length<(J9 k (e+1)).length:=by rw[e1];simp
     obtain⟨l2,x2,i1,i2,i3⟩:=inner s hs p r hp gH hr l' q1 (by lia) x';exact⟨_,_,rfl,i1,l2,lD r,x2,i2,by rw[aA,bS];lia,rfl⟩)
   exact⟨l',y',x',g1,q1,by lia⟩
  obtain⟨Z',g1,l',x',y',z',u',q1,q2,rfl⟩:=u6 (enc:=λ(a:Nat)=>cy [.int (a:Int),wyD W a]) (set:=a3a 5 6) (xs:=ao L.length) (g:=q0) (Z:=[.list (L.map rwD),.int (e:Nat),A,B,.dict [],.none,.none,.none,.none])
   (λpre Z=>∃(l':List (List Int)) (x y z u:VS.D),GoodP k l'/\l'.length<=2000*pre.length/\Z=[.list (L.map rwD),.int (e:Nat),A,B,eT l',x,y,z,u]) ⟨[],.none,.none,.none,.none,λp hp=>(nomatch hp),cE _,rfl⟩ (by
    rintro pre s post e1 Z ⟨l',x,y,z,u,q1,q2,rfl⟩;have hs:s<L.length:=bw.mp (by rw[e1];simp);have vk:pre.length<L.length:=by have:=dH et e1;simp at this;lia
    obtain⟨⟨t,p⟩,rR,jV⟩:=aJ.mp (b2d C hA s hs);have jV:t=(s:Int):=jV;subst jV;have Dn:=hA.leads p.length (az _) rR;have wY:=hA.ql _ rR;obtain⟨l2,y2,x2,i1,i2,i3⟩:=middle s hs p Dn.2 (by have:p.length<=W.length:=wY;lia) l' q1 (by lia) z u;refine⟨[.list (L.map rwD),.int (e:Nat),A,B,eT l',.int s,iD p,z,u],_,?_,i1,l2,_,_,_,_,i2,by rw[aA,bS];lia,rfl⟩;rw[c0a hA.nodup rR];rfl)
  rw[bH]at q2;exact⟨_,g1,l',x',y',z',u',q1,by lia,rfl⟩
 ·rintro Z ⟨l,x,y,z,u,g,hl,rfl⟩;refine⟨U3 l,?_,λp hp=>g p ((F9 l).mem_iff.mp hp),by rw[(F9 l).length_eq];exact hl⟩;have hc:(l6 (iI (iL (a0q a0t (a6 4)))) [] pt1 tT (eI (K1 (a6 0)))) [.list (L.map rwD),.int (e:Nat),A,B,eT l,x,y,z,u]=cz (.list ((U3 l).map iD)):=by
   refine N9 (enc:=C7) (xs:=U3 l) iD ?_ (by rw[(F9 l).length_eq];lia) λp _=>⟨[C7 p],rfl,?_⟩
   ·rw[a1u (ds:=(U3 l).map C7) ?_ (l8 _ a7E _)];rw[b1G,a7D (g:=(λ_=>cX true)) (l:=l) rfl (by lia) λp _=>b0m p];rfl
   ·have hi:=w6 p;show eI (K1 (a6 0)) [.tuple (p.map .int)]=_;walk_at "ev"
  try walk_at "ev"
  rw[hc]
  try rfl
end Prog
namespace VS
open PySem L2
def c0c:a0G true [.int i,.int j]=cz (.int (max i j)):=by
 show cz (aO (if j>i then j else i))=_
 congr 2;by_cases c:j>i
 ·rw[aD c];lia
 ·rw[aM c];lia
end VS
namespace Prog
open PySem L2 VS
def b2f(w:WF m k):F7 [.list (m.map rwD)]=cz (.int (k:Nat)):=by
 have qU:=w.pos;have e0:(rowAt m 0).length=k:=w.row (by lia) (by lia);unfold F7;rw[D6 (by simp[VS.argsOk])];unfold a1C
 try walk_at "ev"
 rw[a1x (by lia) (by lia)]
 try walk_at "ev"
 rw[e0]
 try rfl
def b2g(h1:1<=M)(Bi:M<=30):N6 [.int M,.int 30]=cz .none:=by
 unfold N6;rw[c1E (by simp[VS.argsOk,imm])];unfold a2f
 try walk_at "ev"
 rw[show S8 [.int M]=cz (.bool true) by unfold S8;rw[D6 (by simp[VS.argsOk])];unfold a3E;walk_at "ev"]
 try walk_at "ev"
 rw[aY h1]
 try walk_at "ev"
 rw[aY Bi]
 try walk_at "ev"
 try rfl
def a5f{m:i9}{k:Nat}(w:WF m k){L:i9}(hL:L1 [.list (m.map rwD)]=cz (.list (L.map rwD)))(C:Can L k){M:Int}{e:Nat}(M1:1<=M)(uG:M<=30)(he:(e:Int)=max (M-(L.length:Int)) 0)(kN:szF L.length k e<=3000)
  {ps:List (List Int)} (ui:B9 [.list (L.map rwD),.int (e:Nat)]=cz (.list (ps.map iD))) (g:GoodP k ps) (hl:ps.length<65536) :
  a0v [.list (m.map rwD),.int M]=cz (.list (ps.map λp=>cy [iD p,iD (i6 m 0 p).1])):=by
 have FL:=C.wf.le;have El:=C.wf.pos;have qU:=w.pos;have k1:=w.k1;have k5:=w.k5;unfold a0v;rw[D6 (by simp[VS.argsOk])];unfold b4h
 try walk_at "ev"
 rw[b2g M1 uG]
 try walk_at "ev"
 rw[hL]
 try walk_at "ev"
 rw[c0c,<-he]
 try walk_at "ev"
 rw[b2f w]
 try walk_at "ev"
 rw[b7u _ _ _ (by lia) (by lia) (by lia) (by lia) (by lia) (by lia)]
 try walk_at "ev"
 rw[br (by lia)]
 try walk_at "ev"
 rw[ui]
 try walk_at "ev"
 rw[N9 (enc:=iD) (xs:=ps) (λp=>cy [iD p,iD (i6 m 0 p).1]) (by try walk_at "ev") (by lia) λp hp=>⟨[iD p],rfl,?_⟩]
 ·try rfl
 ·show O7 (a7 (a6 0) (a7 (e2 dIx (eCl E5 (a7 (a6 1) (a7 (eC (.int 0)) (a7 (a6 0) b8)))) (eC (.int 0))) b8)) [iD p,.list (m.map rwD)]=_
  try walk_at "ev"
  rw[a5e w (by lia) (by lia) (g p hp).1 (by have:=(g p hp).2;lia)]
  try walk_at "ev"
  try rfl
theorem b5f:∀j:Nat,rF 1 j=(j:Int)+1
 |0=>rfl
 |j+1=>by
  show rF 1 j*1+1=_;rw[b5f j];lia
def c0d(n4:n<=4)(k1:1<=k)(k3:k<=3)(h:e<=1∨k=1/\e<=29):szF (n:Nat) (k:Nat) (e:Nat)<=3000/\k^(e+1)<=3125/\(J9 k (e+1)).length<=64/\e<=30:=by
 have hl:=a6l k k1 (e+1);rcases h with h|⟨rfl,h⟩
 ·have h1:∀n,n<5->∀k,k<4->∀e,e<2->szF (n:Nat) (k:Nat) (e:Nat)<=3000/\k^(e+1)<=9:=by decide
  obtain⟨a,b⟩:=h1 n (by lia) k (by lia) e (by lia);have c:(e+1+1)*k^(e+1)<=3*9:=md (by lia) b;exact⟨a,by lia,by lia,by lia⟩
 ·rw[Nat.one_pow,Nat.mul_one]at hl;refine⟨?_,by rw[Nat.one_pow];decide,by lia,by lia⟩;unfold szF;rw[show ((1:Nat):Int)=1 from rfl,b5f,show ((((e:Nat):Int)+1).toNat:Int)=e+1 by lia];have a:((n:Nat):Int)*((e:Int)+1+1)<=4*31:=Int.mul_le_mul (by lia) (by lia) (by lia) (by lia);have a0:0<=((n:Nat):Int)*((e:Int)+1+1):=Int.mul_nonneg (by lia) (by lia);have b:(if (1:Int)<(n:Nat) then ((n:Nat):Int)-1 else 1)<=3:=by split<;>lia
  have b0:0<=(if (1:Int)<(n:Nat) then ((n:Nat):Int)-1 else 1):=by split<;>lia
  have c:=Int.mul_le_mul a b b0 (by lia);lia
def b2h(ps:List (List Int))(f:List Int->List Int):∀p,(cy [iD p,iD (f p)]).canLay0=true:=λp=>by
 have h1:=lay_ints p;have h2:=lay_ints (f p);simp only[dI,ba,eN,aB]at h1 h2 ⊢;exact⟨h1,h2⟩
def a7H(f:List Int->List Int)(p:List Int):(cy [iD p,iD (f p)]).depth<=60:=by
 have h1:=a0r p;have h2:=a0r (f p);simp only[eX,cW]at h1 h2 ⊢;lia
def c0e(ns:List Int){m m2 L:i9}{k:Nat}(w:WF m k)(w2:WF m2 k)(hL:L1 [.list (m.map rwD)]=cz (.list (L.map rwD)))(zB:L1 [.list (m2.map rwD)]=cz (.list (L.map rwD)))(C:Can L k)(hs:∀p:List Int,(∀a∈p,0<=a/\a<(k:Int))->(i6 m2 0 p).1=(i6 m 0 p).1)(n4:L.length<=4)(k3:k<=3)
  {M:Int} {e:Nat} (M1:1<=M) (uG:M<=30) (he:(e:Int)=max (M-(L.length:Int)) 0) (h:e<=1∨k=1/\e<=29) (x3 x4:VS.D) :
  Z3 ((e7 (g9 6 (eCl a0v (a7 (l6 (iL (a6 1)) [] pt1 tT (eI (K1 (a6 0)))) (a7 (a6 5) b8)))) (e7 (g9 7 (eCl a0v (a7 (l6 (iL (a6 2)) [] pt1 tT (eI (K1 (a6 0)))) (a7 (a6 5) b8)))) (e7 (sIf (a0C (tNo (tV (e1 (λd=>cz (.bool (isList d))) (a6 6)))) (a0C (tNo (tV (e1 (λd=>cz (.bool (isList d))) (a6 7)))) (tB (e2 dNe (eCl q9 (a7 (a6 6) b8)) (eCl q9 (a7 (a6 7) b8)))))) (u7 (eC (.bool false))) E1) (e7 (y6 (iR (eCl q9 (a7 (a6 6) b8))) (o8 8) (sIf (a0C (tNo (tV (e1 (λd=>cz (.bool (G0 d))) (e2 dIx (a6 6) (a6 8))))) (a0C (tNo (tV (e1 (λd=>cz (.bool (G0 d))) (e2 dIx (a6 7) (a6 8))))) (tB (e2 dNe (e2 dIx (a6 6) (a6 8)) (e2 dIx (a6 7) (a6 8)))))) (u7 (eC (.bool false))) E1)) (u7 (eC (.bool true))))))) [.list (ns.map .int),.list (m.map rwD),.list (m2.map rwD),x3,x4,.int M,.none,.none,.none])=cz (.bool true):=by
 have hm:=w.le;have qE:=w2.le;obtain⟨f1,f2,f3,f4⟩:=c0d n4 w.k1 k3 h;obtain⟨ps,p1,p2,p3⟩:=b2e C f4 f2 f3;have b1:=a5f w hL C M1 uG he f1 p1 p2 p3;have b2:=a5f w2 zB C M1 uG he f1 p1 p2 p3;have eq:(ps.map λp=>cy [iD p,iD (i6 m2 0 p).1])=ps.map λp=>cy [iD p,iD (i6 m 0 p).1]:=bA λp hp=>by rw[hs p (p2 p hp).1]
 rw[eq]at b2
 try walk_at "evc"
 rw[a8J (m:=m) (by rfl) (by lia)]
 try walk_at "evc"
 rw[b1]
 try walk_at "evc"
 rw[a8J (m:=m2) (by rfl) (by lia)]
 try walk_at "evc"
 rw[b2]
 try walk_at "evc"
 rw[a4d (n:=ps.length) (by try walk_at "evc") (by lia) (by lia),bg]
 try walk_at "evc"
 have hF:∀j:Nat,j<ps.length->∃ds,dIx (.list (ps.map λp=>cy [iD p,iD (i6 m 0 p).1])) (.int j)=cz (.tuple ds)/\dNe (.tuple ds) (.tuple ds)=cz (.bool false):=λj hj=>by
  refine⟨[iD ps[j],iD (i6 m 0 ps[j]).1],?_,c1w (b2h ps (λp=>(i6 m 0 p).1) _) (a7H (λp=>(i6 m 0 p).1) _)⟩;show L2.atI (ps.map λp=>cy [iD p,iD (i6 m 0 p).1]) j=_;rw[V9 (by lia) (by rw[ai];lia),cY];simp only[bg]
 generalize (ps.map λp=>cy [iD p,iD (i6 m 0 p).1])=F at hF;refine K8 (λZ=>∃x,Z=[.list (ns.map .int),.list (m.map rwD),.list (m2.map rwD),x3,x4,.int M,.list F,.list F,x]) ?_ ?_
 ·obtain⟨Z',g1,x,rfl⟩:=C6 (n:=ps.length) (set:=o8 8) (g:=(sIf (a0C (tNo (tV (e1 (λd=>cz (.bool (G0 d))) (e2 dIx (a6 6) (a6 8))))) (a0C (tNo (tV (e1 (λd=>cz (.bool (G0 d))) (e2 dIx (a6 7) (a6 8))))) (tB (e2 dNe (e2 dIx (a6 6) (a6 8)) (e2 dIx (a6 7) (a6 8)))))) (u7 (eC (.bool false))) E1)) (Z:=[.list (ns.map .int),.list (m.map rwD),.list (m2.map rwD),x3,x4,.int M,.list F,.list F,.none])
   (λ_ Z=>∃x,Z=[.list (ns.map .int),.list (m.map rwD),.list (m2.map rwD),x3,x4,.int M,.list F,.list F,x]) ⟨_,rfl⟩ (by
    rintro j hj Z ⟨x,rfl⟩;obtain⟨ds,d1,d3⟩:=hF j hj;refine⟨_,[.list (ns.map .int),.list (m.map rwD),.list (m2.map rwD),x3,x4,.int M,.list F,.list F,.int j],rfl,?_,_,rfl⟩
    try walk_at "evc"
    have xB:L2.atI F j=cz (.tuple ds):=d1;simp only[xB]
    try walk_at "evc"
    try simp only[xB]
    try walk_at "evc"
    try simp only[xB]
    try walk_at "evc"
    rw[d3]
    try walk_at "evc"
    try rfl)
  exact⟨_,g1,x,rfl⟩
 ·rintro Z ⟨x,rfl⟩
  try walk_at "evc"
  try rfl
def law_true(ns:List Int)(qV:ns.length<=63):m_law [.list (ns.map .int)]=cz (.bool true):=by
 obtain⟨m,k,yJ,w,m4,k3⟩:=a6m ns;have c0:=dN (u9 ns 5) (show (6:Int)≠0 by decide);have c1:=de (u9 ns 5) (show (0:Int)<6 by decide);obtain⟨q,hq⟩:∃q:Nat,u9 ns 5 % 6=q:=⟨(u9 ns 5 % 6).toNat,by lia⟩;obtain⟨m2,hb,w2,_,hs⟩:=a9f ns (q:=q) w (by lia);obtain⟨L,hL,CL,SL,Lm⟩:=a5b w;obtain⟨L2,zB,Fd,EO,_⟩:=a5b w2;have eL:L2=L:=b4P Fd CL (EO.trans (Sim.trans (λp hp=>hs p hp) SL.symm));subst eL;have hle:=w.le;have qU:=w.pos;have k1:=w.k1;have El:=CL.wf.pos;have e0:(rowAt m 0).length=k:=w.row (by lia) (by lia);unfold m_law;rw[D6 (by simp[VS.argsOk])];unfold b_law
 try walk_at "evc"
 rw[yJ]
 try walk_at "evc"
 rw[hq,show ((m.length:Nat):Int)+(q:Int)=((m.length+q:Nat):Int) by lia,hb]
 try walk_at "evc"
 rw[a8J (m:=m) (by rfl) (by lia)]
 try walk_at "evc"
 rw[hL]
 try walk_at "evc"
 rw[a1x (by lia) (by lia)]
 try walk_at "evc"
 rw[e0]
 try walk_at "evc"
 rw[a0l (i:=(m.length:Nat)) (by lia)]
 try walk_at "evc"
 have big:∀room:Int,1<=room->room<=(L2.length:Int)+1->∃e:Nat,(e:Int)=max (1+u9 ns 6 % room-(L2.length:Int)) 0/\e<=1/\1<=1+u9 ns 6 % room/\1+u9 ns 6 % room<=30:=λroom r1 r2=>by
  have d0:=dN (u9 ns 6) (show room≠0 by lia);have d1:=de (u9 ns 6) (show (0:Int)<room by lia);exact⟨(1+u9 ns 6 % room-(L2.length:Int)).toNat,by lia,by lia,by lia,by lia⟩
 have key:∀R:EvS,(∀(M:Int) (e:Nat),1<=M->M<=30->(e:Int)=max (M-(L2.length:Int)) 0->(e<=1∨k=1/\e<=29)->∀x3 x4:VS.D,Z3 (R [.list (ns.map .int),.list (m.map rwD),.list (m2.map rwD),x3,x4,.int M,.none,.none,.none])=cz (.bool true))->
   Z3 (thn (b5V (cz (decide (8<(m.length:Int)*(k:Int)))) (g9 4 (a6 3)) E1 [.list (ns.map .int),.list (m.map rwD),.list (m2.map rwD),.int (L2.length:Nat),.int ((L2.length:Int)+1),.none,.none,.none,.none]) (e7 (g9 5 (e2 t5 (eC (.int 1)) (e2 v9 (eCl m_law_mixed (a7 (a6 0) (a7 (eC (.int 6)) b8))) (a6 4)))) (e7 (sIf (tAn (tB (e2 dEq (eCl q9 (a7 (e2 dIx (a6 1) (eC (.int 0))) b8)) (eC (.int 1)))) (tB (e2 dEq (e2 v9 (eCl m_law_mixed (a7 (a6 0) (a7 (eC (.int 7)) b8))) (eC (.int 8))) (eC (.int 4))))) (g9 5 (eC (.int 30))) E1) R)))=cz (.bool true):=λR hR=>by
  have fin:∀(room:Int),1<=room->room<=(L2.length:Int)+1->∀x3:VS.D,Z3 (thn ((sIf (tAn (tB (e2 dEq (eCl q9 (a7 (e2 dIx (a6 1) (eC (.int 0))) b8)) (eC (.int 1)))) (tB (e2 dEq (e2 v9 (eCl m_law_mixed (a7 (a6 0) (a7 (eC (.int 7)) b8))) (eC (.int 8))) (eC (.int 4))))) (g9 5 (eC (.int 30))) E1) [.list (ns.map .int),.list (m.map rwD),.list (m2.map rwD),x3,.int room,.int (1+u9 ns 6 % room),.none,.none,.none]) R)=cz (.bool true):=λroom r1 r2 x3=>by
   obtain⟨e,h1,h2,h3,h4⟩:=big room r1 r2
   try walk_at "evc"
   rw[a1x (by lia) (by lia)]
   try walk_at "evc"
   rw[e0]
   try walk_at "evc"
   by_cases c:(k:Int)=1
   ·rw[aY c]
    try walk_at "evc"
    by_cases c2:u9 ns 7 % 8=4
    ·rw[aY c2]
     try walk_at "evc"
     exact hR 30 (30-L2.length) (by lia) (by lia) (by lia) (.inr ⟨by lia,by lia⟩) _ _
    ·rw[br c2]
     try walk_at "evc"
     exact hR _ e h3 h4 h1 (.inl h2) _ _
   ·rw[br c]
    try walk_at "evc"
    exact hR _ e h3 h4 h1 (.inl h2) _ _
  cases decide (8<(m.length:Int)*(k:Int)) with
  |true=>
   have f:=fin (L2.length:Int) (by lia) (by lia) (.int (L2.length:Nat));rw[b2U,a1S,show a6 3 [.list (ns.map .int),.list (m.map rwD),.list (m2.map rwD),.int (L2.length:Nat),.int ((L2.length:Int)+1),.none,.none,.none,.none]=cz (.int (L2.length:Nat)) from rfl,a0k,V7,V8,a1S];rw[show e2 t5 (eC (.int 1)) (e2 v9 (eCl m_law_mixed (a7 (a6 0) (a7 (eC (.int 6)) b8))) (a6 4)) ([.list (ns.map .int),.list (m.map rwD),.list (m2.map rwD),.int (L2.length:Nat),.int ((L2.length:Int)+1),.none,.none,.none,.none].set 4 (.int (L2.length:Nat)))=cz (.int (1+u9 ns 6 % (L2.length:Int))) by
    simp only[dX,fZ];walk_at "evc",a0k,V7,V8]
   exact f
  |false=>
   have f:=fin ((L2.length:Int)+1) (by lia) (by lia) (.int (L2.length:Nat));rw[b2V,b2W,V7,V8,a1S];rw[show e2 t5 (eC (.int 1)) (e2 v9 (eCl m_law_mixed (a7 (a6 0) (a7 (eC (.int 6)) b8))) (a6 4)) [.list (ns.map .int),.list (m.map rwD),.list (m2.map rwD),.int (L2.length:Nat),.int ((L2.length:Int)+1),.none,.none,.none,.none]=cz (.int (1+u9 ns 6 % ((L2.length:Int)+1))) by
    walk_at "evc",a0k,V7,V8]
   exact f
 exact key _ λM e M1 uG he h x3 x4=>c0e ns w w2 hL zB CL hs (by lia) k3 M1 uG he h x3 x4
def c0f{l:W.OpenLaw}{w:cm}{K:W.Frag}{mg:bG->Option aj}{fa:ax}(yZ:mg "law"=cz (.ref fa))(b:Bn K mg)(kP:(B6 K "ways_by_state").isSome=true)
  : ∃fd:dP,(∀(s:av) (v:aj),nT s fd ⟨[v],[]⟩ [("_law_script",v)])/\∀base:cQ,K.In base->base.Ns bU mg->FnOk l.prog w K mg base CX0 8 fa fd ["_law_script"] (spD K 1 m_law .i):=b9H yZ b.d30 λbase KB GB fd F=>by
 have B:Bk l.prog w K mg base:=⟨b⟩;have cD:=ok_law_mixed B;have kn:=ok_law_pool B cD.u;have iP:=ok_law_machine B cD.u kn.u;have jn:=ok_law_turned B cD.u;have jK:=ok_law_blown B cD.u jn.u;have ko:=a7q B;have jJ:=a5T B ko.u;have gr:=Z4 B;have eu:=a4j B;have gR:=a3G B eu.u;have gx:=a5U B gR.u;have jI:=a5V B;have eY:=a1A B jI.u kP KB GB;have kX:=a8K B eY.u;have jU:=b4b B gr.u eu.u gx.u kX.u;have kY:=b6T B;have iO:=a3H B kY.u;have g_:=a1B B;have ip:=a2w B eu.u g_.u;have jo:=a4k B ip.u;have mY:=b4d B gx.u jo.u;have mW:=b4e B iO.u mY.u;have gO:=a0X B;have kW:=a8M B gO.u;have ig:=a8N B;have oq:=b6U B eY.u;have iY:=b1J B;have iQ:=a3J B kY.u mW.u kW.u ig.u oq.u iY.u;have jL:=a5X B;have mX:=b6V B jJ.u jU.u ig.u iY.u iQ.u jL.u;exact ok_law B cD.u iP.u jK.u jU.u mX.u F
end Prog
namespace PySem.W.Fast
def tw7368804649134843186:=0
def tw11798071921976218035:=0
def tw6381778610498017433:=0
def tw2774032861300303701:=0
def tw12175145445993228767:=0
def tw17923264660735290053:=0
def tw3313107012476754008:=0
def tw6343881435469448712:=0
def tw10588608815297152259:=0
def tw11385143200528192905:=0
def tw9777392279764237090:=0
def tw6377239903295911578:=0
def tw17042156755102280155:=0
def tw14089356732997268507:=0
def tw17521082462291299293:=0
def tw4944655782489360205:=0
def tw9659685493509712808:=0
def tw5102888713336996471:=0
def tw7727434110400210822:=0
def tw13246403403578764315:=0
def tw969377353547038197:=0
def tw13663105041553976982:=0
def tw227560360806353985:=0
def tw6452906531029621339:=0
def tw17251757500652158978:=0
def tw17899467712759609441:=0
def tw13560988102569035047:=0
def tw11460071858344062485:=0
def tw12049193306570995902:=0
def tw13439579169626340741:=0
def tw11635828004583947390:=0
def tw4489490820417458120:=0
def tw17392002217227562086:=0
def tw9912259039420322670:=0
def tw6893533669171181272:=0
def tw14500917257384595557:=0
def tw13811718414003902836:=0
def tw374569380545641543:=0
def tw16108539395164612584:=0
def tw5776143748658098724:=0
def tw12836039034590779815:=0
def tw11955385099631327516:=0
def tw9023792347181730304:=0
def tw5486845694949330119:=0
def tw14199322684311929569:=0
def tw3151544868432450087:=0
def tw4387333400877517802:=0
def tw12493895970122668700:=0
def tw13060197280537935108:=0
def tw9880973084773539598:=0
def tw8289616373695133944:=0
def tw16063821818436902343:=0
def tw13552541518447858768:=0
def tw10595803188801555326:=0
def tw2496813772704503398:=0
def tw6989637382861352821:=0
def tw9830373208661161093:=0
def tw6364489258259030798:=0
def tw6168301263340728039:=0
def tw4399676464534300743:=0
def tw1950346217658671211:=0
def tw12509104317886273116:=0
def tw296998891395637460:=0
def tw1128819529583858733:=0
def tw17707353476719600470:=0
def tw7118973226905185148:=0
def tw15255864917746891106:=0
def tw7036758677674173250:=0
def tw10751993181076348461:=0
def tw1737701788161164507:=0
def tw7354453178376808680:=0
def tw10152529929795639078:=0
def tw7577758995136658776:=0
def tw552964890951803071:=0
def tw5723255410335906309:=0
def tw11729853984615538801:=0
def tw250162097646474423:=0
def tw16628358634813170505:=0
def tw17362098050519354440:=0
def tw7431068354093727024:=0
def tw12070295354057867605:=0
def tw11032477211132676931:=0
def tw11144501809168600722:=0
def tw16157856005427830335:=0
def tw17009045197147594838:=0
def tw5042990844891788265:=0
def tw16747446211875555572:=0
def tw11656616752374734204:=0
def tw6037539206692464373:=0
def tw10879482687038853821:=0
def tw7503966238636810095:=0
def tw7638537925470385578:=0
def tw15400914129010102937:=0
def tw14856794751993258586:=0
def tw7977087966982908241:=0
def tw10872328016133726925:=0
def tw3192972515588316050:=0
def tw10747189469311541916:=0
def tw2417719483517510172:=0
end PySem.W.Fast
end
open PySem PySem.W PyProof.Rows
set_option maxRecDepth 100000 in
set_option maxHeartbeats 0 in
theorem PySem.Challenge.cw_probewell_k59_one_book_holds : PySem.Challenge.rw_probewell_k59_one_book.Holds := by
 w_on;o_law;k_head;(case hw=>w_witness2)
 k_fill
 refine VS.b0N (k:=8) (x:="_law_script") (m:=Prog.m_law) (l:=PySem.Challenge.rw_probewell_k59_one_book) rfl rfl ⟨rfl,by decide,by decide⟩ (fun w h Y=>by first|exact PySem.W.kIn_of Y|exact PySem.W.km_in_of Y) (fun w=>by kernel_rfl) ?F Prog.law_true
 case F=>
  intro w mg fa h KX G hmg
  refine' Prog.c0f hmg ?b ?_
  case b=>
   constructor
   iterate 31 (refine' VS.c1m KX G ?a ?l ?c ?k;(case a=>k_is);(case l=>k_is);(case c=>k_is);(case k=>k_is))
   iterate 11 (refine' PySem.W.mg_none_of KX G ?_;k_is)
   iterate 2 (refine' VS.c2K KX G ?a;(case a=>k_is))
  kernel_rfl
