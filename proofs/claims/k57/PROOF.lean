import PyProof.Rows.All
import Wide.All
import OpenK.AllK
import Wide.FinOn
import Lean
import PyProof.EqAt
import PyProof.EqKinds
import PyProof.TupleCall
import KE.KLam
import PyProof.WalksEnum
import PyProof.EnumMake
import PyProof.Rows.SortWalk
import PyProof.Rows.SetFrom
import PyProof.SetRoads
import PyProof.DictTable
import PyProof.ListRange
import PyProof.DictWalks
import PyProof.DictUpdate
import KE.KSortTup
import KE.KDictSum
import KE.KSortKey
import PySem.Challenge.RW_probewell_k57_common_marks
set_option Elab.async false
set_option linter.all false
set_option maxRecDepth 100000
set_option compiler.extract_closed false
set_option bootstrap.genMatcherCode false
noncomputable section
open Option renaming some→xn,none→xI
open List renaming getElem?_eq_getElem→ab,getD_eq_getElem?_getD→ag,mem_append_right→ah,length_map→ai,mem_append_left→ak,mem_singleton→ao,mem_append→aq,mem_cons_of_mem→av,map_cons→ax,length_append→az,range→aA,mem_map→aG,mem_cons→aH,mem_cons_self→aK,getElem?_eq_some_iff→aL,map_append→aN,getElem?_map→aR,append_assoc→aS,replicate→aT,length_cons→aV,append_nil→bg,size_toArray→bp,mem_of_getElem?→br,length_range→bz,nodup_nil→bA,cons_append→bB,map_map→bC,getElem?_set_ne→bF,map_congr_left→bG,mem_range→bI,nil_append→bJ,nodup_append→bN,count_append→bT,nodup_cons→bV,length_singleton→bW,idxOf_lt_length_iff→bZ,map_singleton→cx,mem_flatMap→cD,mem_map_of_mem→cH,getElem?_append_right→cQ,mem_iff_getElem?→cS,map_nil→cW,getElem_map→de,zip_cons_cons→dt,getElem_mem→dA,pairwise_singleton→dD,pairwise_append→dE,all_eq_true→dH,getElem?_append_left→dI,drop_eq_getElem_cons→dJ,mem_filterMap→dU,getElem_idxOf→dW,length_take→dX,length→dY,getElem?_set_self→er,any_eq_false→et,getD_cons_succ→eu,flatMap_append→eA,nodup_iff_count→eL,getElem?_range→eR,count_pos_iff→fw,flatMap_cons→fG,lookup_cons→fQ,length_eq_zero_iff→fR,set_cons_succ→fU,find?_cons→fZ,count_cons→f_,length_replicate→gh,length_drop→gA,replicate_zero→gJ,length_nil→gO,pairwise_cons→gW,getElem?_inj→ij,take_append_drop→iC,flatMap_nil→iK,ext_getElem→iM,drop_length→iN,mem_iff_getElem→iV,range_succ→jg,of_mem_zip→jh,mem_filter→ji,replicate_succ→jr,getElem_range→jM,count_eq_zero→jN,extract_eq_take_drop→jV,reverse_cons→jX,idxOf_append→jY,foldl_append→jZ,ext_getElem?→j_,sublist_append_left→ko,getElem?_take_of_lt→kr,take_of_length_le→kT,getElem?_eq_none→lA,getD_cons_zero→ml,filterMap_cons→mo,zip_nil_right→mS,set_cons_zero→mT,find?_eq_none→mU,zip_nil_left→nE,take_length→nZ,any_eq_true→n_,drop_append_of_le_length→oG,take_range→oY,length_zip→oZ,forIn_cons→o_,perm_append_singleton→p_,forIn_nil→qd,sublist_append_right→qC,pairwise_iff_getElem→qD,getElem?_zip_eq_some→qE,set_comm→ro,tail→rZ,getElem?_replicate→r_,range_succ_eq_map→tE,pairwise_lt_range→tF,map_id'→tG,pairwise_reverse→uz,contains_iff_mem→uA,count_cons_self→wq,toList_toArray→xq,map_eq_nil_iff→xr,map_inj_right→zJ,filterMap_map→zK,take_add_one→Bq,pairwise_map→Br,getElem_drop→Bs,map_flatMap→EN,countP_cons→EO,length_set→FP,foldl_cons→FQ,countP_map→FR
open PySem renaming wpAny_bind→ae,Value→aj,starEach→ar,Shared→au,Addr→aw,wpAny_pure→aC,wpAny→aX,model→aY,sizeLine→a_,PyData→bj,Program→bw,Str→bE,Around→bQ,mainGlobals→bS,World→b_,mem_of_lookup→cy,compareOp→cA,backTo→cB,eval→cK,Heap→cR,sizeLine_eq→dg,keywordEach→dh,sysModules→dq,wpAny_holding→dC,cLine→dF,attributeBase→dM,wpAny_call_entry→dN,FuncData→dR,wpAny_mono→d_,Keyword→eB,wpAny_truthy_bool→eF,backToKw→eK,Paired→fK,swapsWith→fL,Pos→fM,foldedSetIterable→fN,wpAny_callSpecial?_slot→fW,binaryOp→fX,Obj→fY,wpAny_typeNameOfWhole_keyiter→gj,Scope→gk,wpAny_Call_Name_kw→gq,wpAny_specialOf→gu,wpAny_passesOwn→gv,wpAny_dictEntries→gB,intKind→gP,codeAny_mono→gQ,codeAny→gR,bootBuiltins→gS,DictEntry→gX,wpAny_typeNameOf_keyiter→hX,behindInMarks→ie,wpAny_updateSeq→iq,wpAny_ite_split→ir,wpAny_rule→iw,assignEach→ix,Stmt→iy,wpAny_newObj_type→iP,ReadsAll→iT,NameKind→iU,rawInt→jt,sliceBounds→jB,TriplesOk→kz,builtinsNs→kE,plainId_quiet→lu,wpAny_isInstance→lM,codeAmong→lV,Arguments→lZ,relabel→ma,wpAny_execs_nil→mw,letOwnedTupleGo→mz,wpAny_notOrdered_dict→mG,updateSeq→nG,callerA→nI,PassesOwn→nJ,BindsTo→nK,Env→oe,wpAny_attempt→oh,numAt→oq,closureFor→oV,wpAny_typeOf→pC,getItem→pW,bindArgs→pX,ItemsOf→qf,wpAny_letGo→rA,subscripted→rB,wpAny_dictEpoch→sf,dictGet→uw,wpAny_seqItems→uC,wpAny_call→uD,pyNext→uI,dictSetDefault→wb,wpAny_standAt→xx,Sem→zD,call→zF,lastMarks→Ac,bindL→Bh,bindC→Bi,wpAny_Call_method_late→By,isTrue→BZ,Fin→EJ,wpAny_isOneOf_keyiter→EU
open PySem.W renaming Frag→af,kia_one→cZ,kla_obj→eN,kitOne→fO,keepIn→fP,fnOf→fT,CodeHd→gw,nsIn→gz,envX→jx,findIn→jL,mg_of→kj,codeIn→lW,kas_item→md,methodObj→nu,kitx_list→nv,kitx_dict→ny,instObj→oW,lookIn→pY,cellsFrom_some→tx,kitx_tuple→zG,callWith_K→zH,specialIn→Bm,plainGet→EI,OpenLaw→FO
open Nat renaming le_refl→ay,lt_of_lt_of_le→bo,ne_of_lt→bM,le_trans→cC,zero_le→cE,lt_or_ge→cI,lt_irrefl→dQ,le_of_lt→eV,add_assoc→gd,lt_of_le_of_lt→gU,zero_add→ig,min_eq_left→jf,ne_of_gt→jy,lt_trans→jz,add_comm→jA,sub_self→kP,min_le_left→lg,le_succ_of_le→nD,mul_le_mul→pZ,min_self→tD,pow_le_pow_right→wm,le_succ→wo,lt_succ_self→EL
open Bool renaming and_eq_true→aD,false_eq_true→bu,false_ne_true→cj,and_self→eG,eq_false_iff→fH,and_true→fJ,not_true→gf,beq_eq_decide_eq→gi,or_eq_true→ll,true_and→mE
open PySem.Heap renaming get?_push_of_some→aE,lt_size→aU,get?_push_size→be,get?_update_self→cU,get?_update_other→dO,SameBut→mq
open Option.some renaming inj→aF,injEq→nz
open PySem.PyData renaming eqv→aI,int→aO,canLayAll0→bb,list→bD,eqvAll→cu,bool→cV,depthAll→cX,tuple→dm,canLay0→eQ,depth→fB,none→iB
open PyProof.Rows renaming wpS_bind→aM,wpS_pure→aW,arrOf→aZ,Keyed→bO,pendingOf→bX,SortSt→df,wpS_forRange→dw,SortKind→eS,wpS_mono→fA,failedOf→fI,callWith_type1→gn,wpS_modify→ip,seqObj→iu,envOfC→jo,wpS_get→kA,IntsAre→lX,mirror→mW,AllBare→oH,wpS→se,listUpdate_at→so,setPending→tK
open Array renaming length_toList→aP,getElem?_eq_getElem→bh,getElem?_toList→bP,getElem_toList→bU,toList_push→cm,getElem_extract→dP,getD_eq_getD_getElem?→eW,perm_iff_toList_perm→fy,getElem?_eq_none→fV,toList_extract→gx,getElem_mem_toList→gN,ext'→gY,append_empty→gZ,mem_toList_iff→iX,forIn_toList→jP,append_assoc→jQ,toList_reverse→lY,toList_append→mv,size_extract→mV,push_eq_append_singleton→og,getElem?_eq_some_iff→qg,toArray_toList→wy,getD→zM
open PySem.Value renaming none→bt,ref→bH,type→fF,int→jw,isInt→jJ,bool→mj,str→rd
open Int renaming toNat_natCast→bK,emod_lt_of_pos→du,emod_nonneg→dS,toNat_of_nonneg→gK,le_refl→wu
open PySem.PassesOwn renaming never→bL
open Or renaming inr→bR,inl→bY
open PySem.Obj renaming mapSeq→cw,isFreed_of_dict→jW,data_mapDictKeys→nB,data_mapDict→rm
open PySem.Str renaming ofString→cG
open False renaming elim→cJ
open PyProof.Rows.KeyOrd renaming kle_of_klt→cL,kle_trans→c_,kle_refl→eD,klt_of_klt_of_kle→eY
open PySem.Builtin.List renaming listExtendWith→cM,listLengthHint→gD,listSameRef→il,listItems→iW,listTooLong→lE,listUpdate→Bt
open Ne renaming symm→cY
open Option renaming bind_some→dG,map_eq_some_iff→eU,isSome_iff_exists→kn,map_some→oX,map→zI,getD_none→EK
open PySem.Builtin.Tuple renaming tupleHashOf→eJ
open PySem.F renaming plainAttrs_list→eM,slot_dict_keyiterator_next→eX,plain_extend_loop→ke,type_list_append→kl,slot_list_append→km,slot_tuple_hash→lh,type_dict_get→ly,slot_dict_get→lz,type_list_extend→rg,slot_list_extend→rh,slot_dict_values→rl,args_dict_keyiterator_next_1→rz,slot_list_count→rW,plain_list_iadd→rX,plainAttrs_dict→rY,entry_dict_keyiterator_next→sd,slot_dict_len→tH
open PySem.Heap.SameBut renaming update→fx
open PySem.NameKind renaming free→fC
open ForInStep renaming yield→fE
open List.cons renaming injEq→gc,inj→rq
open PySem.Paired renaming length→gy
open List.Sublist renaming refl→ik,append→xt
open True renaming intro→jK
open List.Perm renaming refl→jO,append_left→lC
open List.Pairwise renaming nil→kc
open PySem.Calls renaming callWith_builtin→mr,evalArgs_plain→nF,Name_function_global→wx
open Sum renaming inr→nr,inl→nt
open PySem.SeqAt.ReadsAll renaming length→oF
open PySem.SeqAt renaming eqAt_reads→rf
open PySem.Builtin.Dict_items renaming ownsTuple→tI
open PySem.Builtin.Dict renaming showsAll→FT
open Array.Perm renaming refl→FU
def aB:=@if_pos
def aJ:=@if_neg
def aQ:=@decide_eq_true
def ba:=@decide_eq_false
def bx:=@of_decide_eq_true
def dr:=@if_false
def dB:=@congrArg
def gF:=@beq_eq_false_iff_ne
def jC:=@of_decide_eq_false
def pq:=@if_true
def qY:=@forall_congr'
def Bg:=@decide_eq_true_eq
def EA:=@decide_eq_decide
def EG:=@beq_self_eq_true
namespace L2
open PySem PySem.Spec PyProof.Rows
abbrev Key:=Sum Int bE
def b7J:Key→aj→Bool
  |.inl k,v=>jJ k v
  |.inr x,v=>aj.isStrOf x v
def c2c(w:b_):Key→Int
  |.inl k=>hashInt k
  |.inr x=>hashStr w x
def u7:∀{k:Key} {v:aj},b7J k v=true→(∃i t,k=nt i∧v=jw i t)∨(∃x t,k=nr x∧v=rd x t)
  |.inl i,v,h=>by
    obtain⟨t,e⟩:=aj.isInt_shape (k:=i) (v:=v) h;exact .inl ⟨i,t,rfl,e⟩
  |.inr x,v,h=>by
    obtain⟨t,e⟩:=aj.isStrOf_shape (x:=x) (v:=v) h;exact .inr ⟨x,t,rfl,e⟩
def b8e(a b:Int):decide ((nt a:Key)=nt b)=(a==b):=by
  by_cases e:a=b
  · subst e;simp
  · have h:¬ (nt a:Key)=nt b:=λq=>e (nt.inj q)
    rw[ba h];exact (gF.mpr e).symm
def b8f(a b:bE):decide ((nr a:Key)=nr b)=decide (a=b):=by
  by_cases e:a=b
  · subst e;simp
  · have h:¬ (nr a:Key)=nr b:=λq=>e (nr.inj q)
    rw[ba h,ba e]
def b8g(a:Int)(b:bE):decide ((nt a:Key)=nr b)=false:=ba (λq=>nomatch q)
def b8h(a:bE)(b:Int):decide ((nr a:Key)=nt b)=false:=ba (λq=>nomatch q)
def a5k(prog:bw)(w:b_):PySem.KeyKind prog w Key where
  is:=b7J
  hash:=c2c w
  inj:=λv a b ha hb=>by
    rcases u7 ha with⟨i,t,rfl,rfl⟩|⟨x,t,rfl,rfl⟩
    · rcases u7 hb with⟨j,u,rfl,e⟩|⟨y,u,rfl,e⟩
      · injection e with e1 _;rw[e1]
      · exact nomatch e
    · rcases u7 hb with⟨j,u,rfl,e⟩|⟨y,u,rfl,e⟩
      · exact nomatch e
      · injection e with e1 _;rw[e1]
  byValue:=λk v h=>by
    rcases u7 h with⟨i,t,rfl,rfl⟩|⟨x,t,rfl,rfl⟩<;>rfl
  pyHash:=λhv h=>by
    rcases u7 hv with⟨i,t,rfl,rfl⟩|⟨x,t,rfl,rfl⟩
    · exact wpAny_pyHash_int h
    · exact wpAny_pyHash_str h
  eqBool:=λhu hv h=>by
    rcases u7 hu with⟨i,t,rfl,rfl⟩|⟨x,t,rfl,rfl⟩
    · rcases u7 hv with⟨j,u,rfl,rfl⟩|⟨y,u,rfl,rfl⟩
      · rw[b8e]at h;exact wpAny_eqBool_int h
      · rw[b8g]at h;exact SeqAt.EqAt.int_str i t y u _ _ _ _ h
    · rcases u7 hv with⟨j,u,rfl,rfl⟩|⟨y,u,rfl,rfl⟩
      · rw[b8h]at h;exact SeqAt.EqAt.str_int x t j u _ _ _ _ h
      · rw[b8f]at h;exact wpAny_eqBool_str h
  «strs»:=λk x t v h=>by
    rcases u7 h with⟨i,u,rfl,e⟩|⟨y,u,rfl,e⟩
    · exact nomatch e
    · injection e with e1 _
      subst e1;cases v<;>rfl
inductive V where
  |non|bl (b:Bool)|int (i:Int)|str (x:bE)|byt (b:Array UInt8)|flt (b:UInt64)|ref (a:aw)|ty (n:String)
  deriving DecidableEq
def RelV:V→aj→Prop
  |.non,u=>u=bt
  |.bl b,u=>u=mj b
  |.int i,u=>∃t,u=jw i t
  |.str x,u=>∃t,u=rd x t
  |.byt b,u=>∃t,u=aj.bytes b t
  |.flt b,u=>∃t,u=aj.float b t
  |.ref a,u=>u=bH a
  |.ty n,u=>u=fF n
abbrev Vals:List V→List aj→Prop:=fK RelV
theorem Vals.length{xs:List V}{us:List aj}(r:Vals xs us):xs.length=us.length:=gy r
theorem Vals.get:∀{xs:List V} {us:List aj} {i:Nat} {x:V},Vals xs us→xs[i]?=xn x→∃u,us[i]?=xn u∧RelV x u
  |_,_,_,_,.nil,e=>by simp at e
  |_,_,0,_,.cons r _,e=>by simp at e;subst e;exact⟨_,rfl,r⟩
  |_,_,i+1,x,.cons _ t,e=>by
    obtain⟨u,h1,h2⟩:=Vals.get (i:=i) (x:=x) t (by simpa using e);exact⟨u,by simpa using h1,h2⟩
theorem Vals.append:∀{xs ys:List V} {us ws:List aj},Vals xs us→Vals ys ws→Vals (xs++ys) (us++ws)
  |_,_,_,_,.nil,s=>s
  |_,_,_,_,.cons r t,s=>.cons r (Vals.append t s)
theorem Vals.take:∀{xs:List V} {us:List aj} (n:Nat),Vals xs us→Vals (xs.take n) (us.take n)
  |_,_,0,_=>.nil
  |_,_,_+1,.nil=>.nil
  |_,_,n+1,.cons r t=>.cons r (Vals.take n t)
theorem Vals.drop:∀{xs:List V} {us:List aj} (n:Nat),Vals xs us→Vals (xs.drop n) (us.drop n)
  |_,_,0,r=>r
  |_,_,_+1,.nil=>.nil
  |_,_,n+1,.cons _ t=>Vals.drop n t
def b8i:Option V→Option aj→Prop
  |some v,xn u=>RelV v u
  |none,xI=>True
  |_,_=>False
def KV{κ:Type}:List (κ×V)→List (κ×aj)→Prop:=fK λ(p:κ×V) (q:κ×aj)=>p.1=q.1∧RelV p.2 q.2
def kV:Key→V
  |.inl i=>.int i
  |.inr x=>.str x
inductive HO where
  |lst (xs:List V)
  |tup (xs:List V)
  |dK (kvs:List (Key×V))|dT (kvs:List (List Key×V))
  |set (S:Int→Bool) (n:Nat)
  |ins (C dx:aw) (fs:List (bE×V))
  |own (x:aw)
  |xd (fs:List (bE×V))
  |met (f x:aw)
  |rng (lo hi:Int)
  |frz (o:fY) (u:HO)
  |tbl (ps:Array aj)
  |ext (φ:cR→Prop)
abbrev Hp:=aw→Option HO
def upd(H:Hp)(a:aw)(o:HO):Hp:=λb=>if b=a then xn o else H b
def g8{H:Hp}{a:aw}{o:HO}:upd H a o a=xn o:=by unfold upd;rw[aB rfl]
def c7{H:Hp}{a b:aw}{o:HO}(h:b≠a):upd H a o b=H b:=by unfold upd;rw[aJ h]
def b5u:upd (upd H a o) a u=upd H a u:=by
  funext b;unfold upd;split<;>rfl
def i7{H:Hp}{a b:aw}{o:HO}(h:H a=xn o)(h':H b=xI):a≠b:=by
  intro e;subst e;rw[h]at h';cases h'
def Pin(a:aw):HO→Prop
  |.tup _=>True
  |.frz _ (.own b)=>b=a
  |_=>False
abbrev c0q(a:aw):={u:HO // Pin a u}
def a6x(H:Hp)(h:cR)(a:aw)(qs:Array aj):Prop:=
  ∃ps:Array aj,h.get? a=xn {cls:=.none,data:=.fields ps}∧kz ps.toList∧∀(pos:fM) (cv:aj),lV pos ps.toList=xn cv→
    ∃c' oc vs q t t',cv=.ref c'∧H c'=xn (.frz oc (.own a))∧oc.data=.fields vs∧vs[1]?=xn (.str q t)∧qs[0]?=xn (.str q t')
section
variable (P:bw)(w:b_)
def ObjOk(H:Hp)(h:cR)(a:aw):HO→Prop
  |.lst xs=>xs.length≤a_∧∃(its:List aj) (n:Nat),Vals xs its∧h.get? a=xn {cls:=.type "list",data:=.seq its.toArray n}
  |.tup xs=>xs.length≤a_∧∃its:List aj,Vals xs its∧IsTup h a its.toArray
  |.dK kvs=>kvs.length≤a_∧(a==dq)=false∧∃vs,KV kvs vs∧h.DictOf (a5k P w) a vs
  |.dT kvs=>kvs.length≤a_∧(a==dq)=false∧∃xs:List (List Key×aw×aj),
      fK (λ(p:List Key×V) (q:List Key×aw×aj)=>p.1=q.1∧H q.2.1=xn (.tup (p.1.map kV))∧RelV p.2 q.2.2) kvs xs∧
      ∃o es ep,h.get? a=xn o∧o.ExactDict∧o.data=.dict es ep∧es.toList=xs.map (entryOfKey (tupleKind (a5k P w)))∧(xs.map (·.1)).Nodup
  |.set S n=>h.SetOf (gP P w) a S n
  |.ins C dx fs=>H dx=xn (.own a)∧fs.length≤1000∧dx≠a∧h.get? a=xn (oW C dx)∧
      ∃mA,h.Ns1 dx mA∧(∀f,b8i (fs.lookup f) (mA f))∧PySem.Within mA (fs.map (·.1))
  |.own _=>∃o,h.get? a=xn o
  |.xd fs=>∃mA,h.Ns1 a mA∧∀f,b8i (fs.lookup f) (mA f)
  |.rng lo hi=>∃t u v,h.get? a=xn {cls:=.type "range",data:=.fields #[.int lo t,.int hi u,.int 1 v]}
  |.frz o u=>h.get? a=xn o∧ObjOk H h a u
  |.tbl ps=>a6x H h a ps
  |.met f x=>h.get? a=xn (nu (.ref f) (.ref x))
  |.ext φ=>φ h∧(∃o,h.get? a=xn o)∧∀h1 h2:cR,φ h1→(∀o,h1.get? a=xn o→h2.get? a=xn o)→φ h2
def HOk(H:Hp)(h:cR):Prop:=∀a o,H a=xn o→ObjOk P w H h a o
end
section
variable {P:bw}{w:b_}{H H':Hp}{h h':cR}{a:aw}{o:HO}
theorem ObjOk.lt(x:ObjOk P w H h a o):a<h.objs.size:=by
  cases o with
  |lst xs=>obtain⟨_,_,_,_,e⟩:=x;exact aU e
  |tup xs=>obtain⟨_,_,_,p⟩:=x;exact p.lt
  |dK kvs=>obtain⟨_,_,_,_,o,_,_,e,_⟩:=x;exact aU e
  |dT kvs=>obtain⟨_,_,_,_,o,_,_,e,_⟩:=x;exact aU e
  |set S n=>obtain⟨o,_,_,_,e,_⟩:=x;exact aU e
  |ins C dx fs=>obtain⟨_,_,_,e,_⟩:=x;exact aU e
  |own y=>obtain⟨_,e⟩:=x;exact aU e
  |xd fs=>obtain⟨_,⟨_,_,_,e,_⟩,_⟩:=x;exact aU e
  |rng lo hi=>obtain⟨_,_,_,e⟩:=x;exact aU e
  |frz ob u=>obtain⟨e,_⟩:=x;exact aU e
  |tbl ps=>obtain⟨_,e,_⟩:=(show a6x H h a ps from x);exact aU e
  |met f y=>exact aU (show h.get? a=xn _ from x)
  |ext φ=>obtain⟨_,⟨_,e⟩,_⟩:=x;exact aU e
theorem Paired.mapP:∀{l₁:List α} {l₂:List β},fK F l₁ l₂→(∀a b,F a b→G a b)→fK G l₁ l₂
  |_,_,.nil,_=>.nil
  |_,_,.cons r t,f=>.cons (f _ _ r) (Paired.mapP t f)
def ObjOk.stay(x:ObjOk P w H h a o)(k:∀b u,(b=a∨H b=xn (.own a))→h.get? b=xn u→h'.get? b=xn u)
    (ho:∀b,H b=xn (.own a)→H' b=xn (.own a)) (ht:∀b (u:c0q a),H b=xn u.1→H' b=xn u.1):ObjOk P w H' h' a o:=by
  induction o with
  |lst xs=>obtain⟨z,its,n,r,e⟩:=x;exact⟨z,its,n,r,k _ _ (.inl rfl) e⟩
  |tup xs=>obtain⟨z,its,r,ob,e,c⟩:=x;exact⟨z,its,r,ob,k _ _ (.inl rfl) e,c⟩
  |dK kvs=>obtain⟨z,y,vs,r,ob,es,ep,e,c⟩:=x;exact⟨z,y,vs,r,ob,es,ep,k _ _ (.inl rfl) e,c⟩
  |dT kvs=>
    obtain⟨z,y,xs,r,ob,es,ep,e,c⟩:=x;exact⟨z,y,xs,Paired.mapP r λp q z=>⟨z.1,ht _ ⟨.tup _,trivial⟩ z.2.1,z.2.2⟩,ob,es,ep,k _ _ (.inl rfl) e,c⟩
  |set S n=>obtain⟨ob,es,ep,t,e,c⟩:=x;exact⟨ob,es,ep,t,k _ _ (.inl rfl) e,c⟩
  |ins C dx fs=>
    obtain⟨d,z,ne,e,mA,⟨od,es,ep,e2,c⟩,r⟩:=x;exact⟨ho _ d,z,ne,k _ _ (.inl rfl) e,mA,⟨od,es,ep,k _ _ (.inr d) e2,c⟩,r⟩
  |own y=>obtain⟨ob,e⟩:=x;exact⟨ob,k _ _ (.inl rfl) e⟩
  |xd fs=>obtain⟨mA,⟨od,es,ep,e,c⟩,r⟩:=x;exact⟨mA,⟨od,es,ep,k _ _ (.inl rfl) e,c⟩,r⟩
  |rng lo hi=>obtain⟨t,u,v,e⟩:=x;exact⟨t,u,v,k _ _ (.inl rfl) e⟩
  |frz ob u ih=>obtain⟨e,q⟩:=x;exact⟨k _ _ (.inl rfl) e,ih q⟩
  |tbl ps=>
    obtain⟨qs,e,t,f⟩:=(show a6x H h a ps from x);refine⟨qs,k a _ (.inl rfl) e,t,λpos cv z=>?_⟩;obtain⟨c,oc,vs,q,t1,t2,z1,z2,z3,z4,z5⟩:=f pos cv z;exact⟨c,oc,vs,q,t1,t2,z1,ht c ⟨.frz _ (.own a),rfl⟩ z2,z3,z4,z5⟩
  |met f y=>
    have e:h.get? a=xn (nu (.ref f) (.ref y)):=x;show h'.get? a=xn (nu (.ref f) (.ref y));exact k a _ (.inl rfl) e
  |ext φ=>obtain⟨p,⟨o,e⟩,st⟩:=x;exact⟨st _ _ p λo q=>k _ _ (.inl rfl) q,⟨o,k _ _ (.inl rfl) e⟩,st⟩
theorem HOk.lt(x:HOk P w H h)(e:H a=xn o):a<h.objs.size:=(x a o e).lt
def HOk.fresh(x:HOk P w H h)(e:h.objs.size≤a):H a=xI:=by
  cases q:H a with
  |none=>rfl
  |some u=>exact absurd (bo (x.lt q) e) (dQ _)
def HOk.kept(x:HOk P w H h)(k:∀b u,h.get? b=xn u→h'.get? b=xn u):HOk P w H h':=λa o e=>
  (x a o e).stay (λb u _ q=>k b u q) (λ_ q=>q) λ_ _ q=>q
def HOk.laid(x:HOk P w H h)(k:∀b u,h.get? b=xn u→h'.get? b=xn u)(hp:h.objs.size≤a)(new:ObjOk P w (upd H a o) h' a o):HOk P w (upd H a o) h':=λb u e=>by
  have hn:=x.fresh hp;by_cases hb:b=a
  · subst hb;rw[g8]at e;cases e;exact new
  · rw[c7 hb]at e
    exact (x b u e).stay (λc v _ q=>k c v q) (λc q=>by rw[c7 (i7 q hn)];exact q) λc xs q=>by rw[c7 (i7 q hn)];exact q
end
def Rd(H:Hp)(a:aw)(u:HO):Prop:=H a=xn u∨∃o,H a=xn (.frz o u)
def Rd.ok{P:bw}{w:b_}{H:Hp}{h:cR}{a:aw}{u:HO}(r:Rd H a u)(x:HOk P w H h):ObjOk P w H h a u:=by
  rcases r with r|⟨o,r⟩
  · exact x a u r
  · obtain⟨_,q⟩:=x a _ r
    exact q
def Mut:Option HO→Prop
  |some (.lst _)=>True
  |some (.dK _)=>True
  |some (.dT _)=>True
  |some (.set _ _)=>True
  |some (.ins _ _ _)=>True
  |some (.ext _)=>True
  |_=>False
section
variable {P:bw}{w:b_}{H:Hp}{h h':cR}{x e:aw}{o':HO}
def HOk.write(ok:HOk P w H h)(mu:Mut (H x))(he:e=x∨H e=xn (.own x))(k:∀b u,b≠e→h.get? b=xn u→h'.get? b=xn u)(ud:∃u,h'.get? e=xn u)
    (new:ObjOk P w (upd H x o') h' x o'):HOk P w (upd H x o') h':=λb u q=>by
  have uK:∀c y,H c=xn (.own y)→c≠x:=λc y r z=>by subst z;rw[r]at mu;exact mu
  have xH:∀{bq:aw} c (u:c0q bq),H c=xn u.1→c≠x:=λ{bq} c u r z=>by subst z;rw[r]at mu;obtain⟨u,hu⟩:=u;cases u<;>first|exact hu|exact mu
  by_cases hb:b=x
  · subst hb;rw[g8]at q;cases q;exact new
  · rw[c7 hb]at q
    by_cases sZ:b=e
    · have q':H b=xn (.own x):=by
        rcases he with z|z
        · exact absurd (sZ.trans z) hb
        · rw[sZ];exact z
      rw[q]at q';cases q';obtain⟨v,hv⟩:=ud;exact⟨v,by rw[sZ];exact hv⟩
    · refine (ok b u q).stay (λc v hc r=>k c v ?_ r) (λc r=>by rw[c7 (uK c b r)];exact r) λc xs r=>by rw[c7 (xH c xs r)];exact r
      rcases hc with rfl|hc
      · exact sZ
      · rintro rfl
        rcases he with z|z
        · exact uK c b hc z
        · rw[hc]at z;cases z;exact hb rfl
end
structure Un (fs ex:List aw) (H H':Hp) (h h':cR):Prop where
  keep:∀b o,h.get? b=xn o→H b=xI→b∉fs→b∉ex→h'.get? b=xn o
  slot:∀b o,h.get? b=xn o→H b=xI→b∈fs→b∉ex→∃sl,h'.get? b=xn {o with slots:=sl}
  free:∀b o,h.get? b=xn o→H b=xI→b∉ex→H' b=xI
  there:∀b o,h.get? b=xn o→b∉ex→∃o',h'.get? b=xn o'
  tups:∀b xs,H b=xn (.tup xs)→H' b=xn (.tup xs)
  frzs:∀b o u,H b=xn (.frz o u)→H' b=xn (.frz o u)
  tbls:∀b ps,H b=xn (.tbl ps)→∃more,H' b=xn (.tbl (ps++more))
section
variable {fs jE ex FD:List aw}{H H1 H2:Hp}{h h1 h2 h':cR}{a x e:aw}{o:HO}
def Un.any(u:Un fs ex H H1 h h1)(q:h.get? b=xn ob)(n:H b=xI)(hx:b∉ex):∃sl,h1.get? b=xn {ob with slots:=sl}:=by
  by_cases hb:b∈fs
  · exact u.slot b ob q n hb hx
  · exact⟨ob.slots,u.keep b ob q n hb hx⟩
def Un.kept(k:∀b u,h.get? b=xn u→h'.get? b=xn u):Un fs ex H H h h':=
  ⟨λb ob q _ _ _=>k b ob q,λb ob q _ _ _=>⟨ob.slots,k b ob q⟩,λ_ _ _ n _=>n,λb ob q _=>⟨ob,k b ob q⟩,λ_ _ q=>q,λ_ _ _ q=>q,λ_ ps q=>⟨#[],by rw[q];simp⟩⟩
def Un.refl:Un fs ex H H h h:=Un.kept λ_ _ q=>q
def Un.laid(k:∀b u,h.get? b=xn u→h'.get? b=xn u)(hp:h.objs.size≤a)(hn:H a=xI):Un fs ex H (upd H a o) h h' where
  keep:=λb u q _ _ _=>k b u q
  slot:=λb u q _ _ _=>⟨u.slots,k b u q⟩
  free:=λb u q n _=>by rw[c7 (bM (bo (aU q) hp))];exact n
  there:=λb u q _=>⟨u,k b u q⟩
  tups:=λb xs q=>by rw[c7 (i7 q hn)];exact q
  frzs:=λb u xs q=>by rw[c7 (i7 q hn)];exact q
  tbls:=λb ps q=>⟨#[],by rw[c7 (i7 q hn),q];simp⟩
def Un.write(mu:Mut (H x))(he:e=x∨H e=xn (.own x))(k:∀b u,b≠e→h.get? b=xn u→h'.get? b=xn u)(ud:∃u,h'.get? e=xn u):Un fs ex H (upd H x o) h h':=by
  have hx:∀b,H b=xI→b≠x:=λb n z=>by subst z;rw[n]at mu;exact mu
  have hb:∀b,H b=xI→b≠e:=λb n z=>by
    subst z;rcases he with r|r
    · exact hx b n r
    · rw[n]at r;cases r
  have hm:∀b u,H b=xn u→¬ Mut (xn u)→b≠x:=λb u q nm z=>by subst z;rw[q]at mu;exact nm mu
  refine⟨λb u q n _ _=>k b u (hb b n) q,λb u q n _ _=>⟨u.slots,k b u (hb b n) q⟩,λb u q n _=>by rw[c7 (hx b n)];exact n,λb u q _=>?_,
    λb xs q=>by rw[c7 (hm b _ q λz=>z)];exact q,λb u xs q=>by rw[c7 (hm b _ q λz=>z)];exact q,λb ps q=>⟨#[],by rw[c7 (hm b _ q λz=>z),q];simp⟩⟩
  by_cases sZ:b=e
  · subst sZ;exact ud
  · exact⟨u,k b u sZ q⟩
end
def trk(h:cR)(H:Hp):List aw:=(aA h.objs.size).filter λa=>(H a).isSome
def a5l(h:cR)(H:Hp):cR:=PySem.W.hideAll h (trk h H)
def b0E(h:cR)(H:Hp):(a5l h H).objs.size=h.objs.size:=PySem.W.hideAll_size _ _
def b2x{h:cR}(e:h.get? b=xn o)(n:H b=xI):(a5l h H).get? b=xn o:=
  PySem.W.hideAll_get _ e λhm=>by
    have q:(H b).isSome=true:=(ji.mp hm).2;rw[n]at q;simp at q
def b5v(e:(a5l h H).get? b=xn o):h.get? b=xn o∧H b=xI:=by
  have e':h.get? b=xn o:=PySem.W.of_hideAll (trk h H) e;refine⟨e',?_⟩;cases q:H b with
  |none=>rfl
  |some x=>
    have hm:b∈trk h H:=ji.mpr ⟨bI.mpr (aU e'),by simp[q]⟩;have z:(a5l h H).get? b=xI:=PySem.W.hideAll_none (trk h H) hm;rw[z]at e;cases e
def b5w(g h:cR)(L:aw):List (aw×fY):=(aA h.objs.size).filterMap λa=>if a=L∨(g.get? a).isSome=true then xI else (h.get? a).map λo=>(a,o)
def rest(g h:cR)(L d:aw):List (aw×fY):=(b5w g h L).filter λp=>decide (p.1≠d)
def L5:List bE:=["ways_by_state","joins_by_pair","compare","first_gathering","least_asks"]
def V2(x:bE):bE:=x++".<locals>." ++ "<lambda>"
def a5m(K:af)(cd:aj):Option aw:=match cd with
  |.ref c=>(match K.lookup c with
    |some ⟨.type n,_,.fields vs,_⟩=>if n=="code" then
        (match (vs[11]?:Option aj),(vs[18]?:Option aj),(vs[7]?:Option aj),(vs[9]?:Option aj),(vs[10]?:Option aj) with
        |some (.ref P),xn (.str _ _),xn (.int _ _),xn (.bool _),xn (.int _ _)=>if c !=P then xn P else xI
        |_,_,_,_,_=>xI) else xI
    |_=>xI)
  |_=>xI
def B0(K:af)(x:bE):Option aw:=match gz K bS x with
  |some (xn (.ref f))=>(match K.lookup f with
    |some ⟨_,_,.func fd,_⟩=>a5m K fd.code
    |_=>xI)
  |_=>xI
def TabsIn(K:af)(H:Hp):Prop:=∀x∈L5,∀p,B0 K x=xn p→∃qs t,H p=xn (.tbl qs)∧qs[0]?=xn (.str (V2 x) t)
def TabsIn.un{K:af}{fs ex:List aw}{H H':Hp}{h h':cR}(a:TabsIn K H)(u:Un fs ex H H' h h'):TabsIn K H':=λx hx p e=>by
  obtain⟨qs,t,e1,e2⟩:=a x hx p e;obtain⟨more,e3⟩:=u.tbls p qs e1;refine⟨_,t,e3,?_⟩;have hz:0<qs.size:=by
    rcases cI 0 qs.size with z|z
    · exact z
    · rw[fV (by omega)]at e2;cases e2
  rw[Array.getElem?_append_left hz];exact e2
structure Mod (K:af) (mg:bE→Option aj) (base:cR):Prop where
  kin:K.In base
  glob:base.Ns bS mg
  blt:∃mb,base.Ns kE mb∧∀x:bE,x≠"__name__"→mb x=gS x
  nolimit:base.NoLimit
  bmain:∃bm ob,mg "__builtins__"=xn (.ref bm)∧bm≠kE∧base.get? bm=xn ob∧ob.cls=.type "module"∧ob.dict=xn kE∧ob.data=.plain
/-- pf context: a wd body (or a jq block) running. base: fixed through pf whole law; s₀, H₀: pf entry; outer: pf frames uE slots others may change (a wd xo); stack: all frames qH run;
   ex: tO qH xy made ahead of pf entry and are walked here (a jq);fn: pf names uE cells xy made at pf entry (a def: all;a jq block: its own);calm: not within an except zP;pn: pins qH A_ state bears;xe: Bz is wanted of an exception qH xO pf code -/
structure Cx where
  prog:bw
  w:b_
  K:af
  mg:bE→Option aj
  base:cR
  A:bQ
  N:List bE
  s₀:au
  H₀:Hp
  env:oe
  outer:List oe
  stack:List oe
  ex:List aw
  fn:bE→Bool
  calm:Bool
  pn:List (aw×fY)
  xe:aj→au→Prop
def frs(l:List oe):List aw:=l.filterMap (·.frame)
abbrev Cx.fs(X:Cx):List aw:=frs X.outer
def Vis(sc:gk)(x:bE):Prop:=sc.names.lookup x=xn .local∨sc.names.lookup x=xn .cell∨sc.names.lookup x=xn .free
def Loc(sc:gk)(x:bE):Prop:=sc.names.lookup x=xn .local∨sc.names.lookup x=xn .cell
def Look(env:oe)(h:cR)(m:bE→Option aj)(x:bE)(u:aj):Prop:=
  (env.kindOf x=xn .local∧m x=xn u)∨((env.kindOf x=xn .cell∨env.kindOf x=xn .free)∧∃c,env.cells.lookup x=xn c∧h.IsCell c (xn u))
structure Cx.Ok (X:Cx):Prop where
  mod:Mod X.K X.mg X.base
  kind:X.env.scope.kind=.function
  glob:X.env.globals=bS
  blt:X.env.builtins=kE
  above:X.s₀.heap.objs.size≤X.env.locals
  inj:∀x y c,X.env.cells.lookup x=xn c→X.env.cells.lookup y=xn c→x=y
  has:∀x,(X.env.kindOf x=xn .cell∨X.env.kindOf x=xn .free)→∃c,X.env.cells.lookup x=xn c
  cab:∀x c,X.fn x=true→X.env.cells.lookup x=xn c→X.s₀.heap.objs.size≤c
  hd:X.calm=true→X.A.handled=xI
  frames:X.A.frames=xn X.stack
  stk:X.stack=X.outer∨(X.stack=X.env::X.outer∧X.env.frame=xn X.env.locals)
  exf:∀b∈X.ex,b≠X.env.locals∧∀x c,X.env.cells.lookup x=xn c→c≠b
  bs:∀b o,X.base.get? b=xn o→X.s₀.heap.get? b=xn o∧X.H₀ b=xI
  bsz:X.base.objs.size≤X.s₀.heap.objs.size
  noex:∀b o,X.base.get? b=xn o→b∉X.ex
  exfs:∀b∈X.ex,b∉X.fs
  funs:X.s₀.heap.FunFrames X.base X.outer
  frf:∀b∈X.fs,X.H₀ b=xI
  tabs:TabsIn X.K X.H₀
structure Inv (X:Cx) (pins:List (aw×fY)) (σ:List (Option V)) (H:Hp) (s:au):Prop where
  ok:X.Ok
  os:s.os=X.s₀.os
  bare:oH s.gens
  base:Un X.fs X.ex X.H₀ H X.s₀.heap s.heap
  loc:∃m,s.heap.Ns X.env.locals m∧∀(i:Nat) (x:bE) (v:V),X.N[i]?=xn x→σ[i]?=xn (xn v)→Vis X.env.scope x→∃u,RelV v u∧Look X.env s.heap m x u
  cell:∀x c,X.env.cells.lookup x=xn c→∃v,s.heap.IsCell c v
  free:H X.env.locals=xI
  freeC:∀x c,X.env.cells.lookup x=xn c→H c=xI
  pin:∀p∈X.pn++pins,s.heap.get? p.1=xn p.2∧H p.1=xI∧p.1≠X.env.locals∧p.1∉X.fs∧∀v,p.2.data≠.cell v
  hok:HOk X.prog X.w H s.heap
  len:σ.length=X.N.length
section
variable {X:Cx}{pins:List (aw×fY)}{σ:List (Option V)}{H H':Hp}{s:au}{h':cR}
def Cx.Ok.nofr(ok:X.Ok)(e:X.base.get? b=xn o):b∉X.fs:=λhb=>by
  have:=(ok.funs.mem hb).1;rw[e]at this;cases this
theorem Inv.bs(I:Inv X pins σ H s):∀b o,X.base.get? b=xn o→s.heap.get? b=xn o∧H b=xI:=λb o e=>
  ⟨I.base.keep b o (I.ok.bs b o e).1 (I.ok.bs b o e).2 (I.ok.nofr e) (I.ok.noex b o e),I.base.free b o (I.ok.bs b o e).1 (I.ok.bs b o e).2 (I.ok.noex b o e)⟩
theorem Inv.tabs(I:Inv X pins σ H s):TabsIn X.K H:=I.ok.tabs.un I.base
def Inv.bk(I:Inv X pins σ H s):∀b o,X.base.get? b=xn o→s.heap.get? b=xn o:=λb o e=>(I.bs b o e).1
theorem Inv.mod(I:Inv X pins σ H s):Mod X.K X.mg X.base:=I.ok.mod
def Inv.kIn(I:Inv X pins σ H s):X.K.In s.heap:=I.ok.mod.kin.keeps I.bk
theorem Inv.lt(I:Inv X pins σ H s):X.env.locals<s.heap.objs.size:=let⟨_,hn,_⟩:=I.loc;hn.lt
def Inv.sz(I:Inv X pins σ H s):X.s₀.heap.objs.size≤s.heap.objs.size:=cC I.ok.above (eV I.lt)
def Inv.nofs(I:Inv X pins σ H s)(h:s.heap.objs.size≤a):a∉X.fs:=λhb=>by
  obtain⟨_,o,ho,_⟩:=I.ok.funs.mem hb;exact absurd (bo (aU ho) (cC I.sz h)) (dQ _)
def Inv.cne(I:Inv X pins σ H s):∀x c,X.env.cells.lookup x=xn c→c≠X.env.locals:=λx c e z=>by
  obtain⟨v,o,ho,hd⟩:=I.cell x c e;obtain⟨m,⟨o',es,ep,ng,jR,_⟩,_⟩:=I.loc;rw[z,ng]at ho;cases ho;rw[jR]at hd;cases hd
theorem Inv.funs(I:Inv X pins σ H s):s.heap.FunFrames X.base X.outer:=by
  have all:∀(l:List oe),(∀b∈frs l,b∈X.fs)→X.s₀.heap.FunFrames X.base l→s.heap.FunFrames X.base l:=by
    intro l
    induction l with
    |nil=>intro _ _;trivial
    |cons env r ih=>
      intro hs hl;obtain⟨hk,⟨L,o,hf,hn,ho,hd⟩,hr⟩:=hl;have hL:L∈X.fs:=hs L (by unfold frs;rw[mo,hf];exact aK);obtain⟨sl,e⟩:=I.base.slot L o ho (I.ok.frf L hL) hL λz=>I.ok.exfs L z hL
      exact⟨hk,⟨L,_,hf,hn,e,hd⟩,ih (λb hb=>hs b (by unfold frs;rw[mo,hf];exact av _ hb)) hr⟩
  exact all X.outer (λ_ hb=>hb) I.ok.funs
theorem Inv.stack(I:Inv X pins σ H s):s.heap.FunFrames X.base X.stack:=by
  rcases I.ok.stk with e|⟨e,hf⟩
  · rw[e];exact I.funs
  · rw[e]
    obtain⟨m,hn,_⟩:=I.loc;refine .cons (by rw[I.ok.kind];decide) hf hn ?_ I.funs;exact cR.get?_none_of_le (cC I.ok.bsz I.ok.above)
def Inv.stkSub(I:Inv X pins σ H s):∀b∈frs X.stack,b∈X.env.locals::X.fs:=λb hb=>by
  rcases I.ok.stk with e|⟨e,hf⟩
  · rw[e]at hb;exact av _ hb
  · rw[e]at hb
    unfold frs at hb;rw[mo,hf]at hb;exact hb
def Inv.stkFree(I:Inv X pins σ H s):∀b∈frs X.stack,H b=xI:=λb hb=>by
  rcases aH.mp (I.stkSub b hb) with e|hb
  · rw[e];exact I.free
  · obtain⟨_,o,ho,_⟩:=I.ok.funs.mem hb
    exact I.base.free b o ho (I.ok.frf b hb) λz=>I.ok.exfs b z hb
def Inv.step{g':Array GenState}{t':Nat}{d':Drawn}{ch:List aw}(I:Inv X pins σ H s)
    (qy:∀b∈ch,(b∈X.ex∨X.s₀.heap.objs.size≤b)∧b≠X.env.locals∧(∀x c,X.env.cells.lookup x=xn c→c≠b)∧∀p∈X.pn++pins,p.1≠b)
    (keep:∀b o,b≠X.env.locals→b∉X.fs→b∉ch→s.heap.get? b=xn o→H b=xI→h'.get? b=xn o)
    (slot:∀b o,b≠X.env.locals→b∈X.fs→b∉ch→s.heap.get? b=xn o→H b=xI→∃sl,h'.get? b=xn {o with slots:=sl}) (free:∀b o,b∉ch→s.heap.get? b=xn o→H b=xI→H' b=xI)
    (there:∀b o,b∉ch→s.heap.get? b=xn o→∃o',h'.get? b=xn o')
    (tups:∀b xs,H b=xn (.tup xs)→H' b=xn (.tup xs)) (frzs:∀b o u,H b=xn (.frz o u)→H' b=xn (.frz o u)) (tbls:∀b ps,H b=xn (.tbl ps)→∃more,H' b=xn (.tbl (ps++more)))
    (ns:∀m,s.heap.Ns X.env.locals m→h'.Ns X.env.locals m) (hok:HOk X.prog X.w H' h') (hg:oH g') :
    Inv X pins σ H' {s with heap:=h',gens:=g',drawn:=d',toks:=t'}:=by
  have zY:∀b o,X.s₀.heap.get? b=xn o→b≠X.env.locals:=λb o e=>bM (bo (aU e) I.ok.above)
  have wD:∀b o,X.s₀.heap.get? b=xn o→b∉X.ex→b∉ch:=λb o e hx hb=>by
    rcases (qy b hb).1 with z|z
    · exact hx z
    · exact absurd (bo (aU e) z) (dQ _)
  have cellK:∀x c,X.env.cells.lookup x=xn c→∀v,s.heap.IsCell c v→h'.IsCell c v:=λx c e v ⟨o,ho,hd⟩=>by
    have pH:c∉ch:=λz=>(qy c z).2.2.1 x c e rfl
    by_cases hc:c∈X.fs
    · obtain⟨sl,q⟩:=slot c o (I.cne x c e) hc pH ho (I.freeC x c e)
      exact⟨_,q,hd⟩
    · exact⟨o,keep c o (I.cne x c e) hc pH ho (I.freeC x c e),hd⟩
  refine⟨I.ok,I.os,hg,⟨λb o e n hb hx=>?_,λb o e n hb hx=>?_,λb o e n hx=>?_,λb o e hx=>?_,λb xs e=>tups b xs (I.base.tups b xs e),λb o xs e=>frzs b o xs (I.base.frzs b o xs e),λb ps e=>?_⟩,?_,λx c e=>?_,?_,λx c e=>?_,λp hp=>?_,hok,I.len⟩
  · exact keep b o (zY b o e) hb (wD b o e hx) (I.base.keep b o e n hb hx) (I.base.free b o e n hx)
  · obtain⟨sl,e1⟩:=I.base.slot b o e n hb hx
    obtain⟨zR,e2⟩:=slot b _ (zY b o e) hb (wD b o e hx) e1 (I.base.free b o e n hx);exact⟨zR,e2⟩
  · obtain⟨o',e1⟩:=I.base.there b o e hx
    exact free b o' (wD b o e hx) e1 (I.base.free b o e n hx)
  · obtain⟨o',e1⟩:=I.base.there b o e hx
    exact there b o' (wD b o e hx) e1
  · obtain⟨m1,e1⟩:=I.base.tbls b ps e
    obtain⟨m2,e2⟩:=tbls b _ e1;exact⟨m1++m2,by rw[e2,jQ]⟩
  · obtain⟨m,hn,hl⟩:=I.loc
    refine⟨m,ns m hn,λi x v e1 e2 e3=>?_⟩;obtain⟨u,r,l⟩:=hl i x v e1 e2 e3;refine⟨u,r,?_⟩;rcases l with l|⟨k,c,e,z⟩
    · exact .inl l
    · exact .inr ⟨k,c,e,cellK x c e _ z⟩
  · obtain⟨v,z⟩:=I.cell x c e
    exact⟨v,cellK x c e v z⟩
  · obtain⟨m,⟨o,_,_,ho,_⟩,_⟩:=I.loc
    exact free _ o (λz=>(qy _ z).2.1 rfl) ho I.free
  · obtain⟨v,o,ho,hd⟩:=I.cell x c e
    exact free c o (λz=>(qy c z).2.2.1 x c e rfl) ho (I.freeC x c e)
  · obtain⟨e,n,ne,nf,d⟩:=I.pin p hp
    have pH:p.1∉ch:=λz=>(qy p.1 z).2.2.2 p hp rfl
    exact⟨keep p.1 p.2 ne nf pH e n,free p.1 p.2 pH e n,ne,nf,d⟩
def Inv.un(I:Inv X pins σ H s)(u:Un X.fs [] H H' s.heap h')(hok:HOk X.prog X.w H' h'):Inv X pins σ H' {s with heap:=h',toks:=t'}:=by
  obtain⟨m,⟨o,es,ep,ho,r⟩,_⟩:=id I.loc;obtain⟨sl,hL⟩:=u.any ho I.free (by simp);exact I.step (g':=s.gens) (d':=s.drawn) (ch:=[]) (λ_ z=>nomatch z) (λb o _ hb _ e n=>u.keep b o e n hb (by simp)) (λb o _ hb _ e n=>u.slot b o e n hb (by simp)) (λb o _ e n=>u.free b o e n (by simp)) (λb o _ e=>u.there b o e (by simp)) u.tups u.frzs u.tbls (λm' hm=>by
    obtain⟨o',jF,qZ,ng,r'⟩:=hm;rw[ho]at ng;cases ng;exact⟨_,jF,qZ,hL,r'⟩) hok I.bare
def Inv.call(I:Inv X pins σ H s)(u:Un (frs X.stack) ch H H' s.heap h')(hok:HOk X.prog X.w H' h')(hg:oH g')
    (qy:∀b∈ch,(b∈X.ex∨X.s₀.heap.objs.size≤b)∧b≠X.env.locals∧(∀x c,X.env.cells.lookup x=xn c→c≠b)∧∀p∈X.pn++pins,p.1≠b) :
    Inv X pins σ H' {s with heap:=h',gens:=g',drawn:=d',toks:=t'}:=by
  obtain⟨m,⟨o,es,ep,ho,r⟩,_⟩:=id I.loc;obtain⟨sl,hL⟩:=u.any ho I.free λz=>(qy _ z).2.1 rfl
  exact I.step (ch:=ch) qy (λb o hL hb hc e n=>u.keep b o e n (λz=>(aH.mp (I.stkSub b z)).elim hL hb) hc) (λb o _ _ hc e n=>u.any e n hc) (λb o hc e n=>u.free b o e n hc) (λb o hc e=>u.there b o e hc) u.tups u.frzs u.tbls (λm' hm=>by
    obtain⟨o',jF,qZ,ng,r'⟩:=hm;rw[ho]at ng;cases ng;exact⟨_,jF,qZ,hL,r'⟩) hok hg
def Inv.turned(I:Inv X pins σ H s)(k:∀b o,b≠it→s.heap.get? b=xn o→h'.get? b=xn o)(hn:H it=xI)(hL:it≠X.env.locals)
    (h1:it∈X.ex∨X.s₀.heap.objs.size≤it) (h2:∀x c,X.env.cells.lookup x=xn c→c≠it) (h3:∀p∈X.pn++pins,p.1≠it):Inv X pins σ H {s with heap:=h',toks:=t'}:=by
  have zW:∀b u,H b=xn u→b≠it:=λb u e z=>by rw[z,hn]at e;cases e
  refine I.step (g':=s.gens) (d':=s.drawn) (ch:=[it]) (λb hb=>?_) (λb o _ _ hc e _=>k b o (λz=>hc (by simp[z])) e) (λb o _ _ hc e _=>⟨o.slots,k b o (λz=>hc (by simp[z])) e⟩) (λ_ _ _ _ n=>n)
    (λb o hc e=>⟨o,k b o (λz=>hc (by simp[z])) e⟩) (λ_ _ e=>e) (λ_ _ _ e=>e) (λb ps e=>⟨#[],by rw[e];simp⟩) (λm hm=>?_) (λb u e=>?_) I.bare
  · have e:b=it:=by simpa using hb
    subst e;exact⟨h1,hL,h2,h3⟩
  · obtain⟨o,es,ep,ho,r⟩:=hm
    exact⟨o,es,ep,k _ o (cY hL) ho,r⟩
  · refine (I.hok b u e).stay (λc v hc q=>k c v ?_ q) (λ_ q=>q) λ_ _ q=>q
    rcases hc with z|z
    · rw[z];exact zW b u e
    · exact zW c _ z
def Inv.tok(I:Inv X pins σ H s)(t:Nat):Inv X pins σ H {s with toks:=t}:=I.un (h':=s.heap) (t':=t) Un.refl I.hok
theorem Inv.kept(I:Inv X pins σ H s)(k:∀b u,s.heap.get? b=xn u→h'.get? b=xn u):Inv X pins σ H {s with heap:=h',toks:=t'}:=I.un (Un.kept k) (I.hok.kept k)
theorem Inv.laid{a:aw}{o:HO}{t':Nat}(I:Inv X pins σ H s)(k:∀b u,s.heap.get? b=xn u→h'.get? b=xn u)(hp:s.heap.objs.size≤a)(new:ObjOk X.prog X.w (upd H a o) h' a o) :
    Inv X pins σ (upd H a o) {s with heap:=h',toks:=t'}:=I.un (Un.laid k hp (I.hok.fresh hp)) (I.hok.laid k hp new)
theorem Inv.write(I:Inv X pins σ H s)(mu:Mut (H x))(he:e=x∨H e=xn (.own x))(k:∀b u,b≠e→s.heap.get? b=xn u→h'.get? b=xn u)(ud:∃u,h'.get? e=xn u)
    (new:ObjOk X.prog X.w (upd H x o) h' x o):Inv X pins σ (upd H x o) {s with heap:=h',toks:=t'}:=I.un (Un.write mu he k ud) (I.hok.write mu he k ud new)
def Inv.pins_of(I:Inv X pins σ H s)(h:∀p∈kW,s.heap.get? p.1=xn p.2∧H p.1=xI∧p.1≠X.env.locals∧p.1∉X.fs∧∀v,p.2.data≠.cell v):Inv X kW σ H s:=
  ⟨I.ok,I.os,I.bare,I.base,I.loc,I.cell,I.free,I.freeC,λp hp=>(aq.mp hp).elim (λz=>I.pin p (ak _ z)) (h p),I.hok,I.len⟩
def a6y{N:List bE}(hN:N.Nodup){i j:Nat}{x:bE}(a:N[i]?=xn x)(b:N[j]?=xn x):i=j:=by
  obtain⟨h1,e1⟩:=aL.mp a;obtain⟨h2,e2⟩:=aL.mp b;exact (List.getElem_inj hN).mp (e1.trans e2.symm)
def b0F{M:Model}{A:bQ}{E:aj→au→Prop}{i:Nat}{x:bE}{v:V}{u:aj}{Q:Unit→au→Prop}(I:Inv X pins σ H s)(hN:X.N.Nodup)(hi:X.N[i]?=xn x)(hx:Loc X.env.scope x)(r:RelV v u)
    (h:∀s',Inv X pins (σ.set i (xn v)) H s'→(∃a,mq a s.heap s'.heap∧(a=X.env.locals∨X.env.cells.lookup x=xn a))→Q () s') (hf:X.fn x=true∨X.env.scope.names.lookup x=xn .local:=by first|exact .inl rfl|exact .inr rfl|assumption):aX M A (storeName X.env x u) Q E s:=by
  obtain⟨m,hn,hl⟩:=id I.loc;have yT:(X.env.scope.kind==.class||(X.env.scope.kind==.module&&X.env.locals !=X.env.globals))=false:=by rw[I.ok.kind];rfl
  have vz:i<σ.length:=by rw[I.len];exact (aL.mp hi).1
  have cne:=I.cne;have tracked:∀{a:aw} {h':cR},(∃o,s.heap.get? a=xn o∧H a=xI)→mq a s.heap h'→HOk X.prog X.w H h':=λ{a h'} ha hs b ob e=>by
    obtain⟨_,_,nj⟩:=ha;refine (I.hok b ob e).stay (λc w' hc q=>(hs.2 c ?_).trans q) (λ_ q=>q) λ_ _ q=>q
    rintro rfl;rcases hc with rfl|hc
    · rw[nj]at e;cases e
    · rw[nj]at hc;cases hc
  rcases hx with hk|hk
  · refine wpAny_storeName_local hk hn (λh' vk hs=>?_) yT
    obtain⟨oL,_,_,Cz,_⟩:=id hn;refine h _ ⟨I.ok,I.os,I.bare,⟨λb o e n hb hx=>?_,λb o e n hb hx=>?_,I.base.free,λb o e hx=>?_,I.base.tups,I.base.frzs,I.base.tbls⟩,⟨_,vk,λj y v' e1 e2 e3=>?_⟩,λy c e=>?_,I.free,I.freeC,λp hp=>?_,tracked ⟨oL,Cz,I.free⟩ hs,by simpa using I.len⟩ ⟨_,hs,.inl rfl⟩
    · exact (hs.2 b (bM (bo (aU e) I.ok.above))).trans (I.base.keep b o e n hb hx)
    · obtain⟨sl,e1⟩:=I.base.slot b o e n hb hx
      exact⟨sl,(hs.2 b (bM (bo (aU e) I.ok.above))).trans e1⟩
    · obtain⟨o',e1⟩:=I.base.there b o e hx
      exact⟨o',(hs.2 b (bM (bo (aU e) I.ok.above))).trans e1⟩
    · by_cases hj:j=i
      · subst hj
        rw[hi]at e1;cases e1;rw[er vz]at e2;cases e2
        exact⟨u,r,.inl ⟨hk,by simp⟩⟩
      · rw[bF (cY hj)]at e2
        obtain⟨u',r',q⟩:=hl j y v' e1 e2 e3;refine⟨u',r',?_⟩;rcases q with⟨k,e⟩|⟨k,c,e,z⟩
        · refine .inl ⟨k,?_⟩
          have:y≠x:=λe=>hj (a6y hN e1 (e▸hi))
          simp[this,e]
        · exact .inr ⟨k,c,e,z.sameBut hs (cne y c e)⟩
    · obtain⟨w',z⟩:=I.cell y c e
      exact⟨w',z.sameBut hs (cne y c e)⟩
    · obtain⟨e,n,ne,nf,d⟩:=I.pin p hp
      exact⟨(hs.2 p.1 ne).trans e,n,ne,nf,d⟩
  · have nT:X.fn x=true:=by
      rcases hf with z|z
      · exact z
      · rw[z]at hk;cases hk
    obtain⟨c,hc⟩:=I.ok.has x (.inl hk);obtain⟨w',z⟩:=I.cell x c hc;refine wpAny_storeName_cell I.ok.kind hk hc z (λh' ui hs=>?_);obtain⟨oc,ve,yu⟩:=id z;refine h {s with heap:=h'} ⟨I.ok,I.os,I.bare,⟨λb o e n hb hx=>?_,λb o e n hb hx=>?_,I.base.free,λb o e hx=>?_,I.base.tups,I.base.frzs,I.base.tbls⟩,⟨m,hn.sameBut hs (cY (cne x c hc)),λj y v' e1 e2 e3=>?_⟩,λy c' e=>?_,I.free,I.freeC,λp hp=>?_,tracked ⟨oc,ve,I.freeC x c hc⟩ hs,by simpa using I.len⟩ ⟨c,hs,.inr hc⟩
    · exact (hs.2 b (bM (bo (aU e) (I.ok.cab x c nT hc)))).trans (I.base.keep b o e n hb hx)
    · obtain⟨sl,e1⟩:=I.base.slot b o e n hb hx
      exact⟨sl,(hs.2 b (bM (bo (aU e) (I.ok.cab x c nT hc)))).trans e1⟩
    · obtain⟨o',e1⟩:=I.base.there b o e hx
      exact⟨o',(hs.2 b (bM (bo (aU e) (I.ok.cab x c nT hc)))).trans e1⟩
    · by_cases hj:j=i
      · subst hj
        rw[hi]at e1;cases e1;rw[er vz]at e2;cases e2
        exact⟨u,r,.inr ⟨.inl hk,c,hc,ui⟩⟩
      · rw[bF (cY hj)]at e2
        obtain⟨u',r',q⟩:=hl j y v' e1 e2 e3;refine⟨u',r',?_⟩;rcases q with q|⟨k,c',e,z'⟩
        · exact .inl q
        · refine .inr ⟨k,c',e,z'.sameBut hs ?_⟩
          rintro rfl;exact hj (a6y hN e1 (I.ok.inj _ _ _ e hc▸hi))
    · by_cases uh:c'=c
      · subst uh;exact⟨_,ui⟩
      · obtain⟨w2,z2⟩:=I.cell y c' e
        exact⟨w2,z2.sameBut hs uh⟩
    · obtain⟨e,n,ne,nf,d⟩:=I.pin p hp
      refine⟨(hs.2 p.1 ?_).trans e,n,ne,nf,d⟩;intro q;rw[q,ve]at e;have q':oc=p.2:=aF e;exact d w' (by rw[←q'];exact yu)
def a2S(I:Inv X pins σ H s)(hN:X.N.Nodup)(hi:X.N[i]?=xn x)(hx:Loc X.env.scope x)(r:RelV v u)
    (h:∀s',Inv X pins (σ.set i (xn v)) H s'→Q () s') (hf:X.fn x=true∨X.env.scope.names.lookup x=xn .local:=by first|exact .inl rfl|exact .inr rfl|assumption):aX M A (storeName X.env x u) Q E s:=
  b0F I hN hi hx r (λs' I' _=>h s' I') hf
def Inv.call'{s':au}(I:Inv X pins σ H s)(ho:s'.os=s.os)(u:Un (frs X.stack) ch H H' s.heap s'.heap)(hok:HOk X.prog X.w H' s'.heap)(hg:oH s'.gens)
    (qy:∀b∈ch,(b∈X.ex∨X.s₀.heap.objs.size≤b)∧b≠X.env.locals∧(∀x c,X.env.cells.lookup x=xn c→c≠b)∧∀p∈X.pn++pins,p.1≠b):Inv X pins σ H' s':=by
  obtain⟨h',g',d',t',o'⟩:=s';have e:o'=s.os:=ho;subst e;exact I.call (g':=g') (t':=t') (d':=d') u hok hg qy
end
abbrev XK:=aj→Option aw→Hp→Prop
abbrev St:=List (Option V)
abbrev VK:=V→Hp→Prop
abbrev TE:=St→Hp→VK→Prop
abbrev TT:=St→Hp→(Bool→Hp→Prop)→Prop
abbrev TA:=St→Hp→(List V→Hp→Prop)→Prop
structure Ends where
  nx:St→Hp→Prop
  rt:VK
  bk:St→Hp→Prop:=λ_ _=>False
  ct:St→Hp→Prop:=λ_ _=>False
abbrev TS:=Ends→St→Hp→Prop
def EP(X:Cx)(pins:List (aw×fY))(σ:St)(Q:VK)(u:aj)(s':au):Prop:=∃v H',Inv X pins σ H' s'∧RelV v u∧Q v H'
def TP(X:Cx)(pins:List (aw×fY))(σ:St)(Q:Bool→Hp→Prop)(b:Bool)(s':au):Prop:=∃H',Inv X pins σ H' s'∧Q b H'
def AP(X:Cx)(pins:List (aw×fY))(σ:St)(Q:List V→Hp→Prop)(us:List aj)(s':au):Prop:=∃vs H',Inv X pins σ H' s'∧Vals vs us∧Q vs H'
def SP(X:Cx)(pins:List (aw×fY))(D:Ends)(f:Flow)(s':au):Prop:=
  match f with
  |.next=>∃σ' H',Inv X pins σ' H' s'∧D.nx σ' H'
  |.brk=>∃σ' H',Inv X pins σ' H' s'∧D.bk σ' H'
  |.cont=>∃σ' H',Inv X pins σ' H' s'∧D.ct σ' H'
  |.ret u=>∃v σ' H',Inv X pins σ' H' s'∧RelV v u∧D.rt v H'
def PE(X:Cx)(e:Expr)(t:TE):Prop:=
  ∀(pins:List (aw×fY)) (s:au) (σ:St) (H:Hp) (Q:VK),Inv X pins σ H s→t σ H Q→aX (aY X.prog X.w) X.A (cK e X.env) (EP X pins σ Q) X.xe s
def PT(X:Cx)(e:Expr)(t:TT):Prop:=
  ∀(pins:List (aw×fY)) (s:au) (σ:St) (H:Hp) (Q:Bool→Hp→Prop),Inv X pins σ H s→t σ H Q→aX (aY X.prog X.w) X.A (BZ e X.env (cK e X.env)) (TP X pins σ Q) X.xe s
def PW(X:Cx)(e:Expr)(t:TT):Prop:=
  ∀(whole:zD aj) (pins:List (aw×fY)) (s:au) (σ:St) (H:Hp) (Q:Bool→Hp→Prop),Inv X pins σ H s→t σ H Q→aX (aY X.prog X.w) X.A (BZ e X.env whole) (TP X pins σ Q) X.xe s
def PW.pt(h:PW X e t):PT X e t:=h _
def PA(X:Cx)(es:List Expr)(t:TA):Prop:=
  ∀(pos:fM) (pins:List (aw×fY)) (s:au) (σ:St) (H:Hp) (Q:List V→Hp→Prop),Inv X pins σ H s→t σ H Q→aX (aY X.prog X.w) X.A (spliced (cB pos (ar es X.env))) (AP X pins σ Q) X.xe s
def PS(X:Cx)(st:iy)(t:TS):Prop:=
  ∀(pins:List (aw×fY)) (s:au) (σ:St) (H:Hp) (D:Ends),Inv X pins σ H s→t D σ H→aX (aY X.prog X.w) X.A (exec st X.env) (SP X pins D) X.xe s
def PSs(X:Cx)(st:List iy)(t:TS):Prop:=
  ∀(pins:List (aw×fY)) (s:au) (σ:St) (H:Hp) (D:Ends),Inv X pins σ H s→t D σ H→aX (aY X.prog X.w) X.A (execs st X.env) (SP X pins D) X.xe s
def thn{α:Type}{t:zD α}{Q Q':α→au→Prop}{M:Model}{A:bQ}{E:aj→au→Prop}{s:au}(h:aX M A t Q E s)(hQ:∀a s,Q a s→Q' a s):aX M A t Q' E s:=d_ h hQ λ_ _ x=>x
section
variable {X:Cx}
def c0r(i:Nat):TE:=λσ H Q=>∃v,σ[i]?=xn (xn v)∧Q v H
def tC(v:V):TE:=λ_ H Q=>Q v H
def B5(hN:X.N[i]?=xn x)(hv:Vis X.env.scope x)(hd:(x==("__debug__":bE))=false:=by decide)(iF:(x==("__classdict__":bE))=false:=by decide):PE X (.Name x pos) (c0r i):=by
  intro pins s σ H Q I h;obtain⟨v,e,h⟩:=h;obtain⟨m,hn,hl⟩:=I.loc;obtain⟨u,r,l⟩:=hl i x v hN e hv;have fin:EP X pins σ Q u s:=⟨v,H,I,r,h⟩;rcases l with⟨hk,hm⟩|⟨hk,c,hc,mC⟩
  · exact wpAny_Name (wpAny_loadName_local I.ok.kind hk hn hm fin) hd
  · rcases hk with hk|hk
    · exact wpAny_Name (wpAny_loadName_cell I.ok.kind hk hc mC fin) hd
    · exact wpAny_Name (wpAny_loadName_free I.ok.kind hk hc mC fin iF) hd
def a7M{i j pos}:PE X (.Constant (.int i) j pos) (tC (.int i)):=λ_ _ _ H _ I h=>wpAny_Constant_int ⟨.int i,H,I.tok _,⟨_,rfl⟩,h⟩
def c0s{b j pos}:PE X (.Constant (.bool b) j pos) (tC (.bl b)):=λ_ _ _ H _ I h=>Constant_bool ⟨.bl b,H,I,rfl,h⟩
def b8j{j pos}:PE X (.Constant .none j pos) (tC .non):=λ_ _ _ H _ I h=>Constant_none ⟨.non,H,I,rfl,h⟩
def Gl(X:Cx)(x:bE):Prop:=X.env.kindOf x=xn .globalImplicit
def a5n(I:Inv X pins σ H s)(hg:Gl X x)(hm:X.mg x=xn u)(h:Q u s)
    (hd:(x==("__debug__":bE))=false:=by decide):aX (aY X.prog X.w) X.A (cK (.Name x pos) X.env) Q E s:=
  wx I.ok.kind hg (Calls.loadGlobal_global (by rw[I.ok.glob];exact I.mod.glob.keeps I.bk) hm h) hd
def a0n(I:Inv X pins σ H s)(hg:Gl X x)(hm:X.mg x=xI)(hv:gS x=xn u)(h:Q u s)
    (hn:x≠"__name__":=by decide) (hd:(x==("__debug__":bE))=false:=by decide):aX (aY X.prog X.w) X.A (cK (.Name x pos) X.env) Q E s:=by
  obtain⟨mb,h1,h2⟩:=I.mod.blt;exact wx I.ok.kind hg (Calls.loadGlobal_builtin (by rw[I.ok.glob];exact I.mod.glob.keeps I.bk) hm (by rw[I.ok.blt];exact h1.keeps I.bk) ((h2 x hn).trans hv) h) hd
def a9o(hg:Gl X x)(hm:X.mg x=xn u)(r:RelV v u)(hd:(x==("__debug__":bE))=false:=by decide):PE X (.Name x pos) (tC v):=
  λ_ _ _ H _ I h=>a5n I hg hm ⟨v,H,I,r,h⟩ hd
def b5x(hg:Gl X x)(hm:X.mg x=xI)(hv:gS x=xn u)(r:RelV v u)(hn:x≠"__name__":=by decide)(hd:(x==("__debug__":bE))=false:=by decide):PE X (.Name x pos) (tC v):=
  λ_ _ _ H _ I h=>a0n I hg hm hv ⟨v,H,I,r,h⟩ hn hd
variable {a b:Expr}{ta tb:TE}{pos:fM}
def tB(t:TE):TT:=λσ H Q=>t σ H λx H1=>∃c,x=.bl c∧Q c H1
variable {tA zO:TT}{rest:List Expr}
def tOr(t u:TT):TT:=λσ H Q=>t σ H λc H1=>if c=true then Q true H1 else u σ H1 Q
def c2d(t:TT):TT:=λσ H Q=>t σ H λc H1=>Q (!c) H1
def b8k(ha:PT X a tA):PW X (.BoolOp .Or [a] pos) tA:=by
  intro wh pins s σ H Q I h;refine isTrue_or (thn (ha pins s σ H Q I h) λc s1 e=>?_);cases c with
  |false=>exact isTrue_or_nil e
  |true=>exact e
def c0t(ha:PT X a tA)(hb:PW X (.BoolOp .Or (b::rest) pos) zO):PW X (.BoolOp .Or (a::b::rest) pos) (tOr tA zO):=by
  intro wh pins s σ H Q I h;refine isTrue_or (thn (ha pins s σ H _ I h) λc s1 ⟨H1,I1,q1⟩=>?_);cases c with
  |true=>exact⟨H1,I1,q1⟩
  |false=>exact hb wh pins s1 σ H1 Q I1 q1
def b8l(ha:PT X a tA):PT X (.UnaryOp .Not a pos) (c2d tA):=by
  intro pins s σ H Q I h;exact isTrue_not (ha pins s σ H (λc H1=>Q (!c) H1) I h)
def c0u(ta tb:TE):TE:=λσ H Q=>ta σ H λx H1=>∃c,x=.bl c∧if c=true then tb σ H1 Q else Q (.bl false) H1
def c0v(ta:TE):TE:=λσ H Q=>ta σ H λx H1=>∃c,x=.bl c∧Q (.bl (!c)) H1
def b8m{op}(h:PE X a t):PE X (.BoolOp op [a] pos) t:=λpins s σ H Q I hw=>BoolOp_one (h pins s σ H Q I hw)
def b8n(ha:PE X a ta)(hb:PE X (.BoolOp .And (b::rest) pos) tb):PE X (.BoolOp .And (a::b::rest) pos) (c0u ta tb):=by
  intro pins s σ H Q I h;refine BoolOp_and (thn (ha pins s σ H _ I h) λv s1 ⟨x,H1,I1,r1,q1⟩=>?_);obtain⟨c,rfl,q1⟩:=q1;cases r1
  refine eF ?_;cases c with
  |true=>exact hb pins s1 σ H1 Q I1 q1
  |false=>exact⟨.bl false,H1,I1,rfl,q1⟩
def b8o(ha:PE X a ta):PE X (.UnaryOp .Not a pos) (c0v ta):=by
  intro pins s σ H Q I h;refine UnaryOp_ (thn (ha pins s σ H _ I h) λv s1 ⟨x,H1,I1,r1,q1⟩=>?_);obtain⟨c,rfl,q1⟩:=q1;cases r1
  exact not_of (eF ⟨.bl (!c),H1,I1,rfl,q1⟩)
end
def SqL(K:af)(H:Hp)(a:aw)(xs:List V):Prop:=
  Rd H a (.lst xs)∨
    ∃(o:fY) (its:Array aj) (n:Nat),K.lookup a=xn o∧o.cls=.type "list"∧o.dict=xI∧o.data=.seq its n∧its.size≤a_∧Vals xs its.toList
def SqT(K:af)(H:Hp)(a:aw)(xs:List V):Prop:=
  Rd H a (.tup xs)∨
    ∃(o:fY) (its:Array aj) (n:Nat),K.lookup a=xn o∧o.cls=.type "tuple"∧o.data=.seq its n∧its.size≤a_∧Vals xs its.toList
def c2e:aj→Option V
  |.none=>xn .non
  |.bool b=>xn (.bl b)
  |.int i _=>xn (.int i)
  |.str x _=>xn (.str x)
  |.bytes b _=>xn (.byt b)
  |.float b _=>xn (.flt b)
  |.ref a=>xn (.ref a)
  |.type n=>xn (.ty n)
  |_=>xI
def RelV.abs(r:RelV x u):c2e u=xn x:=by
  cases x with
  |non=>cases r;rfl
  |bl _=>cases r;rfl
  |int _=>obtain⟨t,rfl⟩:=r;rfl
  |str _=>obtain⟨t,rfl⟩:=r;rfl
  |byt _=>obtain⟨t,rfl⟩:=r;rfl
  |flt _=>obtain⟨t,rfl⟩:=r;rfl
  |ref _=>cases r;rfl
  |ty _=>cases r;rfl
def RelV.inj(r:RelV x u)(q:RelV y u):x=y:=aF (r.abs.symm.trans q.abs)
theorem Vals.inj:∀{xs ys:List V} {us:List aj},Vals xs us→Vals ys us→xs=ys
  |_,_,_,.nil,.nil=>rfl
  |_,_,_,.cons r t,.cons r' t'=>by rw[r.inj r',Vals.inj t t']
section
variable {X:Cx}{pins:List (aw×fY)}{σ:St}{H:Hp}{s:au}{a:aw}{xs ys:List V}
def SqL.of{K:af}(h:H a=xn (.lst xs)):SqL K H a xs:=.inl (.inl h)
def SqT.of{K:af}(h:H a=xn (.tup xs)):SqT K H a xs:=.inl (.inl h)
def Inv.list(I:Inv X pins σ H s)(h:SqL X.K H a xs):∃its:List aj,Vals xs its∧PlainL s.heap a its.toArray∧xs.length≤a_:=by
  rcases h with h|⟨o,its,n,hk,hc,hd,hs,hz,r⟩
  · obtain⟨z,its,n,r,e⟩:=h.ok I.hok
    exact⟨its,r,⟨_,n,e,rfl,rfl,rfl⟩,z⟩
  · refine⟨its.toList,r,⟨o,n,I.kIn a o hk,hc,hd,by simpa using hs⟩,?_⟩
    have e:=r.length;simp only[aP]at e;omega
def Inv.tuple(I:Inv X pins σ H s)(h:SqT X.K H a xs):∃its:List aj,Vals xs its∧IsTup s.heap a its.toArray∧xs.length≤a_:=by
  rcases h with h|⟨o,its,n,hk,hc,hs,hz,r⟩
  · obtain⟨z,its,r,p⟩:=h.ok I.hok
    exact⟨its,r,p,z⟩
  · refine⟨its.toList,r,⟨o,I.kIn a o hk,hc,n,by simpa using hs⟩,?_⟩
    have e:=r.length;simp only[aP]at e;omega
def Inv.list_inj(I:Inv X pins σ H s)(h:SqL X.K H a xs)(h':SqL X.K H a ys):xs=ys:=by
  obtain⟨its,r,⟨o,n,e,_,_,d⟩,_⟩:=I.list h;obtain⟨its',r',⟨o',n',e',_,_,d'⟩,_⟩:=I.list h';rw[e]at e';cases e';rw[d]at d'
  injection d' with d1 _
  have:its=its':=by simpa using dB Array.toList d1
  subst this;exact r.inj r'
end
abbrev Cx.wish(X:Cx)(E:aj→au→Prop):Cx:={X with xe:=E}
abbrev Cx.nox(X:Cx):Cx:=X.wish λ_ _=>False
theorem Cx.Ok.wish{X:Cx}(ok:X.Ok)(E:aj→au→Prop):(X.wish E).Ok:=
  ⟨ok.mod,ok.kind,ok.glob,ok.blt,ok.above,ok.inj,ok.has,ok.cab,ok.hd,ok.frames,ok.stk,ok.exf,ok.bs,ok.bsz,ok.noex,ok.exfs,ok.funs,ok.frf,ok.tabs⟩
def Cx.Ok.unwish{X:Cx}(ok:(X.wish E).Ok):X.Ok:=
  ⟨ok.mod,ok.kind,ok.glob,ok.blt,ok.above,ok.inj,ok.has,ok.cab,ok.hd,ok.frames,ok.stk,ok.exf,ok.bs,ok.bsz,ok.noex,ok.exfs,ok.funs,ok.frf,ok.tabs⟩
section
variable {X:Cx}{pins:List (aw×fY)}{σ:St}{H:Hp}{s:au}{E:aj→au→Prop}
theorem Inv.wish(I:Inv X pins σ H s)(E:aj→au→Prop):Inv (X.wish E) pins σ H s:=⟨I.ok.wish E,I.os,I.bare,I.base,I.loc,I.cell,I.free,I.freeC,I.pin,I.hok,I.len⟩
theorem Inv.unwish(I:Inv (X.wish E) pins σ H s):Inv X pins σ H s:=⟨I.ok.unwish,I.os,I.bare,I.base,I.loc,I.cell,I.free,I.freeC,I.pin,I.hok,I.len⟩
theorem SP.unwish(h:SP (X.wish E) pins D f s'):SP X pins D f s':=by
  cases f with
  |next=>obtain⟨σ',H',I,q⟩:=h;exact⟨σ',H',I.unwish,q⟩
  |brk=>obtain⟨σ',H',I,q⟩:=h;exact⟨σ',H',I.unwish,q⟩
  |cont=>obtain⟨σ',H',I,q⟩:=h;exact⟨σ',H',I.unwish,q⟩
  |ret u=>obtain⟨v,σ',H',I,r,q⟩:=h;exact⟨v,σ',H',I.unwish,r,q⟩
theorem PSs.nox{st:List iy}{t:TS}(h:PSs X.nox st t):PSs X st t:=λpins s σ H D I hw=>
  d_ (h pins s σ H D (I.wish _) hw) (λ_ _ q=>q.unwish) λ_ _ z=>cJ z
end
section
variable {X:Cx}{st:iy}{rest:List iy}{t u:TS}{e:Expr}{te:TE}{pos:fM}
def c0w:TS:=λD σ H=>D.nx σ H
def c2f(t u:TS):TS:=λD σ H=>t {D with nx:=u D} σ H
def b5y:PSs X [] c0w:=λ_ _ σ H _ I h=>mw ⟨σ,H,I,h⟩
def a0G(h1:PS X st t)(h2:PSs X rest u):PSs X (st::rest) (c2f t u):=by
  intro pins s σ H D I h;refine wpAny_execs_cons (thn (h1 pins s σ H {D with nx:=u D} I h) λf s1 q=>?_);cases f with
  |next=>
    obtain⟨σ',H',I',q⟩:=q;exact h2 pins s1 σ' H' D I' q
  |ret v=>exact q
  |brk=>exact q
  |cont=>exact q
def a9p(h1:PS X st t):PSs X [st] t:=by
  intro pins s σ H D I h;refine wpAny_execs_cons (thn (h1 pins s σ H D I h) λf s1 q=>?_);cases f with
  |next=>exact mw q
  |ret v=>exact q
  |brk=>exact q
  |cont=>exact q
def Inv.quiet{pins:List (aw×fY)}{σ:St}{H:Hp}{s:au}(I:Inv X pins σ H s):interactive X.env=false:=by simp[interactive,I.ok.kind]
def c0x(te:TE):TS:=λD σ H=>te σ H λ_ H1=>D.nx σ H1
def Q6(he:PE X e te)(hs:fL e xI pos.line X.env=pure false:=by rfl):PS X (.Expr e pos) (c0x te):=by
  intro pins s σ H D I h;exact wpAny_Expr_any (thn (he pins s σ H _ I h) λv s1 ⟨x,H1,I1,r1,q1⟩=>⟨σ,H1,I1,q1⟩) I.quiet hs
def c2g(te:TE):TS:=λD σ H=>te σ H D.rt
def b2y(he:PE X e te):PS X (.Return (xn e) pos) (c2g te):=by
  intro pins s σ H D I h;exact wpAny_Return_some (thn (he pins s σ H _ I h) λv s1 ⟨x,H1,I1,r1,q1⟩=>⟨x,σ,H1,I1,r1,q1⟩)
def c2h(c:TT)(t u:TS):TS:=λD σ H=>c σ H λb H1=>if b=true then t D σ H1 else u D σ H1
def c0y{c:Expr}{a b:List iy}{tc:TT}(hc:PT X c tc)(ha:PSs X a t)(hb:PSs X b u):PS X (.If c a b pos) (c2h tc t u):=by
  intro pins s σ H D I h;refine wpAny_If (thn (hc pins s σ H _ I h) λd s1 ⟨H1,I1,q1⟩=>?_);cases d with
  |true=>exact ha pins s1 σ H1 D I1 q1
  |false=>exact hb pins s1 σ H1 D I1 q1
def b8p:TS:=λ_ _ _=>False
def b2z:PS X st b8p:=λ_ _ _ _ _ _ h=>h.elim
end
abbrev TG:=V→St→Hp→(St→Hp→Prop)→Prop
abbrev TGs:=List V→St→Hp→(St→Hp→Prop)→Prop
def PG(X:Cx)(target:Expr)(t:TG):Prop:=
  ∀(pins:List (aw×fY)) (s:au) (σ:St) (H:Hp) (v:V) (u:aj) (Q:St→Hp→Prop),Inv X pins σ H s→RelV v u→t v σ H Q→
    aX (aY X.prog X.w) X.A (assign target X.env u) (λ_ s'=>∃σ' H',Inv X pins σ' H' s'∧Q σ' H') X.xe s
def PGs(X:Cx)(ts:List Expr)(t:TGs):Prop:=
  ∀(pins:List (aw×fY)) (s:au) (σ:St) (H:Hp) (vs:List V) (us:List aj) (Q:St→Hp→Prop),Inv X pins σ H s→Vals vs us→t vs σ H Q→
    aX (aY X.prog X.w) X.A (assignInOrder ((ix ts X.env).map (·.2)) us) (λ_ s'=>∃σ' H',Inv X pins σ' H' s'∧Q σ' H') X.xe s
abbrev TIp:=V→V→Hp→VK→Prop
def PIp(X:Cx)(op:Operator)(t:TIp):Prop:=
  ∀(pins:List (aw×fY)) (s:au) (σ:St) (H:Hp) (x y:V) (v u:aj) (Q:VK),Inv X pins σ H s→RelV x v→RelV y u→t x y H Q→
    aX (aY X.prog X.w) X.A (inplaceOp op v u) (EP X pins σ Q) X.xe s
section
variable {X:Cx}{pos:fM}
def L6(i:Nat):TG:=λv σ H Q=>Q (σ.set i (xn v)) H
def q8(hN:X.N.Nodup)(hi:X.N[i]?=xn x)(hx:Loc X.env.scope x)(hf:X.fn x=true∨X.env.scope.names.lookup x=xn .local:=by first|exact .inl rfl|exact .inr rfl|assumption):PG X (.Name x pos) (L6 i):=by
  intro pins s σ H v u Q I r h;exact wpAny_assign_Name (a2S I hN hi hx r (λs' I'=>⟨_,H,I',h⟩) hf)
def b5z:TGs:=λvs σ H Q=>vs=[]∧Q σ H
def a2T(t:TG)(u:TGs):TGs:=λvs σ H Q=>∃v r,vs=v::r∧t v σ H λσ' H'=>u r σ' H' Q
def Q7:PGs X [] b5z:=by
  intro pins s σ H vs us Q I r h;obtain⟨e,h⟩:=h;subst e;cases r
  exact assignInOrder_nil ⟨σ,H,I,h⟩
def u8{e:Expr}{es:List Expr}{t:TG}{u:TGs}(h1:PG X e t)(h2:PGs X es u)
    (hs:(ix (e::es) X.env).map (·.2)=assign e X.env::(ix es X.env).map (·.2):=by rfl):PGs X (e::es) (a2T t u):=by
  intro pins s σ H vs us Q I r h;obtain⟨v,vr,e1,h⟩:=h;subst e1;cases r with
  |cons r rr=>
    rw[hs];refine assignInOrder_cons (thn (h1 pins s σ H _ _ _ I r h) λ_ s1 ⟨σ1,H1,I1,q1⟩=>?_);exact h2 pins s1 σ1 H1 _ _ Q I1 rr q1
def b8q(K:af)(n:Nat)(t:TGs):TG:=λv σ H Q=>∃a xs,v=.ref a∧SqT K H a xs∧xs.length=n∧t xs σ H Q
def a1w(hc:X.calm=true)(h:PGs X es t)
    (hn:(ix es X.env).length=n:=by rfl) (qo:(ix es X.env).findIdx? (·.1)=xI:=by rfl):PG X (.Tuple es k pos) (b8q X.K n t):=by
  intro pins s σ H v u Q I r hw;obtain⟨a,xs,e1,hq,hl,hw⟩:=hw;subst e1;cases r
  obtain⟨its,rv,ht,hz⟩:=I.tuple hq;refine assign_Tuple_tuple (I.ok.hd hc) ht (by simp[hn,←hl,rv.length]) qo λh' hx=>?_
  have I1:Inv X pins σ H {s with heap:=h'}:=I.kept (t':=s.toks) λb o e=>hx b o (bM (aU e)) e
  exact h pins _ σ H xs _ Q I1 (by simpa using rv) hw
def c0z(te:TE)(g:TG):TS:=λD σ H=>te σ H λx H1=>g x σ H1 D.nx
def b8r{tg e:Expr}{te:TE}{g:TG}(he:PE X e te)(hg:PG X tg g)(hs:swapsWithSole [tg] e pos.line X.env=pure false:=by rfl)(hw:swappedStores [tg] e X.env=pure xI:=by rfl)
    (h1:(ix [tg] X.env).map (·.2)=[assign tg X.env]:=by rfl):PS X (.Assign [tg] e pos) (c0z te g):=by
  intro pins s σ H D I h;refine wpAny_Assign_stores (thn (he pins s σ H _ I h) λv s1 ⟨x,H1,I1,r1,q1⟩=>?_) hs hw;rw[h1];exact thn (hg pins s1 σ H1 x v _ I1 r1 q1) λ_ s2 q=>q
def a7N{i:Nat}{x:bE}{e:Expr}{te:TE}{pos':fM}(hN:X.N.Nodup)(hi:X.N[i]?=xn x)(hx:Loc X.env.scope x)(he:PE X e te)(hs:fL e (xn (.Name x pos')) pos.line X.env=pure false:=by rfl)(hf:X.fn x=true∨X.env.scope.names.lookup x=xn .local:=by first|exact .inl rfl|exact .inr rfl|assumption) :
    PS X (.Assign [.Name x pos'] e pos) (c0z te (L6 i)):=by
  intro pins s σ H D I h;refine wpAny_Assign_Name (thn (he pins s σ H _ I h) λv s1 ⟨y,H1,I1,r1,q1⟩=>?_) hs;exact a2S I1 hN hi hx r1 (λs2 I2=>⟨_,H1,I2,q1⟩) hf
def c2i(i:Nat)(te:TE)(ti:TIp):TS:=λD σ H=>∃x,σ[i]?=xn (xn x)∧te σ H λy H1=>ti x y H1 λz H2=>D.nx (σ.set i (xn z)) H2
def b8s{i:Nat}{x:bE}{e:Expr}{te:TE}{op:Operator}{ti:TIp}{pos':fM}(hN:X.N.Nodup)(hi:X.N[i]?=xn x)(hx:Loc X.env.scope x)(he:PE X e te)(ho:PIp X op ti)(hf:X.fn x=true∨X.env.scope.names.lookup x=xn .local:=by first|exact .inl rfl|exact .inr rfl|assumption) :
    PS X (.AugAssign (.Name x pos') op e pos) (c2i i te ti):=by
  intro pins s σ H D I h;obtain⟨v,e1,h⟩:=h;obtain⟨m,hn,hl⟩:=I.loc;have BC:Vis X.env.scope x:=by rcases hx with k|k;exact .inl k;exact .inr (.inl k)
  obtain⟨u,r,l⟩:=hl i x v hi e1 BC;refine wpAny_AugAssign_Name ?_;have go:aX (aY X.prog X.w) X.A (cK e X.env) (λw s₂=>aX (aY X.prog X.w) X.A (inplaceOp op u w) (λr s₃=>aX (aY X.prog X.w) X.A (storeName X.env x r) (λ_=>SP X pins D .next) X.xe s₃) X.xe s₂) X.xe s:=by
    refine thn (he pins s σ H _ I h) λw s1 ⟨y,H1,I1,r1,q1⟩=>?_
    refine thn (ho pins s1 σ H1 v y u w _ I1 r r1 q1) λz s2 ⟨zv,H2,I2,r2,q2⟩=>?_
    exact a2S I2 hN hi hx r2 (λs3 I3=>⟨_,H2,I3,q2⟩) hf
  rcases l with⟨hk,hm⟩|⟨hk,c,hc,mC⟩
  · exact wpAny_loadName_local I.ok.kind hk hn hm go
  · rcases hk with hk|hk
    · exact wpAny_loadName_cell I.ok.kind hk hc mC go
    · rcases hx with k|k
      · have:X.env.scope.names.lookup x=xn .free:=hk
        rw[k]at this;cases this
      · have:X.env.scope.names.lookup x=xn .free:=hk
        rw[k]at this;cases this
def ipI(f:Int→Int→Int):TIp:=λx y H Q=>∃i j,x=.int i∧y=.int j∧Q (.int (f i j)) H
def b8t:PIp X .Add (ipI λi j=>i+j):=by
  intro pins s σ H x y v u Q I r1 r2 h;obtain⟨i,j,e1,e2,q⟩:=h;subst e1;subst e2;obtain⟨t,rfl⟩:=r1;obtain⟨t',rfl⟩:=r2;exact iadd_int ⟨.int _,H,I.tok _,⟨_,rfl⟩,q⟩
end
section
variable {X:Cx}{pos:fM}
def b8u(c:TT)(tb:TS):TS:=λD σ H=>∃W:Nat→St→Hp→Prop,(∃m,W m σ H)∧∀m σ H,W m σ H→
  c σ H λb H1=>if b=true then ∃N:St→Hp→Prop,(∀σ' H',N σ' H'→∃m',m'<m∧W m' σ' H')∧tb {D with nx:=N,ct:=N,bk:=D.nx} σ H1 else D.nx σ H1
def b2A{c:Expr}{body:List iy}{tc:TT}{tb:TS}(hp:nJ (aY X.prog X.w) X.A X.env X.xe)(hc:PT X c tc)(hb:PSs X body tb):PS X (.While c body [] pos) (b8u tc tb):=by
  intro pins s σ H D I h;obtain⟨W,⟨m0,w0⟩,turn⟩:=h;refine wpAny_While (codeAny_whileLoop (λn s'=>∃σ' H',Inv X pins σ' H' s'∧W n σ' H') ?_ m0 ⟨σ,H,I,w0⟩);rintro n s1 ⟨σ1,H1,I1,w1⟩;refine gv hp (thn (hc pins s1 σ1 H1 _ I1 (turn n σ1 H1 w1)) λb s2 ⟨H2,I2,q2⟩=>?_);cases b with
  |true=>
    obtain⟨N,hN,q2⟩:=q2;rw[aB rfl];refine gv hp (thn (hb pins s2 σ1 H2 _ I2 q2) λf s3 q3=>?_);cases f with
    |next=>
      obtain⟨σ3,H3,I3,n3⟩:=q3;obtain⟨m',hm,w3⟩:=hN σ3 H3 n3;exact⟨m',hm,σ3,H3,I3,w3⟩
    |cont=>
      obtain⟨σ3,H3,I3,n3⟩:=q3;obtain⟨m',hm,w3⟩:=hN σ3 H3 n3;exact⟨m',hm,σ3,H3,I3,w3⟩
    |brk=>exact q3
    |ret v=>exact q3
  |false=>
    rw[aJ cj];exact mw ⟨σ1,H2,I2,q2⟩
end
structure It where
  go:Nat→Hp→Prop
  yld:Nat→Hp→V→Hp→Prop
  stop:Nat→Hp→Prop
def a4j(X:Cx)(pins:List (aw×fY))(H:Hp)(b:aw):Prop:=
  H b=xI∧b≠X.env.locals∧b∉X.fs∧(b∈X.ex∨X.s₀.heap.objs.size≤b)∧(∀x c,X.env.cells.lookup x=xn c→c≠b)∧∀p∈X.pn++pins,p.1≠b
def Inv.fpOk(I:Inv X pins σ H s)(hb:s.heap.objs.size≤b)(hn:H' b=xI):a4j X pins H' b:=by
  refine⟨hn,jy (bo I.lt hb),I.nofs hb,.inr (cC I.sz hb),λx c e z=>?_,λp hp z=>?_⟩
  · obtain⟨v,q⟩:=I.cell x c e
    exact absurd (bo q.lt (by rw[z];exact hb)) (dQ _)
  · exact absurd (bo (aU (I.pin p hp).1) (by rw[z];exact hb)) (dQ _)
structure Turn (P:bw) (w:b_) (K:af) (tg:Expr) (J:It) (fp:List aw) (it:aw) (tn:Nat→cR→Prop):Prop where
  mem:it∈fp
  obj:∀i h,tn i h→∀b∈fp,∃o,h.get? b=xn o∧∀v,o.data≠.cell v
  keep:∀i h h',tn i h→(∀b∈fp,∀o,h.get? b=xn o→h'.get? b=xn o)→tn i h'
  item:∀(X:Cx),X.prog=P→X.w=w→X.K=K→X.calm=true→∀(i:Nat) (pins:List (aw×fY)) (s:au) (σ:St) (H:Hp) (E:aj→au→Prop),Inv X pins σ H s→(∀b∈fp,a4j X pins H b)→tn i s.heap→J.go i H→
    aX (aY P w) X.A (uI (.ref it)) (λr s1=>∃u,r=xn u∧
      aX (aY P w) X.A (mz tg (.ref it) u) (λ_ s2=>∃x H',Inv X pins σ H' s2∧RelV x u∧J.yld i H x H'∧tn (i+1) s2.heap∧∀b∈fp,H' b=xI) E s1) E s
  done:∀(X:Cx),X.prog=P→X.w=w→X.K=K→X.calm=true→∀(i:Nat) (pins:List (aw×fY)) (s:au) (σ:St) (H:Hp) (E:aj→au→Prop),Inv X pins σ H s→(∀b∈fp,a4j X pins H b)→tn i s.heap→J.stop i H→
    aX (aY P w) X.A (uI (.ref it)) (λr s1=>r=xI∧Inv X pins σ H s1) E s
  self:∀(A:bQ) (i:Nat) (s:au) (Q:aj→au→Prop) (E:aj→au→Prop),tn i s.heap→Q (.ref it) s→aX (aY P w) A (pyIter (.ref it)) Q E s
abbrev TI:=St→Hp→(It→Hp→Prop)→Prop
def PIE(X:Cx)(pins:List (aw×fY))(σ:St)(tg:Expr)(R:It→Hp→Prop)(xQ:aj)(s2:au):Prop:=
  ∃(it:aw) (fp:List aw) (tn:Nat→cR→Prop) (J:It) (H':Hp),xQ=.ref it∧Inv X pins σ H' s2∧Turn X.prog X.w X.K tg J fp it tn∧tn 0 s2.heap∧(∀b∈fp,a4j X pins H' b)∧R J H'
def PI(X:Cx)(tg iter:Expr)(wi:TI):Prop:=
  ∀(pins:List (aw×fY)) (s:au) (σ:St) (H:Hp) (R:It→Hp→Prop),Inv X pins σ H s→wi σ H R→
    aX (aY X.prog X.w) X.A (cK iter X.env) (λv s1=>aX (aY X.prog X.w) X.A (pyIter v) (PIE X pins σ tg R) X.xe s1) X.xe s
def b2B{s:au}(ho:s.heap.get? it=xn o)(hc:o.cls=.type n)(hd:o.data=.fields vs)
    (hn:["enumerate","zip","dict_itemiterator","dict_reverseitemiterator","odict_iterator","itertools.zip_longest","itertools.pairwise"].contains n=false) (hQ:Q () s):aX M A (mz tg (.ref it) u) Q E s:=by
  unfold mz;cases tg<;>first
    |exact aC hQ
    | (cases u<;>first
        |exact aC hQ
        | (refine ae (wpAny_load ho ?_)
           rw[hc,hd];show aX M A (if (["enumerate","zip","dict_itemiterator","dict_reverseitemiterator","odict_iterator","itertools.zip_longest","itertools.pairwise"].contains n&&vs[0]?==xn (jt _))=true then _ else _) Q E s;rw[aJ (by intro h;rw[hn,Bool.false_and]at h;cases h)];exact aC hQ))
def Itl(K:af)(a:aw):It:=
  ⟨λi H=>∃xs x,SqL K H a xs∧xs[i]?=xn x,λi H x H'=>H'=H∧∀xs,SqL K H a xs→xs[i]?=xn x,λi H=>∃xs,SqL K H a xs∧xs.length≤i⟩
def Itr(lo:Int)(n:Nat):It:=⟨λi _=>i<n,λi H x H'=>H'=H∧x=.int (lo+i),λi _=>n≤i⟩
def b0G{P:bw}{w:b_}{K:af}{tg:Expr}(a it:aw):Turn P w K tg (Itl K a) [it] it (λi h=>h.IsListIter it a i) where
  mem:=by simp
  obj:=λi h st b hb=>by
    have e:b=it:=by simpa using hb
    subst e;obtain⟨o,e,c,d⟩:=st;exact⟨o,e,λv z=>by rw[d]at z;cases z⟩
  keep:=λi h h' st k=>st.at λo e=>k it (by simp) o e
  item:=by
    intro X hP hw hK hc i pins s σ H E I hf st hg;subst hP hw hK;obtain⟨xs,x,hq,hx⟩:=hg;obtain⟨its,rv,p,hz⟩:=I.list hq;obtain⟨u,hu,ru⟩:=rv.get hx;obtain⟨f0,f1,f2,f3,f4,f5⟩:=hf it (by simp);refine wpAny_pyNext_list_item st p.isList (x:=u) (by simpa using hu) λh' cO sb=>?_
    have I1:Inv X pins σ H {s with heap:=h'}:=I.turned (t':=s.toks) (λb o hb e=>(sb.2 b hb).trans e) f0 f1 f3 f4 f5;obtain⟨o,e,c,d⟩:=id cO;exact⟨u,rfl,b2B (s:={s with heap:=h'}) e c d (by decide) ⟨x,H,I1,ru,⟨rfl,λys hy=>by rw[I.list_inj hy hq];exact hx⟩,cO,λb hb=>(hf b hb).1⟩⟩
  done:=by
    intro X hP hw hK hc i pins s σ H E I hf st hg;subst hP hw hK;obtain⟨xs,hq,hx⟩:=hg;obtain⟨its,rv,p,hz⟩:=I.list hq;obtain⟨f0,f1,f2,f3,f4,f5⟩:=hf it (by simp);have hl:=rv.length;exact wpAny_pyNext_list_end (I.ok.hd hc) st p.isList (by simp;omega) λh' eb=>⟨rfl,I.turned (t':=s.toks) (λb o hb e=>eb b o hb e) f0 f1 f3 f4 f5⟩
  self:=λ_ _ _ _ _ st h=>wpAny_pyIter_listiter st h
def a7O{P:bw}{w:b_}{K:af}{tg:Expr}(it:aw)(lo:Int)(n:Nat):Turn P w K tg (Itr lo n) [it] it (λi h=>IsRangeIter h it (lo+(i:Nat)*1) ((n:Int)-(i:Nat)) 1) where
  mem:=by simp
  obj:=λi h st b hb=>by
    have e:b=it:=by simpa using hb
    subst e;exact⟨_,st,λv z=>by
      have z':Data.fields _=Data.cell v:=z;cases z'⟩
  keep:=λi h h' st k=>k it (by simp) _ st
  item:=by
    intro X hP hw hK hc i pins s σ H E I hf st hg;subst hP hw hK;obtain⟨f0,f1,f2,f3,f4,f5⟩:=hf it (by simp);have W:=Walks.range (prog:=X.prog) (w:=X.w) (I.ok.hd hc) it lo 1 n;refine W.item i s _ _ hg st λv h' tk hv cO kk=>?_
    obtain⟨t,rfl⟩:=hv;have I1:Inv X pins σ H {s with heap:=h',toks:=tk}:=I.turned (λb o hb e=>kk b o (by simpa using hb) e) f0 f1 f3 f4 f5;refine⟨_,rfl,b2B (s:={s with heap:=h',toks:=tk}) (n:="range_iterator") cO rfl rfl (by decide) ⟨.int (lo+i),H,I1,⟨t,?_⟩,⟨rfl,rfl⟩,cO,λb hb=>(hf b hb).1⟩⟩;rw[Int.mul_one]
  done:=by
    intro X hP hw hK hc i pins s σ H E I hf st hg;subst hP hw hK;obtain⟨f0,f1,f2,f3,f4,f5⟩:=hf it (by simp);exact wpAny_pyNext_range_end (I.ok.hd hc) st (by have:n≤i:=hg;omega) λh' eb=>⟨rfl,I.turned (t':=s.toks) (λb o hb e=>eb b o hb e) f0 f1 f3 f4 f5⟩
  self:=λ_ _ _ _ _ st h=>wpAny_pyIter_rangeiter st h
section
variable {X:Cx}{tg:Expr}
def c0A(K:af)(tl:TE):TI:=λσ H R=>tl σ H λx H1=>∃a,x=.ref a∧(∃xs,SqL K H1 a xs)∧R (Itl K a) H1
def b5A{l:Expr}{tl:TE}(hl:PE X l tl):PI X tg l (c0A X.K tl):=by
  intro pins s σ H R I h;refine thn (hl pins s σ H _ I h) λv s1 ⟨x,H1,I1,r1,q1⟩=>?_
  obtain⟨a,e,⟨xs,hq⟩,q⟩:=q1;subst e;cases r1
  obtain⟨its,rv,p,hz⟩:=I1.list hq;refine wpAny_pyIter_list p.isList ?_;refine⟨s1.heap.objs.size,[s1.heap.objs.size],_,_,H1,rfl,I1.kept (t':=s1.toks) λb o e=>aE _ e,b0G a _,⟨_,be _ rfl,rfl,rfl⟩,λb hb=>?_,q⟩;have e:b=s1.heap.objs.size:=by simpa using hb
  subst e;exact I1.fpOk (ay _) (I1.hok.fresh (ay _))
def b2C{pins:List (aw×fY)}{σ:St}{H:Hp}{s:au}{R:It→Hp→Prop}{E:aj→au→Prop}{lo hi:Int}{t u v:Tok}{tk:Nat}(I:Inv X pins σ H s)(h1:-(2^62)≤lo)(h2:lo<2^62)(h3:-(2^62)≤hi)(h4:hi<2^62)
    (q:R (Itr lo (hi-lo).toNat) H):aX (aY X.prog X.w) X.A (pyIter (.ref s.heap.objs.size)) (PIE X pins σ tg R) E {s with heap:=s.heap.push {cls:=.type "range",data:=.fields #[.int lo t,.int hi u,.int 1 v]},toks:=tk}:=by
  refine wpAny_pyIter_range (IsRange.new ..) (small_one h1 h2 h3 h4) ?_;have I1:Inv X pins σ H {s with heap:=s.heap.push {cls:=.type "range",data:=.fields #[.int lo t,.int hi u,.int 1 v]},toks:=tk}:=I.kept λb o e=>aE _ e
  refine⟨(s.heap.push {cls:=.type "range",data:=.fields #[.int lo t,.int hi u,.int 1 v]}).objs.size,[(s.heap.push {cls:=.type "range",data:=.fields #[.int lo t,.int hi u,.int 1 v]}).objs.size],_,_,H,rfl,
    I1.kept (t':=tk) λb o e=>aE _ e,a7O _ lo (hi-lo).toNat,?_,λb hb=>?_,q⟩
  · have e1:lo+((0:Nat):Int)*1=lo:=by simp
    have e2:(((hi-lo).toNat:Nat):Int)-((0:Nat):Int)=Builtin.Range.rangeSize lo hi 1:=by rw[rangeSize_one];split<;>omega
    show IsRangeIter _ _ (lo+((0:Nat):Int)*1) ((((hi-lo).toNat:Nat):Int)-((0:Nat):Int)) 1;rw[e1,e2];exact be _ rfl
  · have e:b=(s.heap.push {cls:=.type "range",data:=.fields #[.int lo t,.int hi u,.int 1 v]}).objs.size:=by simpa using hb
    subst e;exact I1.fpOk (ay _) (I1.hok.fresh (ay _))
def c0B(ta:TA):TI:=λσ H R=>ta σ H λvs H1=>∃j:Int,vs=[.int j]∧-(2^62)≤j∧j<2^62∧R (Itr 0 j.toNat) H1
def b0H{a:Expr}{ta:TA}{p pos:fM}(hg:Gl X "range")(hm:X.mg "range"=xI)(ha:PA X [a] ta)(hs:ar [a] X.env=[(false,cK a X.env)]:=by rfl):PI X tg (.Call (.Name "range" p) [a] [] pos) (c0B ta):=by
  intro pins s σ H R I h;refine Call_ (a0n I hg hm boot_range (gn (thn (ha pos pins s σ H _ I h) λus s1 ⟨vs,H1,I1,r1,q1⟩=>?_) hs rfl));obtain⟨j,e,q1,q2,q⟩:=q1;subst e;cases r1 with
  |cons r rr=>
    cases rr
    obtain⟨t,rfl⟩:=r;exact call_range_1 (b2C I1 (by omega) (by omega) q1 q2 (by simpa using q))
def c2j(wi:TI)(g:TG)(tb:TS):TS:=λD σ H=>wi σ H λJ H1=>∃W:Nat→Nat→St→Hp→Prop,(∃m,W 0 m σ H1)∧∀i m σ H,W i m σ H→
  (J.stop i H∧D.nx σ H)∨(J.go i H∧∃N:St→Hp→Prop,(∀σ' H',N σ' H'→∃m',m'<m∧W (i+1) m' σ' H')∧∀x H',J.yld i H x H'→g x σ H' λσ2 H2=>tb {D with nx:=N,ct:=N,bk:=D.nx} σ2 H2)
def a5o(fp:List aw)(h:cR):List (aw×fY):=fp.filterMap λb=>(h.get? b).map λo=>(b,o)
def F7{h:cR}(hb:b∈fp)(e:h.get? b=xn o):(b,o)∈a5o fp h:=dU.mpr ⟨b,hb,by rw[e];rfl⟩
def b0I(hp:p∈a5o fp h):p.1∈fp∧h.get? p.1=xn p.2:=by
  obtain⟨b,hb,e⟩:=dU.mp hp;cases q:h.get? b with
  |none=>rw[q]at e;cases e
  |some o=>
    rw[q]at e;have e':(b,o)=p:=aF e;subst e';exact⟨hb,q⟩
def Inv.pinned(I:Inv X pins σ H s)(hf:∀b∈fp,a4j X pins H b)(ho:∀b∈fp,∃o,s.heap.get? b=xn o∧∀v,o.data≠.cell v):Inv X (pins++a5o fp s.heap) σ H s:=
  I.pins_of λp hp=>(aq.mp hp).elim (λz=>I.pin p (ah _ z)) λz=>by
    obtain⟨hb,e⟩:=b0I z;obtain⟨f0,f1,f2,_⟩:=hf p.1 hb;obtain⟨o,e',d⟩:=ho p.1 hb;rw[e]at e';cases e';exact⟨e,f0,f1,f2,d⟩
def Inv.unpinned(I:Inv X (pins++pl) σ H s):Inv X pins σ H s:=I.pins_of λp hp=>I.pin p (ah _ (ak _ hp))
def a7P(hp:nJ (aY X.prog X.w) X.A X.env X.xe)(hc:X.calm=true)(hi:PI X tg iter wi)(hg:PG X tg g)(hb:PSs X body tb)
    (hs:∀x,fN iter X.env x=pure x:=by intro _;rfl):PS X (.For tg iter body [] pos) (c2j wi g tb):=by
  intro pins s σ H D I h;refine wpAny_For (thn (hi pins s σ H _ I h) λv s1 h1=>thn h1 λxQ s2 h2=>?_) hs;obtain⟨it,fp,tn,J,H2,e,I2,T,kU,f2,W,⟨m0,w0⟩,turn⟩:=h2;subst e;have nM:∀{H':Hp},(∀b∈fp,H' b=xI)→∀b∈fp,a4j X pins H' b:=λhn b hb=>⟨hn b hb,(f2 b hb).2⟩
  refine codeAny_forLoop_any (λn s'=>∃i σ' H',Inv X pins σ' H' s'∧tn i s'.heap∧(∀b∈fp,H' b=xI)∧W i n σ' H') ?_ m0 ⟨0,σ,H2,I2,kU,λb hb=>(f2 b hb).1,w0⟩;rintro n s3 ⟨i,σ3,H3,I3,jj,v_,w3⟩;rcases turn i n σ3 H3 w3 with⟨stop,qn⟩|⟨go,N,hN,step⟩
  · refine gv hp (thn (T.done X rfl rfl rfl hc i pins s3 σ3 H3 X.xe I3 (nM v_) jj stop) λr s4 ⟨hr,I4⟩=>?_)
    subst hr;exact mw ⟨σ3,H3,I4,qn⟩
  · refine gv hp (thn (T.item X rfl rfl rfl hc i pins s3 σ3 H3 X.xe I3 (nM v_) jj go) λr s4 ⟨u,hr,h4⟩=>?_)
    subst hr;refine gv hp (thn h4 λ_ s5 ⟨x,H5,I5,r5,y5,pj,zq⟩=>?_);have zL:=I5.pinned (nM zq) (T.obj _ _ pj);refine gv hp (thn (hg _ s5 σ3 H5 x u _ zL r5 (step x H5 y5)) λ_ s6 ⟨σ6,H6,I6,q6⟩=>?_);refine gv hp (thn (hb _ s6 σ6 H6 _ I6 q6) λf s7 q7=>?_);have again:∀{σ7:St} {H7:Hp},Inv X (pins++a5o fp s5.heap) σ7 H7 s7→N σ7 H7→∃m,m<n∧∃i σ' H',Inv X pins σ' H' s7∧tn i s7.heap∧(∀b∈fp,H' b=xI)∧W i m σ' H':=λ{σ7 H7} I7 n7=>by
      obtain⟨m',hm,w7⟩:=hN σ7 H7 n7;refine⟨m',hm,i+1,σ7,H7,I7.unpinned,T.keep _ _ _ pj λb hb o e=>(I7.pin (b,o) (ah _ (ah _ (F7 hb e)))).1,λb hb=>?_,w7⟩;obtain⟨o,e,d⟩:=T.obj _ _ pj b hb;exact (I7.pin (b,o) (ah _ (ah _ (F7 hb e)))).2.1
    cases f with
    |next=>obtain⟨σ7,H7,I7,n7⟩:=q7;exact again I7 n7
    |cont=>obtain⟨σ7,H7,I7,n7⟩:=q7;exact again I7 n7
    |brk=>obtain⟨σ7,H7,I7,q7⟩:=q7;exact⟨σ7,H7,I7.unpinned,q7⟩
    |ret v=>obtain⟨x7,σ7,H7,I7,r7,q7⟩:=q7;exact⟨x7,σ7,H7,I7.unpinned,r7,q7⟩
end
abbrev R2:=V→V→Hp→VK→Prop
def OpR(X:Cx)(f:aj→aj→zD aj)(r:R2):Prop:=
  ∀(pins:List (aw×fY)) (s:au) (σ:St) (H:Hp) (x y:V) (v u:aj) (Q:VK),Inv X pins σ H s→RelV x v→RelV y u→r x y H Q→
    aX (aY X.prog X.w) X.A (f v u) (EP X pins σ Q) X.xe s
def UnR(X:Cx)(f:aj→zD aj)(r:V→Hp→VK→Prop):Prop:=
  ∀(pins:List (aw×fY)) (s:au) (σ:St) (H:Hp) (x:V) (v:aj) (Q:VK),Inv X pins σ H s→RelV x v→r x H Q→
    aX (aY X.prog X.w) X.A (f v) (EP X pins σ Q) X.xe s
def CallR(X:Cx)(f:aj)(r:List V→Hp→VK→Prop):Prop:=
  ∀(pins:List (aw×fY)) (s:au) (σ:St) (H:Hp) (xs:List V) (us:List aj) (Q:VK),Inv X pins σ H s→Vals xs us→r xs H Q→
    aX (aY X.prog X.w) X.A (call f us) (EP X pins σ Q) X.xe s
def c2k(X:Cx)(r:V→Hp→(Bool→Hp→Prop)→Prop):Prop:=
  ∀(pins:List (aw×fY)) (s:au) (σ:St) (H:Hp) (x:V) (v:aj) (Q:Bool→Hp→Prop),Inv X pins σ H s→RelV x v→r x H Q→
    aX (aY X.prog X.w) X.A (truthy v) (TP X pins σ Q) X.xe s
def tOp(r:R2)(ta tb:TE):TE:=λσ H Q=>ta σ H λx H1=>tb σ H1 λy H2=>r x y H2 Q
def tUn(r:V→Hp→VK→Prop)(ta:TE):TE:=λσ H Q=>ta σ H λx H1=>r x H1 Q
def rI(C:Int→Int→Prop)(g:Int→Int→V):R2:=λx y H Q=>∃i j,x=.int i∧y=.int j∧C i j∧Q (g i j) H
def rI0(g:Int→Int→V):R2:=λx y H Q=>∃i j,x=.int i∧y=.int j∧Q (g i j) H
def rU(g:Int→V):V→Hp→VK→Prop:=λx H Q=>∃i,x=.int i∧Q (g i) H
section
variable {X:Cx}{a b c:Expr}{ta tb tc:TE}{pos:fM}
def b8v(ha:PE X a ta)(hb:PE X b tb){pins:List (aw×fY)}{s:au}{σ:St}{H:Hp}{R:V→V→Hp→Prop}(I:Inv X pins σ H s)
    (h:ta σ H λx H1=>tb σ H1 λy H2=>R x y H2) {Q:aj→au→Prop} {f:aj→aj→zD aj}
    (hf:∀v u s2 x y H2,Inv X pins σ H2 s2→RelV x v→RelV y u→R x y H2→aX (aY X.prog X.w) X.A (f v u) Q X.xe s2) :
    aX (aY X.prog X.w) X.A (cK a X.env) (λv s₁=>aX (aY X.prog X.w) X.A (cK b X.env) (λu s₂=>aX (aY X.prog X.w) X.A (f v u) Q X.xe s₂) X.xe s₁) X.xe s:=by
  refine thn (ha pins s σ H _ I h) λv s1 ⟨x,H1,I1,r1,q1⟩=>?_
  refine thn (hb pins s1 σ H1 _ I1 q1) λu s2 ⟨y,H2,I2,r2,q2⟩=>?_
  exact hf v u s2 x y H2 I2 r1 r2 q2
def b7K{op:Operator}{r:R2}(ho:OpR X (fX op) r)(ha:PE X a ta)(hb:PE X b tb):PE X (.BinOp a op b pos) (tOp r ta tb):=by
  intro pins s σ H Q I h;exact wpAny_BinOp (b8v ha hb I h λv u s2 x y H2 I2 rx ry q=>ho pins s2 σ H2 x y v u Q I2 rx ry q)
def c0C(ho:UnR X (unaryOp op) r)(ha:PE X a ta):PE X (.UnaryOp op a pos) (tUn r ta):=by
  intro pins s σ H Q I h;exact UnaryOp_ (thn (ha pins s σ H _ I h) λv s1 ⟨x,H1,I1,r1,q1⟩=>ho pins s1 σ H1 x v Q I1 r1 q1)
def opI{f:aj→aj→zD aj}{C:Int→Int→Prop}{g:Int→Int→Int}
    (rule:∀(i j:Int) (t u:Tok) (s:au) (Q:aj→au→Prop) (E:aj→au→Prop),C i j→Q (.int (g i j) s.toks) {s with toks:=s.toks+1}→aX (aY X.prog X.w) X.A (f (.int i t) (.int j u)) Q E s) :
    OpR X f (rI C λi j=>.int (g i j)):=by
  intro pins s σ H x y v u Q I rx ry h;obtain⟨i,j,rfl,rfl,hc,q⟩:=h;obtain⟨t,rfl⟩:=rx;obtain⟨t',rfl⟩:=ry;exact rule i j t t' s _ _ hc ⟨.int (g i j),H,I.tok _,⟨_,rfl⟩,q⟩
def c0D{f:aj→aj→zD aj}{g:Int→Int→Int}
    (rule:∀(i j:Int) (t u:Tok) (s:au) (Q:aj→au→Prop) (E:aj→au→Prop),Q (.int (g i j) s.toks) {s with toks:=s.toks+1}→aX (aY X.prog X.w) X.A (f (.int i t) (.int j u)) Q E s) :
    OpR X f (rI0 λi j=>.int (g i j)):=by
  intro pins s σ H x y v u Q I rx ry h;obtain⟨i,j,rfl,rfl,q⟩:=h;obtain⟨t,rfl⟩:=rx;obtain⟨t',rfl⟩:=ry;exact rule i j t t' s _ _ ⟨.int (g i j),H,I.tok _,⟨_,rfl⟩,q⟩
def b8w{f:aj→aj→zD aj}{g:Int→Int→Bool}
    (rule:∀(i j:Int) (t u:Tok) (s:au) (Q:aj→au→Prop) (E:aj→au→Prop),Q (.bool (g i j)) s→aX (aY X.prog X.w) X.A (f (.int i t) (.int j u)) Q E s) :
    OpR X f (rI0 λi j=>.bl (g i j)):=by
  intro pins s σ H x y v u Q I rx ry h;obtain⟨i,j,rfl,rfl,q⟩:=h;obtain⟨t,rfl⟩:=rx;obtain⟨t',rfl⟩:=ry;exact rule i j t t' s _ _ ⟨.bl (g i j),H,I,rfl,q⟩
def c2l(i j:Int):Prop:=0<j∧j<1073741824
def c2m(i j:Int):Prop:=0≤j∧j≤1000000∧i.natAbs<2^64
def CMul(i j:Int):Prop:=(-(2^64)<i∧i<2^64)∨(-(2^64)<j∧j<2^64)
def CMul.ok{i j:Int}(h:CMul i j):IntMulOk i j:=by
  rcases h with⟨h1,h2⟩|⟨h1,h2⟩
  · exact .of_left (intBits_le_64 h1 h2)
  · exact .of_right (intBits_le_64 h1 h2)
def b8x:OpR X (fX .Add) (rI0 λi j=>.int (i+j)):=c0D λ_ _ _ _ _ _ _ q=>add_int q
def b8y:OpR X (fX .Sub) (rI0 λi j=>.int (i-j)):=c0D λ_ _ _ _ _ _ _ q=>sub_int q
def b8z:OpR X (fX .Mult) (rI CMul λi j=>.int (i*j)):=opI λ_ _ _ _ _ _ _ hc q=>mul_int q hc.ok
def b5B:OpR X (fX .FloorDiv) (rI c2l λi j=>.int (i / j)):=opI λi j _ _ _ _ _ hc q=>by
  have h1:(0:Int)<j:=hc.1;have h2:j<1073741824:=hc.2;exact floordiv_int (by omega) (by rw[Int.fdiv_eq_ediv_of_nonneg i (by omega)];exact q) (.inl (PyProof.noPylong_small (by omega)))
def b8A:OpR X (fX .Mod) (rI (λ_ j=>0<j) λi j=>.int (i % j)):=opI λi j _ _ _ _ _ hc q=>by
  have h1:(0:Int)<j:=hc;exact mod_int' (by omega) (by rw[Int.fmod_eq_emod_of_nonneg i (by omega)];exact q)
def b8B:OpR X (fX .Pow) (rI c2m λi j=>.int (i^j.toNat)):=opI λ_ _ _ _ _ _ _ hc q=>pow_int_small hc.1 hc.2.1 hc.2.2 q
def unI{f:aj→zD aj}{g:Int→Int}
    (rule:∀(i:Int) (t:Tok) (s:au) (Q:aj→au→Prop) (E:aj→au→Prop),Q (.int (g i) s.toks) {s with toks:=s.toks+1}→aX (aY X.prog X.w) X.A (f (.int i t)) Q E s) :
    UnR X f (rU λi=>.int (g i)):=by
  intro pins s σ H x v Q I rx h;obtain⟨i,rfl,q⟩:=h;obtain⟨t,rfl⟩:=rx;exact rule i t s _ _ ⟨.int (g i),H,I.tok _,⟨_,rfl⟩,q⟩
def b8C:UnR X (unaryOp .USub) (rU λi=>.int (-i)):=unI λ_ _ _ _ _ q=>neg_int q
end
def scal:V→V→Bool
  |.non,.non=>true|.non,.int _=>true|.int _,.non=>true|.non,.bl _=>true|.bl _,.non=>true|.non,.str _=>true|.str _,.non=>true
  |.int _,.int _=>true|.bl _,.bl _=>true|.str _,.str _=>true|.byt _,.byt _=>true
  |.int _,.str _=>true|.str _,.int _=>true|.bl _,.str _=>true|.str _,.bl _=>true
  |_,_=>false
section
variable {X:Cx}{a b c:Expr}{ta tb tc:TE}{pos:fM}
def b8D(I:Inv X pins σ H s)(q:Q (.bl k) H)(e:k=k'):EP X pins σ Q (.bool k') s:=by
  subst e;exact⟨.bl k,H,I,rfl,q⟩
def c0E:OpR X (cA .Lt) (rI0 λi j=>.bl (decide (i<j))):=b8w λ_ _ _ _ _ _ _ q=>lt_int q
def c0F:OpR X (cA .LtE) (rI0 λi j=>.bl (decide (i≤j))):=b8w λ_ _ _ _ _ _ _ q=>le_int q
def c0G:OpR X (cA .Gt) (rI0 λi j=>.bl (decide (j<i))):=b8w λ_ _ _ _ _ _ _ q=>gt_int q
def b5C:OpR X (cA .IsNot) (λx y H Q=>y=.non∧Q (.bl (!decide (x=.non))) H):=by
  intro pins s σ H x y v u Q I rx ry h;obtain⟨rfl,q⟩:=h;cases ry
  refine isnot_none_gen (b8D I q ?_);cases x<;>first
    | (cases rx;rfl)
    | (obtain⟨t,rfl⟩:=rx;rfl)
def a7Q(b:Expr)(h:op≠.In:=by decide)(h2:op≠.NotIn:=by decide):ie op b=false:=by
  have e1:(op==CmpOp.In)=false:=by cases op<;>first|rfl|exact absurd rfl h
  have e2:(op==CmpOp.NotIn)=false:=by cases op<;>first|rfl|exact absurd rfl h2
  cases b<;>simp[ie,e1,e2]
def b5D{op:CmpOp}{r:R2}(ho:OpR X (cA op) r)(ha:PE X a ta)(hb:PE X b tb)(hm:ie op b=false):PE X (.Compare a [op] [b] pos) (tOp r ta tb):=by
  intro pins s σ H Q I h;exact wpAny_Compare1 (b8v ha hb I h λv u s2 x y H2 I2 rx ry q=>ho pins s2 σ H2 x y v u Q I2 rx ry q) hm
def b7L(t:TE):TT:=λσ H Q=>t σ H λx H'=>∃k,x=.bl k∧Q k H'
def a9q(ho:OpR X (cA op) r)(ha:PE X a ta)(hb:PE X b tb)(hm:ie op b=false):PT X (.Compare a [op] [b] pos) (b7L (tOp r ta tb)):=by
  intro pins s σ H Q I h;refine wpAny_isTrue_Compare1 (thn (ha pins s σ H _ I h) λv s1 ⟨x,H1,I1,r1,q1⟩=>thn (hb pins s1 σ H1 _ I1 q1) λu s2 ⟨y,H2,I2,r2,q2⟩=>
    thn (ho pins s2 σ H2 x y v u _ I2 r1 r2 q2) λc s3 ⟨z,H3,I3,r3,k,e,q3⟩=>?_) hm
  subst e;cases r3
  exact eF ⟨H3,I3,q3⟩
def b2D(r r':R2)(ta tb tc:TE):TE:=λσ H Q=>ta σ H λx H1=>tb σ H1 λy H2=>r x y H2 λz H3=>∃k,z=.bl k∧
  (if k=true then tc σ H3 λw' H4=>r' y w' H4 Q else Q (.bl false) H3)
def b2E(ho:OpR X (cA op) r)(ng:OpR X (cA oK) r')(ha:PE X a ta)(hb:PE X b tb)(hc:PE X c tc)
    (hm:Ac [op,oK] [b,c]=false:=by with_unfolding_all rfl):PE X (.Compare a [op,oK] [b,c] pos) (b2D r r' ta tb tc):=by
  intro pins s σ H Q I h;refine Compare_chain (thn (ha pins s σ H _ I h) λv s1 ⟨x,H1,I1,r1,q1⟩=>chain_link (thn (hb pins s1 σ H1 _ I1 q1) λu s2 ⟨y,H2,I2,r2,q2⟩=>
    thn (ho pins s2 σ H2 x y v u _ I2 r1 r2 q2) λd s3 ⟨z,H3,I3,r3,k,e,q3⟩=>?_)) hm
  subst e;cases r3
  refine eF ?_;cases k with
  |false=>exact ite_ff ⟨.bl false,H3,I3,rfl,q3⟩
  |true=>exact ite_tt (chain_last (thn (hc pins s3 σ H3 _ I3 q3) λw' s4 ⟨z',H4,I4,r4,q4⟩=>ng pins s4 σ H4 y z' u w' Q I4 r2 r4 q4))
def b2F(ho:OpR X (cA op) r)(ng:OpR X (cA oK) r')(ha:PE X a ta)(hb:PE X b tb)(hc:PE X c tc)
    (hm:Ac [op,oK] [b,c]=false:=by with_unfolding_all rfl):PT X (.Compare a [op,oK] [b,c] pos) (b7L (b2D r r' ta tb tc)):=by
  intro pins s σ H Q I h;refine isTrue_chain (thn (ha pins s σ H _ I h) λv s1 ⟨x,H1,I1,r1,q1⟩=>test_link (thn (hb pins s1 σ H1 _ I1 q1) λu s2 ⟨y,H2,I2,r2,q2⟩=>
    thn (ho pins s2 σ H2 x y v u _ I2 r1 r2 q2) λd s3 ⟨z,H3,I3,r3,k,e,q3⟩=>?_)) hm
  subst e;cases r3
  refine eF ?_;cases k with
  |false=>
    obtain⟨k',e',q'⟩:=q3;cases e'
    exact ite_ff ⟨H3,I3,q'⟩
  |true=>
    refine ite_tt (test_last (thn (hc pins s3 σ H3 _ I3 q3) λw' s4 ⟨z',H4,I4,r4,q4⟩=>thn (ng pins s4 σ H4 y z' u w' _ I4 r2 r4 q4) λd' s5 ⟨z2,H5,I5,r5,k2,e2,q5⟩=>?_));subst e2;cases r5
    exact eF ⟨H5,I5,q5⟩
def b5E(K:af)(x:V)(H:Hp)(k:Bool):Prop:=
  match x with
  |.non=>k=false
  |.bl b=>k=b
  |.int i=>k=(i !=0)
  |.str y=>y.length≤a_∧k=((y.length:Int)!=0)
  |.byt y=>y.size≤a_∧k=((y.size:Int)!=0)
  |.ref p=>(∃xs,SqL K H p xs∧k=!xs.isEmpty)∨(∃xs,SqT K H p xs∧k=!xs.isEmpty)∨∃kvs,H p=xn (.dK kvs)∧k=!kvs.isEmpty
  |_=>False
def a7R{κ:Type}{kvs:List (κ×V)}{vs:List (κ×aj)}(r:KV kvs vs):(!vs.isEmpty)=!kvs.isEmpty:=by
  cases r<;>rfl
def a2U{xs:List V}{its:List aj}(r:Vals xs its):(!its.toArray.isEmpty)=!xs.isEmpty:=by
  cases r<;>simp
def a2V:(a_:Nat)<2^63:=by rw[dg];decide
def b2G:c2k X (λx H Q=>∃k,b5E X.K x H k∧Q k H):=by
  intro pins s σ H x v Q I rx h;obtain⟨k,e,q⟩:=h;have hl:=a2V;have hs:a_=16777216:=dg;cases x with
  |non=>
    cases rx
    have e':k=false:=e;subst e';exact truthy_none ⟨H,I,q⟩
  |bl b=>
    cases rx
    have e':k=b:=e;subst e';exact eF ⟨H,I,q⟩
  |int i=>
    obtain⟨t,rfl⟩:=rx;have e':k=(i !=0):=e;subst e';exact PySem.P.truthy_int ⟨H,I,q⟩
  |str y=>
    obtain⟨t,rfl⟩:=rx;obtain⟨hy,e'⟩:y.length≤a_∧k=((y.length:Int)!=0):=e;subst e';exact PySem.P.truthy_str (by omega) ⟨H,I.tok _,q⟩
  |byt y=>
    obtain⟨t,rfl⟩:=rx;obtain⟨hy,e'⟩:y.size≤a_∧k=((y.size:Int)!=0):=e;subst e';exact PySem.W.truthy_bytes (by omega) ⟨H,I.tok _,q⟩
  |ref p=>
    cases rx
    have e':(∃xs,SqL X.K H p xs∧k=!xs.isEmpty)∨(∃xs,SqT X.K H p xs∧k=!xs.isEmpty)∨∃kvs,H p=xn (.dK kvs)∧k=!kvs.isEmpty:=e;rcases e' with⟨xs,hx,e'⟩|⟨xs,hx,e'⟩|⟨kvs,hx,e'⟩
    · subst e'
      obtain⟨its,r,pl,hz⟩:=I.list hx;have hlen:=r.length;exact wpAny_truthy_list pl.isList (by simp only[bp];omega) ⟨H,I.tok _,by rw[a2U r];exact q⟩
    · subst e'
      obtain⟨its,r,pl,hz⟩:=I.tuple hx;have hlen:=r.length;exact truthy_tuple pl (by simp only[bp];omega) ⟨H,I.tok _,by rw[a2U r];exact q⟩
    · subst e'
      obtain⟨hz,hS,vs,r,m⟩:kvs.length≤a_∧(p==dq)=false∧∃vs,KV kvs vs∧s.heap.DictOf (a5k X.prog X.w) p vs:=I.hok p _ hx;have hlen:kvs.length=vs.length:=gy r;exact wpAny_truthy_dict hS m (by omega) ⟨H,I.tok _,by rw[a7R r];exact q⟩
  |_=>exact (show False from e).elim
def b2H(ha:PE X a ta)(he:∀whole,BZ a X.env whole=(do let v ←whole;standAt a.pos;holding [v] (truthy v))) :
    PT X a (λσ H Q=>ta σ H λx H'=>∃k,b5E X.K x H' k∧Q k H'):=by
  intro pins s σ H Q I h;exact isTrue_plain (thn (ha pins s σ H _ I h) λv s1 ⟨x,H1,I1,r1,q1⟩=>b2G pins s1 σ H1 x v Q I1 r1 q1) (he _)
def vals1(r:Vals [x] us):∃u,us=[u]∧RelV x u:=by
  cases r with
  |cons r1 r2=>cases r2;exact⟨_,rfl,r1⟩
def vals2(r:Vals [x,y] us):∃u w',us=[u,w']∧RelV x u∧RelV y w':=by
  cases r with
  |cons r1 r2=>
    cases r2 with
    |cons r3 r4=>cases r4;exact⟨_,_,rfl,r1,r3⟩
def b0J(hc:X.calm=true):CallR X (.builtin "max") (λxs H Q=>∃i j,xs=[.int i,.int j]∧Q (.int (if j>i then j else i)) H):=by
  intro pins s σ H xs us Q I r h;obtain⟨i,j,rfl,q⟩:=h;obtain⟨u,w',rfl,⟨t,rfl⟩,⟨t',rfl⟩⟩:=vals2 r;refine max_two_ints (I.ok.hd hc) λh' tk k=>⟨_,H,I.kept k,?_,q⟩
  by_cases hj:j>i
  · rw[aB hj,aB hj];exact⟨_,rfl⟩
  · rw[aJ hj,aJ hj];exact⟨_,rfl⟩
end
structure ObjM (h:cR) (x dx C:aw) (mA:bE→Option aj):Prop where
  obj:h.get? x=xn (oW C dx)
  ns:h.Ns1 dx mA
  ne:dx≠x
def b0K{h:cR}(n:h.Ns1 dx mA):∃od,h.get? dx=xn od∧∀name,pY name od=xn (mA name):=by
  obtain⟨o,es,ep,ho,hd,hk,_,hm⟩:=n;refine⟨o,ho,λname=>?_⟩;have e:=hm name;unfold nsFind findBy at e;rw[←Array.find?_toList]at e;unfold pY;rw[hd]
  dsimp only
  split
  · rename_i y q
    rw[q]at e;exact dB xn e
  · rename_i q
    rw[q]at e;have a:es.toList.any (·.refKey)=false:=by
      rw[et];intro y hy;obtain⟨z,t,nR⟩:=hk y (iX.mp hy);simp[gX.refKey,nR]
    have a':¬ es.toList.any (·.refKey)=true:=by rw[a];exact cj
    rw[aJ a'];exact dB xn e
def ObjM.look(I:ObjM h x dx C mA):∃od,PySem.W.InstAt h x (oW C dx) C (xn od)∧∀name,pY name od=xn (mA name):=
  let⟨od,ho,hl⟩:=b0K I.ns
  ⟨od,⟨I.obj,rfl,rfl,ho⟩,hl⟩
section
variable {P:bw}{w:b_}{H H':Hp}{h h':cR}{a C dx:aw}{fs jE:List (bE×V)}
def b5F(hok:HOk P w H h)(e:H a=xn (.ins C dx fs)):∃mA,ObjM h a dx C mA∧(∀f,b8i (fs.lookup f) (mA f))∧PySem.Within mA (fs.map (·.1))∧fs.length≤1000∧H dx=xn (.own a):=by
  obtain⟨d,z,ne,ob,mA,n,r,q⟩:=(show ObjOk P w H h a (.ins C dx fs) from hok a _ e);exact⟨mA,⟨ob,n,ne⟩,r,q,z,d⟩
end
structure Cls (K:af) (C:aw):Prop where
  pg:EI K C bE.empty=true
  hd:PySem.W.hasDictIn K C=true
  po:PySem.W.plainOver K C=true
  sa:jL K (.ref C) "__setattr__"=xn (xn (.builtin "object.__setattr__"))
def Cls.get{K:af}{C:aw}(c:Cls K C)(f:bE):EI K C f=true:=c.pg
structure Con (K:af) (C:aw) (f:bE) (v:V) (u:aj):Prop where
  at_:jL K (.ref C) f=xn (xn u)
  rel:RelV v u
  get:Bm K u "__get__"=xn xI
  cp:PySem.W.copiedNames.contains f=false
structure Meth (K:af) (C:aw) (m:bE) (f:aw):Prop where
  at_:jL K (.ref C) m=xn (xn (.ref f))
  fn:PySem.W.isFn K (.ref f)=true
  kp:fP K (.ref f)=true
section
variable {X:Cx}{pins:List (aw×fY)}{σ:St}{H:Hp}{s:au}{A:bQ}{E:aj→au→Prop}{Q:aj→au→Prop}{c:aj}{b:Bool}
inductive TyOf (K:af) (H:Hp):V→aj→Prop where
  |non:TyOf K H .non (.type "NoneType")
  |bl (x:Bool):TyOf K H (.bl x) (.type "bool")
  |int (i:Int):TyOf K H (.int i) (.type "int")
  |str (x:bE):TyOf K H (.str x) (.type "str")
  |flt (x:UInt64):TyOf K H (.flt x) (.type "float")
  |lst {a:aw} {xs:List V} (e:H a=xn (.lst xs)):TyOf K H (.ref a) (.type "list")
  |frz {a:aw} {o:fY} {xs:List V} (e:H a=xn (.frz o (.lst xs))):TyOf K H (.ref a) (.type "list")
  |tup {a:aw} {xs:List V} (e:H a=xn (.tup xs)):TyOf K H (.ref a) (.type "tuple")
  |dK {a:aw} {kvs:List (Key×V)} (e:H a=xn (.dK kvs)):TyOf K H (.ref a) (.type "dict")
  |dT {a:aw} {kvs:List (List Key×V)} (e:H a=xn (.dT kvs)):TyOf K H (.ref a) (.type "dict")
  |ins {a C dx:aw} {fs:List (bE×V)} (e:H a=xn (.ins C dx fs)) (cl:Cls K C) (ha:jL K (.ref C) "__class__"=xn (xn (.builtin "object.__class__")))
      (hn:Bm K (.builtin "object.__class__") "__get__"=xn (xn (.builtin "getset_descriptor.__get__"))) (Am:PySem.W.takesIn K (.builtin "object.__class__")=xn true)
      (hm:PySem.W.mroIn K C (.type "object")=xn true):TyOf K H (.ref a) (.ref C)
def b0L(I:Inv X pins σ H s)(rx:RelV x u)(ty:TyOf X.K H x t)(e:fO X.K t c=xn b)(h:∀tk,Q (.bool b) {s with toks:=tk}) :
    aX (aY X.prog X.w) A (call (.builtin "isinstance") [u,c]) Q E s:=by
  cases ty with
  |non=>cases (show u=bt from rx);exact cZ PySem.W.kitx_none I.kIn jK e (λz=>nomatch z) h
  |bl y=>cases (show u=mj y from rx);exact cZ PySem.W.kitx_bool I.kIn jK e (λz=>nomatch z) h
  |int i=>obtain⟨t,q⟩:=(show ∃t,u=jw i t from rx);cases q;exact cZ PySem.W.kitx_int I.kIn jK e (λz=>nomatch z) h
  |str y=>obtain⟨t,q⟩:=(show ∃t,u=rd y t from rx);cases q;exact cZ PySem.W.kitx_str I.kIn jK e (λz=>nomatch z) h
  |flt y=>obtain⟨t,q⟩:=(show ∃t,u=aj.float y t from rx);cases q;exact cZ PySem.W.kitx_float I.kIn jK e (λz=>nomatch z) h
  |@lst a xs ea=>
    cases (show u=bH a from rx)
    obtain⟨_,_,n,_,h1⟩:=(show ObjOk X.prog X.w H s.heap a (.lst xs) from I.hok a _ ea);exact cZ nv I.kIn ⟨_,h1,rfl⟩ e (λz=>nomatch z) h
  |@frz a ob xs ea=>
    cases (show u=bH a from rx)
    obtain⟨_,_,_,n,_,h1⟩:=(show ObjOk X.prog X.w H s.heap a (.frz ob (.lst xs)) from I.hok a _ ea);exact cZ nv I.kIn ⟨_,h1,rfl⟩ e (λz=>nomatch z) h
  |@tup a xs ea=>
    cases (show u=bH a from rx)
    obtain⟨_,_,_,p⟩:=(show ObjOk X.prog X.w H s.heap a (.tup xs) from I.hok a _ ea);obtain⟨o,h1,h2,_⟩:=p;exact cZ zG I.kIn ⟨o,h1,h2⟩ e (λz=>nomatch z) h
  |@dK a kvs ea=>
    cases (show u=bH a from rx)
    obtain⟨_,_,vs,_,p⟩:=(show ObjOk X.prog X.w H s.heap a (.dK kvs) from I.hok a _ ea);obtain⟨o,es,ep,h1,h2,_⟩:=p;exact cZ ny I.kIn ⟨o,h1,h2.1⟩ e (λz=>nomatch z) h
  |@dT a kvs ea=>
    cases (show u=bH a from rx)
    obtain⟨_,_,xs,_,o,es,ep,h1,h2,_⟩:=(show ObjOk X.prog X.w H s.heap a (.dT kvs) from I.hok a _ ea);exact cZ ny I.kIn ⟨o,h1,h2.1⟩ e (λz=>nomatch z) h
  |@ins a C dx fs ea cl ha hn Am hm=>
    cases (show u=bH a from rx)
    obtain⟨mA,O,_⟩:=b5F I.hok ea;obtain⟨od,J,_⟩:=O.look;exact cZ (PySem.W.kitx_own (cl.get _) cl.hd ha hn Am hm) I.kIn J e (λz=>nomatch z) h
end
structure Room (k:Nat) (A:bQ):Prop where
  hd:A.handled=xI
  dp:A.depth+3*k+5<recursionLimit
  un:A.units+16*k+200<dF
def Room.mono(r:Room k A)(h:j≤k):Room j A:=⟨r.hd,by have:=r.dp;omega,by have:=r.un;omega⟩
theorem Room.deeper(r:Room (k+1) A)(env:oe):Room k (A.deeper env):=
  ⟨r.hd,by have:=r.dp;show A.depth+1+3*k+5<_;omega,by have:=r.un;show A.units+3+16*k+200<_;omega⟩
theorem Room.in1(r:Room (k+1) A):Room k A.in1:=
  ⟨r.hd,by have:=r.dp;show A.depth+3*k+5<_;omega,by have:=r.un;show A.units+1+16*k+200<_;omega⟩
theorem Room.depth(r:Room k A):A.depth<recursionLimit:=by have:=r.dp;omega
theorem Room.units(r:Room k A):A.units+64<dF:=by have:=r.un;omega
def b2I:TA:=λ_ H Q=>Q [] H
def a6z(ta:TE)(tr:TA):TA:=λσ H Q=>ta σ H λx H1=>tr σ H1 λxs H2=>Q (x::xs) H2
section
variable {X:Cx}{e:Expr}{es:List Expr}{te:TE}{t:TA}{pos:fM}
def p5:PA X [] b2I:=λ_ _ _ _ H Q I h=>Calls.spliced_nil ⟨[],H,I,.nil,h⟩
def k8(ha:PE X e te)(hr:PA X es t)(hs:ar (e::es) X.env=(false,cK e X.env)::ar es X.env:=by rfl):PA X (e::es) (a6z te t):=by
  intro pos pins s σ H Q I h;rw[hs];show aX _ _ (spliced ((false,cK e X.env)::cB pos (ar es X.env))) _ _ s;refine Calls.spliced_cons (thn (ha pins s σ H _ I h) λu s1 ⟨x,H1,I1,r1,q1⟩=>?_);exact thn (hr pos pins s1 σ H1 _ I1 q1) λus s2 ⟨xs,H2,I2,r2,q2⟩=>⟨x::xs,H2,I2,.cons r1 r2,q2⟩
def c2n(t:TA):TE:=λσ H Q=>t σ H λxs H1=>xs.length≤a_∧∀p,H1 p=xI→Q (.ref p) (upd H1 p (.tup xs))
def c2o(t:TA):TE:=λσ H Q=>t σ H λxs H1=>xs.length≤a_∧∀p,H1 p=xI→Q (.ref p) (upd H1 p (.lst xs))
def a7S{x1}(h:PA X es t):PE X (.Tuple es x1 pos) (c2n t):=by
  intro pins s σ H Q I hq;refine wpAny_Tuple_spliced (thn (h pos pins s σ H _ I hq) λus s1 ⟨xs,H1,I1,r,z,q⟩=>⟨by rw[←r.length];exact z,?_⟩);have hf:H1 s1.heap.objs.size=xI:=I1.hok.fresh (ay _);refine⟨.ref s1.heap.objs.size,upd H1 s1.heap.objs.size (.tup xs),I1.laid (t':=s1.toks) (λb u e=>aE _ e) (ay _) ?_,rfl,q _ hf⟩;exact⟨z,us,r,⟨_,be _ rfl,rfl,_,rfl⟩⟩
def b8E(h:PA X es t):PE X (.List es pos) (c2o t):=by
  intro pins s σ H Q I hq;refine wpAny_List_spliced (thn (h pos pins s σ H _ I hq) λus s1 ⟨xs,H1,I1,r,z,q⟩=>⟨by rw[←r.length];exact z,?_⟩);have hf:H1 s1.heap.objs.size=xI:=I1.hok.fresh (ay _);refine⟨.ref s1.heap.objs.size,upd H1 s1.heap.objs.size (.lst xs),I1.laid (t':=s1.toks) (λb u e=>aE _ e) (ay _) ?_,rfl,q _ hf⟩;exact⟨z,us,0,r,be _ rfl⟩
end
abbrev Sp:=List V→Hp→VK→XK→Prop
abbrev CXT:=List oe→Hp→au→XK→aj→au→Prop
structure Env0 (P:bw) (w:b_) (K:af) (mg:bE→Option aj) (base:cR) (A:bQ) (outer:List oe) (s:au) (H:Hp):Prop where
  frames:A.frames=xn outer
  mod:Mod K mg base
  bs:∀b o,base.get? b=xn o→s.heap.get? b=xn o∧H b=xI
  bsz:base.objs.size≤s.heap.objs.size
  funs:s.heap.FunFrames base outer
  frf:∀b∈frs outer,H b=xI
  hok:HOk P w H s.heap
  bare:oH s.gens
  tabs:TabsIn K H
def CE(outer:List oe)(P:bw)(w:b_)(H:Hp)(s:au)(Q:VK)(u:aj)(s':au):Prop:=
  ∃v H',s'.os=s.os∧oH s'.gens∧Un (frs outer) [] H H' s.heap s'.heap∧HOk P w H' s'.heap∧RelV v u∧Q v H'
def CR(CX:CXT)(outer:List oe)(P:bw)(w:b_)(H:Hp)(s:au)(Q:VK)(E:XK)(r:Result)(s':au):Prop:=
  match r with
  |.ok (.ret u)=>CE outer P w H s Q u s'
  |.ok _=>False
  |.error e=>CX outer H s E e s'
structure FnOk (P:bw) (w:b_) (K:af) (mg:bE→Option aj) (base:cR) (CX:CXT) (k:Nat) (f:aw) (fd:dR) (ps:List bE) (sp:Sp):Prop where
  len:∀vs H Q E,sp vs H Q E→vs.length=ps.length
  run:∀(A:bQ) (outer:List oe) (s:au) (H:Hp) (args:Args) (us:List aj) (vs:List V) (Q:VK) (E:XK),Room k A→Env0 P w K mg base A outer s H→nK s fd args (ps.zip us)→Vals vs us→sp vs H Q E→
    gR (aY P w) A (.call (.ref f) args) (CR CX outer P w H s Q E) s
theorem FnOk.mono{P:bw}{w:b_}{K:af}{mg:bE→Option aj}{base:cR}{CX:CXT}{j k:Nat}{f:aw}{fd:dR}{ps:List bE}{sp:Sp}(F:FnOk P w K mg base CX j f fd ps sp)(h:j≤k) :
    FnOk P w K mg base CX k f fd ps sp:=⟨F.len,λA outer s H args us vs Q E hr=>F.run A outer s H args us vs Q E (hr.mono h)⟩
theorem Env0.in1{P:bw}{w:b_}{K:af}{mg:bE→Option aj}{base:cR}{A:bQ}{outer:List oe}{s:au}{H:Hp}(e:Env0 P w K mg base A outer s H) :
    Env0 P w K mg base A.in1 outer s H:=⟨e.frames,e.mod,e.bs,e.bsz,e.funs,e.frf,e.hok,e.bare,e.tabs⟩
section
variable {X:Cx}{pins:List (aw×fY)}{σ:St}{H:Hp}{s s':au}
def Inv.env0(I:Inv X pins σ H s):Env0 X.prog X.w X.K X.mg X.base X.A X.stack s H:=
  ⟨I.ok.frames,I.ok.mod,I.bs,cC I.ok.bsz I.sz,I.stack,I.stkFree,I.hok,I.bare,I.tabs⟩
def Inv.after(I:Inv X pins σ H s)(h:CE X.stack X.prog X.w H s Q u s'):EP X pins σ Q u s':=by
  obtain⟨v,H',os,bare,un,hok,r,q⟩:=h;obtain⟨hh,g,d,t,BQ⟩:=s';obtain rfl:BQ=s.os:=os;exact⟨v,H',I.call (h':=hh) (g':=g) (d':=d) (t':=t) (ch:=[]) un hok bare (λb z=>absurd z (by simp)),r,q⟩
end
def b7M(sp:Sp)(rS:List V)(E:XK)(t:TA):TE:=λσ H Q=>t σ H λvs H1=>sp (vs++rS) H1 Q E
def Binds(K:af)(fd:dR)(ps:List bE)(ds:List aj):Prop:=
  ∀(s:au) (us:List aj),K.In s.heap→(us++ds).length=ps.length→nK s fd ⟨us,[]⟩ (ps.zip (us++ds))
def Binds.all{K:af}{fd:dR}{ps:List bE}(h:∀us:List aj,us.length=ps.length→pX fd ⟨us,[]⟩=pure (ps.zip us)):Binds K fd ps []:=λs us _ hl=>by
  rw[bg]at hl ⊢;exact .of_eq (h us hl)
def a7T(CX:CXT)(X:Cx)(E:XK):Prop:=∀(pins:List (aw×fY)) (σ:St) (H:Hp) (s:au) (e:aj) (s':au),Inv X pins σ H s→CX X.stack H s E e s'→X.xe e s'
section
variable {X:Cx}{CX:CXT}{k:Nat}{f C:aw}{fd:dR}{ps:List bE}{sp:Sp}{rS:List V}{ds:List aj}{E:XK}{x m:bE}{p pos apos:fM}{e o:Expr}{es:List Expr}{ta:TE}{t:TA}
def b8F(F:FnOk X.prog X.w X.K X.mg X.base CX k f fd ps sp)(hr:Room k X.A)(hb:Binds X.K fd ps ds)(hd:Vals rS ds)(hx:a7T CX X E)
    (I:Inv X pins σ H s) (r:Vals vs us) (h:sp (vs++rS) H Q E):aX (aY X.prog X.w) X.A (call (.ref f) us) (EP X pins σ Q) X.xe s:=by
  have r2:Vals (vs++rS) (us++ds):=r.append hd;have hl:(us++ds).length=ps.length:=by rw[←r2.length];exact F.len _ _ _ _ h
  refine uD (gQ (F.run X.A X.stack s H ⟨us,[]⟩ (us++ds) (vs++rS) Q E hr I.env0 (hb s us I.kIn hl) r2 h) λr s' hq=>?_);cases r with
  |error e=>exact hx pins σ H s e s' I hq
  |ok fl=>
    cases fl with
    |ret u=>exact I.after hq
    |next=>exact cJ hq
    |brk=>exact cJ hq
    |cont=>exact cJ hq
def b5G(F:FnOk X.prog X.w X.K X.mg X.base CX k f fd ps sp)(hr:Room k X.A)(hg:Gl X x)(hm:X.mg x=xn (.ref f))(hk:fP X.K (.ref f)=true)(hb:Binds X.K fd ps ds)(hd:Vals rS ds)(hx:a7T CX X E)
    (ha:PA X (e::es) t) (lS:(x==("__debug__":bE))=false:=by decide) (he:ar (e::es) X.env=(false,cK e X.env)::ar es X.env:=by rfl) (gE:(cB pos (ar es X.env)).any (·.1)=false:=by rfl) :
    PE X (.Call (.Name x p) (e::es) [] pos) (b7M sp rS E t):=by
  intro pins s σ H Q I h;refine gq (a5n I hg hm ?_ lS);refine zH (h₀:=X.base) I.ok.mod.kin hk (thn (ha pos pins s σ H _ I h) λus s1 ⟨vs,H1,I1,r,q⟩=>⟨I1.kIn,?_⟩) he gE;exact b8F F hr hb hd hx I1 r q
structure Mk (K:af) (C f:aw):Prop where
  makes:PySem.W.makesIn K C=true
  init:jL K (.ref C) "__init__"=xn (xn (.ref f))
  fn:PySem.W.isFn K (.ref f)=true
  kp:fP K (.ref C)=true
end
def PK(X:Cx)(uM:List eB)(t:TA):Prop:=
  ∀(pos:fM) (pins:List (aw×fY)) (s:au) (σ:St) (H:Hp) (Q:List V→Hp→Prop),Inv X pins σ H s→t σ H Q→aX (aY X.prog X.w) X.A (evalAll ((eK pos (dh uM X.env)).map (·.2))) (AP X pins σ Q) X.xe s
section
variable {X:Cx}{CX:CXT}{k:Nat}{f C:aw}{fd:dR}{ps ks:List bE}{sp:Sp}{E:XK}{x m:bE}{p pos apos lx:fM}{e o:Expr}{es:List Expr}{uM:List eB}{te ta:TE}{t tk:TA}{nm:Option bE}
def b8G:PK X [] b2I:=λ_ _ _ _ H Q I h=>wpAny_evalAll_nil ⟨[],H,I,.nil,h⟩
def b5H(ha:PE X e te)(hr:PK X uM t):PK X (⟨nm,e,lx⟩::uM) (a6z te t):=by
  intro pos pins s σ H Q I h;show aX _ _ (evalAll ((do let v ←cK e X.env;standAt pos;pure v)::(eK pos (dh uM X.env)).map (·.2))) _ _ s;refine wpAny_evalAll_cons (ae (thn (ha pins s σ H _ I h) λu s1 ⟨x,H1,I1,r1,q1⟩=>ae (xx (aC ?_))));exact thn (hr pos pins s1 σ H1 _ I1 q1) λus s2 ⟨xs,H2,I2,r2,q2⟩=>⟨x::xs,H2,I2,.cons r1 r2,q2⟩
structure KBinds (K:af) (fd:dR) (ps ks:List bE) (g:List aj→List aj→List aj) (gV:List V→List V→List V):Prop where
  to:∀(s:au) (us ws:List aj),K.In s.heap→(g us ws).length=ps.length→nK s fd ⟨us,ks.zip ws⟩ (ps.zip (g us ws))
  rel:∀{vs:List V} {us:List aj} {zs:List V} {ws:List aj},Vals vs us→Vals zs ws→Vals (gV vs zs) (g us ws)
variable {g:List aj→List aj→List aj}{gV:List V→List V→List V}
end
structure FnScope (N P:List bE) (sc:gk):Prop where
  kind:sc.kind=.function
  co:sc.isCoroutine=false
  gen:sc.isGenerator=false
  nd:N.Nodup
  pre:N.take P.length=P
  par:∀x∈P,sc.names.lookup x=xn .local∨sc.names.lookup x=xn .cell
  nofree:∀y∈sc.names,y.2≠.free
theorem a4B{kindOf:bE→Option iU}{x:bE}:∀{binds:List (bE×aj)} {m:bE→Option aj},(∀v,(x,v)∉binds)→Bh kindOf binds m x=m x
  |[],_,_=>rfl
  | (n,v)::r,m,h=>by
    unfold Bh;rw[a4B λw hw=>h w (av _ hw)]
    split
    · have:x≠n:=by rintro rfl;exact h v aK
      simp[this]
    · rfl
theorem a4C{kindOf:bE→Option iU}{x:bE}:∀{binds:List (bE×aj)} {m:bE→Option aj},(∀v,(x,v)∉binds)→Bi kindOf binds m x=m x
  |[],_,_=>rfl
  | (n,v)::r,m,h=>by
    unfold Bi;rw[a4C λw hw=>h w (av _ hw)]
    split
    · rfl
    · have:x≠n:=by rintro rfl;exact h v aK
      simp[this]
theorem a4D{kindOf:bE→Option iU}{x:bE}{v:aj}:∀{P:List bE} {vs:List aj} {i:Nat} {m:bE→Option aj},P.Nodup→P[i]?=xn x→vs[i]?=xn v→kindOf x=xn .local→
    Bh kindOf (P.zip vs) m x=xn v
  |[],_,_,_,_,h,_,_=>by simp at h
  |_::_,[],_,_,_,_,h,_=>by simp at h
  |p::P,w::vs,0,m,nd,h1,h2,hk=>by
    simp at h1 h2;subst h1;subst h2
    show Bh kindOf ((p,w)::P.zip vs) m p=_;unfold Bh;rw[a4B λv hv=>(bV.mp nd).1 (jh hv).1,aB hk];simp
  |p::P,w::vs,i+1,m,nd,h1,h2,hk=>by
    show Bh kindOf ((p,w)::P.zip vs) m x=_;unfold Bh;exact a4D (i:=i) (bV.mp nd).2 (by simpa using h1) (by simpa using h2) hk
theorem a4E{kindOf:bE→Option iU}{x:bE}{v:aj}:∀{P:List bE} {vs:List aj} {i:Nat} {m:bE→Option aj},P.Nodup→P[i]?=xn x→vs[i]?=xn v→kindOf x≠xn .local→
    Bi kindOf (P.zip vs) m x=xn v
  |[],_,_,_,_,h,_,_=>by simp at h
  |_::_,[],_,_,_,_,h,_=>by simp at h
  |p::P,w::vs,0,m,nd,h1,h2,hk=>by
    simp at h1 h2;subst h1;subst h2
    show Bi kindOf ((p,w)::P.zip vs) m p=_;unfold Bi;rw[a4C λv hv=>(bV.mp nd).1 (jh hv).1,aJ hk];simp
  |p::P,w::vs,i+1,m,nd,h1,h2,hk=>by
    show Bi kindOf ((p,w)::P.zip vs) m x=_;unfold Bi;exact a4E (i:=i) (bV.mp nd).2 (by simpa using h1) (by simpa using h2) hk
def start(N:List bE)(vs:List V):St:=vs.map xn++aT (N.length-vs.length) xI
def a0H(CX:CXT)(P:bw)(w:b_)(K:af)(mg:bE→Option aj)(base:cR)(N:List bE)(qual:bE)(scope:gk)(f:aw)(cd:aj)(A:bQ)(outer:List oe)(s:au)(H:Hp)(E:XK):Cx where
  prog:=P
  w:=w
  K:=K
  mg:=mg
  base:=base
  A:=A.deeper (jo qual scope s.heap.objs.size f cd)
  N:=N
  s₀:=s
  H₀:=H
  env:=jo qual scope s.heap.objs.size f cd
  outer:=outer
  stack:=jo qual scope s.heap.objs.size f cd::outer
  ex:=[]
  calm:=true
  fn:=λ_=>true
  pn:=[]
  xe:=λe s'=>aX (aY P w) (A.deeper (jo qual scope s.heap.objs.size f cd)) (leaving (jo qual scope s.heap.objs.size f cd) e) (λ_ uF=>CX outer H s E e uF) (λe' uF=>CX outer H s E e' uF) s'
def a6A{sc:gk}(h:sc.names.lookup x=xn .cell):∃c,(cellsFrom n sc.names []).lookup x=xn c:=by
  have q:=tx sc.names n [] (.inl h);exact kn.mp q
def b0M{CX:CXT}{P:bw}{w:b_}{K:af}{mg:bE→Option aj}{base:cR}{N ps:List bE}{qual:bE}{scope:gk}{f:aw}{cd:aj}{A:bQ}{outer:List oe}{s s1:au}{H:Hp}{E:XK}{us:List aj}{vs:List V}
    (S:FnScope N ps scope) (hd:A.handled=xI) (e0:Env0 P w K mg base A outer s H) (hl:vs.length=ps.length) (r:Vals vs us)
    (x:InCallC s s.heap.objs.size (Bh (jo qual scope s.heap.objs.size f cd).kindOf (ps.zip us) λ_=>xI) (cellsFrom (s.heap.objs.size+1) scope.names []) (Bi (jo qual scope s.heap.objs.size f cd).kindOf (ps.zip us) λ_=>xI) s1) :
    Inv (a0H CX P w K mg base N qual scope f cd A outer s H E) [] (start N vs) H s1:=by
  have gE:ps.length≤N.length:=by have:=dB dY S.pre;rw[dX]at this;omega
  obtain⟨h1,tk,rfl,hk⟩:=x.done;have si:∀b:aw,b∉(a0H CX P w K mg base N qual scope f cd A outer s H E).ex:=λb z=>absurd (show b∈([]:List aw) from z) (by simp)
  refine⟨⟨e0.mod,S.kind,rfl,rfl,ay _,λy z c h1 h2=>?_,λy hy=>?_,λy c _ h=>?_,λ_=>hd,bQ.frames_deeper e0.frames,.inr ⟨rfl,rfl⟩,λb z=>absurd z (si b),e0.bs,e0.bsz,λb _ _=>si b,λb z=>absurd z (si b),e0.funs,e0.frf,e0.tabs⟩,
    rfl,e0.bare,Un.kept hk,⟨_,x.toInCall.ns,λi y v h1 h2 h3=>?_⟩,λy c h=>⟨_,x.cell y c h⟩,e0.hok.fresh (ay _),λy c h=>?_,λp hp=>absurd (show p∈([]:List (aw×fY)) from hp) (by simp),e0.hok.kept hk,?_⟩
  · exact name_of_addr x.apart (cy h1) (cy h2)
  · have hy:scope.names.lookup y=xn .cell∨scope.names.lookup y=xn .free:=hy
    rcases hy with hy|hy
    · exact a6A hy
    · exact absurd rfl (S.nofree _ (cy hy))
  · exact eV (x.above y c (cy h))
  · have hi:i<vs.length:=by
      unfold start at h2;by_cases hi:i<vs.length
      · exact hi
      · rw[cQ (by simpa using hi)]at h2
        rw[r_]at h2
        split at h2<;>cases h2
    have ha:vs[i]?=xn v:=by
      unfold start at h2;rw[dI (by simpa using hi),aR]at h2;cases e:vs[i]? with
      |none=>rw[e]at h2;cases h2
      |some a=>rw[e]at h2;cases h2;rfl
    obtain⟨u,hu,rv⟩:=r.get ha;have hp:ps[i]?=xn y:=by
      rw[←S.pre,kr (by omega)];exact h1
    have zZ:ps.Nodup:=by rw[←S.pre];exact S.nd.sublist (List.take_sublist _ _)
    refine⟨u,rv,?_⟩;rcases S.par y (br hp) with k|k
    · exact .inl ⟨k,a4D zZ hp hu k⟩
    · obtain⟨c,e⟩:=a6A (n:=s.heap.objs.size+1) k
      refine .inr ⟨.inl k,c,e,?_⟩;have q:=x.cell y c e;rw[a4E zZ hp hu (by show scope.names.lookup y≠_;rw[k];decide)]at q;exact q
  · exact e0.hok.fresh (eV (x.above y c (cy h)))
  · unfold start
    show _=N.length;rw[az,ai,gh];omega
def b7N{CX:CXT}{P:bw}{w:b_}{K:af}{mg:bE→Option aj}{base:cR}{k:Nat}{f:aw}{name qual:bE}{params:lZ}{body:List iy}{scope:gk}{dV kV doc pm gr ct oc:aj}{an od:Option aw}
    {oJ:Array (Option aj)} {N ps:List bE} {sp:Sp} (lk:K.lookup f=xn ⟨oc,od,.func (fT name qual params body scope dV kV doc pm an gr ct),oJ⟩) (iF:lW K gr qual=true) (S:FnScope N ps scope)
    (len:∀vs H Q E,sp vs H Q E→vs.length=ps.length)
    (pS:∀(A:bQ) (outer:List oe) (s:au) (H:Hp) (vs:List V) (Q:VK) (E:XK),Room k (A.deeper (jo qual scope s.heap.objs.size f gr))→sp vs H Q E→
      ∃t,PSs (a0H CX P w K mg base N qual scope f gr A outer s H E) body t∧t {nx:=λ_ H'=>Q .non H',rt:=Q} (start N vs) H) :
    FnOk P w K mg base CX (k+1) f (fT name qual params body scope dV kV doc pm an gr ct) ps sp:=by
  refine⟨len,λA outer s H args us vs Q E hr e0 hb r pI=>?_⟩;have hl:=len _ _ _ _ pI;have KX:K.In s.heap:=e0.mod.kin.keeps λb o e=>(e0.bs b o e).1
  have lim:s.heap.NoLimit:=e0.mod.nolimit.keeps λb o e=>(e0.bs b o e).1
  have vw:∀y∈ps.zip us,scope.names.lookup y.1=xn .local∨(scope.names.lookup y.1=xn .cell∧((cellsFrom (s.heap.objs.size+1) scope.names []).lookup y.1).isSome=true):=λ⟨n,v⟩ hy=>by
    rcases S.par n (jh hy).1 with q|q
    · exact .inl q
    · exact .inr ⟨q,tx _ _ _ (.inl q)⟩
  refine codeAny_call_function hr.depth (KX _ _ lk) rfl S.co S.gen rfl (PySem.W.codeRec_of KX iF) (hb _ _ _ _ ?_);refine wpAny_newFunctionEnv_cells S.kind vw λenv he s1 x=>?_
  subst he;refine⟨lim.keeps x.toInCall.keep,codeAny_func ?_⟩;obtain⟨t,ht,hq⟩:=pS A outer s H vs Q E (hr.deeper _) pI;have I:Inv (a0H CX P w K mg base N qual scope f gr A outer s H E) [] (start N vs) H s1:=b0M S hr.hd e0 hl r x;refine d_ (ht [] s1 (start N vs) H _ I hq) (λfl s' hs=>?_) λe s' hs=>hs
  have fin:∀{σ':St} {H':Hp} {v:V} {u:aj},Inv (a0H CX P w K mg base N qual scope f gr A outer s H E) [] σ' H' s'→RelV v u→Q v H'→CE outer P w H s Q u s':=
    λ{σ' H' v u} J rv q=>⟨v,H',J.os,J.bare,J.base,J.hok,rv,q⟩
  cases fl with
  |ret u=>
    obtain⟨v,σ',H',J,rv,q⟩:=hs;exact fin J rv q
  |next=>
    obtain⟨σ',H',J,q⟩:=hs;exact fin (v:=V.non) (u:=bt) J rfl q
  |brk=>
    obtain⟨_,_,_,q⟩:=hs;exact cJ q
  |cont=>
    obtain⟨_,_,_,q⟩:=hs;exact cJ q
section
variable {X:Cx}{x:bE}{p pos:fM}{e:Expr}{es:List Expr}{t:TA}{id T:String}{r:List V→Hp→VK→Prop}
def tCB(r:List V→Hp→VK→Prop)(t:TA):TE:=λσ H Q=>t σ H λvs H1=>r vs H1 Q
def a2W(hc:CallR X (.builtin id) r)(hg:Gl X x)(hm:X.mg x=xI)(hv:gS x=xn (.builtin id))(ha:PA X (e::es) t)(hn:x≠"__name__":=by decide)(lS:(x==("__debug__":bE))=false:=by decide)
    (he:ar (e::es) X.env=(false,cK e X.env)::ar es X.env:=by rfl) (gE:(cB pos (ar es X.env)).any (·.1)=false:=by rfl):PE X (.Call (.Name x p) (e::es) [] pos) (tCB r t):=by
  intro pins s σ H Q I h;refine gq (a0n I hg hm hv ?_ hn lS);exact PyProof.Rows.callWith_builtin1 (thn (ha pos pins s σ H _ I h) λus s1 ⟨vs,H1,I1,r1,q1⟩=>hc pins s1 σ H1 vs us Q I1 r1 q1) he gE
def Y0(hc:CallR X (.type T) r)(hg:Gl X x)(hm:X.mg x=xI)(hv:gS x=xn (.type T))(ha:PA X (e::es) t)(hn:x≠"__name__":=by decide)(lS:(x==("__debug__":bE))=false:=by decide)
    (he:ar (e::es) X.env=(false,cK e X.env)::ar es X.env:=by rfl) (gE:(cB pos (ar es X.env)).any (·.1)=false:=by rfl):PE X (.Call (.Name x p) (e::es) [] pos) (tCB r t):=by
  intro pins s σ H Q I h;refine gq (a0n I hg hm hv ?_ hn lS);exact gn (thn (ha pos pins s σ H _ I h) λus s1 ⟨vs,H1,I1,r1,q1⟩=>hc pins s1 σ H1 vs us Q I1 r1 q1) he gE
end
end L2
namespace HT
open PySem PyProof.Rows
def lexLt:List Int→List Int→Bool
  |[],[]=>false
  |[],_::_=>true
  |_::_,[]=>false
  |x::xs,y::ys=>if x=y then lexLt xs ys else decide (x<y)
def a2X(x y:Int)(xs ys:List Int):lexLt (x::xs) (y::ys)=if x=y then lexLt xs ys else decide (x<y):=rfl
def a4k:lexLt [] []=false:=rfl
def a2Y(y:Int)(ys:List Int):lexLt [] (y::ys)=true:=rfl
def a2Z(x:Int)(xs:List Int):lexLt (x::xs) []=false:=rfl
def b2J(A:bQ)(s:au)(a:Int)(t:Tok)(c:Int)(u:Tok):∃e,SeqAt.EqAt A s (.int a t) (.int c u) e∧(e=true↔a=c):=
  ⟨(a==c),SeqAt.EqAt.int_int a t c u,by simp⟩
def b2K(A:bQ)(s:au)(a:Int)(t:Tok)(c:Int)(u:Tok)(prog:bw)(w:b_)(E:aj→au→Prop)(Q:aj→au→Prop)(h:Q (.bool (decide (a<c))) s) :
    aX (aY prog w) A (richCompare .Lt (.int a t) (.int c u)) Q E s:=
  (PyProof.Rows.lt_int h:aX (aY prog w) A (cA .Lt (.int a t) (.int c u)) Q E s)
section
open PySem.SeqAt
open PySem.AutoSeq1 (wpAny_loadPart')
open PySem.MeetsSeq PySem.MeetsSeq2 PySem.MeetsSeq3
def a4l(l b:aw)(items iZ:Array aj)(n n2:Nat)(dd zy:Option aw)(sl xA:Array (Option aj))(ns ms:List Int)(hi:IntsAre items.toList ns)(hj:IntsAre iZ.toList ms) :
    Meets (Builtin.«tuple.__lt__» ⟨[.ref l,.ref b],[]⟩)
      (λ_ R s=>s.heap.get? l=xn {cls:=.type "tuple",dict:=dd,data:=.seq items n,slots:=sl}∧s.heap.get? b=xn {cls:=.type "tuple",dict:=zy,data:=.seq iZ n2,slots:=xA}∧
        R (.ok (.ret (.bool (lexLt ns ms)))) s):=
  .of_wp λprog w A R s h=>by
    obtain⟨hp,g,d,tk,os⟩:=s;obtain⟨hl,hb,h⟩:=h;have f2:=AutoSeq1.sub_tuple_tuple;have z1:items.size=ns.length:=by rw[←hi.length];simp
    have z2:iZ.size=ms.length:=by rw[←hj.length];simp
    wp_walk using wpAny_loadPart' hl,wpAny_loadPart' hb,wpAny_forIn_list _ (λrest b s'=>b.1=xI∧s'=⟨hp,g,d,tk,os⟩∧∃(vs ws:List aj) (tL tM:List Int),rest=vs.zip ws∧
      IntsAre vs tL∧IntsAre ws tM∧tL.length+iZ.size=tM.length+items.size∧R (.ok (.ret (.bool (lexLt tL tM)))) ⟨hp,g,d,tk,os⟩) _
    case turn=>
      rintro⟨y,x⟩ rest b s' ⟨uj,rfl,vs,ws,tL,tM,hz,sC,wI,hlen,hR⟩;cases sC with
      |nil=>rw[nE]at hz;cases hz
      |cons a t qL=>
        cases wI with
        |nil=>rw[mS]at hz;cases hz
        |cons c u xX=>
          rw[dt]at hz
          injection hz with xU jD
          injection xU with hy hx
          subst hy hx;rw[a2X]at hR;simp only[aV]at hlen;obtain⟨e,he,vA⟩:=b2J A.in1 ⟨hp,g,d,tk,os⟩ a t c u;refine ae (he prog w _ _ ?_);cases e with
          |true=>
            rw[aB (vA.mp rfl)]at hR
            wp_walk
            exact⟨rfl,rfl,_,_,_,_,jD,qL,xX,by omega,hR⟩
          |false=>
            rw[aJ (λq=>absurd (vA.mpr q) cj)]at hR;have Co:=b2K A.in1 ⟨hp,g,d,tk,os⟩ a t c u prog w
            wp_walk using Co
            exact⟨_,rfl,by simpa using hR⟩
    case fin=>
      rintro⟨b1,b2⟩ s' ⟨uj,rfl,vs,ws,tL,tM,hz,sC,wI,hlen,hR⟩;simp only at uj;subst uj;have hv:lexLt tL tM=decide (items.size<iZ.size):=by
        cases sC with
        |nil=>
          cases wI with
          |nil=>
            simp only[gO]at hlen;rw[a4k];exact (ba (by omega)).symm
          |cons c u hw=>
            simp only[gO,aV]at hlen;rw[a2Y];exact (aQ (by omega)).symm
        |cons a t hv=>
          cases wI with
          |nil=>
            simp only[gO,aV]at hlen;rw[a2Z];exact (ba (by omega)).symm
          |cons c u hw=>
            rw[dt]at hz;cases hz
      rw[hv]at hR
      wp_walk
      exact⟨_,rfl,by simpa[Builtin.Tuple.tupleCompareSizes]using hR⟩
    case h=>
      exact⟨rfl,rfl,items.toList,iZ.toList,ns,ms,rfl,hi,hj,by omega,h⟩
end
section
variable {prog:bw}{w:b_}{A:bQ}{E:aj→au→Prop}{s:au}
def a7U(hl:IsTup s.heap l items)(hb:IsTup s.heap b iZ)(hi:IntsAre items.toList ns)(hj:IntsAre iZ.toList ms)
    (hu:A.units<dF) (h:Q (.bool (lexLt ns ms)) s):aX (aY prog w) A (cA .Lt (.ref l) (.ref b)) Q E s:=by
  obtain⟨⟨cls,dd,data,sl⟩,ho,hc,n,hd⟩:=id hl;obtain⟨⟨EB,zy,data2,xA⟩,qw,qQ,n2,hd2⟩:=id hb;simp only at hc hd qQ hd2;subst hc hd qQ hd2;exact richCompare_meets_room (op:=.Lt) ⟨_,ho,rfl⟩ ⟨_,qw,rfl⟩ PySem.F.slot_tuple_lt PySem.F.entry_tuple_lt (PySem.F.args_tuple_lt_2 _ _) (a4l l b items iZ n n2 dd zy sl xA ns ms hi hj)
    ⟨ho,qw,show mj (lexLt ns ms)≠aj.notImplemented∧Q (.bool (lexLt ns ms)) s from⟨(λx=>nomatch x),h⟩⟩ hu
def sIx(n d:Nat):Option Int→Nat
  |none=>d
  |some v=>if v<0 then (v+(n:Int)).toNat else min v.toNat n
end
end HT
namespace L2
open PySem PySem.Spec PyProof.Rows
abbrev TO:=St→Hp→(Option Int→Hp→Prop)→Prop
def PO(X:Cx)(e:Option Expr)(t:TO):Prop:=
  ∀(pins:List (aw×fY)) (s:au) (σ:St) (H:Hp) (Q:Option Int→Hp→Prop),Inv X pins σ H s→t σ H Q→
    aX (aY X.prog X.w) X.A (evalPart e X.env) (λu s'=>∃o H',Inv X pins σ H' s'∧IsPart u o∧Q o H') X.xe s
def b5I:TO:=λ_ H Q=>Q xI H
def c0H(t:TE):TO:=λσ H Q=>t σ H λx H1=>∃i,x=.int i∧Q (xn i) H1
section
variable {X:Cx}{e:Expr}{te:TE}{lo hi:Option Expr}{tl th:TO}{pos p2:fM}
def b5J:PO X xI b5I:=by
  intro pins s σ H Q I h;rw[evalPart_none];exact aC ⟨xI,H,I,.none,h⟩
def b5K(h:PE X e te):PO X (xn e) (c0H te):=by
  intro pins s σ H Q I hw;rw[evalPart_some];refine thn (h pins s σ H _ I hw) λu s1 ⟨x,H1,I1,r1,q1⟩=>?_
  obtain⟨i,rfl,q⟩:=q1;obtain⟨t,rfl⟩:=r1;exact⟨xn i,H1,I1,.int i t,q⟩
def SlR(X:Cx)(r:V→Option Int→Option Int→Hp→VK→Prop):Prop:=
  ∀(pins:List (aw×fY)) (s:au) (σ:St) (H:Hp) (x:V) (v vl vu:aj) (lo hi:Option Int) (sl:aw) (Q:VK),Inv X pins σ H s→RelV x v→s.heap.IsSliceOf sl vl vu .none→IsPart vl lo→IsPart vu hi→r x lo hi H Q→
    ∃T id,typeLookup (.type T) "__getitem__"=pure (xn (.builtin id))∧s.TypeIs v T∧aX (aY X.prog X.w) X.A (pW v (.ref sl)) (EP X pins σ Q) X.xe s
def tSl(r:V→Option Int→Option Int→Hp→VK→Prop)(te:TE)(tl th:TO):TE:=λσ H Q=>te σ H λx H1=>tl σ H1 λl H2=>th σ H2 λu H3=>r x l u H3 Q
def b2L(hr:SlR X r)(he:PE X e te)(hl:PO X lo tl)(hu:PO X hi th):PE X (.Subscript e (.Slice lo hi xI p2) pos) (tSl r te tl th):=by
  intro pins s σ H Q I h;refine Subscript_ (thn (he pins s σ H _ I h) λv s1 ⟨x,H1,I1,r1,q1⟩=>?_);refine wpAny_Slice (thn (hl pins s1 σ H1 _ I1 q1) λvl s2 ⟨l,H2,I2,pl,q2⟩=>thn (hu pins s2 σ H2 _ I2 q2) λvu s3 ⟨u,H3,I3,pu,q3⟩=>?_);rw[evalPart_none];refine aC ?_;have I4:Inv X pins σ H3 {s3 with heap:=s3.heap.push {cls:=.type "slice",data:=.fields #[vl,vu,.none]}}:=I3.kept (t':=s3.toks) λb ob q=>aE _ q
  obtain⟨T,id,hT,ht,hg⟩:=hr pins {s3 with heap:=s3.heap.push {cls:=.type "slice",data:=.fields #[vl,vu,.none]}} σ H3 x v vl vu l u s3.heap.objs.size Q I4 r1 (cR.IsSliceOf.new ..) pl pu q3;show aX (aY X.prog X.w) X.A (subscriptTail e (.Slice lo hi xI p2) v (.ref s3.heap.objs.size)) (EP X pins σ Q) X.xe {s3 with heap:=s3.heap.push {cls:=.type "slice",data:=.fields #[vl,vu,.none]}};exact tail_any (ops:=[.ref s3.heap.objs.size,v]) ht hT hg (by with_unfolding_all rfl)
def a7V(xs:List V)(lo hi:Option Int):List V:=(xs.drop (HT.sIx xs.length 0 lo)).take (HT.sIx xs.length xs.length hi-HT.sIx xs.length 0 lo)
def a6B(xs:List V)(lo hi:Option Int):(a7V xs lo hi).length≤xs.length:=by
  unfold a7V;rw[dX,gA];omega
end
def ixN(n:Nat)(i:Int):Option Nat:=if 0≤i then (if i<n then xn i.toNat else xI) else if -(n:Int)≤i then xn (i+n).toNat else xI
def atI{α:Type}(xs:List α)(i:Int):Option α:=(ixN xs.length i).bind λj=>xs[j]?
def b5L(h:ixN n i=xn j):seqIndex? i n=xn j∧j<n∧-(n:Int)≤i∧i<n:=by
  unfold ixN at h;by_cases h0:0≤i
  · rw[aB h0]at h
    by_cases h1:i<n
    · rw[aB h1]at h
      have e:i.toNat=j:=aF h;exact⟨by rw[seqIndex_of h0 h1,e],by omega,by omega,h1⟩
    · rw[aJ h1]at h;cases h
  · rw[aJ h0]at h
    by_cases h1:-(n:Int)≤i
    · rw[aB h1]at h
      have e:(i+n).toNat=j:=aF h;exact⟨by rw[seqIndex_neg (by omega) h1,e],by omega,h1,by omega⟩
    · rw[aJ h1]at h;cases h
def a9r{α:Type}{xs:List α}{i:Int}{v:α}(h:atI xs i=xn v):∃j,seqIndex? i xs.length=xn j∧xs[j]?=xn v∧j<xs.length∧-(xs.length:Int)≤i∧i<xs.length:=by
  unfold atI at h;cases e:ixN xs.length i with
  |none=>rw[e]at h;cases h
  |some j=>
    rw[e]at h;obtain⟨h1,h2,h3,h4⟩:=b5L e;exact⟨j,h1,h,h2,h3,h4⟩
def a2K(b:Expr):Prop:=∀o i,rB b false o i=operate [o,i] (pW o i)
def IxR(X:Cx)(r:R2):Prop:=
  ∀(value slice:Expr) (pins:List (aw×fY)) (s:au) (σ:St) (H:Hp) (x y:V) (v u:aj) (Q:VK),Inv X pins σ H s→RelV x v→RelV y u→r x y H Q→
    rB slice false v u=operate [v,u] (pW v u)→aX (aY X.prog X.w) X.A (subscriptTail value slice v u) (EP X pins σ Q) X.xe s
def MtR(X:Cx)(id:String)(r:V→List V→Hp→VK→Prop):Prop:=
  ∀(pins:List (aw×fY)) (s:au) (σ:St) (H:Hp) (x:V) (xs:List V) (v:aj) (us:List aj) (Q:VK),Inv X pins σ H s→RelV x v→Vals xs us→r x xs H Q→
    aX (aY X.prog X.w) X.A (call (.builtin id) (v::us)) (EP X pins σ Q) X.xe s
section
variable {X:Cx}{a b:Expr}{ta tb:TE}{pos:fM}
def IxR.or(h:IxR X r)(h':IxR X r'):IxR X (λx y H Q=>r x y H Q∨r' x y H Q):=by
  intro value slice pins s σ H x y v u Q I rx ry q hs;rcases q with q|q
  · exact h value slice pins s σ H x y v u Q I rx ry q hs
  · exact h' value slice pins s σ H x y v u Q I rx ry q hs
def a9s(hr:IxR X r)(ha:PE X a ta)(hb:PE X b tb)(hs:a2K b):PE X (.Subscript a b pos) (tOp r ta tb):=by
  intro pins s σ H Q I h;exact Subscript_ (b8v ha hb I h λv u s2 x y H2 I2 rx ry q=>hr a b pins s2 σ H2 x y v u Q I2 rx ry q (hs _ _))
def c0I(K:af):R2:=λx y H Q=>∃p xs i v,x=.ref p∧y=.int i∧SqL K H p xs∧atI xs i=xn v∧Q v H
def c0J(K:af):R2:=λx y H Q=>∃p xs i v,x=.ref p∧y=.int i∧SqT K H p xs∧atI xs i=xn v∧Q v H
def b5M:IxR X (c0I X.K):=by
  intro value slice pins s σ H x y v u Q I rx ry h hs;obtain⟨p,xs,i,z,rfl,rfl,hq,he,q⟩:=h;cases rx
  obtain⟨t,rfl⟩:=ry;obtain⟨its,r,pl,hz⟩:=I.list hq;obtain⟨j,h1,h2,h3,h4,h5⟩:=a9r he;obtain⟨w,ew,uG⟩:=r.get h2;have hl:=r.length;have hn:=a2V;have fin:EP X pins σ Q w s:=⟨z,H,I,uG,q⟩;by_cases h0:0≤i
  · have hj:i.toNat=j:=by
      rw[seqIndex_of h0 h5]at h1;exact aF h1
    exact item_listR pl.isList h0 (by omega) (by rw[hj];simpa using ew) fin hs
  · have hj:(i+(its.toArray.size:Int)).toNat=j:=by
      rw[seqIndex_neg (by omega) h4]at h1;rw[bp,←hl];exact aF h1
    exact subscriptTail_builtinR (x:=w) pl.isList.typeIs slot_list_getitem.lookup
      (wpAny_getItem_list_neg (Q:=λr s'=>r=w∧EP X pins σ Q r s') pl.isList (by omega) (by rw[bp]<;>omega) (by omega) (by rw[hj];simpa using ew) ⟨rfl,fin⟩) hs
def b8H:IxR X (c0J X.K):=by
  intro value slice pins s σ H x y v u Q I rx ry h hs;obtain⟨p,xs,i,z,rfl,rfl,hq,he,q⟩:=h;cases rx
  obtain⟨t,rfl⟩:=ry;obtain⟨its,r,pl,hz⟩:=I.tuple hq;obtain⟨j,h1,h2,h3,h4,h5⟩:=a9r he;obtain⟨w,ew,uG⟩:=r.get h2;have hl:=r.length;have hn:=a2V;have fin:EP X pins σ Q w s:=⟨z,H,I,uG,q⟩;exact subscriptTail_builtinR (x:=w) pl.typeIs slot_tuple_getitem.lookup
    (getItem_tuple (j:=j) (Q:=λr s'=>r=w∧EP X pins σ Q r s') pl (by omega) (by omega) (by rw[bp,←hl];exact h1) (by simpa using ew) ⟨rfl,fin⟩) hs
def a5p(lo hi:Option Int)(n:Nat):(jB lo hi xI n).1=((HT.sIx n 0 lo:Nat):Int)∧(jB lo hi xI n).2.1=((HT.sIx n n hi:Nat):Int)∧(jB lo hi xI n).2.2=1:=by
  refine⟨?_,?_,rfl⟩
  · cases lo with
    |none=>simp[jB,HT.sIx]
    |some i=>
      simp only[jB,HT.sIx,EK,show (1:Int)>0 by decide,pq];by_cases h:i<0
      · simp only[h,pq]<;>omega
      · simp only[h,dr]<;>omega
  · cases hi with
    |none=>simp[jB,HT.sIx]
    |some i=>
      simp only[jB,HT.sIx,EK,show (1:Int)>0 by decide,pq];by_cases h:i<0
      · simp only[h,pq]<;>omega
      · simp only[h,dr]<;>omega
def a4m(its:List aj)(lo hi:Option Int):slicePick its.toArray lo hi xI=((its.drop (HT.sIx its.length 0 lo)).take (HT.sIx its.length its.length hi-HT.sIx its.length 0 lo)).toArray:=by
  obtain⟨h1,h2,h3⟩:=a5p lo hi its.toArray.size;unfold slicePick;rw[h1,h2,h3];simp only[sliceRange_one,pick_run,bp]<;>rfl
def c2p(K:af):V→Option Int→Option Int→Hp→VK→Prop:=λx lo hi H Q=>∃a xs,x=.ref a∧SqL K H a xs∧∀p,H p=xI→Q (.ref p) (upd H p (.lst (a7V xs lo hi)))
def b5N:SlR X (c2p X.K):=by
  intro pins s σ H x v vl vu lo hi sl Q I rx hs pl pu h;obtain⟨a,xs,rfl,hx,q⟩:=h;cases rx
  obtain⟨its,r,ht,hz⟩:=I.list hx;have hlen:=r.length;refine⟨"list",_,slot_list_getitem.lookup,ht.isList.typeIs,?_⟩;refine wpAny_getItem_list_slice ht.isList hs pl pu .none (by simp) ?_ (by rw[bp]<;>omega);rw[a4m,←hlen];refine⟨.ref s.heap.objs.size,_,I.laid (t':=s.toks) (o:=.lst (a7V xs lo hi)) (λb ob q=>aE _ q) (ay _) ?_,rfl,q _ (I.hok.fresh (ay _))⟩;exact⟨cC (a6B xs lo hi) hz,_,0,(r.drop (HT.sIx xs.length 0 lo)).take (HT.sIx xs.length xs.length hi-HT.sIx xs.length 0 lo),be _ rfl⟩
def a5q:CallR X (.builtin "len") (λxs H Q=>∃p ys,xs=[.ref p]∧(SqL X.K H p ys∨SqT X.K H p ys)∧Q (.int ys.length) H):=by
  intro pins s σ H xs us Q I r h;obtain⟨p,ys,rfl,hq,q⟩:=h;obtain⟨u,rfl,rx⟩:=vals1 r;cases rx
  have hn:=a2V;rcases hq with hq|hq
  · obtain⟨its,r',pl,hz⟩:=I.list hq
    have hlen:=r'.length;exact Calls.call_len_list pl.isList (by simp only[bp]<;>omega) ⟨.int ys.length,H,I.tok _,⟨s.toks+1,by rw[bp,hlen]⟩,q⟩
  · obtain⟨its,r',pl,hz⟩:=I.tuple hq
    have hlen:=r'.length;exact len_tuple pl (by simp only[bp]<;>omega) ⟨.int ys.length,H,I.tok _,⟨s.toks+1,by rw[bp,hlen]⟩,q⟩
def a5r:CallR X (.builtin "len") (λxs H Q=>∃z,xs=[.str z]∧z.length≤a_∧Q (.int z.length) H):=by
  intro pins s σ H xs us Q I r h;obtain⟨z,rfl,hz,q⟩:=h;obtain⟨u,rfl,t,rfl⟩:=vals1 r;have hn:=a2V;exact len_str (by omega) ⟨.int z.length,H,I.tok _,⟨_,rfl⟩,q⟩
def CallR.or(h:CallR X f r)(h':CallR X f r'):CallR X f (λxs H Q=>r xs H Q∨r' xs H Q):=by
  intro pins s σ H xs us Q I rs q;rcases q with q|q
  · exact h pins s σ H xs us Q I rs q
  · exact h' pins s σ H xs us Q I rs q
def a5s:CallR X (.type "list") (λxs H Q=>∃p ys,xs=[.ref p]∧(SqL X.K H p ys∨SqT X.K H p ys)∧∀l,H l=xI→Q (.ref l) (upd H l (.lst ys))):=by
  intro pins s σ H xs us Q I r h;obtain⟨p,ys,rfl,hq,q⟩:=h;obtain⟨u,rfl,rx⟩:=vals1 r;cases rx
  have fin:∀(its:List aj),Vals ys its→ys.length≤a_→∀(h':cR) (c':Nat),(∀b o',s.heap.get? b=xn o'→h'.get? b=xn o')→
      h'.get? s.heap.objs.size=xn {cls:=.type "list",dict:=xI,data:=.seq its.toArray c',slots:=#[]}→EP X pins σ Q (.ref s.heap.objs.size) {s with heap:=h'}:=λits r' hz h' c' kp e=>
    ⟨.ref s.heap.objs.size,_,I.laid (t':=s.toks) kp (ay _) (show ObjOk X.prog X.w _ h' _ (.lst ys) from⟨hz,its,c',r',e⟩),rfl,q _ (I.hok.fresh (ay _))⟩
  rcases hq with hq|hq
  · obtain⟨its,r',pl,hz⟩:=I.list hq
    have hlen:=r'.length;obtain⟨o,ho,hc,n,hd⟩:=pl.isList;exact call_list_seq p (.inl rfl) ho hc hd (λh' c' kp e=>fin its r' hz h' c' kp e) (by simp only[bp]<;>omega)
  · obtain⟨its,r',pl,hz⟩:=I.tuple hq
    have hlen:=r'.length;obtain⟨o,ho,hc,n,hd⟩:=pl;exact call_list_seq p (.inr rfl) ho hc hd (λh' c' kp e=>fin its r' hz h' c' kp e) (by simp only[bp]<;>omega)
def a4n:CallR X (.type "tuple") (λxs H Q=>∃p ys,xs=[.ref p]∧((SqL X.K H p ys∧∀l,H l=xI→Q (.ref l) (upd H l (.tup ys)))∨(SqT X.K H p ys∧Q (.ref p) H))):=by
  intro pins s σ H xs us Q I r h;obtain⟨p,ys,rfl,h⟩:=h;obtain⟨u,rfl,rx⟩:=vals1 r;cases rx
  rcases h with⟨hq,q⟩|⟨hq,q⟩
  · obtain⟨its,r',pl,hz⟩:=I.list hq
    have hlen:=r'.length;refine call_tuple_list pl.isList (λh' kp=>?_) (by simp only[bp]<;>omega);have I1:Inv X pins σ H {s with heap:=h'}:=I.kept (t':=s.toks) kp;have I2:Inv X pins σ (upd H h'.objs.size (.tup ys)) {s with heap:=h'.push {cls:=.type "tuple",data:=.seq its.toArray}}:=
      I1.laid (t':=s.toks) (λb o e=>aE _ e) (ay _) (show ObjOk X.prog X.w _ _ _ (.tup ys) from⟨hz,its,r',IsTup.new _ _⟩)
    exact⟨.ref h'.objs.size,_,I2,rfl,q _ (I1.hok.fresh (ay _))⟩
  · obtain⟨its,r',pl,hz⟩:=I.tuple hq
    exact call_tuple_same pl ⟨.ref p,H,I,rfl,q⟩
def tyV(K:af)(T:String)(x:V)(H:Hp):Prop:=match x with
  |.str _=>T="str"
  |.int _=>T="int"
  |.ref p=>(T="list"∧∃xs,SqL K H p xs)∨(T="tuple"∧∃o,K.lookup p=xn o∧o.cls=.type "tuple"∧o.dict=xI)∨
      (T="dict"∧((∃kvs,H p=xn (.dK kvs))∨∃kvs,H p=xn (.dT kvs)))∨(T="set"∧∃S n,H p=xn (.set S n))
  |_=>False
def b8I(I:Inv X pins σ H s)(r:RelV x v)(ty:tyV X.K T x H) :
    s.TypeIs v T∧∀a,v=.ref a→∃ob,s.heap.get? a=xn ob∧ob.dict=xI:=by
  cases x with
  |str z=>
    obtain⟨t,rfl⟩:=r;cases (show T="str" from ty)
    exact⟨typeIs_str s z t,λ_ e=>nomatch e⟩
  |int i=>
    obtain⟨t,rfl⟩:=r;cases (show T="int" from ty)
    exact⟨typeIs_int s i t,λ_ e=>nomatch e⟩
  |ref p=>
    cases r
    rcases ty with⟨rfl,xs,hq⟩|⟨rfl,o,hk,hc,hd⟩|⟨rfl,hk⟩|⟨rfl,S,n,hk⟩
    · obtain⟨its,_,pl,_⟩:=I.list hq
      refine⟨pl.isList.typeIs,λa e=>?_⟩;cases e
      obtain⟨o,n,e,c,hd,_⟩:=pl;exact⟨o,e,hd⟩
    · refine⟨⟨o,I.kIn p o hk,hc⟩,λa e=>?_⟩
      cases e
      exact⟨o,I.kIn _ o hk,hd⟩
    · have z:∃o,s.heap.get? p=xn o∧o.ExactDict:=by
        rcases hk with⟨kvs,hk⟩|⟨kvs,hk⟩
        · obtain⟨_,_,_,_,o,_,_,e,ex,_⟩:=I.hok p _ hk
          exact⟨o,e,ex⟩
        · obtain⟨_,_,_,_,o,_,_,e,ex,_⟩:=I.hok p _ hk
          exact⟨o,e,ex⟩
      obtain⟨o,e,ex⟩:=z;refine⟨⟨o,e,ex.1⟩,λa e2=>?_⟩;cases e2
      exact⟨o,e,ex.2.1⟩
    · obtain⟨o,_,_,_,e,ex,_⟩:=I.hok p _ hk
      refine⟨⟨o,e,ex.1⟩,λa e2=>?_⟩;cases e2
      exact⟨o,e,ex.2.1⟩
  |_=>exact cJ ty
def tBM(K:af)(T:String)(r:V→List V→Hp→VK→Prop)(to:TE)(t:TA):TE:=λσ H Q=>to σ H λx H1=>tyV K T x H1∧t σ H1 λxs H2=>r x xs H2 Q
variable {o e:Expr}{es:List Expr}{to:TE}{t:TA}{name:bE}{apos cF:fM}{T id:String}{r:V→List V→Hp→VK→Prop}
def a4F(pa:PlainAttrs T)(slot:Slot T name id)(yb:typeOf (.builtin id)=pure (.type "method_descriptor"))(hm:MtR X id r)(ho:PE X o to)(ha:PA X (e::es) t)
    (fm:dM o name X.env (cK o X.env)=cK o X.env:=by rfl)
    (ic:((cB cF (ar (e::es) X.env)).all (λx=>!x.1)&&(eK cF (dh [] X.env)).all (λx=>x.1.isSome)
      && decide ((e::es).length+([]:List eB).length+(if ([]:List eB).isEmpty then 0 else 1)<30))=true:=by rfl)
    (fg:(apos.endLine==cF.line)=true:=by rfl) (hs:ar (e::es) X.env=(false,cK e X.env)::ar es X.env:=by rfl) (dZ:(cB cF (ar es X.env)).any (·.1)=false:=by rfl) :
    PE X (.Call (.Attribute o name apos) (e::es) [] cF) (tBM X.K T r to t):=by
  intro pins s σ H Q I h;refine By fm ic fg rfl (thn (ho pins s σ H _ I h) λv s1 ⟨x,H1,I1,r1,ty,q1⟩=>?_);obtain⟨h1,h2⟩:=b8I I1 r1 ty;refine⟨T,id,pa,slot,yb,h1,h2,?_⟩;have hA:=ha cF pins s1 σ H1 _ I1 q1;rw[hs]at hA ⊢;refine mr (by show (false||(cB cF (ar es X.env)).any (·.1))=false;rw[dZ]<;>rfl) (nF ?_);exact thn hA λus s2 ⟨vs,H2,I2,r2,q2⟩=>hm pins s2 σ H2 x vs v us Q I2 r1 r2 q2
/- xs.append(e), list.index on a uL tuple .. are MtR facts of 06m -/
end
def MtM(X:Cx)(id:String)(r:V→List V→Hp→VK→Prop):Prop:=
  ∀(pins:List (aw×fY)) (s:au) (σ:St) (H:Hp) (x:V) (xs:List V) (v:aj) (us:List aj) (Q:VK),Inv X pins σ H s→RelV x v→Vals xs us→r x xs H Q→
    aX (aY X.prog X.w) X.A (call (.builtin id) (v::us)) (EP X pins σ Q) X.xe s
def Vals.one:∀{x:V} {us:List aj},Vals [x] us→∃u,us=[u]∧RelV x u
  |_,_,.cons r .nil=>⟨_,rfl,r⟩
section
variable {X:Cx}{pins:List (aw×fY)}{σ:St}{H:Hp}{s:au}{l b:aw}{xs ys zs:List V}
def Inv.lset{its its':List aj}(I:Inv X pins σ H s)(hH:H l=xn (.lst xs))
    (e:s.heap.get? l=xn {cls:=.type "list",data:=.seq its.toArray n}) (hf:f its.toArray=its'.toArray) (hv:Vals ys its') (hz:ys.length≤a_) :
    Inv X pins σ (upd H l (.lst ys)) {s with heap:=s.heap.update l (cw f),toks:=t'}:=by
  have q:=PySem.IsL.update e f;rw[hf]at q;refine I.write (x:=l) (e:=l) (by rw[hH];exact trivial) (.inl rfl) (λb' u hb hu=>(dO s.heap (cw f) (cY hb)).trans hu) ⟨_,q⟩ ?_;exact⟨hz,its',_,hv,q⟩
def Inv.lnew(I:Inv X pins σ H s)(hv:Vals ys its)(hz:ys.length≤a_) :
    Inv X pins σ (upd H s.heap.objs.size (.lst ys)) {s with heap:=s.heap.push {cls:=.type "list",data:=.seq its.toArray},toks:=t'}:=
  I.laid (λ_ _ q=>aE _ q) (ay _) ⟨hz,its,0,hv,be _ rfl⟩
theorem Inv.fresh(I:Inv X pins σ H s):H s.heap.objs.size=xI:=I.hok.fresh (ay _)
def Inv.lstM(I:Inv X pins σ H s)(hH:H l=xn (.lst xs)):xs.length≤a_∧∃(its:List aj) (n:Nat),Vals xs its∧xs.length=its.length∧s.heap.get? l=xn {cls:=.type "list",data:=.seq its.toArray n}:=by
  obtain⟨z,its,n,r,e⟩:=I.hok l _ hH;exact⟨z,its,n,r,r.length,e⟩
def b2M(h:n≤a_):lE n=false:=by
  unfold lE;exact ba (by omega)
end
section
variable {X:Cx}
def b5O:V→List V→Hp→VK→Prop:=λx vs H Q=>∃l xs y,x=.ref l∧vs=[y]∧H l=xn (.lst xs)∧xs.length<a_∧Q .non (upd H l (.lst (xs++[y])))
def Y1:MtM X "list.append" b5O:=by
  intro pins s σ H x vs v us Q I rx rv h;obtain⟨l,xs,y,rfl,rfl,hH,hz,q⟩:=h;cases rx
  obtain⟨u,rfl,ru⟩:=rv.one;obtain⟨z,its,n,r,hl,e⟩:=I.lstM hH;refine call_meets F.slot_list_append ⟨_,e,rfl⟩ F.entry_list_append (F.args_list_append_2 _ _) (PySem.list_append l its.toArray n u (by rw[bp];omega)) ⟨e,?_⟩;refine⟨.non,_,I.lset (its':=its++[u]) hH e (by simp) (r.append (.cons ru .nil)) ?_,rfl,q⟩;rw[az,bW];omega
def b5P:V→List V→Hp→VK→Prop:=λx vs H Q=>∃l b xs zs,x=.ref l∧vs=[.ref b]∧H l=xn (.lst xs)∧H b=xn (.lst zs)∧xs.length+zs.length≤a_∧Q .non (upd H l (.lst (xs++zs)))
def a4G:MtM X "list.extend" b5P:=by
  intro pins s σ H x vs v us Q I rx rv h;obtain⟨l,b,xs,zs,rfl,rfl,hH,hB,hz,q⟩:=h;cases rx
  obtain⟨u,rfl,ru⟩:=rv.one;cases ru
  obtain⟨z,its,n,r,hl,e⟩:=I.lstM hH;obtain⟨z2,nN,n2,r2,oQ,e2⟩:=I.lstM hB;have ku:its.toArray.size+nN.toArray.size≤a_:=by rw[bp,bp];omega
  have vp:¬ (!its.toArray.isEmpty&&lE (its.toArray.size+nN.toArray.size))=true:=by
    rw[b2M ku,Bool.and_false];exact cj
  refine call_meets F.slot_list_extend ⟨_,e,rfl⟩ F.entry_list_extend (F.args_list_extend_2 _ _)
    (AutoSeq1.list_extend_list_list_0 l its.toArray n b nN.toArray n2 vp (by rw[bp];omega) (by omega)) ⟨e,e2,?_⟩
  refine⟨.non,_,I.lset (its':=its++nN) hH e (by simp) (r.append r2) ?_,rfl,q⟩;rw[az];omega
end
end L2
namespace Att
open PySem PySem.W PySem.Calls PyProof.Rows
def a2G:∀(ns:List Int) (vs:List aj),WellAll P h vs (ns.map WData.int)→IntsAre vs ns:=by
  intro ns
  induction ns with
  |nil=>
    intro vs w;rw[cW]at w;cases w
    exact .nil
  |cons n ns ih=>
    intro vs w;rw[ax]at w;cases w with
    |cons a b=>
      cases a
      exact .cons _ _ (ih _ b)
def b0N{l:OpenLaw}(hn:l.most=xn n) 
    (nc:l.row.toRowW.claim.pre args=true) (tQ:WellAll P h vals args) :
    ∃a vs ns,vals=[bH a]∧args=[WData.list (ns.map WData.int)]∧h.get? a=xn {cls:=.type "list",data:=.seq vs.toArray}∧IntsAre vs ns∧ns.length≤n:=by
  have Cn:WShape.hasAll [] args [.list .int]=true:=(pre_splitW nc).1;have hc:l.pre.holds [] {args:=args}=true:=(pre_splitW nc).2;obtain⟨d,r,rfl,h1,h2⟩:=hasAllW_cons Cn;obtain rfl:=hasAllW_nil h2;obtain⟨xs,rfl,h3⟩:=hasW_list h1;obtain⟨ns,rfl⟩:=items_int h3;have hlen:ns.length≤n:=by
    unfold OpenLaw.pre at hc;have h4:(WTm.not (.lt (.lit (.int (n:Int))) (.len (.arg 0)))).holds [] {args:=[.list (ns.map .int)]}=true:=by
      have h4:=(holds_andW hc).1;rw[hn]at h4;exact h4
    have h5:=condW_of h4 (w_not (w_lt w_lit (w_len_list (w_arg rfl))));rw[ai]at h5;refine Nat.le_of_not_lt λq=>?_
    have q':(n:Int)<((ns.length:Nat):Int):=by omega
    first
      | (rw[aQ q']at h5;exact absurd h5 (by decide))
      | (simp at h5;omega)
  cases tQ with
  |cons w1 w2=>
    cases w2
    cases w1 with
    |list ho g_=>exact⟨_,_,ns,rfl,rfl,ho,a2G ns _ g_,hlen⟩
def b0O(l:OpenLaw)(args:List WData):l.row.toRowW.claim.post args (.bool true) args=true:=
  postW_of (r:=l.row.toRowW) (X:=(true==true))
    (show WShape.has [] (.bool true) .bool=true by first|rfl|decide|simp[WShape.has,WShape.arms,WShape.armsAll])
    (show (WTm.eq .res (.lit (.bool true))).value [] {args:=args,res:=xn (.bool true),after:=args}=xn (.bool (true==true)) from w_eq_bool (w_res rfl) w_lit) rfl
def attach_call{l:OpenLaw}{d:DefRec}
    (hn:l.most=xn n) (vJ:d.params.defaults=[])
    (call:∀(w:b_) (s₀ s₁:au) (mg mb:bE→Option aj) (fa:aw) (o:fY) (pm cd doc:aj) (a:aw) (vs:List aj) (ns:List Int),
      Ground q loose [] XP w s₀ mg mb s₁.heap→YP w s₁.heap→
      s₁.heap.get? fa=xn o→o.data=.func (docDef d.name d.params d.body d.scope pm cd doc)→s₁.heap.CodeRec cd d.name→mg d.name=xn (.ref fa)→
      s₁.heap.get? a=xn {cls:=.type "list",data:=.seq vs.toArray}→IntsAre vs ns→ns.length≤n→s₁.gens=#[]→
      gR (aY l.prog w) nI (.call (.ref fa) ⟨[.ref a],[]⟩) (λr s'=>r=.ok (.ret (.bool true))∧OldK s₁.heap s'.heap∧s'.os=s₁.os∧oH s'.gens) s₁) :
    WalkO q loose XP YP l.row.toRowW d [] (λf vs=>zF f vs):=by
  intro w s₀ s₁ mg mb G Y fa o pm cd doc dV kV ho hd iF hD vo hg args vals as nc vq yj tQ hlo;obtain rfl:dV=.none:=Dflts.none hD vJ;obtain rfl:kV=.none:=Dflts.noKw hD;obtain⟨a,vs,ns,rfl,rfl,sH,hints,hlen⟩:=b0N hn nc tQ;refine enter_call (gQ (call w s₀ s₁ mg mb fa o pm cd doc a vs ns G Y ho (fd_plain hd) iF vo sH hints hlen hg) λr s' hq=>?_);obtain⟨rfl,h2,h3,h4⟩:=hq;exact⟨.inl ⟨.bool true,.bool true,[],rfl,λ_=>rfl,.bool true,b0O l _,λ_=>⟨kc,λ_ hm=>(nomatch hm)⟩⟩,h2,h3,h4⟩
section
variable {prog:bw}{w:b_}{A:bQ}{E:aj→au→Prop}{s:au}{K:Frag}
def ledger(h:cR)(L d:aw):List (aw×fY):=(aA h.objs.size).filterMap λa=>if a=L∨a=d then xI else (h.get? a).map λo=>(a,o)
end
end Att
namespace L2
open PySem PySem.Spec PyProof.Rows
theorem vals_ints:∀{vs:List aj} {ns:List Int},IntsAre vs ns→Vals (ns.map V.int) vs
  |_,_,.nil=>.nil
  |_,_,.cons n t h=>.cons ⟨t,rfl⟩ (vals_ints h)
abbrev KOf{K:af}{h:cR}(_:K.In h):af:=K
end L2
/- FN ER xp (shape; LID, My.* are zN):
   My.Adr: a structure of pf addresses qH Bx Aa names (classes,uv);My.Txt K t: a structure (Prop) of pf equations over K;
   My.txt_mk:{K} {implicit addresses ..} (e1:nsIn K bS "law"=xn (xn (.ref f))) (e2:K.lookup f=xn ⟨oc,od,.func (fnOf "law" "law" params body scope dV kV doc pm an gr ct),sl⟩) (e3:codeIn K gr "law"=true) ..:∃t,My.Txt K t
set_option maxRecDepth 100000 in
set_option maxHeartbeats 0 in
def PySem.Challenge.cw_LID_holds : PySem.Challenge.rw_LID.Holds := by
  w_on;o_law;k_head;(case hw=>w_witness2)
  k_fill
  refine L2.walk_of (l:=PySem.Challenge.rw_LID) (n:=63) (k:=40) (x:="script") (CX:=λw=>..) (sp:=λ_=>My.sp_law) rfl (by decide) rfl ⟨rfl,by decide,by decide⟩ (λw h Y=>PySem.W.kIn_of Y) ?F ?S ?C
  case F=>
    intro w mg fa h KX G vo;have T:∃t,My.Txt (L2.KOf KX) t:=by
      dsimp only[L2.KOf]                          -- K BW zQ as «<heap const> w.params» FA k_is
      refine' My.txt_mk ?e1 ?e2 ?e3 ..
      (case e1=>PySem.W.k_is)                    -- in pf order: a name -> its address -> its object -> its parts
      (case e2=>PySem.W.k_is)
      ..
    obtain⟨t,T⟩:=T;have e0:=vo.symm.trans (kj KX G T.law);cases e0                                       -- fa is pf Ab own address
    exact⟨_,λs u=>.of_eq rfl,λbase kb nb=>My.law_fn T kb nb⟩     -- if «.of_eq zT comes EX early: refine' ⟨_,?b,λbase kb nb=>My.law_fn T kb nb⟩;exact λs u=>.of_eq rfl
  case S=>exact λw H a ns hl hO hS=>..
  case C=>exact ..
(pf tactic k_is has no namespace: write k_is) -/
namespace L2
open PySem PySem.Spec PyProof.Rows
def Q8(s:iy):lZ:=match s with
  |.FunctionDef _ a _ _ _ _ _ _ _ _=>a
  |_=>{posonlyargs:=[],args:=[],vararg:=xI,kwonlyargs:=[],kw_defaults:=[],kwarg:=xI,defaults:=[]}
def v9(s:iy):List iy:=match s with
  |.FunctionDef _ _ b _ _ _ _ _ _ _=>b
  |_=>[]
def g7(s:iy):gk:=match s with
  |.FunctionDef _ _ _ _ _ _ sc _ _ _=>sc
  |_=>{kind:=.function,names:=[],isGenerator:=false,isCoroutine:=false}
abbrev CX0:CXT:=λ_ _ _ _ _ _=>False
abbrev E0:XK:=λ_ _ _=>False
def c0K:a7T CX0 X E0:=λ_ _ _ _ _ _ _ h=>h.elim
structure Fun (K:af) (x qual:bE) (st:iy) (f:aw) (fd:dR):Prop where
  ex:∃(oc:aj) (od:Option aw) (kV doc pm:aj) (an:Option aw) (gr ct:aj) (oJ:Array (Option aj)),
    fd=fT x qual (Q8 st) (v9 st) (g7 st) .none kV doc pm an gr ct∧K.lookup f=xn ⟨oc,od,.func fd,oJ⟩∧lW K gr qual=true
  kp:fP K (.ref f)=true
section
variable {P:bw}{w:b_}{K:af}{mg:bE→Option aj}{base:cR}
def Fun.ok{x qual:bE}{st:iy}{f:aw}{fd:dR}{N ps:List bE}{k:Nat}{sp:Sp}(F:Fun K x qual st f fd)(S:FnScope N ps (g7 st))(len:∀vs H Q E,sp vs H Q E→vs.length=ps.length)
    (pS:∀(gr:aj) (A:bQ) (outer:List oe) (s:au) (H:Hp) (vs:List V) (Q:VK) (E:XK),Room k (A.deeper (jo qual (g7 st) s.heap.objs.size f gr))→sp vs H Q E→
      ∃t,PSs (a0H CX0 P w K mg base N qual (g7 st) f gr A outer s H E).nox (v9 st) t∧t {nx:=λ_ H'=>Q .non H',rt:=Q} (start N vs) H):FnOk P w K mg base CX0 (k+1) f fd ps sp:=by
  obtain⟨oc,od,kV,doc,pm,an,gr,ct,oJ,rfl,lk,iF⟩:=F.ex;refine b7N lk iF S len λA outer s H vs Q E hr pI=>?_
  obtain⟨t,h,q⟩:=pS gr A outer s H vs Q E hr pI;exact⟨t,h.nox,q⟩
def Fun.binds{x qual:bE}{st:iy}{f:aw}{fd:dR}{ps:List bE}(F:Fun K x qual st f fd)
    (h:∀(kV doc pm:aj) (an:Option aw) (gr ct:aj) (us:List aj),us.length=ps.length→pX (fT x qual (Q8 st) (v9 st) (g7 st) .none kV doc pm an gr ct) ⟨us,[]⟩=pure (ps.zip us)):Binds K fd ps []:=by
  obtain⟨oc,od,kV,doc,pm,an,gr,ct,oJ,rfl,lk,iF⟩:=F.ex;exact .all (h kV doc pm an gr ct)
def b8J{x qual:bE}{st:iy}{f:aw}{oc:aj}{od an:Option aw}{oJ:Array (Option aj)}{kV doc pm gr ct:aj}(l:K.lookup f=xn ⟨oc,od,.func (fT x qual (Q8 st) (v9 st) (g7 st) .none kV doc pm an gr ct),oJ⟩)
    (c:lW K gr qual=true) (k:fP K (.ref f)=true):Fun K x qual st f (fT x qual (Q8 st) (v9 st) (g7 st) .none kV doc pm an gr ct):=⟨⟨oc,od,kV,doc,pm,an,gr,ct,oJ,rfl,l,c⟩,k⟩
end
def Y2(h:n≤1000):n<a_:=gU h (by decide)
section
variable {X:Cx}
def pv(i:Nat)(hN:X.N[i]?=xn x:=by rfl)(hv:Vis X.env.scope x:=by first|exact bY rfl|exact bR (bY rfl)|exact bR (bR rfl))(hd:(x==("__debug__":bE))=false:=by decide)
    (iF:(x==("__classdict__":bE))=false:=by decide):PE X (.Name x pos) (c0r i):=B5 hN hv hd iF
end
def a6C{A B:Prop}(h:B):if false=true then A else B:=by
  rw[aJ cj];exact h
def a5t{A B:Prop}(h:A):if true=true then A else B:=by
  rw[aB rfl];exact h
def Same(H H':Hp):Prop:=∀b o,H b=xn o→H' b=xn o
def Same.refl(H:Hp):Same H H:=λ_ _ h=>h
def Same.trans(a:Same H H1)(b:Same H1 H2):Same H H2:=λc o h=>b c o (a c o h)
def Same.free{H H':Hp}(e:Same H H'){l:aw}(h:H' l=Option.none):H l=Option.none:=by
  cases q:H l with
  |none=>rfl
  |some o=>
    rw[e l o q]at h;cases h
end L2
set_option Elab.async false
set_option linter.all false
set_option maxRecDepth 100000
set_option maxHeartbeats 4000000
namespace L2
open PySem PySem.Spec PyProof.Rows
def P0(X:Cx)(N:List bE)(scope:gk)(cl:List (bE×aw))(C:aw)(s:au)(H:Hp)(fp:List aw):Cx:=
 {X with N:=N,s₀:=s,H₀:=H,env:=compEnvC scope cl C X.env,outer:=X.stack,ex:=fp,fn:=λ_=>false,xe:=λ_ _=>False}
structure CompIn (X:Cx) (N:List bE) (scope:gk) (cl:List (bE×aw)) (τ:St->St):Prop where
 clos:oV scope X.env=pure cl
 kind:scope.kind=.function
 ncell:∀y∈scope.names,y.2≠.cell
 names:∀y∈scope.names,y.2=.local->scope.names.lookup y.1=xn .local
 sub:∀x c,cl.lookup x=xn c->X.env.cells.lookup x=xn c
 has:∀y∈scope.names,y.2=.free->∃c,cl.lookup y.1=xn c
 tlen:∀σ,(τ σ).length=N.length
 tval:∀(σ:St) (i:Nat) (x:bE) (v:V),N[i]?=xn x->(τ σ)[i]?=xn (xn v)->∃j:Nat,X.N[j]?=xn x/\σ[j]?=xn (xn v)/\scope.names.lookup x=xn .free/\(X.env.kindOf x=xn .cell∨X.env.kindOf x=xn .free)
def a0I{scope:gk}(hn:∀y∈scope.names,y.2≠.cell)(h:(ma scope env).names.lookup x=xn .cell∨(ma scope env).names.lookup x=xn .free):∃y∈scope.names,y.1=x/\y.2=.free:=by
 have key:∀k,(ma scope env).names.lookup x=xn k->k=.cell∨k=.free->∃y∈scope.names,y.1=x/\y.2=.free:=λk e hk=>by
  have hm:=cy e;unfold ma at hm;obtain⟨⟨n,k'⟩,hy,e2⟩:=aG.mp hm
  dsimp only at e2
  by_cases hc:(k'==fC&&env.scope.kind==.function&&env.kindOf n==xn .cell)=true
  ·rw[aB hc]at e2;cases e2
   rw[aD,aD]at hc;exact⟨_,hy,rfl,by simpa using hc.1.1⟩
  ·rw[aJ hc]at e2;cases e2
   rcases hk with rfl|rfl
   ·exact absurd rfl (hn _ hy)
   ·exact⟨_,hy,rfl,rfl⟩
 rcases h with h|h
 ·exact key _ h (.inl rfl)
 ·exact key _ h (.inr rfl)
def a5u{scope:gk}(h:scope.names.lookup x=xn .free):(ma scope env).names.lookup x=xn .cell∨(ma scope env).names.lookup x=xn .free:=by
 have key:∀names:List (bE×iU),names.lookup x=xn .free->
   (names.map λ(n,k)=>if (k==fC&&env.scope.kind==.function&&env.kindOf n==xn .cell) then (n,iU.cell) else (n,k)).lookup x=xn .cell∨
   (names.map λ(n,k)=>if (k==fC&&env.scope.kind==.function&&env.kindOf n==xn .cell) then (n,iU.cell) else (n,k)).lookup x=xn .free:=by
  intro names
  induction names with
  |nil=>intro h;cases h
  |cons z r ih=>
   obtain⟨n,k⟩:=z;intro h;rw[ax]
   dsimp only
   rw[fQ]at h;cases hx:x==n with
   |true=>
    rw[hx]at h;have hk:k=.free:=by simpa using h
    subst hk;by_cases hc:(fC==fC&&env.scope.kind==.function&&env.kindOf n==xn .cell)=true
    ·rw[aB hc,fQ,hx];exact .inl rfl
    ·rw[aJ hc,fQ,hx];exact .inr rfl
   |false=>
    rw[hx]at h;by_cases hc:(k==fC&&env.scope.kind==.function&&env.kindOf n==xn .cell)=true
    ·rw[aB hc,fQ,hx];exact ih h
    ·rw[aJ hc,fQ,hx];exact ih h
 exact key _ h
structure Has (P:bw) (w:b_) (K:af) (mg:bE->Option aj) (base:cR) (x:bE) (k:Nat) (ps:List bE) (sp:Sp):Prop where
 ex:∃f fd,FnOk P w K mg base CX0 k f fd ps sp/\Binds K fd ps []/\fP K (.ref f)=true/\mg x=xn (.ref f)
def Has.up{P:bw}{w:b_}{K:af}{mg:bE->Option aj}{base:cR}{x:bE}{j k:Nat}{ps:List bE}{sp:Sp}(h:Has P w K mg base x j ps sp)(l:j<=k):Has P w K mg base x k ps sp:=by
 obtain⟨f,fd,a,b⟩:=h.ex;exact⟨f,fd,a.mono l,b⟩
section
variable {X:Cx}{k:Nat}{ps:List bE}{sp:Sp}{x:bE}{p pos:fM}{e:Expr}{es:List Expr}{t:TA}
def a7W(h:Has X.prog X.w X.K X.mg X.base x k ps sp)(hr:Room k X.A)(ha:PA X (e::es) t)(hg:Gl X x:=by rfl)(lS:(x==("__debug__":bE))=false:=by decide)
  (he:ar (e::es) X.env=(false,cK e X.env)::ar es X.env:=by rfl) (gE:(cB pos (ar es X.env)).any (·.1)=false:=by rfl):PE X (.Call (.Name x p) (e::es) [] pos) (b7M sp [] E0 t):=by
 obtain⟨f,fd,F,b,kp,m⟩:=h.ex;exact b5G F hr hg m kp b .nil c0K ha lS he gE
end
mutual
def Den(H:Hp):V->bj->Prop
 |v,.none=>v=.non
 |v,.bool b=>v=.bl b
 |v,.int i=>v=.int i
 |v,.str x=>v=.str x
 |v,.list ds=>∃a xs,v=.ref a/\H a=xn (.lst xs)/\DenAll H xs ds
 |v,.tuple ds=>∃a xs,v=.ref a/\H a=xn (.tup xs)/\DenAll H xs ds
 |v,.dict kvs=>kvs=[]/\∃a,v=.ref a/\H a=xn (.dK [])
def DenAll(H:Hp):List V->List bj->Prop
 |xs,[]=>xs=[]
 |xs,d::ds=>∃v r,xs=v::r/\Den H v d/\DenAll H r ds
end
mutual
theorem Den.mono{H H':Hp}(e:Same H H'):∀(d:bj) {v:V},Den H v d->Den H' v d
 |.none,_,h=>by simpa only [Den]using h
 |.bool _,_,h=>by simpa only [Den]using h
 |.int _,_,h=>by simpa only [Den]using h
 |.str _,_,h=>by simpa only [Den]using h
 |.list ds,_,h=>by
  simp only[Den]at h ⊢;obtain⟨a,xs,h1,h2,h3⟩:=h;exact⟨a,xs,h1,e _ _ h2,DenAll.mono e ds h3⟩
 |.tuple ds,_,h=>by
  simp only[Den]at h ⊢;obtain⟨a,xs,h1,h2,h3⟩:=h;exact⟨a,xs,h1,e _ _ h2,DenAll.mono e ds h3⟩
 |.dict _,_,h=>by
  simp only[Den]at h ⊢;obtain⟨h0,a,h1,h2⟩:=h;exact⟨h0,a,h1,e _ _ h2⟩
theorem DenAll.mono{H H':Hp}(e:Same H H'):∀(ds:List bj) {xs:List V},DenAll H xs ds->DenAll H' xs ds
 |[],_,h=>by simpa only [DenAll]using h
 |d::ds,_,h=>by
  simp only[DenAll]at h ⊢;obtain⟨v,r,h1,h2,h3⟩:=h;exact⟨v,r,h1,Den.mono e d h2,DenAll.mono e ds h3⟩
end
def Den.up{H H':Hp}{d:bj}{v:V}(h:Den H v d)(e:Same H H'):Den H' v d:=Den.mono e d h
def DenAll.up{H H':Hp}{ds:List bj}{xs:List V}(h:DenAll H xs ds)(e:Same H H'):DenAll H' xs ds:=DenAll.mono e ds h
section
variable {H:Hp}
def den_none:Den H .non .none:=by simp only[Den]
def den_bool{b:Bool}:Den H (.bl b) (.bool b):=by simp only[Den]
def den_int{i:Int}:Den H (.int i) (.int i):=by simp only[Den]
def den_list{a:aw}{xs:List V}{ds:List bj}(h:H a=xn (.lst xs))(q:DenAll H xs ds):Den H (.ref a) (.list ds):=by
 simp only[Den];exact⟨a,xs,rfl,h,q⟩
def den_tup{a:aw}{xs:List V}{ds:List bj}(h:H a=xn (.tup xs))(q:DenAll H xs ds):Den H (.ref a) (.tuple ds):=by
 simp only[Den];exact⟨a,xs,rfl,h,q⟩
def denAll_nil:DenAll H [] []:=by simp only[DenAll]
def denAll_cons{v:V}{d:bj}{xs:List V}{ds:List bj}(h:Den H v d)(q:DenAll H xs ds):DenAll H (v::xs) (d::ds):=by
 simp only[DenAll];exact⟨v,xs,rfl,h,q⟩
def Den.list_inv{v:V}{ds:List bj}(h:Den H v (.list ds)):∃a xs,v=.ref a/\H a=xn (.lst xs)/\DenAll H xs ds:=by simpa only [Den]using h
def Den.tup_inv{v:V}{ds:List bj}(h:Den H v (.tuple ds)):∃a xs,v=.ref a/\H a=xn (.tup xs)/\DenAll H xs ds:=by simpa only [Den]using h
def Den.int_inv{v:V}{i:Int}(h:Den H v (.int i)):v=.int i:=by simpa only [Den]using h
def DenAll.cons_inv{xs:List V}{d:bj}{ds:List bj}(h:DenAll H xs (d::ds)):∃v r,xs=v::r/\Den H v d/\DenAll H r ds:=by simpa only [DenAll]using h
def DenAll.nil_inv{xs:List V}(h:DenAll H xs []):xs=[]:=by simpa only [DenAll]using h
theorem DenAll.length:∀{ds:List bj} {xs:List V},DenAll H xs ds->xs.length=ds.length
 |[],_,h=>by rw[h.nil_inv];rfl
 |d::ds,_,h=>by
  obtain⟨v,r,rfl,_,h⟩:=h.cons_inv;rw[aV,aV,DenAll.length h]
theorem DenAll.get:∀{ds:List bj} {xs:List V} {i:Nat} {d:bj},DenAll H xs ds->ds[i]?=xn d->∃v,xs[i]?=xn v/\Den H v d
 |[],_,i,d,_,e=>by simp at e
 |d0::ds,_,0,d,h,e=>by
  obtain⟨v,r,rfl,h1,_⟩:=h.cons_inv;have:d0=d:=by simpa using e
  subst this;exact⟨v,rfl,h1⟩
 |d0::ds,_,i+1,d,h,e=>by
  obtain⟨v,r,rfl,_,h1⟩:=h.cons_inv;obtain⟨u,h2,h3⟩:=DenAll.get (i:=i) h1 (by simpa using e);exact⟨u,by simpa using h2,h3⟩
def DenAll.getV{ds:List bj}{xs:List V}{i:Nat}{v:V}(h:DenAll H xs ds)(e:xs[i]?=xn v):∃d,ds[i]?=xn d/\Den H v d:=by
 have hi:=(aL.mp e).1;rw[h.length]at hi;obtain⟨u,h1,h2⟩:=h.get (ab hi);rw[e]at h1;cases h1
 exact⟨_,ab hi,h2⟩
theorem DenAll.append:∀{ds:List bj} {xs:List V} {es:List bj} {ys:List V},DenAll H xs ds->DenAll H ys es->DenAll H (xs++ys) (ds++es)
 |[],_,_,_,h,q=>by rw[h.nil_inv];exact q
 |d::ds,_,_,_,h,q=>by
  obtain⟨v,r,rfl,h1,h2⟩:=h.cons_inv;exact denAll_cons h1 (DenAll.append h2 q)
end
mutual
theorem Den.reads{P:bw}{w:b_}{H:Hp}{h:cR}(ok:HOk P w H h):∀(d:bj) {v:V} {u:aj},d.canLay0=true->Den H v d->RelV v u->∃as,Reads h u d as
 |.none,v,u,_,q,r=>by
  simp only[Den]at q;subst q;cases (show u=bt from r)
  exact⟨_,.none⟩
 |.bool b,v,u,_,q,r=>by
  simp only[Den]at q;subst q;cases (show u=mj b from r)
  exact⟨_,.bool b⟩
 |.int i,v,u,_,q,r=>by
  simp only[Den]at q;subst q;obtain⟨t,rfl⟩:=r;exact⟨_,.int i t⟩
 |.str x,v,u,_,q,r=>by
  simp only[Den]at q;subst q;obtain⟨t,rfl⟩:=r;exact⟨_,.str x t⟩
 |.list ds,v,u,hl,q,r=>by
  simp only[Den]at q;obtain⟨a,xs,rfl,h1,h2⟩:=q;cases (show u=bH a from r)
  obtain⟨z,its,n,rv,e⟩:=ok a _ h1;obtain⟨as,ra⟩:=DenAll.reads ok ds hl h2 rv;exact⟨_,.list e rfl rfl (by simpa using ra)⟩
 |.tuple ds,v,u,hl,q,r=>by
  simp only[Den]at q;obtain⟨a,xs,rfl,h1,h2⟩:=q;cases (show u=bH a from r)
  obtain⟨z,its,rv,o,e,c,n,d⟩:=ok a _ h1;obtain⟨as,ra⟩:=DenAll.reads ok ds hl h2 rv;exact⟨_,.tuple e c d (by simpa using ra)⟩
 |.dict _,_,_,hl,_,_=>nomatch hl
theorem DenAll.reads{P:bw}{w:b_}{H:Hp}{h:cR}(ok:HOk P w H h):∀(ds:List bj) {xs:List V} {us:List aj},bb ds=true->DenAll H xs ds->Vals xs us->∃as,iT h us ds as
 |[],xs,us,_,q,r=>by
  simp only[DenAll]at q;subst q;cases r
  exact⟨_,.nil⟩
 |d::ds,xs,us,hl,q,r=>by
  have rH:d.canLay0=true/\bb ds=true:=by simpa[bb]using hl
  simp only[DenAll]at q;obtain⟨v,rs,rfl,h1,h2⟩:=q;cases r with
  |cons r1 r2=>
   obtain⟨as,ra⟩:=Den.reads ok d rH.1 h1 r1;obtain⟨bs,rb⟩:=DenAll.reads ok ds rH.2 h2 r2;exact⟨_,.cons ra rb⟩
end
section
variable {X:Cx}
def tyD:bj->String
 |.int _=>"int"
 |.bool _=>"bool"
 |.list _=>"list"
 |.tuple _=>"tuple"
 |.none=>"NoneType"
 |.str _=>"str"
 |.dict _=>"dict"
def Den.ty{K:af}{H:Hp}{v:V}:∀{d:bj},Den H v d->TyOf K H v (.type (tyD d))
 |.none,h=>by simp only[Den]at h;subst h;exact .non
 |.bool _,h=>by simp only[Den]at h;subst h;exact .bl _
 |.int _,h=>by simp only[Den]at h;subst h;exact .int _
 |.str _,h=>by simp only[Den]at h;subst h;exact .str _
 |.list _,h=>by simp only[Den]at h;obtain⟨a,xs,rfl,h1,_⟩:=h;exact .lst h1
 |.tuple _,h=>by simp only[Den]at h;obtain⟨a,xs,rfl,h1,_⟩:=h;exact .tup h1
 |.dict _,h=>by simp only[Den]at h;obtain⟨_,a,rfl,h1⟩:=h;exact .dK h1
def Inv.sysBelow(I:Inv X pins σ H s):dq<s.heap.objs.size:=by
 have h:bS<s.heap.objs.size:=(I.mod.glob.keeps I.bk).lt;exact jz (by decide) h
end
def l6(h:H p=xI)(o:HO):Same H (upd H p o):=λb u q=>by rw[c7 (i7 q h)];exact q
def b2N(e:Same H H')(h:H p=xI)(o:HO):Same H (upd H' p o):=λb u q=>by rw[c7 (i7 q h)];exact e b u q
def PTs(X:Cx)(ifs:List Expr)(tt:TT):Prop:=
 ∀(pins:List (aw×fY)) (s:au) (σ:St) (H:Hp) (Q:Bool->Hp->Prop),Inv X pins σ H s->tt σ H Q->
  aX (aY X.prog X.w) X.A (forIn ifs true λc r=>if r=true then do let ok <-BZ c X.env (cK c X.env);pure (fE ok) else pure (fE r)) (TP X pins σ Q) X.xe s
def c2q:TT:=λ_ H Q=>Q true H
def a9t:PTs X [] c2q:=λ_ _ σ H _ I h=>wpAny_tests_nil ⟨H,I,h⟩
section
variable {prog:bw}{w:b_}{A:bQ}{R:Result->au->Prop}{s:au}
def a4o(I:Nat->au->Prop)
  (turn:∀n s,I n s->aX (aY prog w) A (uI it) (λr s₁=>match r with
   |none=>R (.ok .next) s₁
   |some v=>aX (aY prog w) A (mz target it v) (λ_ s₂=>aX (aY prog w) A (assign target env v) (λ_ s₃=>
     aX (aY prog w) A (forIn ifs true λc r=>if r=true then do let ok <-BZ c env (cK c env);pure (fE ok) else pure (fE r)) (λok pD=>
     if ok=true then aX (aY prog w) A (cK elt env) (λx s₄=>
      aX (aY prog w) A (call (.builtin "list.append") [acc,x]) (λ_ s₅=>∃m,m<n/\I m s₅) (λ_ _=>False) s₄) (λ_ _=>False) pD
     else ∃m,m<n/\I m pD)
     (λ_ _=>False) s₃) (λ_ _=>False) s₂) (λ_ _=>False) s₁) (λ_ _=>False) s)
  (n:Nat) (h:I n s) :
  gR (aY prog w) A (.compLoop (.ListComp elt [⟨target,iter,ifs,0⟩] scope pos) 0 it acc env) R s:=by
 refine codeAny_loop rfl I (λn s hI=>?_) n h;show aX _ _ ((compTurn (.ListComp elt [⟨target,iter,ifs,0⟩] scope pos) 0 it acc env).onRaise (λx=>do noteFrame x env;theTreesLotGoes x)) _ _ s;refine wpAny_noted ?_;rw[compTurn_list];refine ae (xx (ae (d_ (turn n s hI) (λr s₁ h₁=>?_) λ_ _ h'=>h'.elim)));cases r with
 |none=>exact aC h₁
 |some v=>
  refine ae (d_ h₁ (λ_ s₂ h₂=>?_) λ_ _ h'=>h'.elim);refine ae (d_ h₂ (λ_ s₃ h₃=>ae (d_ h₃ (λok pD ou=>?_) λ_ _ h'=>h'.elim)) λ_ _ h'=>h'.elim);cases ok with
  |false=>
   rw[aJ cj]at ou;exact ae (aC (aC ⟨rfl,ou⟩))
  |true=>
   rw[aB rfl]at ou;exact ae (ae (d_ ou (λx s₄ h₄=>ae (d_ h₄ (λ_ s₅ h₅=>aC (aC ⟨rfl,h₅⟩)) λ_ _ h'=>h'.elim)) λ_ _ h'=>h'.elim))
end
def a7X(wi:TI)(g:TG)(tt:TT)(te:TE)(τ:St->St):TE:=λσ H Q=>wi σ H λJ H1=>∀D,H1 D=xI->∃W:Nat->Nat->List V->St->Hp->Prop,(∃m,W 0 m [] (τ σ) (upd H1 D (.lst [])))/\
 ∀i m ys σ' H',W i m ys σ' H'->(J.stop i H'/\Q (.ref D) H')∨
  (J.go i H'/\∃(N:V->St->Hp->Prop) (NO:St->Hp->Prop),(∀y σ3 H4,N y σ3 H4->H4 D=xn (.lst ys)/\ys.length<a_/\∃m',m'<m/\W (i+1) m' (ys++[y]) σ3 (upd H4 D (.lst (ys++[y]))))/\
   (∀σ3 H4,NO σ3 H4->∃m',m'<m/\W (i+1) m' ys σ3 H4)/\∀x H2,J.yld i H' x H2->g x σ' H2 λσ3 H3=>tt σ3 H3 λb H4=>if b=true then te σ3 H4 λy H5=>N y σ3 H5 else NO σ3 H4)
section
variable {X:Cx}{N:List bE}{scope:gk}{cl:List (bE×aw)}{τ:St->St}{elt tg iter:Expr}{ifs:List Expr}{pos:fM}{wi:TI}{g:TG}{tt:TT}{te:TE}
def b0P(hc:X.calm=true)(hi:PI X tg iter wi)(C:CompIn X N scope cl τ)(hg:∀Cl s H fp,PG (P0 X N scope cl Cl s H fp) tg g)(ht:∀Cl s H fp,PTs (P0 X N scope cl Cl s H fp) ifs tt)(he:∀Cl s H fp,PE (P0 X N scope cl Cl s H fp) elt te)
  (I:Inv X pins σ H s) (h:a7X wi g tt te τ σ H R) {PP:aj->aw->Result->au->Prop}
  (DX:∀D Cl Hn s' o m,Inv X pins σ Hn s'->R (.ref D) Hn->a4j X pins Hn Cl->s'.heap.get? Cl=xn o->(∀v,o.data≠.cell v)->(∀h':cR,h'.get? Cl=xn o->h'.Ns Cl m)->PP (.ref D) Cl (.ok .next) s') :
  aX (aY X.prog X.w) X.A (cK iter X.env) (λx s₁=>aX (aY X.prog X.w) X.A (pyIter x) (λit s₂=>aX (aY X.prog X.w) X.A (newList []) (λacc s₃=>
   aX (aY X.prog X.w) X.A (newFunctionEnv scope X.env.globals cl [] X.env.qual xI .none (xn X.env)) (λwe s₄=>
    gR (aY X.prog X.w) X.A (.compStart (.ListComp elt [⟨tg,iter,ifs,0⟩] scope pos) 0 it acc {we with scope:=ma scope X.env}) (PP acc we.locals) s₄) X.xe s₃) X.xe s₂) X.xe s₁) X.xe s:=by
 refine thn (hi pins s σ H _ I h) λx s1 h1=>thn h1 λxQ s2 h2=>?_
 obtain⟨it,fp,tn,J,H2,rfl,I2,T,kU,f2,q⟩:=h2;refine iP (wpAny_newFunctionEnv C.ncell (by intro y hy;simp at hy) (λh₁ nQ mM=>?_) C.kind)
 dsimp only at nQ mM ⊢
 generalize zj:s2.heap.push {cls:=.type "list",dict:=xI,data:=.seq ([]:List aj).toArray}=G2 at nQ mM ⊢;have hC:G2.objs.size=s2.heap.objs.size+1:=by rw[<-zj,cR.size_push]
 have AV:s2.heap.objs.size≠G2.objs.size:=by rw[hC];exact bM (EL _)
 have tm:s2.heap.objs.size<=G2.objs.size:=by rw[hC];exact wo _
 have below:∀b,b<s2.heap.objs.size->b≠G2.objs.size:=λb hb=>by rw[hC];exact bM (Nat.lt_succ_of_lt hb)
 have old:∀b o,s2.heap.get? b=xn o->h₁.get? b=xn o:=λb o e=>mM.extBut b o (below b (aU e)) (aE _ (zj▸aE _ e))
 have nW:h₁.get? s2.heap.objs.size=xn {cls:=.type "list",dict:=xI,data:=.seq ([]:List aj).toArray}:=mM.extBut _ _ AV (aE _ (zj▸be _ rfl));have zt:∀b∈fp,b<s2.heap.objs.size:=λb hb=>by
  obtain⟨o,e,_⟩:=T.obj 0 _ kU b hb;exact aU e
 have AU:H2 s2.heap.objs.size=xI:=I2.hok.fresh (ay _);have Ef:H2 G2.objs.size=xI:=I2.hok.fresh tm;generalize xf:G2.objs.size=Cl at *;have BG:∀b∈frs X.stack,b<s2.heap.objs.size:=λb hb=>by
  rcases aH.mp (I2.stkSub b hb) with e|hb
  ·rw[e];exact I2.lt
  ·obtain⟨_,o,ho,_⟩:=I2.funs.mem hb;exact aU ho
 have xG:(P0 X N scope cl Cl s2 H2 fp).Ok:=by
  refine⟨I2.ok.mod,C.kind,I2.ok.glob,I2.ok.blt,tm,λx y c e1 e2=>I2.ok.inj x y c (C.sub x c e1) (C.sub y c e2),λx hx=>?_,λx c hx _=>(nomatch hx),λz=>I2.ok.hd z,I2.ok.frames,.inl rfl,λb hb=>⟨below b (zt b hb),λx c e=>(f2 b hb).2.2.2.2.1 x c (C.sub x c e)⟩,
   I2.bs,cC I2.ok.bsz I2.sz,λb o e hb=>?_,λb hb z=>?_,I2.stack,I2.stkFree,I2.tabs⟩
  ·obtain⟨y,hy,rfl,ey⟩:=a0I C.ncell hx;exact C.has y hy ey
  ·rcases (f2 b hb).2.2.2.1 with z|z
   ·exact I2.ok.noex b o e z
   ·exact absurd (bo (aU e) (cC I2.ok.bsz z)) (dQ _)
  ·rcases aH.mp (I2.stkSub b z) with e|e
   ·exact (f2 b hb).2.1 e
   ·exact (f2 b hb).2.2.1 e
 have I4:Inv (P0 X N scope cl Cl s2 H2 fp) pins (τ σ) (upd H2 s2.heap.objs.size (.lst [])) {s2 with heap:=h₁,toks:=s2.toks+([]:List (bE×aj)).length}:=by
  have lc:=I2.loc;obtain⟨m,hn,hl⟩:=lc;refine⟨xG,rfl,I2.bare,Un.laid old (ay _) AU,⟨_,nQ,λi x v e1 e2 e3=>?_⟩,λx c e=>?_,?_,λx c e=>?_,λp hp=>?_,I2.hok.laid old (ay _) ⟨cE _,[],_,.nil,nW⟩,C.tlen σ⟩
  ·obtain⟨j,j1,j2,j3,j4⟩:=C.tval σ i x v e1 e2;have kx:(ma scope X.env).names.lookup x=xn .cell∨(ma scope X.env).names.lookup x=xn .free:=a5u j3;obtain⟨y,hy,El,ey⟩:=a0I C.ncell kx;obtain⟨c,ui⟩:=C.has y hy ey;rw[El]at ui;have yS:=C.sub x c ui;have hv:Vis X.env.scope x:=.inr j4;obtain⟨u,ru,lk⟩:=hl j x v j1 j2 hv;refine⟨u,ru,?_⟩;rcases lk with⟨k,_⟩|⟨k,c',e',z⟩
   ·rcases j4 with j4|j4
    ·rw[j4]at k;cases k
    ·rw[j4]at k;cases k
   ·rw[yS]at e';cases e'
    obtain⟨o,ho,hd⟩:=z;exact .inr ⟨kx,c,ui,⟨o,old c o ho,hd⟩⟩
  ·obtain⟨v,o,ho,hd⟩:=I2.cell x c (C.sub x c e);exact⟨v,o,old c o ho,hd⟩
  ·show upd H2 s2.heap.objs.size (.lst []) Cl=xI;rw[c7 (cY AV)];exact Ef
  ·have n:=I2.freeC x c (C.sub x c e);obtain⟨v,o,ho,hd⟩:=I2.cell x c (C.sub x c e);rw[c7 (bM (aU ho))];exact n
  ·obtain⟨e,n,ne,nf,d⟩:=I2.pin p hp;refine⟨old _ _ e,by rw[c7 (bM (aU e))];exact n,below _ (aU e),λz=>?_,d⟩;rcases aH.mp (I2.stkSub p.1 z) with e'|e'
   ·exact ne e'
   ·exact nf e'
 have nM:∀{H':Hp},(∀b∈fp,H' b=xI)->∀b∈fp,a4j (P0 X N scope cl Cl s2 H2 fp) pins H' b:=λhn b hb=>
  ⟨hn b hb,below b (zt b hb),xG.exfs b hb,.inl hb,(xG.exf b hb).2,(f2 b hb).2.2.2.2.2⟩
 obtain⟨W,⟨m0,w0⟩,turn⟩:=q s2.heap.objs.size AU;have loop:∀s₃:au,s₃={s2 with heap:=h₁,toks:=s2.toks+([]:List (bE×aj)).length}->
   gR (aY X.prog X.w) X.A (.compLoop (.ListComp elt [⟨tg,iter,ifs,0⟩] scope pos) 0 (.ref it) (.ref s2.heap.objs.size) (compEnvC scope cl Cl X.env)) (PP (.ref s2.heap.objs.size) Cl) s₃:=by
  rintro s₃ rfl;refine a4o (λn s'=>∃i ys σ' H',Inv (P0 X N scope cl Cl s2 H2 fp) pins σ' H' s'/\tn i s'.heap/\(∀b∈fp,H' b=xI)/\W i n ys σ' H') ?_ m0
   ⟨0,[],τ σ,_,I4,T.keep _ _ _ kU λb hb o e=>old b o e,λb hb=>by rw[c7 (bM (zt b hb))];exact (f2 b hb).1,w0⟩
  rintro n s3 ⟨i,ys,σ3,H3,I3,jj,v_,w3⟩;rcases turn i n ys σ3 H3 w3 with⟨stop,qn⟩|⟨go,NN,NO,hN,hO,step⟩
  ·refine thn (T.done (P0 X N scope cl Cl s2 H2 fp) rfl rfl rfl hc i pins s3 σ3 H3 _ I3 (nM v_) jj stop) λr s4 ⟨hr,I5⟩=>?_
   subst hr;have lc:=I5.loc;obtain⟨m,hn,_⟩:=lc;obtain⟨o,es,ep,ho,hd,jD⟩:=hn;have J5:Inv X pins σ H3 s4:=I2.call' (ch:=fp) I5.os I5.base I5.hok I5.bare λb hb=>⟨(f2 b hb).2.2.2.1,(f2 b hb).2.1,(f2 b hb).2.2.2.2.1,(f2 b hb).2.2.2.2.2⟩
   refine DX _ Cl H3 s4 o m J5 qn (I2.fpOk tm I5.free) ho (λv z=>by rw[hd]at z;cases z) λh' e=>⟨o,es,ep,e,hd,jD⟩
  ·refine thn (T.item (P0 X N scope cl Cl s2 H2 fp) rfl rfl rfl hc i pins s3 σ3 H3 _ I3 (nM v_) jj go) λr s4 ⟨u,hr,h4⟩=>?_
   subst hr;refine thn h4 λ_ s5 ⟨x,H5,I5,r5,y5,pj,zq⟩=>?_
   have zL:=I5.pinned (nM zq) (T.obj _ _ pj);refine thn (hg Cl s2 H2 fp _ s5 σ3 H5 x u _ zL r5 (step x H5 y5)) λ_ s6 ⟨σ6,H6,I6,q6⟩=>?_
   refine thn (ht Cl s2 H2 fp _ s6 σ6 H6 _ I6 q6) λok BI ⟨ET,xu,wB⟩=>?_
   cases ok with
   |false=>
    rw[aJ cj]at wB ⊢;obtain⟨m',hm,w7⟩:=hO _ _ wB;refine⟨m',hm,i+1,ys,σ6,_,xu.unpinned,T.keep _ _ _ pj λb hb o e=>(xu.pin (b,o) (ah _ (ah _ (F7 hb e)))).1,λb hb=>?_,w7⟩;obtain⟨o,e,d⟩:=T.obj _ _ pj b hb;exact (xu.pin (b,o) (ah _ (ah _ (F7 hb e)))).2.1
   |true=>
    rw[aB rfl]at wB ⊢;refine thn (he Cl s2 H2 fp _ BI σ6 ET _ xu wB) λyv s7 ⟨y,H7,I7,r7,q7⟩=>?_
    obtain⟨BM,BL,m',hm,w7⟩:=hN _ _ _ q7;refine thn (Y1 (X:=P0 X N scope cl Cl s2 H2 fp) _ s7 σ6 H7 (.ref s2.heap.objs.size) [y] (.ref s2.heap.objs.size) [yv] (λ_ H8=>H8=upd H7 s2.heap.objs.size (.lst (ys++[y]))) I7 rfl (.cons r7 .nil)
     ⟨_,ys,y,rfl,rfl,BM,BL,rfl⟩) λ_ s8 ⟨_,H8,I8,_,e8⟩=>?_
    subst e8;refine⟨m',hm,i+1,ys++[y],σ6,_,I8.unpinned,T.keep _ _ _ pj λb hb o e=>(I8.pin (b,o) (ah _ (ah _ (F7 hb e)))).1,λb hb=>?_,w7⟩;obtain⟨o,e,d⟩:=T.obj _ _ pj b hb;exact (I8.pin (b,o) (ah _ (ah _ (F7 hb e)))).2.1
 have iz:tn 0 h₁:=T.keep _ _ _ kU λb hb o e=>old b o e
 exact codeAny_compStart_list (loop _ rfl) (T.self X.A 0 {s2 with heap:=h₁,toks:=s2.toks+([]:List (bE×aj)).length} _ _ iz (loop _ rfl))
end
def w9(env:oe):List (bE×iU)->List (bE×aw)->List (bE×aw)
 |[],cs=>cs
 | (n,k)::r,cs=>w9 env r (if k==.free then (n,(env.cells.lookup n).getD 0)::cs else cs)
theorem V3{env:oe}:∀(names:List (bE×iU)) (cs:List (bE×aw)),(∀y∈names,y.2=.free->∃c,env.cells.lookup y.1=xn c)->
  (forIn names cs λ(x:bE×iU) (cs:List (bE×aw))=>(if x.2==.free then do let a <-cellOf env x.1;pure (fE ((x.1,a)::cs)) else pure (fE cs):zD (ForInStep (List (bE×aw)))))=pure (w9 env names cs)
 |[],cs,_=>by rw[qd];rfl
 | (n,k)::r,cs,h=>by
  rw[o_]
  dsimp only
  by_cases hk:(k==fC)=true
  ·obtain⟨c,hc⟩:=h (n,k) aK (by simpa using hk);rw[aB hk];have e:cellOf env n=pure c:=by unfold cellOf;rw[hc]
   rw[e];have:=V3 r ((n,c)::cs) λy hy=>h y (av _ hy)
   have e2:w9 env ((n,k)::r) cs=w9 env r ((n,c)::cs):=by
    show w9 env r (if k==.free then (n,(env.cells.lookup n).getD 0)::cs else cs)=_;rw[aB hk,hc];rfl
   rw[e2,<-this];simp only[pure_bind]
  ·rw[aJ hk];have:=V3 r cs λy hy=>h y (av _ hy)
   have e2:w9 env ((n,k)::r) cs=w9 env r cs:=by
    show w9 env r (if k==.free then (n,(env.cells.lookup n).getD 0)::cs else cs)=_;rw[aJ hk]
   rw[e2,<-this];simp only[pure_bind]
def a7Y{scope:gk}{env:oe}(h:∀y∈scope.names,y.2=.free->∃c,env.cells.lookup y.1=xn c):oV scope env=pure (w9 env scope.names []):=by
 have:=V3 scope.names [] h;rw[<-this];unfold oV;simp
theorem a0o{env:oe}:∀(names:List (bE×iU)) (cs:List (bE×aw)),(∀y∈names,y.2=.free->∃c,env.cells.lookup y.1=xn c)->(∀p∈cs,env.cells.lookup p.1=xn p.2)->
  (∀p∈w9 env names cs,env.cells.lookup p.1=xn p.2)/\(∀p∈cs,p∈w9 env names cs)/\∀y∈names,y.2=.free->∃c,(y.1,c)∈w9 env names cs
 |[],cs,_,hc=>⟨hc,λ_ h=>h,λy hy=>(nomatch hy)⟩
 | (n,k)::r,cs,h,hc=>by
  by_cases hk:(k==fC)=true
  ·obtain⟨c,e⟩:=h (n,k) aK (by simpa using hk);have e2:w9 env ((n,k)::r) cs=w9 env r ((n,c)::cs):=by
    show w9 env r (if k==.free then (n,(env.cells.lookup n).getD 0)::cs else cs)=_;rw[aB hk,e];rfl
   rw[e2];obtain⟨a,b,d⟩:=a0o r ((n,c)::cs) (λy hy=>h y (av _ hy)) λp hp=>by
    rcases aH.mp hp with z|z
    ·rw[z];exact e
    ·exact hc p z
   refine⟨a,λp hp=>b p (av _ hp),λy hy hf=>?_⟩;rcases aH.mp hy with z|z
   ·rw[z];exact⟨c,b _ aK⟩
   ·exact d y z hf
  ·have e2:w9 env ((n,k)::r) cs=w9 env r cs:=by
    show w9 env r (if k==.free then (n,(env.cells.lookup n).getD 0)::cs else cs)=_;rw[aJ hk]
   rw[e2];obtain⟨a,b,d⟩:=a0o r cs (λy hy=>h y (av _ hy)) hc;refine⟨a,b,λy hy hf=>?_⟩;rcases aH.mp hy with z|z
   ·rw[z]at hf;exact absurd (by simpa using hf) hk
   ·exact d y z hf
theorem a0b:∀{l:List (bE×aw)},(x,c)∈l->∃c',l.lookup x=xn c'
 |[],h=>nomatch h
 | (y,d)::l,h=>by
  rw[fQ];cases e:x==y with
  |true=>exact⟨d,rfl⟩
  |false=>
   rcases aH.mp h with z|z
   ·cases z;simp at e
   ·exact a0b z
def a0J(scope:gk)(okind:bE->Option iU)(ys:List bE)(js:List Nat)(XN:List bE):Bool:=
 scope.kind==.function&&scope.names.all (λy=>y.2 !=.cell&&(y.2 !=.local||scope.names.lookup y.1==xn .local)&&(y.2 !=.free||(okind y.1==xn .cell||okind y.1==xn .free))) &&
 ys.length==js.length&&(ys.zip js).all λp=>XN[p.2]?==xn p.1&&scope.names.lookup p.1==xn .free&&(okind p.1==xn .cell||okind p.1==xn .free)
def a3a(tn:List bE)(js:List Nat):St->St:=λσ=>aT tn.length xI++js.map λj=>(σ[j]?).getD xI
def b0Q{X:Cx}{scope:gk}(ok:X.Ok)(h:a0J scope X.env.kindOf ys js X.N=true):CompIn X (tn++ys) scope (w9 X.env scope.names []) (a3a tn js):=by
 unfold a0J at h;rw[aD,aD,aD,dH,dH]at h;obtain⟨⟨⟨hk,ha⟩,hl⟩,hz⟩:=h;have mC:∀y∈scope.names,y.2≠.cell:=λy hy e=>by
  have:=ha y hy;rw[e]at this;simp at this
 have yC:∀y∈scope.names,y.2=.local->scope.names.lookup y.1=xn .local:=λy hy e=>by
  have:=ha y hy;rw[e]at this;simpa using this
 have nj:∀y∈scope.names,y.2=.free->∃c,X.env.cells.lookup y.1=xn c:=λy hy e=>by
  have:=ha y hy;rw[e]at this;refine ok.has y.1 ?_;simpa using this
 obtain⟨a,_,d⟩:=a0o scope.names [] nj λp hp=>(nomatch hp)
 refine⟨a7Y nj,by simpa using hk,mC,yC,λx c e=>a _ (cy e),λy hy e=>?_,λσ=>?_,λσ i x v h1 h2=>?_⟩
 ·obtain⟨c,hc⟩:=d y hy e;exact a0b hc
 ·have:ys.length=js.length:=by simpa using hl
  unfold a3a;simp[this]
 ·unfold a3a at h2;by_cases hi:i<tn.length
  ·rw[dI (by simpa using hi),r_]at h2
   split at h2<;>cases h2
  ·rw[cQ (by simpa using hi),gh,aR]at h2;rw[cQ (by lia)]at h1;cases hj:js[i-tn.length]? with
   |none=>rw[hj]at h2;cases h2
   |some j=>
    rw[hj]at h2;have h3:(σ[j]?).getD xI=xn v:=by simpa using h2
    have iQ:(x,j)∈ys.zip js:=by
     have hlen:=(aL.mp h1).1;have Aw:=(aL.mp hj).1;rw[cS];refine⟨i-tn.length,?_⟩;rw[qE];exact⟨h1,hj⟩
    have:=hz _ iQ;rw[aD,aD,ll]at this;obtain⟨⟨e1,e2⟩,e3⟩:=this;refine⟨j,by simpa using e1,?_,by simpa using e2,by simpa using e3⟩;cases q:σ[j]? with
    |none=>rw[q]at h3;cases h3
    |some o=>rw[q]at h3;have:o=xn v:=h3;rw[this]
section
variable {X:Cx}{tn ys:List bE}{js:List Nat}{scope:gk}{elt tg iter:Expr}{ifs:List Expr}{pos:fM}{wi:TI}{g:TG}{tt:TT}{te:TE}
def a6D(hc:X.calm=true)(hi:PI X tg iter wi)(C:a0J scope X.env.kindOf ys js X.N=true)(hg:∀cl Cl s H fp,PG (P0 X (tn++ys) scope cl Cl s H fp) tg g)(ht:∀cl Cl s H fp,PTs (P0 X (tn++ys) scope cl Cl s H fp) ifs tt)(he:∀cl Cl s H fp,PE (P0 X (tn++ys) scope cl Cl s H fp) elt te)
  (hs:∀x,fN iter X.env x=pure x:=by intro _;rfl):PE X (.ListComp elt [⟨tg,iter,ifs,0⟩] scope pos) (a7X wi g tt te (a3a tn js)):=by
 intro pins s σ H Q I h;have C:=b0Q (tn:=tn) I.ok C;rw[eval_ListComp];refine wpAny_comprehension_free (use:=xI) rfl hs C.clos C.kind C.names (b0P hc hi C (hg _) (ht _) (he _) I h (PP:=λacc Cl=>compPost (aY X.prog X.w) X.A X.xe xI (EP X pins σ Q) acc Cl) ?_);intro D Cl Hn s' o m I' hq F ho hd sJ;refine⟨m,sJ _ ho,λh' iO=>⟨.ref D,Hn,?_,rfl,hq⟩⟩;exact I'.turned (t':=s'.toks) (λb ob hb e=>(iO.2 b hb).trans e) F.1 F.2.1 F.2.2.2.1 F.2.2.2.2.1 F.2.2.2.2.2
end
end L2
namespace VS
open PySem PySem.Spec L2
abbrev D:=bj
mutual
def B6:D->Bool
 |.int _=>true
 |.tuple ds=>o7 ds
 |.none|.bool _|.str _|.list _|.dict _=>false
def o7:List D->Bool
 |[]=>true
 |d::ds=>B6 d&&o7 ds
end
mutual
def hashD:D->Int
 |.int i=>hashInt i
 |.tuple ds=>reduceHash (eJ (z0 ds))
 |.none|.bool _|.str _|.list _|.dict _=>0
def z0:List D->List Int
 |[]=>[]
 |d::ds=>hashD d::z0 ds
end
mutual
def t9:D->Nat
 |.int _=>1
 |.tuple ds=>P1 ds+1
 |.none|.bool _|.str _|.list _|.dict _=>0
def P1:List D->Nat
 |[]=>0
 |d::ds=>t9 d+P1 ds
end
mutual
theorem V4:∀d:D,B6 d=true->d.canLay0=true
 |.int _,_=>by simp only[eQ]
 |.tuple ds,h=>by
  simp only[B6]at h;simp only[eQ];exact a2b ds h
 |.none,h|.bool _,h|.str _,h|.list _,h|.dict _,h=>by simp only[B6]at h;cases h
theorem a2b:∀ds:List D,o7 ds=true->bb ds=true
 |[],_=>by simp only[bb]
 |d::ds,h=>by
  simp only[o7,aD]at h;simp only[bb,aD];exact⟨V4 d h.1,a2b ds h.2⟩
end
mutual
theorem D6:∀a b:D,B6 a=true->B6 b=true->(aI a b=true↔a=b)
 |.int i,b,_,hb=>by
  cases b with
  |int j=>
   show (i==j)=true↔_;rw[beq_iff_eq];exact⟨λe=>by rw[e],λe=>by injection e⟩
  |tuple ds=>simp[aI]
  |_=>simp only[B6]at hb;cases hb
 |.tuple xs,b,ha,hb=>by
  cases b with
  |int j=>simp[aI]
  |tuple ys=>
   simp only[B6]at ha hb;simp only[aI];rw[a2c xs ys ha hb];exact⟨λe=>by rw[e],λe=>by injection e⟩
  |_=>simp only[B6]at hb;cases hb
 |.none,b,h,_|.bool _,b,h,_|.str _,b,h,_|.list _,b,h,_|.dict _,b,h,_=>by simp only[B6]at h;cases h
theorem a2c:∀a b:List D,o7 a=true->o7 b=true->(cu a b=true↔a=b)
 |[],[],_,_=>by simp[cu]
 |[],_::_,_,_=>by simp[cu]
 |_::_,[],_,_=>by simp[cu]
 |x::xs,y::ys,ha,hb=>by
  simp only[o7,aD]at ha hb;simp only[cu,aD];rw[D6 x y ha.1 hb.1,a2c xs ys ha.2 hb.2]
  constructor
  ·rintro⟨rfl,rfl⟩;rfl
  ·intro e;injection e with e1 e2;exact⟨e1,e2⟩
end
mutual
theorem a3b{h h':cR}{es ep}(ho:h.get? d=xn o)(hd:o.data=.dict es ep)(hs:mq d h h'):∀(k:D) {v:aj} {as:List aw},B6 k=true->Reads h v k as->Reads h' v k as
 |.int _,_,_,_,r=>by cases r;exact .int _ _
 |.tuple ds,_,_,hk,r=>by
  simp only[B6]at hk;cases r with
  |@tuple a oo vs n _ as c1 c2 c3 c4=>
   have gM:a≠d:=by
    rintro rfl;obtain rfl:oo=o:=aF (c1.symm.trans ho);rw[hd]at c3;exact nomatch c3
   exact .tuple ((hs.2 a gM).trans c1) c2 c3 (a0c ho hd hs ds hk c4)
 |.none,_,_,h,_|.bool _,_,_,h,_|.str _,_,_,h,_|.list _,_,_,h,_|.dict _,_,_,h,_=>by simp only[B6]at h;cases h
theorem a0c{h h':cR}{es ep}(ho:h.get? d=xn o)(hd:o.data=.dict es ep)(hs:mq d h h'):∀(ks:List D) {vs:List aj} {as:List aw},o7 ks=true->iT h vs ks as->iT h' vs ks as
 |[],_,_,_,r=>by cases r;exact .nil
 |k::ks,_,_,hk,r=>by
  simp only[o7,aD]at hk;cases r with
  |cons r1 r2=>exact .cons (a3b ho hd hs k hk.1 r1) (a0c ho hd hs ks hk.2 r2)
end
section
variable {prog:bw}{w:b_}{E:aj->au->Prop}
mutual
theorem a3c:∀(k:D) {A:bQ} {s:au} {v:aj} {as:List aw} {Q:Int->au->Prop},B6 k=true->A.units+k.depth<dF->Reads s.heap v k as->Q (hashD k) {s with toks:=s.toks+t9 k}->aX (aY prog w) A (pyHash v) Q E s
 |.int i,A,s,v,as,Q,_,_,r,h=>by
  cases r
  simp only[hashD,t9]at h;exact wpAny_pyHash_int h
 |.tuple ds,A,s,v,as,Q,hk,hu,r,h=>by
  simp only[B6]at hk;simp only[fB]at hu;simp only[hashD,t9]at h;cases r with
  |@tuple a o items n _ as ho hc hd hi=>
   have hT:s.TypeIs (.ref a) "tuple":=⟨o,ho,hc⟩;unfold pyHash
   first|unfold pyHashByItsType|skip
   first|refine ae (wpAny_cRoomFor_or (.inr (by lia)) ?_)|skip
   refine ae (gu hT lh.lookup ?_);show aX _ _ (if (xn (aj.builtin "tuple.__hash__")==xn bt)=true then _ else _) Q E s;rw[aJ (by rw[beq_builtin_none];exact cj)];refine ae (gu hT lh.lookup ?_);show aX _ _ (callSpecialIfBoundUnlessNone? (.ref a) "__hash__" _ >>= _) Q E s;refine ae (wpAny_callSpecialIfBoundUnlessNone?_slot hT lh (dN lh hT F.entry_tuple_hash ?_ (F.args_tuple_hash_1 _)));show aX _ _ (Builtin.Tuple.tupleItemsOf (.ref a) >>= _) _ _ s;refine ae (wpAny_tupleItemsOf ho hd ?_);refine ae ?_;rw[<-jP];refine a4H ds (A:=A.in1) (acc:=#[]) hk (by show A.units+1+_<_;lia) hi ?_;show aX _ _ (retInt (eJ _)) _ _ _;simp only[mv,bJ];refine wpAny_ret_mkInt ?_;show aX _ _ (if (decide (-(2:Int)^63<=eJ (z0 ds))&&decide (eJ (z0 ds)<2^63))=true then _ else _) Q E _;unfold reduceHash at h;by_cases hr:(decide (-(2:Int)^63<=eJ (z0 ds))&&decide (eJ (z0 ds)<2^63))=true
   ·rw[aB hr];rw[aB hr]at h;exact aC (by simpa[gd]using h)
   ·rw[aJ hr];rw[aJ hr]at h;exact ae (iw (aC (by simpa[gd]using h)))
 |.none,_,_,_,_,_,h,_,_,_|.bool _,_,_,_,_,_,h,_,_,_|.str _,_,_,_,_,_,h,_,_,_|.list _,_,_,_,_,_,h,_,_,_|.dict _,_,_,_,_,_,h,_,_,_=>by simp only[B6]at h;cases h
theorem a4H:∀(ks:List D) {A:bQ} {s:au} {vs:List aj} {as:List aw} {acc:Array Int} {Q:Array Int->au->Prop},o7 ks=true->A.units+cX ks<dF->iT s.heap vs ks as->Q (acc++(z0 ks).toArray) {s with toks:=s.toks+P1 ks}->
  aX (aY prog w) A (forIn vs acc λx r=>do let r1 <-pyHash x;pure PUnit.unit;pure (fE (r.push r1))) Q E s
 |[],A,s,vs,as,acc,Q,_,_,r,h=>by
  cases r
  rw[qd];exact aC (by simpa[z0,P1]using h)
 |k::ks,A,s,vs,as,acc,Q,hk,hu,r,h=>by
  simp only[o7,aD]at hk;simp only[cX]at hu;cases r with
  |cons r1 r2=>
   rw[o_];refine ae (ae (a3c k hk.1 (by lia) r1 ?_));refine ae (aC (aC ?_));refine a4H ks (s:={s with toks:=s.toks+t9 k}) hk.2 (by lia) r2 ?_;simp only[z0,P1]at h;have e:(acc.push (hashD k))++(z0 ks).toArray=acc++(hashD k::z0 ks).toArray:=by simp
   rw[e];simpa[gd]using h
end
end
section
variable {prog:bw}{w:b_}{A:bQ}{E:aj->au->Prop}
mutual
theorem a4I:∀(k:D) (n:Nat) {s:au} {v:aj} {as:List aw} {Q:Bool->au->Prop},B6 k=true->k.depth<=n->Reads s.heap v k as->Q true s->aX (aY prog w) A (eqIsQuiet n v) Q E s
 |.int i,n,s,v,as,Q,_,_,r,h=>by
  cases r
  rw[eqIsQuiet_byValue n (v:=.int i _) rfl];exact aC h
 |.tuple ds,0,s,v,as,Q,_,hn,_,_=>by simp only[fB]at hn;lia
 |.tuple ds,n+1,s,v,as,Q,hk,hn,r,h=>by
  simp only[B6]at hk;simp only[fB]at hn;cases r with
  |@tuple a o items m _ as ho hc hd hi=>
   have hT:s.TypeIs (.ref a) "tuple":=⟨o,ho,hc⟩;unfold eqIsQuiet;refine ae (gu hT F.slot_tuple_eq.lookup ?_);show aX _ _ (isInstance (.ref a) (.type "tuple") >>= _) _ _ s;refine ae (lM hT isSubtype_tuple_tuple ?_);simp only[gf,bu,dr];refine ae (uC ho hd ?_);refine ae ?_;show aX _ _ (forIn items _ _) _ _ s;rw[<-jP];refine wpAny_forIn_list _ (λrest r s'=>r.1=xI/\s'=s/\∃ks bs,o7 ks=true/\cX ks<=n/\(∀k∈ks,k∈ds)/\iT s.heap rest ks bs) _ ?_ ?_ _ _ ⟨rfl,rfl,ds,as,hk,by lia,λk hk=>hk,hi⟩
   ·rintro v rest r s' ⟨hr,rfl,ks,bs,k1,k2,k3,k4⟩;cases k4 with
    |@cons _ _ d' jS _ _ r1 r2=>
     simp only[o7,aD]at k1;simp only[cX]at k2;refine ae (a4J ds n hk (by lia) d' (k3 d' aK) r1 ?_);simp only[gf,bu,dr];exact aC ⟨rfl,rfl,_,_,k1.2,by lia,λk hk=>k3 k (av _ hk),r2⟩
   ·rintro⟨r1,r2⟩ s' ⟨hr,rfl,_⟩;simp only at hr;subst hr;exact aC h
 |.none,_,_,_,_,_,h,_,_,_|.bool _,_,_,_,_,_,h,_,_,_|.str _,_,_,_,_,_,h,_,_,_|.list _,_,_,_,_,_,h,_,_,_|.dict _,_,_,_,_,_,h,_,_,_=>by simp only[B6]at h;cases h
theorem a4J:∀(ds:List D) (n:Nat),o7 ds=true->cX ds<=n->∀k∈ds,∀{s:au} {v:aj} {as:List aw} {Q:Bool->au->Prop},Reads s.heap v k as->Q true s->aX (aY prog w) A (eqIsQuiet n v) Q E s
 |[],n,_,_,k,hk,s,v,as,Q,r,h=>nomatch hk
 |d::ds,n,k_,hn,k,hk,s,v,as,Q,r,h=>by
  simp only[o7,aD]at k_;simp only[cX]at hn;rcases aH.mp hk with e|hk
  ·rw[e]at r;exact a4I d n k_.1 (by lia) r h
  ·exact a4J ds n k_.2 (by lia) k hk r h
end
end
noncomputable def b0R:DecidableEq D:=λa b=>Classical.propDecidable (a=b)
noncomputable def b2O(prog:bw)(w:b_):@HeapKind prog w D b0R:=
 letI:DecidableEq D:=b0R
 {
  is:=λh k a=>B6 k=true/\k.depth<=7/\∃as,Reads h (.ref a) k as
  hash:=hashD
  draws:=t9
  room:=λA=>A.units+8<dF
  inj:=λ⟨hx,_,_,r⟩ ⟨_,_,_,r'⟩=>SeqAt.Reads.unique _ _ _ _ _ (V4 _ hx) r r'
  keeps:=λ⟨hx,hd,_,r⟩ ho jR hs=>⟨hx,hd,_,a3b ho jR hs _ hx r⟩
  pyHash:=λhu ⟨hx,hd,_,r⟩ h=>a3c _ hx (by lia) r h
  eqBool:=λ{A E s x y a b Q} hu ⟨hx,hd,_,r⟩ ⟨hy,jR,_,r'⟩ h=>by
   refine rf x y A s _ _ _ _ r r' (V4 _ hx) (V4 _ hy) (by have:=lg x.depth y.depth;lia) _ _ _ _ ?_;have e:aI x y=@decide (x=y) (b0R x y):=by
    by_cases c:x=y
    ·rw[@aQ _ (b0R x y) c];exact (D6 x y hx hy).mpr c
    ·rw[@ba _ (b0R x y) c];cases q:aI x y with
     |false=>rfl
     |true=>exact absurd ((D6 x y hx hy).mp q) c
   rw[e];exact h
  quiet:=λ⟨hx,hd,_,r⟩ h=>a4I _ 8 hx (by lia) r h
 }
def U1(e:D×V×V)(x:gX):Prop:=x.hash=hashD e.1/\RelV e.2.1 x.key/\RelV e.2.2 x.val
def a5v:List D->Bool
 |.tuple [.int 0,.int 0]::_=>true
 |_=>false
abbrev Q9(es:List (D×V×V)):Bool:=a5v (es.map (·.1))
def g6(a:aw)(es:List (D×V×V)):HO:=.ext λh=>(a==dq)=false/\es.length<=a_/\(es.map (·.1)).Nodup/\∃o ents ep,h.get? a=xn o/\o.ExactDict/\o.data=.dict ents ep/\fK U1 es ents.toList/\(Q9 es=false->ep=es.length)
def Mu:HO->Prop
 |.lst _=>True
 |.dK _=>True
 |.ext _=>True
 |_=>False
abbrev MuO:={o:HO // Mu o}
def keyOk(kt:Bool)(k:D):Prop:=B6 k=true/\k.depth<=7/\(kt=true->∃ds,k=.tuple ds)/\(kt=false->∃i,k=.int i)
end VS
namespace VS
open PySem L2
mutual
def imm:bj->Bool
 |.none=>true
 |.bool _=>true
 |.int _=>true
 |.str _=>true
 |.list _=>false
 |.tuple ds=>e7 ds
 |.dict _=>false
def e7:List bj->Bool
 |[]=>true
 |d::ds=>imm d&&e7 ds
end
def SqX(K:af)(H:Hp)(a:aw)(xs:List V):Prop:=
 Rd H a (.lst xs)∨∃(its:List aj) (n:Nat),K.lookup a=xn {cls:=.type "list",data:=.seq its.toArray n}/\its.length<=a_/\Vals xs its
def SqX.l(h:SqX K H a xs):SqL K H a xs:=by
 rcases h with h|⟨its,n,h1,h2,h3⟩
 ·exact .inl h
 ·exact .inr ⟨_,its.toArray,n,h1,rfl,rfl,rfl,by simpa using h2,by simpa using h3⟩
theorem SqX.ok{X:Cx}(h:SqX X.K H a xs)(I:Inv X pins σ H s):xs.length<=a_/\∃(its:List aj) (n:Nat),Vals xs its/\s.heap.get? a=xn {cls:=.type "list",data:=.seq its.toArray n}:=by
 rcases h with h|⟨its,n,h1,h2,h3⟩
 ·exact h.ok I.hok
 ·exact⟨by rw[h3.length];exact h2,its,n,h3,I.kIn _ _ h1⟩
mutual
theorem V5:∀d:bj,B6 d=true->imm d=true
 |.int _,_=>by simp only[imm]
 |.tuple ds,h=>by
  simp only[B6]at h;simp only[imm];exact a2d ds h
 |.none,h|.bool _,h|.str _,h|.list _,h|.dict _,h=>by simp only[B6]at h;cases h
theorem a2d:∀ds:List bj,o7 ds=true->e7 ds=true
 |[],_=>by simp only[e7]
 |d::ds,h=>by
  simp only[o7,aD]at h;simp only[e7,aD];exact⟨V5 d h.1,a2d ds h.2⟩
end
mutual
def Den(K:af)(H:Hp):V->bj->Prop
 |v,.none=>v=.non
 |v,.bool b=>v=.bl b
 |v,.int i=>v=.int i
 |v,.str x=>v=.str x
 |v,.list ds=>∃a xs,v=.ref a/\SqX K H a xs/\DenAll K H xs ds
 |v,.tuple ds=>∃a xs,v=.ref a/\SqT K H a xs/\DenAll K H xs ds
 |v,.dict kvs=>∃a es,v=.ref a/\H a=xn (g6 a es)/\DenKV K H es kvs
def DenAll(K:af)(H:Hp):List V->List bj->Prop
 |xs,[]=>xs=[]
 |xs,d::ds=>∃v r,xs=v::r/\Den K H v d/\DenAll K H r ds
def DenKV(K:af)(H:Hp):List (bj×V×V)->List (bj×bj)->Prop
 |es,[]=>es=[]
 |es,(k,d)::r=>∃e q,es=e::q/\e.1=k/\Den K H e.2.1 k/\Den K H e.2.2 d/\DenKV K H q r
end
def Rd.up(h:Rd H a u)(e:Same H H'):Rd H' a u:=by
 rcases h with h|⟨o,h⟩
 ·exact .inl (e _ _ h)
 ·exact .inr ⟨o,e _ _ h⟩
def O6(h:SqX K H a xs)(e:Same H H'):SqX K H' a xs:=h.imp (λq=>Rd.up q e) id
def a0p(h:SqT K H a xs)(e:Same H H'):SqT K H' a xs:=h.imp (λq=>Rd.up q e) id
mutual
theorem Den.mono{K:af}{H H':Hp}(e:Same H H'):∀(d:bj) {v:V},Den K H v d->Den K H' v d
 |.none,_,h=>by simpa only [Den]using h
 |.bool _,_,h=>by simpa only [Den]using h
 |.int _,_,h=>by simpa only [Den]using h
 |.str _,_,h=>by simpa only [Den]using h
 |.list ds,_,h=>by
  simp only[Den]at h ⊢;obtain⟨a,xs,h1,h2,h3⟩:=h;exact⟨a,xs,h1,O6 h2 e,DenAll.mono e ds h3⟩
 |.tuple ds,_,h=>by
  simp only[Den]at h ⊢;obtain⟨a,xs,h1,h2,h3⟩:=h;exact⟨a,xs,h1,a0p h2 e,DenAll.mono e ds h3⟩
 |.dict kvs,_,h=>by
  simp only[Den]at h ⊢;obtain⟨a,es,h1,h2,h3⟩:=h;exact⟨a,es,h1,e _ _ h2,DenKV.mono e kvs h3⟩
theorem DenAll.mono{K:af}{H H':Hp}(e:Same H H'):∀(ds:List bj) {xs:List V},DenAll K H xs ds->DenAll K H' xs ds
 |[],_,h=>by simpa only [DenAll]using h
 |d::ds,_,h=>by
  simp only[DenAll]at h ⊢;obtain⟨v,r,h1,h2,h3⟩:=h;exact⟨v,r,h1,Den.mono e d h2,DenAll.mono e ds h3⟩
theorem DenKV.mono(e:Same H H'):∀(kvs:List (bj×bj)) {es:List (bj×V×V)},DenKV K H es kvs->DenKV K H' es kvs
 |[],_,h=>by simpa only [DenKV]using h
 | (k,d)::r,_,h=>by
  simp only[DenKV]at h ⊢;obtain⟨x,q,h1,h2,h3,h4,h5⟩:=h;exact⟨x,q,h1,h2,Den.mono e k h3,Den.mono e d h4,DenKV.mono e r h5⟩
end
section
variable {K:af}{H H':Hp}
def Den.up{d:bj}{v:V}(h:Den K H v d)(e:Same H H'):Den K H' v d:=Den.mono e d h
def DenAll.up{ds:List bj}{xs:List V}(h:DenAll K H xs ds)(e:Same H H'):DenAll K H' xs ds:=DenAll.mono e ds h
def den_none:Den K H .non .none:=by simp only[Den]
def den_bool{b:Bool}:Den K H (.bl b) (.bool b):=by simp only[Den]
def den_int{i:Int}:Den K H (.int i) (.int i):=by simp only[Den]
def den_list{a:aw}{xs:List V}{ds:List bj}(h:SqX K H a xs)(q:DenAll K H xs ds):Den K H (.ref a) (.list ds):=by
 simp only[Den];exact⟨a,xs,rfl,h,q⟩
def den_tup{a:aw}{xs:List V}{ds:List bj}(h:SqT K H a xs)(q:DenAll K H xs ds):Den K H (.ref a) (.tuple ds):=by
 simp only[Den];exact⟨a,xs,rfl,h,q⟩
theorem a6E:∀{es:List (bj×V×V)} {ds:List bj},(∀e∈es,Den K H e.2.1 e.1)->DenAll K H (es.map (·.2.2)) ds->DenKV K H es ((es.map (·.1)).zip ds)
 |[],ds,_,h=>by
  cases ds with
  |nil=>simp only[cW,nE,DenKV]
  |cons d ds=>simp only[DenAll]at h;obtain⟨v,r,h1,_⟩:=h;cases h1
 |e::es,ds,hk,h=>by
  cases ds with
  |nil=>simp only[DenAll]at h;cases h
  |cons d ds=>
   simp only[DenAll]at h;obtain⟨v,r,h1,h2,h3⟩:=h;cases h1
   simp only[ax,dt,DenKV];exact⟨e,es,rfl,rfl,hk e aK,h2,a6E (λe he=>hk e (av _ he)) h3⟩
def a4K(h:H a=xn (g6 a es))(hk:∀e∈es,Den K H e.2.1 e.1)(hv:DenAll K H (es.map (·.2.2)) ds):Den K H (.ref a) (.dict ((es.map (·.1)).zip ds)):=by
 simp only[Den];exact⟨a,es,rfl,h,a6E hk hv⟩
def denAll_nil:DenAll K H [] []:=by simp only[DenAll]
def denAll_cons{v:V}{d:bj}{xs:List V}{ds:List bj}(h:Den K H v d)(q:DenAll K H xs ds):DenAll K H (v::xs) (d::ds):=by
 simp only[DenAll];exact⟨v,xs,rfl,h,q⟩
def Den.list_inv{v:V}{ds:List bj}(h:Den K H v (.list ds)):∃a xs,v=.ref a/\SqX K H a xs/\DenAll K H xs ds:=by simpa only [Den]using h
def Den.tup_inv{v:V}{ds:List bj}(h:Den K H v (.tuple ds)):∃a xs,v=.ref a/\SqT K H a xs/\DenAll K H xs ds:=by simpa only [Den]using h
def Den.dict_inv(h:Den K H v (.dict kvs)):∃a es,v=.ref a/\H a=xn (g6 a es)/\DenKV K H es kvs:=by simpa only [Den]using h
theorem DenKV.keys:∀{kvs:List (bj×bj)} {es:List (bj×V×V)},DenKV K H es kvs->es.map (·.1)=kvs.map (·.1)
 |[],_,h=>by simp only[DenKV]at h;rw[h];rfl
 | (k,d)::r,_,h=>by
  simp only[DenKV]at h;obtain⟨e,q,rfl,h1,_,_,h2⟩:=h;rw[ax,ax,DenKV.keys h2,h1]
theorem DenKV.vals:∀{kvs:List (bj×bj)} {es:List (bj×V×V)},DenKV K H es kvs->DenAll K H (es.map (·.2.2)) (kvs.map (·.2))
 |[],_,h=>by simp only[DenKV]at h;rw[h];simp only[cW,DenAll]
 | (k,d)::r,_,h=>by
  simp only[DenKV]at h;obtain⟨e,q,rfl,_,_,h1,h2⟩:=h;simp only[ax,DenAll];exact⟨_,_,rfl,h1,DenKV.vals h2⟩
theorem DenKV.kden:∀{kvs:List (bj×bj)} {es:List (bj×V×V)},DenKV K H es kvs->∀e∈es,Den K H e.2.1 e.1
 |[],_,h,e,he=>by simp only[DenKV]at h;rw[h]at he;cases he
 | (k,d)::r,_,h,e,he=>by
  simp only[DenKV]at h;obtain⟨e0,q,rfl,h0,h1,_,h2⟩:=h;rcases aH.mp he with z|z
  ·subst z;rw[h0];exact h1
  ·exact DenKV.kden h2 e z
def Den.int_inv{v:V}{i:Int}(h:Den K H v (.int i)):v=.int i:=by simpa only [Den]using h
def Den.bool_inv(h:Den K H v (.bool b)):v=.bl b:=by simpa only [Den]using h
def Den.none_inv(h:Den K H v .none):v=.non:=by simpa only [Den]using h
def Den.str_inv(h:Den K H v (.str x)):v=.str x:=by simpa only [Den]using h
def DenAll.cons_inv{xs:List V}{d:bj}{ds:List bj}(h:DenAll K H xs (d::ds)):∃v r,xs=v::r/\Den K H v d/\DenAll K H r ds:=by simpa only [DenAll]using h
def DenAll.nil_inv{xs:List V}(h:DenAll K H xs []):xs=[]:=by simpa only [DenAll]using h
theorem DenAll.length:∀{ds:List bj} {xs:List V},DenAll K H xs ds->xs.length=ds.length
 |[],_,h=>by rw[h.nil_inv];rfl
 |d::ds,_,h=>by
  obtain⟨v,r,rfl,_,h⟩:=h.cons_inv;rw[aV,aV,DenAll.length h]
theorem DenAll.get:∀{ds:List bj} {xs:List V} {i:Nat} {d:bj},DenAll K H xs ds->ds[i]?=xn d->∃v,xs[i]?=xn v/\Den K H v d
 |[],_,i,d,_,e=>by simp at e
 |d0::ds,_,0,d,h,e=>by
  obtain⟨v,r,rfl,h1,_⟩:=h.cons_inv;have:d0=d:=by simpa using e
  subst this;exact⟨v,rfl,h1⟩
 |d0::ds,_,i+1,d,h,e=>by
  obtain⟨v,r,rfl,_,h1⟩:=h.cons_inv;obtain⟨u,h2,h3⟩:=DenAll.get (i:=i) h1 (by simpa using e);exact⟨u,by simpa using h2,h3⟩
def DenAll.getV{ds:List bj}{xs:List V}{i:Nat}{v:V}(h:DenAll K H xs ds)(e:xs[i]?=xn v):∃d,ds[i]?=xn d/\Den K H v d:=by
 have hi:=(aL.mp e).1;rw[h.length]at hi;obtain⟨u,h1,h2⟩:=h.get (ab hi);rw[e]at h1;cases h1
 exact⟨_,ab hi,h2⟩
theorem DenAll.append:∀{ds:List bj} {xs:List V} {es:List bj} {ys:List V},DenAll K H xs ds->DenAll K H ys es->DenAll K H (xs++ys) (ds++es)
 |[],_,_,_,h,q=>by rw[h.nil_inv];exact q
 |d::ds,_,_,_,h,q=>by
  obtain⟨v,r,rfl,h1,h2⟩:=h.cons_inv;exact denAll_cons h1 (DenAll.append h2 q)
theorem DenAll.take:∀{ds:List bj} {xs:List V} (n:Nat),DenAll K H xs ds->DenAll K H (xs.take n) (ds.take n)
 |_,_,0,_=>by rw[List.take_zero,List.take_zero];exact denAll_nil
 |[],_,n+1,h=>by rw[h.nil_inv];exact denAll_nil
 |d::ds,_,n+1,h=>by
  obtain⟨v,r,rfl,h1,h2⟩:=h.cons_inv;exact denAll_cons h1 (DenAll.take n h2)
theorem DenAll.drop:∀{ds:List bj} {xs:List V} (n:Nat),DenAll K H xs ds->DenAll K H (xs.drop n) (ds.drop n)
 |_,_,0,h=>h
 |[],_,n+1,h=>by rw[h.nil_inv];exact denAll_nil
 |d::ds,_,n+1,h=>by
  obtain⟨v,r,rfl,_,h2⟩:=h.cons_inv;exact DenAll.drop n h2
theorem DenAll.ints:∀(ns:List Int),DenAll K H (ns.map V.int) (ns.map aO)
 |[]=>denAll_nil
 |n::ns=>denAll_cons den_int (DenAll.ints ns)
end
def cut(H:Hp)(F:List aw):Hp:=λa=>if a∈F then xI else H a
section
variable {H H':Hp}{F F':List aw}{a:aw}{o:HO}
def Y3(h:a∉F):cut H F a=H a:=by unfold cut;rw[aJ h]
def V6(h:a∈F):cut H F a=xI:=by unfold cut;rw[aB h]
def m4(h:cut H F a=xn o):a∉F/\H a=xn o:=by
 by_cases q:a∈F
 ·rw[V6 q]at h;cases h
 ·rw[Y3 q]at h;exact⟨q,h⟩
def g9(h1:a∉F)(h2:H a=xn o):cut H F a=xn o:=by rw[Y3 h1];exact h2
def j5:Same (cut H F) H:=λ_ _ h=>(m4 h).2
def P2(e:Same H H')(hF:∀a o,H a=xn o->a∈F'->a∈F):Same (cut H F) (cut H' F'):=λa o h=>by
 obtain⟨h1,h2⟩:=m4 h;exact g9 (λq=>h1 (hF a o h2 q)) (e _ _ h2)
def L7(e:Same H H'):Same (cut H F) (cut H' F):=P2 e λ_ _ _ q=>q
def I9(hF:∀a,a∈F'->a∈F):Same (cut H F) (cut H F'):=P2 (Same.refl H) λa _ _ q=>hF a q
def K6:cut H []=H:=by
 funext a
 exact Y3 (by simp)
end
inductive Ty where
 |i|f|l (t:Ty)|tp (ts:List Ty)|d (kt:Bool) (t:Ty)
mutual
def Ty.shut:Ty->Bool
 |.i=>true
 |.f=>false
 |.l u=>u.shut
 |.tp us=>Ty.shutAll us
 |.d _ u=>u.shut
def Ty.shutAll:List Ty->Bool
 |[]=>true
 |u::us=>u.shut&&Ty.shutAll us
end
def ListAll(R:V->bj->List aw->Prop):List V->List bj->List aw->Prop
 |xs,[],fp=>xs=[]/\fp=[]
 |xs,d::ds,fp=>∃v r f g,xs=v::r/\fp=f++g/\R v d f/\ListAll R r ds g
mutual
def Own(K:af)(H:Hp)(F:List aw):Ty->V->bj->List aw->Prop
 |.i,v,d,fp=>fp=[]/\imm d=true/\Den K (cut H F) v d
 |.f,v,d,fp=>fp=[]/\Den K (cut H F) v d
 |.l u,v,d,fp=>(fp=[]/\imm d=true/\Den K (cut H F) v d)∨∃a xs ds fs,v=.ref a/\H a=xn (.lst xs)/\d=.list ds/\fp=a::fs/\ListAll (Own K H F u) xs ds fs
 |.tp us,v,d,fp=>∃a xs ds,v=.ref a/\H a=xn (.tup xs)/\a∉F/\d=.tuple ds/\OwnTs K H F us xs ds fp
 |.d kt u,v,d,fp=>∃a es ds fs,v=.ref a/\H a=xn (g6 a es)/\d=.dict ((es.map (·.1)).zip ds)/\fp=a::fs/\((es.map (·.1)).Nodup/\∀e∈es,keyOk kt e.1/\Den K (cut H F) e.2.1 e.1)/\ListAll (Own K H F u) (es.map (·.2.2)) ds fs
def OwnTs(K:af)(H:Hp)(F:List aw):List Ty->List V->List bj->List aw->Prop
 |[],xs,ds,fp=>xs=[]/\ds=[]/\fp=[]
 |u::us,xs,ds,fp=>∃v r d e f g,xs=v::r/\ds=d::e/\fp=f++g/\Own K H F u v d f/\OwnTs K H F us r e g
end
section
variable {R R':V->bj->List aw->Prop}
def p6:ListAll R [] [] []:=by simp only[ListAll];exact⟨trivial,trivial⟩
def m9(h:R v d f)(q:ListAll R xs ds g):ListAll R (v::xs) (d::ds) (f++g):=by
 simp only[ListAll];exact⟨v,xs,f,g,rfl,rfl,h,q⟩
def ListAll.nil_inv(h:ListAll R xs [] fp):xs=[]/\fp=[]:=by simpa only [ListAll]using h
def ListAll.cons_inv(h:ListAll R xs (d::ds) fp):∃v r f g,xs=v::r/\fp=f++g/\R v d f/\ListAll R r ds g:=by simpa only [ListAll]using h
theorem ListAll.length:∀{ds:List bj} {xs:List V} {fp:List aw},ListAll R xs ds fp->xs.length=ds.length
 |[],_,_,h=>by rw[h.nil_inv.1];rfl
 |d::ds,_,_,h=>by
  obtain⟨v,r,f,g,rfl,_,_,h⟩:=h.cons_inv;rw[aV,aV,ListAll.length h]
theorem ListAll.imp:∀{ds:List bj} {xs:List V} {fp:List aw},ListAll R xs ds fp->(∀v d f,(∀a∈f,a∈fp)->d∈ds->R v d f->R' v d f)->ListAll R' xs ds fp
 |[],_,_,h,_=>by obtain⟨rfl,rfl⟩:=h.nil_inv;exact p6
 |d::ds,_,_,h,q=>by
  obtain⟨v,r,f,g,rfl,rfl,h1,h2⟩:=h.cons_inv;exact m9 (q v d f (λa ha=>ak _ ha) aK h1) (ListAll.imp h2 λv d f' hf hd hR=>q v d f' (λa ha=>ah _ (hf a ha)) (av _ hd) hR)
theorem ListAll.append:∀{ds es:List bj} {xs ys:List V} {fp gp:List aw},ListAll R xs ds fp->ListAll R ys es gp->ListAll R (xs++ys) (ds++es) (fp++gp)
 |[],_,_,_,_,_,h,q=>by obtain⟨rfl,rfl⟩:=h.nil_inv;exact q
 |d::ds,_,_,_,_,_,h,q=>by
  obtain⟨v,r,f,g,rfl,rfl,h1,h2⟩:=h.cons_inv;rw[aS];exact m9 h1 (ListAll.append h2 q)
theorem ListAll.at_:∀{ds:List bj} {xs:List V} {fp:List aw} {k:Nat} {d:bj},ListAll R xs ds fp->ds[k]?=xn d->
  ∃v f pre post,xs[k]?=xn v/\R v d f/\fp=pre++(f++post)/\ListAll R (xs.take k) (ds.take k) pre/\ListAll R (xs.drop (k+1)) (ds.drop (k+1)) post
 |[],_,_,k,d,_,e=>by simp at e
 |d0::ds,_,_,0,d,h,e=>by
  obtain⟨v,r,f,g,rfl,rfl,h1,h2⟩:=h.cons_inv;have:d0=d:=by simpa using e
  subst this;exact⟨v,f,[],g,rfl,h1,rfl,p6,h2⟩
 |d0::ds,_,_,k+1,d,h,e=>by
  obtain⟨v,r,f,g,rfl,rfl,h1,h2⟩:=h.cons_inv;obtain⟨u,f',pre,post,e1,e2,e3,e4,e5⟩:=ListAll.at_ (k:=k) h2 (by simpa using e);subst e3;exact⟨u,f',f++pre,post,by simpa using e1,e2,by rw[aS],m9 h1 e4,e5⟩
end
section
variable {K:af}{H H':Hp}{F F':List aw}
theorem ListAll.den(hR:∀v d f,R v d f->Den K H v d):∀{ds:List bj} {xs:List V} {fp:List aw},ListAll R xs ds fp->DenAll K H xs ds
 |[],_,_,h=>by rw[h.nil_inv.1];exact denAll_nil
 |d::ds,_,_,h=>by
  obtain⟨v,r,f,g,rfl,_,h1,h2⟩:=h.cons_inv;exact denAll_cons (hR _ _ _ h1) (ListAll.den hR h2)
mutual
theorem Own.den:∀(u:Ty) {v:V} {d:bj} {fp:List aw},Own K H F u v d fp->Den K H v d
 |.i,_,_,_,h=>by simp only[Own]at h;exact h.2.2.up j5
 |.f,_,_,_,h=>by simp only[Own]at h;exact h.2.up j5
 |.l u,_,_,_,h=>by
  simp only[Own]at h;rcases h with⟨_,_,h⟩|⟨a,xs,ds,fs,rfl,h1,rfl,_,h2⟩
  ·exact h.up j5
  ·exact den_list (.inl (.inl h1)) (ListAll.den (λv d f q=>Own.den u q) h2)
 |.tp us,_,_,_,h=>by
  simp only[Own]at h;obtain⟨a,xs,ds,rfl,h1,_,rfl,h2⟩:=h;exact den_tup (SqT.of h1) (OwnTs.den us h2)
 |.d kt u,_,_,_,h=>by
  simp only[Own]at h;obtain⟨a,es,ds,fs,rfl,h1,rfl,_,h3,h2⟩:=h;exact a4K h1 (λe he=>(h3.2 e he).2.up j5) (ListAll.den (λv d f q=>Own.den u q) h2)
theorem OwnTs.den:∀(us:List Ty) {xs:List V} {ds:List bj} {fp:List aw},OwnTs K H F us xs ds fp->DenAll K H xs ds
 |[],_,_,_,h=>by simp only[OwnTs]at h;obtain⟨rfl,rfl,_⟩:=h;exact denAll_nil
 |u::us,_,_,_,h=>by
  simp only[OwnTs]at h;obtain⟨v,r,d,e,f,g,rfl,rfl,_,h1,h2⟩:=h;exact denAll_cons (Own.den u h1) (OwnTs.den us h2)
end
mutual
theorem Own.frame(e:Same (cut H F) (cut H' F')):∀(u:Ty) {v:V} {d:bj} {fp:List aw},Own K H F u v d fp->(∀a∈fp,H' a=H a)->Own K H' F' u v d fp
 |.i,_,_,_,h,_=>by simp only[Own]at h ⊢;exact⟨h.1,h.2.1,h.2.2.up e⟩
 |.f,_,_,_,h,_=>by simp only[Own]at h ⊢;exact⟨h.1,h.2.up e⟩
 |.l u,_,_,_,h,k=>by
  simp only[Own]at h ⊢;rcases h with⟨h1,h2,h⟩|⟨a,xs,ds,fs,rfl,h1,rfl,rfl,h2⟩
  ·exact .inl ⟨h1,h2,h.up e⟩
  ·exact .inr ⟨a,xs,ds,fs,rfl,(k a aK).trans h1,rfl,rfl,h2.imp λv d f hf _ q=>Own.frame e u q λb hb=>k b (av _ (hf b hb))⟩
 |.tp us,_,_,_,h,k=>by
  simp only[Own]at h ⊢;obtain⟨a,xs,ds,rfl,h1,h0,rfl,h2⟩:=h;obtain⟨h3,h4⟩:=m4 (e a _ (g9 h0 h1));exact⟨a,xs,ds,rfl,h4,h3,rfl,OwnTs.frame e us h2 k⟩
 |.d kt u,_,_,_,h,k=>by
  simp only[Own]at h ⊢;obtain⟨a,es,ds,fs,rfl,h1,rfl,rfl,h3,h2⟩:=h;exact⟨a,es,ds,fs,rfl,(k a aK).trans h1,rfl,rfl,⟨h3.1,λx hx=>⟨(h3.2 x hx).1,(h3.2 x hx).2.up e⟩⟩,h2.imp λv d f hf _ q=>Own.frame e u q λb hb=>k b (av _ (hf b hb))⟩
theorem OwnTs.frame(e:Same (cut H F) (cut H' F')):∀(us:List Ty) {xs:List V} {ds:List bj} {fp:List aw},OwnTs K H F us xs ds fp->(∀a∈fp,H' a=H a)->OwnTs K H' F' us xs ds fp
 |[],_,_,_,h,_=>by simpa only [OwnTs]using h
 |u::us,_,_,_,h,k=>by
  simp only[OwnTs]at h ⊢;obtain⟨v,r,d,e',f,g,rfl,rfl,rfl,h1,h2⟩:=h;exact⟨v,r,d,e',f,g,rfl,rfl,rfl,Own.frame e u h1 λa ha=>k a (ak _ ha),OwnTs.frame e us h2 λa ha=>k a (ah _ ha)⟩
end
theorem ListAll.lst{u:Ty}{R:V->bj->List aw->Prop}(hR:∀v d f,R v d f->∀a∈f,∃ys:MuO,H a=xn ys.1):∀{ds:List bj} {xs:List V} {fp:List aw},ListAll R xs ds fp->∀a∈fp,∃ys:MuO,H a=xn ys.1
 |[],_,_,h,a,ha=>by rw[h.nil_inv.2]at ha;cases ha
 |d::ds,_,_,h,a,ha=>by
  obtain⟨v,r,f,g,rfl,rfl,h1,h2⟩:=h.cons_inv;rcases aq.mp ha with z|z
  ·exact hR _ _ _ h1 a z
  ·exact ListAll.lst (u:=u) hR h2 a z
mutual
theorem Own.lst:∀(u:Ty) {v:V} {d:bj} {fp:List aw},Own K H F u v d fp->∀a∈fp,∃ys:MuO,H a=xn ys.1
 |.i,_,_,_,h,a,ha=>by simp only[Own]at h;rw[h.1]at ha;cases ha
 |.f,_,_,_,h,a,ha=>by simp only[Own]at h;rw[h.1]at ha;cases ha
 |.l u,_,_,_,h,b,hb=>by
  simp only[Own]at h;rcases h with⟨h1,_⟩|⟨a,xs,ds,fs,rfl,h1,rfl,rfl,h2⟩
  ·rw[h1]at hb;cases hb
  ·rcases aH.mp hb with z|z
   ·subst z;exact⟨⟨.lst xs,trivial⟩,h1⟩
   ·exact ListAll.lst (u:=u) (λv d f q=>Own.lst u q) h2 b z
 |.tp us,_,_,_,h,b,hb=>by
  simp only[Own]at h;obtain⟨a,xs,ds,rfl,h1,_,rfl,h2⟩:=h;exact OwnTs.lst us h2 b hb
 |.d kt u,_,_,_,h,b,hb=>by
  simp only[Own]at h;obtain⟨a,es,ds,fs,rfl,h1,rfl,rfl,h3,h2⟩:=h;rcases aH.mp hb with z|z
  ·subst z;exact⟨⟨g6 b es,trivial⟩,h1⟩
  ·exact ListAll.lst (u:=u) (λv d f q=>Own.lst u q) h2 b z
theorem OwnTs.lst:∀(us:List Ty) {xs:List V} {ds:List bj} {fp:List aw},OwnTs K H F us xs ds fp->∀a∈fp,∃ys:MuO,H a=xn ys.1
 |[],_,_,_,h,a,ha=>by simp only[OwnTs]at h;rw[h.2.2]at ha;cases ha
 |u::us,_,_,_,h,b,hb=>by
  simp only[OwnTs]at h;obtain⟨v,r,d,e,f,g,rfl,rfl,rfl,h1,h2⟩:=h;rcases aq.mp hb with z|z
  ·exact Own.lst u h1 b z
  ·exact OwnTs.lst us h2 b z
end
def b5Q(h:SqT K H a xs)(hF:∀a∈F,∃ys:MuO,H a=xn ys.1):SqT K (cut H F) a xs:=by
 rcases h with (h|⟨o,h⟩)|h
 ·refine .inl (.inl (g9 (λq=>?_) h));obtain⟨⟨ys,my⟩,e⟩:=hF a q;rw[h]at e;have e':=aF e;rw[show ys=_ from e'.symm]at my;exact my
 ·refine .inl (.inr ⟨o,g9 (λq=>?_) h⟩);obtain⟨⟨ys,my⟩,e⟩:=hF a q;rw[h]at e;have e':=aF e;rw[show ys=_ from e'.symm]at my;exact my
 ·exact .inr h
mutual
theorem Den.imm_out(hF:∀a∈F,∃ys:MuO,H a=xn ys.1):∀(d:bj) {v:V},imm d=true->Den K H v d->Den K (cut H F) v d
 |.none,_,_,h=>by simpa only [Den]using h
 |.bool _,_,_,h=>by simpa only [Den]using h
 |.int _,_,_,h=>by simpa only [Den]using h
 |.str _,_,_,h=>by simpa only [Den]using h
 |.list ds,_,q,_=>by simp only[imm]at q;cases q
 |.tuple ds,_,q,h=>by
  simp only[imm]at q;obtain⟨a,xs,rfl,h1,h2⟩:=h.tup_inv;exact den_tup (b5Q h1 hF) (DenAll.imm_out hF ds q h2)
 |.dict _,_,q,_=>by simp only[imm]at q;cases q
theorem DenAll.imm_out(hF:∀a∈F,∃ys:MuO,H a=xn ys.1):∀(ds:List bj) {xs:List V},e7 ds=true->DenAll K H xs ds->DenAll K (cut H F) xs ds
 |[],_,_,h=>by simpa only [DenAll]using h
 |d::ds,_,q,h=>by
  simp only[e7,aD]at q;obtain⟨v,r,rfl,h1,h2⟩:=h.cons_inv;exact denAll_cons (Den.imm_out hF d q.1 h1) (DenAll.imm_out hF ds q.2 h2)
end
mutual
theorem Own.shut_out(hF:∀a∈F',∃ys:MuO,H a=xn ys.1):∀(u:Ty) {v:V} {d:bj} {fp:List aw},u.shut=true->Own K H F u v d fp->Own K H F' u v d fp
 |.i,_,_,_,_,h=>by simp only[Own]at h ⊢;exact⟨h.1,h.2.1,(h.2.2.up j5).imm_out hF _ h.2.1⟩
 |.f,_,_,_,q,h=>by simp only[Ty.shut]at q;cases q
 |.l u,_,_,_,q,h=>by
  simp only[Ty.shut]at q;simp only[Own]at h ⊢;rcases h with⟨h1,h2,h⟩|⟨a,xs,ds,fs,rfl,h1,rfl,rfl,h2⟩
  ·exact .inl ⟨h1,h2,(h.up j5).imm_out hF _ h2⟩
  ·exact .inr ⟨a,xs,ds,fs,rfl,h1,rfl,rfl,h2.imp λv d f _ _ z=>Own.shut_out hF u q z⟩
 |.tp us,_,_,_,q,h=>by
  simp only[Ty.shut]at q;simp only[Own]at h ⊢;obtain⟨a,xs,ds,rfl,h1,h0,rfl,h2⟩:=h;refine⟨a,xs,ds,rfl,h1,λz=>?_,rfl,OwnTs.shut_out hF us q h2⟩;obtain⟨⟨ys,my⟩,e⟩:=hF a z;rw[h1]at e;have e':=aF e;rw[show ys=_ from e'.symm]at my;exact my
 |.d kt u,_,_,_,q,h=>by
  simp only[Ty.shut]at q;simp only[Own]at h ⊢;obtain⟨a,es,ds,fs,rfl,h1,rfl,rfl,h3,h2⟩:=h;exact⟨a,es,ds,fs,rfl,h1,rfl,rfl,⟨h3.1,λx hx=>⟨(h3.2 x hx).1,((h3.2 x hx).2.up j5).imm_out hF _ (V5 _ (h3.2 x hx).1.1)⟩⟩,h2.imp λv d f _ _ z=>Own.shut_out hF u q z⟩
theorem OwnTs.shut_out(hF:∀a∈F',∃ys:MuO,H a=xn ys.1):∀(us:List Ty) {xs:List V} {ds:List bj} {fp:List aw},Ty.shutAll us=true->OwnTs K H F us xs ds fp->OwnTs K H F' us xs ds fp
 |[],_,_,_,_,h=>by simpa only [OwnTs]using h
 |u::us,_,_,_,q,h=>by
  simp only[Ty.shutAll,aD]at q;simp only[OwnTs]at h ⊢;obtain⟨v,r,d,e,f,g,rfl,rfl,rfl,h1,h2⟩:=h;exact⟨v,r,d,e,f,g,rfl,rfl,rfl,Own.shut_out hF u q.1 h1,OwnTs.shut_out hF us q.2 h2⟩
end
end
end VS
namespace VS
open PySem PySem.Spec L2
open SeqAt in
def items_eqAt{A:bQ}{s:au}{us ws:Array aj}(ra:iT s.heap us.toList xs as)(rb:iT s.heap ws.toList ys bs)(ha:bb xs=true)(hb:bb ys=true)
  (hu:A.in1.units+min (cX xs) (cX ys)<dF):∀(k:Nat) (k1:k<us.size) (k2:k<ws.size),EqAt A.in1 s us[k] ws[k] (pairEq xs ys k):=λk k1 k2=>
 eqAt_readsAll xs ys A.in1 s us.toList ws.toList as bs ra rb ha hb hu k k1 k2
open SeqAt in
def a7Z{A:bQ}{s:au}(ra:Reads s.heap a da as)(rb:Reads s.heap b db bs)(ha:da.canLay0=true)(hb:db.canLay0=true)
  (hu:A.units+min da.depth db.depth<dF):RcNeAt A s a b (!aI da db):=by
 have u0:=room_here hu;cases ra with
 |dict=>exact nomatch ha
 |none=>cases rb with
  |dict=>exact nomatch hb
  |none=>exact RcNeAt.none_none
  |bool y=>exact RcNeAt.none_bool y
  |int y v=>exact RcNeAt.none_int y v
  |str y v=>exact RcNeAt.none_str y v
  |list c1 c2 c3 c4=>exact RcNeAt.none_list ⟨_,c1,c2,_,c3⟩ u0
  |tuple c1 c2 c3 c4=>exact RcNeAt.none_tuple ⟨_,c1,c2,_,c3⟩ u0
 |bool x=>cases rb with
  |dict=>exact nomatch hb
  |none=>exact RcNeAt.bool_none x
  |bool y=>exact RcNeAt.bool_bool x y
  |int y v=>exact RcNeAt.bool_int x y v
  |str y v=>exact RcNeAt.bool_str x y v
  |list c1 c2 c3 c4=>exact RcNeAt.bool_list x ⟨_,c1,c2,_,c3⟩ u0
  |tuple c1 c2 c3 c4=>exact RcNeAt.bool_tuple x ⟨_,c1,c2,_,c3⟩ u0
 |int x t=>cases rb with
  |dict=>exact nomatch hb
  |none=>exact RcNeAt.int_none x t
  |bool y=>exact RcNeAt.int_bool x t y
  |int y v=>exact RcNeAt.int_int x t y v
  |str y v=>exact RcNeAt.int_str x t y v
  |list c1 c2 c3 c4=>exact RcNeAt.int_list x t ⟨_,c1,c2,_,c3⟩ u0
  |tuple c1 c2 c3 c4=>exact RcNeAt.int_tuple x t ⟨_,c1,c2,_,c3⟩ u0
 |str x t=>cases rb with
  |dict=>exact nomatch hb
  |none=>exact RcNeAt.str_none x t
  |bool y=>exact RcNeAt.str_bool x t y
  |int y v=>exact RcNeAt.str_int x t y v
  |str y v=>exact RcNeAt.str_str x t y v
  |list c1 c2 c3 c4=>exact RcNeAt.str_list x t ⟨_,c1,c2,_,c3⟩ u0
  |tuple c1 c2 c3 c4=>exact RcNeAt.str_tuple x t ⟨_,c1,c2,_,c3⟩ u0
 |@list la oa us na xs fa c1 c2 c3 c4=>
  have sa:s.heap.IsList la us:=⟨oa,c1,c2,na,c3⟩;cases rb with
  |dict=>exact nomatch hb
  |none=>exact RcNeAt.list_none sa u0
  |bool y=>exact RcNeAt.list_bool y sa u0
  |int y v=>exact RcNeAt.list_int y v sa u0
  |str y v=>exact RcNeAt.list_str y v sa u0
  |tuple e1 e2 e3 e4=>exact RcNeAt.list_tuple sa ⟨_,e1,e2,_,e3⟩ u0
  |@list lb ob ws nb ys fb e1 e2 e3 e4=>
   have sb:s.heap.IsList lb ws:=⟨ob,e1,e2,nb,e3⟩;have z1:us.size=xs.length:=by simpa using oF xs _ _ c4
   have z2:ws.size=ys.length:=by simpa using oF ys _ _ e4
   have pr:=items_eqAt c4 e4 ha hb (room_in hu);show RcNeAt A s (.ref la) (.ref lb) (!cu xs ys);by_cases z:us.size=ws.size
   ·rw[<-eqvAll_same_length (show xs.length=ys.length by lia),<-z1];exact RcNeAt.lists sa sb z u0 pr
   ·rw[eqvAll_other_length (show xs.length≠ys.length by lia)];exact RcNeAt.lists_lengths sa sb (bne_iff_ne.mpr z) u0
 |@tuple la oa us na xs fa c1 c2 c3 c4=>
  have sa:s.heap.IsTuple la us:=⟨oa,c1,c2,na,c3⟩;cases rb with
  |dict=>exact nomatch hb
  |none=>exact RcNeAt.tuple_none sa u0
  |bool y=>exact RcNeAt.tuple_bool y sa u0
  |int y v=>exact RcNeAt.tuple_int y v sa u0
  |str y v=>exact RcNeAt.tuple_str y v sa u0
  |list e1 e2 e3 e4=>exact RcNeAt.tuple_list sa ⟨_,e1,e2,_,e3⟩ u0
  |@tuple lb ob ws nb ys fb e1 e2 e3 e4=>
   have sb:s.heap.IsTuple lb ws:=⟨ob,e1,e2,nb,e3⟩;have z1:us.size=xs.length:=by simpa using oF xs _ _ c4
   have z2:ws.size=ys.length:=by simpa using oF ys _ _ e4
   have pr:=items_eqAt c4 e4 ha hb (room_in hu);show RcNeAt A s (.ref la) (.ref lb) (!cu xs ys);rw[<-eqvAll_eq xs ys,<-z1,<-z2];exact RcNeAt.tuples sa sb u0 pr
mutual
theorem Den.reads{X:Cx}{pins:List (aw×fY)}{σ:St}{H:Hp}{s:au}(I:Inv X pins σ H s):∀(d:bj) {v:V} {u:aj},d.canLay0=true->Den X.K H v d->RelV v u->∃as,Reads s.heap u d as
 |.none,v,u,_,q,r=>by
  cases q.none_inv
  cases (show u=bt from r)
  exact⟨_,.none⟩
 |.bool b,v,u,_,q,r=>by
  cases q.bool_inv
  cases (show u=mj b from r)
  exact⟨_,.bool b⟩
 |.int i,v,u,_,q,r=>by
  cases q.int_inv
  obtain⟨t,rfl⟩:=r;exact⟨_,.int i t⟩
 |.str x,v,u,_,q,r=>by
  cases q.str_inv
  obtain⟨t,rfl⟩:=r;exact⟨_,.str x t⟩
 |.list ds,v,u,hl,q,r=>by
  obtain⟨a,xs,rfl,h1,h2⟩:=q.list_inv;cases (show u=bH a from r)
  obtain⟨z,its,n,rv,e⟩:=h1.ok I;obtain⟨as,ra⟩:=DenAll.reads I ds hl h2 rv;exact⟨_,.list e rfl rfl (by simpa using ra)⟩
 |.tuple ds,v,u,hl,q,r=>by
  obtain⟨a,xs,rfl,h1,h2⟩:=q.tup_inv;cases (show u=bH a from r)
  obtain⟨its,rv,⟨o,e,c,n,d⟩,_⟩:=I.tuple h1;obtain⟨as,ra⟩:=DenAll.reads I ds hl h2 rv;exact⟨_,.tuple e c d (by simpa using ra)⟩
 |.dict _,_,_,hl,_,_=>nomatch hl
theorem DenAll.reads{X:Cx}{pins:List (aw×fY)}{σ:St}{H:Hp}{s:au}(I:Inv X pins σ H s):∀(ds:List bj) {xs:List V} {us:List aj},bb ds=true->DenAll X.K H xs ds->Vals xs us->∃as,iT s.heap us ds as
 |[],xs,us,_,q,r=>by
  cases q.nil_inv
  cases r
  exact⟨_,.nil⟩
 |d::ds,xs,us,hl,q,r=>by
  have rH:d.canLay0=true/\bb ds=true:=by simpa[bb]using hl
  obtain⟨v,rs,rfl,h1,h2⟩:=q.cons_inv;cases r with
  |cons r1 r2=>
   obtain⟨as,ra⟩:=Den.reads I d rH.1 h1 r1;obtain⟨bs,rb⟩:=DenAll.reads I ds rH.2 h2 r2;exact⟨_,.cons ra rb⟩
end
def OpS(X:Cx)(f:aj->aj->zD aj)(g:D->D->Option D):Prop:=
 ∃r,OpR X f r/\∀(x y:V) (H:Hp) (a b d:D) (Q:VK),Den X.K H x a->Den X.K H y b->g a b=xn d->(∀v,imm d=true->(∀H',Den X.K H' v d)->Q v H)->r x y H Q
noncomputable def a9u(X:Cx)(f:aj)(g:List D->Option D):Prop:=
 ∃r,CallR X f r/\∀(xs:List V) (H:Hp) (ds:List D) (d:D) (Q:VK),DenAll X.K H xs ds->g ds=xn d->(∀v,imm d=true->(∀H',Den X.K H' v d)->Q v H)->r xs H Q
def d2I(p:Int->Int->Bool)(g:Int->Int->D):D->D->Option D
 |.int a,.int b=>if p a b then xn (g a b) else xI
 |_,_=>xI
def a3d(h:d2I p g a b=xn d):∃i j,a=.int i/\b=.int j/\p i j=true/\d=g i j:=by
 cases a with
 |int i=>
  cases b with
  |int j=>
   have h':(if p i j=true then xn (g i j) else xI)=xn d:=h;by_cases c:p i j=true
   ·rw[aB c]at h';exact⟨i,j,rfl,rfl,c,(aF h').symm⟩
   ·rw[aJ c]at h';cases h'
  |_=>cases h
 |_=>cases h
def pT:Int->Int->Bool:=λ_ _=>true
abbrev y9:D->D->Option D:=d2I pT λa b=>.int (a+b)
abbrev a5w:D->D->Option D:=d2I pT λa b=>.int (a-b)
def b0S(a b:Int):Bool:=decide (a.natAbs<2^64)||decide (b.natAbs<2^64)
abbrev Z8:D->D->Option D:=d2I b0S λa b=>.int (a*b)
def b8K(_ b:Int):Bool:=decide (0<b)
abbrev J0:D->D->Option D:=d2I b8K λa b=>.int (a % b)
def b5R(_ b:Int):Bool:=decide (0<b)&&decide (b<1073741824)
abbrev b0T:D->D->Option D:=d2I b5R λa b=>.int (a / b)
def b0U(a b:Int):Bool:=decide (0<=b)&&decide (b<=1000000)&&decide (a.natAbs<2^64)
abbrev b0V:D->D->Option D:=d2I b0U λa b=>.int (a^b.toNat)
abbrev dLt:D->D->Option D:=d2I pT λa b=>.bool (decide (a<b))
abbrev dLe:D->D->Option D:=d2I pT λa b=>.bool (decide (a<=b))
abbrev dGt:D->D->Option D:=d2I pT λa b=>.bool (decide (b<a))
abbrev dGe:D->D->Option D:=d2I pT λa b=>.bool (decide (b<=a))
def b0W(neg:Bool)(a b:D):Option D:=if a.canLay0&&b.canLay0&&decide (a.depth<=60) then xn (.bool (neg !=aI a b)) else xI
abbrev dEq:D->D->Option D:=b0W false
abbrev dNe:D->D->Option D:=b0W true
def isN:D->Bool
 |.none=>true
 |_=>false
def a6F(neg:Bool)(a b:D):Option D:=if isN b then xn (.bool (neg !=isN a)) else xI
def c2r(neg:Bool):D->D->Option D
 |.bool a,.bool b=>xn (.bool (neg !=(a==b)))
 |_,_=>xI
section
variable {X:Cx}
def b5S{f:aj->aj->zD aj}{C:Int->Int->Prop}{p:Int->Int->Bool}{g:Int->Int->Int}(ho:OpR X f (rI C λi j=>.int (g i j)))(hp:∀i j,p i j=true->C i j):OpS X f (d2I p λa b=>.int (g a b)):=by
 refine⟨_,ho,λx y H a b d Q ha hb hg q=>?_⟩;obtain⟨i,j,rfl,rfl,c,rfl⟩:=a3d hg;exact⟨i,j,ha.int_inv,hb.int_inv,hp i j c,q _ (by simp only[imm]) λ_=>den_int⟩
def b7O{f:aj->aj->zD aj}{g:Int->Int->Int}(ho:OpR X f (rI0 λi j=>.int (g i j))):OpS X f (d2I pT λa b=>.int (g a b)):=by
 refine⟨_,ho,λx y H a b d Q ha hb hg q=>?_⟩;obtain⟨i,j,rfl,rfl,c,rfl⟩:=a3d hg;exact⟨i,j,ha.int_inv,hb.int_inv,q _ (by simp only[imm]) λ_=>den_int⟩
def b2P{f:aj->aj->zD aj}{g:Int->Int->Bool}(ho:OpR X f (rI0 λi j=>.bl (g i j))):OpS X f (d2I pT λa b=>.bool (g a b)):=by
 refine⟨_,ho,λx y H a b d Q ha hb hg q=>?_⟩;obtain⟨i,j,rfl,rfl,c,rfl⟩:=a3d hg;exact⟨i,j,ha.int_inv,hb.int_inv,q _ (by simp only[imm]) λ_=>den_bool⟩
def q9:OpS X (fX .Add) y9:=b7O b8x
def a0q:OpS X (fX .Sub) a5w:=b7O b8y
def R1:OpS X (fX .Mult) Z8:=b5S b8z λi j h=>by
 unfold b0S at h;rw[ll]at h;rcases h with h|h
 ·have:=bx h;exact .inl ⟨by lia,by lia⟩
 ·have:=bx h;exact .inr ⟨by lia,by lia⟩
def z7:OpS X (fX .Mod) J0:=b5S b8A λi j h=>bx h
def b8L:OpS X (fX .FloorDiv) b0T:=b5S b5B λi j h=>by
 unfold b5R at h;rw[aD]at h;exact⟨bx h.1,bx h.2⟩
def a5x:OpS X (fX .Pow) b0V:=b5S b8B λi j h=>by
 unfold b0U at h;rw[aD,aD]at h;exact⟨bx h.1.1,bx h.1.2,bx h.2⟩
def c0L:OpS X (cA .Lt) dLt:=b2P c0E
def b2Q:OpS X (cA .LtE) dLe:=b2P c0F
def a9v:OpS X (cA .Gt) dGt:=b2P c0G
def b8M(K:af)(neg:Bool):R2:=λx y H Q=>∃d e,Den K H x d/\Den K H y e/\d.canLay0=true/\e.canLay0=true/\d.depth<=60/\Q (.bl (neg !=aI d e)) H
def b2R(hu:X.A.units+64<dF):OpR X (cA .Eq) (b8M X.K false):=by
 intro pins s σ H x y v u Q I rx ry h;obtain⟨d,e,h1,h2,c1,c2,hd,q⟩:=h;obtain⟨as,ra⟩:=Den.reads I d c1 h1 rx;obtain⟨bs,rb⟩:=Den.reads I e c2 h2 ry;refine SeqAt.compareEq_reads ra rb c1 c2 (by have:=lg d.depth e.depth;lia) ?_;exact⟨.bl _,H,I,rfl,by simpa using q⟩
def b2S(hu:X.A.units+64<dF):OpR X (cA .NotEq) (b8M X.K true):=by
 intro pins s σ H x y v u Q I rx ry h;obtain⟨d,e,h1,h2,c1,c2,hd,q⟩:=h;obtain⟨as,ra⟩:=Den.reads I d c1 h1 rx;obtain⟨bs,rb⟩:=Den.reads I e c2 h2 ry;refine a7Z ra rb c1 c2 (by have:=lg d.depth e.depth;lia) _ _ _ _ ?_;exact⟨.bl _,H,I,rfl,by simpa using q⟩
def b2T(ho:OpR X f (b8M X.K neg)):OpS X f (b0W neg):=by
 refine⟨_,ho,λx y H a b d Q ha hb hg q=>?_⟩;unfold b0W at hg;by_cases c:(a.canLay0&&b.canLay0&&decide (a.depth<=60))=true
 ·rw[aB c]at hg;cases hg
  rw[aD,aD]at c;exact⟨a,b,ha,hb,c.1.1,c.1.2,bx c.2,q _ (by simp only[imm]) λ_=>den_bool⟩
 ·rw[aJ c]at hg;cases hg
def os_eq(hu:X.A.units+64<dF):OpS X (cA .Eq) dEq:=b2T (b2R hu)
def c0M(hu:X.A.units+64<dF):OpS X (cA .NotEq) dNe:=b2T (b2S hu)
def b2U(h:Den K H x a):decide (x=V.non)=isN a:=by
 cases a with
 |none=>rw[h.none_inv];rfl
 |bool b=>rw[h.bool_inv];rfl
 |int b=>rw[h.int_inv];rfl
 |str b=>rw[h.str_inv];rfl
 |list ds=>obtain⟨a,xs,rfl,_⟩:=h.list_inv;rfl
 |tuple ds=>obtain⟨a,xs,rfl,_⟩:=h.tup_inv;rfl
 |dict kvs=>
  obtain⟨a,es,rfl,_⟩:=h.dict_inv;rfl
def a9w:OpS X (cA .IsNot) (a6F true):=by
 refine⟨_,b5C,λx y H a b d Q ha hb hg q=>?_⟩;unfold a6F at hg;by_cases c:isN b=true
 ·rw[aB c]at hg;cases hg
  have e:=b2U hb;rw[c]at e;refine⟨bx e,?_⟩;rw[b2U ha];have:=q (.bl (true !=isN a)) (by simp only[imm]) λ_=>den_bool
  simpa using this
 ·rw[aJ c]at hg;cases hg
end
inductive Md where
 |dead|own (u:Ty)|exc|keys (kt:Bool)|pin (v:V)|fn (Φ:Hp->V->Prop)
def ExcAt(a C:aw):HO:=.ext λh=>∃o,h.get? a=xn o/\o.cls=.ref C
def SlotR(K:af)(H:Hp)(F:List aw)(m:Md)(o:Option V)(d:D)(f:List aw):Prop:=
 match m with
 |.dead=>f=[]
 |.own u=>∃v,o=xn v/\Own K H F u v d f
 |.exc=>f=[]/\∃v,o=xn v/\((v=.non/\d=.none)∨∃a C n,v=.ref a/\d=.str n/\cut H F a=xn (ExcAt a C)/\gz K bS n=xn (xn (.ref C)))
 |.keys kt=>f=[]/\∃a es kvs,o=xn (.ref a)/\d=.dict kvs/\cut H F a=xn (g6 a es)/\es.map (·.1)=kvs.map (·.1)/\∀e∈es,keyOk kt e.1/\Den K (cut H F) e.2.1 e.1
 |.pin v=>f=[]/\o=xn v
 |.fn Φ=>f=[]/\∃v,o=xn v/\∀H',Same (cut H F) H'->Φ H' v
def StAll(K:af)(H:Hp)(F:List aw):List Md->List D->L2.St->List aw->Prop
 |[],Z,σ,fp=>Z=[]/\σ=[]/\fp=[]
 |m::M,Z,σ,fp=>∃d Z' o σ' f g,Z=d::Z'/\σ=o::σ'/\fp=f++g/\SlotR K H F m o d f/\StAll K H F M Z' σ' g
section
variable {K:af}{H H':Hp}{F F':List aw}
theorem SlotR.frame(h:SlotR K H F m o d f)(e:Same (cut H F) (cut H' F'))(k:∀a∈f,H' a=H a):SlotR K H' F' m o d f:=by
 cases m with
 |dead=>exact h
 |own u=>
  obtain⟨v,rfl,h⟩:=h;exact⟨v,rfl,h.frame e u k⟩
 |exc=>
  obtain⟨h0,v,h1,h2⟩:=h;refine⟨h0,v,h1,h2.imp (λz=>z) λ⟨a,C,n,z1,z2,z3,z4⟩=>⟨a,C,n,z1,z2,e _ _ z3,z4⟩⟩
 |keys kt=>
  obtain⟨h0,a,es,kvs,h1,h2,h3,h4,h5⟩:=h;exact⟨h0,a,es,kvs,h1,h2,e _ _ h3,h4,λx hx=>⟨(h5 x hx).1,(h5 x hx).2.up e⟩⟩
 |pin v=>exact h
 |fn Φ=>obtain⟨h0,v,h1,h2⟩:=h;exact⟨h0,v,h1,λH2 e2=>h2 H2 (e.trans e2)⟩
def j6{Z:List D}(h:SlotR K H F m o d f)(q:StAll K H F M Z σ g):StAll K H F (m::M) (d::Z) (o::σ) (f++g):=by
 simp only[StAll];exact⟨d,Z,o,σ,f,g,rfl,rfl,rfl,h,q⟩
def L3:StAll K H F [] [] [] []:=by simp only[StAll];exact⟨trivial,trivial,trivial⟩
theorem StAll.frame:∀{M:List Md} {Z:List D} {σ:L2.St} {fp:List aw},StAll K H F M Z σ fp->Same (cut H F) (cut H' F')->(∀a∈fp,H' a=H a)->StAll K H' F' M Z σ fp
 |[],_,_,_,h,_,_=>by simpa only [StAll]using h
 |m::M,_,_,_,h,e,k=>by
  simp only[StAll]at h;obtain⟨d,Z,o,σ,f,g,rfl,rfl,rfl,h1,h2⟩:=h;exact j6 (h1.frame e λa ha=>k a (ak _ ha)) (StAll.frame h2 e λa ha=>k a (ah _ ha))
theorem StAll.len:∀{M:List Md} {Z:List D} {σ:L2.St} {fp:List aw},StAll K H F M Z σ fp->Z.length=M.length/\σ.length=M.length
 |[],_,_,_,h=>by simp only[StAll]at h;obtain⟨rfl,rfl,_⟩:=h;exact⟨rfl,rfl⟩
 |m::M,_,_,_,h=>by
  simp only[StAll]at h;obtain⟨d,Z,o,σ,f,g,rfl,rfl,rfl,_,h2⟩:=h;obtain⟨a,b⟩:=StAll.len h2;exact⟨by rw[aV,aV,a],by rw[aV,aV,b]⟩
theorem StAll.at_:∀{M:List Md} {Z:List D} {σ:L2.St} {fp:List aw} {i:Nat} {m:Md},StAll K H F M Z σ fp->M[i]?=xn m->
  ∃d o f pre post,Z[i]?=xn d/\σ[i]?=xn o/\SlotR K H F m o d f/\fp=pre++(f++post)/\
   ∀(H':Hp) (F':List aw) (m':Md) (d':D) (o':Option V) (f':List aw),(∀a∈pre++post,H' a=H a)->Same (cut H F) (cut H' F')->SlotR K H' F' m' o' d' f'->
    StAll K H' F' (M.set i m') (Z.set i d') (σ.set i o') (pre++(f'++post))
 |[],_,_,_,i,m,_,e=>by simp at e
 |m0::M,_,_,_,0,m,h,e=>by
  simp only[StAll]at h;obtain⟨d,Z,o,σ,f,g,rfl,rfl,rfl,h1,h2⟩:=h;have:m0=m:=by simpa using e
  subst this;refine⟨d,o,f,[],g,rfl,rfl,h1,rfl,λH' F' m' d' o' f' k e' s=>?_⟩;show StAll K H' F' (m'::M) (d'::Z) (o'::σ) (f'++g);exact j6 s (h2.frame e' k)
 |m0::M,_,_,_,i+1,m,h,e=>by
  simp only[StAll]at h;obtain⟨d,Z,o,σ,f,g,rfl,rfl,rfl,h1,h2⟩:=h;obtain⟨d1,o1,f1,pre,post,e1,e2,e3,e4,e5⟩:=StAll.at_ (i:=i) h2 (by simpa using e);subst e4;refine⟨d1,o1,f1,f++pre,post,by simpa using e1,by simpa using e2,e3,by rw[aS],λH' F' m' d' o' f' k e' s=>?_⟩;rw[aS];refine j6 (h1.frame e' λa ha=>k a ?_) (e5 H' F' m' d' o' f' (λa ha=>k a ?_) e' s)
  ·rw[aS];exact ak _ ha
  ·rw[aS];exact ah _ ha
end
structure StE (K:af) (M:List Md) (Z:List D) (σ:L2.St) (H P:Hp) (F:List aw):Prop where
 all:∃G,StAll K H F M Z σ G/\∀a∈G,a∈F
 lst:∀a∈F,∃ys:MuO,H a=xn ys.1
 prot:Same P (cut H F)
structure StR (K:af) (M:List Md) (Z:List D) (σ:L2.St) (H P:Hp) (F:List aw):Prop where
 all:∃G,StAll K H F M Z σ G/\G.Nodup/\∀a∈G,a∈F
 lst:∀a∈F,∃ys:MuO,H a=xn ys.1
 prot:Same P (cut H F)
section
variable {K:af}{M:List Md}{Z:List D}{σ:L2.St}{H H' P:Hp}{F:List aw}
def StR.toE(h:StR K M Z σ H P F):StE K M Z σ H P F:=⟨let⟨G,a,_,b⟩:=h.all;⟨G,a,b⟩,h.lst,h.prot⟩
def StE.keep(h:StE K M Z σ H P F)(e:Same H H'):∀a∈F,H' a=H a:=λa ha=>by
 obtain⟨ys,q⟩:=h.lst a ha;rw[q,e _ _ q]
def StE.lst'(h:StE K M Z σ H P F)(e:Same H H'):∀a∈F,∃ys:MuO,H' a=xn ys.1:=λa ha=>by
 obtain⟨ys,q⟩:=h.lst a ha;exact⟨ys,e _ _ q⟩
def a0K(e:Same H H')(hf:∀a∈fp,H a=xI):Same (cut H F) (cut H' (fp++F)):=P2 e λa o ha lR=>by
 rcases aq.mp lR with z|z
 ·rw[hf a z]at ha;cases ha
 ·exact z
def StE.more(h:StE K M Z σ H P F)(e:Same H H')(hf:∀a∈fp,H a=xI)(hl:∀a∈fp,∃ys:MuO,H' a=xn ys.1):StE K M Z σ H' P (fp++F):=by
 obtain⟨G,h1,h3⟩:=h.all;have hc:Same (cut H F) (cut H' (fp++F)):=a0K e hf;refine⟨⟨G,h1.frame hc λa ha=>h.keep e a (h3 a ha),λa ha=>ah _ (h3 a ha)⟩,λa ha=>?_,h.prot.trans hc⟩;rcases aq.mp ha with z|z
 ·exact hl a z
 ·exact h.lst' e a z
def StE.grow(h:StE K M Z σ H P F)(e:Same H H'):StE K M Z σ H' P F:=h.more (fp:=[]) e (λa ha=>(nomatch ha)) λa ha=>(nomatch ha)
theorem StR.more(h:StR K M Z σ H P F)(e:Same H H')(hf:∀a∈fp,H a=xI)(hl:∀a∈fp,∃ys:MuO,H' a=xn ys.1):StR K M Z σ H' P (fp++F):=by
 obtain⟨G,h1,h2,h3⟩:=h.all;have S:=h.toE.more e hf hl;exact⟨⟨G,h1.frame (a0K e hf) λa ha=>h.toE.keep e a (h3 a ha),h2,λa ha=>ah _ (h3 a ha)⟩,S.lst,S.prot⟩
def StR.grow(h:StR K M Z σ H P F)(e:Same H H'):StR K M Z σ H' P F:=h.more (fp:=[]) e (λa ha=>(nomatch ha)) λa ha=>(nomatch ha)
def C6(h:Z[i]?=xn d):Z.getD i x=d:=by rw[ag,h];rfl
def StE.get(h:StE K M Z σ H P F)(hm:M[i]?=xn (.own u)):∃v f,σ[i]?=xn (xn v)/\Own K H F u v (Z.getD i .none) f/\∀a∈f,a∈F:=by
 obtain⟨G,h1,h3⟩:=h.all;obtain⟨d,o,f,pre,post,e1,e2,⟨v,rfl,q⟩,e4,_⟩:=h1.at_ hm;refine⟨v,f,e2,by rw[C6 e1];exact q,λa ha=>h3 a ?_⟩;rw[e4];exact ah _ (ak _ ha)
theorem StAll.pick(h:StAll K H F M Z σ G)(hG:∀a∈G,a∈F):∀js:List Nat,∃G',StAll K H F (js.map λj=>M.getD j .dead) (js.map λj=>Z.getD j .none) (js.map λj=>(σ[j]?).getD xI) G'/\∀a∈G',a∈F
 |[]=>⟨[],L3,λa ha=>(nomatch ha)⟩
 |j::js=>by
  obtain⟨G',q,hq⟩:=StAll.pick h hG js;cases e:M[j]? with
  |none=>
   refine⟨[]++G',?_,λa ha=>hq a (by simpa using ha)⟩;have:M.getD j .dead=.dead:=by rw[ag,e];rfl
   rw[ax,ax,ax,this];exact j6 rfl q
  |some m=>
   obtain⟨d,o,f,pre,post,e1,e2,e3,e4,_⟩:=h.at_ e;refine⟨f++G',?_,λa ha=>?_⟩
   ·rw[ax,ax,ax,show M.getD j .dead=m by rw[ag,e];rfl,C6 e1,e2];exact j6 e3 q
   ·rcases aq.mp ha with z|z
    ·exact hG a (by rw[e4];exact ah _ (ak _ z))
    ·exact hq a z
def P3{pre f post:List aw}(h:(pre++(f++post)).Nodup):(pre++post).Nodup:=
 h.sublist (xt (ik _) (qC _ _))
def mem_mid{pre f post:List aw}{a:aw}(h:a∈pre++post):a∈pre++(f++post):=by
 rcases aq.mp h with h|h
 ·exact ak _ h
 ·exact ah _ (ah _ h)
def a1x{pre f post:List aw}(h:(pre++post).Nodup)(hf:f.Nodup)(d:∀a∈f,a∉pre++post):(pre++(f++post)).Nodup:=by
 rw[bN]at h ⊢;obtain⟨h1,h2,h3⟩:=h;refine⟨h1,?_,λa ha b hb=>?_⟩
 ·rw[bN];exact⟨hf,h2,λa ha b hb e=>d a ha (e▸ah _ hb)⟩
 ·rcases aq.mp hb with z|z
  ·intro e;exact d b z (e▸ak _ ha)
  ·exact h3 a ha b z
def a5y{pre f post:List aw}{a:aw}(h:a∈pre++(f++post)):a∈f∨a∈pre++post:=by
 rcases aq.mp h with h|h
 ·exact .inr (ak _ h)
 ·rcases aq.mp h with h|h
  ·exact .inl h
  ·exact .inr (ah _ h)
def a1y{pre f post:List aw}(h:(pre++(f++post)).Nodup):∀a∈f,a∉pre++post:=λa ha z=>by
 rw[bN,bN]at h;rcases aq.mp z with z|z
 ·exact h.2.2 a z a (ak _ ha) rfl
 ·exact h.2.1.2.2 a ha a z rfl
theorem StR.set{H1:Hp}{i:Nat}{m:Md}{u:Ty}{v:V}{d:D}{fp:List aw}(h:StR K M Z σ H P F)(hm:M[i]?=xn m)(e:Same H H1)(hv:Own K H1 (fp++F) u v d fp)(hn:fp.Nodup)(hf:∀a∈fp,H a=xI) :
  StR K (M.set i (.own u)) (Z.set i d) (σ.set i (xn v)) H1 P (fp++F):=by
 obtain⟨G,h1,h2,h3⟩:=h.all;have S:=h.more e hf (hv.lst u);obtain⟨d0,o,f,pre,post,e1,e2,e3,e4,e5⟩:=h1.at_ hm;have oP:=h2;rw[e4]at oP;have hG:∀a∈pre++post,a∈F:=λa ha=>h3 a (by rw[e4];exact mem_mid ha)
 have hc:Same (cut H F) (cut H1 (fp++F)):=P2 e λa o ha lR=>by
  rcases aq.mp lR with z|z
  ·rw[hf a z]at ha;cases ha
  ·exact z
 refine⟨⟨pre++(fp++post),e5 H1 _ (.own u) d (xn v) fp (λa ha=>h.toE.keep e a (hG a ha)) hc ⟨v,rfl,hv⟩,a1x (P3 oP) hn λa ha z=>?_,λa ha=>?_⟩,S.lst,S.prot⟩
 ·obtain⟨ys,q⟩:=h.lst a (hG a z);rw[hf a ha]at q;cases q
 ·rcases a5y ha with z|z
  ·exact ak _ z
  ·exact ah _ (hG a z)
def StR.kill{i:Nat}{m:Md}(h:StR K M Z σ H P F)(hm:M[i]?=xn m)(d:D)(o:Option V):StR K (M.set i .dead) (Z.set i d) (σ.set i o) H P F:=by
 obtain⟨G,h1,h2,h3⟩:=h.all;obtain⟨d0,o0,f,pre,post,e1,e2,e3,e4,e5⟩:=h1.at_ hm;rw[e4]at h2;exact⟨⟨pre++([]++post),e5 H F .dead d o [] (λ_ _=>rfl) (Same.refl _) rfl,P3 h2,λa ha=>h3 a (by rw[e4];exact mem_mid ha)⟩,h.lst,h.prot⟩
def set_same{α:Type}{l:List α}{i:Nat}{x:α}(h:l[i]?=xn x):l.set i x=l:=j_ λj=>by
 rw[List.getElem?_set]
 split
 ·next hj=>
  subst hj
  split
  ·exact h.symm
  ·next hh=>exact (lA (by lia)).symm
 ·rfl
theorem StR.dead{i:Nat}{m:Md}(h:StR K M Z σ H P F)(hm:M[i]?=xn m):StR K (M.set i .dead) Z σ H P F:=by
 obtain⟨G,h1,_⟩:=h.all;obtain⟨d0,o0,f,pre,post,e1,e2,_⟩:=h1.at_ hm;have:=h.kill hm d0 o0
 rwa[set_same e1,set_same e2]at this
def Own.freeze(h:Own K H F u v d fp)(hs:∀a∈F',a∈F)(hd:∀a∈fp,a∉F'):Own K H F' .f v d []:=by
 have key:∀(u:Ty) {v:V} {d:D} {fp:List aw},Own K H F u v d fp->(∀a∈fp,a∉F')->Den K (cut H F') v d:=by
  intro u;refine Ty.rec (motive_1:=λu=>∀{v:V} {d:D} {fp:List aw},Own K H F u v d fp->(∀a∈fp,a∉F')->Den K (cut H F') v d)
   (motive_2:=λus=>∀{xs:List V} {ds:List D} {fp:List aw},OwnTs K H F us xs ds fp->(∀a∈fp,a∉F')->DenAll K (cut H F') xs ds) ?_ ?_ ?_ ?_ ?_ ?_ ?_ u
  ·intro v d fp h _;simp only[Own]at h;exact h.2.2.up (I9 hs)
  ·intro v d fp h _;simp only[Own]at h;exact h.2.up (I9 hs)
  ·intro u ih v d fp h hd;simp only[Own]at h;rcases h with⟨_,_,h⟩|⟨a,xs,ds,fs,rfl,h1,rfl,rfl,h2⟩
   ·exact h.up (I9 hs)
   ·refine den_list (.inl (.inl (g9 (hd a aK) h1))) (ListAll.den (R:=λv d f=>Own K H F u v d f/\∀a∈f,a∉F') (λv d f q=>ih q.1 q.2) (h2.imp λv d f hf _ q=>⟨q,λb hb=>hd b (av _ (hf b hb))⟩))
  ·intro us ih v d fp h hd;simp only[Own]at h;obtain⟨a,xs,ds,rfl,h1,h0,rfl,h2⟩:=h;exact den_tup (SqT.of (g9 (λz=>h0 (hs a z)) h1)) (ih h2 hd)
  ·intro kt u ih v d fp h hd;simp only[Own]at h;obtain⟨a,es,ds,fs,rfl,h1,rfl,rfl,h3,h2⟩:=h;exact a4K (g9 (hd a aK) h1) (λe he=>(h3.2 e he).2.up (I9 hs)) (ListAll.den (R:=λv d f=>Own K H F u v d f/\∀a∈f,a∉F') (λv d f q=>ih q.1 q.2) (h2.imp λv d f hf _ q=>⟨q,λb hb=>hd b (av _ (hf b hb))⟩))
  ·intro xs ds fp h _;simp only[OwnTs]at h;obtain⟨rfl,rfl,_⟩:=h;exact denAll_nil
  ·intro u us xS xR xs ds fp h hd;simp only[OwnTs]at h;obtain⟨v,r,d,e,f,g,rfl,rfl,rfl,h1,h2⟩:=h;exact denAll_cons (xS h1 λa ha=>hd a (ak _ ha)) (xR h2 λa ha=>hd a (ah _ ha))
 simp only[Own];exact⟨trivial,key u h hd⟩
theorem StR.freeze{i:Nat}{u:Ty}(h:StR K M Z σ H P F)(hm:M[i]?=xn (.own u)):∃F',StR K (M.set i (.own .f)) Z σ H P F':=by
 obtain⟨G,h1,h2,h3⟩:=h.all;obtain⟨d,o,f,pre,post,e1,e2,⟨v,rfl,e3⟩,e4,e5⟩:=h1.at_ hm;rw[e4]at h2;have me:∀a∈F.filter (λa=>decide (a∉f)),a∈F:=λa ha=>(ji.mp ha).1
 have yr:∀a∈f,a∉F.filter (λa=>decide (a∉f)):=λa ha z=>absurd ha (bx (ji.mp z).2)
 have hc:Same (cut H F) (cut H (F.filter (λa=>decide (a∉f)))):=I9 me;have q:=e5 H _ (.own .f) d (xn v) [] (λ_ _=>rfl) hc ⟨v,rfl,e3.freeze me yr⟩;rw[set_same e1,set_same e2]at q;refine⟨_,⟨_,q,P3 h2,λa ha=>ji.mpr ⟨h3 a (by rw[e4];exact mem_mid ha),aQ λz=>a1y h2 a z ha⟩⟩,λa ha=>h.lst a (me a ha),h.prot.trans hc⟩
end
inductive Cat where
 |new (u:Ty)|bor (u:Ty)|tmp
def ResR(K:af)(c:Cat)(H H':Hp)(F:List aw)(v:V)(d:D):Prop:=
 match c with
 |.new u=>∃fp,Own K H' (fp++F) u v d fp/\fp.Nodup/\∀a∈fp,H a=xI
 |.bor u=>∃fp,Own K H' F u v d fp/\∀a∈fp,a∈F
 |.tmp=>Den K H' v d
section
variable {K:af}{c:Cat}{H H0 H' H1 H2:Hp}{F:List aw}{v:V}{d:D}
theorem ResR.den(r:ResR K c H H' F v d):Den K H' v d:=by
 cases c with
 |new u=>obtain⟨fp,h,_⟩:=r;exact h.den u
 |bor u=>obtain⟨fp,h,_⟩:=r;exact h.den u
 |tmp=>exact r
def Own.grow(h:Own K H1 F u v d fp)(e:Same H1 H2):Own K H2 F u v d fp:=
 h.frame (L7 e) u λa ha=>by obtain⟨ys,q⟩:=h.lst u a ha;rw[q,e _ _ q]
theorem ResR.up(r:ResR K c H H1 F v d)(e:Same H1 H2):ResR K c H H2 F v d:=by
 cases c with
 |new u=>obtain⟨fp,h,q⟩:=r;exact⟨fp,h.grow e,q⟩
 |bor u=>obtain⟨fp,h,q⟩:=r;exact⟨fp,h.grow e,q⟩
 |tmp=>exact Den.up r e
def ResR.early(r:ResR K c H H1 F v d)(e:Same H0 H):ResR K c H0 H1 F v d:=by
 cases c with
 |new u=>obtain⟨fp,h,n,q⟩:=r;exact⟨fp,h,n,λa ha=>e.free (q a ha)⟩
 |bor u=>exact r
 |tmp=>exact r
def K3(hi:imm d=true)(hd:Den K H' v d)(hF:∀a∈F,∃ys:MuO,H' a=xn ys.1):ResR K (.new .i) H H' F v d:=by
 refine⟨[],?_,bA,λa ha=>(nomatch ha)⟩;simp only[Own,bJ];exact⟨trivial,hi,hd.imm_out hF d hi⟩
def a2e(h:Own K H F .i v d fp):fp=[]/\imm d=true/\Den K (cut H F) v d:=by simpa only [Own]using h
def a9x(h:Own K H F .f v d fp):fp=[]/\Den K (cut H F) v d:=by simpa only [Own]using h
end
abbrev EvE:=List D->Option D
abbrev EvT:=List D->Option Bool
noncomputable def spE(K:af)(M:List Md)(f:EvE)(c:Cat):TE:=λσ H Q=>∃(Z:List D) (P:Hp) (F:List aw) (d:D),StE K M Z σ H P F/\f Z=xn d/\∀v H',Same H H'->ResR K c H H' F v d->Q v H'
noncomputable def PX(X:Cx)(M:List Md)(e:Expr)(f:EvE)(c:Cat):Prop:=PE X e (spE X.K M f c)
def PX.out{X:Cx}{M:List Md}{e:Expr}{f:EvE}{c:Cat}(h:PX X M e f c) :
  ∃t,PE X e t/\∀(Z:List D) (σ:L2.St) (H P:Hp) (F:List aw) (d:D) (Q:VK),StE X.K M Z σ H P F->f Z=xn d->(∀v H',Same H H'->ResR X.K c H H' F v d->Q v H')->t σ H Q:=
 ⟨_,h,λZ _ _ P F d _ S hf q=>⟨Z,P,F,d,S,hf,q⟩⟩
def PX.mk{X:Cx}{M:List Md}{e:Expr}{f:EvE}{c:Cat}
  (h:∃t,PE X e t/\∀(Z:List D) (σ:L2.St) (H P:Hp) (F:List aw) (d:D) (Q:VK),StE X.K M Z σ H P F->f Z=xn d->(∀v H',Same H H'->ResR X.K c H H' F v d->Q v H')->t σ H Q):PX X M e f c:=by
 obtain⟨t,p,q⟩:=h;exact λpins s σ H Q I ⟨Z,P,F,d,S,hf,z⟩=>p pins s σ H Q I (q Z σ H P F d Q S hf z)
noncomputable def spT(K:af)(M:List Md)(g:EvT):TT:=λσ H Q=>∃(Z:List D) (P:Hp) (F:List aw) (b:Bool),StE K M Z σ H P F/\g Z=xn b/\∀H',Same H H'->Q b H'
noncomputable def PTX(X:Cx)(M:List Md)(e:Expr)(g:EvT):Prop:=PT X e (spT X.K M g)
def PTX.out{X:Cx}{M:List Md}{e:Expr}{g:EvT}(h:PTX X M e g) :
  ∃t,PT X e t/\∀(Z:List D) (σ:L2.St) (H P:Hp) (F:List aw) (b:Bool) (Q:Bool->Hp->Prop),StE X.K M Z σ H P F->g Z=xn b->(∀H',Same H H'->Q b H')->t σ H Q:=
 ⟨_,h,λZ _ _ P F b _ S hf q=>⟨Z,P,F,b,S,hf,q⟩⟩
def PTX.mk{X:Cx}{M:List Md}{e:Expr}{g:EvT}
  (h:∃t,PT X e t/\∀(Z:List D) (σ:L2.St) (H P:Hp) (F:List aw) (b:Bool) (Q:Bool->Hp->Prop),StE X.K M Z σ H P F->g Z=xn b->(∀H',Same H H'->Q b H')->t σ H Q):PTX X M e g:=by
 obtain⟨t,p,q⟩:=h;exact λpins s σ H Q I ⟨Z,P,F,d,S,hf,z⟩=>p pins s σ H Q I (q Z σ H P F d Q S hf z)
noncomputable def PWX(X:Cx)(M:List Md)(e:Expr)(g:EvT):Prop:=PW X e (spT X.K M g)
def PWX.out{X:Cx}{M:List Md}{e:Expr}{g:EvT}(h:PWX X M e g) :
  ∃t,PW X e t/\∀(Z:List D) (σ:L2.St) (H P:Hp) (F:List aw) (b:Bool) (Q:Bool->Hp->Prop),StE X.K M Z σ H P F->g Z=xn b->(∀H',Same H H'->Q b H')->t σ H Q:=
 ⟨_,h,λZ _ _ P F b _ S hf q=>⟨Z,P,F,b,S,hf,q⟩⟩
def PWX.mk{X:Cx}{M:List Md}{e:Expr}{g:EvT}
  (h:∃t,PW X e t/\∀(Z:List D) (σ:L2.St) (H P:Hp) (F:List aw) (b:Bool) (Q:Bool->Hp->Prop),StE X.K M Z σ H P F->g Z=xn b->(∀H',Same H H'->Q b H')->t σ H Q):PWX X M e g:=by
 obtain⟨t,p,q⟩:=h;exact λwhole pins s σ H Q I ⟨Z,P,F,d,S,hf,z⟩=>p whole pins s σ H Q I (q Z σ H P F d Q S hf z)
abbrev EvA:=List D->Option (List D)
noncomputable def PAX(X:Cx)(M:List Md)(es:List Expr)(f:EvA):Prop:=
 ∃t,PA X es t/\∀(Z:List D) (σ:L2.St) (H P:Hp) (F:List aw) (ds:List D) (Q:List V->Hp->Prop),StE X.K M Z σ H P F->f Z=xn ds->(∀vs H',Same H H'->DenAll X.K H' vs ds->Q vs H')->t σ H Q
noncomputable def PAN(X:Cx)(M:List Md)(es:List Expr)(f:EvA)(us:List Ty):Prop:=
 ∃t,PA X es t/\∀(Z:List D) (σ:L2.St) (H P:Hp) (F:List aw) (ds:List D) (Q:List V->Hp->Prop),StE X.K M Z σ H P F->f Z=xn ds->
  (∀vs H' fp,Same H H'->OwnTs X.K H' (fp++F) us vs ds fp->fp.Nodup->(∀a∈fp,H a=xI)->Q vs H')->t σ H Q
noncomputable def a6(i:Nat):EvE:=λZ=>xn (Z.getD i .none)
noncomputable def eC(d:D):EvE:=λ_=>xn d
noncomputable def e1(g:D->Option D)(a:EvE):EvE:=λZ=>(a Z).bind g
noncomputable def e2(g:D->D->Option D)(a b:EvE):EvE:=λZ=>(a Z).bind λx=>(b Z).bind λy=>g x y
def asB:D->Option Bool
 |.bool b=>xn b
 |_=>xI
noncomputable def b2V(a b:EvE):EvE:=λZ=>(a Z).bind λx=>(asB x).bind λk=>if k then b Z else xn (.bool false)
noncomputable def eOr(a b:EvE):EvE:=λZ=>(a Z).bind λx=>(asB x).bind λk=>if k then xn (.bool true) else b Z
noncomputable def b5T(a:EvE):EvE:=λZ=>(a Z).bind λx=>(asB x).bind λk=>xn (.bool !k)
noncomputable def eIf(c:EvT)(a b:EvE):EvE:=λZ=>(c Z).bind λk=>if k then a Z else b Z
noncomputable def eCh(g g':D->D->Option D)(a b c:EvE):EvE:=λZ=>(a Z).bind λx=>(b Z).bind λy=>(g x y).bind λz=>(asB z).bind λk=>if k then (c Z).bind λw=>g' y w else xn (.bool false)
def tr:D->Option Bool
 |.none=>xn false
 |.bool b=>xn b
 |.int i=>xn (i !=0)
 |.str x=>if x.length<=a_ then xn ((x.length:Int)!=0) else xI
 |.list ds=>xn !ds.isEmpty
 |.tuple ds=>xn !ds.isEmpty
 |.dict _=>xI
noncomputable def tV(a:EvE):EvT:=λZ=>(a Z).bind tr
noncomputable def tB(a:EvE):EvT:=λZ=>(a Z).bind asB
noncomputable def tNo(a:EvT):EvT:=λZ=>(a Z).bind λk=>xn !k
noncomputable def tAn(a b:EvT):EvT:=λZ=>(a Z).bind λk=>if k then b Z else xn false
noncomputable def a8a(a b:EvT):EvT:=λZ=>(a Z).bind λk=>if k then xn true else b Z
def b9:List D->Option (List D):=λ_=>xn []
noncomputable def a7(a:EvE)(r:List D->Option (List D)):List D->Option (List D):=λZ=>(a Z).bind λx=>(r Z).bind λxs=>xn (x::xs)
def L8(h:asB d=xn k):d=.bool k:=by
 cases d with
 |bool b=>cases h;rfl
 |_=>cases h
def bnd{α β:Type}{o:Option α}{f:α->Option β}{b:β}(h:o.bind f=xn b):∃a,o=xn a/\f a=xn b:=Option.bind_eq_some_iff.mp h
section
variable {X:Cx}{M:List Md}{a b e e':Expr}{es rest:List Expr}{f g fa fb fc:EvE}{ga gb:EvT}{c ca cb cc:Cat}{u:Ty}{us:List Ty}{pos:fM}
def PX.imp(h:PX X M e f c)(k:∀(K:af) (H H':Hp) (F:List aw) (v:V) (d:D),(∀a∈F,∃ys:MuO,H a=xn ys.1)->Same H H'->ResR K c H H' F v d->ResR K c' H H' F v d):PX X M e f c':=by
 obtain⟨t,p,q⟩:=h.out;exact .mk ⟨t,p,λZ σ H P F d Q S hf z=>q Z σ H P F d Q S hf λv H' e r=>z v H' e (k _ _ _ _ _ _ S.lst e r)⟩
def PX.newf(h:PX X M e f (.bor .f)):PX X M e f (.new .f):=h.imp λK H H' F v d _ _ ⟨fp,o,_⟩=>by
 obtain⟨rfl,_⟩:=a9x o;exact⟨[],o,bA,λa ha=>(nomatch ha)⟩
def PX.newi(h:PX X M e f (.bor .i)):PX X M e f (.new .i):=h.imp λK H H' F v d _ _ ⟨fp,o,_⟩=>by
 obtain⟨rfl,_⟩:=a2e o;exact⟨[],o,bA,λa ha=>(nomatch ha)⟩
def PX.itol(h:PX X M e f (.new .i)):PX X M e f (.new (.l u)):=h.imp λK H H' F v d _ _ ⟨fp,o,n,z⟩=>by
 obtain⟨rfl,w,q⟩:=a2e o;refine⟨[],?_,n,z⟩;simp only[Own];exact .inl ⟨trivial,w,q⟩
def PX.frz(h:PX X M e f (.new u)):PX X M e f (.new .f):=h.imp λK H H' F v d hF _ ⟨fp,o,n,z⟩=>by
 refine⟨[],o.freeze (λa ha=>ah _ (by simpa using ha)) (λa ha uq=>?_),bA,λa ha=>(nomatch ha)⟩;obtain⟨ys,q⟩:=hF a (by simpa using uq);rw[z a ha]at q;cases q
def r0(i:Nat)(hN:X.N[i]?=xn x:=by rfl)(hv:Vis X.env.scope x:=by first|exact bY rfl|exact bR (bY rfl)|exact bR (bR rfl))(hd:(x==("__debug__":bE))=false:=by decide)
  (iF:(x==("__classdict__":bE))=false:=by decide) (hm:M[i]?=xn (.own u):=by rfl):PX X M (.Name x pos) (a6 i) (.bor u):=by
 refine .mk ⟨_,B5 hN hv hd iF,λZ σ H P F d Q S hf q=>?_⟩;cases hf
 obtain⟨v,fp,e,o,sub⟩:=S.get hm;exact⟨v,e,q v H (Same.refl _) ⟨fp,o,sub⟩⟩
def a0L(h:PE X e (tC v))(hi:imm d=true)(hd:∀H,Den X.K H v d):PX X M e (eC d) (.new .i):=by
 refine .mk ⟨_,h,λZ σ H P F d' Q S hf q=>?_⟩;cases hf
 exact q v H (Same.refl _) (K3 hi (hd H) S.lst)
def c9{i j}:PX X M (.Constant (.int i) j pos) (eC (.int i)) (.new .i):=a0L a7M (by simp only[imm]) λ_=>den_int
def a2f{k j}:PX X M (.Constant (.bool k) j pos) (eC (.bool k)) (.new .i):=a0L c0s (by simp only[imm]) λ_=>den_bool
def a8b{j}:PX X M (.Constant .none j pos) (eC .none) (.new .i):=a0L b8j (by simp only[imm]) λ_=>den_none
def a9y(hm:∃t,X.mg x=xn (.int i t))(hg:Gl X x:=by rfl)(hd:(x==("__debug__":bE))=false:=by decide):PX X M (.Name x pos) (eC (.int i)) (.new .i):=by
 obtain⟨t,hm⟩:=hm;exact a0L (a9o (v:=.int i) hg hm ⟨_,rfl⟩ hd) (by simp only[imm]) λ_=>den_int
def D7{g:D->D->Option D}{Z:List D}{d:D}(h:e2 g fa fb Z=xn d):∃x y,fa Z=xn x/\fb Z=xn y/\g x y=xn d:=by
 obtain⟨x,h1,h⟩:=bnd h;obtain⟨y,h2,h⟩:=bnd h;exact⟨x,y,h1,h2,h⟩
def i8{g:D->D->Option D}(ho:OpS X (fX op) g)(ha:PX X M a fa ca)(hb:PX X M b fb cb):PX X M (.BinOp a op b pos) (e2 g fa fb) (.new .i):=by
 obtain⟨r,hr,hs⟩:=ho;obtain⟨ta,pa,qa⟩:=ha.out;obtain⟨tb,pb,qb⟩:=hb.out;refine .mk ⟨_,b7K hr pa pb,λZ σ H P F d Q S hf q=>?_⟩;obtain⟨x,y,h1,h2,h3⟩:=D7 hf;exact qa Z σ H P F x _ S h1 λv H1 e1 r1=>qb Z σ H1 P F y _ (S.grow e1) h2 λw H2 e2 r2=>hs v w H2 x y d Q (r1.den.up e2) r2.den h3 λz hi hd=>q z H2 (e1.trans e2) (K3 hi (hd H2) (S.lst' (e1.trans e2)))
def b2W{g:D->D->Option D}(ho:OpS X (cA op) g)(ha:PX X M a fa ca)(hb:PX X M b fb cb)(hm:ie op b=false:=by first|exact a7Q _|with_unfolding_all rfl):PX X M (.Compare a [op] [b] pos) (e2 g fa fb) (.new .i):=by
 obtain⟨r,hr,hs⟩:=ho;obtain⟨ta,pa,qa⟩:=ha.out;obtain⟨tb,pb,qb⟩:=hb.out;refine .mk ⟨_,b5D hr pa pb hm,λZ σ H P F d Q S hf q=>?_⟩;obtain⟨x,y,h1,h2,h3⟩:=D7 hf;exact qa Z σ H P F x _ S h1 λv H1 e1 r1=>qb Z σ H1 P F y _ (S.grow e1) h2 λw H2 e2 r2=>hs v w H2 x y d Q (r1.den.up e2) r2.den h3 λz hi hd=>q z H2 (e1.trans e2) (K3 hi (hd H2) (S.lst' (e1.trans e2)))
def w6{op:CmpOp}{g:D->D->Option D}(ho:OpS X (cA op) g)(ha:PX X M a fa ca)(hb:PX X M b fb cb)(hm:ie op b=false:=by first|exact a7Q _|with_unfolding_all rfl):PTX X M (.Compare a [op] [b] pos) (tB (e2 g fa fb)):=by
 obtain⟨r,hr,hs⟩:=ho;obtain⟨ta,pa,qa⟩:=ha.out;obtain⟨tb,pb,qb⟩:=hb.out;refine .mk ⟨_,a9q hr pa pb hm,λZ σ H P F k Q S hf q=>?_⟩;obtain⟨d,hf,hk⟩:=bnd hf;cases L8 hk
 obtain⟨x,y,h1,h2,h3⟩:=D7 hf;exact qa Z σ H P F x _ S h1 λv H1 e1 r1=>qb Z σ H1 P F y _ (S.grow e1) h2 λw H2 e2 r2=>hs v w H2 x y _ _ (r1.den.up e2) r2.den h3 λz hi hd=>⟨k,(hd H2).bool_inv,q H2 (e1.trans e2)⟩
def b2X{op oK:CmpOp}{g g':D->D->Option D}{c0:Expr}(ho:OpS X (cA op) g)(ng:OpS X (cA oK) g')(ha:PX X M a fa ca)(hb:PX X M b fb cb)(hc:PX X M c0 fc cc)(hm:Ac [op,oK] [b,c0]=false:=by with_unfolding_all rfl) :
  PX X M (.Compare a [op,oK] [b,c0] pos) (eCh g g' fa fb fc) (.new .i):=by
 obtain⟨r,hr,hs⟩:=ho;obtain⟨r',qu,iO⟩:=ng;obtain⟨ta,pa,qa⟩:=ha.out;obtain⟨tb,pb,qb⟩:=hb.out;obtain⟨tc,pc,qc⟩:=hc.out;refine .mk ⟨_,b2E hr qu pa pb pc hm,λZ σ H P F d Q S hf q=>?_⟩;obtain⟨x,h1,hf⟩:=bnd hf;obtain⟨y,h2,hf⟩:=bnd hf;obtain⟨z,h3,hf⟩:=bnd hf;obtain⟨k,h4,hf⟩:=bnd hf;cases L8 h4
 refine qa Z σ H P F x _ S h1 λv H1 e1 r1=>qb Z σ H1 P F y _ (S.grow e1) h2 λw H2 e2 r2=>hs v w H2 x y _ _ (r1.den.up e2) r2.den h3 λz hi hd=>⟨k,(hd H2).bool_inv,?_⟩
 cases k with
 |false=>
  have oR:d=.bool false:=(aF hf).symm;subst oR;exact a6C (q _ H2 (e1.trans e2) (K3 (by simp only[imm]) den_bool (S.lst' (e1.trans e2))))
 |true=>
  obtain⟨w',h5,hf⟩:=bnd (show (fc Z).bind (λw=>g' y w)=xn d from hf);exact a5t (qc Z σ H2 P F w' _ (S.grow (e1.trans e2)) h5 λw3 H3 e3 r3=>iO w w3 H3 y w' d Q (r2.den.up e3) r3.den hf λz hi hd=>q z H3 ((e1.trans e2).trans e3) (K3 hi (hd H3) (S.lst' ((e1.trans e2).trans e3))))
def b0X{op oK:CmpOp}{g g':D->D->Option D}{c0:Expr}(ho:OpS X (cA op) g)(ng:OpS X (cA oK) g')(ha:PX X M a fa ca)(hb:PX X M b fb cb)(hc:PX X M c0 fc cc)(hm:Ac [op,oK] [b,c0]=false:=by with_unfolding_all rfl) :
  PTX X M (.Compare a [op,oK] [b,c0] pos) (tB (eCh g g' fa fb fc)):=by
 obtain⟨r,hr,hs⟩:=ho;obtain⟨r',qu,iO⟩:=ng;obtain⟨ta,pa,qa⟩:=ha.out;obtain⟨tb,pb,qb⟩:=hb.out;obtain⟨tc,pc,qc⟩:=hc.out;refine .mk ⟨_,b2F hr qu pa pb pc hm,λZ σ H P F k0 Q S hf q=>?_⟩;obtain⟨d,hf,hk⟩:=bnd hf;cases L8 hk
 obtain⟨x,h1,hf⟩:=bnd hf;obtain⟨y,h2,hf⟩:=bnd hf;obtain⟨z,h3,hf⟩:=bnd hf;obtain⟨k,h4,hf⟩:=bnd hf;cases L8 h4
 refine qa Z σ H P F x _ S h1 λv H1 e1 r1=>qb Z σ H1 P F y _ (S.grow e1) h2 λw H2 e2 r2=>hs v w H2 x y _ _ (r1.den.up e2) r2.den h3 λz hi hd=>⟨k,(hd H2).bool_inv,?_⟩
 cases k with
 |false=>
  have oR:k0=false:=by injection (aF hf).symm
  subst oR;exact a6C ⟨false,rfl,q H2 (e1.trans e2)⟩
 |true=>
  obtain⟨w',h5,hf⟩:=bnd (show (fc Z).bind (λw=>g' y w)=xn (.bool k0) from hf);exact a5t (qc Z σ H2 P F w' _ (S.grow (e1.trans e2)) h5 λw3 H3 e3 r3=>iO w w3 H3 y w' _ _ (r2.den.up e3) r3.den hf λz hi hd=>⟨k0,(hd H3).bool_inv,q H3 ((e1.trans e2).trans e3)⟩)
def a8c(h:PX X M a f c):PX X M (.BoolOp op [a] pos) f c:=by
 obtain⟨t,p,q⟩:=h.out;exact .mk ⟨t,b8m p,q⟩
def b2Y(ha:PX X M a fa ca)(hb:PX X M (.BoolOp .And (b::rest) pos) fb (.new .i)):PX X M (.BoolOp .And (a::b::rest) pos) (b2V fa fb) (.new .i):=by
 obtain⟨ta,pa,qa⟩:=ha.out;obtain⟨tb,pb,qb⟩:=hb.out;refine .mk ⟨_,b8n pa pb,λZ σ H P F d Q S hf q=>?_⟩;obtain⟨x,h1,hf⟩:=bnd hf;obtain⟨k,h2,hf⟩:=bnd hf;cases L8 h2
 refine qa Z σ H P F _ _ S h1 λv H1 e1 r1=>⟨k,r1.den.bool_inv,?_⟩
 cases k with
 |false=>
  have oR:d=.bool false:=(aF hf).symm;subst oR;exact a6C (q _ H1 e1 (K3 (by simp only[imm]) den_bool (S.lst' e1)))
 |true=>exact a5t (qb Z σ H1 P F d Q (S.grow e1) hf λw H2 e2 r2=>q w H2 (e1.trans e2) (r2.early e1))
def b8N(ha:PX X M a fa ca):PX X M (.UnaryOp .Not a pos) (b5T fa) (.new .i):=by
 obtain⟨ta,pa,qa⟩:=ha.out;refine .mk ⟨_,b8o pa,λZ σ H P F d Q S hf q=>?_⟩;obtain⟨x,h1,hf⟩:=bnd hf;obtain⟨k,h2,hf⟩:=bnd hf;cases L8 h2
 cases hf
 exact qa Z σ H P F _ _ S h1 λv H1 e1 r1=>⟨k,r1.den.bool_inv,q _ H1 e1 (K3 (by simp only[imm]) den_bool (S.lst' e1))⟩
def a8d:PX X M (.UnaryOp .USub (.Constant (.int i) j p) pos) (eC (.int (-i))) (.new .i):=by
 refine .mk ⟨_,c0C b8C a7M,λZ σ H P F d Q S hf q=>?_⟩;cases hf
 exact⟨i,rfl,q _ H (Same.refl _) (K3 (by simp only[imm]) den_int S.lst)⟩
def b2Z(h:Den K H v d)(ht:tr d=xn k):b5E K v H k:=by
 cases d with
 |none=>cases h.none_inv;cases ht;exact rfl
 |bool b=>cases h.bool_inv;cases ht;exact rfl
 |int i=>cases h.int_inv;cases ht;exact rfl
 |str x=>
  cases h.str_inv
  replace ht:(if x.length<=a_ then xn ((x.length:Int)!=0) else xI)=xn k:=ht
  by_cases z:x.length<=a_
  ·rw[aB z]at ht;cases ht
   exact⟨z,rfl⟩
  ·rw[aJ z]at ht;cases ht
 |list ds=>
  obtain⟨a,xs,rfl,h1,h2⟩:=h.list_inv;cases ht
  refine .inl ⟨xs,h1.l,?_⟩;have:=h2.length;cases xs<;>cases ds<;>simp_all
 |tuple ds=>
  obtain⟨a,xs,rfl,h1,h2⟩:=h.tup_inv;cases ht
  refine .inr (.inl ⟨xs,h1,?_⟩);have:=h2.length;cases xs<;>cases ds<;>simp_all
 |dict kvs=>cases ht
def a5z(ha:PX X M a fa ca)(he:∀whole,BZ a X.env whole=(do let v <-whole;standAt a.pos;holding [v] (truthy v)):=by intro _;rfl):PTX X M a (tV fa):=by
 obtain⟨ta,pa,qa⟩:=ha.out;refine .mk ⟨_,b2H pa he,λZ σ H P F k Q S hf q=>?_⟩;obtain⟨x,h1,hf⟩:=bnd hf;exact qa Z σ H P F _ _ S h1 λv H1 e1 r1=>⟨k,b2Z r1.den hf,q H1 e1⟩
def a5A(h:PTX X M a ga):PTX X M (.UnaryOp .Not a pos) (tNo ga):=by
 obtain⟨ta,pa,qa⟩:=h.out;refine .mk ⟨_,b8l pa,λZ σ H P F k Q S hf q=>?_⟩;obtain⟨x,h1,hf⟩:=bnd hf;cases hf
 exact qa Z σ H P F _ _ S h1 λH1 e1=>q H1 e1
theorem PWX.pt(h:PWX X M e ga):PTX X M e ga:=by
 obtain⟨t,p,q⟩:=h.out;exact .mk ⟨t,p.pt,q⟩
def a5B(h:PTX X M a ga):PWX X M (.BoolOp .Or [a] pos) ga:=by
 obtain⟨t,p,q⟩:=h.out;exact .mk ⟨t,b8k p,q⟩
def a8e(ha:PTX X M a ga)(hb:PWX X M (.BoolOp .Or (b::rest) pos) gb):PWX X M (.BoolOp .Or (a::b::rest) pos) (a8a ga gb):=by
 obtain⟨ta,pa,qa⟩:=ha.out;obtain⟨tb,pb,qb⟩:=hb.out;refine .mk ⟨_,c0t pa pb,λZ σ H P F k Q S hf q=>?_⟩;obtain⟨x,h1,hf⟩:=bnd hf;refine qa Z σ H P F _ _ S h1 λH1 e1=>?_
 cases x with
 |true=>cases hf;exact a5t (q H1 e1)
 |false=>exact a6C (qb Z σ H1 P F k Q (S.grow e1) hf λH2 e2=>q H2 (e1.trans e2))
def c8:PAX X M [] b9:=⟨_,p5,λZ σ H P F ds Q S hf q=>by cases hf;exact q [] H (Same.refl _) denAll_nil⟩
def a8{fr:List D->Option (List D)}(ha:PX X M a fa ca)(hr:PAX X M es fr)(hs:ar (a::es) X.env=(false,cK a X.env)::ar es X.env:=by rfl):PAX X M (a::es) (a7 fa fr):=by
 obtain⟨ta,pa,qa⟩:=ha.out;obtain⟨tr,pr,qr⟩:=hr;refine⟨_,k8 pa pr hs,λZ σ H P F ds Q S hf q=>?_⟩;obtain⟨x,h1,hf⟩:=bnd hf;obtain⟨xs,h2,hf⟩:=bnd hf;cases hf
 exact qa Z σ H P F _ _ S h1 λv H1 e1 r1=>qr Z σ H1 P F _ _ (S.grow e1) h2 λvs H2 e2 r2=>q (v::vs) H2 (e1.trans e2) (denAll_cons (r1.den.up e2) r2)
def l5:PAN X M [] b9 []:=⟨_,p5,λZ σ H P F ds Q S hf q=>by
 cases hf
 refine q [] H [] (Same.refl _) ?_ bA λa ha=>(nomatch ha)
 simp only[OwnTs];exact⟨trivial,trivial,trivial⟩⟩
def m6{fr:List D->Option (List D)}(ha:PX X M a fa (.new u))(hr:PAN X M es fr us)(hs:ar (a::es) X.env=(false,cK a X.env)::ar es X.env:=by rfl):PAN X M (a::es) (a7 fa fr) (u::us):=by
 obtain⟨ta,pa,qa⟩:=ha.out;obtain⟨tr,pr,qr⟩:=hr;refine⟨_,k8 pa pr hs,λZ σ H P F ds Q S hf q=>?_⟩;obtain⟨x,h1,hf⟩:=bnd hf;obtain⟨xs,h2,hf⟩:=bnd hf;cases hf
 refine qa Z σ H P F _ _ S h1 λv H1 e1 ⟨fp,o,n,fr⟩=>qr Z σ H1 P (fp++F) _ _ (S.more e1 fr (o.lst u)) h2 λvs H2 gp e2 o2 n2 zr=>?_
 have hl:=o.lst u;have hc:Same (cut H1 (fp++F)) (cut H2 (fp++gp++F)):=P2 e2 λa o' ha lR=>by
  rw[aS]at lR;rcases aq.mp lR with z|z
  ·exact ak _ z
  ·rcases aq.mp z with z|z
   ·rw[zr a z]at ha;cases ha
   ·exact ah _ z
 have hd:∀a∈gp,a∉fp:=λa ha z=>by
  obtain⟨ys,q⟩:=hl a z;rw[zr a ha]at q;cases q
 refine q (v::vs) H2 (fp++gp) (e1.trans e2) ?_ ?_ λa ha=>?_
 ·simp only[OwnTs];refine⟨v,vs,x,xs,fp,gp,rfl,rfl,rfl,o.frame hc u λa ha=>?_,o2.frame (H:=H2) (I9 λa ha=>?_) us λ_ _=>rfl⟩
  ·obtain⟨ys,q⟩:=hl a ha;rw[q,e2 _ _ q]
  ·simp only[aq]at ha ⊢;rcases ha with (z|z)|z
   ·exact .inr (.inl z)
   ·exact .inl z
   ·exact .inr (.inr z)
 ·rw[bN];exact⟨n,n2,λa ha b hb e=>hd b hb (e▸ha)⟩
 ·rcases aq.mp ha with z|z
  ·exact fr a z
  ·exact e1.free (zr a z)
end
section
variable {K:af}{H H0 H1:Hp}{F fp:List aw}{vs:List V}{ds:List D}{p:aw}{u:Ty}{us:List Ty}
def b5U(hp:H p=xI):Same (cut H (fp++F)) (cut (upd H p o) (p::fp++F)):=P2 (l6 hp o) λa u ha lR=>by
 rw[bB]at lR;rcases aH.mp lR with z|z
 ·subst z;rw[hp]at ha;cases ha
 ·exact z
theorem a4L:∀{n:Nat} {vs:List V} {ds:List D} {fp:List aw},OwnTs K H F (aT n u) vs ds fp->ListAll (Own K H F u) vs ds fp
 |0,_,_,_,h=>by
  simp only[gJ,OwnTs]at h;obtain⟨rfl,rfl,rfl⟩:=h;exact p6
 |n+1,_,_,_,h=>by
  simp only[jr,OwnTs]at h;obtain⟨v,r,d,e,f,g,rfl,rfl,rfl,h1,h2⟩:=h;exact m9 h1 (a4L h2)
theorem OwnTs.len:∀{us:List Ty} {vs:List V} {ds:List D} {fp:List aw},OwnTs K H F us vs ds fp->vs.length=us.length/\ds.length=us.length
 |[],_,_,_,h=>by simp only[OwnTs]at h;obtain⟨rfl,rfl,_⟩:=h;exact⟨rfl,rfl⟩
 |u::us,_,_,_,h=>by
  simp only[OwnTs]at h;obtain⟨v,r,d,e,f,g,rfl,rfl,rfl,_,h2⟩:=h;obtain⟨a,b⟩:=OwnTs.len h2;exact⟨by rw[aV,aV,a],by rw[aV,aV,b]⟩
def n9(e:Same (cut H F) (cut H1 F'))(h:ListAll (Own K H F u) vs ds fp)(k:∀a∈fp,H1 a=H a):ListAll (Own K H1 F' u) vs ds fp:=
 h.imp λv d f hf _ q=>q.frame e u λa ha=>k a (hf a ha)
def a3e(h:ListAll (Own K H1 (fp++F) u) vs ds fp)(hn:fp.Nodup)(hf:∀a∈fp,H a=xI)(e:Same H H1)(hp:H1 p=xI)(hl:∀a∈fp,∃ys:MuO,H1 a=xn ys.1):ResR K (.new (.l u)) H (upd H1 p (.lst vs)) F (.ref p) (.list ds):=by
 have vc:p∉fp:=λz=>by obtain⟨ys,q⟩:=hl p z;rw[hp]at q;cases q
 refine⟨p::fp,?_,bV.mpr ⟨vc,hn⟩,λa ha=>?_⟩
 ·simp only[Own];refine .inr ⟨p,vs,ds,fp,rfl,g8,rfl,rfl,n9 (b5U hp) h λa ha=>?_⟩;exact c7 λz=>vc (z▸ha)
 ·rcases aH.mp ha with z|z
  ·subst z;exact e.free hp
  ·exact hf a z
theorem ListAll.of_den:∀{vs:List V} {ds:List D},DenAll K H vs ds->(∀v d,d∈ds->Den K H v d->R v d [])->ListAll R vs ds []
 |_,[],h,_=>by rw[h.nil_inv];exact p6
 |_,d::ds,h,k=>by
  obtain⟨v,r,rfl,h1,h2⟩:=h.cons_inv;have:=m9 (f:=[]) (k v d aK h1) (ListAll.of_den h2 λv d hd=>k v d (av _ hd));exact this
theorem F8:∀{ds:List D} {d:D},e7 ds=true->d∈ds->imm d=true
 |[],d,_,h=>nomatch h
 |d0::ds,d,q,h=>by
  simp only[e7,aD]at q;rcases aH.mp h with z|z
  ·rw[z];exact q.1
  ·exact F8 q.2 z
def Y4(h:DenAll K H1 vs ds)(hi:e7 ds=true)(e:Same H H1)(hp:H1 p=xI)(hF:∀a∈F,∃ys:MuO,H1 a=xn ys.1):ResR K (.new (.l .i)) H (upd H1 p (.lst vs)) F (.ref p) (.list ds):=
 a3e (fp:=[]) (ListAll.of_den h λv d hd q=>by
  simp only[Own,bJ];exact⟨trivial,F8 hi hd,q.imm_out hF d (F8 hi hd)⟩) bA (λa ha=>(nomatch ha)) e hp λa ha=>(nomatch ha)
def b0Y(h:DenAll K (cut H1 F) vs ds)(e:Same H H1)(hp:H1 p=xI):ResR K (.new (.l .f)) H (upd H1 p (.lst vs)) F (.ref p) (.list ds):=
 a3e (fp:=[]) (ListAll.of_den h λv d hd q=>by
  simp only[Own,bJ];exact⟨trivial,q⟩) bA (λa ha=>(nomatch ha)) e hp λa ha=>(nomatch ha)
def a6G(h:DenAll K H1 vs ds)(hp:H1 p=xI):Den K (upd H1 p (.tup vs)) (.ref p) (.tuple ds):=den_tup (SqT.of g8) (h.up (l6 hp _))
def b5V(h:e7 ds=true):imm (.tuple ds)=true:=by simpa only [imm]using h
end
noncomputable def x4(f:EvA):EvE:=λZ=>(f Z).bind λds=>xn (.list ds)
noncomputable def V7(f:EvA):EvE:=λZ=>(f Z).bind λds=>xn (.tuple ds)
def a5C(d:D):Option D:=if imm d then xn d else xI
def a4M(h:a5C d=xn e):e=d/\imm d=true:=by
 unfold a5C at h;by_cases c:imm d=true
 ·rw[aB c]at h;exact⟨(aF h).symm,c⟩
 ·rw[aJ c]at h;cases h
def b3a(d:D):Option D:=match d with
 |.list ds=>if e7 ds then xn d else xI
 |_=>xI
def a8f(h:b3a d=xn e):∃ds,d=.list ds/\e=.list ds/\e7 ds=true:=by
 cases d with
 |list ds=>
  have h':(if e7 ds=true then xn (bD ds) else xI)=xn e:=h;by_cases c:e7 ds=true
  ·rw[aB c]at h';exact⟨ds,rfl,(aF h').symm,c⟩
  ·rw[aJ c]at h';cases h'
 |_=>cases h
section
variable {X:Cx}{M:List Md}{a b e:Expr}{es:List Expr}{fa fb:EvE}{f:EvA}{c ca cb:Cat}{u:Ty}{us:List Ty}{pos:fM}
def r8(h:PAN X M es f (aT n u))(hn:n<=1000:=by decide):PX X M (.List es pos) (x4 f) (.new (.l u)):=by
 obtain⟨t,p,q⟩:=h;refine .mk ⟨_,b8E p,λZ σ H P F d Q S hf k=>?_⟩;obtain⟨ds,h1,hf⟩:=bnd hf;cases hf
 refine q Z σ H P F ds _ S h1 λvs H1 fp e o nd fr=>⟨?_,λx hx=>k (.ref x) _ (e.trans (l6 hx _)) (a3e (a4L o) nd fr e hx (o.lst _))⟩
 rw[o.len.1,gh];exact eV (Y2 hn)
def b8O(h:PAN X M es f us)(hn:us.length<=1000:=by decide):PX X M (.Tuple es j pos) (V7 f) (.new (.tp us)):=by
 obtain⟨t,p,q⟩:=h;refine .mk ⟨_,a7S p,λZ σ H P F d Q S hf k=>?_⟩;obtain⟨ds,h1,hf⟩:=bnd hf;cases hf
 refine q Z σ H P F ds _ S h1 λvs H1 fp e o nd fr=>⟨?_,λx hx=>k (.ref x) _ (e.trans (l6 hx _)) ⟨fp,?_,nd,fr⟩⟩
 ·rw[o.len.1];exact eV (Y2 hn)
 ·have Ai:x∉fp++F:=λz=>by
   rcases aq.mp z with z|z
   ·obtain⟨ys,q⟩:=o.lst _ x z;rw[hx]at q;cases q
   ·obtain⟨ys,q⟩:=S.lst' e x z;rw[hx]at q;cases q
  simp only[Own];refine⟨x,vs,ds,rfl,g8,Ai,rfl,o.frame (L7 (l6 hx _)) us λa ha=>?_⟩;exact c7 λz=>Ai (z▸ak _ ha)
theorem a6H:∀{n:Nat} {vs:List V} {ds:List D} {fp:List aw},OwnTs K H F (aT n .i) vs ds fp->e7 ds=true
 |0,_,_,_,h=>by
  simp only[gJ,OwnTs]at h;obtain⟨rfl,rfl,rfl⟩:=h;simp only[e7]
 |n+1,_,_,_,h=>by
  simp only[jr,OwnTs]at h;obtain⟨v,r,d,e,f,g,rfl,rfl,rfl,h1,h2⟩:=h;simp only[e7,aD];exact⟨(a2e h1).2.1,a6H h2⟩
def a5D{j}(h:PAN X M es f (aT n .i))(hn:n<=1000:=by decide):PX X M (.Tuple es j pos) (V7 f) (.new .i):=by
 obtain⟨t,p,q⟩:=h;refine .mk ⟨_,a7S p,λZ σ H P F d Q S hf k=>?_⟩;obtain⟨ds,h1,hf⟩:=bnd hf;cases hf
 refine q Z σ H P F ds _ S h1 λvs H1 fp e o nd fr=>⟨?_,λx hx=>k (.ref x) _ (e.trans (l6 hx _)) (K3 (b5V (a6H o)) (a6G (o.den _) hx) (S.lst' (e.trans (l6 hx _))))⟩
 rw[o.len.1,gh];exact eV (Y2 hn)
def b0Z{Z:List D}(hr:∀Z ds,r Z=xn ds->ds.length=n)(h:a7 fa r Z=xn ds):ds.length=n+1:=by
 obtain⟨x,_,h⟩:=bnd h;obtain⟨xs,h2,h⟩:=bnd h;cases h
 rw[aV,hr Z xs h2]
def dIx:D->D->Option D
 |.list ds,.int k=>atI ds k
 |.tuple ds,.int k=>atI ds k
 |_,_=>xI
def a3f:D->D->Option D
 |.list ds,.int k=>atI ds k
 |_,_=>xI
def u9(a b:D):Option D:=(dIx a b).bind a5C
theorem DenAll.atI(h:DenAll K H vs ds)(e:L2.atI ds k=xn d):∃v j,L2.atI vs k=xn v/\ixN ds.length k=xn j/\vs[j]?=xn v/\ds[j]?=xn d/\Den K H v d:=by
 unfold L2.atI at e ⊢;obtain⟨j,e1,e2⟩:=bnd e;obtain⟨v,h1,h2⟩:=h.get e2;exact⟨v,j,by rw[h.length,e1];exact h1,e1,h1,e2,h2⟩
def c0N(K:af):R2:=λx y H Q=>c0I K x y H Q∨c0J K x y H Q
def a5E:IxR X (c0N X.K):=b5M.or b8H
def a9z(h:dIx x y=xn d):∃ds k,(x=.list ds∨x=.tuple ds)/\y=.int k/\L2.atI ds k=xn d:=by
 cases x with
 |list ds=>cases y with
  |int k=>exact⟨ds,k,.inl rfl,rfl,h⟩
  |_=>cases h
 |tuple ds=>cases y with
  |int k=>exact⟨ds,k,.inr rfl,rfl,h⟩
  |_=>cases h
 |_=>cases h
def c0O(hx:Den K H v x)(hy:Den K H w y)(h:dIx x y=xn d)(q:∀z,Den K H z d->Q z H):c0N K v w H Q:=by
 obtain⟨ds,k,e,rfl,h⟩:=a9z h;cases hy.int_inv
 rcases e with rfl|rfl
 ·obtain⟨a,xs,rfl,h1,h2⟩:=hx.list_inv;obtain⟨z,j,z1,z2,z3,z4,z5⟩:=h2.atI h;exact .inl ⟨a,xs,k,z,rfl,rfl,h1.l,z1,q z z5⟩
 ·obtain⟨a,xs,rfl,h1,h2⟩:=hx.tup_inv;obtain⟨z,j,z1,z2,z3,z4,z5⟩:=h2.atI h;exact .inr ⟨a,xs,k,z,rfl,rfl,h1,z1,q z z5⟩
def z8(ha:PX X M a fa ca)(hb:PX X M b fb cb)(hs:a2K b:=by exact λ_ _=>rfl):PX X M (.Subscript a b pos) (e2 u9 fa fb) (.new .i):=by
 obtain⟨ta,pa,qa⟩:=ha.out;obtain⟨tb,pb,qb⟩:=hb.out;refine .mk ⟨_,a9s a5E pa pb hs,λZ σ H P F d Q S hf q=>?_⟩;obtain⟨x,y,h1,h2,h3⟩:=D7 hf;obtain⟨d',h3,h4⟩:=bnd h3;obtain⟨rfl,hi⟩:=a4M h4;exact qa Z σ H P F x _ S h1 λv H1 e1 r1=>qb Z σ H1 P F y _ (S.grow e1) h2 λw H2 e2 r2=>c0O (r1.den.up e2) r2.den h3 λz hz=>q z H2 (e1.trans e2) (K3 hi hz (S.lst' (e1.trans e2)))
def D8(ha:PX X M a fa (.new .f))(hb:PX X M b fb cb)(hs:a2K b:=by exact λ_ _=>rfl):PX X M (.Subscript a b pos) (e2 dIx fa fb) (.new .f):=by
 obtain⟨ta,pa,qa⟩:=ha.out;obtain⟨tb,pb,qb⟩:=hb.out;refine .mk ⟨_,a9s a5E pa pb hs,λZ σ H P F d Q S hf q=>?_⟩;obtain⟨x,y,h1,h2,h3⟩:=D7 hf;refine qa Z σ H P F x _ S h1 λv H1 e1 ⟨fp,o,_,_⟩=>qb Z σ H1 P F y _ (S.grow e1) h2 λw H2 e2 r2=>?_
 obtain⟨rfl,o⟩:=a9x o;have o2:Den X.K (cut H2 F) v x:=o.up (L7 e2);obtain⟨ds,k,e,rfl,h⟩:=a9z h3;have fin:∀z,Den X.K (cut H2 F) z d->Q z H2:=λz hz=>q z H2 (e1.trans e2) ⟨[],by simp only[Own,bJ];exact⟨trivial,hz⟩,bA,λa ha=>(nomatch ha)⟩
 have ey:=r2.den.int_inv;rcases e with rfl|rfl
 ·obtain⟨a,xs,rfl,h1,h2⟩:=o2.list_inv;obtain⟨z,j,z1,z2,z3,z4,z5⟩:=h2.atI h;exact .inl ⟨a,xs,k,z,rfl,ey,(O6 h1 j5).l,z1,fin z z5⟩
 ·obtain⟨a,xs,rfl,h1,h2⟩:=o2.tup_inv;obtain⟨z,j,z1,z2,z3,z4,z5⟩:=h2.atI h;exact .inr ⟨a,xs,k,z,rfl,ey,a0p h1 j5,z1,fin z z5⟩
def a5F(ha:PX X M a fa (.bor (.l u)))(hb:PX X M b fb cb)(hs:a2K b:=by exact λ_ _=>rfl):PX X M (.Subscript a b pos) (e2 a3f fa fb) (.bor u):=by
 obtain⟨ta,pa,qa⟩:=ha.out;obtain⟨tb,pb,qb⟩:=hb.out;refine .mk ⟨_,a9s a5E pa pb hs,λZ σ H P F d Q S hf q=>?_⟩;obtain⟨x,y,h1,h2,h3⟩:=D7 hf;refine qa Z σ H P F x _ S h1 λv H1 e1 ⟨fp,o,sub⟩=>qb Z σ H1 P F y _ (S.grow e1) h2 λw H2 e2 r2=>?_
 have o2:=o.grow e2;cases x with
 |list ds=>
  cases y with
  |int k=>
   simp only[Own]at o2;rcases o2 with⟨_,hi,_⟩|⟨p,xs,jS,fs,rfl,p1,p2,rfl,p3⟩
   ·simp only[imm]at hi;cases hi
   ·cases p2
    have qU:(ixN ds.length k).bind (λj=>ds[j]?)=xn d:=h3;obtain⟨j,j1,j2⟩:=bnd qU;obtain⟨z,f,pre,post,z1,z2,z3,_,_⟩:=p3.at_ j2;refine .inl ⟨p,xs,k,z,rfl,r2.den.int_inv,.inl (.inl p1),?_,q z H2 (e1.trans e2) ⟨f,z2,λa ha=>sub a ?_⟩⟩
    ·unfold L2.atI;rw[p3.length,j1];exact z1
    ·rw[z3];exact av _ (ah _ (ak _ ha))
  |_=>cases h3
 |_=>cases h3
end
noncomputable def eCl(g:List D->Option D)(f:EvA):EvE:=λZ=>(f Z).bind g
section
variable {X:Cx}{M:List Md}{a b e e0:Expr}{es:List Expr}{fa fb:EvE}{f:EvA}{c ca cb:Cat}{u:Ty}{us:List Ty}{pos p:fM}{x:bE}
def a3g{id:String}{g:List D->Option D}(hc:a9u X (.builtin id) g)(hm:X.mg x=xI)(hv:gS x=xn (.builtin id))(h:PAX X M (e0::es) f)(hg:Gl X x:=by rfl)(hn:x≠"__name__":=by decide)(lS:(x==("__debug__":bE))=false:=by decide)
  (he:ar (e0::es) X.env=(false,cK e0 X.env)::ar es X.env:=by rfl) (gE:(cB pos (ar es X.env)).any (·.1)=false:=by rfl):PX X M (.Call (.Name x p) (e0::es) [] pos) (eCl g f) (.new .i):=by
 obtain⟨r,hr,hs⟩:=hc;obtain⟨t,pa,qa⟩:=h;refine .mk ⟨_,a2W hr hg hm hv pa hn lS he gE,λZ σ H P F d Q S hf q=>?_⟩;obtain⟨ds,h1,hf⟩:=bnd hf;exact qa Z σ H P F ds _ S h1 λvs H1 e1 r1=>hs vs H1 ds d Q r1 hf λz hi hd=>q z H1 e1 (K3 hi (hd H1) (S.lst' e1))
def a0M(h:DenAll K H xs [d]):∃v,xs=[v]/\Den K H v d:=by
 obtain⟨v,r,rfl,h1,h2⟩:=h.cons_inv;cases h2.nil_inv
 exact⟨v,rfl,h1⟩
def a0N{K:af}{H:Hp}{xs:List V}{d e:D}(h:DenAll K H xs [d,e]):∃v w,xs=[v,w]/\Den K H v d/\Den K H w e:=by
 obtain⟨v,r,rfl,h1,h2⟩:=h.cons_inv;obtain⟨w,rfl,h3⟩:=a0M h2;exact⟨v,w,rfl,h1,h3⟩
noncomputable def s9:List D->Option D
 |[.list ds]=>xn (.int ds.length)
 |[.tuple ds]=>xn (.int ds.length)
 |[.str x]=>if x.length<=a_ then xn (.int x.length) else xI
 |_=>xI
def b8P:a9u X (.builtin "len") s9:=by
 refine⟨_,a5q.or a5r,λxs H ds d Q hd hg q=>?_⟩
 match ds,hg with
 |[.list es],hg=>
  cases hg
  obtain⟨v,rfl,h⟩:=a0M hd;obtain⟨a,ys,rfl,h1,h2⟩:=h.list_inv;refine .inl ⟨a,ys,rfl,.inl h1.l,?_⟩;rw[h2.length];exact q _ (by simp only[imm]) λ_=>den_int
 |[.tuple es],hg=>
  cases hg
  obtain⟨v,rfl,h⟩:=a0M hd;obtain⟨a,ys,rfl,h1,h2⟩:=h.tup_inv;refine .inl ⟨a,ys,rfl,.inr h1,?_⟩;rw[h2.length];exact q _ (by simp only[imm]) λ_=>den_int
 |[.str x],hg=>
  have wW:(if x.length<=a_ then xn (aO x.length) else xI)=xn d:=hg;by_cases z:x.length<=a_
  ·rw[aB z]at wW;cases wW
   obtain⟨v,rfl,h⟩:=a0M hd;cases h.str_inv
   exact .inr ⟨x,rfl,z,q _ (by simp only[imm]) λ_=>den_int⟩
  ·rw[aJ z]at wW;cases wW
 |[.none],hg|[.bool _],hg|[.int _],hg|[.dict _],hg=>cases hg
 |[],hg=>cases hg
 |d1::_::_,hg=>cases d1<;>cases hg
noncomputable def a0O(mx:Bool):List D->Option D
 |[.int i,.int j]=>xn (.int (if mx then (if j>i then j else i) else (if j<i then j else i)))
 |_=>xI
def b8Q(h:a0O mx ds=xn d):∃i j,ds=[.int i,.int j]/\d=.int (if mx then (if j>i then j else i) else (if j<i then j else i)):=by
 match ds,h with
 |[.int i,.int j],h=>cases h;exact⟨i,j,rfl,rfl⟩
def b3b(hc:X.calm=true):a9u X (.builtin "max") (a0O true):=by
 refine⟨_,b0J hc,λxs H ds d Q hd hg q=>?_⟩;obtain⟨i,j,rfl,rfl⟩:=b8Q hg;obtain⟨v,w,rfl,h1,h2⟩:=a0N hd;cases h1.int_inv
 cases h2.int_inv
 exact⟨i,j,rfl,q _ (by simp only[imm]) λ_=>den_int⟩
def c0P:List D->Option (List Bool)
 |[]=>xn []
 |.bool b::r=>(c0P r).map (b::·)
 |_=>xI
def tyD:D->String
 |.int _=>"int"
 |.bool _=>"bool"
 |.list _=>"list"
 |.tuple _=>"tuple"
 |.none=>"NoneType"
 |.str _=>"str"
 |.dict _=>"dict"
def Den.ty{K:af}{H:Hp}{v:V}:∀{d:D},Den K H v d->(∀ds,d≠.tuple ds)->(∀ds,d≠.list ds)->(∀ds,d≠.dict ds)->TyOf K H v (.type (tyD d))
 |.none,h,_,_,_=>by cases h.none_inv;exact .non
 |.bool _,h,_,_,_=>by cases h.bool_inv;exact .bl _
 |.int _,h,_,_,_=>by cases h.int_inv;exact .int _
 |.str _,h,_,_,_=>by cases h.str_inv;exact .str _
 |.list ds,h,_,q,_=>absurd rfl (q ds)
 |.tuple ds,h,q,_,_=>absurd rfl (q ds)
 |.dict ds,h,_,_,q=>absurd rfl (q ds)
def c0Q(K:af)(T:String)(g:D->Bool):List V->Hp->VK->Prop:=λxs H Q=>∃x d,xs=[x,.ty T]/\Den K H x d/\Q (.bl (g d)) H
def a8g{pins:List (aw×fY)}{σ:L2.St}{H:Hp}{s:au}{A:bQ}{E:aj->au->Prop}{Q:aj->au->Prop}{cv:aj}{k:Bool}{a:aw}{xs:List V}(I:Inv X pins σ H s)(h:SqT X.K H a xs)(e:fO X.K (.type "tuple") cv=xn k)(hq:∀tk,Q (.bool k) {s with toks:=tk}) :
  aX (aY X.prog X.w) A (call (.builtin "isinstance") [.ref a,cv]) Q E s:=by
 obtain⟨its,_,⟨o,h1,h2,_⟩,_⟩:=I.tuple h;exact cZ zG I.kIn ⟨o,h1,h2⟩ e (λz=>nomatch z) hq
def a8h{pins:List (aw×fY)}{σ:L2.St}{H:Hp}{s:au}{A:bQ}{E:aj->au->Prop}{Q:aj->au->Prop}{cv:aj}{k:Bool}{a:aw}{xs:List V}(I:Inv X pins σ H s)(h:SqX X.K H a xs)(e:fO X.K (.type "list") cv=xn k)(hq:∀tk,Q (.bool k) {s with toks:=tk}) :
  aX (aY X.prog X.w) A (call (.builtin "isinstance") [.ref a,cv]) Q E s:=by
 obtain⟨_,its,n,_,h1⟩:=h.ok I;exact cZ nv I.kIn ⟨_,h1,rfl⟩ e (λz=>nomatch z) hq
def a8i{pins:List (aw×fY)}{σ:L2.St}{H:Hp}{s:au}{A:bQ}{E:aj->au->Prop}{Q:aj->au->Prop}{cv:aj}{k:Bool}{a:aw}{es:List (D×V×V)}(I:Inv X pins σ H s)(h:H a=xn (g6 a es))(e:fO X.K (.type "dict") cv=xn k)(hq:∀tk,Q (.bool k) {s with toks:=tk}) :
  aX (aY X.prog X.w) A (call (.builtin "isinstance") [.ref a,cv]) Q E s:=by
 obtain⟨⟨_,_,_,o,ents,_,h1,h2,_⟩,_⟩:=(show ObjOk X.prog X.w H s.heap a (g6 a es) from I.hok a _ h);exact cZ ny I.kIn ⟨o,h1,h2.1⟩ e (λz=>nomatch z) hq
def b1a{T:String}{g:D->Bool}(hf:∀(K:af) (d:D),fO K (.type (tyD d)) (.type T)=xn (g d)):CallR X (.builtin "isinstance") (c0Q X.K T g):=by
 intro pins s σ H xs us Q I r h;obtain⟨x,d,rfl,hd,q⟩:=h;obtain⟨u,w',rfl,rx,ry⟩:=vals2 r;cases (show w'=fF T from ry)
 by_cases ht:(∀ds,d≠.tuple ds)/\(∀ds,d≠.list ds)/\(∀ds,d≠.dict ds)
 ·exact b0L I rx (hd.ty ht.1 ht.2.1 ht.2.2) (hf X.K d) λtk=>⟨.bl _,H,I.tok tk,rfl,q⟩
 ·cases d with
  |list ds=>
   obtain⟨a,ys,rfl,h1,_⟩:=hd.list_inv;cases (show u=bH a from rx)
   exact a8h I h1 (hf X.K (.list ds)) λtk=>⟨.bl _,H,I.tok tk,rfl,q⟩
  |tuple ds=>
   obtain⟨a,ys,rfl,h1,_⟩:=hd.tup_inv;cases (show u=bH a from rx)
   exact a8g I h1 (hf X.K (.tuple ds)) λtk=>⟨.bl _,H,I.tok tk,rfl,q⟩
  |dict ds=>
   simp only[Den]at hd;obtain⟨a,es,rfl,h1,_⟩:=hd;cases (show u=bH a from rx)
   exact a8i I h1 (hf X.K (.dict ds)) λtk=>⟨.bl _,H,I.tok tk,rfl,q⟩
  |_=>exact absurd ⟨(λds z=>by cases z),(λds z=>by cases z),(λds z=>by cases z)⟩ ht
def isInt:D->Bool
 |.int _=>true
 |.bool _=>true
 |_=>false
def isBool:D->Bool
 |.bool _=>true
 |_=>false
def isList:D->Bool
 |.list _=>true
 |_=>false
def a5G:D->Bool
 |.tuple _=>true
 |_=>false
def b3c{g:D->Bool}(hf:∀(K:af) (d:D),fO K (.type (tyD d)) (.type T)=xn (g d))(hm:X.mg "isinstance"=xI)(hy:X.mg y=xI)(hb:gS y=xn (.type T))(h:PX X M a fa ca)
  (hg:Gl X "isinstance":=by rfl) (vC:Gl X y:=by rfl) (CA:y≠"__name__":=by decide) (vH:(y==("__debug__":bE))=false:=by decide)
  (he:ar [a,.Name y py] X.env=(false,cK a X.env)::ar [.Name y py] X.env:=by rfl) (nU:ar [.Name y py] X.env=(false,cK (.Name y py) X.env)::ar [] X.env:=by rfl) (gE:(cB pos (ar [.Name y py] X.env)).any (·.1)=false:=by rfl) :
  PX X M (.Call (.Name "isinstance" p) [a,.Name y py] [] pos) (e1 (λd=>xn (.bool (g d))) fa) (.new .i):=by
 obtain⟨ta,pa,qa⟩:=h.out;refine .mk ⟨_,a2W (b1a hf) hg hm PyProof.Rows.Boot.«isinstance» (k8 pa (k8 (b5x (v:=.ty T) vC hy hb rfl CA vH) p5 nU) he) (by decide) (by decide) he gE,λZ σ H P F d Q S oR q=>?_⟩;obtain⟨x,h1,oR⟩:=bnd oR;cases oR
 exact qa Z σ H P F x _ S h1 λv H1 e1 r1=>⟨v,x,rfl,r1.den,q _ H1 e1 (K3 (by simp only[imm]) den_bool (S.lst' e1))⟩
def b5W(K:af)(d:D):fO K (.type (tyD d)) (.type "int")=xn (isInt d):=by cases d<;>rfl
def b3d(K:af)(d:D):fO K (.type (tyD d)) (.type "bool")=xn (isBool d):=by cases d<;>rfl
end
def cutD(ds:List D)(lo hi:Option Int):List D:=(ds.drop (HT.sIx ds.length 0 lo)).take (HT.sIx ds.length ds.length hi-HT.sIx ds.length 0 lo)
abbrev EvO:=List D->Option (Option Int)
noncomputable def oNo:EvO:=λ_=>xn xI
def asI:D->Option Int
 |.int i=>xn i
 |_=>xI
noncomputable def oSo(a:EvE):EvO:=λZ=>(a Z).bind λd=>(asI d).bind λi=>xn (xn i)
def V8(h:asI d=xn i):d=.int i:=by
 cases d with
 |int j=>cases h;rfl
 |_=>cases h
def asL:D->Option (List D)
 |.list ds=>xn ds
 |_=>xI
def P4(h:asL d=xn ds):d=.list ds:=by
 cases d with
 |list j=>cases h;rfl
 |_=>cases h
def asS:D->Option (List D)
 |.list ds=>xn ds
 |.tuple ds=>xn ds
 |_=>xI
noncomputable def POX(X:Cx)(M:List Md)(e:Option Expr)(f:EvO):Prop:=
 ∃t,PO X e t/\∀(Z:List D) (σ:L2.St) (H P:Hp) (F:List aw) (o:Option Int) (Q:Option Int->Hp->Prop),StE X.K M Z σ H P F->f Z=xn o->(∀H',Same H H'->Q o H')->t σ H Q
noncomputable def eSl(a:EvE)(lo hi:EvO):EvE:=λZ=>(a Z).bind λx=>(asL x).bind λds=>(lo Z).bind λl=>(hi Z).bind λh=>xn (.list (cutD ds l h))
noncomputable def eI(a:EvE):EvE:=λZ=>(a Z).bind b3a
section
variable {X:Cx}{M:List Md}{a b e e0:Expr}{lo hi:Option Expr}{es:List Expr}{fa fb:EvE}{fl fh:EvO}{f:EvA}{c ca cb:Cat}{u:Ty}{us:List Ty}{pos p p2:fM}{x:bE}
def V9:POX X M xI oNo:=⟨_,b5J,λZ σ H P F o Q S hf q=>by cases hf;exact q H (Same.refl _)⟩
def W1(h:PX X M a fa ca):POX X M (xn a) (oSo fa):=by
 obtain⟨t,p,q⟩:=h.out;refine⟨_,b5K p,λZ σ H P F o Q S hf k=>?_⟩;obtain⟨d,h1,qW⟩:=bnd hf;obtain⟨i,h2,qV⟩:=bnd qW;cases V8 h2
 cases qV
 exact q Z σ H P F _ _ S h1 λv H1 e1 r1=>⟨i,r1.den.int_inv,k H1 e1⟩
structure MkL (X:Cx) (M:List Md) (e:Expr) (f:EvE) (A:Prop):Prop where
 run:∃t,PE X e t/\∀(Z:List D) (σ:L2.St) (H P:Hp) (F:List aw) (d:D) (Q:VK),StE X.K M Z σ H P F->f Z=xn d->
  (∀vs ds H1 l,Same H H1->d=.list ds->DenAll X.K H1 vs ds->(A->DenAll X.K (cut H1 F) vs ds)->H1 l=xI->Q (.ref l) (upd H1 l (.lst vs)))->t σ H Q
def MkL.fz{f:EvE}(h:MkL X M e f True):PX X M e f (.new (.l .f)):=by
 obtain⟨t,p,q⟩:=h.run;refine .mk ⟨t,p,λZ σ H P F d Q S hf k=>q Z σ H P F d Q S hf λvs ds H1 l e1 ed _ h1 hl=>?_⟩;subst ed;exact k _ _ (e1.trans (l6 hl _)) (b0Y (h1 trivial) e1 hl)
theorem MkL.i{f:EvE}{A:Prop}(h:MkL X M e f A):PX X M e (eI f) (.new (.l .i)):=by
 obtain⟨t,p,q⟩:=h.run;refine .mk ⟨t,p,λZ σ H P F d Q S hf k=>?_⟩;obtain⟨d',g1,hc⟩:=bnd hf;clear hf;obtain⟨es,rfl,rfl,hi⟩:=a8f hc;refine q Z σ H P F _ Q S g1 λvs ds H1 l e1 ed h1 _ hl=>?_
 cases ed
 exact k _ _ (e1.trans (l6 hl _)) (Y4 h1 hi e1 hl (S.lst' e1))
def frozen:Cat->Prop
 |.new .f=>True
 |.new .i=>True
 |_=>False
def Y5(hc:frozen c)(r:ResR K c H H1 F v d):Den K (cut H1 F) v d:=by
 match c,hc with
 |.new .f,_=>
  obtain⟨fp,o,_⟩:=r;obtain⟨rfl,o⟩:=a9x o;exact o
 |.new .i,_=>
  obtain⟨fp,o,_⟩:=r;obtain⟨rfl,_,o⟩:=a2e o;exact o
def K7(r:ResR K c H H1 F v (.list ds)):∃a xs,v=.ref a/\SqX K H1 a xs/\DenAll K H1 xs ds/\(frozen c->DenAll K (cut H1 F) xs ds):=by
 by_cases hc:frozen c
 ·obtain⟨a,xs,rfl,k1,k2⟩:=(Y5 hc r).list_inv;exact⟨a,xs,rfl,O6 k1 j5,k2.up j5,λ_=>k2⟩
 ·obtain⟨a,xs,rfl,k1,k2⟩:=r.den.list_inv;exact⟨a,xs,rfl,k1,k2,λh=>absurd h hc⟩
def b3e:SlR X (λx lo hi H Q=>∃a xs,x=.ref a/\SqX X.K H a xs/\∀p,H p=xI->Q (.ref p) (upd H p (.lst (a7V xs lo hi)))):=by
 intro pins s σ H x v vl vu lo hi sl Q I rx hs pl pu ⟨a,xs,e,h,q⟩;exact b5N pins s σ H x v vl vu lo hi sl Q I rx hs pl pu ⟨a,xs,e,h.l,q⟩
def a9A(h:DenAll K H vs ds)(lo hi:Option Int):DenAll K H (a7V vs lo hi) (cutD ds lo hi):=by
 unfold a7V cutD;rw[h.length];exact (h.drop _).take _
def W2(ha:PX X M a fa ca)(hl:POX X M lo fl)(hh:POX X M hi fh):MkL X M (.Subscript a (.Slice lo hi xI p2) pos) (eSl fa fl fh) (frozen ca):=by
 obtain⟨ta,pa,qa⟩:=ha.out;obtain⟨tl,pl,ql⟩:=hl;obtain⟨th,ph,qh⟩:=hh;refine⟨_,b2L b3e pa pl ph,λZ σ H P F d Q S hf q=>?_⟩;obtain⟨x,h1,qW⟩:=bnd hf;obtain⟨ds,h2,qV⟩:=bnd qW;cases P4 h2
 obtain⟨l,h3,zp⟩:=bnd qV;obtain⟨h,h4,uu⟩:=bnd zp;cases uu
 refine qa Z σ H P F _ _ S h1 λv H1 e1 r1=>ql Z σ H1 P F l _ (S.grow e1) h3 λH2 e2=>qh Z σ H2 P F h _ (S.grow (e1.trans e2)) h4 λH3 e3=>?_
 obtain⟨pp,xs,rfl,k1,k2,k3⟩:=K7 (r1.up (e2.trans e3));exact⟨pp,xs,rfl,k1,λz hz=>q _ _ H3 z ((e1.trans e2).trans e3) rfl (a9A k2 l h) (λhc=>a9A (k3 hc) l h) hz⟩
noncomputable def a0P(a:EvE):EvE:=λZ=>(a Z).bind λd=>(asS d).bind λds=>xn (.list ds)
def a9B(hm:X.mg "list"=xI)(ha:PX X M a fa ca)(hg:Gl X "list":=by rfl)(he:ar [a] X.env=(false,cK a X.env)::ar [] X.env:=by rfl)(gE:(cB pos (ar [] X.env)).any (·.1)=false:=by rfl) :
  MkL X M (.Call (.Name "list" p) [a] [] pos) (a0P fa) (frozen ca):=by
 obtain⟨ta,pa,qa⟩:=ha.out;refine⟨_,Y0 a5s hg hm PyProof.Rows.Boot.«list» (k8 pa p5 he) (by decide) (by decide) he gE,λZ σ H P F d Q S hf q=>?_⟩;obtain⟨x,h1,qW⟩:=bnd hf;obtain⟨ds,h2,qV⟩:=bnd qW;cases qV
 refine qa Z σ H P F _ _ S h1 λv H1 e1 r1=>?_
 cases x with
 |list es=>
  cases h2
  obtain⟨pp,xs,rfl,k1,k2,k3⟩:=K7 r1;exact⟨pp,xs,rfl,.inl k1.l,λz hz=>q _ _ H1 z e1 rfl k2 k3 hz⟩
 |tuple es=>
  cases h2
  by_cases hc:frozen ca
  ·obtain⟨pp,xs,rfl,k1,k2⟩:=(Y5 hc r1).tup_inv;exact⟨pp,xs,rfl,.inr (a0p k1 j5),λz hz=>q _ _ H1 z e1 rfl (k2.up j5) (λ_=>k2) hz⟩
  ·obtain⟨pp,xs,rfl,k1,k2⟩:=r1.den.tup_inv;exact⟨pp,xs,rfl,.inr k1,λz hz=>q _ _ H1 z e1 rfl k2 (λh=>absurd h hc) hz⟩
 |_=>cases h2
noncomputable def L9(a:EvE):EvE:=λZ=>(a Z).bind λd=>(asS d).bind λds=>a5C (.tuple ds)
def W3(hm:X.mg "tuple"=xI)(ha:PX X M a fa ca)(hg:Gl X "tuple":=by rfl)(he:ar [a] X.env=(false,cK a X.env)::ar [] X.env:=by rfl)(gE:(cB pos (ar [] X.env)).any (·.1)=false:=by rfl) :
  PX X M (.Call (.Name "tuple" p) [a] [] pos) (L9 fa) (.new .i):=by
 obtain⟨ta,pa,qa⟩:=ha.out;refine .mk ⟨_,Y0 a4n hg hm PyProof.Rows.Boot.«tuple» (k8 pa p5 he) (by decide) (by decide) he gE,λZ σ H P F d Q S hf q=>?_⟩;obtain⟨x,h1,qW⟩:=bnd hf;obtain⟨ds,h2,qV⟩:=bnd qW;obtain⟨rfl,hi⟩:=a4M qV;refine qa Z σ H P F _ _ S h1 λv H1 e1 r1=>?_
 cases x with
 |list es=>
  cases h2
  obtain⟨pp,xs,rfl,k1,k2⟩:=r1.den.list_inv;exact⟨pp,xs,rfl,.inl ⟨k1.l,λz hz=>q _ _ (e1.trans (l6 hz _)) (K3 hi (a6G k2 hz) (S.lst' (e1.trans (l6 hz _))))⟩⟩
 |tuple es=>
  cases h2
  obtain⟨pp,xs,rfl,k1,k2⟩:=r1.den.tup_inv;exact⟨pp,xs,rfl,.inr ⟨k1,q _ _ e1 (K3 hi (den_tup k1 k2) (S.lst' e1))⟩⟩
 |_=>cases h2
def b5X:OpR X (fX .Add) (λx y H Q=>∃l b xs zs,x=.ref l/\y=.ref b/\SqX X.K H l xs/\SqX X.K H b zs/\xs.length+zs.length<=a_/\∀p,H p=xI->Q (.ref p) (upd H p (.lst (xs++zs)))):=by
 intro pins s σ H x y v u Q I rx ry h;obtain⟨l,b,xs,zs,rfl,rfl,hH,hB,hz,q⟩:=h;cases rx
 cases ry
 obtain⟨z,its,n,r,e⟩:=hH.ok I;obtain⟨z2,nN,n2,r2,e2⟩:=hB.ok I;have hl:=r.length;have oQ:=r2.length;refine PySem.P.add_list e e2 ?_ (by rw[bp,bp];lia);have ea:its.toArray++nN.toArray=(its++nN).toArray:=by simp
 rw[ea];exact⟨.ref _,_,I.lnew (t':=s.toks) (r.append r2) (by rw[az];lia),rfl,q _ I.fresh⟩
noncomputable def J6(a b:EvE):EvE:=λZ=>(a Z).bind λx=>(asL x).bind λds=>(b Z).bind λy=>(asL y).bind λes=>if ds.length+es.length<=a_ then xn (.list (ds++es)) else xI
def R6(ha:PX X M a fa ca)(hb:PX X M b fb cb):MkL X M (.BinOp a .Add b pos) (J6 fa fb) (frozen ca/\frozen cb):=by
 obtain⟨ta,pa,qa⟩:=ha.out;obtain⟨tb,pb,qb⟩:=hb.out;refine⟨_,b7K b5X pa pb,λZ σ H P F d Q S hf q=>?_⟩;obtain⟨x,h1,qW⟩:=bnd hf;obtain⟨ds,h2,qV⟩:=bnd qW;cases P4 h2
 obtain⟨y,h3,zp⟩:=bnd qV;obtain⟨es,h4,uu⟩:=bnd zp;cases P4 h4
 by_cases hz:ds.length+es.length<=a_
 ·rw[aB hz]at uu;cases uu
  refine qa Z σ H P F _ _ S h1 λv H1 e1 r1=>qb Z σ H1 P F _ _ (S.grow e1) h3 λw H2 e2 r2=>?_
  obtain⟨pp,xs,rfl,k1,k2,k3⟩:=K7 (r1.up e2);obtain⟨qq,ys,rfl,j1,j2,j3⟩:=K7 r2;exact⟨pp,qq,xs,ys,rfl,rfl,k1,j1,by rw[k2.length,j2.length];exact hz,λz hz=>q _ _ H2 z (e1.trans e2) rfl (k2.append j2) (λhc=>(k3 hc.1).append (j3 hc.2)) hz⟩
 ·rw[aJ hz]at uu;cases uu
noncomputable def spD(K:af)(n:Nat)(m:List D->Option D)(u:Ty):Sp:=λvs H Q _=>∃ds d,vs.length=n/\DenAll K H vs ds/\m ds=xn d/\∀v H' fp,Same H H'->Own K H' fp u v d fp->fp.Nodup->(∀a∈fp,H a=xI)->Q v H'
def a2L(W:Has X.prog X.w X.K X.mg X.base x k ps (spD X.K n m u))(hr:Room k X.A)(h:PAX X M (e0::es) f)(hu:u.shut=true:=by rfl)(hl:(e0::es).length=n:=by rfl)(hfl:∀Z ds,f Z=xn ds->ds.length=(e0::es).length)
  (hg:Gl X x:=by rfl) (lS:(x==("__debug__":bE))=false:=by decide) (he:ar (e0::es) X.env=(false,cK e0 X.env)::ar es X.env:=by rfl) (gE:(cB pos (ar es X.env)).any (·.1)=false:=by rfl) :
  PX X M (.Call (.Name x p) (e0::es) [] pos) (eCl m f) (.new u):=by
 obtain⟨t,pa,qa⟩:=h;refine .mk ⟨_,a7W W hr pa hg lS he gE,λZ σ H P F d Q S hf q=>?_⟩;obtain⟨ds,h1,hf⟩:=bnd hf;refine qa Z σ H P F ds _ S h1 λvs H1 e1 r1=>?_
 show spD X.K n m u (vs++[]) H1 Q E0;rw[bg];refine⟨ds,d,by rw[r1.length,hfl Z ds h1,hl],r1,hf,λv H' fp e o nd fr=>q v H' (e1.trans e) ⟨fp,o.shut_out (λa ha=>?_) u hu,nd,λa ha=>e1.free (fr a ha)⟩⟩;rcases aq.mp ha with z|z
 ·exact o.lst u a z
 ·exact S.lst' (e1.trans e) a z
end
structure Walks (J:It) (Pr:Hp->Prop) (xs:List V):Prop where
 go:∀i H,Pr H->i<xs.length->J.go i H
 stop:∀i H,Pr H->xs.length<=i->J.stop i H
 yld:∀i H x H',Pr H->i<xs.length->J.yld i H x H'->H'=H/\xs[i]?=xn x
def a8j:Walks (Itl K a) (λH=>SqL K H a xs) xs where
 go:=λi H h hi=>⟨xs,xs[i],h,by simp[hi]⟩
 stop:=λi H h hi=>⟨xs,h,hi⟩
 yld:=λi H x H' h _ y=>⟨y.1,y.2 xs h⟩
def a6I:Walks (Itr lo n) (λ_=>True) ((aA n).map λ(k:Nat)=>V.int (lo+k)) where
 go:=λi H h hi=>by show i<n;simpa using hi
 stop:=λi H h hi=>by show n<=i;simpa using hi
 yld:=λi H x H' h hi y=>by
  obtain⟨e,y⟩:=y;refine⟨e,?_⟩;have lH:i<n:=by simpa using hi
  rw[y];simp[lH]
noncomputable def PIX(X:Cx)(M:List Md)(tg iter:Expr)(f:EvA):Prop:=
 ∃wi,PI X tg iter wi/\∀(Z:List D) (σ:L2.St) (H P:Hp) (F:List aw) (ds:List D) (R:It->Hp->Prop),StE X.K M Z σ H P F->f Z=xn ds->
  (∀J xs Pr H1,Same H H1->Walks J Pr xs->(∀H2,Same (cut H1 F) H2->Pr H2)->DenAll X.K (cut H1 F) xs ds->R J H1)->wi σ H R
noncomputable def iL(a:EvE):EvA:=λZ=>(a Z).bind asL
def l0(lo:Int)(n:Nat):List D:=(aA n).map λ(k:Nat)=>.int (lo+k)
noncomputable def iR(a:EvE):EvA:=λZ=>(a Z).bind λd=>(asI d).bind λn=>if -(2^62)<=n/\n<2^62 then xn (l0 0 n.toNat) else xI
noncomputable def iI(f:EvA):EvA:=λZ=>(f Z).bind λds=>if e7 ds then xn ds else xI
section
variable {X:Cx}{M:List Md}{a b e tg iter:Expr}{fa fb:EvE}{f:EvA}{ca cb:Cat}{pos p:fM}
def m7(h:PX X M a fa ca)(hc:frozen ca:=by trivial):PIX X M tg a (iL fa):=by
 obtain⟨t,p,q⟩:=h.out;refine⟨_,b5A p,λZ σ H P F ds R S hf k=>?_⟩;obtain⟨d,h1,h2⟩:=bnd hf;cases P4 h2
 refine q Z σ H P F _ _ S h1 λv H1 e1 r1=>?_
 obtain⟨aa,xs,rfl,k1,k2⟩:=(Y5 hc r1).list_inv;exact⟨aa,rfl,⟨xs,(O6 k1 j5).l⟩,k _ xs _ H1 e1 a8j (λH2 e2=>(O6 k1 e2).l) k2⟩
def b1b:DenAll K H ((aA n).map λ(k:Nat)=>V.int (lo+k)) (l0 lo n):=by
 have:∀l:List Nat,DenAll K H (l.map λ(k:Nat)=>V.int (lo+k)) (l.map λ(k:Nat)=>aO (lo+k)):=by
  intro l
  induction l with
  |nil=>exact denAll_nil
  |cons x l ih=>exact denAll_cons den_int ih
 exact this _
def A1(hm:X.mg "range"=xI)(h:PX X M a fa ca)(hg:Gl X "range":=by rfl)(he:ar [a] X.env=[(false,cK a X.env)]:=by rfl)(nU:ar [a] X.env=(false,cK a X.env)::ar [] X.env:=by rfl) :
  PIX X M tg (.Call (.Name "range" p) [a] [] pos) (iR fa):=by
 obtain⟨t,p,q⟩:=h.out;refine⟨_,b0H hg hm (k8 p p5 nU) he,λZ σ H P F ds R S hf k=>?_⟩;obtain⟨d,h1,g1⟩:=bnd hf;obtain⟨n,h2,g2⟩:=bnd g1;cases V8 h2
 by_cases c:-(2^62)<=n/\n<2^62
 ·rw[aB c]at g2;cases g2
  exact q Z σ H P F _ _ S h1 λv H1 e1 r1=>⟨n,by rw[r1.den.int_inv],c.1,c.2,k _ _ _ H1 e1 a6I (λ_ _=>trivial) b1b⟩
 ·rw[aJ c]at g2;cases g2
def PIX.i(h:PIX X M tg iter f):PIX X M tg iter (iI f):=by
 obtain⟨wi,p,q⟩:=h;refine⟨wi,p,λZ σ H P F ds R S hf k=>?_⟩;obtain⟨es,h1,g1⟩:=bnd hf;by_cases c:e7 es=true
 ·rw[aB c]at g1;cases g1
  exact q Z σ H P F _ R S h1 k
 ·rw[aJ c]at g1;cases g1
end
def TgR(K:af)(g:TG)(n:Nat)(pt:D->Option (List D)):Prop:=
 ∀(H Hc:Hp) (x:V) (d:D) (ds:List D) (σ:L2.St) (Q:L2.St->Hp->Prop),Same Hc H->Den K Hc x d->pt d=xn ds->n<=σ.length->(∀vs,DenAll K Hc vs ds->vs.length=n->Q (vs.map xn++σ.drop n) H)->g x σ H Q
def pt1(d:D):Option (List D):=xn [d]
def pt2:D->Option (List D)
 |.tuple [a,b]=>xn [a,b]
 |_=>xI
def C7:TgR K (L6 0) 1 pt1:=by
 intro H Hc x d ds σ Q e hd hp hn k;cases hp
 cases σ with
 |nil=>simp at hn
 |cons o σ=>exact k [x] (denAll_cons hd denAll_nil) rfl
def b5Y:TgR K (b8q K 2 (a2T (L6 0) (a2T (L6 1) b5z))) 2 pt2:=by
 intro H Hc x d ds σ Q e hd hp hn k
 match d,hp with
 |.tuple [a,b],hp=>
  cases hp
  obtain⟨aa,xs,rfl,h1,h2⟩:=hd.tup_inv;obtain⟨v,w,rfl,h3,h4⟩:=a0N h2
  match σ,hn with
  |o::o'::σ,_=>
   exact⟨aa,_,rfl,a0p h1 e,rfl,v,[w],rfl,w,[],rfl,rfl,k [v,w] (denAll_cons h3 (denAll_cons h4 denAll_nil)) rfl⟩
noncomputable def U2(pt:D->Option (List D))(t:EvT)(g:EvE)(cs:List D):List D->Option (List D)
 |[]=>xn []
 |d::ds=>(pt d).bind λbs=>(t (bs++cs)).bind λk=>if k then (g (bs++cs)).bind λy=>(U2 pt t g cs ds).bind λys=>xn (y::ys) else U2 pt t g cs ds
noncomputable def r9(fi:EvA)(js:List Nat)(pt:D->Option (List D))(t:EvT)(g:EvE):EvE:=λZ=>(fi Z).bind λds=>if ds.length<=1000000 then (U2 pt t g (js.map λj=>Z.getD j .none) ds).bind λys=>xn (.list ys) else xI
noncomputable def tT:EvT:=λ_=>xn true
def a2g(m:Md)(n:Nat)(M:List Md)(js:List Nat):List Md:=aT n m++js.map λj=>M.getD j .dead
section
variable {K:af}{J:It}{Pr:Hp->Prop}{xs:List V}{Dl:aw}{g:TG}{tt:TT}{te:TE}{σ:L2.St}{H:Hp}{R:Hp->Prop}
def a4N(hw:Walks J Pr xs)(Pv:Nat->List V->L2.St->Hp->Prop)(h0:Pv 0 [] σ (upd H Dl (.lst [])))(hp:∀i ys σ H,Pv i ys σ H->Pr H)
  (hs:∀i x ys σ H,xs[i]?=xn x->Pv i ys σ H->g x σ H λσ3 H3=>tt σ3 H3 λb H4=>if b=true then te σ3 H4 λy H5=>H5 Dl=xn (.lst ys)/\ys.length<a_/\Pv (i+1) (ys++[y]) σ3 (upd H5 Dl (.lst (ys++[y]))) else Pv (i+1) ys σ3 H4)
  (hd:∀ys σ H,Pv xs.length ys σ H->R H) :
  ∃W:Nat->Nat->List V->L2.St->Hp->Prop,(∃m,W 0 m [] σ (upd H Dl (.lst [])))/\∀i m ys σ' H',W i m ys σ' H'->(J.stop i H'/\R H')∨
   (J.go i H'/\∃(N:V->L2.St->Hp->Prop) (NO:L2.St->Hp->Prop),(∀y σ3 H4,N y σ3 H4->H4 Dl=xn (.lst ys)/\ys.length<a_/\∃m',m'<m/\W (i+1) m' (ys++[y]) σ3 (upd H4 Dl (.lst (ys++[y]))))/\
    (∀σ3 H4,NO σ3 H4->∃m',m'<m/\W (i+1) m' ys σ3 H4)/\∀x H2,J.yld i H' x H2->g x σ' H2 λσ3 H3=>tt σ3 H3 λb H4=>if b=true then te σ3 H4 λy H5=>N y σ3 H5 else NO σ3 H4):=by
 refine⟨λi m ys σ H=>m=xs.length-i/\i<=xs.length/\Pv i ys σ H,⟨xs.length,by simp,cE _,h0⟩,?_⟩;rintro i m ys σ H ⟨rfl,hi,p⟩;have q:=hp i ys σ H p;by_cases jv:i<xs.length
 ·refine .inr ⟨hw.go i H q jv,λy σ3 H4=>H4 Dl=xn (.lst ys)/\ys.length<a_/\Pv (i+1) (ys++[y]) σ3 (upd H4 Dl (.lst (ys++[y]))),λσ3 H4=>Pv (i+1) ys σ3 H4,λy σ3 H4 ⟨r1,r2,r3⟩=>⟨r1,r2,xs.length-(i+1),by lia,rfl,jv,r3⟩,λσ3 H4 r3=>⟨xs.length-(i+1),by lia,rfl,jv,r3⟩,λx H' y=>?_⟩;obtain⟨e,yy⟩:=hw.yld i H x H' q jv y;subst e;exact hs i x ys σ _ yy p
 ·have e:i=xs.length:=by lia
  subst e;exact .inl ⟨hw.stop _ H q (ay _),hd ys σ H p⟩
end
def b3f{Z:List D}{js:List Nat}(S:StE K M Z σ H P F)(hm:m=.i∨m=.f)(hv:DenAll K (cut H F) vs bs)(hi:m=.i->e7 bs=true)(hn:vs.length=n)
  (hσ:σb=vs.map xn++js.map λj=>(σ[j]?).getD xI):StE K (a2g (.own m) n M js) (bs++js.map λj=>Z.getD j .none) σb H P F:=by
 obtain⟨G,h1,h3⟩:=S.all;obtain⟨G',q,hq⟩:=h1.pick h3 js;refine⟨⟨G',?_,hq⟩,S.lst,S.prot⟩;subst hσ hn;unfold a2g;have key:∀{vs:List V} {bs:List D},DenAll K (cut H F) vs bs->(m=.i->e7 bs=true)->StAll K H F (aT vs.length (.own m)++js.map λj=>M.getD j .dead) (bs++js.map λj=>Z.getD j .none) (vs.map xn++js.map λj=>(σ[j]?).getD xI) G':=by
  intro vs
  induction vs with
  |nil=>
   intro bs h _;have hl:=h.length;have:bs=[]:=fR.mp (by simpa using hl.symm);subst this;exact q
  |cons v vs ih=>
   intro bs h hi;cases bs with
   |nil=>have:=h.length;simp at this
   |cons b bs=>
    obtain⟨v',r,e,h4,h5⟩:=h.cons_inv;cases e
    have:=j6 (K:=K) (H:=H) (F:=F) (m:=.own m) (d:=b) (o:=xn v) (f:=[]) ⟨v,rfl,by
     rcases hm with rfl|rfl
     ·have:=hi rfl;simp only[e7,aD]at this;simp only[Own];exact⟨trivial,this.1,h4⟩
     ·simp only[Own];exact⟨trivial,h4⟩⟩ (ih h5 λe=>by have:=hi e;simp only[e7,aD]at this;exact this.2)
    simpa[jr]using this
 exact key hv hi
def a8k(h:U2 pt t g cs (d::ds)=xn rs) :
  ∃bs k,pt d=xn bs/\t (bs++cs)=xn k/\((k=true/\∃y ys,g (bs++cs)=xn y/\U2 pt t g cs ds=xn ys/\rs=y::ys)∨(k=false/\U2 pt t g cs ds=xn rs)):=by
 simp only[U2]at h;obtain⟨bs,h1,g1⟩:=bnd h;obtain⟨k,h2,g2⟩:=bnd g1;refine⟨bs,k,h1,h2,?_⟩;cases k with
 |true=>
  rw[aB rfl]at g2;obtain⟨y,h3,g3⟩:=bnd g2;obtain⟨ys,h4,g4⟩:=bnd g3;cases g4
  exact .inl ⟨rfl,y,ys,h3,h4,rfl⟩
 |false=>
  rw[aJ cj]at g2;exact .inr ⟨rfl,g2⟩
section
variable {X:Cx}{M:List Md}{tn ys:List bE}{js:List Nat}{scope:gk}{elt tg iter:Expr}{ifs:List Expr}{pos:fM}{g:TG}{n:Nat}{pt:D->Option (List D)}{fi:EvA}{ft:EvT}{fe:EvE}{u m:Ty}
def b1c(hi:∀(Z:List D) (σ:L2.St) (H P:Hp) (F:List aw) (ds:List D) (R:It->Hp->Prop),StE X.K M Z σ H P F->fi Z=xn ds->
   (∀J xs Pr H1,Same H H1->Walks J Pr xs->(∀H2,Same (cut H1 F) H2->Pr H2)->DenAll X.K (cut H1 F) xs ds->R J H1)->wi σ H R)
  (hg:TgR X.K g n pt) (hm:m=.i∨m=.f) (tZ:m=.i->∀Z ds,fi Z=xn ds->∀d∈ds,∀bs,pt d=xn bs->e7 bs=true) (yd:tn.length=n)
  {Z:List D} (S:StE X.K M Z σ H P F) (hf:r9 fi js pt ft fe Z=xn d) (q:∀v H',Same H H'->ResR X.K (.new (.l u)) H H' F v d->Q v H') :
  a7X wi g (spT X.K (a2g (.own m) n M js) ft) (spE X.K (a2g (.own m) n M js) fe (.new u)) (a3a tn js) σ H Q:=by
 obtain⟨ds,h1,g1⟩:=bnd hf;by_cases hz:ds.length<=1000000
 ·rw[aB hz]at g1;obtain⟨res,h2,g2⟩:=bnd g1;cases g2
  refine hi Z σ H P F ds _ S h1 λJ xs Pr H1 e1 hw qO hx Dl hD=>?_
  have ow:=hx.length;have zk:Dl∉F:=λz=>by obtain⟨zs,w⟩:=S.lst' e1 Dl z;rw[hD]at w;cases w
  refine a4N hw (λi ys σ' H'=>(∃os:L2.St,os.length=n/\σ'=os++js.map λj=>(σ[j]?).getD xI)/\H' Dl=xn (.lst ys)/\Same H1 H'/\∃(fp:List aw) (zs rs:List D),ListAll (Own X.K H' (Dl::fp++F) u) ys zs fp/\fp.Nodup/\(∀a∈fp,H1 a=xI)/\Dl∉fp/\
    U2 pt ft fe (js.map λj=>Z.getD j .none) (ds.drop i)=xn rs/\res=zs++rs/\ys.length<=i) ?_ ?_ ?_ ?_
  ·exact⟨⟨_,by rw[gh];exact yd,rfl⟩,g8,l6 hD _,[],[],res,p6,bA,λa ha=>(nomatch ha),λh=>(nomatch h),h2,rfl,ay _⟩
  ·rintro i ys σ' H' ⟨_,_,e,_⟩;exact qO H' (j5.trans e)
  ·rintro i x ys σ' H' qK ⟨⟨os,ho,rfl⟩,ur,e2,fp,zs,rs,g_,oP,nH,pU,hc,pJ,xV⟩;obtain⟨d,oS,_⟩:=hx.getV qK;have mB:i<ds.length:=(aL.mp oS).1;have nk:ds.drop i=d::ds.drop (i+1):=by
    rw[dJ mB]
    congr 1;exact (aL.mp oS).2
   rw[nk]at hc;obtain⟨bs,k,oM,ju,Cu⟩:=a8k hc;have hfl:∀a∈Dl::fp,∃zs:MuO,H' a=xn zs.1:=λa ha=>by
    rcases aH.mp ha with z|z
    ·subst z;exact⟨⟨.lst ys,trivial⟩,ur⟩
    ·exact g_.lst (u:=u) (λv d f q=>q.lst u) a z
   have nT:∀a∈Dl::fp,H1 a=xI:=λa ha=>by
    rcases aH.mp ha with z|z
    ·subst z;exact hD
    ·exact nH a z
   have S1:StE X.K M Z σ H' P (Dl::fp++F):=(S.grow e1).more (fp:=Dl::fp) e2 nT hfl;have yS:DenAll X.K (cut H' (Dl::fp++F)) xs ds:=hx.up (a0K (fp:=Dl::fp) e2 nT);obtain⟨d',vI,rL⟩:=yS.getV qK;rw[oS]at vI;cases vI
   refine hg H' _ x d bs _ _ j5 rL oM (by rw[az,ho];lia) λvs qm xY=>?_
   rw[oG (by lia),List.drop_of_length_le (by lia),bJ];have SB:StE X.K (a2g (.own m) n M js) (bs++js.map λj=>Z.getD j .none) (vs.map xn++js.map λj=>(σ[j]?).getD xI) H' P (Dl::fp++F):=
    b3f S1 hm qm (λe=>tZ e Z ds h1 d (br oS) bs oM) xY rfl
   refine⟨_,P,_,k,SB,ju,λH3 e3=>?_⟩;rcases Cu with⟨rfl,y,rest,Ct,yq,rfl⟩|⟨rfl,yq⟩
   ·refine a5t ⟨_,P,_,y,SB.grow e3,Ct,λv H4 e4 ⟨gp,o,nd,fr⟩=>?_⟩;have xm:=e3.trans e4;have Az:Dl∉gp:=λz=>by have w:=fr Dl z;rw[e3 _ _ ur]at w;cases w
    have Dt:∀a∈gp,a∉fp:=λa ha z=>by
     obtain⟨zs,w⟩:=hfl a (av _ z);have w2:=fr a ha;rw[e3 _ _ w]at w2;cases w2
    have me:∀a,a∈Dl::(fp++gp)++F->a∈gp++(Dl::fp++F):=λa ha=>by
     simp only[bB,aH,aq]at ha ⊢;rcases ha with z|(z|z)|z
     ·exact .inr (.inl z)
     ·exact .inr (.inr (.inl z))
     ·exact .inl z
     ·exact .inr (.inr (.inr z))
    have yX:Same (cut H' (Dl::fp++F)) (cut (upd H4 Dl (.lst (ys++[v]))) (Dl::(fp++gp)++F)):=λa o' ha=>by
     obtain⟨n1,n2⟩:=m4 ha;have gM:a≠Dl:=λz=>n1 (by rw[z];exact ak _ aK)
     refine g9 (λz=>?_) (by rw[c7 gM];exact xm _ _ n2);rcases aq.mp (me a z) with w|w
     ·have:=fr a w;rw[e3 _ _ n2]at this;cases this
     ·exact n1 w
    have DK:Same (cut H4 (gp++(Dl::fp++F))) (cut (upd H4 Dl (.lst (ys++[v]))) (Dl::(fp++gp)++F)):=λa o' ha=>by
     obtain⟨n1,n2⟩:=m4 ha;have gM:a≠Dl:=λz=>n1 (by rw[z];exact ah _ (ak _ aK))
     exact g9 (λz=>n1 (me a z)) (by rw[c7 gM];exact n2)
    refine⟨xm _ _ ur,?_,⟨_,by rw[ai];exact xY,rfl⟩,g8,?_,fp++gp,zs++[y],rest,?_,?_,?_,?_,yq,by rw[pJ,aS];rfl,by rw[az];simp;lia⟩
    ·exact gU (cC xV (cC (eV mB) hz)) (by rw[dg];decide)
    ·exact b2N (e2.trans xm) hD _
    ·refine (n9 yX g_ λa ha=>?_).append ?_
     ·rw[c7 (show a≠Dl from λz=>pU (z▸ha))];obtain⟨zs,w⟩:=hfl a (av _ ha);rw[w,xm _ _ w]
     ·have:=m9 (R:=Own X.K (upd H4 Dl (.lst (ys++[v]))) (Dl::(fp++gp)++F) u) (o.frame DK u λa ha=>c7 (λz=>Az (z▸ha))) p6
      rwa[bg]at this
    ·rw[bN];exact⟨oP,nd,λa ha b hb e=>Dt b hb (e▸ha)⟩
    ·intro a ha;rcases aq.mp ha with z|z
     ·exact nH a z
     ·exact (e2.trans e3).free (fr a z)
    ·intro z;rcases aq.mp z with w|w
     ·exact pU w
     ·exact Az w
   ·refine a6C ?_;have yX:Same (cut H' (Dl::fp++F)) (cut H3 (Dl::fp++F)):=L7 e3;refine⟨⟨_,by rw[ai];exact xY,rfl⟩,e3 _ _ ur,e2.trans e3,fp,zs,rs,n9 yX g_ λa ha=>?_,oP,nH,pU,yq,pJ,by lia⟩;obtain⟨zs,w⟩:=hfl a (av _ ha);rw[w,e3 _ _ w]
  ·rintro ys σ' H' ⟨_,ur,e2,fp,zs,rs,g_,oP,nH,pU,hc,pJ,_⟩;rw[ow,iN]at hc;cases hc
   rw[bg]at pJ;subst pJ;refine q (.ref Dl) H' (e1.trans e2) ⟨Dl::fp,?_,bV.mpr ⟨pU,oP⟩,λa ha=>?_⟩
   ·simp only[Own];exact .inr ⟨Dl,ys,res,fp,rfl,ur,rfl,rfl,g_⟩
   ·rcases aH.mp ha with z|z
    ·subst z;exact e1.free hD
    ·exact e1.free (nH a z)
 ·rw[aJ hz]at g1;cases g1
def A5(hc:X.calm=true)(hi:PIX X M tg iter fi)(C:a0J scope X.env.kindOf ys js X.N=true)(hg:∀cl Cl s H fp,PG (P0 X (tn++ys) scope cl Cl s H fp) tg g)(Dp:TgR X.K g n pt)(hm:m=.i∨m=.f)
  (tZ:m=.i->∀Z ds,fi Z=xn ds->∀d∈ds,∀bs,pt d=xn bs->e7 bs=true) (yd:tn.length=n)
  (ht:∀cl Cl s H fp,PTs (P0 X (tn++ys) scope cl Cl s H fp) ifs (spT X.K (a2g (.own m) n M js) ft)) (he:∀cl Cl s H fp,PX (P0 X (tn++ys) scope cl Cl s H fp) (a2g (.own m) n M js) elt fe (.new u))
  (hs:∀x,fN iter X.env x=pure x:=by intro _;rfl):PX X M (.ListComp elt [⟨tg,iter,ifs,0⟩] scope pos) (r9 fi js pt ft fe) (.new (.l u)):=by
 obtain⟨wi,pi,qi⟩:=hi;exact .mk ⟨_,a6D (te:=spE X.K (a2g (.own m) n M js) fe (.new u)) hc pi C hg ht he hs,λZ σ H P F d Q S hf q=>b1c qi Dp hm tZ yd S hf q⟩
def A6:∀{X':Cx} {M':List Md},PTs X' [] (spT X'.K M' tT):=λ{X' M'} pins s σ H Q I ⟨Z,P,F,b,S,hb,q⟩=>by
 cases hb
 exact a9t pins s σ H Q I (q H (Same.refl _))
def a9C:(Ty.f=Ty.i)->∀(Z ds:List D),fi Z=xn ds->∀d∈ds,∀bs,pt d=xn bs->e7 bs=true:=λh=>nomatch h
def a4O:(Ty.i=Ty.i)->∀(Z ds:List D),iI fi Z=xn ds->∀d∈ds,∀bs,pt1 d=xn bs->e7 bs=true:=λ_ Z ds h d hd bs hb=>by
 obtain⟨es,_,g1⟩:=bnd h;by_cases c:e7 es=true
 ·rw[aB c]at g1;cases g1
  cases hb
  simp only[e7,fJ];exact F8 c hd
 ·rw[aJ c]at g1;cases g1
def c0R:(Ty.i=Ty.i)->∀(Z ds:List D),iI fi Z=xn ds->∀d∈ds,∀bs,pt2 d=xn bs->e7 bs=true:=λ_ Z ds h d hd bs hb=>by
 obtain⟨es,_,g1⟩:=bnd h;by_cases c:e7 es=true
 ·rw[aB c]at g1;cases g1
  have:=F8 c hd
  match d,hb with
  |.tuple [a,b],hb=>
   cases hb
   simpa only [imm]using this
 ·rw[aJ c]at g1;cases g1
def a5H(lo:Int)(n:Nat):e7 (l0 lo n)=true:=by
 have:∀l:List Nat,e7 (l.map λ(k:Nat)=>aO (lo+k))=true:=by
  intro l
  induction l with
  |nil=>simp only[cW,e7]
  |cons x l ih=>simp only[ax,e7,imm,ih,eG]
 exact this _
def a9D:(Ty.i=Ty.i)->∀(Z ds:List D),iR fa Z=xn ds->∀d∈ds,∀bs,pt1 d=xn bs->e7 bs=true:=λ_ Z ds h d hd bs hb=>by
 obtain⟨x,h1,g1⟩:=bnd h;obtain⟨k,h2,g2⟩:=bnd g1
 split at g2
 ·cases g2
  cases hb
  simp only[e7,fJ];exact F8 (a5H _ _) hd
 ·cases g2
end
section
variable {K:af}{H H' P:Hp}{F F':List aw}
theorem StAll.split:∀{A B:List Md} {Z:List D} {σ:L2.St} {G:List aw},StAll K H F (A++B) Z σ G->∃Z1 Z2 σ1 σ2 G1 G2,Z=Z1++Z2/\σ=σ1++σ2/\G=G1++G2/\StAll K H F A Z1 σ1 G1/\StAll K H F B Z2 σ2 G2
 |[],B,Z,σ,G,h=>⟨[],Z,[],σ,[],G,rfl,rfl,rfl,L3,h⟩
 |m::A,B,_,_,_,h=>by
  simp only[bB,StAll]at h;obtain⟨d,Z,o,σ,f,g,rfl,rfl,rfl,h1,h2⟩:=h;obtain⟨Z1,Z2,σ1,σ2,G1,G2,rfl,rfl,rfl,h3,h4⟩:=StAll.split h2;exact⟨d::Z1,Z2,o::σ1,σ2,f++G1,G2,rfl,rfl,by rw[aS],j6 h1 h3,h4⟩
theorem StAll.join:∀{A B:List Md} {Z1 Z2:List D} {σ1 σ2:L2.St} {G1 G2:List aw},StAll K H F A Z1 σ1 G1->StAll K H F B Z2 σ2 G2->StAll K H F (A++B) (Z1++Z2) (σ1++σ2) (G1++G2)
 |[],B,_,_,_,_,_,_,h,q=>by
  simp only[StAll]at h;obtain⟨rfl,rfl,rfl⟩:=h;exact q
 |m::A,B,_,_,_,_,_,_,h,q=>by
  simp only[StAll]at h;obtain⟨d,Z,o,σ,f,g,rfl,rfl,rfl,h1,h2⟩:=h;rw[aS];exact j6 h1 (StAll.join h2 q)
def a6J{α:Type}{a b c d:List α}(h:a++b=c++d)(hl:a.length=c.length):a=c/\b=d:=List.append_inj h hl
def StAll.splitAt{A B:List Md}{Z1 Z2:List D}{σ1 σ2:L2.St}(h:StAll K H F (A++B) (Z1++Z2) (σ1++σ2) G)(hZ:Z1.length=A.length)(hσ:σ1.length=A.length):∃G1 G2,G=G1++G2/\StAll K H F A Z1 σ1 G1/\StAll K H F B Z2 σ2 G2:=by
 obtain⟨r1,r2,s1,s2,G1,G2,e1,e2,e3,h1,h2⟩:=h.split;obtain⟨l1,l2⟩:=h1.len;obtain⟨rfl,rfl⟩:=a6J e1 (by lia);obtain⟨rfl,rfl⟩:=a6J e2 (by lia);exact⟨G1,G2,e3,h1,h2⟩
theorem W4:∀{us:List Ty} {vs:List V} {ds:List D} {G:List aw},StAll K H F (us.map Md.own) ds (vs.map xn) G->OwnTs K H F us vs ds G
 |[],vs,ds,G,h=>by
  simp only[cW,StAll]at h;obtain⟨rfl,e,rfl⟩:=h;have:vs=[]:=by simpa using e
  subst this;simp only[OwnTs];exact⟨trivial,trivial,trivial⟩
 |u::us,vs,ds,G,h=>by
  simp only[ax,StAll]at h;obtain⟨d,Z,o,σ,f,g,rfl,e,rfl,⟨v,rfl,h1⟩,h2⟩:=h;cases vs with
  |nil=>simp at e
  |cons v' vs=>
   simp only[ax,gc,nz]at e;obtain⟨rfl,rfl⟩:=e;simp only[OwnTs];exact⟨v',vs,d,Z,f,g,rfl,rfl,rfl,h1,W4 h2⟩
end
def Pend(K:af)(Mp:List Md)(Zp:List D)(σp:L2.St)(M:List Md)(Z:List D)(σ:L2.St)(H P:Hp)(F:List aw):Prop:=
 Zp.length=Mp.length/\σp.length=Mp.length/\StR K (Mp++M) (Zp++Z) (σp++σ) H P F
section
variable {K:af}{Mp M:List Md}{Zp Z:List D}{σp σ:L2.St}{H H' P:Hp}{F:List aw}
def Pend.e(h:Pend K Mp Zp σp M Z σ H P F):StE K M Z σ H P F:=by
 obtain⟨l1,l2,S⟩:=h;obtain⟨G,h1,h2,h3⟩:=S.all;obtain⟨G1,G2,rfl,_,h4⟩:=h1.splitAt l1 l2;exact⟨⟨G2,h4,λa ha=>h3 a (ah _ ha)⟩,S.lst,S.prot⟩
theorem Pend.grow(h:Pend K Mp Zp σp M Z σ H P F)(e:Same H H'):Pend K Mp Zp σp M Z σ H' P F:=⟨h.1,h.2.1,h.2.2.grow e⟩
def Pend.new(h:Pend K Mp Zp σp M Z σ H P F)(e:Same H H')(o:Own K H' (fp++F) u v d fp)(nd:fp.Nodup)(fr:∀a∈fp,H a=xI):Pend K (Mp++[.own u]) (Zp++[d]) (σp++[xn v]) M Z σ H' P (fp++F):=by
 obtain⟨l1,l2,S⟩:=h;refine⟨by simp[l1],by simp[l2],?_⟩;have S1:=S.more e fr (o.lst u);obtain⟨G,h1,h2,h3⟩:=S.all;obtain⟨G1,G2,rfl,h4,h5⟩:=h1.splitAt l1 l2;have hc:Same (cut H F) (cut H' (fp++F)):=a0K e fr;have k:∀a∈G1++G2,H' a=H a:=λa ha=>S.toE.keep e a (h3 a ha)
 have q:=(h4.frame hc λa ha=>k a (ak _ ha)).join ((j6 (m:=.own u) (d:=d) (o:=xn v) (f:=fp) ⟨v,rfl,o⟩ (h5.frame hc λa ha=>k a (ah _ ha))));refine⟨⟨G1++(fp++G2),by simpa using q,a1x h2 nd λa ha z=>?_,λa ha=>?_⟩,S1.lst,S1.prot⟩
 ·obtain⟨ys,w⟩:=S.lst a (h3 a z);rw[fr a ha]at w;cases w
 ·rcases a5y ha with z|z
  ·exact ak _ z
  ·exact ah _ (h3 a z)
def Pend.move(h:Pend K Mp Zp σp M Z σ H P F)(hm:M[i]?=xn (.own u)):∃v,σ[i]?=xn (xn v)/\Pend K (Mp++[.own u]) (Zp++[Z.getD i .none]) (σp++[xn v]) (M.set i .dead) Z σ H P F:=by
 obtain⟨l1,l2,S⟩:=h;obtain⟨G,h1,h2,h3⟩:=S.all;obtain⟨G1,G2,rfl,h4,h5⟩:=h1.splitAt l1 l2;obtain⟨d,o,f,pre,post,e1,e2,⟨v,rfl,e3⟩,rfl,e5⟩:=h5.at_ hm;have q:=e5 H F .dead d (xn v) [] (λ_ _=>rfl) (Same.refl _) rfl;rw[set_same e1,set_same e2]at q;refine⟨v,e2,by simp[l1],by simp[l2],⟨⟨G1++(f++(pre++([]++post))),?_,?_,λa ha=>h3 a ?_⟩,S.lst,S.prot⟩⟩
 ·have:=h4.join (j6 (m:=.own u) (d:=d) (o:=xn v) (f:=f) ⟨v,rfl,e3⟩ q);rw[C6 e1];simpa using this
 ·rw[bJ];refine (List.Perm.nodup_iff ?_).mp h2;refine lC G1 ?_;exact List.perm_append_comm_assoc pre f post
 ·simp only[aq,bJ]at ha ⊢;rcases ha with z|z|z|z
  ·exact .inl z
  ·exact .inr (.inr (.inl z))
  ·exact .inr (.inl z)
  ·exact .inr (.inr (.inr z))
end
noncomputable def PMX(X:Cx)(M:List Md)(e:Expr)(f:EvE)(u:Ty)(M1:List Md):Prop:=
 ∃t,PE X e t/\∀(Mp:List Md) (Zp:List D) (σp:L2.St) (Z:List D) (σ:L2.St) (H P:Hp) (F:List aw) (d:D) (Q:VK),Pend X.K Mp Zp σp M Z σ H P F->f Z=xn d->
  (∀v H' F',Same H H'->Pend X.K (Mp++[.own u]) (Zp++[d]) (σp++[xn v]) M1 Z σ H' P F'->Q v H')->t σ H Q
noncomputable def PMA(X:Cx)(M:List Md)(es:List Expr)(f:EvA)(us:List Ty)(M1:List Md):Prop:=
 ∃t,PA X es t/\∀(Mp:List Md) (Zp:List D) (σp:L2.St) (Z:List D) (σ:L2.St) (H P:Hp) (F:List aw) (ds:List D) (Q:List V->Hp->Prop),Pend X.K Mp Zp σp M Z σ H P F->f Z=xn ds->
  (∀vs H' F',vs.length=us.length->ds.length=us.length->Same H H'->Pend X.K (Mp++us.map .own) (Zp++ds) (σp++vs.map xn) M1 Z σ H' P F'->Q vs H')->t σ H Q
section
variable {X:Cx}{M M1 M2:List Md}{e:Expr}{es:List Expr}{f:EvE}{fa:EvA}{u:Ty}{us:List Ty}{pos:fM}
def a9(h:PX X M e f (.new u)):PMX X M e f u M:=by
 obtain⟨t,p,q⟩:=h.out;refine⟨t,p,λMp Zp σp Z σ H P F d Q S hf k=>q Z σ H P F d Q S.e hf λv H' e ⟨fp,o,nd,fr⟩=>k v H' _ e (S.new e o nd fr)⟩
def D9(i:Nat)(hN:X.N[i]?=xn x:=by rfl)(hv:Vis X.env.scope x:=by first|exact bY rfl|exact bR (bY rfl)|exact bR (bR rfl))(hd:(x==("__debug__":bE))=false:=by decide)
  (iF:(x==("__classdict__":bE))=false:=by decide) (hm:M[i]?=xn (.own u):=by rfl):PMX X M (.Name x pos) (a6 i) u (M.set i .dead):=by
 refine⟨_,B5 hN hv hd iF,λMp Zp σp Z σ H P F d Q S hf k=>?_⟩;cases hf
 obtain⟨v,e,S'⟩:=S.move hm;exact⟨v,e,k v H F (Same.refl _) S'⟩
def a9E:PMA X M [] b9 [] M:=⟨_,p5,λMp Zp σp Z σ H P F ds Q S hf k=>by
 cases hf
 exact k [] H F rfl rfl (Same.refl _) (by simpa using S)⟩
def a0Q(h:PMX X M e f u M1)(hr:PMA X M1 es fa us M2)(hs:ar (e::es) X.env=(false,cK e X.env)::ar es X.env:=by rfl):PMA X M (e::es) (a7 f fa) (u::us) M2:=by
 obtain⟨t,p,q⟩:=h;obtain⟨tr,pr,qr⟩:=hr;refine⟨_,k8 p pr hs,λMp Zp σp Z σ H P F ds Q S hf k=>?_⟩;obtain⟨x,h1,g1⟩:=bnd hf;obtain⟨xs,h2,g2⟩:=bnd g1;cases g2
 refine q Mp Zp σp Z σ H P F x _ S h1 λv H1 F1 e1 S1=>qr _ _ _ Z σ H1 P F1 xs _ S1 h2 λvs H2 F2 l1 l2 e2 S2=>k (v::vs) H2 F2 (by simp[l1]) (by simp[l2]) (e1.trans e2) ?_
 simpa using S2
def Pend.pack{Zp Z:List D}{us:List Ty}{vs:List V}(h:Pend K (Mp++us.map .own) (Zp++ds) (σp++vs.map xn) M Z σ H P F)
  (lp:Zp.length=Mp.length) (lq:σp.length=Mp.length) (l1:vs.length=us.length) (l2:ds.length=us.length) (hp:H p=xI)
  (mk:∀G,OwnTs K H F us vs ds G->G.Nodup->(∀a∈G,a∈F)->∃rR F',(∀a,a∈F'↔a∈rR∨a∈F)/\(∀a∈rR,a=p∨a∈G)/\rR.Nodup/\Own K (upd H p o) F' u (.ref p) d rR/\(p∈rR->∃ys,o=.lst ys)) :
  ∃F',Pend K (Mp++[.own u]) (Zp++[d]) (σp++[xn (.ref p)]) M Z σ (upd H p o) P F':=by
 obtain⟨_,_,S⟩:=h;obtain⟨G,h1,h2,h3⟩:=S.all;obtain⟨G1,G2,rfl,h4,h5⟩:=h1.splitAt (by simp[lp,l2]) (by simp[lq,l1]);obtain⟨G3,G4,rfl,h6,h7⟩:=h4.splitAt lp lq;have CF:G4.Nodup:=by rw[bN]at h2;exact (bN.mp h2.1).2.1
 obtain⟨rR,F',uq,yL,oP,own,gE⟩:=mk G4 (W4 h7) CF λa ha=>h3 a (ak _ (ah _ ha))
 have yp:p∉F:=λz=>by obtain⟨ys,w⟩:=S.lst p z;rw[hp]at w;cases w
 have hc:Same (cut H F) (cut (upd H p o) F'):=λa o' ha=>by
  obtain⟨n1,n2⟩:=m4 ha;have gM:a≠p:=λz=>by rw[z,hp]at n2;cases n2
  refine g9 (λz=>?_) (by rw[c7 gM];exact n2);rcases (uq a).mp z with w|w
  ·rcases yL a w with y|y
   ·exact gM y
   ·exact n1 (h3 a (ak _ (ah _ y)))
  ·exact n1 w
 have k:∀a∈F,upd H p o a=H a:=λa ha=>c7 λz=>yp (z▸ha)
 have q:=(h6.frame hc λa ha=>k a (h3 a (ak _ (ak _ ha)))).join (j6 (m:=.own u) (d:=d) (o:=xn (.ref p)) (f:=rR) ⟨_,rfl,own⟩ (h5.frame hc λa ha=>k a (h3 a (ah _ ha))));refine⟨F',by simp[lp],by simp[lq],⟨⟨G3++(rR++G2),by simpa using q,a1x ?_ oP λa ha z=>?_,λa ha=>?_⟩,λa ha=>?_,S.prot.trans hc⟩⟩
 ·rw[aS]at h2;exact P3 h2
 ·rcases yL a ha with w|w
  ·subst w;exact yp (h3 a (by
    rcases aq.mp z with y|y
    ·exact ak _ (ak _ y)
    ·exact ah _ y))
  ·rw[aS]at h2;exact a1y h2 a w z
 ·rcases a5y ha with z|z
  ·exact (uq a).mpr (.inl z)
  ·refine (uq a).mpr (.inr (h3 a ?_));rcases aq.mp z with y|y
   ·exact ak _ (ak _ y)
   ·exact ah _ y
 ·rcases (uq a).mp ha with z|z
  ·rcases yL a z with w|w
   ·subst w;obtain⟨ys,rfl⟩:=gE z;exact⟨⟨.lst ys,trivial⟩,g8⟩
   ·have lR:=h3 a (ak _ (ah _ w));obtain⟨ys,y⟩:=S.lst a lR;exact⟨ys,by rw[k a lR];exact y⟩
  ·obtain⟨ys,y⟩:=S.lst a z;exact⟨ys,by rw[k a z];exact y⟩
def a9F{j}(h:PMA X M es fa us M1)(hn:us.length<=1000:=by decide):PMX X M (.Tuple es j pos) (V7 fa) (.tp us) M1:=by
 obtain⟨t,p,q⟩:=h;refine⟨_,a7S p,λMp Zp σp Z σ H P F d Q S hf k=>?_⟩;obtain⟨ds,h1,g1⟩:=bnd hf;cases g1
 refine q Mp Zp σp Z σ H P F ds _ S h1 λvs H1 F1 l1 l2 e1 S1=>⟨by rw[l1];exact eV (Y2 hn),λx hx=>?_⟩
 have xW:x∉F1:=λz=>by obtain⟨ys,w⟩:=S1.2.2.lst x z;rw[hx]at w;cases w
 obtain⟨F2,S2⟩:=S1.pack (o:=.tup vs) (u:=.tp us) (d:=.tuple ds) S.1 S.2.1 l1 l2 hx λG o nd sub=>by
  refine⟨G,F1,λa=>⟨λz=>.inr z,λz=>z.elim (sub a) id⟩,λa ha=>.inr ha,nd,?_,λz=>absurd (sub x z) xW⟩;simp only[Own];refine⟨x,vs,ds,rfl,g8,xW,rfl,o.frame (L7 (l6 hx _)) us λa ha=>c7 λz=>xW (z▸sub a ha)⟩
 exact k _ _ F2 (e1.trans (l6 hx _)) S2
end
def dAt:Ty->D->List Nat->Option (Ty×D)
 |u,d,[]=>xn (u,d)
 |.l u,.list ds,j::p=>(ds[j]?).bind λd=>dAt u d p
 |.tp us,.tuple ds,j::p=>(us[j]?).bind λu=>(ds[j]?).bind λd=>dAt u d p
 |_,_,_=>xI
def a3h:D->List Nat->D->D
 |_,[],e=>e
 |.list ds,j::p,e=>.list (ds.set j (a3h (ds.getD j .none) p e))
 |.tuple ds,j::p,e=>.tuple (ds.set j (a3h (ds.getD j .none) p e))
 |d,_,_=>d
def wk(H:Hp):V->List Nat->V->Prop
 |v,[],w=>w=v
 |v,j::p,w=>∃a xs v1,v=.ref a/\(H a=xn (.lst xs)∨H a=xn (.tup xs))/\xs[j]?=xn v1/\wk H v1 p w
theorem b7P(e:Same H H'):∀{p:List Nat} {v w:V},wk H v p w->wk H' v p w
 |[],_,_,h=>h
 |j::p,_,_,h=>by
  obtain⟨a,xs,v1,h1,h2,h3,h4⟩:=h;exact⟨a,xs,v1,h1,h2.imp (e _ _) (e _ _),h3,b7P e h4⟩
section
variable {K:af}{H H':Hp}{F F':List aw}
theorem ListAll.zip:∀{ds:List D} {xs:List V} {fp:List aw} {j:Nat} {d:D},ListAll (Own K H F u) xs ds fp->ds[j]?=xn d->
  ∃v f pre post,xs[j]?=xn v/\Own K H F u v d f/\fp=pre++(f++post)/\
   ∀(H':Hp) (F':List aw) (v':V) (d':D) (f':List aw),(∀a∈pre++post,H' a=H a)->Same (cut H F) (cut H' F')->Own K H' F' u v' d' f'->ListAll (Own K H' F' u) (xs.set j v') (ds.set j d') (pre++(f'++post))
 |[],_,_,j,d,_,e=>by simp at e
 |d0::ds,_,_,0,d,h,e=>by
  obtain⟨v,r,f,g,rfl,rfl,h1,h2⟩:=h.cons_inv;have:d0=d:=by simpa using e
  subst this;refine⟨v,f,[],g,rfl,h1,rfl,λH' F' v' d' f' k e' o=>?_⟩;show ListAll (Own K H' F' u) (v'::r) (d'::ds) (f'++g);exact m9 o (n9 e' h2 k)
 |d0::ds,_,_,j+1,d,h,e=>by
  obtain⟨v,r,f,g,rfl,rfl,h1,h2⟩:=h.cons_inv;obtain⟨w,f',pre,post,e1,e2,e3,e4⟩:=ListAll.zip (j:=j) h2 (by simpa using e);subst e3;refine⟨w,f',f++pre,post,by simpa using e1,e2,by rw[aS],λH' F' v' d' g' k e' o=>?_⟩;rw[aS];refine m9 (h1.frame e' u λa ha=>k a ?_) (e4 H' F' v' d' g' (λa ha=>k a ?_) e' o)
  ·rw[aS];exact ak _ ha
  ·rw[aS];exact ah _ ha
theorem OwnTs.zip:∀{us:List Ty} {ds:List D} {xs:List V} {fp:List aw} {j:Nat} {u:Ty} {d:D},OwnTs K H F us xs ds fp->us[j]?=xn u->ds[j]?=xn d->
  ∃v f pre post,xs[j]?=xn v/\Own K H F u v d f/\fp=pre++(f++post)/\
   ∀(H':Hp) (F':List aw) (d':D) (f':List aw),(∀a∈pre++post,H' a=H a)->Same (cut H F) (cut H' F')->Own K H' F' u v d' f'->OwnTs K H' F' us xs (ds.set j d') (pre++(f'++post))
 |[],_,_,_,j,u,d,_,e,_=>by simp at e
 |u0::us,_,_,_,0,u,d,h,e,e'=>by
  simp only[OwnTs]at h;obtain⟨v,r,d0,ds,f,g,rfl,rfl,rfl,h1,h2⟩:=h;have:u0=u:=by simpa using e
  subst this;have:d0=d:=by simpa using e'
  subst this;refine⟨v,f,[],g,rfl,h1,rfl,λH' F' d' f' k e' o=>?_⟩;show OwnTs K H' F' (u0::us) (v::r) (d'::ds) (f'++g);simp only[OwnTs];exact⟨v,r,d',ds,f',g,rfl,rfl,rfl,o,h2.frame e' us k⟩
 |u0::us,_,_,_,j+1,u,d,h,e,e'=>by
  simp only[OwnTs]at h;obtain⟨v,r,d0,ds,f,g,rfl,rfl,rfl,h1,h2⟩:=h;obtain⟨w,f',pre,post,e1,e2,e3,e4⟩:=OwnTs.zip (j:=j) h2 (by simpa using e) (by simpa using e');subst e3;refine⟨w,f',f++pre,post,by simpa using e1,e2,by rw[aS],λH' F' d' g' k e' o=>?_⟩;rw[aS];show OwnTs K H' F' (u0::us) (v::r) (d0::ds.set j d') (f++(pre++(g'++post)));simp only[OwnTs];refine⟨v,r,d0,_,f,_,rfl,rfl,rfl,h1.frame e' u0 λa ha=>k a ?_,e4 H' F' d' g' (λa ha=>k a ?_) e' o⟩
  ·rw[aS];exact ak _ ha
  ·rw[aS];exact ah _ ha
theorem Own.path:∀(p:List Nat) {u t:Ty} {v w:V} {d:D} {fp:List aw} {ds:List D},Own K H F u v d fp->dAt u d p=xn (.l t,.list ds)->wk H v p w->
  ∃b xs fs pre post,w=.ref b/\H b=xn (.lst xs)/\fp=pre++((b::fs)++post)/\ListAll (Own K H F t) xs ds fs/\
   ∀(H':Hp) (F':List aw) (kH:List V) (jS:List D) (jE:List aw),(∀a∈pre++post,H' a=H a)->Same (cut H F) (cut H' F')->H' b=xn (.lst kH)->ListAll (Own K H' F' t) kH jS jE->
    Own K H' F' u v (a3h d p (.list jS)) (pre++((b::jE)++post))
 |[],u,t,v,w,d,fp,ds,h,hd,hw=>by
  have jR:xn (u,d)=xn (.l t,.list ds):=hd;cases jR
  have Ci:w=v:=hw;subst Ci;simp only[Own]at h;rcases h with⟨_,hi,_⟩|⟨a,xs,jS,fs,rfl,h1,h2,rfl,h3⟩
  ·simp only[imm]at hi;cases hi
  ·cases h2
   refine⟨a,xs,fs,[],[],rfl,h1,by simp,h3,λH' F' kH jS jE _ _ k o=>?_⟩;simp only[Own,a3h,bJ,bg];exact .inr ⟨a,kH,jS,jE,rfl,k,rfl,rfl,o⟩
 |j::p,u,t,v,w,d,fp,ds,h,hd,hw=>by
  obtain⟨a0,uB,v1,rfl,tP,yG,hw⟩:=hw;cases u with
  |l u=>
   cases d with
   |list es=>
    have jR:(es[j]?).bind (λd=>dAt u d p)=xn (.l t,.list ds):=hd;obtain⟨d1,g1,g2⟩:=bnd jR;simp only[Own]at h;rcases h with⟨_,hi,_⟩|⟨a,xs,jF,fs,e0,h1,h2,rfl,h3⟩
    ·simp only[imm]at hi;cases hi
    ·cases h2
     cases e0
     have uS:uB=xs:=by rcases tP with z|z<;>rw[h1]at z<;>cases z;rfl
     subst uS;obtain⟨v2,f,pre,post,z1,z2,rfl,z4⟩:=h3.zip g1;rw[yG]at z1;cases z1
     obtain⟨b,ys,jE,mJ,kB,rfl,q2,rfl,q4,q5⟩:=Own.path p z2 g2 hw;refine⟨b,ys,jE,a0::(pre++mJ),kB++post,rfl,q2,by simp,q4,λH' F' kH jS zo k e' hb o=>?_⟩;have k1:∀a∈pre++post,H' a=H a:=λa ha=>k a (by simp only[aq,aH]at ha ⊢;rcases ha with z|z;exact .inl (.inr (.inl z));exact .inr (.inr z))
     have k2:∀a∈mJ++kB,H' a=H a:=λa ha=>k a (by simp only[aq,aH]at ha ⊢;rcases ha with z|z;exact .inl (.inr (.inr z));exact .inr (.inl z))
     have o1:=q5 H' F' kH jS zo k2 e' hb o;have o2:=z4 H' F' _ _ _ k1 e' o1;rw[set_same yG]at o2;show Own K H' F' (.l u) (.ref a0) (.list (es.set j (a3h (es.getD j .none) p (.list jS)))) _;rw[C6 g1];simp only[Own];refine .inr ⟨a0,uB,_,_,rfl,(k a0 (by simp)).trans h1,rfl,?_,o2⟩;simp
   |_=>cases hd
  |tp us=>
   cases d with
   |tuple es=>
    have jR:(us[j]?).bind (λu=>(es[j]?).bind λd=>dAt u d p)=xn (.l t,.list ds):=hd;obtain⟨u1,g0,Ej⟩:=bnd jR;obtain⟨d1,g1,g2⟩:=bnd Ej;simp only[Own]at h;obtain⟨a,xs,jF,e0,h1,h0,h2,h3⟩:=h;cases h2
    cases e0
    have uS:uB=xs:=by rcases tP with z|z<;>rw[h1]at z<;>cases z;rfl
    subst uS;obtain⟨v2,f,pre,post,z1,z2,rfl,z4⟩:=h3.zip g0 g1;rw[yG]at z1;cases z1
    obtain⟨b,ys,jE,mJ,kB,rfl,q2,rfl,q4,q5⟩:=Own.path p z2 g2 hw;refine⟨b,ys,jE,pre++mJ,kB++post,rfl,q2,by simp,q4,λH' F' kH jS zo k e' hb o=>?_⟩;have k1:∀a∈pre++post,H' a=H a:=λa ha=>k a (by simp only[aq]at ha ⊢;rcases ha with z|z;exact .inl (.inl z);exact .inr (.inr z))
    have k2:∀a∈mJ++kB,H' a=H a:=λa ha=>k a (by simp only[aq]at ha ⊢;rcases ha with z|z;exact .inl (.inr z);exact .inr (.inl z))
    have o1:=q5 H' F' kH jS zo k2 e' hb o;have o2:=z4 H' F' _ _ k1 e' o1;show Own K H' F' (.tp us) (.ref a0) (.tuple (es.set j (a3h (es.getD j .none) p (.list jS)))) _;rw[C6 g1];obtain⟨n1,n2⟩:=m4 (e' a0 _ (g9 h0 h1));simp only[Own];refine⟨a0,uB,_,rfl,n2,n1,rfl,?_⟩;simpa using o2
   |_=>cases hd
  |i=>cases hd
  |f=>cases hd
  |d kt u=>cases hd
def W5{N O:List aw}(h:O.Nodup)(k:∀a,N.count a<=O.count a):N.Nodup:=eL.mpr λa=>cC (k a) (eL.mp h a)
def Pend.put{Z:List D}(h:Pend K ([]++[.own t]) ([]++[d]) ([]++[xn v]) M Z σ H P F)(hm:M[i]?=xn (.own u))(h0:σ[i]?=xn (xn v0))(hd:dAt u (Z.getD i .none) p=xn (.l t,.list ds))(hw:wk H v0 p w) :
  ∃b xs,w=.ref b/\H b=xn (.lst xs)/\xs.length=ds.length/\StR K M (Z.set i (a3h (Z.getD i .none) p (.list (ds++[d])))) σ (upd H b (.lst (xs++[v]))) P F/\
   ∀j,j<ds.length->StR K M (Z.set i (a3h (Z.getD i .none) p (.list (ds.set j d)))) σ (upd H b (.lst (xs.set j v))) P F:=by
 obtain⟨_,_,S⟩:=h;obtain⟨G,h1,h2,h3⟩:=S.all;have l_:StAll K H F (.own t::M) (d::Z) (xn v::σ) G:=by simpa using h1
 simp only[StAll]at l_;obtain⟨d',Z',o',σ',fv,G2,e1,e2,rfl,⟨v',e3,ov⟩,h5⟩:=l_;cases e1
 cases e2
 cases e3
 obtain⟨dd,oo,f,pre,post,q1,q2,⟨v2,rfl,q3⟩,rfl,q5⟩:=h5.at_ hm;rw[h0]at q2;cases q2
 rw[C6 q1]at hd;obtain⟨b,xs,fs,mJ,kB,rfl,r2,rfl,r4,r5⟩:=q3.path p hd hw;have DS:b∈F:=h3 b (by simp);have iE:∀o,Same (cut H F) (cut (upd H b o) F):=λo a o' ha=>by
  obtain⟨n1,n2⟩:=m4 ha;exact g9 n1 (by rw[c7 (show a≠b from λz=>n1 (z▸DS))];exact n2)
 have iA:∀a,a≠b∨(pre++post).count a=0/\(mJ++kB).count a=0/\fs.count a=0/\fv.count a=0:=λa=>by
  by_cases e:a=b
  ·subst e;have:=eL.mp h2 a;simp only[bT,bB,wq]at this ⊢;exact .inr ⟨by lia,by lia,by lia,by lia⟩
  ·exact .inl e
 have kk:∀(l:List aw) (o:HO),(∀a,a=b->l.count a=0)->∀a∈l,upd H b o a=H a:=λl o hc a ha=>c7 λz=>by
  have:=hc a z;rw[jN]at this;exact this ha
 have c1:∀a,a=b->(pre++post).count a=0:=λa e=>((iA a).resolve_left (λn=>n e)).1
 have c2:∀a,a=b->(mJ++kB).count a=0:=λa e=>((iA a).resolve_left (λn=>n e)).2.1
 have c3:∀a,a=b->fs.count a=0:=λa e=>((iA a).resolve_left (λn=>n e)).2.2.1
 have c4:∀a,a=b->fv.count a=0:=λa e=>((iA a).resolve_left (λn=>n e)).2.2.2
 have fin:∀(kH:List V) (jS:List D) (jE:List aw),ListAll (Own K (upd H b (.lst kH)) F t) kH jS jE->(∀a,jE.count a<=fs.count a+fv.count a)->StR K M (Z.set i (a3h dd p (.list jS))) σ (upd H b (.lst kH)) P F:=λkH jS jE ha nV=>by
  have o1:=r5 (upd H b (.lst kH)) F kH jS jE (kk _ _ c2) (iE _) g8 ha;have q:=q5 (upd H b (.lst kH)) F (.own u) (a3h dd p (.list jS)) (xn v0) _ (kk _ _ c1) (iE _) ⟨v0,rfl,o1⟩;rw[set_same (l:=σ) h0,set_same (l:=M) hm]at q;refine⟨⟨_,q,W5 h2 λa=>?_,λa ha=>?_⟩,λa ha=>?_,S.prot.trans (iE _)⟩
  ·have:=nV a;simp only[bT,bB,f_];lia
  ·have hc:0<(fv++(pre++(mJ++(b::fs++kB)++post))).count a:=by
    have h0:=fw.mpr ha;have:=nV a;simp only[bT,bB,f_]at h0 ⊢;lia
   exact h3 a (fw.mp hc)
  ·by_cases e:a=b
   ·subst e;exact⟨⟨.lst kH,trivial⟩,g8⟩
   ·obtain⟨ys,y⟩:=S.lst a ha;exact⟨ys,by rw[c7 e];exact y⟩
 rw[C6 q1];refine⟨b,xs,rfl,r2,r4.length,fin (xs++[v]) (ds++[d]) (fs++fv) ?_ λa=>by rw[bT];exact ay _,λj hj=>?_⟩
 ·refine (n9 (iE _) r4 (kk _ _ c3)).append ?_;have:=m9 (R:=Own K (upd H b (.lst (xs++[v]))) F t) (ov.frame (iE _) t (kk _ _ c4)) p6
  rwa[bg]at this
 ·obtain⟨v3,f3,a1,a2,s1,s2,rfl,s4⟩:=r4.zip (ab hj);have c5:∀a,a=b->(a1++a2).count a=0:=λa e=>by have:=c3 a e;simp only[bT]at this ⊢;lia
  refine fin (xs.set j v) (ds.set j d) (a1++(fv++a2)) (s4 _ F v d fv (kk _ _ c5) (iE _) (ov.frame (iE _) t (kk _ _ c4))) λa=>?_
  simp only[bT];lia
end
inductive Out where
 |nx (Z:List D)|rt (d:D)|bk (Z:List D)|ct (Z:List D)
abbrev EvS:=List D->Option Out
def EndsOk(K:af)(P:Hp)(u:Ty)(ML M:List Md)(D:Ends)(o:Out):Prop:=
 match o with
 |.nx Z=>∀σ H F,StR K M Z σ H P F->D.nx σ H
 |.rt d=>∀v H fp,Own K H fp u v d fp->fp.Nodup->(∀a∈fp,P a=xI)->Same P H->D.rt v H
 |.bk Z=>∀σ H F,StR K ML Z σ H P F->D.bk σ H
 |.ct Z=>∀σ H F,StR K ML Z σ H P F->D.ct σ H
noncomputable def spS(K:af)(u:Ty)(ML M:List Md)(g:EvS)(M':List Md):TS:=λD σ H=>∃(Z:List VS.D) (P:Hp) (F:List aw) (o:Out),StR K M Z σ H P F/\g Z=xn o/\EndsOk K P u ML M' D o
noncomputable def PSX(X:Cx)(u:Ty)(ML M:List Md)(st:iy)(g:EvS)(M':List Md):Prop:=PS X st (spS X.K u ML M g M')
noncomputable def PSsX(X:Cx)(u:Ty)(ML M:List Md)(nL:List iy)(g:EvS)(M':List Md):Prop:=PSs X nL (spS X.K u ML M g M')
section
variable {X:Cx}{u:Ty}{ML M M':List Md}{st:iy}{nL:List iy}{g:EvS}
def PSX.mk(h:∃t,PS X st t/\∀(D:Ends) (Z:List VS.D) (σ:L2.St) (H P:Hp) (F:List aw) (o:Out),StR X.K M Z σ H P F->g Z=xn o->EndsOk X.K P u ML M' D o->t D σ H):PSX X u ML M st g M':=by
 obtain⟨t,p,q⟩:=h;exact λpins s σ H D I ⟨Z,P,F,o,S,hg,k⟩=>p pins s σ H D I (q D Z σ H P F o S hg k)
def PSX.out(h:PSX X u ML M st g M'):∃t,PS X st t/\∀(D:Ends) (Z:List VS.D) (σ:L2.St) (H P:Hp) (F:List aw) (o:Out),StR X.K M Z σ H P F->g Z=xn o->EndsOk X.K P u ML M' D o->t D σ H:=
 ⟨_,h,λ_ Z _ _ P F o S hg k=>⟨Z,P,F,o,S,hg,k⟩⟩
def PSsX.mk(h:∃t,PSs X nL t/\∀(D:Ends) (Z:List VS.D) (σ:L2.St) (H P:Hp) (F:List aw) (o:Out),StR X.K M Z σ H P F->g Z=xn o->EndsOk X.K P u ML M' D o->t D σ H):PSsX X u ML M nL g M':=by
 obtain⟨t,p,q⟩:=h;exact λpins s σ H D I ⟨Z,P,F,o,S,hg,k⟩=>p pins s σ H D I (q D Z σ H P F o S hg k)
def PSsX.out(h:PSsX X u ML M nL g M'):∃t,PSs X nL t/\∀(D:Ends) (Z:List VS.D) (σ:L2.St) (H P:Hp) (F:List aw) (o:Out),StR X.K M Z σ H P F->g Z=xn o->EndsOk X.K P u ML M' D o->t D σ H:=
 ⟨_,h,λ_ Z _ _ P F o S hg k=>⟨Z,P,F,o,S,hg,k⟩⟩
end
def Wk(M M1:List Md):Prop:=∀(K:af) (Z:List D) (σ:L2.St) (H P:Hp) (F:List aw),StR K M Z σ H P F->∃F',StR K M1 Z σ H P F'
def l9:Wk M M:=λ_ _ _ _ _ F S=>⟨F,S⟩
def Wk.trans(a:Wk M M1)(b:Wk M1 M2):Wk M M2:=λK Z σ H P F S=>by
 obtain⟨F1,S1⟩:=a K Z σ H P F S;exact b K Z σ H P F1 S1
def k9{M:List Md}(i:Nat)(h:M[i]?=xn m:=by rfl):Wk M (M.set i .dead):=λK Z σ H P F S=>⟨F,S.dead h⟩
def K1{M:List Md}(i:Nat)(h:M[i]?=xn (.own u):=by rfl):Wk M (M.set i (.own .f)):=λK Z σ H P F S=>S.freeze h
noncomputable def E1:EvS:=λZ=>xn (.nx Z)
noncomputable def f8(a b:EvS):EvS:=λZ=>(a Z).bind λo=>match o with
 |.nx Z'=>b Z'
 |o=>xn o
noncomputable def i9(i:Nat)(f:EvE):EvS:=λZ=>(f Z).bind λd=>xn (.nx (Z.set i d))
def asP:D->Option (D×D)
 |.tuple [a,b]=>xn (a,b)
 |_=>xI
noncomputable def a6K(i j:Nat)(f:EvE):EvS:=λZ=>(f Z).bind λd=>(asP d).bind λp=>xn (.nx ((Z.set i p.1).set j p.2))
noncomputable def t6(f:EvE):EvS:=λZ=>(f Z).bind λd=>xn (.rt d)
noncomputable def sEx(f:EvE):EvS:=λZ=>(f Z).bind λ_=>xn (.nx Z)
noncomputable def sIf(c:EvT)(a b:EvS):EvS:=λZ=>(c Z).bind λk=>if k then a Z else b Z
noncomputable def sNo:EvS:=λ_=>xI
noncomputable def U9(set:List D->D->Option (List D))(g:EvS):List D->List D->Option Out
 |[],Z=>xn (.nx Z)
 |d::ds,Z=>(set Z d).bind λZ1=>(g Z1).bind λo=>match o with
  |.nx Z'=>U9 set g ds Z'
  |.ct Z'=>U9 set g ds Z'
  |.bk Z'=>xn (.nx Z')
  |.rt d=>xn (.rt d)
def t8(i:Nat):List D->D->Option (List D):=λZ d=>xn (Z.set i d)
def a1z(i j:Nat):List D->D->Option (List D):=λZ d=>(asP d).bind λp=>xn ((Z.set i p.1).set j p.2)
noncomputable def C0(fi:EvA)(set:List D->D->Option (List D))(g:EvS):EvS:=λZ=>(fi Z).bind λds=>U9 set g ds Z
noncomputable def whL(c:EvT)(g:EvS):Nat->List D->Option Out
 |0,_=>xI
 |n+1,Z=>(c Z).bind λk=>if k then (g Z).bind λo=>match o with
  |.nx Z'=>whL c g n Z'
  |.ct Z'=>whL c g n Z'
  |.bk Z'=>xn (.nx Z')
  |.rt d=>xn (.rt d)
  else xn (.nx Z)
noncomputable def sWh(n:List D->Nat)(c:EvT)(g:EvS):EvS:=λZ=>whL c g (n Z) Z
section
variable {K:af}{M M1:List Md}{Z:List D}{σ:L2.St}{H P:Hp}{F:List aw}
def StR.pend(S:StR K M Z σ H P F):Pend K [] [] [] M Z σ H P F:=⟨rfl,rfl,S⟩
def Pend.store{Zp:List D}(h:Pend K (Mp++[.own u]) (Zp++[d]) (σp++[xn v]) M Z σ H P F)(lp:Zp.length=Mp.length)(lq:σp.length=Mp.length)(hm:M[i]?=xn m) :
  Pend K Mp Zp σp (M.set i (.own u)) (Z.set i d) (σ.set i (xn v)) H P F:=by
 obtain⟨_,_,S⟩:=h;obtain⟨G,h1,h2,h3⟩:=S.all;obtain⟨G1,G2,rfl,h4,h5⟩:=h1.splitAt (by simp[lp]) (by simp[lq]);obtain⟨G3,G4,rfl,h6,h7⟩:=h4.splitAt lp lq;have h8:OwnTs K H F [u] [v] [d] G4:=W4 (us:=[u]) (vs:=[v]) h7;simp only[OwnTs]at h8;obtain⟨v',r,d',e,f,g,e1,e2,rfl,o,rfl,rfl,rfl⟩:=h8;cases e1
 cases e2
 obtain⟨d0,o0,f0,pre,post,q1,q2,q3,rfl,q5⟩:=h5.at_ hm;have q:=h6.join (q5 H F (.own u) d (xn v) f (λ_ _=>rfl) (Same.refl _) ⟨v,rfl,o⟩);refine⟨lp,lq,⟨⟨_,q,W5 h2 λa=>?_,λa ha=>h3 a ?_⟩,S.lst,S.prot⟩⟩
 ·simp only[bT];lia
 ·simp only[aq,bg]at ha ⊢;rcases ha with z|z|z|z
  ·exact .inl (.inl z)
  ·exact .inr (.inl z)
  ·exact .inl (.inr z)
  ·exact .inr (.inr (.inr z))
def Pend.st(h:Pend K [] [] [] M Z σ H P F):StR K M Z σ H P F:=h.2.2
def Pend.one(h:Pend K ([]++[.own u]) ([]++[d]) ([]++[xn v]) M Z σ H P F):∃fp,Own K H F u v d fp/\fp.Nodup/\∀a∈fp,a∈F:=by
 obtain⟨_,_,S⟩:=h;obtain⟨G,h1,h2,h3⟩:=S.all;obtain⟨G1,G2,rfl,h4,h5⟩:=h1.splitAt (A:=[]++[.own u]) (Z1:=[]++[d]) (σ1:=[]++[xn v]) rfl rfl;have h8:OwnTs K H F [u] [v] [d] G1:=W4 (us:=[u]) (vs:=[v]) h4;simp only[OwnTs]at h8;obtain⟨v',r,d',e,f,g,e1,e2,rfl,o,rfl,rfl,rfl⟩:=h8;cases e1
 cases e2
 rw[bg]at h2 h3;exact⟨f,o,(bN.mp h2).1,λa ha=>h3 a (ak _ ha)⟩
def b7Q(u u1 u2:Ty):Prop:=(u=.f/\u1=.f/\u2=.f)∨(u=.i/\u1=.i/\u2=.i)∨u=.tp [u1,u2]
def Pend.untup(h:Pend K ([]++[.own u]) ([]++[.tuple [d1,d2]]) ([]++[xn v]) M Z σ H P F)(hp:b7Q u u1 u2) :
  ∃a v1 v2,v=.ref a/\SqT K H a [v1,v2]/\Pend K ([.own u1]++[.own u2]) ([d1]++[d2]) ([xn v1]++[xn v2]) M Z σ H P F:=by
 obtain⟨_,_,S⟩:=h;obtain⟨G,h1,h2,h3⟩:=S.all;obtain⟨G1,G2,rfl,h4,h5⟩:=h1.splitAt (A:=[]++[.own u]) (Z1:=[]++[.tuple [d1,d2]]) (σ1:=[]++[xn v]) rfl rfl;have h8:OwnTs K H F [u] [v] [.tuple [d1,d2]] G1:=W4 (us:=[u]) (vs:=[v]) h4;simp only[OwnTs]at h8;obtain⟨v',r,d',e,f,g,e1,e2,rfl,o,rfl,rfl,rfl⟩:=h8;cases e1
 cases e2
 have key:∃a v1 v2 f1 f2,v=.ref a/\SqT K H a [v1,v2]/\f=f1++f2/\Own K H F u1 v1 d1 f1/\Own K H F u2 v2 d2 f2:=by
  rcases hp with⟨rfl,rfl,rfl⟩|⟨rfl,rfl,rfl⟩|rfl
  ·obtain⟨rfl,o'⟩:=a9x o;obtain⟨a,xs,rfl,k1,k2⟩:=o'.tup_inv;obtain⟨v1,v2,rfl,k3,k4⟩:=a0N k2;refine⟨a,v1,v2,[],[],rfl,a0p k1 j5,rfl,?_,?_⟩<;>simp only[Own]
   ·exact⟨trivial,k3⟩
   ·exact⟨trivial,k4⟩
  ·obtain⟨rfl,hi,o'⟩:=a2e o;obtain⟨a,xs,rfl,k1,k2⟩:=o'.tup_inv;obtain⟨v1,v2,rfl,k3,k4⟩:=a0N k2;simp only[imm,e7,aD]at hi;refine⟨a,v1,v2,[],[],rfl,a0p k1 j5,rfl,?_,?_⟩<;>simp only[Own]
   ·exact⟨trivial,hi.1,k3⟩
   ·exact⟨trivial,hi.2.1,k4⟩
  ·simp only[Own,OwnTs]at o;obtain⟨a,xs,ds,rfl,k1,_,e0,v1,r,FK,e',f1,g1,rfl,e2,rfl,o1,v2,r2,FJ,FG,f2,g2,rfl,e3,rfl,o2,rfl,rfl,rfl⟩:=o;cases e0
   cases e2
   cases e3
   exact⟨a,v1,v2,f1,f2,rfl,SqT.of k1,by simp,o1,o2⟩
 obtain⟨a,v1,v2,f1,f2,rfl,k1,rfl,o1,o2⟩:=key;refine⟨a,v1,v2,rfl,k1,rfl,rfl,⟨⟨f1++(f2++G2),?_,by simpa using h2,λa ha=>h3 a (by simpa using ha)⟩,S.lst,S.prot⟩⟩;exact j6 (m:=.own u1) ⟨v1,rfl,o1⟩ (j6 (m:=.own u2) ⟨v2,rfl,o2⟩ h5)
end
section
variable {X:Cx}{u t:Ty}{ML M M1 M2 M':List Md}{st:iy}{nL body Bb:List iy}{g g1 g2:EvS}{e tg iter:Expr}{f:EvE}{fc:EvT}{fi:EvA}{c:Cat}{pos:fM}
def EndsOk.pre{K:af}{P:Hp}{D:Ends}{o:Out}(h:EndsOk K P u ML M' D o)(hw:Wk M M'):EndsOk K P u ML M D o:=by
 cases o with
 |nx Z=>exact λσ H F S=>by obtain⟨F',S'⟩:=hw K Z σ H P F S;exact h σ H F' S'
 |rt d=>exact h
 |bk Z=>exact h
 |ct Z=>exact h
def PSsX.weak(h:PSsX X u ML M1 nL g M2)(a:Wk M M1)(b:Wk M2 M'):PSsX X u ML M nL g M':=by
 obtain⟨t,p,q⟩:=h.out;refine .mk ⟨t,p,λD Z σ H P F o S hg k=>?_⟩;obtain⟨F1,S1⟩:=a _ Z σ H P F S;exact q D Z σ H P F1 o S1 hg (k.pre b)
def PSX.weak(h:PSX X u ML M1 st g M2)(a:Wk M M1)(b:Wk M2 M'):PSX X u ML M st g M':=by
 obtain⟨t,p,q⟩:=h.out;refine .mk ⟨t,p,λD Z σ H P F o S hg k=>?_⟩;obtain⟨F1,S1⟩:=a _ Z σ H P F S;exact q D Z σ H P F1 o S1 hg (k.pre b)
def B7:PSsX X u ML M [] E1 M:=.mk ⟨_,b5y,λD Z σ H P F o S hg k=>by cases hg;exact k σ H F S⟩
def b7(h1:PSX X u ML M st g1 M1)(h2:PSsX X u ML M1 nL g2 M'):PSsX X u ML M (st::nL) (f8 g1 g2) M':=by
 obtain⟨t1,p1,q1⟩:=h1.out;obtain⟨t2,p2,q2⟩:=h2.out;refine .mk ⟨_,a0G p1 p2,λD Z σ H P F o S hg k=>?_⟩;obtain⟨o1,h1,g1⟩:=bnd hg;refine q1 {D with nx:=t2 D} Z σ H P F o1 S h1 ?_;cases o1 with
 |nx Z'=>exact λσ' H' F' S'=>q2 D Z' σ' H' P F' o S' g1 k
 |rt d=>cases g1;exact k
 |bk Z'=>cases g1;exact k
 |ct Z'=>cases g1;exact k
def f7(h1:PSX X u ML M st g M1):PSsX X u ML M [st] g M1:=by
 obtain⟨t1,p1,q1⟩:=h1.out;exact .mk ⟨_,a9p p1,q1⟩
def f9(i:Nat)(hN:X.N.Nodup)(he:PMX X M e f t M1)(hi:X.N[i]?=xn x:=by rfl)(hx:Loc X.env.scope x:=by first|exact bY rfl|exact bR rfl)(hm:M1[i]?=xn m:=by rfl)
  (hs:fL e (xn (.Name x px)) pos.line X.env=pure false:=by rfl) (hf:X.fn x=true∨X.env.scope.names.lookup x=xn .local:=by first|exact .inl rfl|exact .inr rfl):PSX X u ML M (.Assign [.Name x px] e pos) (i9 i f) (M1.set i (.own t)):=by
 obtain⟨te,pe,qe⟩:=he;refine .mk ⟨_,a7N hN hi hx pe hs hf,λD Z σ H P F o S hg k=>?_⟩;obtain⟨d,h1,g1⟩:=bnd hg;cases g1
 exact qe [] [] [] Z σ H P F d _ S.pend h1 λv H' F' e S'=>k _ _ F' (S'.store rfl rfl hm).st
def b5Z(i j:Nat){pt pk}(hN:X.N.Nodup)(hc:X.calm=true)(he:PMX X M e f t M1)(hp:b7Q t u1 u2)(hi:X.N[i]?=xn x:=by rfl)(hj:X.N[j]?=xn y:=by rfl)(hx:Loc X.env.scope x:=by first|exact bY rfl|exact bR rfl)
  (hy:Loc X.env.scope y:=by first|exact bY rfl|exact bR rfl) (gC:i≠j:=by decide) (sN:M1[i]?=xn m1:=by rfl) (sM:M1[j]?=xn m2:=by rfl)
  (Dw:X.fn x=true∨X.env.scope.names.lookup x=xn .local:=by first|exact .inl rfl|exact .inr rfl) (vD:X.fn y=true∨X.env.scope.names.lookup y=xn .local:=by first|exact .inl rfl|exact .inr rfl)
  (hl:(ix [.Name x px,.Name y py] X.env).length=2:=by rfl) (qo:(ix [.Name x px,.Name y py] X.env).findIdx? (·.1)=xI:=by rfl)
  (hg1:PGs X [.Name x px,.Name y py] (a2T (L6 i) (a2T (L6 j) b5z)):=by exact u8 (q8 hN hi hx Dw) (u8 (q8 hN hj hy vD) Q7))
  (hs:swapsWithSole [.Tuple [.Name x px,.Name y py] pk pt] e pos.line X.env=pure false:=by rfl) (hw:swappedStores [.Tuple [.Name x px,.Name y py] pk pt] e X.env=pure xI:=by rfl)
  (h1:(ix [.Tuple [.Name x px,.Name y py] pk pt] X.env).map (·.2)=[assign (.Tuple [.Name x px,.Name y py] pk pt) X.env]:=by rfl) :
  PSX X u ML M (.Assign [.Tuple [.Name x px,.Name y py] pk pt] e pos) (a6K i j f) ((M1.set i (.own u1)).set j (.own u2)):=by
 obtain⟨te,pe,qe⟩:=he;refine .mk ⟨_,b8r pe (a1w hc hg1 hl qo) hs hw h1,λD Z σ H P F o S hg k=>?_⟩;obtain⟨d,h1,g1⟩:=bnd hg;obtain⟨⟨d1,d2⟩,h2,g2⟩:=bnd g1;cases g2
 have hd:d=.tuple [d1,d2]:=by
  match d,h2 with
  |.tuple [a,b],h2=>cases h2;rfl
 subst hd;refine qe [] [] [] Z σ H P F _ _ S.pend h1 λv H' F' e S'=>?_
 obtain⟨a,v1,v2,rfl,k1,S2⟩:=S'.untup hp;refine⟨a,_,rfl,k1,rfl,v1,[v2],rfl,v2,[],rfl,rfl,?_⟩;have S3:=S2.store (i:=j) rfl rfl sM;have yA:(M1.set j (.own u2))[i]?=xn m1:=by rw[bF (cY gC)];exact sN
 have S4:=(Pend.store (Mp:=[]) (Zp:=[]) (σp:=[]) (i:=i) S3 rfl rfl yA).st;rw[ro _ _ (cY gC),ro _ _ (cY gC),ro _ _ (cY gC)]at S4;exact k _ _ F' S4
def k7(he:PMX X M e f u M1):PSX X u ML M (.Return (xn e) pos) (t6 f) M':=by
 obtain⟨te,pe,qe⟩:=he;refine .mk ⟨_,b2y pe,λD Z σ H P F o S hg k=>?_⟩;obtain⟨d,h1,g1⟩:=bnd hg;cases g1
 refine qe [] [] [] Z σ H P F d _ S.pend h1 λv H' F' e S'=>?_
 obtain⟨fp,o,nd,sub⟩:=S'.one;refine k v H' fp (o.frame (I9 sub) u λ_ _=>rfl) nd (λa ha=>?_) (S'.2.2.prot.trans j5);cases hP:P a with
 |none=>rfl
 |some o'=>
  have:=S'.2.2.prot _ _ hP;rw[V6 (sub a ha)]at this;cases this
def a5I(he:PX X M e f c)(hs:fL e xI pos.line X.env=pure false:=by rfl):PSX X u ML M (.Expr e pos) (sEx f) M:=by
 obtain⟨te,pe,qe⟩:=he.out;refine .mk ⟨_,Q6 pe hs,λD Z σ H P F o S hg k=>?_⟩;obtain⟨d,h1,g1⟩:=bnd hg;cases g1
 exact qe Z σ H P F d _ S.toE h1 λv H' e _=>k σ H' F (S.grow e)
def M7(hc:PTX X M c0 fc)(ha:PSsX X u ML M body g1 M')(hb:PSsX X u ML M Bb g2 M'):PSX X u ML M (.If c0 body Bb pos) (sIf fc g1 g2) M':=by
 obtain⟨tc,pc,qc⟩:=hc.out;obtain⟨ta,pa,qa⟩:=ha.out;obtain⟨tb,pb,qb⟩:=hb.out;refine .mk ⟨_,c0y pc pa pb,λD Z σ H P F o S hg k=>?_⟩;obtain⟨b,h1,g1⟩:=bnd hg;refine qc Z σ H P F b _ S.toE h1 λH1 e1=>?_
 cases b with
 |true=>exact a5t (qa D Z σ H1 P F o (S.grow e1) g1 k)
 |false=>exact a6C (qb D Z σ H1 P F o (S.grow e1) g1 k)
def b3g:PSX X u ML M st sNo M':=.mk ⟨_,b2z,λD Z σ H P F o S hg k=>by cases hg⟩
def b3h(K:af)(M MB:List Md)(g:TG)(set:List D->D->Option (List D))(m:D->Prop):Prop:=
 ∀(Z:List D) (σ:L2.St) (H P:Hp) (F:List aw) (x:V) (d:D) (Z':List D) (Q:L2.St->Hp->Prop),StR K M Z σ H P F->Den K (cut H F) x d->m d->set Z d=xn Z'->(∀σ' F',StR K MB Z' σ' H P F'->Q σ' H)->g x σ H Q
def mI(d:D):Prop:=imm d=true
def mF(_:D):Prop:=True
def a0r(hm:M[i]?=xn m:=by rfl):b3h K M (M.set i (.own .f)) (L6 i) (t8 i) mF:=by
 intro Z σ H P F x d Z' Q S hd _ hs q;cases hs
 exact q _ _ (S.set (u:=.f) (fp:=[]) hm (Same.refl _) (by simp only[Own,bJ];exact⟨trivial,hd⟩) bA λa ha=>(nomatch ha))
def W6(hm:M[i]?=xn m:=by rfl):b3h K M (M.set i (.own .i)) (L6 i) (t8 i) mI:=by
 intro Z σ H P F x d Z' Q S hd hi hs q;cases hs
 exact q _ _ (S.set (u:=.i) (fp:=[]) hm (Same.refl _) (by simp only[Own,bJ];exact⟨trivial,hi,hd⟩) bA λa ha=>(nomatch ha))
def a5J(hw:w=.f∨w=.i)(gC:i≠j:=by decide)(sN:M[i]?=xn m1:=by rfl)(sM:M[j]?=xn m2:=by rfl):b3h K M ((M.set i (.own w)).set j (.own w)) (b8q K 2 (a2T (L6 i) (a2T (L6 j) b5z))) (a1z i j) (λd=>w=.i->imm d=true):=by
 intro Z σ H P F x d Z' Q S hd hi hs q;obtain⟨⟨d1,d2⟩,h2,g2⟩:=bnd hs;cases g2
 have sX:d=.tuple [d1,d2]:=by
  match d,h2 with
  |.tuple [a,b],h2=>cases h2;rfl
 subst sX;obtain⟨a,xs,rfl,k1,k2⟩:=hd.tup_inv;obtain⟨v1,v2,rfl,k3,k4⟩:=a0N k2;refine⟨a,_,rfl,a0p k1 j5,rfl,v1,[v2],rfl,v2,[],rfl,rfl,?_⟩;have o1:Own K H ([]++F) w v1 d1 []:=by
  rcases hw with rfl|rfl
  ·simp only[Own,bJ];exact⟨trivial,k3⟩
  ·have:=hi rfl;simp only[imm,e7,aD]at this;simp only[Own,bJ];exact⟨trivial,this.1,k3⟩
 have o2:Own K H ([]++([]++F)) w v2 d2 []:=by
  rcases hw with rfl|rfl
  ·simp only[Own,bJ];exact⟨trivial,k4⟩
  ·have:=hi rfl;simp only[imm,e7,aD]at this;simp only[Own,bJ];exact⟨trivial,this.2.1,k4⟩
 have S1:=S.set sN (Same.refl _) o1 bA λa ha=>(nomatch ha)
 exact q _ _ (S1.set (i:=j) (m:=m2) (by rw[bF gC];exact sM) (Same.refl _) o2 bA λa ha=>(nomatch ha))
def B8{set:List D->D->Option (List D)}{m:D->Prop}(hc:X.calm=true)(hp:nJ (aY X.prog X.w) X.A X.env X.xe)(hi:PIX X M tg iter fi)(hg:PG X tg gt)(hs:b3h X.K M MB gt set m)(hm:∀Z ds,fi Z=xn ds->∀d∈ds,m d)(hb:PSsX X u M MB body g M)
  (hf:∀x,fN iter X.env x=pure x:=by intro _;rfl):PSX X u ML M (.For tg iter body [] pos) (C0 fi set g) M:=by
 obtain⟨wi,pi,qi⟩:=hi;obtain⟨tb,pb,qb⟩:=hb.out;refine .mk ⟨_,a7P hp hc pi hg pb hf,λD Z σ H P F o S sU k=>?_⟩;obtain⟨ds,h1,g1⟩:=bnd sU;refine qi Z σ H P F ds _ S.toE h1 λJ xs Pr H1 e1 hw qO hx=>?_
 have S1:=S.grow e1;have ow:=hx.length;refine⟨λi n σ' H'=>n=xs.length-i/\i<=xs.length/\∃Z' F',StR X.K M Z' σ' H' (cut H1 F) F'/\U9 set g (ds.drop i) Z'=xn o,⟨xs.length,by simp,cE _,Z,F,⟨S1.all,S1.lst,Same.refl _⟩,g1⟩,?_⟩;rintro i n σ' H' ⟨rfl,hi,Z',F',S',hfl⟩;have m_:Same (cut H1 F) (cut H' F'):=S'.prot;have q:=qO H' (m_.trans j5);by_cases jv:i<xs.length
 ·refine .inr ⟨hw.go i H' q jv,λσ2 H2=>∃Z2 F2,StR X.K M Z2 σ2 H2 (cut H1 F) F2/\U9 set g (ds.drop (i+1)) Z2=xn o,λσ2 H2 ⟨Z2,F2,S2,h2⟩=>⟨xs.length-(i+1),by lia,rfl,jv,Z2,F2,S2,h2⟩,λx H2 hy=>?_⟩;obtain⟨rfl,qK⟩:=hw.yld i H' x H2 q jv hy;have mB:i<ds.length:=by lia
  have nk:ds.drop i=ds[i]::ds.drop (i+1):=dJ mB;rw[nk]at hfl;obtain⟨Z1,tW,g2⟩:=bnd (show (set Z' ds[i]).bind _=xn o from hfl);obtain⟨o1,hg1,g3⟩:=bnd g2;obtain⟨d',oS,rL⟩:=(hx.up m_).getV qK;have jR:d'=ds[i]:=by rw[ab mB]at oS;exact (aF oS).symm
  subst jR;refine hs Z' σ' H2 (cut H1 F) F' x _ Z1 _ S' rL (hm Z ds h1 _ (dA mB)) tW λσ3 F3 S3=>qb _ Z1 σ3 H2 (cut H1 F) F3 o1 S3 hg1 ?_
  cases o1 with
  |nx Z2=>exact λσ4 H4 F4 S4=>⟨Z2,F4,S4,g3⟩
  |ct Z2=>exact λσ4 H4 F4 S4=>⟨Z2,F4,S4,g3⟩
  |bk Z2=>
   have:o=.nx Z2:=(aF g3).symm;subst this;exact λσ4 H4 F4 S4=>k σ4 H4 F4 ⟨S4.all,S4.lst,S1.prot.trans S4.prot⟩
  |rt d=>
   have:o=.rt d:=(aF g3).symm;subst this;refine λv H4 fp o nd fr e=>k v H4 fp o nd (λa ha=>?_) (S1.prot.trans e)
   exact S1.prot.free (fr a ha)
 ·have e:i=xs.length:=by lia
  subst e;rw[ow,iN]at hfl;have:o=.nx Z':=(aF hfl).symm;subst this;exact .inl ⟨hw.stop _ H' q (ay _),k σ' H' F' ⟨S'.all,S'.lst,S1.prot.trans S'.prot⟩⟩
def a3i(n:List D->Nat)(hp:nJ (aY X.prog X.w) X.A X.env X.xe)(hc:PTX X M c0 fc)(hb:PSsX X u M M body g M):PSX X u ML M (.While c0 body [] pos) (sWh n fc g) M:=by
 obtain⟨tc,pc,qc⟩:=hc.out;obtain⟨tb,pb,qb⟩:=hb.out;refine .mk ⟨_,b2A hp pc pb,λD Z σ H P F o S sU k=>?_⟩;refine⟨λn σ' H'=>∃Z' F',StR X.K M Z' σ' H' P F'/\whL fc g n Z'=xn o,⟨n Z,Z,F,S,sU⟩,?_⟩;rintro n σ' H' ⟨Z',F',S',hw⟩;cases n with
 |zero=>cases hw
 |succ n=>
  obtain⟨b,h1,g1⟩:=bnd (show (fc Z').bind _=xn o from hw);refine qc Z' σ' H' P F' b _ S'.toE h1 λH1 e1=>?_
  cases b with
  |true=>
   refine a5t ⟨λσ2 H2=>∃Z2 F2,StR X.K M Z2 σ2 H2 P F2/\whL fc g n Z2=xn o,λσ2 H2 z=>⟨n,EL _,z⟩,?_⟩;obtain⟨o1,hg1,g3⟩:=bnd (show (g Z').bind _=xn o from g1);refine qb _ Z' σ' H1 P F' o1 (S'.grow e1) hg1 ?_;cases o1 with
   |nx Z2=>exact λσ4 H4 F4 S4=>⟨Z2,F4,S4,g3⟩
   |ct Z2=>exact λσ4 H4 F4 S4=>⟨Z2,F4,S4,g3⟩
   |bk Z2=>
    have:o=.nx Z2:=(aF g3).symm;subst this;exact λσ4 H4 F4 S4=>k σ4 H4 F4 S4
   |rt d=>
    have:o=.rt d:=(aF g3).symm;subst this;exact k
  |false=>
   have:o=.nx Z':=(aF g1).symm;subst this;exact a6C (k σ' H1 F' (S'.grow e1))
end
abbrev EvP:=List D->Option (List Nat)
noncomputable def PPX(X:Cx)(M:List Md)(e:Expr)(i:Nat)(f:EvP):Prop:=
 ∃t,PE X e t/\∀(Z:List D) (σ:L2.St) (H P:Hp) (F:List aw) (p:List Nat) (Q:VK),StE X.K M Z σ H P F->f Z=xn p->(∀v v0 H',Same H H'->σ[i]?=xn (xn v0)->wk H' v0 p v->Q v H')->t σ H Q
noncomputable def y8:EvP:=λ_=>xn []
def a9G(u:Ty)(d:D)(p:List Nat):Option (List D):=(dAt u d p).bind λtd=>match td with
 | (.l _,.list ds)=>xn ds
 | (.tp _,.tuple ds)=>xn ds
 |_=>xI
section
variable {X:Cx}{u t w:Ty}{ML M M1 M':List Md}{e b pl:Expr}{f fb:EvE}{fp:EvP}{cb:Cat}{pos apos cF:fM}
def R7(i:Nat)(hN:X.N[i]?=xn x:=by rfl)(hv:Vis X.env.scope x:=by first|exact bY rfl|exact bR (bY rfl)|exact bR (bR rfl))(hd:(x==("__debug__":bE))=false:=by decide)
  (iF:(x==("__classdict__":bE))=false:=by decide) (hm:M[i]?=xn (.own u):=by rfl):PPX X M (.Name x pos) i y8:=by
 refine⟨_,B5 hN hv hd iF,λZ σ H P F p Q S hf k=>?_⟩;cases hf
 obtain⟨v,f,e,_⟩:=S.get hm;exact⟨v,e,k v v H (Same.refl _) e rfl⟩
noncomputable def M8(i:Nat)(u:Ty)(fp:EvP)(fe:EvE):EvS:=λZ=>(fp Z).bind λp=>(a9G u (Z.getD i .none) p).bind λds=>(fe Z).bind λd=>if ds.length<1000000 then xn (.nx (Z.set i (a3h (Z.getD i .none) p (.list (ds++[d]))))) else xI
noncomputable def c0S(u:Ty)(fp:EvP)(t:Ty):Prop:=∀Z p d td,fp Z=xn p->dAt u d p=xn td->td.1=.l t
def a3j:c0S (.l t) y8 t:=λZ p d td h1 h2=>by
 cases h1
 have kG:xn (Ty.l t,d)=xn td:=h2;cases kG
 rfl
def at_list{d:D}{p:List Nat}{ds:List D}(ht:∀td,dAt u d p=xn td->td.1=.l t)(hi:a9G u d p=xn ds):dAt u d p=xn (.l t,.list ds):=by
 obtain⟨⟨t',d'⟩,h1,h2⟩:=bnd hi;have e:t'=.l t:=ht _ h1;subst e;cases d' with
 |list es=>cases h2;exact h1
 |_=>cases h2
def a0s(i:Nat)(hp:PPX X M pl i fp)(he:PMX X M e f t M1)(ht:c0S u fp t)(hm:M[i]?=xn (.own u):=by rfl)(sN:M1[i]?=xn (.own u):=by rfl)
  (fm:dM pl "append" X.env (cK pl X.env)=cK pl X.env:=by rfl)
  (ic:((cB cF (ar [e] X.env)).all (λx=>!x.1)&&(eK cF (dh [] X.env)).all (λx=>x.1.isSome)
   && decide ([e].length+([]:List eB).length+(if ([]:List eB).isEmpty then 0 else 1)<30))=true:=by rfl)
  (fg:(apos.endLine==cF.line)=true:=by rfl) (hs:ar [e] X.env=(false,cK e X.env)::ar [] X.env:=by rfl) (dZ:(cB cF (ar [] X.env)).any (·.1)=false:=by rfl)
  (qN:fL (.Call (.Attribute pl "append" apos) [e] [] cF) xI pos.line X.env=pure false:=by rfl) :
  PSX X w ML M (.Expr (.Call (.Attribute pl "append" apos) [e] [] cF) pos) (M8 i u fp f) M1:=by
 obtain⟨tp,pp,qp⟩:=hp;obtain⟨te,pe,qe⟩:=he;refine .mk ⟨_,Q6 (a4F eM km kl Y1 pp (k8 pe p5 hs) fm ic fg hs dZ) qN,λD Z σ H P F o S hg k=>?_⟩;obtain⟨p,h1,g1⟩:=bnd hg;obtain⟨ds,h2,g2⟩:=bnd g1;obtain⟨d,h3,g3⟩:=bnd g2;by_cases hz:ds.length<1000000
 ·rw[aB hz]at g3;cases g3
  refine qp Z σ H P F p _ S.toE h1 λv v0 H1 e1 tS hw=>?_
  have S1:=S.grow e1;obtain⟨v',f',e',o,_⟩:=S1.toE.get hm;rw[tS]at e';cases e'
  have ue:=at_list (λtd z=>ht Z p _ td h1 z) h2;obtain⟨b,xs,fs,pre,post,rfl,r2,_,_,_⟩:=o.path p ue hw;refine⟨.inl ⟨rfl,xs,SqL.of r2⟩,qe [] [] [] Z σ H1 P F d _ S1.pend h3 λv1 H2 F2 e2 S2=>?_⟩;obtain⟨b',kH,e',uH,hl,S3,_⟩:=S2.put sN tS ue (b7P e2 hw);cases e'
  refine⟨b,kH,v1,rfl,rfl,uH,?_,k σ _ F2 S3⟩;rw[hl];exact jz hz (by rw[dg];decide)
 ·rw[aJ hz]at g3;cases g3
end
def argsOk:List Ty->List D->Bool
 |[],[]=>true
 |.i::us,d::ds=>imm d&&argsOk us ds
 |.f::us,_::ds=>argsOk us ds
 |_,_=>false
noncomputable def fnD(us:List Ty)(n:Nat)(g:EvS):List D->Option D:=λds=>if argsOk us ds then (g (ds++aT n .none)).bind λo=>match o with
 |.rt d=>xn d
 |_=>xI
 else xI
theorem R8:∀{us:List Ty} {vs:List V} {ds:List D},argsOk us ds=true->DenAll K H vs ds->∀n,StAll K H [] (us.map .own++aT n .dead) (ds++aT n .none) (vs.map xn++aT n xI) []
 |[],vs,[],_,hd,n=>by
  rw[hd.nil_inv]
  induction n with
  |zero=>exact L3
  |succ n ih=>exact j6 (K:=K) (H:=H) (F:=[]) (m:=.dead) (f:=[]) rfl ih
 |.i::us,vs,d::ds,h,hd,n=>by
  have h':imm d=true/\argsOk us ds=true:=by simpa[argsOk]using h
  obtain⟨v,r,rfl,h1,h2⟩:=hd.cons_inv;refine j6 (K:=K) (H:=H) (F:=[]) (m:=.own .i) (f:=[]) ⟨v,rfl,?_⟩ (R8 h'.2 h2 n);simp only[Own,K6];exact⟨trivial,h'.1,h1⟩
 |.f::us,vs,d::ds,h,hd,n=>by
  have h':argsOk us ds=true:=by simpa[argsOk]using h
  obtain⟨v,r,rfl,h1,h2⟩:=hd.cons_inv;refine j6 (K:=K) (H:=H) (F:=[]) (m:=.own .f) (f:=[]) ⟨v,rfl,?_⟩ (R8 h' h2 n);simp only[Own,K6];exact⟨trivial,h1⟩
 |.l _::us,vs,d::ds,h,_,_=>by simp[argsOk]at h
 |.tp _::us,vs,d::ds,h,_,_=>by simp[argsOk]at h
 |.d _ _::us,vs,d::ds,h,_,_=>by simp[argsOk]at h
 |[],vs,d::ds,h,_,_=>by simp[argsOk]at h
 |.i::us,vs,[],h,_,_=>by simp[argsOk]at h
 |.f::us,vs,[],h,_,_=>by simp[argsOk]at h
 |.l _::us,vs,[],h,_,_=>by simp[argsOk]at h
 |.tp _::us,vs,[],h,_,_=>by simp[argsOk]at h
 |.d _ _::us,vs,[],h,_,_=>by simp[argsOk]at h
open PyProof.Rows in
def b6a{P:bw}{w:b_}{K:af}{mg:bE->Option aj}{base:cR}{x:bE}{st:iy}{f:aw}{fd:dR}{N ps:List bE}{k n:Nat}{us:List Ty}{u:Ty}{g:EvS}{M':List Md}(F:Fun K x x st f fd)(S:FnScope N ps (g7 st))(nO:us.length=ps.length)(hn:N.length=ps.length+n)
  (hb:∀(gr:aj) (A:bQ) (outer:List oe) (s:au) (H:Hp) (E:XK),Room k (A.deeper (jo x (g7 st) s.heap.objs.size f gr))->PSsX (a0H CX0 P w K mg base N x (g7 st) f gr A outer s H E).nox u [] (us.map .own++aT n .dead) (v9 st) g M') :
  FnOk P w K mg base CX0 (k+1) f fd ps (spD K ps.length (fnD us n g) u):=by
 refine F.ok S (λvs H Q E h=>?_) (λgr A outer s H vs Q E hr h=>?_)
 ·obtain⟨ds,d,hl,_⟩:=h;exact hl
 obtain⟨ds,d,hl,hd,hm,q⟩:=h;obtain⟨t,p,r⟩:=(hb gr A outer s H E hr).out;refine⟨t,p,?_⟩;unfold fnD at hm;by_cases ha:argsOk us ds=true
 ·rw[aB ha]at hm;obtain⟨o,h1,h2⟩:=bnd hm;cases o with
  |rt d'=>
   have kG:xn d'=xn d:=h2;cases kG
   have e:L2.start N vs=vs.map xn++aT n xI:=by
    unfold L2.start;rw[show N.length-vs.length=n by lia]
   rw[e];refine r _ (ds++aT n iB) _ H H [] (.rt d) ⟨⟨[],R8 ha hd n,bA,λa ha=>(nomatch ha)⟩,λa ha=>(nomatch ha),by rw[K6];exact Same.refl H⟩ h1 ?_;exact λv H' fp o nd fr e=>q v H' fp e o nd fr
  |_=>cases h2
 ·rw[aJ ha]at hm;cases hm
end VS
namespace VS
open PySem PySem.Spec L2 PyProof.Rows
def E3(K:af):List (bE×aw):=L5.filterMap λx=>(B0 K x).map λp=>(x,p)
def a1A:List aw->Bool
 |[]=>true
 |a::r=>!r.contains a&&a1A r
def a3k(K:af)(names:List bE):Bool:=a1A ((E3 K).map (·.2))&&(E3 K).all λt=>(K.lookup t.2).isNone&&names.contains t.1
theorem a3l:∀{l:List (bE×aw)} {x y:bE} {p:aw},a1A (l.map (·.2))=true->(x,p)∈l->(y,p)∈l->x=y
 |[],_,_,_,_,h,_=>(nomatch h)
 | (z,q)::l,x,y,p,h,h1,h2=>by
  have h':((l.map (·.2)).contains q=false)/\a1A (l.map (·.2))=true:=by simpa[a1A]using h
  have zX:∀w,(w,q)∉l:=λw hw=>by
   have:(l.map (·.2)).contains q=true:=by
    rw[uA];exact aG.mpr ⟨(w,q),hw,rfl⟩
   rw[h'.1]at this;cases this
  rcases aH.mp h1 with e1|e1
  ·rcases aH.mp h2 with e2|e2
   ·cases e1;cases e2;rfl
   ·cases e1;exact absurd e2 (zX y)
  ·rcases aH.mp h2 with e2|e2
   ·cases e2;exact absurd e1 (zX x)
   ·exact a3l h'.2 e1 e2
def a2h{K:af}{x:bE}{p:aw}(hx:x∈L5)(h:B0 K x=xn p):(x,p)∈E3 K:=
 dU.mpr ⟨x,hx,by rw[h];rfl⟩
def C8{K:af}{x:bE}{p:aw}(h:(x,p)∈E3 K):x∈L5/\B0 K x=xn p:=by
 obtain⟨y,hy,e⟩:=dU.mp h;cases q:B0 K y with
 |none=>rw[q]at e;cases e
 |some r=>
  rw[q]at e;have e':(y,r)=(x,p):=aF e;cases e'
  exact⟨hy,q⟩
def a8l{K:af}(e:a5m K cd=xn p)(X:K.In h):∃c,cd=.ref c/\gw h c p:=by
 unfold a5m at e
 split at e
 ·rename_i c
  split at e
  ·rename_i n dd vs sl hc
   split at e
   ·rename_i hn
    split at e
    ·rename_i P' file tf flags tg Ad text tt AX Eh h7 h9 Ei
     split at e
     ·rename_i gM
      cases e
      have en:n="code":=by simpa using hn
      subst en;refine⟨c,rfl,_,vs,file,tf,flags,tg,Ad,text,tt,X _ _ hc,rfl,rfl,AX,?_,?_,?_,?_,?_,bne_iff_ne.mp gM⟩
      ·simp[eW,AX]
      ·simp[eW,Eh]
      ·simp[eW,h7]
      ·simp[eW,h9]
      ·simp[eW,Ei]
     ·cases e
    ·cases e
   ·cases e
  ·cases e
 ·cases e
def a4P{K:af}{h:cR}(e:B0 K x=xn p)(X:K.In h)(G:h.Ns bS mg) :
  ∃f oc od fd sl c,mg x=xn (.ref f)/\K.lookup f=xn ⟨oc,od,.func fd,sl⟩/\fd.code=.ref c/\gw h c p:=by
 unfold B0 at e
 split at e
 ·rename_i f hf
  split at e
  ·rename_i oc od fd sl hl
   obtain⟨c,hc,hd⟩:=a8l e X;exact⟨f,oc,od,fd,sl,c,kj X G hf,hl,hc,hd⟩
  ·cases e
 ·cases e
def Tab0(K:af)(h:cR):Prop:=∀x∈L5,∀p,B0 K x=xn p->isCodeTable h p/\h.get? p=xn {cls:=.none,data:=.fields #[]}
def b6b{q:bw}{loose:List bE}{xK:ExcName->Option aj}{mg mb:bE->Option aj}{h:cR}{K:af}(T:Top q loose xK mg mb h)(X:K.In h)(ok:a3k K ((recsOf q).map (·.name))=true):Tab0 K h:=λx hx p e=>by
 have hm:=a2h hx e;have hn:((K.lookup p).isNone&&((recsOf q).map (·.name)).contains x)=true:=by
  unfold a3k at ok;rw[aD]at ok;exact dH.mp ok.2 _ hm
 rw[aD,uA]at hn;obtain⟨d,hd,rfl⟩:=aG.mp hn.2;obtain⟨f,oc,od,fd,sl,c,h1,h2,h3,h4⟩:=a4P e X T.g;obtain⟨a,o,AY,c',P',z1,z2,z3,z4,z5,z6⟩:=T.tab d hd;rw[h1]at z1;cases z1
 rw[X _ _ h2]at z2;cases z2
 have Bw:Data.func fd=Data.func AY:=z3;cases Bw
 rw[h3]at z4;cases z4
 obtain⟨ob,vs,file,tf,flags,tg,Ad,text,tt,y1,y2,y3,y4,_⟩:=h4;obtain⟨⟨Fg,EV,w1,w2,w3,w4⟩,w5⟩:=id z6;rw[y1]at w1;cases w1
 rw[y3]at w3;cases w3
 rw[y4]at w4;cases w4
 exact⟨z6.isCodeTable,w5⟩
def N8(K:af)(H:Hp):Hp:=λb=>match (E3 K).find? λt=>t.2==b with
 |some t=>xn (.tbl #[.str (V2 t.1) 0])
 |none=>H b
def b1d{K:af}{s₁:au}{vs:List aj} 
  (KX:K.In s₁.heap) (sJ:s₁.heap.Ns bS mg) (hb:s₁.heap.Ns kE mb) (wY:∀x:bE,x≠"__name__"->mb x=gS x) (yD:s₁.heap.NoLimit) (hg:s₁.gens=#[])
  (DO:∃bm ob,mg "__builtins__"=xn (.ref bm)/\bm≠kE/\s₁.heap.get? bm=xn ob/\ob.cls=.type "module"/\ob.dict=xn kE/\ob.data=.plain)
  (qM:Tab0 K s₁.heap) (oO:a3k K names=true)
  (ha:s₁.heap.get? a=xn {cls:=.type "list",data:=.seq vs.toArray}) (hi:IntsAre vs ns) (hl:ns.length<=a_) (hr:Room k nI)
  (F:∀base:cR,K.In base->base.Ns bS mg->FnOk P w K mg base CX k fa fd [x] sp) (nq:∀(s:au) (u:aj),nK s fd ⟨[u],[]⟩ [(x,u)])
  (pI:∀H:Hp,SqX K H a (ns.map V.int)->sp [.ref a] H (λv _=>v=.bl true) λ_ _ _=>False)
  (zm:∀H e s',CX [] H s₁ (λ_ _ _=>False) e s'->False) :
  gR (aY P w) nI (.call (.ref fa) ⟨[.ref a],[]⟩) (λr s'=>r=.ok (.ret (.bool true))/\OldK s₁.heap s'.heap/\s'.os=s₁.os/\oH s'.gens) s₁:=by
 have rv:=vals_ints hi;have xN:=hi.length;have BS:a1A ((E3 K).map (·.2))=true:=by unfold a3k at oO;rw[aD]at oO;exact oO.1
 have BR:∀t∈E3 K,K.lookup t.2=xI:=λt ht=>by
  unfold a3k at oO;rw[aD]at oO;have:=dH.mp oO.2 t ht;rw[aD]at this;exact Option.isNone_iff_eq_none.mp this.1
 have core:∀H0:Hp,SqX K H0 a (ns.map V.int)->HOk P w H0 s₁.heap->(∀b u,H0 b=xn u->b=a/\∃o xs,u=.frz o (.lst xs))->(H0 a≠xI->K.lookup a=xI)->
   gR (aY P w) nI (.call (.ref fa) ⟨[.ref a],[]⟩) (λr s'=>r=.ok (.ret (.bool true))/\OldK s₁.heap s'.heap/\s'.os=s₁.os/\oH s'.gens) s₁:=by
  intro H0 hS hok hA hK;have kK:∀b u,N8 K H0 b=xn u->(∃x,(x,b)∈E3 K/\u=.tbl #[.str (V2 x) 0])∨((∀x,(x,b)∉E3 K)/\H0 b=xn u):=λb u e=>by
   unfold N8 at e
   split at e
   ·rename_i t ht
    cases e
    have h1:=List.mem_of_find?_eq_some ht;have h2:t.2=b:=beq_iff_eq.mp (List.find?_some (p:=λt:bE×aw=>t.2==b) ht);refine .inl ⟨t.1,?_,rfl⟩;rw[<-h2];exact h1
   ·rename_i ht
    refine .inr ⟨λx hx=>?_,e⟩;have:=mU.mp ht _ hx;simp at this
  have tabAt:∀x p,(x,p)∈E3 K->N8 K H0 p=xn (.tbl #[.str (V2 x) 0]):=λx p hm=>by
   cases e:N8 K H0 p with
   |none=>
    unfold N8 at e
    split at e
    ·cases e
    ·rename_i ht
     have:=mU.mp ht _ hm;simp at this
   |some u=>
    rcases kK p u e with⟨y,hy,rfl⟩|⟨hn,_⟩
    ·rw[a3l BS hm hy]
    ·exact absurd hm (hn x)
  have nA:∀x,(x,a)∉E3 K:=λx hx=>by
   have:=(qM x (C8 hx).1 a (C8 hx).2).2;rw[ha]at this;cases this
  have Bj:N8 K H0 a=H0 a:=by
   cases e:N8 K H0 a with
   |none=>
    unfold N8 at e
    split at e
    ·cases e
    ·exact e.symm
   |some u=>
    rcases kK a u e with⟨y,hy,_⟩|⟨_,h⟩
    ·exact absurd hy (nA y)
    ·exact h.symm
  have DV:SqX K (N8 K H0) a (ns.map V.int):=by
   rcases hS with (h|⟨o,h⟩)|h
   ·exact .inl (.inl (Bj.trans h))
   ·exact .inl (.inr ⟨o,Bj.trans h⟩)
   ·exact .inr h
  have pL:HOk P w (N8 K H0) s₁.heap:=λb u e=>by
   rcases kK b u e with⟨x,hx,rfl⟩|⟨hn,h⟩
   ·obtain⟨h1,h2⟩:=C8 hx;exact⟨#[],(qM x h1 b h2).2,trivial,λpos cv z=>by cases z⟩
   ·obtain⟨rfl,o,xs,rfl⟩:=hA b u h;obtain⟨h1,h2⟩:=hok _ _ h;obtain⟨z,its,n,r,e'⟩:=h2;exact⟨h1,z,its,n,r,e'⟩
  have mQ:∀{b:aw} {o:fY},s₁.heap.get? b=xn o->N8 K H0 b=xI->(a5l s₁.heap (N8 K H0)).get? b=xn o:=λe n=>b2x e n
  have zV:∀{b:aw} {o:fY},s₁.heap.get? b=xn o->(∀ps,o.data≠.fields ps)->(∀its n,o.data≠.seq its n)->N8 K H0 b=xI:=λ{b o} e d1 d2=>by
   cases q:N8 K H0 b with
   |none=>rfl
   |some u=>
    rcases kK b u q with⟨x,hx,rfl⟩|⟨hn,h⟩
    ·have:=(qM x (C8 hx).1 b (C8 hx).2).2;rw[e]at this;cases this
     exact absurd rfl (d1 _)
    ·obtain⟨rfl,_⟩:=hA b u h;rw[ha]at e;cases e
     exact absurd rfl (d2 _ _)
  have wC:∀{b:aw} {m:bE->Option aj},s₁.heap.Ns b m->(a5l s₁.heap (N8 K H0)).Ns b m:=λ{b m} ⟨o,es,ep,e,d,r⟩=>⟨o,es,ep,mQ e (zV e (λps z=>by rw[d]at z;cases z) λits n z=>by rw[d]at z;cases z),d,r⟩
  have AQ:K.In (a5l s₁.heap (N8 K H0)):=λb o e=>mQ (KX b o e) (by
   cases q:N8 K H0 b with
   |none=>rfl
   |some u=>
    rcases kK b u q with⟨x,hx,rfl⟩|⟨hn,h⟩
    ·rw[BR _ hx]at e;cases e
    ·obtain⟨rfl,_⟩:=hA b u h;rw[hK (by rw[h];simp)]at e;cases e)
  have hM:Mod K mg (a5l s₁.heap (N8 K H0)):=⟨AQ,wC sJ,⟨mb,wC hb,wY⟩,let⟨mc,h1,h2⟩:=yD;⟨mc,wC h1,h2⟩,
   let⟨bm,ob,b1,b2,b3,b4,b5,b6⟩:=DO;⟨bm,ob,b1,b2,mQ b3 (zV b3 (λps z=>by rw[b6]at z;cases z) λits n z=>by rw[b6]at z;cases z),b4,b5,b6⟩⟩
  have e0:Env0 P w K mg (a5l s₁.heap (N8 K H0)) nI [] s₁ (N8 K H0):=⟨rfl,hM,λb o e=>b5v e,Nat.le_of_eq (b0E _ _),trivial,λb hb=>absurd (show b∈([]:List aw) from hb) (by simp),pL,.of_eq hg,
   λx hx p e=>⟨_,0,tabAt x p (a2h hx e),rfl⟩⟩
  refine gQ ((F _ AQ (wC sJ)).run nI [] s₁ (N8 K H0) ⟨[.ref a],[]⟩ [.ref a] [.ref a] _ _ hr e0 (nq s₁ (.ref a)) (.cons rfl .nil) (pI _ DV)) λr s' h=>?_
  cases r with
  |error e=>exact (zm _ e s' h).elim
  |ok fl=>
   cases fl with
   |next=>exact cJ h
   |brk=>exact cJ h
   |cont=>exact cJ h
   |ret u=>
    obtain⟨v,H',os,bare,un,oN,r',q⟩:=h;have q':v=.bl true:=q;subst q';obtain rfl:u=mj true:=r';refine⟨rfl,⟨λb o e=>?_,λb o e=>un.there b o e (by simp)⟩,os,bare⟩;cases q:N8 K H0 b with
    |none=>exact .inl (un.keep b o e q (by intro z;exact absurd (show b∈([]:List aw) from z) (by simp)) (by simp))
    |some u=>
     rcases kK b u q with⟨x,hx,rfl⟩|⟨hn,h⟩
     ·obtain⟨t1,t2⟩:=qM x (C8 hx).1 b (C8 hx).2;rw[e]at t2;cases t2
      obtain⟨more,e2⟩:=un.tbls b _ q;obtain⟨ps,e3,_⟩:=(show a6x H' s'.heap b _ from oN b _ e2);exact .inr (.inl ⟨t1,rfl,#[],ps,rfl,by simpa using e3⟩)
     ·obtain⟨rfl,ob,xs,rfl⟩:=hA b u h;have z2:=un.frzs b ob _ q;obtain⟨e1,_⟩:=pL b _ q;obtain⟨e2,_⟩:=oN b _ z2;rw[e]at e1;cases e1;exact .inl e2
 cases hk:K.lookup a with
 |some o=>
  have e:=KX a o hk;rw[ha]at e;cases e
  refine core (λ_=>xI) (.inr ⟨vs,_,hk,by rw[xN];exact hl,rv⟩) (λb u z=>by have z':(xI:Option HO)=xn u:=z;cases z') (λb u z=>by have z':(xI:Option HO)=xn u:=z;cases z') λz=>absurd rfl z
 |none=>
  refine core (λb=>if b=a then xn (.frz {cls:=.type "list",data:=.seq vs.toArray} (.lst (ns.map V.int))) else xI) (.inl (.inr ⟨{cls:=.type "list",data:=.seq vs.toArray},aB rfl⟩)) (λb u z=>?_) (λb u z=>?_) λ_=>hk
  ·by_cases hb:b=a
   ·have z':=(aB hb).symm.trans z;cases z'
    subst hb;exact⟨ha,by rw[ai];exact hl,vs,_,rv,ha⟩
   ·have z':=(aJ hb).symm.trans z;cases z'
  ·by_cases hb:b=a
   ·have z':=(aB hb).symm.trans z;cases z'
    exact⟨hb,_,_,rfl⟩
   ·have z':=(aJ hb).symm.trans z;cases z'
def b3i{l:FO}{XP:(bE->Option aj)->cR->Prop}{YP:b_->cR->Prop}{d:DefRec}{K:Params->af}{CX:b_->CXT}{sp:b_->Sp} 
  (hn:l.most=xn n) (CG:n<=a_) (vJ:d.params.defaults=[]) (hr:Room k nI)
  (hY:∀(w:b_) (h:cR),YP w h->(K w.params).In h) (hT:∀w:b_,a3k (K w.params) ((recsOf q).map (·.name))=true)
  (F:∀(w:b_) (mg:bE->Option aj) (fa:aw) (h:cR),(K w.params).In h->h.Ns bS mg->mg d.name=xn (.ref fa)->
   ∃fd:dR,(∀(s:au) (u:aj),nK s fd ⟨[u],[]⟩ [(x,u)])/\
    ∀base:cR,(K w.params).In base->base.Ns bS mg->FnOk l.prog w (K w.params) mg base (CX w) k fa fd [x] (sp w))
  (pI:∀(w:b_) (H:Hp) (a:aw) (ns:List Int),ns.length<=n->SqX (K w.params) H a (ns.map V.int)->sp w [.ref a] H (λv _=>v=.bl true) λ_ _ _=>False)
  (zm:∀(w:b_) (H:Hp) (s:au) (e:aj) (s':au),CX w [] H s (λ_ _ _=>False) e s'->False) :
  PySem.W.WalkO q loose XP YP l.row.toRowW d [] (λf vs=>zF f vs):=by
 refine Att.attach_call hn vJ λw s₀ s₁ mg mb fa o pm cd doc a vs ns G Y ho hd iF vo sH hints hlen hg=>?_
 have KX:=hY w _ Y;obtain⟨fd,hb,hF⟩:=F w mg fa _ KX G.T.g vo;exact b1d KX G.T.g G.T.b G.T.builtins G.T.nolimit hg G.T.bmain (b6b G.T KX (hT w)) (hT w) sH hints (cC hlen CG) hr hF hb (λH hS=>pI w H a ns hlen hS) λH e s'=>zm w H s₁ e s'
def b1e{l:FO}{XP:(bE->Option aj)->cR->Prop}{YP:b_->cR->Prop}{d:DefRec}{K:Params->af}{m:List bj->Option bj}(hn:l.most=xn 63)(vJ:d.params.defaults=[])(hr:Room k nI)
  (hY:∀(w:b_) (h:cR),YP w h->(K w.params).In h) (hT:∀w:b_,a3k (K w.params) ((recsOf q).map (·.name))=true)
  (F:∀(w:b_) (mg:bE->Option aj) (fa:aw) (h:cR),(K w.params).In h->h.Ns bS mg->mg d.name=xn (.ref fa)->
   ∃fd:dR,(∀(s:au) (u:aj),nK s fd ⟨[u],[]⟩ [(x,u)])/\
    ∀base:cR,(K w.params).In base->base.Ns bS mg->FnOk l.prog w (K w.params) mg base CX0 k fa fd [x] (spD (K w.params) 1 m .i))
  (hm:∀ns:List Int,ns.length<=63->m [.list (ns.map .int)]=xn (.bool true)) :
  PySem.W.WalkO q loose XP YP l.row.toRowW d [] (λf vs=>zF f vs):=
 b3i (n:=63) (k:=k) (x:=x) (CX:=λ_=>CX0) (sp:=λw=>spD (K w.params) 1 m .i) hn (by decide) vJ hr hY hT F
  (λw H a ns hl hS=>⟨_,_,rfl,denAll_cons (den_list hS (DenAll.ints ns)) denAll_nil,hm ns hl,λv H' fp _ o _ _=>(a2e o).2.2.bool_inv⟩) λ_ _ _ _ _ z=>z
end VS
namespace VS
open PySem PySem.Spec L2
def B9:∀(Z ds:List D),b9 Z=xn ds->ds.length=0:=λ_ _ h=>by cases h;rfl
def j8(hr:∀(Z ds:List D),r Z=xn ds->ds.length=n):∀(Z ds:List D),a7 f r Z=xn ds->ds.length=n+1:=λ_ _ h=>b0Z hr h
def b1f:∀(Z ds:List D),iI fi Z=xn ds->∀d∈ds,mI d:=λZ ds h d hd=>by
 have:=a4O rfl Z ds h d hd [d] rfl;show imm d=true;simpa only [e7,fJ]using this
def b6c:∀(Z ds:List D),iR fa Z=xn ds->∀d∈ds,mI d:=λZ ds h d hd=>by
 have:=a9D rfl Z ds h d hd [d] rfl;show imm d=true;simpa only [e7,fJ]using this
def b1g(h:cR)(hb:dq<h.objs.size):ObjOk P w H (h.push {cls:=.type "dict",data:=.dict #[]}) h.objs.size (g6 h.objs.size []):=
 ⟨⟨gF.mpr (cY (bM hb)),cE _,bA,_,#[],0,be _ rfl,⟨rfl,rfl,rfl⟩,rfl,.nil,λ_=>rfl⟩,⟨_,be _ rfl⟩,λx1 x2 ⟨a1,a2,a3,o',oA,qZ,b1,b2⟩ hk=>⟨a1,a2,a3,o',oA,qZ,hk _ b1,b2⟩⟩
end VS
namespace VS
open PySem L2
section
variable {a b c:EvE}{Z Z':List D}{d x y:D}
def l1(g:D->Option D):Option D->Option D
 |some x=>g x
 |none=>xI
def l2(g:D->D->Option D):Option D->Option D->Option D
 |some x,xn y=>g x y
 |_,_=>xI
noncomputable def lc(m:List D->Option D):Option (List D)->Option D
 |some xs=>m xs
 |none=>xI
def b3j:Option D->Option (List D)->Option (List D)
 |some x,xn xs=>xn (x::xs)
 |_,_=>xI
def lB:Option D->Option Bool
 |some d=>asB d
 |none=>xI
def lT:Option D->Option Bool
 |some d=>tr d
 |none=>xI
def c0T:Option Bool->Option Bool
 |some b=>xn !b
 |none=>xI
def b8R:Option Bool->EvT->List D->Option Bool
 |some true,b,Z=>b Z
 |some false,_,_=>xn false
 |none,_,_=>xI
def orT:Option Bool->EvT->List D->Option Bool
 |some true,_,_=>xn true
 |some false,b,Z=>b Z
 |none,_,_=>xI
def b8S:Option D->EvE->List D->Option D
 |some (.bool true),b,Z=>b Z
 |some (.bool false),_,_=>xn (.bool false)
 |_,_,_=>xI
def orE:Option D->EvE->List D->Option D
 |some (.bool true),_,_=>xn (.bool true)
 |some (.bool false),b,Z=>b Z
 |_,_,_=>xI
def c0U:Option D->Option D
 |some (.bool b)=>xn (.bool !b)
 |_=>xI
def b8T:Option Bool->EvE->EvE->List D->Option D
 |some true,a,_,Z=>a Z
 |some false,_,b,Z=>b Z
 |none,_,_,_=>xI
def b1h:Option Bool->EvS->EvS->List D->Option Out
 |some true,a,_,Z=>a Z
 |some false,_,b,Z=>b Z
 |none,_,_,_=>xI
def thn:Option Out->EvS->Option Out
 |some (.nx Z),b=>b Z
 |some (.rt d),_=>xn (.rt d)
 |some (.bk Z),_=>xn (.bk Z)
 |some (.ct Z),_=>xn (.ct Z)
 |none,_=>xI
def b6d(i:Nat):Option D->List D->Option Out
 |some d,Z=>xn (.nx (Z.set i d))
 |none,_=>xI
def retS:Option D->Option Out
 |some d=>xn (.rt d)
 |none=>xI
def exS:Option D->List D->Option Out
 |some _,Z=>xn (.nx Z)
 |none,_=>xI
def b3k(i j:Nat):Option D->List D->Option Out
 |some (.tuple [x,y]),Z=>xn (.nx ((Z.set i x).set j y))
 |_,_=>xI
noncomputable def c0V(set:List D->D->Option (List D))(g:EvS):Option (List D)->List D->Option Out
 |some ds,Z=>U9 set g ds Z
 |none,_=>xI
def a0t:Option Out->Option D
 |some (.rt d)=>xn d
 |_=>xI
def listE:Option (List D)->Option D
 |some ds=>xn (.list ds)
 |none=>xI
def c0W:Option (List D)->Option D
 |some ds=>xn (.tuple ds)
 |none=>xI
def c2s:l1 g (xn x)=g x:=rfl
def b8U:l2 g (xn x) (xn y)=g x y:=rfl
def c2t:lc m (xn xs)=m xs:=rfl
def b6e:b3j (xn x) (xn xs)=xn (x::xs):=rfl
def c2u:lB (xn (.bool k))=xn k:=rfl
def c2v:lT (xn d)=tr d:=rfl
def b8V:c0T (xn k)=xn !k:=rfl
def b8W:b8R (xn true) t Z=t Z:=rfl
def b8X:b8R (xn false) t Z=xn false:=rfl
def c0X:orT (xn true) t Z=xn true:=rfl
def c0Y:orT (xn false) t Z=t Z:=rfl
def b8Y:b8S (xn (.bool true)) b Z=b Z:=rfl
def b8Z:b8S (xn (.bool false)) b Z=xn (.bool false):=rfl
def c0Z:orE (xn (.bool true)) b Z=xn (.bool true):=rfl
def c1a:orE (xn (.bool false)) b Z=b Z:=rfl
def b9a:c0U (xn (.bool k))=xn (.bool !k):=rfl
def b9b:b8T (xn true) a b Z=a Z:=rfl
def b9c:b8T (xn false) a b Z=b Z:=rfl
def b3l:b1h (xn true) s t Z=s Z:=rfl
def b3m:b1h (xn false) s t Z=t Z:=rfl
def b3n:thn (xn (.nx Z)) s=s Z:=rfl
def b9d:thn (xn (.rt d)) s=xn (.rt d):=rfl
def b9e:thn (xn (.bk Z)) s=xn (.bk Z):=rfl
def b9f:thn (xn (.ct Z)) s=xn (.ct Z):=rfl
def b3o:b6d i (xn d) Z=xn (.nx (Z.set i d)):=rfl
def b9g:retS (xn d)=xn (.rt d):=rfl
def c1b:exS (xn d) Z=xn (.nx Z):=rfl
def b6f:b3k i j (xn (.tuple [x,y])) Z=xn (.nx ((Z.set i x).set j y)):=rfl
def b9h{set:List D->D->Option (List D)}:c0V set g (xn ds) Z=U9 set g ds Z:=rfl
def b9i:a0t (xn (.rt d))=xn d:=rfl
def a9H:listE (xn ds)=xn (.list ds):=rfl
def b9j:c0W (xn ds)=xn (.tuple ds):=rfl
def v_var:a6 i Z=xn (Z.getD i .none):=rfl
def v_c:eC d Z=xn d:=rfl
def v_1:e1 g a Z=l1 g (a Z):=by unfold e1;cases a Z<;>rfl
def v_2:e2 g a b Z=l2 g (a Z) (b Z):=by unfold e2;cases a Z<;>cases b Z<;>rfl
def c2w:eCl m f Z=lc m (f Z):=by unfold eCl;cases f Z<;>rfl
def b9k:a7 a r Z=b3j (a Z) (r Z):=by unfold a7;cases a Z<;>cases r Z<;>rfl
def b7R:b9 Z=xn []:=rfl
def c2x:tB a Z=lB (a Z):=by unfold tB;cases a Z<;>rfl
def c2y:tV a Z=lT (a Z):=by unfold tV;cases a Z<;>rfl
def c1c:tNo t Z=c0T (t Z):=by unfold tNo;cases t Z<;>rfl
def c1d:tAn s t Z=b8R (s Z) t Z:=by
 unfold tAn;cases s Z with
 |none=>rfl
 |some k=>cases k<;>rfl
def c1e:a8a s t Z=orT (s Z) t Z:=by
 unfold a8a;cases s Z with
 |none=>rfl
 |some k=>cases k<;>rfl
def v_and:b2V a b Z=b8S (a Z) b Z:=by
 unfold b2V;cases h:a Z with
 |none=>rfl
 |some d=>cases d with
  |bool k=>cases k<;>rfl
  |_=>rfl
def v_or:eOr a b Z=orE (a Z) b Z:=by
 unfold eOr;cases h:a Z with
 |none=>rfl
 |some d=>cases d with
  |bool k=>cases k<;>rfl
  |_=>rfl
def v_not:b5T a Z=c0U (a Z):=by
 unfold b5T;cases h:a Z with
 |none=>rfl
 |some d=>cases d<;>rfl
def c2z:eIf t a b Z=b8T (t Z) a b Z:=by
 unfold eIf;cases t Z with
 |none=>rfl
 |some k=>cases k<;>rfl
def b7S:x4 f Z=listE (f Z):=by unfold x4;cases f Z<;>rfl
def c1f:V7 f Z=c0W (f Z):=by unfold V7;cases f Z<;>rfl
def a6L:f8 s t Z=thn (s Z) t:=by
 unfold f8;cases s Z with
 |none=>rfl
 |some o=>cases o<;>rfl
def b3p:i9 i a Z=b6d i (a Z) Z:=by unfold i9;cases a Z<;>rfl
def a9I:t6 a Z=retS (a Z):=by unfold t6;cases a Z<;>rfl
def c2A:sEx a Z=exS (a Z) Z:=by unfold sEx;cases a Z<;>rfl
def b9l:E1 Z=xn (.nx Z):=rfl
def c1g:sIf t s s' Z=b1h (t Z) s s' Z:=by
 unfold sIf;cases t Z with
 |none=>rfl
 |some k=>cases k<;>rfl
def b3q{set:List D->D->Option (List D)}:C0 fi set g Z=c0V set g (fi Z) Z:=by unfold C0;cases fi Z<;>rfl
def b9m:a6K i j a Z=b3k i j (a Z) Z:=by
 unfold a6K;cases h:a Z with
 |none=>rfl
 |some d=>
  match d with
  |.tuple [x,y]=>rfl
  |.tuple []=>rfl
  |.tuple [_]=>rfl
  |.tuple (_::_::_::_)=>rfl
  |.none=>rfl
  |.bool _=>rfl
  |.int _=>rfl
  |.str _=>rfl
  |.list _=>rfl
  |.dict _=>rfl
def z9(h:argsOk us ds=true):fnD us n g ds=a0t (g (ds++aT n .none)):=by
 unfold fnD;rw[aB h];cases g (ds++aT n .none) with
 |none=>rfl
 |some o=>cases o<;>rfl
def v_add:y9 (.int i) (.int j)=xn (.int (i+j)):=rfl
def v_sub:a5w (.int i) (.int j)=xn (.int (i-j)):=rfl
def v_lt:dLt (.int i) (.int j)=xn (.bool (decide (i<j))):=rfl
def c2B:dLe (.int i) (.int j)=xn (.bool (decide (i<=j))):=rfl
def c2C:dGt (.int i) (.int j)=xn (.bool (decide (j<i))):=rfl
def c2D:dGe (.int i) (.int j)=xn (.bool (decide (j<=i))):=rfl
def v_mod(h:0<j):J0 (.int i) (.int j)=xn (.int (i % j)):=by
 show (if b8K i j=true then _ else _)=_;rw[aB (show b8K i j=true from aQ h)]
def v_div(h:0<j)(h':j<1073741824):b0T (.int i) (.int j)=xn (.int (i / j)):=by
 show (if b5R i j=true then _ else _)=_;rw[aB (by unfold b5R;rw[aQ h,aQ h'];rfl)]
def a1B{i j:Int}(h:i.natAbs<2^64):Z8 (.int i) (.int j)=xn (.int (i*j)):=by
 show (if b0S i j=true then _ else _)=_;rw[aB (by unfold b0S;rw[aQ h];rfl)]
def a5K{i j:Int}(h:j.natAbs<2^64):Z8 (.int i) (.int j)=xn (.int (i*j)):=by
 show (if b0S i j=true then _ else _)=_;rw[aB (by unfold b0S;rw[aQ h,Bool.or_true])]
def v_pow(h:b0U i j=true):b0V (.int i) (.int j)=xn (.int (i^j.toNat)):=by
 show (if b0U i j=true then _ else _)=_;rw[aB h]
def c1h:dEq (.int i) (.int j)=xn (.bool (decide (i=j))):=by
 show xn (cV (false !=aI (.int i) (.int j)))=_;have:aI (.int i) (.int j)=decide (i=j):=by
  show (i==j)=decide (i=j);exact gi i j
 rw[this];simp
def c1i:dNe (.int i) (.int j)=xn (.bool (!decide (i=j))):=by
 show xn (cV (true !=aI (.int i) (.int j)))=_;have:aI (.int i) (.int j)=decide (i=j):=by
  show (i==j)=decide (i=j);exact gi i j
 rw[this];simp
def b9n:s9 [.list ds]=xn (.int ds.length):=rfl
def b9o:s9 [.tuple ds]=xn (.int ds.length):=rfl
def c1j:dIx (.list ds) (.int k)=atI ds k:=rfl
def c1k:dIx (.tuple ds) (.int k)=atI ds k:=rfl
def c1l:a3f (.list ds) (.int k)=atI ds k:=rfl
def c1m:u9 x y=l1 a5C (dIx x y):=by unfold u9;cases dIx x y<;>rfl
def b3r(h:imm d=true):a5C d=xn d:=by unfold a5C;rw[aB h]
def c1n:c2r k (.bool i) (.bool j)=xn (.bool (k !=(i==j))):=rfl
def R9:imm (.int i)=true:=by simp only[imm]
def p7(ns:List Int):e7 (ns.map .int)=true:=by
 induction ns with
 |nil=>simp only[cW,e7]
 |cons n ns ih=>simp only[ax,e7,imm,ih,eG]
def a0u{α:Type}{xs:List α}(h0:0<=k)(h:k<(xs.length:Int)):atI xs k=xn (xs[k.toNat]'(by lia)):=by
 unfold L2.atI ixN;rw[aB h0,aB h];exact ab (by lia)
def b9p(i:Nat):D->Option D->List D->Option Out
 |.list ds,xn d,Z=>if ds.length<1000000 then xn (.nx (Z.set i (.list (ds++[d])))) else xI
 |_,_,_=>xI
def c1o:M8 i (.l t) y8 a Z=b9p i (Z.getD i .none) (a Z) Z:=by
 unfold M8 y8
 dsimp only[dG]
 cases h:Z.getD i .none with
 |list ds=>
  cases a Z with
  |none=>rfl
  |some d=>rfl
 |_=>cases a Z<;>rfl
def a0v{ds:List D}(h:ds.length<1000000):b9p i (.list ds) (xn d) Z=xn (.nx (Z.set i (.list (ds++[d])))):=by
 show (if ds.length<1000000 then xn (Out.nx (Z.set i (.list (ds++[d])))) else xI)=_;rw[aB h]
def a8m(h:a Z=xn (.int n))(h0:0<=n)(h1:n<2^62):iR a Z=xn (l0 0 n.toNat):=by
 unfold iR;rw[h];show (if -(2^62)<=n/\n<2^62 then xn (l0 0 n.toNat) else xI)=_;rw[aB ⟨by lia,h1⟩]
def a8n:(l0 lo n).length=n:=by unfold l0;simp
end
end VS
namespace VS
open PySem PySem.Spec L2
noncomputable def fnN(us:List Ty)(n:Nat)(g:EvS):List D->Option D:=λds=>if argsOk us ds then (g (ds++aT n .none)).bind λo=>match o with
 |.rt d=>xn d
 |.nx _=>xn .none
 |_=>xI
 else xI
section
variable {X:Cx}{M:List Md}{a:Expr}{fa:EvE}{us:List Ty}{u:Ty}{pos p2:fM}
def a0w(ha:PX X M a fa (.new (.tp us)))(hu:us[j]?=xn u:=by rfl):PX X M (.Subscript a (.Constant (.int (j:Nat)) c p2) pos) (e2 dIx fa (eC (.int (j:Nat)))) (.new u):=by
 obtain⟨ta,pa,qa⟩:=ha.out;refine .mk ⟨_,a9s a5E pa a7M (λ_ _=>rfl),λZ σ H P F d Q S hf q=>?_⟩;obtain⟨x,y,h1,h2,h3⟩:=D7 hf;cases h2
 refine qa Z σ H P F x _ S h1 λv H1 e1 ⟨fp,o,n,fr⟩=>?_
 simp only[Own]at o;obtain⟨p,xs,ds,rfl,hp,yp,rfl,ot⟩:=o;have qU:L2.atI ds (j:Int)=xn d:=h3;unfold L2.atI at qU;obtain⟨k,k1,k2⟩:=bnd qU;have hk:k=j:=by
  unfold ixN at k1;rw[aB (by lia)]at k1;by_cases c:(j:Int)<ds.length
  ·rw[aB c]at k1;have:=aF k1;lia
  ·rw[aJ c]at k1;cases k1
 subst hk;obtain⟨v1,f,pre,post,z1,z2,z3,_⟩:=ot.zip hu k2;subst z3;have hlen:xs.length=ds.length:=by rw[ot.len.1,ot.len.2]
 refine .inr ⟨p,xs,(k:Int),v1,rfl,rfl,SqT.of hp,?_,q v1 H1 e1 ⟨f,z2.frame (I9 λa ha=>?_) u λ_ _=>rfl,?_,λa ha=>fr a ?_⟩⟩
 ·unfold L2.atI;rw[hlen,k1];exact z1
 ·rcases aq.mp ha with z|z
  ·exact ak _ (ah _ (ak _ z))
  ·exact ah _ z
 ·exact n.sublist ((ko f post).trans (qC pre _))
 ·exact ah _ (ak _ ha)
end
open PyProof.Rows in
def b3s{P:bw}{w:b_}{K:af}{mg:bE->Option aj}{base:cR}{x:bE}{st:iy}{f:aw}{fd:dR}{N ps:List bE}{k n:Nat}{us:List Ty}{u:Ty}{g:EvS}{M':List Md}(F:Fun K x x st f fd)(S:FnScope N ps (g7 st))(nO:us.length=ps.length)(hn:N.length=ps.length+n)
  (hb:∀(gr:aj) (A:bQ) (outer:List oe) (s:au) (H:Hp) (E:XK),Room k (A.deeper (jo x (g7 st) s.heap.objs.size f gr))->PSsX (a0H CX0 P w K mg base N x (g7 st) f gr A outer s H E).nox .i [] (us.map .own++aT n .dead) (v9 st) g M') (hu:u=.i:=by rfl) :
  FnOk P w K mg base CX0 (k+1) f fd ps (spD K ps.length (fnN us n g) u):=by
 subst hu;refine F.ok S (λvs H Q E h=>?_) (λgr A outer s H vs Q E hr h=>?_)
 ·obtain⟨ds,d,hl,_⟩:=h;exact hl
 obtain⟨ds,d,hl,hd,hm,q⟩:=h;obtain⟨t,p,r⟩:=(hb gr A outer s H E hr).out;refine⟨t,p,?_⟩;unfold fnN at hm;by_cases ha:argsOk us ds=true
 ·rw[aB ha]at hm;obtain⟨o,h1,h2⟩:=bnd hm;have e:L2.start N vs=vs.map xn++aT n xI:=by
   unfold L2.start;rw[show N.length-vs.length=n by lia]
  have S0:StR K (us.map .own++aT n .dead) (ds++aT n iB) (vs.map xn++aT n xI) H H []:=⟨⟨[],R8 ha hd n,bA,λa ha=>(nomatch ha)⟩,λa ha=>(nomatch ha),by rw[K6];exact Same.refl H⟩;cases o with
  |rt d'=>
   have kG:xn d'=xn d:=h2;cases kG
   rw[e];exact r _ (ds++aT n iB) _ H H [] (.rt d) S0 h1 λv H' fp o nd fr e=>q v H' fp e o nd fr
  |nx Z=>
   have kG:xn iB=xn d:=h2;cases kG
   rw[e];refine r _ (ds++aT n iB) _ H H [] (.nx Z) S0 h1 λσ' H' F' S'=>?_
   refine q .non H' [] (S'.prot.trans j5) ?_ bA λa ha=>(nomatch ha)
   simp only[Own];exact⟨trivial,by simp only[imm],den_none⟩
  |_=>cases h2
 ·rw[aJ ha]at hm;cases hm
def M9:∀{l:List α} {l':List β},fK R l l'->∀{j:Nat} {x:α},l[j]?=xn x->∃y,l'[j]?=xn y/\R x y:=by
 intro l l' h
 induction h with
 |nil=>intro j x e;simp at e
 |cons r _ ih=>
  intro j x e;cases j with
  |zero=>cases e;exact⟨_,rfl,r⟩
  |succ j=>exact ih (by simpa using e)
def a2i:∀{l:List α} {l':List β},fK R l l'->∀{j:Nat} {y:β},l'[j]?=xn y->∃x,l[j]?=xn x/\R x y:=by
 intro l l' h
 induction h with
 |nil=>intro j x e;simp at e
 |cons r _ ih=>
  intro j x e;cases j with
  |zero=>cases e;exact⟨_,rfl,r⟩
  |succ j=>exact ih (by simpa using e)
section
variable {X:Cx}{pins:List (aw×fY)}{σ:L2.St}{H:Hp}{s:au}{A:bQ}{E:aj->au->Prop}{a:aw}{es:List (D×V×V)}{o:fY}{ents:Array gX}{ep:Nat}{kt:Bool}{k:D}{kv:V}{key:aj}
def a1C(I:Inv X pins σ H s)(kk:keyOk kt k)(dk:Den X.K H kv k)(rk:RelV kv key):∃as,Reads s.heap key k as:=Den.reads I k (V4 _ kk.1) dk rk
def a1D(I:Inv X pins σ H s)(hu:A.units+10<dF)(kk:keyOk kt k)(dk:Den X.K H kv k)(rk:RelV kv key)(h:Q (hashD k) {s with toks:=s.toks+t9 k}):aX (aY X.prog X.w) A (pyHash key) Q E s:=by
 obtain⟨as,r⟩:=a1C I kk dk rk;exact a3c k kk.1 (by have:=kk.2.1;lia) r h
def a1E(I:Inv X pins σ H s)(hu:A.units+10<dF)(ho:s.heap.get? a=xn o)(hd:o.data=.dict ents ep)(hp:fK U1 es ents.toList)(hn:(es.map (·.1)).Nodup)(hk:∀e∈es,keyOk kt e.1/\Den X.K H e.2.1 e.1)
  (kk:keyOk kt k) (dk:Den X.K H kv k) (rk:RelV kv key) (jn:(∀e∈es,e.1≠k)->Q xI s) (jk:∀j e,es[j]?=xn e->e.1=k->Q (xn j) s) :
  aX (aY X.prog X.w) A (dictFind a key (hashD k)) Q E s:=by
 cases kt with
 |false=>
  obtain⟨i,rfl⟩:=kk.2.2.2 rfl;cases dk.int_inv
  obtain⟨t,rfl⟩:=rk;have ent:∀(j:Nat) (x:gX),ents.toList[j]?=xn x->∃e n u,es[j]?=xn e/\e.1=.int n/\x.key=.int n u/\x.hash=hashInt n:=λj x hx=>by
   obtain⟨e,he,h1,h2,_⟩:=a2i hp hx;obtain⟨k1,k2⟩:=hk e (br he);obtain⟨n,en⟩:=k1.2.2.2 rfl;rw[en]at k2 h1;have e2:=k2.int_inv;rw[e2]at h2;obtain⟨u,rE⟩:=h2;exact⟨e,n,u,he,en,rE,by simpa[hashD]using h1⟩
  show aX (aY X.prog X.w) A (dictFind a (.int i t) ((gP X.prog X.w).hash i)) Q E s;refine wpAny_dictFind_of (knd:=gP X.prog X.w) (k:=i) (by simp[gP,jJ]) ho hd (λx hx=>?_) ?_
  ·obtain⟨j,hj⟩:=cS.mp (iX.mpr hx);obtain⟨e,n,u,_,_,h3,h4⟩:=ent j x hj;exact⟨n,by rw[h3];simp[gP,jJ],h4⟩
  ·cases hf:ents.findIdx? λe=>(gP X.prog X.w).is i e.key with
   |none=>
    refine jn λe he fS=>?_
    obtain⟨j,hj⟩:=cS.mp he;obtain⟨x,hx,_⟩:=M9 hp hj;obtain⟨e',n,u,h1,h2,h3,_⟩:=ent j x hx;rw[hj]at h1;cases h1
    rw[fS]at h2;cases h2
    have:=Array.findIdx?_eq_none_iff.mp hf x (iX.mp (br hx));rw[h3]at this;simp[gP,jJ]at this
   |some j=>
    obtain⟨jv,uR,_⟩:=Array.findIdx?_eq_some_iff_getElem.mp hf;have hx:ents.toList[j]?=xn ents[j]:=by simp[jv]
    obtain⟨e,n,u,h1,h2,h3,_⟩:=ent j _ hx;have vk:n=i:=by
     rw[h3]at uR;simpa[gP,jJ]using uR
    subst vk;exact jk j e h1 h2
 |true=>
  obtain⟨ds,rfl⟩:=kk.2.2.1 rfl;obtain⟨p,uB,rfl,_,_⟩:=dk.tup_inv;cases (show key=bH p from rk)
  obtain⟨as,BK⟩:=a1C I kk (dk) (show RelV (.ref p) (.ref p) from rfl);have build:∀{es:List (D×V×V)} {l:List gX},fK U1 es l->(∀e∈es,keyOk true e.1/\Den X.K H e.2.1 e.1)->∃xs:List (D×aw×aj),l=xs.map (λx=>(⟨hashD x.1,.ref x.2.1,x.2.2⟩:gX))/\xs.map (·.1)=es.map (·.1)/\∀x∈xs,B6 x.1=true/\x.1.depth<=7/\∃as,Reads s.heap (.ref x.2.1) x.1 as:=by
   intro es l hp
   induction hp with
   |nil=>exact λ_=>⟨[],rfl,rfl,λx hx=>(nomatch hx)⟩
   |@cons e x es l r _ ih=>
    intro hk;obtain⟨xs,i1,i2,i3⟩:=ih λe he=>hk e (av _ he)
    obtain⟨k1,k2⟩:=hk e aK;obtain⟨as,rr⟩:=a1C I k1 k2 r.2.1;obtain⟨ds,ed⟩:=k1.2.2.1 rfl;have:∃q,x.key=.ref q:=by
     rw[ed]at rr;cases Ah:x.key with
     |ref q=>exact⟨q,rfl⟩
     |_=>rw[Ah]at rr;cases rr
    obtain⟨q,hq⟩:=this;refine⟨(e.1,q,x.val)::xs,?_,by rw[ax,ax,i2],λy hy=>?_⟩
    ·rw[ax,<-i1]
     congr 1;obtain⟨xh,xk,xv⟩:=x;simp only at hq;rw[show xh=hashD e.1 from r.1,hq]
    ·rcases aH.mp hy with z|z
     ·subst z;exact⟨k1.1,k1.2.1,as,by rw[hq]at rr;exact rr⟩
     ·exact i3 y z
  obtain⟨xs,x1,x2,x3⟩:=build hp hk;have idx:∀(j:Nat) (kk:D),(∃p,xs[j]?=xn (kk,p))↔∃e,es[j]?=xn e/\e.1=kk:=λj kk=>by
   have:(xs.map (·.1))[j]?=(es.map (·.1))[j]?:=by rw[x2]
   rw[aR,aR]at this
   constructor
   ·rintro⟨q,hq⟩;rw[hq]at this;cases he:es[j]? with
    |none=>rw[he]at this;cases this
    |some e=>rw[he]at this;exact⟨e,rfl,(aF this).symm⟩
   ·rintro⟨e,he,hk⟩;rw[he]at this;cases hx:xs[j]? with
    |none=>rw[hx]at this;cases this
    |some x=>
     rw[hx]at this;have e1:x.1=e.1:=aF this;exact⟨x.2,by rw[<-hk,<-e1]⟩
  refine @wpAny_dictFind_heap X.prog X.w D b0R (b2O X.prog X.w) A E s a p o ents ep xs (.tuple ds) Q (by show A.units+8<dF;lia) ⟨kk.1,kk.2.1,as,BK⟩ ho hd x1 x3 (by rw[x2];exact hn) (λh=>jn λe he fS=>?_) (λj q hj=>?_)
  ·obtain⟨j,hj⟩:=cS.mp he;obtain⟨q,hq⟩:=(idx j (.tuple ds)).mpr ⟨e,hj,fS⟩;exact h j q hq
  ·obtain⟨e,he,fS⟩:=(idx j (.tuple ds)).mp ⟨q,hj⟩;exact jk j e he fS
end
def x5(es:List (D×V×V))(k:D):Bool:=es.any λe=>aI e.1 k
def a0R(es:List (D×V×V))(k:D)(kv v:V):List (D×V×V):=if x5 es k then es.map λe=>if aI e.1 k then (e.1,e.2.1,v) else e else es++[(k,kv,v)]
section
variable {X:Cx}{pins:List (aw×fY)}{σ:L2.St}{H:Hp}{s:au}{A:bQ}{E:aj->au->Prop}{a:aw}{es:List (D×V×V)}{kt:Bool}{k:D}{kv v:V}{key val:aj}
def a8o(h:a5v (ks++[x])=false):a5v ks=false:=by
 cases ks with
 |nil=>rfl
 |cons e ks=>
  unfold a5v at h ⊢
  split at h
  ·cases h
  ·rename_i hn
   split
   ·rename_i heq
    cases heq
    exact absurd rfl (hn _)
   ·rfl
def a8p{x:D×V×V}(h:Q9 (es++[x])=false):Q9 es=false:=by
 rw[Q9,aN]at h;exact a8o h
def a4Q(I:Inv X pins σ H s)(h:H a=xn (g6 a es)):(a==dq)=false/\es.length<=a_/\(es.map (·.1)).Nodup/\∃o ents ep,s.heap.get? a=xn o/\o.ExactDict/\o.data=.dict ents ep/\fK U1 es ents.toList/\(Q9 es=false->ep=es.length):=
 (show ObjOk X.prog X.w H s.heap a (g6 a es) from I.hok a _ h).1
def b1i(I:Inv X pins σ H s)(h:H a=xn (g6 a es))(hL:Q9 es=false):(a==dq)=false/\es.length<=a_/\(es.map (·.1)).Nodup/\∃o ents,s.heap.get? a=xn o/\o.ExactDict/\o.data=.dict ents es.length/\fK U1 es ents.toList:=
 let⟨a1,a2,a3,o,ents,_,r1,r2,r3,r4,r5⟩:=a4Q I h;⟨a1,a2,a3,o,ents,r1,r2,r5 hL▸r3,r4⟩
def v5(I:Inv X pins σ H s)(h:H a=xn (g6 a es)):(a==dq)=false/\es.length<=a_/\(es.map (·.1)).Nodup/\∃o ents ep,s.heap.get? a=xn o/\o.ExactDict/\o.data=.dict ents ep/\fK U1 es ents.toList:=
 let⟨a1,a2,a3,o,ents,ep,r1,r2,r3,r4,_⟩:=a4Q I h;⟨a1,a2,a3,o,ents,ep,r1,r2,r3,r4⟩
def a6M(I:Inv X pins σ H s)(h:H a=xn (g6 a es)){o:fY}{ents:Array gX}{ep:Nat}(h1:s.heap.get? a=xn o)(h3:o.data=.dict ents ep)(hL:Q9 es=false):ep=es.length:=by
 obtain⟨_,_,_,o',oA,g1,_,g3,_⟩:=b1i I h hL;rw[h1]at g1;cases g1
 rw[h3]at g3
 injection g3
def o6(I:Inv X pins σ H s)(h:H a=xn (g6 a es)):s.TypeIs (.ref a) "dict":=by
 obtain⟨_,_,_,o,ents,ep,h1,h2,_⟩:=v5 I h;exact⟨o,h1,h2.1⟩
def a0S(I:Inv X pins σ H s)(h:H a=xn (g6 a es)):∀b,bH a=.ref b->∃ob,s.heap.get? b=xn ob/\ob.dict=xI:=λb q=>by
 cases q
 obtain⟨_,_,_,o,ents,ep,h1,h2,_⟩:=v5 I h;exact⟨o,h1,h2.2.1⟩
def a1F{P:bw}{w:b_}{H':Hp}{h':cR}(hs:(a==dq)=false)(hl:es.length<=a_)(hn:(es.map (·.1)).Nodup){o:fY}{ents:Array gX}{ep:Nat}(h1:h'.get? a=xn o)(h2:o.ExactDict)(h3:o.data=.dict ents ep)(he:Q9 es=false->ep=es.length)(h4:fK U1 es ents.toList):ObjOk P w H' h' a (g6 a es):=
 ⟨⟨hs,hl,hn,o,ents,ep,h1,h2,h3,h4,he⟩,⟨o,h1⟩,λx1 x2 ⟨a1,a2,a3,o',oA,qZ,b1,b2⟩ hk=>⟨a1,a2,a3,o',oA,qZ,hk _ b1,b2⟩⟩
structure KeysAt (X:Cx) (H:Hp) (kt:Bool) (es:List (D×V×V)) (k:D) (kv:V):Prop where
 keys:∀e∈es,keyOk kt e.1/\Den X.K H e.2.1 e.1
 key:keyOk kt k
 den:Den X.K H kv k
def KeysAt.eqv(K:KeysAt X H kt es k kv){e:D×V×V}(he:e∈es):aI e.1 k=true↔e.1=k:=D6 e.1 k (K.keys e he).1.1 K.key.1
def get_dict(I:Inv X pins σ H s)(hu:A.units+10<dF)(h:H a=xn (g6 a es))(K:KeysAt X H kt es k kv)(rk:RelV kv key) 
  (jn:x5 es k=false->∀s',Inv X pins σ H s'->Q xI s') (jk:∀e∈es,e.1=k->∀x s',Inv X pins σ H s'->RelV e.2.2 x->Q (xn x) s') :
  aX (aY X.prog X.w) A (uw a key) Q E s:=by
 obtain⟨_,_,hn,o,ents,ep,h1,h2,h3,h4⟩:=v5 I h;unfold uw
 try with_reducible refine dC ?_
 refine ae (a1D I hu K.key K.den rk (ae (a1E (s:={s with toks:=s.toks+t9 k}) (I.tok (s.toks+t9 k)) hu h1 h3 h4 hn K.keys K.key K.den rk ?_ ?_)))
 ·intro oy;refine aC (jn ?_ _ (I.tok _));unfold x5;rw[et];exact λe he hq=>oy e he ((K.eqv he).mp hq)
 ·intro j e he fS;obtain⟨x,hx,r⟩:=M9 h4 he;refine ae (gB (s:={s with toks:=s.toks+t9 k}) h1 h3 ?_);have:ents[j]?=xn x:=by rw[<-bP];exact hx
  rw[this];exact aC (jk e (br he) fS _ _ (I.tok _) r.2.2)
def a3m(hf:x5 es k=false):a0R es k kv v=es++[(k,kv,v)]:=by unfold a0R;rw[hf];rfl
def a8q{α β:Type}{R:α->β->Prop}{l:List α}{l':List β}(h:fK R l l'){x:α}{y:β}(r:R x y):fK R (l++[x]) (l'++[y]):=by
 induction h with
 |nil=>exact .cons r .nil
 |cons q _ ih=>exact .cons q ih
def b1j(K:KeysAt X H kt es k kv)(hn:(es.map (·.1)).Nodup)(hf:x5 es k=false):((es++[(k,kv,v)]).map (·.1)).Nodup:=by
 rw[aN,bN];refine⟨hn,by simp,λx hx y hy e=>?_⟩;simp only[ax,cW,ao]at hy;subst hy;subst e;obtain⟨e,he,rfl⟩:=aG.mp hx;unfold x5 at hf;rw[et]at hf;exact hf e he ((K.eqv he).mpr rfl)
def a4R(I:Inv X pins σ H s)(h:H a=xn (g6 a es))(K:KeysAt X H kt es k kv)(rk:RelV kv key)(rv:RelV v val)(hl:es.length<a_)(hf:x5 es k=false){t':Nat}{o:fY}{ents:Array gX}{ep:Nat}(h1:s.heap.get? a=xn o)(h2:o.ExactDict)(h3:o.data=.dict ents ep)(h4:fK U1 es ents.toList) :
  Inv X pins σ (upd H a (g6 a (es++[(k,kv,v)]))) {s with heap:=s.heap.update a (·.mapDictKeys (·.push ⟨hashD k,key,val⟩)),toks:=t'}:=by
 obtain⟨hs,_,hn,_⟩:=v5 I h;refine I.write (x:=a) (e:=a) (by rw[h];exact jK) (.inl rfl) (λb q hb z=>((fx ..).2 b hb).trans z) ⟨_,cU _ h1 (jW (nB h3 _))⟩ ?_;refine a1F hs (by simp;lia) (b1j K hn hf) (cU _ h1 (jW (nB h3 _))) (h2.mapDictKeys _) (nB h3 _) (λhL=>by rw[a6M I h h1 h3 (a8p hL),az];rfl) ?_;have:=a8q h4 (x:=(k,kv,v)) (y:=⟨hashD k,key,val⟩) ⟨rfl,rk,rv⟩;obtain⟨l⟩:=ents;simpa using this
def b1k(I:Inv X pins σ H s)(hu:A.units+10<dF)(h:H a=xn (g6 a es))(K:KeysAt X H kt es k kv)(rk:RelV kv key)(rv:RelV v val)(hl:es.length<a_){Q:aj->au->Prop}
  (jn:x5 es k=false->∀s',Inv X pins σ (upd H a (g6 a (es++[(k,kv,v)]))) s'->Q val s') (jk:∀e∈es,e.1=k->∀x s',Inv X pins σ H s'->RelV e.2.2 x->Q x s') :
  aX (aY X.prog X.w) A (wb a key val) Q E s:=by
 obtain⟨_,_,hn,o,ents,ep,h1,h2,h3,h4⟩:=v5 I h;have ku:ents.size<=a_:=by
  have:=gy h4;have e2:ents.toList.length=ents.size:=by simp
  lia
 unfold wb
 try with_reducible refine dC ?_
 refine ae (a1D I hu K.key K.den rk (ae (a1E (s:={s with toks:=s.toks+t9 k}) (I.tok (s.toks+t9 k)) hu h1 h3 h4 hn K.keys K.key K.den rk ?_ ?_)))
 ·intro oy;have hf:x5 es k=false:=by
   unfold x5;rw[et];exact λe he hq=>oy e he ((K.eqv he).mp hq)
  refine ae (iw (ae (wpAny_updateDictKeys (hz:=ku) (s:={s with toks:=s.toks+t9 k}) h1 h3 (aC (jn hf _ (a4R (t':=s.toks+t9 k) I h K rk rv hl hf h1 h2 h3 h4))))))
 ·intro j e he fS;obtain⟨x,hx,r⟩:=M9 h4 he;refine ae (gB (s:={s with toks:=s.toks+t9 k}) h1 h3 ?_);have:ents[j]?=xn x:=by rw[<-bP];exact hx
  rw[this];exact ae (iw (aC (jk e (br he) fS _ _ (I.tok (s.toks+t9 k)) r.2.2)))
def a8r(hp:fK U1 es l)(hn:(es.map (·.1)).Nodup)(hk:∀e∈es,aI e.1 k=true↔e.1=k)(rv:RelV v val):∀{j:Nat} {e:D×V×V},es[j]?=xn e->e.1=k->
  fK U1 (es.map λe=>if aI e.1 k then (e.1,e.2.1,v) else e) (l.modify j λx=>{x with val:=val}):=by
 induction hp with
 |nil=>intro j e he;simp at he
 |@cons e0 x es l r hp ih=>
  intro j e he fS;rw[ax,bV]at hn;have sP:∀e∈es,aI e.1 k=true↔e.1=k:=λe he=>hk e (av _ he)
  cases j with
  |zero=>
   cases he
   have h0:aI e0.1 k=true:=(hk _ aK).mpr fS;have jD:es.map (λe=>if aI e.1 k then (e.1,e.2.1,v) else e)=es:=by
    have:∀e'∈es,(if aI e'.1 k then (e'.1,e'.2.1,v) else e')=e':=λe' lI=>by
     rw[aJ];intro q;exact hn.1 (by rw[fS,<-(sP e' lI).mp q];exact cH lI)
    rw[bG this,tG]
   rw[ax,aB h0,jD];exact .cons ⟨r.1,r.2.1,rv⟩ hp
  |succ j=>
   have lI:es[j]?=xn e:=by simpa using he
   have gM:¬ aI e0.1 k=true:=λq=>hn.1 (by rw[(hk _ aK).mp q,<-fS];exact cH (br lI))
   rw[ax,aJ gM];exact .cons r (ih hn.2 sP lI fS)
def a3n{es:List (D×V×V)}:(es.map λe=>if aI e.1 k then (e.1,e.2.1,v) else e).map (·.1)=es.map (·.1):=by
 rw[bC];refine bG λe _=>?_
 show (if aI e.1 k then (e.1,e.2.1,v) else e).1=e.1
 split<;>rfl
def set_dict(I:Inv X pins σ H s)(hu:A.units+10<dF)(h:H a=xn (g6 a es))(K:KeysAt X H kt es k kv)(rk:RelV kv key)(rv:RelV v val)(hl:es.length<a_){Q:Unit->au->Prop}
  (hQ:∀s',Inv X pins σ (upd H a (g6 a (a0R es k kv v))) s'->Q () s'):aX (aY X.prog X.w) A (dictSet a key val) Q E s:=by
 obtain⟨hs,_,hn,o,ents,ep,h1,h2,h3,h4⟩:=v5 I h;have ku:ents.size<=a_:=by
  have:=gy h4;have e2:ents.toList.length=ents.size:=by simp
  lia
 unfold dictSet
 try with_reducible refine dC ?_
 refine ae (a1D I hu K.key K.den rk ?_);unfold dictSetHashed
 try with_reducible refine dC ?_
 refine ae (a1E (s:={s with toks:=s.toks+t9 k}) (I.tok (s.toks+t9 k)) hu h1 h3 h4 hn K.keys K.key K.den rk ?_ ?_)
 ·intro oy;have hf:x5 es k=false:=by
   unfold x5;rw[et];exact λe he hq=>oy e he ((K.eqv he).mp hq)
  rw[a3m hf]at hQ;exact ae (iw (wpAny_updateDictKeys (hz:=ku) (s:={s with toks:=s.toks+t9 k}) h1 h3 (hQ _ (a4R (t':=s.toks+t9 k) I h K rk rv hl hf h1 h2 h3 h4))))
 ·intro j e he fS;have hf:x5 es k=true:=by
   unfold x5;rw[n_];exact⟨e,br he,(K.eqv (br he)).mpr fS⟩
  have qZ:a0R es k kv v=es.map λe=>if aI e.1 k then (e.1,e.2.1,v) else e:=by unfold a0R;rw[hf];rfl
  rw[qZ]at hQ;refine ae (iw (ae (wpAny_updateDict (s:={s with toks:=s.toks+t9 k}) h1 h3 (wpAny_point (hQ _ ?_)))));refine I.write (x:=a) (e:=a) (t':=s.toks+t9 k) (by rw[h];exact jK) (.inl rfl) (λb q hb z=>((fx ..).2 b hb).trans z) ⟨_,cU _ h1 (jW (rm h3 _))⟩ ?_;refine a1F hs (by rw[ai];lia) (by rw[a3n];exact hn) (cU _ h1 (jW (rm h3 _))) (h2.mapDict _) (rm h3 _) (λhL=>by rw[Q9,a3n]at hL;rw[a6M I h h1 h3 hL,ai]) ?_;have:=a8r h4 hn (λe he=>K.eqv he) rv he fS;obtain⟨l⟩:=ents;simpa using this
end
def b3t(i:Expr):Prop:=∀ov iv,rB i false ov iv=operate [ov,iv] (pW ov iv)
open PyProof.Rows in
def c2E{prog:bw}{w:b_}{A:bQ}{E:aj->au->Prop}{s:au}{env:oe}{value slice:Expr}{pos:fM}{T id:String}{Q:aj->au->Prop}
  (hl:typeLookup (.type T) "__getitem__"=pure (xn (.builtin id))) (hs:b3t slice)
  (h:aX (aY prog w) A (cK value env) (λo s₁=>aX (aY prog w) A (cK slice env) (λi s₂=>s₂.TypeIs o T/\aX (aY prog w) A (pW o i) Q E s₂) E s₁) E s) :
  aX (aY prog w) A (cK (.Subscript value slice pos) env) Q E s:=by
 refine PyProof.Rows.Subscript_ (d_ h (λo s₁ h₁=>d_ h₁ (λi s₂ h₂=>?_) λ_ _ x=>x) λ_ _ x=>x);obtain⟨hT,h₂⟩:=h₂;unfold subscriptTail;refine ae ?_;rw[getitemInPython_of_ne hT.not_modules];refine ae (gu hT hl ?_);have fin:aX (aY prog w) A (rB slice false o i) (λr s₃=>aX (aY prog w) A (letTemporaryGo value o r >>= λ_=>pure r) Q E s₃) E s₂:=by
  rw[hs o i];exact wpAny_operating (d_ h₂ (λr s₃ h₃=>ae (wpAny_letTemporaryGo (aC h₃))) λ_ _ x=>x)
 first
  |exact aC (ae fin)
  |exact ae (aC (ae fin))
  |exact ae fin
section
variable {X:Cx}{pins:List (aw×fY)}{σ:L2.St}{H:Hp}{s:au}{A:bQ}{E:aj->au->Prop}{a:aw}{es:List (D×V×V)}{kt:Bool}{k:D}{kv v:V}{key val:aj}
def a8s(hu:A.units+12<dF)(I:Inv X pins σ H s)(h:H a=xn (g6 a es))(K:KeysAt X H kt es k kv)(rk:RelV kv key)(hh:x5 es k=true)
  (hQ:∀e∈es,e.1=k->∀x s',Inv X pins σ H s'->RelV e.2.2 x->Q x s'):aX (aY X.prog X.w) A (pW (.ref a) key) Q E s:=by
 have hT:=o6 I h;unfold pW
 try with_reducible refine dC ?_
 refine ae (wpAny_sequenceKey hT (by decide) ?_);refine ae (fW (name:=cG "__getitem__") hT slot_dict_getitem (dN slot_dict_getitem hT entry_dict_getitem ?_ (args_dict_getitem _ _)));show aX _ _ (uw a key >>= _) _ _ s;refine ae (get_dict (A:=A.in1) I (by show A.units+1+10<dF;lia) h K rk (λhf=>by rw[hh]at hf;cases hf) λe he fS x s' I' r=>?_);exact aC ⟨x,rfl,aC (hQ e he fS x s' I' r)⟩
def a6N(hu:A.units+12<dF)(I:Inv X pins σ H s)(h:H a=xn (g6 a es))(K:KeysAt X H kt es k kv)(rk:RelV kv key)
  (hQ:∀s',Inv X pins σ H s'->Q (x5 es k) s'):aX (aY X.prog X.w) A (contains (.ref a) key) Q E s:=by
 have hT:=o6 I h;obtain⟨hd,_⟩:=v5 I h;unfold contains
 try with_reducible refine dC ?_
 refine ae (gu hT slot_dict_contains.lookup ?_);show aX _ _ (if (xn (aj.builtin "dict.__contains__")==xn bt)=true then _ else _) _ E s;rw[aJ (by rw[beq_builtin_none];exact cj)];refine ae (wpAny_callSpecialUnlessNone?_slot (name:=cG "__contains__") hT slot_dict_contains (dN slot_dict_contains hT entry_dict_contains ?_ (args_dict_contains _ _)));show aX _ _ (uw a key >>= _) _ _ s;refine ae (get_dict (A:=A.in1) I (by show A.units+1+10<dF;lia) h K rk (λhf s' I'=>?_) λe he fS x s' I' r=>?_)
 ·rw[hf]at hQ;show aX _ _ (Builtin.Dict.pendingKey? a key >>= _) _ _ _;exact ae (wpAny_pendingKey_other hd (aC ⟨_,rfl,eF (hQ s' I')⟩))
 ·have hf:x5 es k=true:=by
   unfold x5;rw[n_];exact⟨e,he,(K.eqv he).mpr fS⟩
  rw[hf]at hQ;show aX _ _ (ret (.bool true)) _ _ _;exact aC ⟨_,rfl,eF (hQ s' I')⟩
def b3u(hu:A.units+12<dF)(I:Inv X pins σ H s)(h:H a=xn (g6 a es))(K:KeysAt X H kt es k kv)(rk:RelV kv key)
  (hQ:∀s',Inv X pins σ H s'->Q (.bool (!x5 es k)) s'):aX (aY X.prog X.w) A (cA .NotIn key (.ref a)) Q E s:=by
 show aX _ _ (do return .bool (!(<-contains (.ref a) key))) Q E s;exact ae (a6N hu I h K rk λs' I'=>aC (hQ s' I'))
def a8t(hu:A.units+12<dF)(I:Inv X pins σ H s)(h:H a=xn (g6 a es))(K:KeysAt X H kt es k kv)(rk:RelV kv key)(rv:RelV v val)(hl:es.length<a_)
  (hQ:∀s',Inv X pins σ (upd H a (g6 a (a0R es k kv v))) s'->Q () s'):aX (aY X.prog X.w) A (setItem (.ref a) key val) Q E s:=by
 have hT:=o6 I h;unfold setItem
 try with_reducible refine dC ?_
 refine ae (wpAny_sequenceKey hT (by decide) ?_);refine ae (fW (name:=cG "__setitem__") hT slot_dict_setitem (dN slot_dict_setitem hT entry_dict_setitem ?_ (args_dict_setitem _ _ _)));show aX _ _ (Builtin.Dict.notOrdered "__setitem__" ⟨[.ref a,key,val],[]⟩ >>= _) _ _ s;refine ae (mG hT ?_);show aX _ _ (dictSet a key val >>= _) _ _ s;exact ae (set_dict (A:=A.in1) I (by show A.units+1+10<dF;lia) h K rk rv hl λs' I'=>aC ⟨.none,rfl,aC (hQ s' I')⟩)
def b9q(hu:A.units+12<dF)(I:Inv X pins σ H s)(h:H a=xn (g6 a es))(K:KeysAt X H kt es k kv)(rk:RelV kv key)
  (jn:x5 es k=false->∀s',Inv X pins σ H s'->Q .none s') (jk:∀e∈es,e.1=k->∀x s',Inv X pins σ H s'->RelV e.2.2 x->Q x s'):aX (aY X.prog X.w) A (call (.builtin "dict.get") [.ref a,key]) Q E s:=by
 have hT:=o6 I h;obtain⟨hd,_⟩:=v5 I h;refine dN F.slot_dict_get hT F.entry_dict_get ?_ (F.args_dict_get_2 _ _);show aX _ _ (uw a key >>= _) _ _ s;refine ae (get_dict (A:=A.in1) I (by show A.units+1+10<dF;lia) h K rk (λhf s' I'=>?_) λe he fS x s' I' r=>?_)
 ·show aX _ _ (Builtin.Dict.missed a key >>= _) _ _ _;exact ae (wpAny_missed_other hd (aC ⟨.none,rfl,jn hf s' I'⟩))
 ·exact aC ⟨x,rfl,jk e he fS x s' I' r⟩
def b6g(hu:A.units+12<dF)(I:Inv X pins σ H s)(h:H a=xn (g6 a es))(K:KeysAt X H kt es k kv)(rk:RelV kv key)(rv:RelV v val)(hl:es.length<a_)
  (jn:x5 es k=false->∀s',Inv X pins σ (upd H a (g6 a (es++[(k,kv,v)]))) s'->Q val s') (jk:∀e∈es,e.1=k->∀x s',Inv X pins σ H s'->RelV e.2.2 x->Q x s') :
  aX (aY X.prog X.w) A (call (.builtin "dict.setdefault") [.ref a,key,val]) Q E s:=by
 have hT:=o6 I h;obtain⟨hd,_⟩:=v5 I h;refine dN F.slot_dict_setdefault hT F.entry_dict_setdefault ?_ (F.args_dict_setdefault_3 _ _ _);unfold Builtin.«dict.setdefault»;refine ae ?_;unfold Builtin.Dict.keyAndDefault;refine ae (mG hT ?_);show aX _ _ (pure (a,key,xn val)) _ _ s;refine aC ?_;show aX _ _ (if (a==dq)=true then _ else (wb a key val >>= _)) _ _ s;rw[aJ (by rw[hd];exact cj)];exact ae (b1k (A:=A.in1) I (by show A.units+1+10<dF;lia) h K rk rv hl (λhf s' I'=>aC ⟨_,rfl,jn hf s' I'⟩) λe he fS x s' I' r=>aC ⟨_,rfl,jk e he fS x s' I' r⟩)
def b9r(I:Inv X pins σ H s)(h:H a=xn (g6 a es))(hQ:∀t s',Inv X pins σ H s'->Q (.int es.length t) s'):aX (aY X.prog X.w) A (call (.builtin "len") [.ref a]) Q E s:=by
 have hT:=o6 I h;obtain⟨hd,hl,_,o,ents,ep,h1,h2,h3,h4⟩:=v5 I h;have ku:ents.size=es.length:=by
  have:=gy h4;have e2:ents.toList.length=ents.size:=by simp
  lia
 have rH:(es.length:Int)<2^63:=by
  have:a_<2^62:=by decide
  lia
 refine Calls.call_function_entry kind_len plain_len entry_len (args_len1 _) ?_;unfold Builtin.«len»;refine ae (m:=oneArg "len" _) (aC ?_);refine ae (m:=callSpecial? (.ref a) (cG "__len__")) (fW (name:=cG "__len__") hT tH (dN tH hT F.entry_dict_len ?_ (F.args_dict_len_1 _)));show aX _ _ (dictSize a >>= _) _ _ s;unfold dictSize;refine ae (ae (gB h1 h3 (aC ?_)));show aX _ _ (Builtin.Dict.pendingCount a >>= _) _ _ s;refine ae (wpAny_pendingCount_other hd ?_);refine wpAny_ret_mkInt ?_;rw[Nat.add_zero,ku];refine ae (dC (aC ?_));refine ae (rA ?_);show aX _ _ (if ((es.length:Nat):Int)<0 then _ else _) _ _ _;rw[aJ (by lia)];show aX _ _ (if ((es.length:Nat):Int)≥2^63 then _ else _) _ _ _;rw[aJ (by lia)];exact ae (wpAny_mkInt (aC ⟨_,rfl,hQ _ _ (I.tok _)⟩))
end
def F9(kvs:List (D×D))(k:D):Bool:=kvs.any λp=>aI p.1 k
def p9(kvs:List (D×D))(k:D):Option D:=(kvs.find? λp=>aI p.1 k).map (·.2)
def K4(kvs:List (D×D))(k d:D):List (D×D):=if F9 kvs k then kvs.map λp=>if aI p.1 k then (p.1,d) else p else kvs++[(k,d)]
def o8(kt:Bool)(k:D):Bool:=B6 k&&decide (k.depth<=7)&&match k with
 |.tuple _=>kt
 |.int _=>!kt
 |_=>false
def E4(h:o8 kt k=true):keyOk kt k:=by
 unfold o8 at h;rw[aD,aD]at h;refine⟨h.1.1,bx h.1.2,λe=>?_,λe=>?_⟩
 ·subst e;cases k with
  |tuple ds=>exact⟨ds,rfl⟩
  |int i=>have:=h.2;simp at this
  |_=>have:=h.2;simp at this
 ·subst e;cases k with
  |int i=>exact⟨i,rfl⟩
  |tuple ds=>have:=h.2;simp at this
  |_=>have:=h.2;simp at this
def dIn(neg kt:Bool):D->D->Option D
 |k,.dict kvs=>if o8 kt k then xn (.bool (neg !=F9 kvs k)) else xI
 |_,_=>xI
def a5L(kt:Bool):D->D->Option D
 |.dict kvs,k=>if o8 kt k then p9 kvs k else xI
 |_,_=>xI
def a3o(kt:Bool):D->D->Option D
 |.dict kvs,k=>if o8 kt k then xn ((p9 kvs k).getD .none) else xI
 |_,_=>xI
noncomputable def a9J:List D->Option D
 |[.dict kvs]=>xn (.int kvs.length)
 |_=>xI
theorem N0:∀{es:List (D×V×V)} {ds:List D},ds.length=es.length->F9 ((es.map (·.1)).zip ds) k=x5 es k
 |[],ds,_=>by simp[F9,x5]
 |e::es,[],h=>by simp at h
 |e::es,d::ds,h=>by
  have ih:=N0 (k:=k) (es:=es) (ds:=ds) (by simpa using h);unfold F9 x5 at ih ⊢;simp only[ax,dt,List.any_cons,ih]
theorem a3p:∀{es:List (D×V×V)} {ds:List D} {j:Nat} {e:D×V×V} {d:D},ds.length=es.length->(∀e∈es,aI e.1 k=true↔e.1=k)->(es.map (·.1)).Nodup->es[j]?=xn e->e.1=k->ds[j]?=xn d->p9 ((es.map (·.1)).zip ds) k=xn d
 |[],ds,j,e,d,_,_,_,he,_,_=>by simp at he
 |e0::es,[],j,e,d,h,_,_,_,_,_=>by simp at h
 |e0::es,d0::ds,0,e,d,h,hk,_,he,fS,hd=>by
  cases he
  cases hd
  have:aI e0.1 k=true:=(hk _ aK).mpr fS;simp[p9,this]
 |e0::es,d0::ds,j+1,e,d,h,hk,hn,he,fS,hd=>by
  rw[ax,bV]at hn;have lI:es[j]?=xn e:=by simpa using he
  have jR:ds[j]?=xn d:=by simpa using hd
  have ih:=a3p (k:=k) (by simpa using h) (λe he=>hk e (av _ he)) hn.2 lI fS jR;have gM:aI e0.1 k=false:=by
   cases q:aI e0.1 k with
   |false=>rfl
   |true=>exact absurd (by rw[(hk _ aK).mp q,<-fS];exact cH (br lI)) hn.1
  unfold p9 at ih ⊢;simp only[ax,dt,fZ,gM];exact ih
def P5(h:F9 kvs k=false):p9 kvs k=xI:=by
 unfold F9 at h;rw[et]at h;unfold p9;rw[mU.mpr λp hp=>by simpa using h p hp];rfl
def a6O(h:p9 kvs k=xn d):F9 kvs k=true:=by
 cases q:F9 kvs k with
 |true=>rfl
 |false=>rw[P5 q]at h;cases h
def b1l(h:F9 kvs k=false):K4 kvs k d=kvs++[(k,d)]:=by unfold K4;rw[h];rfl
def a6P{es:List (D×V×V)}{ds:List D}{k d:D}{kv v:V}(hl:ds.length=es.length):((es++[(k,kv,v)]).map (·.1)).zip (ds++[d])=(es.map (·.1)).zip ds++[(k,d)]:=by
 rw[aN,List.zip_append (by rw[ai];exact hl.symm)];rfl
theorem a2j{v:V}:∀{es:List (D×V×V)} {ds:List D} {j:Nat} {e:D×V×V},ds.length=es.length->(∀e∈es,aI e.1 k=true↔e.1=k)->(es.map (·.1)).Nodup->es[j]?=xn e->e.1=k->
  ((es.map (·.1)).zip ds).map (λp=>if aI p.1 k then (p.1,d) else p)=(es.map (·.1)).zip (ds.set j d)
 |[],ds,j,e,_,_,_,he,_=>by simp at he
 |e0::es,[],j,e,h,_,_,_,_=>by simp at h
 |e0::es,d0::ds,0,e,h,hk,hn,he,fS=>by
  cases he
  rw[ax,bV]at hn;have h0:aI e0.1 k=true:=(hk _ aK).mpr fS;have jD:((es.map (·.1)).zip ds).map (λp=>if aI p.1 k then (p.1,d) else p)=(es.map (·.1)).zip ds:=by
   have:∀p∈(es.map (·.1)).zip ds,(if aI p.1 k then (p.1,d) else p)=p:=λp hp=>by
    rw[aJ];intro q;have hm:=(jh hp).1;obtain⟨e',lI,hq⟩:=aG.mp hm;have Cs:e'.1=p.1:=hq;rw[<-Cs]at q;exact hn.1 (by rw[fS,<-(hk e' (av _ lI)).mp q];exact cH lI)
   rw[bG this,tG]
  simp only[ax,dt,mT,aB h0,jD]
 |e0::es,d0::ds,j+1,e,h,hk,hn,he,fS=>by
  rw[ax,bV]at hn;have lI:es[j]?=xn e:=by simpa using he
  have ih:=a2j (k:=k) (d:=d) (v:=v) (ds:=ds) (by simpa using h) (λe he=>hk e (av _ he)) hn.2 lI fS;have gM:¬ aI e0.1 k=true:=λq=>hn.1 (by rw[(hk _ aK).mp q,<-fS];exact cH (br lI))
  simp only[ax,dt,fU,aJ gM,ih]
section
variable {K:af}{H:Hp}{F:List aw}
theorem Own.dict(h:Own K H F (.d kt u) v d fp):∃a es ds fs,v=.ref a/\H a=xn (g6 a es)/\d=.dict ((es.map (·.1)).zip ds)/\fp=a::fs/\(∀e∈es,keyOk kt e.1/\Den K (cut H F) e.2.1 e.1)/\ListAll (Own K H F u) (es.map (·.2.2)) ds fs/\ds.length=es.length/\(es.map (·.1)).Nodup:=by
 simp only[Own]at h;obtain⟨a,es,ds,fs,h1,h2,h3,h4,h5,h6⟩:=h;exact⟨a,es,ds,fs,h1,h2,h3,h4,h5.2,h6,by have:=h6.length;rw[ai]at this;exact this.symm,h5.1⟩
end
section
variable {X:Cx}{M:List Md}{a b e:Expr}{fa fb:EvE}{ca cb:Cat}{kt:Bool}{u:Ty}{pos:fM}
def keysAt(h:∀e∈es,keyOk kt e.1/\Den X.K (cut H F) e.2.1 e.1)(hk:o8 kt k=true)(hd:Den X.K H kv k):KeysAt X H kt es k kv:=
 ⟨λe he=>⟨(h e he).1,(h e he).2.up j5⟩,E4 hk,hd⟩
def b6h(X:Cx)(neg:Bool):R2:=λx y H Q=>∃a es kt k,y=.ref a/\H a=xn (g6 a es)/\KeysAt X H kt es k x/\Q (.bl (neg !=x5 es k)) H
def b1m(hu:X.A.units+64<dF):OpR X (cA .NotIn) (b6h X true):=by
 intro pins s σ H x y v w Q I rx ry h;obtain⟨a,es,kt,k,rfl,hH,K,q⟩:=h;cases (show w=bH a from ry)
 exact b3u (by lia) I hH K rx λs' I'=>⟨.bl _,H,I',rfl,by simpa using q⟩
def b3v(h:dIn neg kt k d=xn r):∃kvs,d=.dict kvs/\o8 kt k=true/\r=.bool (neg !=F9 kvs k):=by
 cases d with
 |dict kvs=>
  have h':(if o8 kt k then xn (cV (neg !=F9 kvs k)) else xI)=xn r:=h;by_cases c:o8 kt k=true
  ·rw[aB c]at h';exact⟨kvs,rfl,c,(aF h').symm⟩
  ·rw[aJ c]at h';cases h'
 |_=>cases h
def b6i(ho:OpR X (cA op) (b6h X neg))(ha:PX X M a fa ca)(hb:PX X M b fb (.bor (.d kt u))){Z:List D}(S:StE X.K M Z σ H P F)(e1:Same H H1)(e2:Same H1 H2)
  (r1:ResR X.K ca H H1 F v k) (r2:ResR X.K (.bor (.d kt u)) H1 H2 F w d) (hr:dIn neg kt k d=xn r) (q:Q (.bl (match r with|.bool b=>b|_=>false)) H2):b6h X neg v w H2 Q:=by
 obtain⟨kvs,rfl,hk,rfl⟩:=b3v hr;obtain⟨fp,o,_⟩:=r2;obtain⟨p,es,ds,fs,rfl,hH,hd,_,h5,_,hl,_⟩:=o.dict;cases hd
 refine⟨p,es,kt,k,rfl,hH,keysAt h5 hk (r1.den.up e2),?_⟩;rw[<-N0 hl];exact q
def b9s(ho:OpR X (cA op) (b6h X neg))(ha:PX X M a fa ca)(hb:PX X M b fb (.bor (.d kt u)))(hm:ie op b=false:=by first|exact a7Q _|with_unfolding_all rfl):PTX X M (.Compare a [op] [b] pos) (tB (e2 (dIn neg kt) fa fb)):=by
 obtain⟨ta,pa,qa⟩:=ha.out;obtain⟨tb,pb,qb⟩:=hb.out;refine .mk ⟨_,a9q ho pa pb hm,λZ σ H P F k Q S hf q=>?_⟩;obtain⟨d,hf,hk⟩:=bnd hf;cases L8 hk
 obtain⟨x,y,h1,h2,h3⟩:=D7 hf;exact qa Z σ H P F x _ S h1 λv H1 e1 r1=>qb Z σ H1 P F y _ (S.grow e1) h2 λw H2 e2 r2=>b6i ho ha hb S e1 e2 r1 r2 h3 ⟨k,rfl,q H2 (e1.trans e2)⟩
def c2F(X:Cx)(td ty:TE):TE:=λσ H Q=>td σ H λx H1=>ty σ H1 λy H2=>∃a es kt k,x=.ref a/\H2 a=xn (g6 a es)/\KeysAt X H2 kt es k y/\x5 es k=true/\∀e∈es,e.1=k->Q e.2.2 H2
def b9t(hu:X.A.units+64<dF)(ho:PE X a td)(hi:PE X b ty)(hs:b3t b):PE X (.Subscript a b pos) (c2F X td ty):=by
 intro pins s σ H Q I h;refine c2E PySem.F.slot_dict_getitem.lookup hs (L2.thn (ho pins s σ H _ I h) λu s1 ⟨x,H1,I1,rx,q1⟩=>L2.thn (hi pins s1 σ H1 _ I1 q1) λiv s2 ⟨y,H2,I2,ry,p,es,kt,k,ex,hH,K,hh,q2⟩=>?_);subst ex;obtain rfl:u=bH p:=rx;exact⟨o6 I2 hH,a8s (by lia) I2 hH K ry hh λe he fS x s3 I3 r3=>⟨e.2.2,H2,I3,r3,q2 e he fS⟩⟩
def b1n(h:a5L kt d k=xn r):∃kvs,d=.dict kvs/\o8 kt k=true/\p9 kvs k=xn r:=by
 cases d with
 |dict kvs=>
  have h':(if o8 kt k then p9 kvs k else xI)=xn r:=h;by_cases c:o8 kt k=true
  ·rw[aB c]at h';exact⟨kvs,rfl,c,h'⟩
  ·rw[aJ c]at h';cases h'
 |_=>cases h
def a8u{es:List (D×V×V)}{ds:List D}{e:D×V×V}(h6:ListAll (Own X.K H F u) (es.map (·.2.2)) ds fs)(hl:ds.length=es.length)(hn:(es.map (·.1)).Nodup)(K:KeysAt X H kt es k kv)(he:e∈es)(fS:e.1=k) :
  ∃(j:Nat) (d:D) (f:List aw),es[j]?=xn e/\ds[j]?=xn d/\p9 ((es.map (·.1)).zip ds) k=xn d/\Own X.K H F u e.2.2 d f/\∀x∈f,x∈fs:=by
 obtain⟨j,hj⟩:=cS.mp he;have jv:j<ds.length:=by rw[hl];exact (aL.mp hj).1
 obtain⟨w,f,pre,post,z1,z2,z3,_⟩:=h6.at_ (ab jv);rw[aR,hj]at z1;cases z1
 refine⟨j,ds[j],f,hj,ab jv,a3p hl (λe he=>K.eqv he) hn hj fS (ab jv),z2,λx hx=>?_⟩;rw[z3];exact ah _ (ak _ hx)
end
def a5M:Ty->Bool
 |.i=>true
 |.f=>true
 |.l _=>true
 |_=>false
def a6Q:∀{u:Ty},a5M u=true->Own K H F u .non .none []
 |.i,_=>by simp only[Own];exact⟨trivial,by simp only[imm],den_none⟩
 |.f,_=>by simp only[Own];exact⟨trivial,den_none⟩
 |.l _,_=>by simp only[Own];exact .inl ⟨trivial,by simp only[imm],den_none⟩
 |.tp _,h=>nomatch h
 |.d _ _,h=>nomatch h
section
variable {X:Cx}{M:List Md}{a b e o:Expr}{es:List Expr}{fa fb:EvE}{ca cb:Cat}{kt:Bool}{u:Ty}{pos apos cF:fM}{to:TE}{t:TA}{name:bE}{id:String}{r:V->List V->Hp->VK->Prop}
def b9u(hu:X.A.units+64<dF)(ha:PX X M a fa (.bor (.d kt u)))(hb:PX X M b fb cb)(hs:b3t b:=by exact λ_ _=>rfl):PX X M (.Subscript a b pos) (e2 (a5L kt) fa fb) (.bor u):=by
 obtain⟨ta,pa,qa⟩:=ha.out;obtain⟨tb,pb,qb⟩:=hb.out;refine .mk ⟨_,b9t hu pa pb hs,λZ σ H P F d Q S hf q=>?_⟩;obtain⟨x,y,h1,h2,h3⟩:=D7 hf;obtain⟨kvs,rfl,hk,hg⟩:=b1n h3;refine qa Z σ H P F _ _ S h1 λv H1 e1 ⟨fp,o,sub⟩=>qb Z σ H1 P F y _ (S.grow e1) h2 λw H2 e2 r2=>?_
 obtain⟨p,es,ds,fs,rfl,hH,hd,rfl,h5,h6,hl,hn⟩:=(o.grow e2).dict;cases hd
 have K:=keysAt (X:=X) h5 hk r2.den;refine⟨p,es,kt,y,rfl,hH,K,by rw[<-N0 hl];exact a6O hg,λe he fS=>?_⟩;obtain⟨j,d',f,_,_,g',o',s'⟩:=a8u h6 hl hn K he fS;rw[hg]at g';cases g'
 exact q _ H2 (e1.trans e2) ⟨f,o',λx hx=>sub x (av _ (s' x hx))⟩
def c2G(r:V->List V->Hp->VK->Prop)(to:TE)(t:TA):TE:=λσ H Q=>to σ H λx H1=>(∃p es,x=.ref p/\H1 p=xn (g6 p es))/\t σ H1 λxs H2=>r x xs H2 Q
def a5N(slot:Slot "dict" name id)(yb:typeOf (.builtin id)=pure (.type "method_descriptor"))(hm:MtR X id r)(ho:PE X o to)(ha:PA X (e::es) t)
  (fm:dM o name X.env (cK o X.env)=cK o X.env:=by rfl)
  (ic:((cB cF (ar (e::es) X.env)).all (λx=>!x.1)&&(eK cF (dh [] X.env)).all (λx=>x.1.isSome)
   && decide ((e::es).length+([]:List eB).length+(if ([]:List eB).isEmpty then 0 else 1)<30))=true:=by rfl)
  (fg:(apos.endLine==cF.line)=true:=by rfl) (hs:ar (e::es) X.env=(false,cK e X.env)::ar es X.env:=by rfl) (dZ:(cB cF (ar es X.env)).any (·.1)=false:=by rfl) :
  PE X (.Call (.Attribute o name apos) (e::es) [] cF) (c2G r to t):=by
 intro pins s σ H Q I h;refine By fm ic fg rfl (L2.thn (ho pins s σ H _ I h) λv s1 ⟨x,H1,I1,r1,⟨p,FE,ex,hH⟩,q1⟩=>?_);subst ex;obtain rfl:v=bH p:=r1;refine⟨"dict",id,rY,slot,yb,o6 I1 hH,a0S I1 hH,?_⟩;have hA:=ha cF pins s1 σ H1 _ I1 q1;rw[hs]at hA ⊢;refine mr (by show (false||(cB cF (ar es X.env)).any (·.1))=false;rw[dZ]<;>rfl) (nF ?_);exact L2.thn hA λus s2 ⟨vs,H2,I2,r2,q2⟩=>hm pins s2 σ H2 (.ref p) vs (.ref p) us Q I2 rfl r2 q2
def b7T(X:Cx):V->List V->Hp->VK->Prop:=λx xs H Q=>∃p es kt k y,x=.ref p/\xs=[y]/\H p=xn (g6 p es)/\KeysAt X H kt es k y/\(x5 es k=false->Q .non H)/\∀e∈es,e.1=k->Q e.2.2 H
def b3w(hu:X.A.units+64<dF):MtR X "dict.get" (b7T X):=by
 intro pins s σ H x xs v us Q I rx rv h;obtain⟨p,es,kt,k,y,rfl,rfl,hH,K,q1,q2⟩:=h;cases (show v=bH p from rx)
 obtain⟨w,rfl,rw⟩:=rv.one;exact b9q (by lia) I hH K rw (λhf s' I'=>⟨.non,H,I',rfl,q1 hf⟩) λe he fS x s' I' r'=>⟨e.2.2,H,I',r',q2 e he fS⟩
def a8v{d k r:D}(h:a3o kt d k=xn r):∃kvs,d=.dict kvs/\o8 kt k=true/\r=(p9 kvs k).getD .none:=by
 cases d with
 |dict kvs=>
  have h':(if o8 kt k then xn ((p9 kvs k).getD .none) else xI)=xn r:=h;by_cases c:o8 kt k=true
  ·rw[aB c]at h';exact⟨kvs,rfl,c,(aF h').symm⟩
  ·rw[aJ c]at h';cases h'
 |_=>cases h
def b9v(hu:X.A.units+64<dF)(ha:PX X M a fa (.bor (.d kt u)))(hb:PX X M b fb cb)(oy:a5M u=true:=by rfl)(fm:dM a "get" X.env (cK a X.env)=cK a X.env:=by rfl)
  (ic:((cB cF (ar [b] X.env)).all (λx=>!x.1)&&(eK cF (dh [] X.env)).all (λx=>x.1.isSome)
   && decide (([b]:List Expr).length+([]:List eB).length+(if ([]:List eB).isEmpty then 0 else 1)<30))=true:=by rfl)
  (fg:(apos.endLine==cF.line)=true:=by rfl) (hs:ar [b] X.env=(false,cK b X.env)::ar [] X.env:=by rfl) (dZ:(cB cF (ar [] X.env)).any (·.1)=false:=by rfl) :
  PX X M (.Call (.Attribute a "get" apos) [b] [] cF) (e2 (a3o kt) fa fb) (.bor u):=by
 obtain⟨ta,pa,qa⟩:=ha.out;obtain⟨tb,pb,qb⟩:=hb.out;refine .mk ⟨_,a5N lz ly (b3w hu) pa (k8 pb p5 hs) fm ic fg hs dZ,λZ σ H P F d Q S hf q=>?_⟩;obtain⟨x,y,h1,h2,h3⟩:=D7 hf;obtain⟨kvs,rfl,hk,rfl⟩:=a8v h3;refine qa Z σ H P F _ _ S h1 λv H1 e1 ⟨fp,o,sub⟩=>?_
 obtain⟨p,es,ds,fs,rfl,hH,_,FF,_⟩:=o.dict;refine⟨⟨p,es,rfl,hH⟩,qb Z σ H1 P F y _ (S.grow e1) h2 λw H2 e2 r2=>?_⟩;obtain⟨p',jF,jS,jE,ep,vZ,jR,zx,h5,h6,hl,hn⟩:=(o.grow e2).dict;cases ep
 injection jR with nh
 have K:=keysAt (X:=X) h5 hk r2.den;refine⟨p,jF,kt,y,w,rfl,rfl,vZ,K,λhf=>?_,λe he fS=>?_⟩
 ·have:p9 kvs y=xI:=P5 (by rw[nh,N0 hl];exact hf);rw[this]at q;exact q .non H2 (e1.trans e2) ⟨[],a6Q oy,λa ha=>(nomatch ha)⟩
 ·obtain⟨j,d',f,_,_,g',o',s'⟩:=a8u h6 hl hn K he fS;rw[nh,g']at q;exact q _ H2 (e1.trans e2) ⟨f,o',λx hx=>sub x (by rw[zx];exact av _ (s' x hx))⟩
def b1o:CallR X (.builtin "len") (λxs H Q=>∃p es,xs=[V.ref p]/\H p=xn (g6 p es)/\Q (.int es.length) H):=by
 intro pins s σ H xs us Q I rv h;obtain⟨p,es,rfl,hH,q⟩:=h;obtain⟨w,rfl,rw⟩:=rv.one;cases (show w=bH p from rw)
 exact b9r I hH λt s' I'=>⟨.int es.length,H,I',⟨t,rfl⟩,q⟩
def b6j(hm:X.mg "len"=xI)(ha:PX X M a fa (.bor (.d kt u)))(hg:Gl X "len":=by rfl)(he:ar [a] X.env=(false,cK a X.env)::ar [] X.env:=by rfl)(gE:(cB pos (ar [] X.env)).any (·.1)=false:=by rfl) :
  PX X M (.Call (.Name "len" p) [a] [] pos) (eCl a9J (a7 fa b9)) (.new .i):=by
 obtain⟨ta,pa,qa⟩:=ha.out;refine .mk ⟨_,a2W b1o hg hm PySem.boot_len (k8 pa p5 he) (by decide) (by decide) he gE,λZ σ H P F d Q S hf q=>?_⟩;obtain⟨xs,h1,h2⟩:=bnd hf;obtain⟨x,h3,h4⟩:=bnd h1;obtain⟨kH,h5,h6⟩:=bnd h4;cases h5
 cases h6
 have hx:∃kvs,x=.dict kvs/\d=.int kvs.length:=by
  cases x with
  |dict kvs=>cases h2;exact⟨kvs,rfl,rfl⟩
  |_=>cases h2
 obtain⟨kvs,rfl,rfl⟩:=hx;refine qa Z σ H P F _ _ S h3 λv H1 e1 ⟨fp,o,sub⟩=>?_
 obtain⟨p,es,ds,fs,rfl,hH,hd,_,_,_,hl,_⟩:=o.dict
 injection hd with hd
 have hlen:kvs.length=es.length:=by rw[hd,oZ,ai,hl,tD]
 refine⟨p,es,rfl,hH,?_⟩;rw[<-hlen];exact q _ H1 e1 (K3 (by simp only[imm]) den_int (S.lst' e1))
def a6R(h:cR)(hb:dq<h.objs.size):ObjOk P w H (h.push {cls:=.type "dict",data:=.dict #[]}) h.objs.size (g6 h.objs.size []):=
 a1F (gF.mpr (cY (bM hb))) (cE _) bA (be _ rfl) ⟨rfl,rfl,rfl⟩ rfl (λ_=>rfl) .nil
def b3x:PE X (.Dict [] [] pos) (λ_ H Q=>∀p,H p=xI->Q (.ref p) (upd H p (g6 p []))):=λpins s σ H Q I h=>
 wpAny_Dict_empty ⟨.ref s.heap.objs.size,_,I.laid (a:=s.heap.objs.size) (o:=g6 s.heap.objs.size []) (t':=s.toks) (λ_ _ q=>aE _ q) (ay _) (a6R s.heap I.sysBelow),rfl,h _ (I.hok.fresh (ay _))⟩
def P6(kt:Bool)(u:Ty):PX X M (.Dict [] [] pos) (eC (.dict [])) (.new (.d kt u)):=by
 refine .mk ⟨_,b3x,λZ σ H P F d Q S hf q=>?_⟩;cases hf
 intro p hp;refine q _ _ (l6 hp _) ⟨[p],?_,by simp,λa ha=>by rw[ao.mp ha];exact hp⟩;simp only[Own];exact⟨p,[],[],[],rfl,g8,rfl,rfl,⟨bA,λe he=>(nomatch he)⟩,p6⟩
end
section
variable {K:af}{H:Hp}{F:List aw}
theorem StE.dict{Z:List D}(S:StE K M Z σ H P F)(hm:M[i]?=xn (.own (.d kt u))) :
  ∃a es ds fs,σ[i]?=xn (xn (.ref a))/\H a=xn (g6 a es)/\Z.getD i .none=.dict ((es.map (·.1)).zip ds)/\(∀e∈es,keyOk kt e.1/\Den K (cut H F) e.2.1 e.1)/\ListAll (Own K H F u) (es.map (·.2.2)) ds fs/\ds.length=es.length/\(es.map (·.1)).Nodup:=by
 obtain⟨v,f,h1,o,_⟩:=S.get hm;obtain⟨a,es,ds,fs,rfl,h2,h3,_,h5,h6,h7,h8⟩:=o.dict;exact⟨a,es,ds,fs,h1,h2,h3,h5,h6,h7,h8⟩
theorem a6S:∀{es:List (D×V×V)} {j:Nat} {e:D×V×V},(es.map (·.1)).Nodup->(∀e∈es,aI e.1 k=true↔e.1=k)->es[j]?=xn e->e.1=k->(es.map λe=>if aI e.1 k then (e.1,e.2.1,v) else e).map (·.2.2)=(es.map (·.2.2)).set j v
 |[],j,e,_,_,hj,_=>by simp at hj
 |e0::es,0,e,hn,mf,hj,fS=>by
  rw[ax,bV]at hn;cases hj
  have jD:es.map (λe=>if aI e.1 k then (e.1,e.2.1,v) else e)=es:=by
   have:∀e'∈es,(if aI e'.1 k then (e'.1,e'.2.1,v) else e')=e':=λe' lI=>by
    rw[aJ];intro q;exact hn.1 (by rw[fS,<-(mf e' (av _ lI)).mp q];exact cH lI)
   rw[bG this,tG]
  rw[ax,aB ((mf _ aK).mpr fS),jD];rfl
 |e0::es,j+1,e,hn,mf,hj,fS=>by
  rw[ax,bV]at hn;have nS:es[j]?=xn e:=by simpa using hj
  have gM:¬ aI e0.1 k=true:=λq=>hn.1 (by rw[(mf _ aK).mp q,<-fS];exact cH (br nS))
  rw[ax,aJ gM,ax,ax,fU,a6S hn.2 (λe he=>mf e (av _ he)) nS fS]
def Pend.dput{Z:List D}(h:Pend K ([]++[.own u]) ([]++[d]) ([]++[xn v]) M Z σ H P F)(hm:M[i]?=xn (.own (.d kt u)))(hk:keyOk kt k)(C_:Den K H kv k) :
  ∃a es ds fs,σ[i]?=xn (xn (.ref a))/\H a=xn (g6 a es)/\Z.getD i .none=.dict ((es.map (·.1)).zip ds)/\(∀e∈es,keyOk kt e.1/\Den K (cut H F) e.2.1 e.1)/\ListAll (Own K H F u) (es.map (·.2.2)) ds fs/\ds.length=es.length/\(es.map (·.1)).Nodup/\
   StR K M (Z.set i (.dict (K4 ((es.map (·.1)).zip ds) k d))) σ (upd H a (g6 a (a0R es k kv v))) P F:=by
 obtain⟨_,_,S⟩:=h;obtain⟨G,h1,h2,h3⟩:=S.all;have l_:StAll K H F (.own u::M) (d::Z) (xn v::σ) G:=by simpa using h1
 simp only[StAll]at l_;obtain⟨d',Z',o',σ',fv,G2,e1,e2,rfl,⟨v',e3,ov⟩,h5⟩:=l_;cases e1
 cases e2
 cases e3
 obtain⟨dd,oo,f,pre,post,q1,q2,⟨v2,rfl,q3⟩,rfl,q5⟩:=h5.at_ hm;obtain⟨a,es,ds,fs,rfl,r2,r3,rfl,r5,r6,hl,hn⟩:=q3.dict;have vT:a∈F:=h3 a (by simp);have iE:∀o,Same (cut H F) (cut (upd H a o) F):=λo b o' hb=>by
  obtain⟨n1,n2⟩:=m4 hb;exact g9 n1 (by rw[c7 (show b≠a from λz=>n1 (z▸vT))];exact n2)
 have cnt:∀b,b=a->(pre++post).count b=0/\fs.count b=0/\fv.count b=0:=λb e=>by
  subst e;have:=eL.mp h2 b;simp only[bT,bB,wq]at this ⊢;exact⟨by lia,by lia,by lia⟩
 have kk:∀(l:List aw) (o:HO),(∀b,b=a->l.count b=0)->∀b∈l,upd H a o b=H b:=λl o hc b hb=>c7 λz=>by
  have:=hc b z;rw[jN]at this;exact this hb
 have Dc:Den K (cut H F) kv k:=C_.imm_out S.lst k (V5 _ hk.1);have mf:∀e∈es,aI e.1 k=true↔e.1=k:=λe he=>D6 e.1 k (r5 e he).1.1 hk.1
 have fin:∀(jF:List (D×V×V)) (jS:List D) (jE:List aw),(jF.map (·.1)).Nodup->(∀e∈jF,keyOk kt e.1/\Den K (cut H F) e.2.1 e.1)->ListAll (Own K (upd H a (g6 a jF)) F u) (jF.map (·.2.2)) jS jE->(∀b,jE.count b<=fs.count b+fv.count b)->
   StR K M (Z.set i (.dict ((jF.map (·.1)).zip jS))) σ (upd H a (g6 a jF)) P F:=λjF jS jE vk sP ha nV=>by
  have o1:Own K (upd H a (g6 a jF)) F (.d kt u) (.ref a) (.dict ((jF.map (·.1)).zip jS)) (a::jE):=by
   simp only[Own];exact⟨a,jF,jS,jE,rfl,g8,rfl,rfl,⟨vk,λe he=>⟨(sP e he).1,(sP e he).2.up (iE _)⟩⟩,ha⟩
  have q:=q5 (upd H a (g6 a jF)) F (.own (.d kt u)) (.dict ((jF.map (·.1)).zip jS)) (xn (.ref a)) _ (kk _ _ λb e=>(cnt b e).1) (iE _) ⟨_,rfl,o1⟩;rw[set_same (l:=σ) q2,set_same (l:=M) hm]at q;refine⟨⟨_,q,W5 h2 λb=>?_,λb hb=>?_⟩,λb hb=>?_,S.prot.trans (iE _)⟩
  ·have:=nV b;simp only[bT,bB,f_];lia
  ·have hc:0<(fv++(pre++(a::fs++post))).count b:=by
    have h0:=fw.mpr hb;have:=nV b;simp only[bT,bB,f_]at h0 ⊢;lia
   exact h3 b (fw.mp hc)
  ·by_cases e:b=a
   ·subst e;exact⟨⟨g6 b jF,trivial⟩,g8⟩
   ·obtain⟨ys,y⟩:=S.lst b hb;exact⟨ys,by rw[c7 e];exact y⟩
 refine⟨a,es,ds,fs,q2,r2,by rw[C6 q1];exact r3,r5,r6,hl,hn,?_⟩;cases hf:x5 es k with
 |false=>
  rw[a3m hf,b1l (by rw[N0 hl];exact hf),<-a6P (kv:=kv) (v:=v) hl];refine fin (es++[(k,kv,v)]) (ds++[d]) (fs++fv) ?_ ?_ ?_ λb=>by rw[bT];exact ay _
  ·rw[aN,bN];refine⟨hn,by simp,λx hx y hy e=>?_⟩;simp only[ax,cW,ao]at hy;subst hy;subst e;obtain⟨e,he,rfl⟩:=aG.mp hx;unfold x5 at hf;rw[et]at hf;exact hf e he ((mf e he).mpr rfl)
  ·intro e he;rcases aq.mp he with z|z
   ·exact r5 e z
   ·rw[ao.mp z];exact⟨hk,Dc⟩
  ·rw[aN];refine (n9 (iE _) r6 (kk _ _ λb e=>(cnt b e).2.1)).append ?_;have:=m9 (R:=Own K (upd H a (g6 a (es++[(k,kv,v)]))) F u) (ov.frame (iE _) u (kk _ _ λb e=>(cnt b e).2.2)) p6
   rwa[bg]at this
 |true=>
  have hh:=hf;unfold x5 at hf;rw[n_]at hf;obtain⟨e,he,fS⟩:=hf;have vG:=(mf e he).mp fS;obtain⟨j,hj⟩:=cS.mp he;have qP:j<ds.length:=by rw[hl];exact (aL.mp hj).1
  have sG:a0R es k kv v=es.map λe=>if aI e.1 k then (e.1,e.2.1,v) else e:=by unfold a0R;rw[hh];rfl
  have va:K4 ((es.map (·.1)).zip ds) k d=(es.map (·.1)).zip (ds.set j d):=by
   unfold K4;rw[N0 hl,hh];exact a2j (v:=v) hl mf hn hj vG
  have rJ:(a0R es k kv v).map (·.1)=es.map (·.1):=by rw[sG];exact a3n
  rw[va,<-rJ];obtain⟨w3,f3,a1,a2,s1,s2,Bd,s4⟩:=r6.zip (ab qP);have uU:(a0R es k kv v).map (·.2.2)=(es.map (·.2.2)).set j v:=by
   rw[sG];exact a6S hn mf hj vG
  refine fin (a0R es k kv v) (ds.set j d) (a1++(fv++a2)) (by rw[rJ];exact hn) ?_ ?_ λb=>by rw[Bd];simp only[bT];lia
  ·intro e' lI;rw[sG]at lI;obtain⟨e0,AB,rfl⟩:=aG.mp lI
   split
   ·exact r5 e0 AB
   ·exact r5 e0 AB
  ·rw[uU];have c5:∀b,b=a->(a1++a2).count b=0:=λb e=>by have:=(cnt b e).2.1;rw[Bd]at this;simp only[bT]at this ⊢;lia
   exact s4 _ F v d fv (kk _ _ c5) (iE _) (ov.frame (iE _) u (kk _ _ λb e=>(cnt b e).2.2))
end
noncomputable def C1(i:Nat)(kt:Bool)(fk fv:EvE):EvS:=λZ=>(fv Z).bind λd=>(fk Z).bind λk=>match Z.getD i .none with
 |.dict kvs=>if o8 kt k&&decide (kvs.length<1000000) then xn (.nx (Z.set i (.dict (K4 kvs k d)))) else xI
 |_=>xI
abbrev EvX:=List D->Option (D×List D)
def C9(kvs:List (D×D))(k d:D):List (D×D):=if F9 kvs k then kvs else kvs++[(k,d)]
def scal:D->Bool
 |.int _=>true
 |.bool _=>true
 |.none=>true
 |_=>false
noncomputable def U3(i:Nat)(kt:Bool)(fk fe:EvE):EvX:=λZ=>(fk Z).bind λk=>(fe Z).bind λd=>match Z.getD i .none with
 |.dict kvs=>if o8 kt k&&decide (kvs.length<1000000)&&scal d then xn ((p9 kvs k).getD d,Z.set i (.dict (C9 kvs k d))) else xI
 |_=>xI
noncomputable def a6T(j:Nat)(f:EvX):EvS:=λZ=>(f Z).bind λp=>match p.2.getD j .none with
 |.list ds=>if ds.length<1000000 then xn (.nx (p.2.set j (.list (ds++[p.1])))) else xI
 |_=>xI
noncomputable def b3y(f:EvX):EvS:=λZ=>(f Z).bind λp=>xn (.nx p.2)
def b3z(h:scal d=true)(hd:Den K H v d):∀H',Den K H' v d:=by
 intro H';cases d with
 |int i=>cases hd.int_inv;exact den_int
 |bool i=>cases hd.bool_inv;exact den_bool
 |none=>cases hd.none_inv;exact den_none
 |_=>cases h
def b3A(h:scal d=true):imm d=true:=by
 cases d with
 |int i=>simp only[imm]
 |bool i=>simp only[imm]
 |none=>simp only[imm]
 |_=>cases h
noncomputable def PXE(X:Cx)(M:List Md)(e:Expr)(f:EvX)(u:Ty)(M1:List Md):Prop:=
 ∃t,PE X e t/\∀(Z:List D) (σ:L2.St) (H P:Hp) (F:List aw) (d:D) (Z':List D) (Q:VK),StR X.K M Z σ H P F->f Z=xn (d,Z')->
  (∀v H' F',Pend X.K ([]++[.own u]) ([]++[d]) ([]++[xn v]) M1 Z' σ H' P F'->Q v H')->t σ H Q
section
variable {X:Cx}{M M1 ML:List Md}{e k v:Expr}{fk fe fv:EvE}{f:EvX}{ck:Cat}{kt:Bool}{u w:Ty}{pos apos cF lr:fM}
def c1p(X:Cx)(td ty tv:TE):TS:=λD σ H=>tv σ H λv H1=>td σ H1 λx H2=>ty σ H2 λy H3=>∃a es kt k,x=.ref a/\H3 a=xn (g6 a es)/\KeysAt X H3 kt es k y/\es.length<a_/\D.nx σ (upd H3 a (g6 a (a0R es k y v)))
def b6k(hu:X.A.units+64<dF)(ho:PE X o td)(hi:PE X k ty)(hv:PE X v tv)(hs:fL v (xn (.Subscript o k lr)) pos.line X.env=pure false) :
  PS X (.Assign [.Subscript o k lr] v pos) (c1p X td ty tv):=by
 intro pins s σ H D I h;refine wpAny_Assign_Subscript (L2.thn (hv pins s σ H _ I h) λr s1 ⟨v,H1,I1,rv,q1⟩=>L2.thn (ho pins s1 σ H1 _ I1 q1) λu s2 ⟨x,H2,I2,rx,q2⟩=>L2.thn (hi pins s2 σ H2 _ I2 q2) λiv s3 ⟨y,H3,I3,ry,a,es,kt,k,ex,hH,K,hl,q3⟩=>?_) hs;subst ex;obtain rfl:u=bH a:=rx;exact a8t (by lia) I3 hH K ry rv hl λs4 I4=>⟨σ,_,I4,q3⟩
def a0T(i:Nat)(hu:X.A.units+64<dF)(hk:PX X M1 k fk ck)(hv:PMX X M v fv u M1)(hN:X.N[i]?=xn x:=by rfl)(qm:Vis X.env.scope x:=by first|exact bY rfl|exact bR (bY rfl)|exact bR (bR rfl))(hd:(x==("__debug__":bE))=false:=by decide)
  (iF:(x==("__classdict__":bE))=false:=by decide) (hm:M1[i]?=xn (.own (.d kt u)):=by rfl) (hs:fL v (xn (.Subscript (.Name x px) k lr)) pos.line X.env=pure false:=by rfl) :
  PSX X w ML M (.Assign [.Subscript (.Name x px) k lr] v pos) (C1 i kt fk fv) M1:=by
 obtain⟨tv,pv,qv⟩:=hv;obtain⟨tk,pk,qk⟩:=hk.out;refine .mk ⟨_,b6k hu (B5 hN qm hd iF) pk pv hs,λD Z σ H P F o S hg kk=>?_⟩;obtain⟨d,h1,g1⟩:=bnd hg;obtain⟨y,h2,g2⟩:=bnd g1;refine qv [] [] [] Z σ H P F d _ S.pend h1 λv1 H1 F1 e1 S1=>?_
 obtain⟨a,es,ds,fs,ha,hH,hZ,_⟩:=S1.e.dict hm;rw[hZ]at g2;have mX:(if (o8 kt y&&decide (((es.map (·.1)).zip ds).length<1000000))=true then xn (Out.nx (Z.set i (.dict (K4 ((es.map (·.1)).zip ds) y d)))) else xI)=xn o:=g2;by_cases c:(o8 kt y&&decide (((es.map (·.1)).zip ds).length<1000000))=true
 ·rw[aB c]at mX;cases mX
  rw[aD]at c;refine⟨_,ha,qk Z σ H1 P F1 y _ S1.e h2 λkv H2 e2 r2=>?_⟩;obtain⟨a',jF,jS,jE,rN,vZ,rO,hK,_,rH,_,S3⟩:=(S1.grow e2).dput hm (E4 c.1) r2.den;rw[ha]at rN;cases rN
  rw[hZ]at rO
  injection rO with rO
  refine⟨a,jF,kt,y,rfl,vZ,keysAt hK c.1 r2.den,?_,kk σ _ F1 (by rw[rO];exact S3)⟩;have hlen:((jF.map (·.1)).zip jS).length=jF.length:=by rw[oZ,ai,rH,tD]
  rw[<-hlen,<-rO];exact jz (bx c.2) (by rw[dg];decide)
 ·rw[aJ c]at mX;cases mX
def b9w(X:Cx):V->List V->Hp->VK->Prop:=λx xs H Q=>∃p es kt k y z,x=.ref p/\xs=[y,z]/\H p=xn (g6 p es)/\KeysAt X H kt es k y/\es.length<a_/\(x5 es k=false->Q z (upd H p (g6 p (es++[(k,y,z)]))))/\∀e∈es,e.1=k->Q e.2.2 H
def b6l(hu:X.A.units+64<dF):MtR X "dict.setdefault" (b9w X):=by
 intro pins s σ H x xs v us Q I rx rv h;obtain⟨p,es,kt,k,y,z,rfl,rfl,hH,K,hl,q1,q2⟩:=h;cases (show v=bH p from rx)
 obtain⟨w1,w2,rfl,r1,r2⟩:=vals2 rv;exact b6g (by lia) I hH K r1 r2 hl (λhf s' I'=>⟨z,_,I',r2,q1 hf⟩) λe he fS x s' I' r'=>⟨e.2.2,H,I',r',q2 e he fS⟩
def a6U(i:Nat)(hu:X.A.units+64<dF)(hk:PX X M k fk (.new .i))(he:PX X M e fe (.new .i))(hN:X.N[i]?=xn x:=by rfl)(qm:Vis X.env.scope x:=by first|exact bY rfl|exact bR (bY rfl)|exact bR (bR rfl))(hd:(x==("__debug__":bE))=false:=by decide)
  (iF:(x==("__classdict__":bE))=false:=by decide) (hm:M[i]?=xn (.own (.d kt .i)):=by rfl) (fm:dM (.Name x px) "setdefault" X.env (cK (.Name x px) X.env)=cK (.Name x px) X.env:=by rfl)
  (ic:((cB cF (ar [k,e] X.env)).all (λx=>!x.1)&&(eK cF (dh [] X.env)).all (λx=>x.1.isSome)
   && decide (([k,e]:List Expr).length+([]:List eB).length+(if ([]:List eB).isEmpty then 0 else 1)<30))=true:=by rfl)
  (fg:(apos.endLine==cF.line)=true:=by rfl) (hs:ar [k,e] X.env=(false,cK k X.env)::ar [e] X.env:=by rfl) (mO:ar [e] X.env=(false,cK e X.env)::ar [] X.env:=by rfl) (dZ:(cB cF (ar [e] X.env)).any (·.1)=false:=by rfl) :
  PXE X M (.Call (.Attribute (.Name x px) "setdefault" apos) [k,e] [] cF) (U3 i kt fk fe) .i M:=by
 obtain⟨tk,pk,qk⟩:=hk.out;obtain⟨te,pe,qe⟩:=he.out;refine⟨_,a5N PySem.F.slot_dict_setdefault PySem.F.type_dict_setdefault (b6l hu) (B5 hN qm hd iF) (k8 pk (k8 pe p5 mO) hs) fm ic fg hs dZ,λZ σ H P F d Z' Q S hf q=>?_⟩;obtain⟨y,h1,g1⟩:=bnd hf;obtain⟨z,h2,g2⟩:=bnd g1;obtain⟨a,es,ds,fs,ha,hH,hZ,_⟩:=S.toE.dict hm;rw[hZ]at g2;have mX:(if (o8 kt y&&decide (((es.map (·.1)).zip ds).length<1000000)&&scal z)=true then xn ((p9 ((es.map (·.1)).zip ds) y).getD z,Z.set i (.dict (C9 ((es.map (·.1)).zip ds) y z))) else xI)=xn (d,Z'):=g2;by_cases c:(o8 kt y&&decide (((es.map (·.1)).zip ds).length<1000000)&&scal z)=true
 ·rw[aB c]at mX
  injection mX with mX
  injection mX with ed eZ
  rw[aD,aD]at c;refine⟨.ref a,ha,⟨a,es,rfl,hH⟩,?_⟩;refine qk Z σ H P F y _ S.toE h1 λkv H1 e1 r1=>qe Z σ H1 P F z _ (S.grow e1).toE h2 λzv H2 e2 r2=>?_
  have S2:=S.grow (e1.trans e2);have wc:=r1.den.up e2;have own:∀(H':Hp) (F':List aw),Own X.K H' ([]++F') .i zv z []:=λH' F'=>by
   simp only[Own];exact⟨trivial,b3A c.2,b3z c.2 r2.den _⟩
  have S3:=S2.pend.new (Same.refl H2) (own H2 F) bA λa ha=>(nomatch ha)
  obtain⟨a',jF,jS,jE,rN,vZ,rO,h5,h6,hl,hn,S4⟩:=S3.dput hm (E4 c.1.1) wc;rw[ha]at rN;cases rN
  rw[hZ]at rO
  injection rO with nh
  have K:KeysAt X H2 kt jF y kv:=keysAt h5 c.1.1 wc;have hlen:jF.length<a_:=by
   have e3:((jF.map (·.1)).zip jS).length=jF.length:=by rw[oZ,ai,hl,tD]
   rw[<-e3,<-nh];exact jz (bx c.1.2) (by rw[dg];decide)
  refine⟨a,jF,kt,y,kv,zv,rfl,rfl,vZ,K,hlen,λhf=>?_,λe he fS=>?_⟩
  ·have oy:F9 ((es.map (·.1)).zip ds) y=false:=by rw[nh,N0 hl];exact hf
   have eE:a0R jF y kv zv=jF++[(y,kv,zv)]:=a3m hf;rw[<-eE];have rM:d=z:=by rw[<-ed,P5 oy];rfl
   have za:Z'=Z.set i (.dict (K4 ((jF.map (·.1)).zip jS) y z)):=by
    rw[<-eZ,<-nh];unfold C9 K4;rw[oy];rfl
   rw[rM,za]at q;exact q zv _ _ (S4.pend.new (Same.refl _) (own _ _) bA λa ha=>(nomatch ha))
  ·obtain⟨j,d',f,_,_,g',o',_⟩:=a8u h6 hl hn K he fS;obtain⟨rfl,o2⟩:=a2e o';have rM:d=d':=by rw[<-ed,nh,g'];rfl
   have za:Z'=Z:=by
    rw[<-eZ];unfold C9;rw[a6O (by rw[nh];exact g'),aB rfl,<-hZ];have hi:∃x,Z[i]?=xn x:=by
     obtain⟨G,q1,_⟩:=S.all;obtain⟨d0,_,_,_,_,z1,_⟩:=q1.at_ hm;exact⟨d0,z1⟩
    obtain⟨x,hx⟩:=hi;rw[C6 hx];exact set_same hx
   rw[rM,za]at q;exact q _ H2 _ (S2.pend.new (Same.refl _) (by simp only[Own,bJ];exact⟨trivial,o2⟩) bA λa ha=>(nomatch ha))
 ·rw[aJ c]at mX;cases mX
end
section
variable {X:Cx}{M M1 ML:List Md}{e:Expr}{f:EvX}{u w t:Ty}{pos apos cF:fM}
def b6m(j:Nat)(he:PXE X M e f t M1)(hN:X.N[j]?=xn x:=by rfl)(qm:Vis X.env.scope x:=by first|exact bY rfl|exact bR (bY rfl)|exact bR (bR rfl))(hd:(x==("__debug__":bE))=false:=by decide)
  (iF:(x==("__classdict__":bE))=false:=by decide) (CM:M[j]?=xn (.own (.l t)):=by rfl) (hm:M1[j]?=xn (.own (.l t)):=by rfl) (hni:∀Z p,f Z=xn p->p.2.getD j .none=Z.getD j .none)
  (fm:dM (.Name x px) "append" X.env (cK (.Name x px) X.env)=cK (.Name x px) X.env:=by rfl)
  (ic:((cB cF (ar [e] X.env)).all (λx=>!x.1)&&(eK cF (dh [] X.env)).all (λx=>x.1.isSome)
   && decide ([e].length+([]:List eB).length+(if ([]:List eB).isEmpty then 0 else 1)<30))=true:=by rfl)
  (fg:(apos.endLine==cF.line)=true:=by rfl) (hs:ar [e] X.env=(false,cK e X.env)::ar [] X.env:=by rfl) (dZ:(cB cF (ar [] X.env)).any (·.1)=false:=by rfl)
  (qN:fL (.Call (.Attribute (.Name x px) "append" apos) [e] [] cF) xI pos.line X.env=pure false:=by rfl) :
  PSX X w ML M (.Expr (.Call (.Attribute (.Name x px) "append" apos) [e] [] cF) pos) (a6T j f) M1:=by
 obtain⟨te,pe,qe⟩:=he;refine .mk ⟨_,Q6 (a4F eM km kl Y1 (B5 hN qm hd iF) (k8 pe p5 hs) fm ic fg hs dZ) qN,λD Z σ H P F o S hg k=>?_⟩;obtain⟨⟨d,Z'⟩,h1,g1⟩:=bnd hg;have u_:=hni Z _ h1;have hl:∃ds,Z'.getD j .none=.list ds/\ds.length<1000000/\o=.nx (Z'.set j (.list (ds++[d]))):=by
  dsimp only at g1
  cases hx:Z'.getD j .none with
  |list ds=>
   rw[hx]at g1;have xg:(if ds.length<1000000 then xn (Out.nx (Z'.set j (.list (ds++[d])))) else xI)=xn o:=g1;by_cases c:ds.length<1000000
   ·rw[aB c]at xg;exact⟨ds,rfl,c,(aF xg).symm⟩
   ·rw[aJ c]at xg;cases xg
  |_=>rw[hx]at g1;cases g1
 obtain⟨ds,hZ,hz,rfl⟩:=hl;obtain⟨v,fv,hv,ov,_⟩:=S.toE.get CM;have pO:∃a xs,v=.ref a/\H a=xn (.lst xs):=by
  rw[<-u_]at ov;rw[hZ]at ov;simp only[Own]at ov;rcases ov with⟨_,hi,_⟩|⟨a,xs,_,_,rfl,h2,_⟩
  ·simp only[imm]at hi;cases hi
  ·exact⟨a,xs,rfl,h2⟩
 obtain⟨a,xs,rfl,ha⟩:=pO;refine⟨.ref a,hv,.inl ⟨rfl,xs,SqL.of ha⟩,qe Z σ H P F d Z' _ S h1 λv1 H2 F2 S2=>?_⟩;have ue:dAt (.l t) (Z'.getD j .none) []=xn (.l t,.list ds):=by rw[hZ];rfl
 obtain⟨b',kH,e',uH,hl,S3,_⟩:=S2.put hm hv ue (show wk H2 (.ref a) [] (.ref a) from rfl);cases e'
 rw[hZ]at S3;refine⟨a,kH,v1,rfl,rfl,uH,?_,k σ _ F2 S3⟩;rw[hl];exact jz hz (by rw[dg];decide)
def a8w(gC:i≠j):∀Z p,U3 i kt fk fe Z=xn p->p.2.getD j .none=Z.getD j .none:=λZ p h=>by
 obtain⟨k,_,g1⟩:=bnd h;obtain⟨d,_,g2⟩:=bnd g1;have key:∀x:D,(Z.set i x).getD j .none=Z.getD j .none:=λx=>by
  rw[ag,ag,bF gC]
 cases hx:Z.getD i .none with
 |dict kvs=>
  rw[hx]at g2;have mX:(if (o8 kt k&&decide (kvs.length<1000000)&&scal d)=true then xn ((p9 kvs k).getD d,Z.set i (.dict (C9 kvs k d))) else xI)=xn p:=g2;by_cases c:(o8 kt k&&decide (kvs.length<1000000)&&scal d)=true
  ·rw[aB c]at mX;cases mX;exact key _
  ·rw[aJ c]at mX;cases mX
 |_=>rw[hx]at g2;cases g2
def b9x(he:PXE X M e f t M1)(hs:fL e xI pos.line X.env=pure false:=by rfl):PSX X w ML M (.Expr e pos) (b3y f) M1:=by
 obtain⟨te,pe,qe⟩:=he;refine .mk ⟨_,Q6 pe hs,λD Z σ H P F o S hg k=>?_⟩;obtain⟨⟨d,Z'⟩,h1,g1⟩:=bnd hg;cases g1
 refine qe Z σ H P F d Z' _ S h1 λv H' F' S'=>?_
 obtain⟨l1,l2,S2⟩:=S';obtain⟨G,a1,a2,a3⟩:=S2.all;have wj:StAll X.K H' F' (.own t::M1) (d::Z') (xn v::σ) G:=by simpa using a1
 simp only[StAll]at wj;obtain⟨d',r',o',s',fv,G2,e1,e2,rfl,_,h5⟩:=wj;cases e1
 cases e2
 exact k σ H' F' ⟨⟨G2,h5,(bN.mp a2).2.1,λa ha=>a3 a (ah _ ha)⟩,S2.lst,S2.prot⟩
end
noncomputable def b3B(i:Nat)(f:EvE):EvS:=λZ=>(f Z).bind λd=>(asI d).bind λn=>(asI (Z.getD i .none)).bind λm=>xn (.nx (Z.set i (.int (m+n))))
section
variable {X:Cx}{M ML:List Md}{e:Expr}{f:EvE}{c:Cat}{u:Ty}{pos pos':fM}
def b9y(i:Nat)(hN:X.N.Nodup)(he:PX X M e f c)(hi:X.N[i]?=xn x:=by rfl)(hx:Loc X.env.scope x:=by first|exact bY rfl|exact bR rfl)(hm:M[i]?=xn (.own .i):=by rfl)(hf:X.fn x=true∨X.env.scope.names.lookup x=xn .local:=by first|exact .inl rfl|exact .inr rfl) :
  PSX X u ML M (.AugAssign (.Name x pos') .Add e pos) (b3B i f) M:=by
 obtain⟨te,pe,qe⟩:=he.out;refine .mk ⟨_,b8s hN hi hx pe b8t hf,λD Z σ H P F o S hg k=>?_⟩;obtain⟨d,h1,g1⟩:=bnd hg;obtain⟨n,h2,g2⟩:=bnd g1;obtain⟨m,h3,g3⟩:=bnd g2;cases g3
 cases V8 h2
 have h4:=V8 h3;obtain⟨v,fv,hv,ov,_⟩:=S.toE.get hm;rw[h4]at ov;obtain⟨_,_,dv⟩:=a2e ov;have ev:=dv.int_inv;refine⟨v,hv,qe Z σ H P F _ _ S.toE h1 λw H1 e1 r1=>⟨m,n,ev,r1.den.int_inv,?_⟩⟩;have S1:=S.grow e1;have:=S1.set (u:=.i) (v:=.int (m+n)) (d:=.int (m+n)) (fp:=[]) hm (Same.refl _) (by simp only[Own,bJ];exact⟨trivial,by simp only[imm],den_int⟩) bA λa ha=>(nomatch ha)
 rw[set_same hm]at this;exact k _ _ _ this
end
def intsOf:List D->Option (List Int)
 |[]=>xn []
 |.int i::r=>(intsOf r).map (i::·)
 |_=>xI
def P7(i:Int)(r:List Int):Int:=r.foldl (λa b=>if b>a then b else a) i
noncomputable def a0d:List D->Option D
 |[.list ds]=>(intsOf ds).bind λis=>match is with
  |[]=>xI
  |i::r=>xn (.int (P7 i r))
 |_=>xI
theorem J7:∀{ds:List D} {is:List Int},intsOf ds=xn is->ds=is.map .int
 |[],is,h=>by cases h;rfl
 |.int i::r,is,h=>by
  obtain⟨js,h1,rfl⟩:=eU.mp (show (intsOf r).map (i::·)=xn is from h);rw[ax,<-J7 h1]
 |.none::_,_,h|.bool _::_,_,h|.str _::_,_,h|.list _::_,_,h|.tuple _::_,_,h|.dict _::_,_,h=>nomatch h
def a0x(is:List Int):intsOf (is.map .int)=xn is:=by
 induction is with
 |nil=>rfl
 |cons i is ih=>show (intsOf (is.map .int)).map (i::·)=_;rw[ih];rfl
theorem a9K:∀(r:List Int) (i:Int),i<=P7 i r/\(∀x∈r,x<=P7 i r)/\(P7 i r=i∨P7 i r∈r)
 |[],i=>⟨wu _,λx hx=>(nomatch hx),.inl rfl⟩
 |y::r,i=>by
  obtain⟨h1,h2,h3⟩:=a9K r (if y>i then y else i);have e:P7 i (y::r)=P7 (if y>i then y else i) r:=rfl;rw[e];refine⟨?_,λx hx=>?_,?_⟩
  ·by_cases c:y>i
   ·rw[aB c]at h1 ⊢;lia
   ·rw[aJ c]at h1 ⊢;exact h1
  ·rcases aH.mp hx with z|z
   ·subst z;by_cases c:x>i
    ·rw[aB c]at h1 ⊢;exact h1
    ·rw[aJ c]at h1 ⊢;lia
   ·exact h2 x z
  ·rcases h3 with z|z
   ·by_cases c:y>i
    ·rw[aB c]at z ⊢;exact .inr (by rw[z];exact aK)
    ·rw[aJ c]at z ⊢;exact .inl z
   ·exact .inr (av _ z)
section
variable {X:Cx}
def a8x{ns:List Int}:∀{us:List aj},Vals (ns.map V.int) us->∃xs:List (Int×Tok),us=xs.map (λp=>jw p.1 p.2)/\xs.map (·.1)=ns:=by
 induction ns with
 |nil=>intro us r;cases r;exact⟨[],rfl,rfl⟩
 |cons n ns ih=>
  intro us r;cases r with
  |cons r1 r2=>
   obtain⟨t,rfl⟩:=r1;obtain⟨xs,h1,h2⟩:=ih r2;exact⟨(n,t)::xs,by rw[ax,<-h1],by rw[ax,h2]⟩
def b1p(hc:X.calm=true):CallR X (.builtin "max") (λxs H Q=>∃(p:aw) (i:Int) (r:List Int),xs=[.ref p]/\SqX X.K H p ((i::r).map V.int)/\Q (.int (P7 i r)) H):=by
 intro pins s σ H xs us Q I rv h;obtain⟨p,i,r,rfl,hp,q⟩:=h;obtain⟨u,rfl,rx⟩:=vals1 rv;cases (show u=bH p from rx)
 obtain⟨_,its,n,xB,ho⟩:=hp.ok I;obtain⟨ys,h1,h2⟩:=a8x xB;have e1:its.toArray=intItems ys.toArray:=by rw[h1];simp[intItems]
 have hl:s.heap.IsList p (intItems ys.toArray):=⟨_,ho,rfl,n,by rw[<-e1]⟩;have hlen:ys.length=r.length+1:=by have:=dB dY h2;simpa using this
 have num:∀j,j<ys.length->oq ys.toArray j=(i::r).getD j 0:=λj hj=>by
  have:(ys.map (·.1))[j]?=(i::r)[j]?:=by rw[h2]
  unfold oq;rw[ag,<-this];simp
 refine max_intList (I.ok.hd hc) hl (by simp;lia) λv h' tk hv hk=>?_
 obtain⟨t,rfl⟩:=intItems_at hv;obtain⟨b1,b2⟩:=argBest_gt (oq ys.toArray) (ys.toArray.size-1);have ku:ys.toArray.size=r.length+1:=by simp[hlen]
 have hb:argBest (λi j=>decide (oq ys.toArray i>oq ys.toArray j)) (ys.toArray.size-1)<ys.length:=by lia
 have hm:oq ys.toArray (argBest (λi j=>decide (oq ys.toArray i>oq ys.toArray j)) (ys.toArray.size-1))=P7 i r:=by
  obtain⟨g1,g2,g3⟩:=a9K r i;generalize argBest (λi j=>decide (oq ys.toArray i>oq ys.toArray j)) (ys.toArray.size-1)=a at b1 b2 hb;have up:oq ys.toArray a<=P7 i r:=by
   rw[num a hb];have iQ:(i::r).getD a 0∈i::r:=by
    rw[ag,ab (by simp;lia)];exact dA _
   rcases aH.mp iQ with z|z
   ·rw[z];exact g1
   ·exact g2 _ z
  have dn:P7 i r<=oq ys.toArray a:=by
   have iQ:P7 i r∈i::r:=by
    rcases g3 with z|z
    ·rw[z];exact aK
    ·exact av _ z
   obtain⟨j,hj,ej⟩:=iV.mp iQ;have nS:j<ys.length:=by simp at hj;lia
   have:=b2 j (by lia);rw[num j nS,ag,ab hj]at this;have e3:((i::r)[j]?).getD 0=(i::r)[j]:=by rw[ab hj];rfl
   simp only[Option.getD_some]at this;lia
  lia
 rw[hm];exact⟨.int (P7 i r),H,I.kept (t':=tk) λb o e=>hk b o e,⟨t,rfl⟩,q⟩
def a9L(hc:X.calm=true):a9u X (.builtin "max") a0d:=by
 refine⟨_,b1p hc,λxs H ds d Q hd hg q=>?_⟩
 match ds,hg with
 |[.list es],hg=>
  obtain⟨is,h1,g1⟩:=bnd (show (intsOf es).bind _=xn d from hg);cases is with
  |nil=>cases g1
  |cons i r=>
   cases g1
   obtain⟨v,rfl,h⟩:=a0M hd;obtain⟨a,ys,rfl,h2,h3⟩:=h.list_inv;have he:=J7 h1;subst he;have hv:ys=(i::r).map V.int:=by
    clear h1 hg hd h h2 q;generalize (i::r)=l at h3
    induction l generalizing ys with
    |nil=>exact h3.nil_inv
    |cons x l ih=>
     obtain⟨w,rs,rfl,k1,k2⟩:=h3.cons_inv;rw[k1.int_inv,ih _ k2];rfl
   subst hv;exact⟨a,i,r,rfl,h2,q _ (by simp only[imm]) λ_=>den_int⟩
 |[.none],hg|[.bool _],hg|[.str _],hg|[.dict _],hg|[.int _],hg|[.tuple _],hg=>cases hg
 |[],hg=>cases hg
 |d1::_::_,hg=>cases d1<;>cases hg
end
def Itv(K:af)(a:aw)(n:Nat):It:=
 ⟨λi H=>i<n/\∃xs,SqL K H a xs/\xs.length=n,λi H x H'=>H'=H/\∀xs,SqL K H a xs->xs[n-1-i]?=xn x,λi _=>n<=i⟩
def b3C(a it:aw)(n:Nat):Turn P w K tg (Itv K a n) [it] it (λi h=>i<=n/\h.IsRevIter it a ((n:Int)-1-(i:Int))) where
 mem:=by simp
 obj:=λi h st b hb=>by
  have e:b=it:=by simpa using hb
  subst e;obtain⟨_,o,e,c,d⟩:=st;exact⟨o,e,λv z=>by rw[d]at z;cases z⟩
 keep:=λi h h' st k=>⟨st.1,st.2.at λo e=>k it (by simp) o e⟩
 item:=by
  intro X hP hw hK hc i pins s σ H E I hf st hg;subst hP hw hK;obtain⟨hi,xs,hq,ow⟩:=hg;obtain⟨its,rv,p,hz⟩:=I.list hq;have jv:n-1-i<xs.length:=by lia
  obtain⟨u,hu,ru⟩:=rv.get (ab jv);obtain⟨f0,f1,f2,f3,f4,f5⟩:=hf it (by simp);have e:(n:Int)-1-(i:Int)=((n-1-i:Nat):Int):=by lia
  have hit:=st.2;rw[e]at hit;refine wpAny_pyNext_rev_item hit p.isList (x:=u) (by simpa using hu) λh' cO sb=>?_
  have e2:((n-1-i:Nat):Int)-1=(n:Int)-1-((i+1:Nat):Int):=by lia
  rw[e2]at cO;have I1:Inv X pins σ H {s with heap:=h'}:=I.turned (t':=s.toks) (λb o hb e=>(sb.2 b hb).trans e) f0 f1 f3 f4 f5;obtain⟨o,eo,c,d⟩:=id cO;exact⟨u,rfl,b2B (s:={s with heap:=h'}) eo c d (by decide) ⟨_,H,I1,ru,⟨rfl,λys hy=>by rw[I.list_inj hy hq];exact ab jv⟩,⟨by lia,cO⟩,λb hb=>(hf b hb).1⟩⟩
 done:=by
  intro X hP hw hK hc i pins s σ H E I hf st hg;subst hP hw hK;obtain⟨f0,f1,f2,f3,f4,f5⟩:=hf it (by simp);have hn:n<=i:=hg;have e:(n:Int)-1-(i:Int)=-1:=by have:=st.1;lia
  have hit:=st.2;rw[e]at hit;exact wpAny_pyNext_rev_end (I.ok.hd hc) hit λh' eb=>⟨rfl,I.turned (t':=s.toks) (λb o hb e=>eb b o hb e) f0 f1 f3 f4 f5⟩
 self:=λ_ _ _ _ _ st h=>wpAny_pyIter_revIter st.2 h
noncomputable def iRv(a:EvE):EvA:=λZ=>(a Z).bind λd=>(asL d).bind λds=>xn ds.reverse
section
variable {X:Cx}{M:List Md}{a b e tg:Expr}{fa fb:EvE}{ca cb:Cat}{pos p apos cF:fM}
def c1q(K:af)(ta:TA):TI:=λσ H R=>ta σ H λvs H1=>∃a xs,vs=[.ref a]/\SqL K H1 a xs/\R (Itv K a xs.length) H1
open PyProof.Rows in
def b9z(hg:Gl X "reversed")(hm:X.mg "reversed"=xI)(ha:PA X [a] ta)(hs:ar [a] X.env=[(false,cK a X.env)]:=by rfl):PI X tg (.Call (.Name "reversed" p) [a] [] pos) (c1q X.K ta):=by
 intro pins s σ H R I h;refine Call_ (a0n I hg hm PyProof.Rows.Boot.«reversed» (gn (L2.thn (ha pos pins s σ H _ I h) λus s1 ⟨vs,H1,I1,r1,q1⟩=>?_) hs rfl));obtain⟨l,xs,e,hq,q⟩:=q1;subst e;cases r1 with
 |cons r rr=>
  cases rr
  cases (show _=bH l from r)
  obtain⟨its,rv,pl,hz⟩:=I1.list hq;have hlen:its.toArray.size=xs.length:=by rw[bp];exact rv.length.symm
  refine call_reversed_list pl.isList ?_;refine wpAny_pyIter_revIter (it:=s1.heap.objs.size) (l:=l) (i:=(its.toArray.size:Int)-1) ⟨_,be _ rfl,rfl,rfl⟩ ?_;refine⟨s1.heap.objs.size,[s1.heap.objs.size],_,_,H1,rfl,I1.kept (t':=s1.toks) λb o e=>aE _ e,b3C l _ xs.length,⟨cE _,?_⟩,λb hb=>?_,q⟩
  ·have e0:(xs.length:Int)-1-((0:Nat):Int)=(its.toArray.size:Int)-1:=by rw[hlen];lia
   rw[e0];exact⟨_,be _ rfl,rfl,rfl⟩
  ·have e:b=s1.heap.objs.size:=by simpa using hb
   subst e;exact I1.fpOk (ay _) (I1.hok.fresh (ay _))
def b1q{K:af}{a:aw}{xs:List V}:Walks (Itv K a xs.length) (λH=>SqL K H a xs) xs.reverse where
 go:=λi H h hi=>⟨by simpa using hi,xs,h,rfl⟩
 stop:=λi H h hi=>by show xs.length<=i;simpa using hi
 yld:=λi H x H' h hi y=>by
  refine⟨y.1,?_⟩;have lH:i<xs.length:=by simpa using hi
  rw[List.getElem?_reverse lH];exact y.2 xs h
theorem W7:∀{ds:List D} {xs:List V},DenAll K H xs ds->DenAll K H xs.reverse ds.reverse
 |[],_,h=>by rw[h.nil_inv];exact denAll_nil
 |d::ds,_,h=>by
  obtain⟨v,r,rfl,h1,h2⟩:=h.cons_inv;rw[jX,jX];exact (W7 h2).append (denAll_cons h1 denAll_nil)
def b6n(hm:X.mg "reversed"=xI)(h:PX X M a fa ca)(hc:frozen ca:=by trivial)(hg:Gl X "reversed":=by rfl)(he:ar [a] X.env=[(false,cK a X.env)]:=by rfl)(nU:ar [a] X.env=(false,cK a X.env)::ar [] X.env:=by rfl) :
  PIX X M tg (.Call (.Name "reversed" p) [a] [] pos) (iRv fa):=by
 obtain⟨t,p,q⟩:=h.out;refine⟨_,b9z hg hm (k8 p p5 nU) he,λZ σ H P F ds R S hf k=>?_⟩;obtain⟨d,h1,g1⟩:=bnd hf;obtain⟨es,h2,g2⟩:=bnd g1;cases P4 h2
 cases g2
 refine q Z σ H P F _ _ S h1 λv H1 e1 r1=>?_
 obtain⟨aa,xs,rfl,k1,k2⟩:=(Y5 hc r1).list_inv;exact⟨aa,xs,rfl,(O6 k1 j5).l,k _ xs.reverse _ H1 e1 b1q (λH2 e2=>(O6 k1 e2).l) (W7 k2)⟩
def a3q:D->D->Option D
 |.list ds,y=>if bb ds&&y.canLay0&&decide (y.depth<=60) then xn (.int (ds.countP λd=>aI d y)) else xI
 |_,_=>xI
def b9A(K:af):V->List V->Hp->VK->Prop:=λx xs H Q=>∃p ys ds y d,x=.ref p/\xs=[y]/\SqX K H p ys/\DenAll K H ys ds/\Den K H y d/\bb ds=true/\d.canLay0=true/\d.depth<=60/\Q (.int (ds.countP λe=>aI e d)) H
def a5O(r:iT h us ds as):∀{j:Nat} {u:aj},us[j]?=xn u->∃d bs,ds[j]?=xn d/\Reads h u d bs:=by
 induction ds generalizing us as with
 |nil=>intro j u hu;cases r;simp at hu
 |cons d ds ih=>
  intro j u hu;cases r with
  |cons r1 r2=>
   cases j with
   |zero=>cases hu;exact⟨_,_,rfl,r1⟩
   |succ j=>exact ih r2 (by simpa using hu)
open Classical in
noncomputable def b6o(h:cR)(d:D)(u:aj):Bool:=decide (∃d' bs,Reads h u d' bs/\d'.canLay0=true/\aI d' d=true)
def a9M{d e:D}(r:Reads h u e bs)(hl:e.canLay0=true):b6o h d u=aI e d:=by
 unfold b6o;cases q:aI e d with
 |true=>exact @aQ _ (_) ⟨e,bs,r,hl,q⟩
 |false=>
  refine @ba _ (_) ?_;rintro⟨d',EF,r1,r2,r3⟩;rw[SeqAt.Reads.unique d' e u _ _ r2 r1 r,q]at r3;cases r3
def b3D(hu:X.A.units+64<dF):MtR X "list.count" (b9A X.K):=by
 intro pins s σ H x xs v us Q I rx rv h;obtain⟨p,ys,ds,y,d,rfl,rfl,hp,DD,hd,c1,c2,c3,q⟩:=h;cases (show v=bH p from rx)
 obtain⟨w,rfl,rw⟩:=rv.one;obtain⟨_,its,n,xB,ho⟩:=hp.ok I;obtain⟨as,ra⟩:=DenAll.reads I ds c1 DD xB;obtain⟨bs,rb⟩:=Den.reads I d c2 hd rw;have lay:∀{l:List D} {e:D},bb l=true->e∈l->e.canLay0=true:=by
  intro l
  induction l with
  |nil=>intro e _ he;cases he
  |cons x l ih=>
   intro e hl he;simp only[bb,aD]at hl;rcases aH.mp he with z|z
   ·rw[z];exact hl.1
   ·exact ih hl.2 z
 have cnt:∀{us:List aj} {ds:List D} {as:List aw},iT s.heap us ds as->bb ds=true->us.countP (b6o s.heap d)=ds.countP λe=>aI e d:=by
  intro us ds
  induction ds generalizing us with
  |nil=>intro as r _;cases r;rfl
  |cons d0 ds ih=>
   intro as r hl;simp only[bb,aD]at hl;cases r with
   |cons r1 r2=>rw[EO,EO,ih r2 hl.2,a9M r1 hl.1]
 refine call_meets rW ⟨_,ho,rfl⟩ PySem.F.entry_list_count (PySem.F.args_list_count_2 _ _) (SeqAt.list_countAt p its.toArray n xI #[] w (b6o s.heap d)) ⟨ho,λu rE=>?_,⟨.int _,H,I.tok _,⟨_,rfl⟩,?_⟩⟩
 ·obtain⟨j,hj⟩:=cS.mp (show u∈its by simpa using rE);obtain⟨e,EF,he,re⟩:=a5O ra hj;have hle:=lay c1 (br he);rw[a9M re hle];exact rf e d X.A.in1 s _ _ _ _ re rb hle c2 (by have:=Nat.min_le_right e.depth d.depth;show X.A.units+1+_<_;lia)
 ·have:=cnt ra c1;simp only[xq];rw[this];exact q
def b3E(hu:X.A.units+64<dF)(ha:PX X M a fa ca)(hb:PX X M b fb cb)(fm:dM a "count" X.env (cK a X.env)=cK a X.env:=by rfl)
  (ic:((cB cF (ar [b] X.env)).all (λx=>!x.1)&&(eK cF (dh [] X.env)).all (λx=>x.1.isSome)
   && decide (([b]:List Expr).length+([]:List eB).length+(if ([]:List eB).isEmpty then 0 else 1)<30))=true:=by rfl)
  (fg:(apos.endLine==cF.line)=true:=by rfl) (hs:ar [b] X.env=(false,cK b X.env)::ar [] X.env:=by rfl) (dZ:(cB cF (ar [] X.env)).any (·.1)=false:=by rfl) :
  PX X M (.Call (.Attribute a "count" apos) [b] [] cF) (e2 a3q fa fb) (.new .i):=by
 obtain⟨ta,pa,qa⟩:=ha.out;obtain⟨tb,pb,qb⟩:=hb.out;refine .mk ⟨_,a4F eM rW PySem.F.type_list_count (b3D hu) pa (k8 pb p5 hs) fm ic fg hs dZ,λZ σ H P F d Q S hf q=>?_⟩;obtain⟨x,y,h1,h2,h3⟩:=D7 hf;have hx:∃ds,x=.list ds/\(bb ds&&y.canLay0&&decide (y.depth<=60))=true/\d=.int (ds.countP λd=>aI d y):=by
  cases x with
  |list ds=>
   have qU:(if (bb ds&&y.canLay0&&decide (y.depth<=60))=true then xn (aO (ds.countP λd=>aI d y)) else xI)=xn d:=h3;by_cases c:(bb ds&&y.canLay0&&decide (y.depth<=60))=true
   ·rw[aB c]at qU;exact⟨ds,rfl,c,(aF qU).symm⟩
   ·rw[aJ c]at qU;cases qU
  |_=>cases h3
 obtain⟨ds,rfl,c,rfl⟩:=hx;rw[aD,aD]at c;refine qa Z σ H P F _ _ S h1 λv H1 e1 r1=>?_
 obtain⟨p,xs,rfl,k1,k2⟩:=r1.den.list_inv;refine⟨.inl ⟨rfl,xs,k1.l⟩,qb Z σ H1 P F y _ (S.grow e1) h2 λw H2 e2 r2=>?_⟩;exact⟨p,xs,ds,w,y,rfl,rfl,O6 k1 e2,k2.up e2,r2.den,c.1.1,c.1.2,bx c.2,q _ H2 (e1.trans e2) (K3 (by simp only[imm]) den_int (S.lst' (e1.trans e2)))⟩
end
noncomputable def PXL(X:Cx)(M:List Md)(i:Nat)(e:Expr)(f:EvE)(c:Cat):Prop:=
 ∃t,PE X e t/\∀(Z:List D) (σ:L2.St) (H P:Hp) (F:List aw) (d:D) (v:V) (Q:VK),StE X.K M Z σ H P F->σ[i]?=xn (xn v)->Den X.K H v (Z.getD i .none)->f Z=xn d->(∀v H',Same H H'->ResR X.K c H H' F v d->Q v H')->t σ H Q
noncomputable def b6p(X:Cx)(M:List Md)(i:Nat)(es:List Expr)(f:EvA):Prop:=
 ∃t,PA X es t/\∀(Z:List D) (σ:L2.St) (H P:Hp) (F:List aw) (ds:List D) (v:V) (Q:List V->Hp->Prop),StE X.K M Z σ H P F->σ[i]?=xn (xn v)->Den X.K H v (Z.getD i .none)->f Z=xn ds->(∀vs H',Same H H'->DenAll X.K H' vs ds->Q vs H')->t σ H Q
section
variable {X:Cx}{M M1 M2 ML M':List Md}{a e e0:Expr}{es:List Expr}{f fa:EvE}{c ca:Cat}{i j:Nat}{u w t:Ty}{x y:bE}{pos p:fM}
def PXL.of(h:PX X M e f c):PXL X M i e f c:=by
 obtain⟨t,p,q⟩:=h.out;exact⟨t,p,λZ σ H P F d v Q S _ _ hf k=>q Z σ H P F d Q S hf k⟩
def a6V(hN:X.N[i]?=xn x:=by rfl)(hv:Vis X.env.scope x:=by first|exact bY rfl|exact bR (bY rfl)|exact bR (bR rfl))(hd:(x==("__debug__":bE))=false:=by decide)
  (iF:(x==("__classdict__":bE))=false:=by decide):PXL X M i (.Name x pos) (a6 i) .tmp:=by
 refine⟨_,B5 hN hv hd iF,λZ σ H P F d v Q S hs yQ hf k=>?_⟩;cases hf
 exact⟨v,hs,k v H (Same.refl _) yQ⟩
def a6W:b6p X M i [] b9:=⟨_,p5,λZ σ H P F ds v Q S _ _ hf q=>by cases hf;exact q [] H (Same.refl _) denAll_nil⟩
def Y6(ha:PXL X M i a fa ca)(hr:b6p X M i es fr)(hs:ar (a::es) X.env=(false,cK a X.env)::ar es X.env:=by rfl):b6p X M i (a::es) (a7 fa fr):=by
 obtain⟨ta,pa,qa⟩:=ha;obtain⟨tr,pr,qr⟩:=hr;refine⟨_,k8 pa pr hs,λZ σ H P F ds v Q S hv hd hf q=>?_⟩;obtain⟨x,h1,hf⟩:=bnd hf;obtain⟨xs,h2,hf⟩:=bnd hf;cases hf
 exact qa Z σ H P F _ v _ S hv hd h1 λv1 H1 e1 r1=>qr Z σ H1 P F _ v _ (S.grow e1) hv (hd.up e1) h2 λvs H2 e2 r2=>q (v1::vs) H2 (e1.trans e2) (denAll_cons (r1.den.up e2) r2)
def a6X{k n:Nat}{ps:List bE}{m:List D->Option D}{f:EvA}(W:Has X.prog X.w X.K X.mg X.base x k ps (spD X.K n m u))(hr:Room k X.A)(h:b6p X M i (e0::es) f)(hu:u.shut=true:=by rfl)(hl:(e0::es).length=n:=by rfl)(hfl:∀Z ds,f Z=xn ds->ds.length=(e0::es).length)
  (hg:Gl X x:=by rfl) (lS:(x==("__debug__":bE))=false:=by decide) (he:ar (e0::es) X.env=(false,cK e0 X.env)::ar es X.env:=by rfl) (gE:(cB pos (ar es X.env)).any (·.1)=false:=by rfl) :
  PXL X M i (.Call (.Name x p) (e0::es) [] pos) (eCl m f) (.new u):=by
 obtain⟨t,pa,qa⟩:=h;refine⟨_,a7W W hr pa hg lS he gE,λZ σ H P F d v Q S hv yQ hf q=>?_⟩;obtain⟨ds,h1,hf⟩:=bnd hf;refine qa Z σ H P F ds v _ S hv yQ h1 λvs H1 e1 r1=>?_
 show spD X.K n m u (vs++[]) H1 Q E0;rw[bg];refine⟨ds,d,by rw[r1.length,hfl Z ds h1,hl],r1,hf,λv H' fp e o nd fr=>q v H' (e1.trans e) ⟨fp,o.shut_out (λa ha=>?_) u hu,nd,λa ha=>e1.free (fr a ha)⟩⟩;rcases aq.mp ha with z|z
 ·exact o.lst u a z
 ·exact S.lst' (e1.trans e) a z
noncomputable def Y7(j i:Nat)(f:EvE):EvS:=λZ=>match Z.getD j .none with
 |.list ds=>if ds.length<1000000 then (f (Z.set j (.list (ds++[Z.getD i .none])))).bind λd=>xn (.nx ((Z.set j (.list (ds++[Z.getD i .none]))).set i d)) else xI
 |_=>xI
def b1r(j i:Nat){apos cF mZ:fM}(gC:i≠j)(xc:X.N.Nodup)(xa:X.N[j]?=xn x:=by rfl)(xb:X.N[i]?=xn y:=by rfl)(hm:M[j]?=xn (.own (.l t)):=by rfl)(vn:M[i]?=xn (.own t):=by rfl)
  (hL:PXL X (M.set i .dead) i e f (.new t)) (jD:PSsX X w ML M nL g M')
  (xZ:Vis X.env.scope x:=by first|exact bY rfl|exact bR (bY rfl)|exact bR (bR rfl)) (yR:(x==("__debug__":bE))=false:=by decide) (yU:(x==("__classdict__":bE))=false:=by decide)
  (sC:Vis X.env.scope y:=by first|exact bY rfl|exact bR (bY rfl)|exact bR (bR rfl)) (oS:(y==("__debug__":bE))=false:=by decide) (yV:(y==("__classdict__":bE))=false:=by decide)
  (CN:Loc X.env.scope y:=by first|exact bY rfl|exact bR rfl) (vD:X.fn y=true∨X.env.scope.names.lookup y=xn .local:=by first|exact .inl rfl|exact .inr rfl)
  (fm:dM (.Name x px) "append" X.env (cK (.Name x px) X.env)=cK (.Name x px) X.env:=by rfl)
  (ic:((cB cF (ar [.Name y py] X.env)).all (λx=>!x.1)&&(eK cF (dh [] X.env)).all (λx=>x.1.isSome)
   && decide (([.Name y py]:List Expr).length+([]:List eB).length+(if ([]:List eB).isEmpty then 0 else 1)<30))=true:=by rfl)
  (fg:(apos.endLine==cF.line)=true:=by rfl) (hs:ar [.Name y py] X.env=(false,cK (.Name y py) X.env)::ar [] X.env:=by rfl) (dZ:(cB cF (ar [] X.env)).any (·.1)=false:=by rfl)
  (qN:fL (.Call (.Attribute (.Name x px) "append" apos) [.Name y py] [] cF) xI pos.line X.env=pure false:=by rfl) (sE:fL e (xn (.Name y pz)) mZ.line X.env=pure false:=by rfl) :
  PSsX X w ML M (.Expr (.Call (.Attribute (.Name x px) "append" apos) [.Name y py] [] cF) pos::.Assign [.Name y pz] e mZ::nL) (f8 (Y7 j i f) g) M':=by
 obtain⟨te,pe,qe⟩:=hL;obtain⟨tr,pr,qr⟩:=jD.out;refine .mk ⟨_,a0G (Q6 (a4F eM km kl Y1 (B5 xa xZ yR yU) (k8 (B5 xb sC oS yV) p5 hs) fm ic fg hs dZ) qN) (a0G (a7N xc xb CN pe sE vD) pr),λD Z σ H P F o S hg k=>?_⟩;obtain⟨o1,h1,g1⟩:=bnd hg;have hl:∃ds d,Z.getD j .none=.list ds/\ds.length<1000000/\f (Z.set j (.list (ds++[Z.getD i .none])))=xn d/\o1=.nx ((Z.set j (.list (ds++[Z.getD i .none]))).set i d):=by
  unfold Y7 at h1;cases hx:Z.getD j .none with
  |list ds=>
   rw[hx]at h1;have l_:(if ds.length<1000000 then (f (Z.set j (.list (ds++[Z.getD i .none])))).bind λd=>xn (Out.nx ((Z.set j (.list (ds++[Z.getD i .none]))).set i d)) else xI)=xn o1:=h1;by_cases c:ds.length<1000000
   ·rw[aB c]at l_;obtain⟨d,z1,z2⟩:=bnd l_;exact⟨ds,d,rfl,c,z1,(aF z2).symm⟩
   ·rw[aJ c]at l_;cases l_
  |_=>rw[hx]at h1;cases h1
 obtain⟨ds,d,hZ,hz,Dz,rfl⟩:=hl;obtain⟨vj,fj,sA,xF,_⟩:=S.toE.get hm;have pO:∃a xs,vj=.ref a/\H a=xn (.lst xs):=by
  rw[hZ]at xF;simp only[Own]at xF;rcases xF with⟨_,hi,_⟩|⟨a,xs,_,_,rfl,h2,_⟩
  ·simp only[imm]at hi;cases hi
  ·exact⟨a,xs,rfl,h2⟩
 obtain⟨a,xs,rfl,ha⟩:=pO;obtain⟨vi,qL,S1⟩:=S.pend.move vn;have t_:(M.set i .dead)[j]?=xn (.own (.l t)):=by rw[bF gC];exact hm
 have ue:dAt (.l t) (Z.getD j .none) []=xn (.l t,.list ds):=by rw[hZ];rfl
 obtain⟨b',kH,e',uH,hlen,S3,_⟩:=S1.put t_ sA ue (show wk H (.ref a) [] (.ref a) from rfl);cases e'
 rw[hZ]at S3;refine⟨.ref a,sA,.inl ⟨rfl,xs,SqL.of ha⟩,vi,qL,a,kH,vi,rfl,rfl,uH,by rw[hlen];exact jz hz (by rw[dg];decide),?_⟩;have zE:StR X.K (M.set i .dead) (Z.set j (.list (ds++[Z.getD i .none]))) σ (upd H a (.lst (kH++[vi]))) P F:=S3;have kJ:Den X.K (upd H a (.lst (kH++[vi]))) vi (Z.getD i .none):=by
  obtain⟨v2,f2,tR,o2,_⟩:=zE.toE.get t_;rw[sA]at tR;cases tR
  have lR:∃x,Z[j]?=xn x:=by
   obtain⟨G,q1,_⟩:=S.all;obtain⟨d0,_,_,_,_,z1,_⟩:=q1.at_ hm;exact⟨d0,z1⟩
  obtain⟨x0,tP⟩:=lR;have qP:j<Z.length:=(aL.mp tP).1;have Dr:(Z.set j (.list (ds++[Z.getD i .none]))).getD j .none=.list (ds++[Z.getD i .none]):=by
   rw[ag,er qP];rfl
  rw[Dr]at o2;simp only[Own]at o2;rcases o2 with⟨_,hi,_⟩|⟨a2,ys,es,fs,ea,h2,ed,_,la⟩
  ·simp only[imm]at hi;cases hi
  ·cases ea
   cases ed
   rw[g8]at h2;cases h2
   have oQ:kH.length=ds.length:=hlen;obtain⟨v3,f3,_,_,e3,d3,_⟩:=la.at_ (k:=ds.length) (d:=Z.getD i .none) (by simp);rw[<-oQ,cQ (ay _),kP]at e3;cases e3
   exact d3.den
 have Ds:(Z.set j (.list (ds++[Z.getD i .none]))).getD i .none=Z.getD i .none:=by
  rw[ag,ag,bF (cY gC)]
 refine qe _ σ _ P F d vi _ zE.toE qL (by rw[Ds];exact kJ) Dz λv4 H4 e4 r4=>?_
 obtain⟨fp,o4,n4,f4⟩:=r4;have CL:(M.set i .dead)[i]?=xn .dead:=by
  have mB:i<M.length:=(aL.mp vn).1;rw[er mB]
 have S5:=zE.set CL e4 o4 n4 f4;rw[List.set_set,set_same vn]at S5;exact qr D _ _ _ P _ o S5 g1 k
end
def b6q{X:Cx}{pins:List (aw×fY)}{σ:L2.St}{H:Hp}{s:au}{h':cR}{t':Nat}{ch:List aw}{T:aw}{xs:List V}(I:Inv X pins σ H s)(k:∀b o,b∉ch->s.heap.get? b=xn o->h'.get? b=xn o)
  (hf:∀b∈ch,a4j X pins H b) (hT:s.heap.objs.size<=T) (new:ObjOk X.prog X.w (upd H T (.tup xs)) h' T (.tup xs)):Inv X pins σ (upd H T (.tup xs)) {s with heap:=h',toks:=t'}:=by
 have hn:H T=xI:=I.hok.fresh hT;have neT:∀b o,s.heap.get? b=xn o->b≠T:=λb o e z=>absurd (bo (aU e) (by rw[z];exact hT)) (dQ _)
 have pH:∀b u,H b=xn u->b∉ch:=λb u e hb=>by rw[(hf b hb).1]at e;cases e
 refine I.step (g':=s.gens) (d':=s.drawn) (ch:=ch) (λb hb=>⟨(hf b hb).2.2.2.1,(hf b hb).2.1,(hf b hb).2.2.2.2.1,(hf b hb).2.2.2.2.2⟩) (λb o _ _ hc e _=>k b o hc e) (λb o _ _ hc e _=>⟨o.slots,k b o hc e⟩) (λb o _ e n=>by rw[c7 (neT b o e)];exact n)
  (λb o hc e=>⟨o,k b o hc e⟩) (λb ys e=>by rw[c7 (i7 e hn)];exact e) (λb o u e=>by rw[c7 (i7 e hn)];exact e) (λb ps e=>⟨#[],by rw[c7 (i7 e hn),e];simp⟩) (λm hm=>?_) (λb u e=>?_) I.bare
 ·obtain⟨o,es,ep,ho,r⟩:=hm;exact⟨o,es,ep,k _ o (λhb=>(hf _ hb).2.1 rfl) ho,r⟩
 ·by_cases hb:b=T
  ·subst hb;rw[g8]at e;cases e;exact new
  ·rw[c7 hb]at e;refine (I.hok b u e).stay (λc v hc q=>k c v ?_ q) (λc q=>by rw[c7 (i7 q hn)];exact q) λc ys q=>by rw[c7 (i7 q hn)];exact q
   rcases hc with z|z
   ·rw[z];exact pH b u e
   ·exact pH c _ z
def b6r{X:Cx}{pins:List (aw×fY)}{σ:L2.St}{H:Hp}{s:au}{h':cR}{t':Nat}{ch:List aw}(I:Inv X pins σ H s)(k:∀b o,b∉ch->s.heap.get? b=xn o->h'.get? b=xn o)
  (hf:∀b∈ch,a4j X pins H b):Inv X pins σ H {s with heap:=h',toks:=t'}:=by
 have pH:∀b u,H b=xn u->b∉ch:=λb u e hb=>by rw[(hf b hb).1]at e;cases e
 refine I.step (g':=s.gens) (d':=s.drawn) (ch:=ch) (λb hb=>⟨(hf b hb).2.2.2.1,(hf b hb).2.1,(hf b hb).2.2.2.2.1,(hf b hb).2.2.2.2.2⟩) (λb o _ _ hc e _=>k b o hc e) (λb o _ _ hc e _=>⟨o.slots,k b o hc e⟩) (λb o _ e n=>n)
  (λb o hc e=>⟨o,k b o hc e⟩) (λb ys e=>e) (λb o u e=>e) (λb ps e=>⟨#[],by rw[e];simp⟩) (λm hm=>?_) (λb u e=>?_) I.bare
 ·obtain⟨o,es,ep,ho,r⟩:=hm;exact⟨o,es,ep,k _ o (λhb=>(hf _ hb).2.1 rfl) ho,r⟩
 ·refine (I.hok b u e).stay (λc v hc q=>k c v ?_ q) (λc q=>q) λc ys q=>q
  rcases hc with z|z
  ·rw[z];exact pH b u e
  ·exact pH c _ z
def Ite(K:af)(a:aw):It:=
 ⟨λi H=>∃xs x,SqL K H a xs/\xs[i]?=xn x,λi H x H'=>∃T y,H T=xI/\H'=upd H T (.tup [.int i,y])/\x=.ref T/\∀xs,SqL K H a xs->xs[i]?=xn y,λi H=>∃xs,SqL K H a xs/\xs.length<=i⟩
def b1s{P:bw}{w:b_}{K:af}{elts:List Expr}{kk:Nat}{lr:fM}(a e it:aw)(DB:e≠it):Turn P w K (.Tuple elts kk lr) (Ite K a) [e,it] e (λi h=>(∃old,IsEnum h e it i old)/\h.IsListIter it a i) where
 mem:=by simp
 obj:=λi h st b hb=>by
  obtain⟨⟨old,he⟩,o,eo,c,d⟩:=st;rcases aH.mp hb with rfl|hb
  ·exact⟨_,he,λv z=>by cases z⟩
  ·cases ao.mp hb
   exact⟨o,eo,λv z=>by rw[d]at z;cases z⟩
 keep:=λi h h' st k=>by
  obtain⟨⟨old,he⟩,hit⟩:=st;exact⟨⟨old,k e (by simp) _ he⟩,hit.at λo x=>k it (by simp) o x⟩
 item:=by
  intro X hP hw hK hc i pins s σ H E I hf st hg;subst hP hw hK;obtain⟨xs,x,hq,hx⟩:=hg;obtain⟨its,rv,p,hz⟩:=I.list hq;obtain⟨u,hu,ru⟩:=rv.get hx;obtain⟨⟨old,he⟩,hit⟩:=st;have hle:a≠e:=λz=>by
   obtain⟨o,eo,c,_⟩:=p.isList;rw[z,he]at eo;cases eo
   exact absurd (show fF "enumerate"=fF "list" from c) (by decide)
  have CU:a≠it:=λz=>by
   obtain⟨o,eo,c,_⟩:=p.isList;obtain⟨o2,Em,c2,_⟩:=hit;rw[z,Em]at eo;cases eo
   rw[c2]at c;exact absurd c (by decide)
  have W:=WalksT.enumerate (prog:=X.prog) (w:=X.w) (A:=X.A) (I.ok.hd hc) e it a DB hle CU its.toArray;have mB:i<its.toArray.size:=by
   have:=(aL.mp hu).1;simpa using this
  refine W.item i s _ E mB ⟨⟨old,he⟩,hit,p.isList⟩ λT vals h' tk hP hT yc vX hk=>⟨.ref T,rfl,W.go elts kk lr i T {s with heap:=h',toks:=tk} _ E vX λh2 uY sO=>?_⟩
  obtain⟨t,y,hy,rfl⟩:=hP;have ey:y=u:=by
   have h1:its[i]?=xn y:=by simpa using hy
   rw[hu]at h1;exact (aF h1).symm
  subst ey;have AL:=W.apart i T h' vX;obtain⟨oT,eT,cT⟩:=yc;have hn:H T=xI:=I.hok.fresh hT;have new:ObjOk X.prog X.w (upd H T (.tup [.int i,x])) h2 T (.tup [.int i,x]):=by
   refine⟨by rw[dg];show 2<=_;decide,[.int i t,y],?_,oT,sO T oT AL eT,cT⟩;exact .cons ⟨t,rfl⟩ (.cons ru .nil)
  refine⟨.ref T,upd H T (.tup [.int i,x]),b6q (s:=s) (t':=tk) I (λb o hb q=>sO b o hb (hk b o hb q)) hf hT new,rfl,⟨T,x,hn,rfl,rfl,λys uQ=>by rw[I.list_inj uQ hq];exact hx⟩,⟨uY.1,uY.2.1⟩,λb hb=>?_⟩;rw[c7 (λz=>AL (by rw[<-z];exact hb))];exact (hf b hb).1
 done:=by
  intro X hP hw hK hc i pins s σ H E I hf st hg;subst hP hw hK;obtain⟨xs,hq,hx⟩:=hg;obtain⟨its,rv,p,hz⟩:=I.list hq;have hl:=rv.length;obtain⟨⟨old,he⟩,hit⟩:=st;exact wpAny_pyNext_enum_end (I.ok.hd hc) he hit p.isList (fV (by simp;lia)) λh' hx=>⟨rfl,b6r (t':=s.toks) I (λb o hb y=>hx b o (λz=>hb (by simp[z])) y) hf⟩
 self:=λ_ _ _ _ _ st h=>by
  obtain⟨⟨old,he⟩,_⟩:=st;exact wpAny_pyIter_enum he h
def G0:List D->Nat->List D
 |[],_=>[]
 |d::ds,k=>.tuple [.int k,d]::G0 ds (k+1)
noncomputable def iEn(a:EvE):EvA:=λZ=>(a Z).bind λd=>(asL d).bind λds=>xn (G0 ds 0)
theorem a3r:∀(ds:List D) (k:Nat),(G0 ds k).length=ds.length
 |[],_=>rfl
 |d::ds,k=>by show (G0 ds (k+1)).length+1=_;rw[a3r ds];rfl
theorem a3s:∀(ds:List D) (k i:Nat) (d:D),ds[i]?=xn d->(G0 ds k)[i]?=xn (.tuple [.int ((k+i:Nat):Int),d])
 |[],_,i,d,h=>by simp at h
 |d0::ds,k,0,d,h=>by
  have:d0=d:=by simpa using h
  subst this;rfl
 |d0::ds,k,i+1,d,h=>by
  have:=a3s ds (k+1) i d (by simpa using h);show (G0 ds (k+1))[i]?=_;rw[this,gd,jA 1]
section
variable {X:Cx}{M ML:List Md}{a e iter:Expr}{elts:List Expr}{kk:Nat}{lr pos p:fM}{fa:EvE}{ca:Cat}{u:Ty}{body:List iy}{g:EvS}
def c2H(K:af)(ta:TA):TI:=λσ H R=>ta σ H λvs H1=>∃a xs,vs=[.ref a]/\SqL K H1 a xs/\R (Ite K a) H1
open PyProof.Rows in
def b6s(hg:Gl X "enumerate")(hm:X.mg "enumerate"=xI)(ha:PA X [a] ta)(hs:ar [a] X.env=[(false,cK a X.env)]:=by rfl):PI X (.Tuple elts kk lr) (.Call (.Name "enumerate" p) [a] [] pos) (c2H X.K ta):=by
 intro pins s σ H R I h;refine Call_ (a0n I hg hm PyProof.Rows.Boot.«enumerate» (gn (L2.thn (ha pos pins s σ H _ I h) λus s1 ⟨vs,H1,I1,r1,q1⟩=>?_) hs rfl));obtain⟨l,xs,e,hq,q⟩:=q1;subst e;cases r1 with
 |cons r rr=>
  cases rr
  cases (show _=bH l from r)
  obtain⟨its,rv,pl,hz⟩:=I1.list hq;refine call_enumerate_list pl.isList λh' he hit ku hk=>?_
  refine wpAny_pyIter_enum he ?_;refine⟨s1.heap.objs.size+1,[s1.heap.objs.size+1,s1.heap.objs.size],_,_,H1,rfl,I1.kept (t':=s1.toks) hk,b1s l _ _ (Nat.succ_ne_self _),⟨⟨_,he⟩,hit⟩,λb hb=>?_,q⟩;have uj:s1.heap.objs.size<=b:=by
   rcases aH.mp hb with z|z
   ·rw[z];exact wo _
   ·rw[ao.mp z];exact ay _
  exact I1.fpOk uj (I1.hok.fresh uj)
noncomputable def c1r(X:Cx)(M:List Md)(tg iter:Expr)(f:EvE):Prop:=
 ∃wi,PI X tg iter wi/\∀(Z:List D) (σ:L2.St) (H P:Hp) (F:List aw) (ds:List D) (R:It->Hp->Prop),StE X.K M Z σ H P F->f Z=xn (.list ds)->
  (∀a xs H1,Same H H1->(∀H2,Same (cut H1 F) H2->SqL X.K H2 a xs)->DenAll X.K (cut H1 F) xs ds->R (Ite X.K a) H1)->wi σ H R
def b9B(hm:X.mg "enumerate"=xI)(h:PX X M a fa ca)(hc:frozen ca:=by trivial)(hg:Gl X "enumerate":=by rfl)(he:ar [a] X.env=[(false,cK a X.env)]:=by rfl)(nU:ar [a] X.env=(false,cK a X.env)::ar [] X.env:=by rfl) :
  c1r X M (.Tuple elts kk lr) (.Call (.Name "enumerate" p) [a] [] pos) fa:=by
 obtain⟨t,p,q⟩:=h.out;refine⟨_,b6s hg hm (k8 p p5 nU) he,λZ σ H P F ds R S hf k=>?_⟩;refine q Z σ H P F _ _ S hf λv H1 e1 r1=>?_
 obtain⟨aa,xs,rfl,k1,k2⟩:=(Y5 hc r1).list_inv;exact⟨aa,xs,rfl,(O6 k1 j5).l,k _ xs H1 e1 (λH2 e2=>(O6 k1 e2).l) k2⟩
def b3F{Z ps:List D}(h:iI f Z=xn ps):f Z=xn ps:=by
 obtain⟨ds,h1,g1⟩:=bnd h;by_cases c:e7 ds=true
 ·have:(if e7 ds=true then xn ds else xI)=xn ps:=g1;rw[aB c]at this;rw[h1,this]
 ·have:(if e7 ds=true then xn ds else xI)=xn ps:=g1;rw[aJ c]at this;cases this
def a5P{set:List D->D->Option (List D)}{m:D->Prop}(hc:X.calm=true)(hp:nJ (aY X.prog X.w) X.A X.env X.xe)(hi:c1r X M tg iter fa)(hg:PG X tg gt)(hs:b3h X.K M MB gt set m)(hm:∀Z ds,fi Z=xn ds->∀d∈ds,m d)(Dy:∀{Z ps},fi Z=xn ps->iEn fa Z=xn ps)(hb:PSsX X u M MB body g M)
  (hf:∀x,fN iter X.env x=pure x:=by intro _;rfl):PSX X u ML M (.For tg iter body [] pos) (C0 fi set g) M:=by
 obtain⟨wi,pi,qi⟩:=hi;obtain⟨tb,pb,qb⟩:=hb.out;refine .mk ⟨_,a7P hp hc pi hg pb hf,λD Z σ H P F o S sU k=>?_⟩;obtain⟨ps,h1,g1⟩:=bnd sU;obtain⟨d0,h2,g2⟩:=bnd (Dy h1);obtain⟨ds,h3,g3⟩:=bnd g2;cases P4 h3
 have tY:G0 ds 0=ps:=aF g3;refine qi Z σ H P F ds _ S.toE h2 λa xs H1 e1 qO hx=>?_
 have S1:=S.grow e1;have ow:=hx.length;have gE:ps.length=ds.length:=by rw[<-tY,a3r]
 refine⟨λi n σ' H'=>n=xs.length-i/\i<=xs.length/\∃Z' F',StR X.K M Z' σ' H' (cut H1 F) F'/\U9 set g (ps.drop i) Z'=xn o,⟨xs.length,by simp,cE _,Z,F,⟨S1.all,S1.lst,Same.refl _⟩,g1⟩,?_⟩;rintro i n σ' H' ⟨rfl,hi,Z',F',S',hfl⟩;have m_:Same (cut H1 F) (cut H' F'):=S'.prot;have q:=qO H' (m_.trans j5);by_cases jv:i<xs.length
 ·refine .inr ⟨⟨xs,xs[i],q,ab jv⟩,λσ2 H2=>∃Z2 F2,StR X.K M Z2 σ2 H2 (cut H1 F) F2/\U9 set g (ps.drop (i+1)) Z2=xn o,λσ2 H2 ⟨Z2,F2,S2,h2⟩=>⟨xs.length-(i+1),by lia,rfl,jv,Z2,F2,S2,h2⟩,λx H2 hy=>?_⟩;obtain⟨T,y,hT,rfl,rfl,xU⟩:=hy;have qK:=xU xs q;have mB:i<ps.length:=by lia
  have nk:ps.drop i=ps[i]::ps.drop (i+1):=dJ mB;rw[nk]at hfl;obtain⟨Z1,tW,g4⟩:=bnd (show (set Z' ps[i]).bind _=xn o from hfl);obtain⟨o1,hg1,g5⟩:=bnd g4;obtain⟨d',oS,rL⟩:=(hx.up m_).getV qK;have tZ:ps[i]=.tuple [.int (i:Nat),d']:=by
   have:=a3s ds 0 i d' oS;rw[tY,ab mB,ig]at this;exact aF this
  have rP:Same H' (upd H' T (.tup [.int i,y])):=l6 hT _;have S2:=S'.grow rP;have DU:T∉F':=λz=>by
   obtain⟨ys,e⟩:=S'.lst T z;rw[hT]at e;cases e
  have kJ:Den X.K (cut (upd H' T (.tup [.int i,y])) F') (.ref T) (.tuple [.int (i:Nat),d']):=by
   have qQ:Same (cut H' F') (cut (upd H' T (.tup [.int i,y])) F'):=L7 rP;have hd2:=rL.up qQ;have s_:cut (upd H' T (.tup [.int i,y])) F' T=xn (.tup [.int i,y]):=g9 DU g8;simp only[Den];exact⟨T,[.int i,y],rfl,SqT.of s_,denAll_cons den_int (denAll_cons hd2 denAll_nil)⟩
  rw[tZ]at tW;refine hs Z' σ' _ (cut H1 F) F' (.ref T) _ Z1 _ S2 kJ (hm Z ps h1 _ (by rw[<-tZ];exact dA mB)) tW λσ3 F3 S3=>qb _ Z1 σ3 _ (cut H1 F) F3 o1 S3 hg1 ?_
  cases o1 with
  |nx Z2=>exact λσ4 H4 F4 S4=>⟨Z2,F4,S4,g5⟩
  |ct Z2=>exact λσ4 H4 F4 S4=>⟨Z2,F4,S4,g5⟩
  |bk Z2=>
   have:o=.nx Z2:=(aF g5).symm;subst this;exact λσ4 H4 F4 S4=>k σ4 H4 F4 ⟨S4.all,S4.lst,S1.prot.trans S4.prot⟩
  |rt d=>
   have:o=.rt d:=(aF g5).symm;subst this;refine λv H4 fp o nd fr e=>k v H4 fp o nd (λa ha=>?_) (S1.prot.trans e)
   exact S1.prot.free (fr a ha)
 ·have e:i=xs.length:=by lia
  subst e;rw[ow,<-gE,iN]at hfl;have:o=.nx Z':=(aF hfl).symm;subst this;exact .inl ⟨⟨xs,q,ay _⟩,k σ' H' F' ⟨S'.all,S'.lst,S1.prot.trans S'.prot⟩⟩
end
def insI(n:Int):List Int->List Int
 |[]=>[n]
 |m::ms=>if n<=m then n::m::ms else m::insI n ms
def srt:List Int->List Int
 |[]=>[]
 |n::ns=>insI n (srt ns)
theorem vals_ints:∀{vs:List aj} {ns:List Int},lX vs ns->Vals (ns.map V.int) vs
 |_,_,.nil=>.nil
 |_,_,.cons n t r=>.cons ⟨t,rfl⟩ (vals_ints r)
theorem b9C:∀ns:List Int,e7 (ns.map aO)=true
 |[]=>by simp only[cW,e7]
 |n::ns=>by simp only[ax,e7,imm,b9C ns,eG]
noncomputable def eD1(kt:Bool)(fk fv:EvE):EvE:=λZ=>(fk Z).bind λk=>(fv Z).bind λd=>if o8 kt k then xn (.dict [(k,d)]) else xI
section
variable {X:Cx}{M:List Md}{k v:Expr}{fk fv:EvE}{ck:Cat}{kt:Bool}{u:Ty}{pos:fM}
def b1t(hu:X.A.units+64<dF)(hk:PE X k tk)(hv:PE X v tv):PE X (.Dict [xn k] [v] pos) (λσ H Q=>∀p,H p=xI->tk σ (upd H p (g6 p [])) λkv H1=>tv σ H1 λvv H2=>∃kt kd,H2 p=xn (g6 p [])/\KeysAt X H2 kt [] kd kv/\Q (.ref p) (upd H2 p (g6 p [(kd,kv,vv)]))):=by
 intro pins s σ H Q I h;have I1:=I.laid (a:=s.heap.objs.size) (o:=g6 s.heap.objs.size []) (t':=s.toks) (λ_ _ q=>aE _ q) (ay _) (b1g s.heap I.sysBelow);rw[arm_eval_Dict,zip_pairTrees [xn k] [v] X.env pos rfl rfl,dictDisplay_pairs (pairTrees [xn k] [v] X.env pos) (by simp[pairTrees]) (by rw[pairTrees_length _ _ _ _ rfl rfl];simp)];refine ae (xx (ae ?_));unfold subDict;refine ae (wpAny_alloc ?_);refine ae (dC ?_);rw[aB (by rw[pairTrees_length _ _ _ _ rfl rfl];simp)];refine ae ?_;refine pairTrees_cons_walk (L2.thn (hk pins _ σ _ _ I1 (h _ (I.hok.fresh (ay _)))) λkv s2 ⟨x,H1,I2,rx,q⟩=>L2.thn (hv pins s2 σ H1 _ I2 q) λvv s3 ⟨y,H2,I3,ry,kt,kd,e,K,q4⟩=>?_);refine pairTrees_nil_walk ?_;refine dC ?_;refine ae ?_;rw[o_];refine ae (ae (set_dict I3 (by lia) e K rx ry (by rw[dg];decide) λs' I'=>aC ?_));show aX _ _ (forIn ([]:List (aj×aj)) PUnit.unit _) _ _ _;rw[qd];exact aC (aC (aC (aC ⟨.ref _,_,I',rfl,q4⟩)))
def b3G(hu:X.A.units+64<dF)(hk:PX X M k fk ck)(hv:PX X M v fv (.new u)):PX X M (.Dict [xn k] [v] pos) (eD1 kt fk fv) (.new (.d kt u)):=by
 obtain⟨tk,pk,qk⟩:=hk.out;obtain⟨tv,pv,qv⟩:=hv.out;refine .mk ⟨_,b1t hu pk pv,λZ σ H P F d Q S hf q=>?_⟩;obtain⟨kd,h1,g1⟩:=bnd hf;obtain⟨vd,h2,g2⟩:=bnd g1;by_cases c:o8 kt kd=true
 ·rw[aB c]at g2;cases g2
  intro p hp;have s0:=l6 hp (g6 p []);have S0:StE X.K M Z σ (upd H p (g6 p [])) P ([p]++F):=S.more s0 (λa ha=>by rw[ao.mp ha];exact hp) λa ha=>by rw[ao.mp ha];exact⟨⟨g6 p [],trivial⟩,g8⟩
  refine qk Z σ _ P ([p]++F) kd _ S0 h1 λkv H1 s1 r1=>qv Z σ H1 P ([p]++F) vd _ (S0.grow s1) h2 λvv H2 s2 ⟨fp,o,hn,nH⟩=>?_
  have ju:H2 p=xn (g6 p []):=(s1.trans s2) _ _ g8;have vc:∀a∈fp,a≠p:=λa ha z=>by
   have:=nH a ha;rw[z,s1 _ _ g8]at this;cases this
  have hF:∀a∈(p::fp)++F,∃ys:MuO,upd H2 p (g6 p [(kd,kv,vv)]) a=xn ys.1:=λa ha=>by
   by_cases e:a=p
   ·subst e;exact⟨⟨g6 a _,trivial⟩,g8⟩
   ·rw[c7 e];rcases aq.mp ha with z|z
    ·rcases aH.mp z with z|z
     ·exact absurd z e
     ·exact o.lst u a z
    ·exact ((S0.grow s1).grow s2).lst a (ah _ z)
  have hc:Same (cut H2 (fp++([p]++F))) (cut (upd H2 p (g6 p [(kd,kv,vv)])) ((p::fp)++F)):=λa x hx=>by
   obtain⟨n1,n2⟩:=m4 hx;have qR:a≠p:=λz=>n1 (by rw[z];simp)
   refine g9 (λz=>n1 ?_) (by rw[c7 qR];exact n2);rcases aq.mp z with z|z
   ·rcases aH.mp z with z|z
    ·exact absurd z qR
    ·exact ak _ z
   ·exact ah _ (ah _ z)
  refine⟨kt,kd,ju,⟨(λe he=>nomatch he),E4 c,r1.den.up s2⟩,q _ _ (λa x hx=>?_) ⟨p::fp,?_,?_,λa ha=>?_⟩⟩
  ·rw[c7 (λz=>by rw[z,hp]at hx;cases hx)];exact (s0.trans (s1.trans s2)) _ _ hx
  ·simp only[Own];refine⟨p,[(kd,kv,vv)],[vd],fp++[],rfl,g8,rfl,by rw[bg],⟨by simp,λe he=>?_⟩,m9 (o.frame hc u λa ha=>c7 (vc a ha)) p6⟩;rw[ao.mp he];refine⟨E4 c,Den.imm_out hF kd (V5 _ (E4 c).1) ?_⟩;have dk:=r1.den.up s2;exact (Den.imm_out (F:=[p]) (λa ha=>by rw[ao.mp ha];exact⟨⟨g6 p [],trivial⟩,ju⟩) kd (V5 _ (E4 c).1) dk).up λa x hx=>by
    obtain⟨n1,n2⟩:=m4 hx;rw[c7 (λz=>n1 (by rw[z];simp))];exact n2
  ·exact bV.mpr ⟨λz=>vc p z rfl,hn⟩
  ·rcases aH.mp ha with z|z
   ·rw[z];exact hp
   ·exact s0.free (s1.free (nH a z))
 ·rw[aJ c]at g2;cases g2
end
end VS
namespace PySem
open Sem (wp)
set_option maxRecDepth 100000
def Heap.IsValuesView.at{h g1:cR}{v d}(x:h.IsValuesView v d)(e:∀o,h.get? v=xn o->g1.get? v=xn o):g1.IsValuesView v d:=let⟨o,ho,r⟩:=x;⟨o,e _ ho,r⟩
theorem Heap.IsValuesView.push{h:cR}{v d}(x:h.IsValuesView v d)(o:fY):(h.push o).IsValuesView v d:=x.at λ_ e=>aE o e
section
variable {prog:bw}{w:b_}{K:Type}[DecidableEq K]{knd:KeyKind prog w K}{A:bQ}{E:aj->au->Prop}{s:au}
def b1u(hT:s.TypeIs (.ref d) "dict")(h:Q false s):aX (aY prog w) A (gD (.ref d)) Q E s:=by
 unfold gD;refine ae (gu hT tH.lookup ?_);generalize wa:("dict.__len__":String)=xT
 wp_delta
 rw[show splitId xT=xn ("dict","__len__") from by subst wa;decide +kernel];subst wa;refine ae (lM (T:="dict") (b:=true) hT (by rw[isSubtype_type];kernel_rfl) ?_);refine ir (λqS=>absurd qS (by decide)) (λ_=>?_);refine ir (λ_=>?_) (λqS=>absurd (by decide +kernel) qS);refine ae (pC hT ?_);exact aC h
def b1v(hT:s.TypeIs (.ref d) "dict_values")(h:Q false s):aX (aY prog w) A (gD (.ref d)) Q E s:=by
 unfold gD;refine ae (gu hT F.slot_dict_values_len.lookup ?_);generalize wa:("dict_values.__len__":String)=xT
 wp_delta
 rw[show splitId xT=xn ("dict_values","__len__") from by subst wa;decide +kernel];subst wa;refine ae (lM (T:="dict_values") (b:=true) hT (by rw[isSubtype_type];kernel_rfl) ?_);refine ir (λqS=>absurd qS (by decide)) (λ_=>?_);refine ir (λ_=>?_) (λqS=>absurd (by decide +kernel) qS);refine ae (pC hT ?_);exact aC h
def b3H(hh:A.handled=xI)(hd:(d==dq)=false)(hm:s.heap.DictAt knd d kvs ep)
  (ku:kvs.length<=a_) (L0:aw) (res:aj) (c₀:Nat) (zl:s.heap.get? L0=xn {cls:=.type "list",data:=.seq #[] c₀})
  (kR:∀g1 tq ac cq,(∀b o,b≠L0->s.heap.get? b=xn o->g1.get? b=xn o)->g1.get? L0=xn {cls:=.type "list",dict:=xI,data:=.seq ac cq,slots:=#[]}->
   qf (λi v=>∃k x,kvs[i]?=xn (k,x)/\knd.is k v=true) ac kvs.length->R (.ok (.ret res)) {s with heap:=g1,toks:=tq}) :
  aX (aY prog w) A.in1 (cM (.ref L0) (.ref d) res)
   (λtu sq=>match tu with|.done f=>R (.ok f) sq|.again cq=>cq.quiet=true/\gR (aY prog w) A cq R sq) (λe sq=>R (.error e) sq) s:=by
 have qA:L0≠d:=λe=>by
  obtain⟨o,es,ho,hx,kC,_⟩:=hm;rw[<-e,zl]at ho;cases ho
  cases kC
 have vU:L0≠s.heap.objs.size:=bM (aU zl);have vL:d≠s.heap.objs.size:=bM hm.lt_size;have zf:L0∉[s.heap.objs.size,d]:=λinn=>by
  rcases aH.mp inn with e|e
  ·exact vU e
  ·exact qA (ao.mp e)
 have W:=(Walks.dictKeys (prog:=prog) (w:=w) (knd:=knd) (A:=A.in1) hh s.heap.objs.size d vL kvs ep).toS;have key:∀(h:cR) (c₁ tq:Nat),h.IsKeyIter s.heap.objs.size d 0 kvs.length ep->h.DictAt knd d kvs ep->(∀b o,b≠L0->s.heap.get? b=xn o->h.get? b=xn o)->
   h.get? L0=xn {cls:=.type "list",data:=.seq #[] c₁}->gR (aY prog w) A (.builtin "list.extend.loop" ⟨[.ref L0,.ref s.heap.objs.size,res],[]⟩) R {s with heap:=h,toks:=tq}:=by
  intro h c₁ tq hit sX hk pB;refine codeAny_extend_loopS W ku L0 zf res kvs.length 0 _ #[] c₁ rfl (cE _) ⟨hit,sX⟩ pB (qf.nil _) λsq ac cq vm pA lU=>?_
  rw[Moved.eq_with vm];refine kR sq.heap sq.toks ac cq (λb o nb e=>vm.heap b o (λinn=>?_) (hk b o nb e)) pA lU;rcases aH.mp inn with e'|inn
  ·exact nb e'
  ·exact absurd (aU e) (by rw[ao.mp inn];exact dQ _)
 unfold cM;refine ae (pC (T:="dict") hm.dictOf.typeIs ?_);have h1:il (.ref L0) (.ref d)=false:=by simp[il,qA]
 have h2:(fF "dict" == fF "list")=false:=by decide
 have h3:(fF "dict" == fF "tuple")=false:=by decide
 simp only[h1,h2,h3,Bool.or_false,bu,dr];refine ae (wpAny_pyIter_dict hd hm ?_);refine ae (dC (b1u ((hm.push _).dictOf.typeIs) ?_));have pB:=aE {cls:=.type "dict_keyiterator",data:=.fields #[.ref d,.int 0 0,.int kvs.length 0,.int ep 0]} zl;have lQ:(s.heap.push {cls:=.type "dict_keyiterator",data:=.fields #[.ref d,.int 0 0,.int kvs.length 0,.int ep 0]}).IsKeyIter s.heap.objs.size d 0 kvs.length ep:=⟨_,be _ rfl,rfl,rfl⟩;refine ir (λ_=>?_) (λ_=>aC ⟨lu ke _,key _ c₀ _ lQ (hm.push _) (λb o _ e=>aE _ e) pB⟩);refine ae (iw ?_);refine ae ?_;show aX _ _ (nG L0 (·.push .none) >>= λ_=>nG L0 (·.pop)) _ _ _;refine ae (iq pB rfl ?_);have qF:=cU (cw (·.push bt)) pB rfl;refine iq (hz:=by seq_fits) qF rfl ?_;have xw:=cU (cw (·.pop)) qF rfl;have rest:∀b o,b≠L0->(s.heap.push {cls:=.type "dict_keyiterator",data:=.fields #[.ref d,.int 0 0,.int kvs.length 0,.int ep 0]}).get? b=xn o->(((s.heap.push {cls:=.type "dict_keyiterator",data:=.fields #[.ref d,.int 0 0,.int kvs.length 0,.int ep 0]}).update L0 (cw (·.push bt))).update L0 (cw (·.pop))).get? b=xn o:=λb o nb e=>(dO _ _ (cY nb)).trans ((dO _ _ (cY nb)).trans e)
 exact aC ⟨lu ke _,key _ _ _ (lQ.at λo e=>rest _ o (cY vU) e) ((hm.push _).at' λo e=>rest _ o (cY qA) e) (λb o nb e=>rest b o nb (aE _ e)) xw⟩
def b1w(hh:A.handled=xI)(hd:(d==dq)=false)(hm:s.heap.DictAt knd d kvs ep)
  (ku:kvs.length<=a_) (L0:aw) (zl:s.heap.get? L0=xn {cls:=.type "list",data:=.seq #[]})
  (kR:∀g1 tq ac cq,(∀b o,b≠L0->s.heap.get? b=xn o->g1.get? b=xn o)->g1.get? L0=xn {cls:=.type "list",dict:=xI,data:=.seq ac cq,slots:=#[]}->
   qf (λi v=>∃k x,kvs[i]?=xn (k,x)/\knd.is k v=true) ac kvs.length->R (.ok (.ret .none)) {s with heap:=g1,toks:=tq}) :
  aX (aY prog w) A.in1 (Builtin.«list.__init__» ⟨[.ref L0,.ref d],[]⟩)
   (λtu sq=>match tu with|.done f=>R (.ok f) sq|.again cq=>cq.quiet=true/\gR (aY prog w) A cq R sq) (λe sq=>R (.error e) sq) s:=by
 have qA:L0≠d:=λe=>by
  obtain⟨o,es,ho,hx,kC,_⟩:=hm;rw[<-e,zl]at ho;cases ho
  cases kC
 show aX _ _ (do let old <-iW (.ref L0);Bt (.ref L0) (λ_=>#[]);letGo old.toList.reverse;cM (.ref L0) (.ref d) .none) _ _ s;refine ae ?_;unfold iW;refine ae (uC zl rfl (aC ?_));show aX _ _ (nG L0 (λ_=>#[]) >>= λ_=>letGo (#[]:Array aj).toList.reverse >>= λ_=>cM (.ref L0) (.ref d) .none) _ _ s;refine ae (iq zl rfl ?_);have qF:=cU (cw (λ_=>(#[]:Array aj))) zl rfl;have rest:∀b o,b≠L0->s.heap.get? b=xn o->(s.heap.update L0 (cw (λ_=>(#[]:Array aj)))).get? b=xn o:=
  λb o nb e=>(dO _ _ (cY nb)).trans e
 refine ae (rA ?_);refine b3H hh hd (hm.at' λo e=>rest d o (cY qA) e) ku L0 .none _ qF λg1 tq ac cq hk pA lU=>?_
 exact kR g1 tq ac cq (λb o nb e=>hk b o nb (rest b o nb e)) pA lU
def a3t(hh:A.handled=xI)(hd:(d==dq)=false)(hm:s.heap.DictAt knd d kvs ep)
  (ku:kvs.length<=a_)
  (kQ:∀g1 tq ac cq,(∀b o,s.heap.get? b=xn o->g1.get? b=xn o)->
   g1.get? s.heap.objs.size=xn {cls:=.type "list",dict:=xI,data:=.seq ac cq,slots:=#[]}->qf (λi v=>∃k x,kvs[i]?=xn (k,x)/\knd.is k v=true) ac kvs.length->Q (.ref s.heap.objs.size) {s with heap:=g1,toks:=tq}) :
  aX (aY prog w) A (call (.type "list") [.ref d]) Q E s:=by
 refine callType_codes (Q₁:=λobj s₁=>obj=.ref s.heap.objs.size/\s₁={s with heap:=s.heap.push {cls:=.type "list",data:=.seq #[]}}) F.called_list (F.typeCall_list_1 _) F.entry_list_init
  (code_list_new _ ⟨rfl,rfl⟩) λobj s₁ h₁=>?_
 obtain⟨rfl,rfl⟩:=h₁;have zl:(s.heap.push {cls:=.type "list",data:=.seq #[]}).get? s.heap.objs.size=xn {cls:=.type "list",data:=.seq #[]}:=be _ rfl;refine⟨⟨_,zl,rfl⟩,F.args_list_init_2 _ _,b1w (A:=A.in1) hh hd (hm.push _) ku _ zl λg1 tq ac cq hk pA lU=>?_⟩;exact⟨rfl,kQ g1 tq ac cq (λb o e=>hk b o (bM (aU e)) (aE _ e)) pA lU⟩
def b3I(hh:A.handled=xI)(hd:(d==dq)=false)(hm:s.heap.DictAt knd d kvs ep)(hv:s.heap.IsValuesView v d)
  (ku:kvs.length<=a_) (L0:aw) (res:aj) (c₀:Nat) (zl:s.heap.get? L0=xn {cls:=.type "list",data:=.seq #[] c₀})
  (kR:∀g1 tq ac cq,(∀b o,b≠L0->s.heap.get? b=xn o->g1.get? b=xn o)->g1.get? L0=xn {cls:=.type "list",dict:=xI,data:=.seq ac cq,slots:=#[]}->
   qf (λi v=>∃k,kvs[i]?=xn (k,v)) ac kvs.length->R (.ok (.ret res)) {s with heap:=g1,toks:=tq}) :
  aX (aY prog w) A.in1 (cM (.ref L0) (.ref v) res)
   (λtu sq=>match tu with|.done f=>R (.ok f) sq|.again cq=>cq.quiet=true/\gR (aY prog w) A cq R sq) (λe sq=>R (.error e) sq) s:=by
 have qA:L0≠d:=λe=>by
  obtain⟨o,es,ho,hx,kC,_⟩:=hm;rw[<-e,zl]at ho;cases ho
  cases kC
 have ze:L0≠v:=λe=>by
  obtain⟨o,ho,hc,kC⟩:=hv;rw[<-e,zl]at ho;cases ho
  cases kC
 have vU:L0≠s.heap.objs.size:=bM (aU zl);have vL:d≠s.heap.objs.size:=bM hm.lt_size;have zf:L0∉[s.heap.objs.size,d]:=λinn=>by
  rcases aH.mp inn with e|e
  ·exact vU e
  ·exact qA (ao.mp e)
 have W:=(Walks.dictValues (prog:=prog) (w:=w) (knd:=knd) (A:=A.in1) hh s.heap.objs.size d vL kvs ep).toS;have key:∀(h:cR) (c₁ tq:Nat),h.IsValIter s.heap.objs.size d 0 kvs.length ep->h.DictAt knd d kvs ep->(∀b o,b≠L0->s.heap.get? b=xn o->h.get? b=xn o)->
   h.get? L0=xn {cls:=.type "list",data:=.seq #[] c₁}->gR (aY prog w) A (.builtin "list.extend.loop" ⟨[.ref L0,.ref s.heap.objs.size,res],[]⟩) R {s with heap:=h,toks:=tq}:=by
  intro h c₁ tq hit sX hk pB;refine codeAny_extend_loopS W ku L0 zf res kvs.length 0 _ #[] c₁ rfl (cE _) ⟨hit,sX⟩ pB (qf.nil _) λsq ac cq vm pA lU=>?_
  rw[Moved.eq_with vm];refine kR sq.heap sq.toks ac cq (λb o nb e=>vm.heap b o (λinn=>?_) (hk b o nb e)) pA lU;rcases aH.mp inn with e'|inn
  ·exact nb e'
  ·exact absurd (aU e) (by rw[ao.mp inn];exact dQ _)
 unfold cM;refine ae (pC (T:="dict_values") hv.typeIs ?_);have h1:il (.ref L0) (.ref v)=false:=by simp[il,ze]
 have h2:(fF "dict_values" == fF "list")=false:=by decide
 have h3:(fF "dict_values" == fF "tuple")=false:=by decide
 simp only[h1,h2,h3,Bool.or_false,bu,dr];refine ae (wpAny_pyIter_values hv hm ?_);refine ae (dC (b1v ((hv.push _).typeIs) ?_));have pB:=aE {cls:=.type "dict_valueiterator",data:=.fields #[.ref d,.int 0 0,.int kvs.length 0,.int ep 0]} zl;have lQ:(s.heap.push {cls:=.type "dict_valueiterator",data:=.fields #[.ref d,.int 0 0,.int kvs.length 0,.int ep 0]}).IsValIter s.heap.objs.size d 0 kvs.length ep:=⟨_,be _ rfl,rfl,rfl⟩;refine ir (λ_=>?_) (λ_=>aC ⟨lu ke _,key _ c₀ _ lQ (hm.push _) (λb o _ e=>aE _ e) pB⟩);refine ae (iw ?_);refine ae ?_;show aX _ _ (nG L0 (·.push .none) >>= λ_=>nG L0 (·.pop)) _ _ _;refine ae (iq pB rfl ?_);have qF:=cU (cw (·.push bt)) pB rfl;refine iq (hz:=by seq_fits) qF rfl ?_;have xw:=cU (cw (·.pop)) qF rfl;have rest:∀b o,b≠L0->(s.heap.push {cls:=.type "dict_valueiterator",data:=.fields #[.ref d,.int 0 0,.int kvs.length 0,.int ep 0]}).get? b=xn o->(((s.heap.push {cls:=.type "dict_valueiterator",data:=.fields #[.ref d,.int 0 0,.int kvs.length 0,.int ep 0]}).update L0 (cw (·.push bt))).update L0 (cw (·.pop))).get? b=xn o:=λb o nb e=>(dO _ _ (cY nb)).trans ((dO _ _ (cY nb)).trans e)
 exact aC ⟨lu ke _,key _ _ _ (lQ.at λo e=>rest _ o (cY vU) e) ((hm.push _).at' λo e=>rest _ o (cY qA) e) (λb o nb e=>rest b o nb (aE _ e)) xw⟩
def b1x(hh:A.handled=xI)(hd:(d==dq)=false)(hm:s.heap.DictAt knd d kvs ep)(hv:s.heap.IsValuesView v d)
  (ku:kvs.length<=a_) (L0:aw) (zl:s.heap.get? L0=xn {cls:=.type "list",data:=.seq #[]})
  (kR:∀g1 tq ac cq,(∀b o,b≠L0->s.heap.get? b=xn o->g1.get? b=xn o)->g1.get? L0=xn {cls:=.type "list",dict:=xI,data:=.seq ac cq,slots:=#[]}->
   qf (λi v=>∃k,kvs[i]?=xn (k,v)) ac kvs.length->R (.ok (.ret .none)) {s with heap:=g1,toks:=tq}) :
  aX (aY prog w) A.in1 (Builtin.«list.__init__» ⟨[.ref L0,.ref v],[]⟩)
   (λtu sq=>match tu with|.done f=>R (.ok f) sq|.again cq=>cq.quiet=true/\gR (aY prog w) A cq R sq) (λe sq=>R (.error e) sq) s:=by
 have qA:L0≠d:=λe=>by
  obtain⟨o,es,ho,hx,kC,_⟩:=hm;rw[<-e,zl]at ho;cases ho
  cases kC
 have ze:L0≠v:=λe=>by
  obtain⟨o,ho,hc,kC⟩:=hv;rw[<-e,zl]at ho;cases ho
  cases kC
 show aX _ _ (do let old <-iW (.ref L0);Bt (.ref L0) (λ_=>#[]);letGo old.toList.reverse;cM (.ref L0) (.ref v) .none) _ _ s;refine ae ?_;unfold iW;refine ae (uC zl rfl (aC ?_));show aX _ _ (nG L0 (λ_=>#[]) >>= λ_=>letGo (#[]:Array aj).toList.reverse >>= λ_=>cM (.ref L0) (.ref v) .none) _ _ s;refine ae (iq zl rfl ?_);have qF:=cU (cw (λ_=>(#[]:Array aj))) zl rfl;have rest:∀b o,b≠L0->s.heap.get? b=xn o->(s.heap.update L0 (cw (λ_=>(#[]:Array aj)))).get? b=xn o:=
  λb o nb e=>(dO _ _ (cY nb)).trans e
 refine ae (rA ?_);refine b3I hh hd (hm.at' λo e=>rest d o (cY qA) e) (hv.at λo e=>rest v o (cY ze) e) ku L0 .none _ qF λg1 tq ac cq hk pA lU=>?_
 exact kR g1 tq ac cq (λb o nb e=>hk b o nb (rest b o nb e)) pA lU
def a3u(hh:A.handled=xI)(hd:(d==dq)=false)(hm:s.heap.DictAt knd d kvs ep)(hv:s.heap.IsValuesView v d)
  (ku:kvs.length<=a_)
  (kQ:∀g1 tq ac cq,(∀b o,s.heap.get? b=xn o->g1.get? b=xn o)->
   g1.get? s.heap.objs.size=xn {cls:=.type "list",dict:=xI,data:=.seq ac cq,slots:=#[]}->qf (λi v=>∃k,kvs[i]?=xn (k,v)) ac kvs.length->Q (.ref s.heap.objs.size) {s with heap:=g1,toks:=tq}) :
  aX (aY prog w) A (call (.type "list") [.ref v]) Q E s:=by
 refine callType_codes (Q₁:=λobj s₁=>obj=.ref s.heap.objs.size/\s₁={s with heap:=s.heap.push {cls:=.type "list",data:=.seq #[]}}) F.called_list (F.typeCall_list_1 _) F.entry_list_init
  (code_list_new _ ⟨rfl,rfl⟩) λobj s₁ h₁=>?_
 obtain⟨rfl,rfl⟩:=h₁;have zl:(s.heap.push {cls:=.type "list",data:=.seq #[]}).get? s.heap.objs.size=xn {cls:=.type "list",data:=.seq #[]}:=be _ rfl;refine⟨⟨_,zl,rfl⟩,F.args_list_init_2 _ _,b1x (A:=A.in1) hh hd (hm.push _) (hv.push _) ku _ zl λg1 tq ac cq hk pA lU=>?_⟩;exact⟨rfl,kQ g1 tq ac cq (λb o e=>hk b o (bM (aU e)) (aE _ e)) pA lU⟩
end
end PySem
namespace VS
open PySem PySem.Spec L2
theorem a2M:∀{xs:List V} {us:List aj},xs.length=us.length->(∀(i:Nat) (x:V) (u:aj),xs[i]?=xn x->us[i]?=xn u->RelV x u)->Vals xs us
 |[],[],_,_=>.nil
 |[],_::_,h,_=>by simp at h
 |_::_,[],h,_=>by simp at h
 |x::xs,u::us,hl,h=>.cons (h 0 x u rfl rfl) (a2M (by simpa using hl) λi x u h1 h2=>h (i+1) x u (by simpa using h1) (by simpa using h2))
def J8(es:List (D×V×V)):Prop:=∀e∈es,∃n,e.1=.int n/\e.2.1=.int n
def EKv(e:D×V×V)(kv:Int×aj):Prop:=e.1=.int kv.1/\e.2.1=.int kv.1/\RelV e.2.2 kv.2
def b1y(h:fK U1 es l):J8 es->∃kvs:List (Int×aj),Pairs (gP P w) l kvs/\fK EKv es kvs:=by
 induction h with
 |nil=>exact λ_=>⟨[],.nil,.nil⟩
 |@cons e x es l r _ ih=>
  intro hk;obtain⟨kvs,h1,h2⟩:=ih λe he=>hk e (av _ he)
  obtain⟨n,e1,e2⟩:=hk e aK;obtain⟨hh,nR,sD⟩:=r;rw[e2]at nR;obtain⟨t,ht⟩:=(show ∃t,x.key=jw n t from nR);exact⟨(n,x.val)::kvs,.cons (by rw[ht];simp[gP,jJ]) rfl h1,.cons ⟨e1,e2,sD⟩ h2⟩
def b3J(h:fK EKv es kvs):es.map (·.1)=(kvs.map (·.1)).map aO:=by
 induction h with
 |nil=>rfl
 |cons r _ ih=>rw[ax,ax,ax,ih,r.1]
section
variable {X:Cx}{M:List Md}{a o:Expr}{fa:EvE}{ca:Cat}{pos p apos cF:fM}
def a0y(I:Inv X pins σ H s)(hH:H d=xn (g6 d es))(hk:J8 es) :
  ∃kvs ep,s.heap.DictAt (gP X.prog X.w) d kvs ep/\(d==dq)=false/\es.length<=a_/\fK EKv es kvs:=by
 obtain⟨h0,hl,hn,o,ents,ep,h1,h2,h3,h4⟩:=v5 I hH;obtain⟨kvs,p1,p2⟩:=b1y (P:=X.prog) (w:=X.w) h4 hk;refine⟨kvs,ep,⟨o,ents,h1,h2,h3,λx hx=>?_,p1,?_⟩,h0,hl,p2⟩
 ·obtain⟨j,hj⟩:=cS.mp (iX.mpr hx);obtain⟨e,he,hh,nR,_⟩:=a2i h4 hj;obtain⟨n,e1,e2⟩:=hk e (br he);rw[e2]at nR;obtain⟨t,ht⟩:=(show ∃t,x.key=jw n t from nR);exact⟨n,by rw[ht];simp[gP,jJ],by rw[hh,e1];rfl⟩
 ·rw[b3J p2]at hn;exact List.Pairwise.of_map aO (λa b h e=>h (by rw[e])) hn
def a8y(hc:X.calm=true):CallR X (.type "list") (λxs H Q=>∃p es,xs=[.ref p]/\H p=xn (g6 p es)/\J8 es/\∀l,H l=xI->Q (.ref l) (upd H l (.lst (es.map (·.2.1))))):=by
 intro pins s σ H xs us Q I rv h;obtain⟨p,es,rfl,hH,hk,q⟩:=h;obtain⟨u,rfl,rx⟩:=vals1 rv;cases (show u=bH p from rx)
 obtain⟨kvs,ep,s_,h0,hl,hp⟩:=a0y I hH hk;have hlen:=gy hp;refine a3t (knd:=gP X.prog X.w) (I.ok.hd hc) h0 s_ (by lia) λg1 tq ac cq keep ho lU=>?_
 refine⟨.ref s.heap.objs.size,_,I.laid (t':=tq) keep (ay _) (show ObjOk X.prog X.w _ g1 _ (.lst (es.map (·.2.1))) from⟨by rw[ai];exact hl,ac.toList,cq,?_,by rw[wy];exact ho⟩),rfl,q _ (I.hok.fresh (ay _))⟩;refine a2M (by rw[ai];have z1:=lU.1;have z2:ac.toList.length=ac.size:=aP;lia) λi x u h1 h2=>?_
 rw[bP]at h2;obtain⟨k,y,h3,h4⟩:=lU.2 i u h2;rw[aR]at h1;obtain⟨e,he,rfl⟩:=eU.mp h1;obtain⟨kv,g3,g4⟩:=M9 hp he;rw[h3]at g3;cases g3
 obtain⟨t,rfl⟩:=aj.isInt_shape h4;rw[g4.2.1];exact⟨t,rfl⟩
def a4S(v d:aw):HO:=.ext λh=>h.IsValuesView v d
def b1z{h':cR}(h:h'.IsValuesView v d):ObjOk P w H' h' v (a4S v d):=
 ⟨h,let⟨o,ho,_⟩:=h;⟨o,ho⟩,λx1 x2 ⟨o,ho,r⟩ hk=>⟨o,hk _ ho,r⟩⟩
def b1A(ho:PE X o to)(fm:dM o "values" X.env (cK o X.env)=cK o X.env:=by rfl)(fg:(apos.endLine==cF.line)=true:=by rfl) :
  PE X (.Call (.Attribute o "values" apos) [] [] cF) (λσ H Q=>to σ H λx H1=>∃p es,x=.ref p/\H1 p=xn (g6 p es)/\J8 es/\∀l,H1 l=xI->Q (.ref l) (upd H1 l (a4S l p))):=by
 intro pins s σ H Q I h;refine wpAny_Call_method0_late fm fg (L2.thn (ho pins s σ H _ I h) λv s1 ⟨x,H1,I1,r1,p,es,ex,hH,hk,q1⟩=>?_);subst ex;obtain rfl:v=bH p:=r1;obtain⟨kvs,ep,s_,h0,hl,hp⟩:=a0y I1 hH hk;refine⟨"dict","dict.values",rY,rl,PySem.F.type_dict_values,o6 I1 hH,a0S I1 hH,mr rfl (PySem.evalArgs_none ?_)⟩;refine call_meetsIn rl (o6 I1 hH) PySem.F.entry_dict_values (PySem.F.args_dict_values_1 _) (meets_dict_values (gP X.prog X.w) p h0) ⟨⟨kvs,s_.dictOf⟩,?_⟩;exact⟨.ref s1.heap.objs.size,_,I1.laid (a:=s1.heap.objs.size) (o:=a4S s1.heap.objs.size p) (t':=s1.toks) (λ_ _ q=>aE _ q) (ay _) (b1z ⟨_,be _ rfl,rfl,rfl⟩),rfl,q1 _ (I1.hok.fresh (ay _))⟩
def a8z(hc:X.calm=true):CallR X (.type "list") (λxs H Q=>∃v p es,xs=[.ref v]/\H v=xn (a4S v p)/\H p=xn (g6 p es)/\J8 es/\∀l,H l=xI->Q (.ref l) (upd H l (.lst (es.map (·.2.2))))):=by
 intro pins s σ H xs us Q I rv h;obtain⟨v,p,es,rfl,hV,hH,hk,q⟩:=h;obtain⟨u,rfl,rx⟩:=vals1 rv;cases (show u=bH v from rx)
 obtain⟨kvs,ep,s_,h0,hl,hp⟩:=a0y I hH hk;have Cj:s.heap.IsValuesView v p:=(show ObjOk X.prog X.w H s.heap v (a4S v p) from I.hok v _ hV).1;have hlen:=gy hp;refine a3u (knd:=gP X.prog X.w) (I.ok.hd hc) h0 s_ Cj (by lia) λg1 tq ac cq keep ho lU=>?_
 refine⟨.ref s.heap.objs.size,_,I.laid (t':=tq) keep (ay _) (show ObjOk X.prog X.w _ g1 _ (.lst (es.map (·.2.2))) from⟨by rw[ai];exact hl,ac.toList,cq,?_,by rw[wy];exact ho⟩),rfl,q _ (I.hok.fresh (ay _))⟩;refine a2M (by rw[ai];have z1:=lU.1;have z2:ac.toList.length=ac.size:=aP;lia) λi x u h1 h2=>?_
 rw[bP]at h2;obtain⟨k,h3⟩:=lU.2 i u h2;rw[aR]at h1;obtain⟨e,he,rfl⟩:=eU.mp h1;obtain⟨kv,g3,g4⟩:=M9 hp he;rw[h3]at g3;cases g3
 exact g4.2.2
def intKeyed(h:DenKV K H es kvs)(hk:kvs.all (λp=>o8 false p.1)=true):J8 es:=λe he=>by
 have h1:e.1∈kvs.map (·.1):=by rw[<-h.keys];exact cH he
 obtain⟨kv,h2,h3⟩:=aG.mp h1;obtain⟨n,hn⟩:=(E4 (dH.mp hk kv h2)).2.2.2 rfl;have hd:=h.kden e he;rw[<-h3,hn]at hd;exact⟨n,by rw[<-h3,hn],hd.int_inv⟩
theorem a0U:∀{es:List (D×V×V)},J8 es->DenAll K H (es.map (·.2.1)) (es.map (·.1))
 |[],_=>denAll_nil
 |e::es,h=>by
  obtain⟨n,e1,e2⟩:=h e aK;rw[ax,ax,e1,e2];exact denAll_cons den_int (a0U λe he=>h e (av _ he))
theorem a0V:∀{es:List (D×V×V)},J8 es->e7 (es.map (·.1))=true
 |[],_=>by simp only[cW,e7]
 |e::es,h=>by
  obtain⟨n,e1,_⟩:=h e aK;simp only[ax,e7,e1,imm,a0V λe he=>h e (av _ he),eG]
noncomputable def a5Q(a:EvE):EvE:=λZ=>(a Z).bind λd=>match d with
 |.dict kvs=>if kvs.all (λp=>o8 false p.1) then xn (.list (kvs.map (·.1))) else xI
 |_=>xI
def b3K(hc:X.calm=true)(hm:X.mg "list"=xI)(ha:PX X M a fa ca)(hg:Gl X "list":=by rfl)(he:ar [a] X.env=(false,cK a X.env)::ar [] X.env:=by rfl)(gE:(cB pos (ar [] X.env)).any (·.1)=false:=by rfl) :
  PX X M (.Call (.Name "list" p) [a] [] pos) (a5Q fa) (.new (.l .i)):=by
 obtain⟨ta,pa,qa⟩:=ha.out;refine .mk ⟨_,Y0 (a8y hc) hg hm PyProof.Rows.Boot.«list» (k8 pa p5 he) (by decide) (by decide) he gE,λZ σ H P F d Q S hf q=>?_⟩;obtain⟨x,h1,g1⟩:=bnd hf;cases x with
 |dict kvs=>
  by_cases c:kvs.all (λp=>o8 false p.1)=true
  ·have g2:(if kvs.all (λp=>o8 false p.1) then xn (bD (kvs.map (·.1))) else xI)=xn d:=g1;rw[aB c]at g2;cases g2
   refine qa Z σ H P F _ _ S h1 λv H1 e1 r1=>?_
   obtain⟨pp,es,rfl,k1,k2⟩:=r1.den.dict_inv;have hk:=intKeyed k2 c;refine⟨pp,es,rfl,k1,hk,λz hz=>q _ _ (e1.trans (l6 hz _)) ?_⟩;rw[<-k2.keys];exact Y4 (a0U hk) (a0V hk) e1 hz (S.lst' e1)
  ·have g2:(if kvs.all (λp=>o8 false p.1) then xn (bD (kvs.map (·.1))) else xI)=xn d:=g1;rw[aJ c]at g2;cases g2
 |_=>cases g1
noncomputable def a5R(a:EvE):EvE:=λZ=>(a Z).bind λd=>match d with
 |.dict kvs=>if kvs.all (λp=>o8 false p.1)&&e7 (kvs.map (·.2)) then xn (.list (kvs.map (·.2))) else xI
 |_=>xI
def b3L(hc:X.calm=true)(hm:X.mg "list"=xI)(ha:PX X M a fa ca)(hg:Gl X "list":=by rfl)(fm:dM a "values" X.env (cK a X.env)=cK a X.env:=by rfl)(fg:(apos.endLine==cF.line)=true:=by rfl)
  (he:ar [.Call (.Attribute a "values" apos) [] [] cF] X.env=(false,cK (.Call (.Attribute a "values" apos) [] [] cF) X.env)::ar [] X.env:=by rfl) (gE:(cB pos (ar [] X.env)).any (·.1)=false:=by rfl) :
  PX X M (.Call (.Name "list" p) [.Call (.Attribute a "values" apos) [] [] cF] [] pos) (a5R fa) (.new (.l .i)):=by
 obtain⟨ta,pa,qa⟩:=ha.out;refine .mk ⟨_,Y0 (a8z hc) hg hm PyProof.Rows.Boot.«list» (k8 (b1A pa fm fg) p5 he) (by decide) (by decide) he gE,λZ σ H P F d Q S hf q=>?_⟩;obtain⟨x,h1,g1⟩:=bnd hf;cases x with
 |dict kvs=>
  have g2:(if kvs.all (λp=>o8 false p.1)&&e7 (kvs.map (·.2)) then xn (bD (kvs.map (·.2))) else xI)=xn d:=g1;by_cases c:(kvs.all (λp=>o8 false p.1)&&e7 (kvs.map (·.2)))=true
  ·rw[aB c]at g2;cases g2
   rw[aD]at c;refine qa Z σ H P F _ _ S h1 λv H1 e1 r1=>?_
   obtain⟨pp,es,rfl,k1,k2⟩:=r1.den.dict_inv;have hk:=intKeyed k2 c.1;refine⟨pp,es,rfl,k1,hk,λy hy=>?_⟩;have e2:=l6 hy (a4S y pp);refine⟨y,pp,es,rfl,g8,e2 _ _ k1,hk,λz hz=>q _ _ ((e1.trans e2).trans (l6 hz _)) ?_⟩;exact Y4 (k2.vals.up e2) c.2 (e1.trans e2) hz (S.lst' (e1.trans e2))
  ·rw[aJ c]at g2;cases g2
 |_=>cases g1
end
section
variable {R:V->D->List aw->Prop}
theorem a3v:∀{ds:List D} {xs:List V} {fs:List aw},ListAll R xs ds fs->∃fl:List (List aw),fs=fl.flatten/\fl.length=ds.length/\∀(j:Nat) (v:V) (d:D),xs[j]?=xn v->ds[j]?=xn d->R v d (fl.getD j [])
 |[],_,_,h=>by
  obtain⟨rfl,rfl⟩:=h.nil_inv;exact⟨[],rfl,rfl,λj v d h1=>by simp at h1⟩
 |d::ds,_,_,h=>by
  obtain⟨v,r,f,g,rfl,rfl,h1,h2⟩:=h.cons_inv;obtain⟨fl,rfl,h3,h4⟩:=a3v h2;refine⟨f::fl,rfl,by simp[h3],λj w e q1 q2=>?_⟩;cases j with
  |zero=>cases q1;cases q2;exact h1
  |succ j=>exact h4 j w e (by simpa using q1) (by simpa using q2)
theorem a2k:∀{gl:List (List aw)} {ds:List D} {xs:List V},xs.length=gl.length->ds.length=gl.length->(∀(j:Nat) (v:V) (d:D),xs[j]?=xn v->ds[j]?=xn d->R v d (gl.getD j []))->ListAll R xs ds gl.flatten
 |[],ds,xs,h1,h2,_=>by
  rw[fR.mp h1,fR.mp h2];exact p6
 |g::gl,[],xs,h1,h2,_=>by simp at h2
 |g::gl,d::ds,[],h1,h2,_=>by simp at h1
 |g::gl,d::ds,v::xs,h1,h2,h=>m9 (h 0 v d rfl rfl) (a2k (by simpa using h1) (by simpa using h2) λj w e q1 q2=>h (j+1) w e (by simpa using q1) (by simpa using q2))
end
def a3w(fl:List (List aw))(jl:List (Option Nat)):List (List aw):=jl.map λo=>match o with
 |some j=>fl.getD j []
 |none=>[]
theorem a6Y(b:aw):∀(fl:List (List aw)) (j:Nat),(fl.getD j []).count b+(fl.set j []).flatten.count b=fl.flatten.count b
 |[],j=>by simp
 |f::fl,0=>by simp
 |f::fl,j+1=>by
  have:=a6Y b fl j;simp only[fU,List.flatten_cons,bT,eu];lia
theorem Y8(b:aw):∀(jl:List (Option Nat)) (fl:List (List aw)),(jl.filterMap id).Nodup->(a3w fl jl).flatten.count b<=fl.flatten.count b
 |[],fl,_=>by simp[a3w]
 |none::jl,fl,h=>by
  have:=Y8 b jl fl (by simpa using h);simpa[a3w]using this
 |some j::jl,fl,h=>by
  have h':(j::jl.filterMap id).Nodup:=by simpa using h
  obtain⟨h1,h2⟩:=bV.mp h';have ih:=Y8 b jl (fl.set j []) h2;have e:a3w (fl.set j []) jl=a3w fl jl:=by
   refine bG λo ho=>?_
   cases o with
   |none=>rfl
   |some i=>
    have gC:j≠i:=λz=>h1 (dU.mpr ⟨xn i,ho,by rw[z];rfl⟩)
    show (fl.set j []).getD i []=fl.getD i [];rw[ag,ag,bF gC]
  rw[e]at ih;have h3:=a6Y b fl j;show (fl.getD j []++(a3w fl jl).flatten).count b<=_;rw[bT];lia
noncomputable def a5S(i:Nat)(fa:EvE):EvE:=λZ=>(fa Z).bind λd=>(asI d).bind λn=>match Z.getD i .none with
 |.dict kvs=>if 0<=n/\n<=1000000 then xn (.list ((l0 0 n.toNat).map λk=>(p9 kvs k).getD .none)) else xI
 |_=>xI
section
variable {X:Cx}{M:List Md}{a:Expr}{fa:EvE}{ca:Cat}{u:Ty}{pos apos cF p1 p2 p3 p4 rp:fM}
def F6(es:List (D×V×V))(k:D):Option Nat:=es.findIdx? λe=>aI e.1 k
def valAt(es:List (D×V×V))(k:D):V:=match F6 es k with
 |some j=>((es.map (·.2.2))[j]?).getD .non
 |none=>.non
def a4T(es:List (D×V×V))(ds:List D)(k:D):D:=match F6 es k with
 |some j=>(ds[j]?).getD .none
 |none=>.none
theorem a4U:∀{es:List (D×V×V)} {ds:List D} (k:D),ds.length=es.length->a4T es ds k=(p9 ((es.map (·.1)).zip ds) k).getD .none
 |[],ds,k,_=>by simp[a4T,F6,p9]
 |e::es,[],k,h=>by simp at h
 |e::es,d::ds,k,h=>by
  have ih:=a4U (es:=es) (ds:=ds) k (by simpa using h);unfold a4T F6 p9 at ih ⊢;rw[ax,dt,fZ,List.findIdx?_cons];cases hq:aI e.1 k with
  |true=>rfl
  |false=>
   simp only[bu,dr]at ih ⊢;rw[<-ih];cases es.findIdx? λe=>aI e.1 k with
   |none=>rfl
   |some j=>rfl
def a3x:F6 es k=xI↔x5 es k=false:=by
 unfold F6 x5;rw[List.findIdx?_eq_none_iff,et];exact⟨λh e he=>by rw[h e he];decide,λh e he=>by have:=h e he;cases hq:aI e.1 k with|true=>exact absurd hq this|false=>rfl⟩
def S6(h:F6 es k=xn j):∃e,es[j]?=xn e/\aI e.1 k=true:=by
 unfold F6 at h;obtain⟨h1,h2,_⟩:=List.findIdx?_eq_some_iff_getElem.mp h;exact⟨es[j],ab h1,h2⟩
def b1B{es:List (D×V×V)}{ds:List D}(oy:a5M u=true)(hl:ds.length=es.length)(hk:∀e∈es,keyOk false e.1)(hn:(es.map (·.1)).Nodup)(h:ListAll (Own K H F u) (es.map (·.2.2)) ds fs)(oP:fs.Nodup) :
  ∀(n:Nat),∃jE,ListAll (Own K H F u) ((l0 0 n).map (valAt es)) ((l0 0 n).map (a4T es ds)) jE/\jE.Nodup/\∀a∈jE,a∈fs:=λn=>by
 obtain⟨fl,rfl,h1,h2⟩:=a3v h;have pM:(((l0 0 n).map (F6 es)).filterMap id).Nodup:=by
  rw[zK];show ((l0 0 n).filterMap λk=>F6 es k).Nodup;unfold l0;rw[zK];refine List.Pairwise.filterMap _ (λk k' gM j hj j' nS e=>gM ?_) List.nodup_range;obtain⟨e1,q1,q2⟩:=S6 (show F6 es (.int (0+(k:Int)))=xn j from hj);obtain⟨e2,q3,q4⟩:=S6 (show F6 es (.int (0+(k':Int)))=xn j' from nS);subst e;rw[q1]at q3;cases q3
  have ni:=(hk e1 (br q1)).1;have z1:=(D6 e1.1 (.int (0+(k:Int))) ni rfl).mp q2;have z2:=(D6 e1.1 (.int (0+(k':Int))) ni rfl).mp q4;rw[z1]at z2
  injection z2 with z2
  lia
 refine⟨(a3w fl ((l0 0 n).map (F6 es))).flatten,a2k (by simp[a3w]) (by simp[a3w]) λj v d q1 q2=>?_,?_,λa ha=>?_⟩
 ·rw[aR]at q1 q2;obtain⟨k,e1,rfl⟩:=eU.mp q1;rw[e1]at q2;cases q2
  have e3:(a3w fl ((l0 0 n).map (F6 es))).getD j []=match F6 es k with
   |some j=>fl.getD j []
   |none=>[]:=by
   unfold a3w;rw[ag,aR,aR,e1];rfl
  rw[e3];unfold valAt a4T;cases wQ:F6 es k with
  |none=>exact a6Q oy
  |some i=>
   obtain⟨e,he,_⟩:=S6 wQ;have hi:=(aL.mp he).1;have hd:ds[i]?=xn ds[i]:=ab (by lia);have hx:(es.map (·.2.2))[i]?=xn e.2.2:=by rw[aR,he];rfl
   have:=h2 i _ _ hx hd;show Own K H F u (((es.map (·.2.2))[i]?).getD .non) ((ds[i]?).getD .none) (fl.getD i []);rw[hx,hd];exact this
 ·exact W5 oP λb=>Y8 b _ _ pM
 ·have:=Y8 a ((l0 0 n).map (F6 es)) fl pM;exact fw.mp (bo (fw.mpr ha) this)
def b3M{es:List (D×V×V)}(hn:(es.map (·.1)).Nodup)(h:e∈es)(h0:e0∈es)(hk:e.1=e0.1):e=e0:=by
 induction es with
 |nil=>cases h
 |cons x es ih=>
  rw[ax,bV]at hn;rcases aH.mp h with z|z<;>rcases aH.mp h0 with z'|z'
  ·rw[z,z']
  ·exact absurd (aG.mpr ⟨e0,z',by rw[<-hk,z]⟩) hn.1
  ·exact absurd (aG.mpr ⟨e,z,by rw[hk,z']⟩) hn.1
  ·exact ih hn.2 z z'
def a6Z(X:Cx):TE:=λσ H Q=>∃v,σ[1]?=xn (xn v)/\(∃p es,v=.ref p/\H p=xn (g6 p es))/\∃w,σ[0]?=xn (xn w)/\b7T X v [w] H Q
def b6t(hu:X.A.units+64<dF)(D_:X.N[0]?=xn y:=by rfl)(tS:Vis X.env.scope y:=by first|exact bY rfl|exact bR (bY rfl)|exact bR (bR rfl))(DF:(y==("__debug__":bE))=false:=by decide)(DN:(y==("__classdict__":bE))=false:=by decide)
  (DZ:X.N[1]?=xn x:=by rfl) (x_:Vis X.env.scope x:=by first|exact bY rfl|exact bR (bY rfl)|exact bR (bR rfl)) (rM:(x==("__debug__":bE))=false:=by decide) (DM:(x==("__classdict__":bE))=false:=by decide)
  (fm:dM (.Name x p1) "get" X.env (cK (.Name x p1) X.env)=cK (.Name x p1) X.env:=by rfl)
  (ic:((cB cF (ar [.Name y p2] X.env)).all (λx=>!x.1)&&(eK cF (dh [] X.env)).all (λx=>x.1.isSome)
   && decide (([.Name y p2]:List Expr).length+([]:List eB).length+(if ([]:List eB).isEmpty then 0 else 1)<30))=true:=by rfl)
  (fg:(apos.endLine==cF.line)=true:=by rfl) (hs:ar [.Name y p2] X.env=(false,cK (.Name y p2) X.env)::ar [] X.env:=by rfl) (dZ:(cB cF (ar [] X.env)).any (·.1)=false:=by rfl) :
  PE X (.Call (.Attribute (.Name x p1) "get" apos) [.Name y p2] [] cF) (a6Z X):=by
 intro pins s σ H Q I h;refine a5N lz ly (b3w hu) (B5 DZ x_ rM DM) (k8 (B5 D_ tS DF DN) p5 hs) fm ic fg hs dZ pins s σ H Q I ?_;obtain⟨v,h1,h2,w,h3,h4⟩:=h;exact⟨v,h1,h2,w,h3,h4⟩
def a9N:TT:=λ_ H Q=>Q true H
def b6u:PTs X' [] a9N:=a9t
def b1C(i:Nat)(hc:X.calm=true)(CI:X.mg "range"=xI)(ha:PX X M a fa ca)(hg:∀cl Cl s H fp,PG (P0 X ([y]++[x]) scope cl Cl s H fp) (.Name y p3) (L6 0))(he:∀cl Cl s H fp,PE (P0 X ([y]++[x]) scope cl Cl s H fp) (.Call (.Attribute (.Name x p1) "get" apos) [.Name y p2] [] cF) (a6Z (P0 X ([y]++[x]) scope cl Cl s H fp)))
  (hm:M[i]?=xn (.own (.d false u)):=by rfl) (oy:a5M u=true:=by rfl) (C:a0J scope X.env.kindOf [x] [i] X.N=true:=by rfl) (Dq:Gl X "range":=by rfl) (DC:ar [a] X.env=[(false,cK a X.env)]:=by rfl) (yP:ar [a] X.env=(false,cK a X.env)::ar [] X.env:=by rfl)
  (hs:∀x,fN (.Call (.Name "range" rp) [a] [] p4) X.env x=pure x:=by intro _;rfl) :
  PMX X M (.ListComp (.Call (.Attribute (.Name x p1) "get" apos) [.Name y p2] [] cF) [⟨.Name y p3,.Call (.Name "range" rp) [a] [] p4,[],0⟩] scope pos) (a5S i fa) (.l u) (M.set i .dead):=by
 have he:∀cl Cl s H fp,PE (P0 X ([y]++[x]) scope cl Cl s H fp) (.Call (.Attribute (.Name x p1) "get" apos) [.Name y p2] [] cF) (a6Z X):=λcl Cl s0 H0 fp pins s σ H Q I h=>by
  refine he cl Cl s0 H0 fp pins s σ H Q I ?_;obtain⟨v,h1,h2,w,h3,p,es,kt,k,y,h4,h5,h6,⟨k1,k2,k3⟩,h7,h8⟩:=h;exact⟨v,h1,h2,w,h3,p,es,kt,k,y,h4,h5,h6,⟨k1,k2,k3⟩,h7,h8⟩
 obtain⟨wi,pi,qi⟩:=A1 (tg:=.Name y p3) (p:=rp) (pos:=p4) CI ha Dq DC yP;refine⟨_,a6D (tn:=[y]) (ys:=[x]) (js:=[i]) (tt:=a9N) (te:=a6Z X) hc pi C hg (λ_ _ _ _ _=>b6u) he hs,λMp Zp σp Z σ H P F d Q S hf k=>?_⟩;obtain⟨dn,h1,g1⟩:=bnd hf;obtain⟨n,h2,g2⟩:=bnd g1;cases V8 h2
 obtain⟨l1,l2,S0⟩:=S;cases hZ:Z.getD i .none with
 |dict kvs=>
  rw[hZ]at g2;have g3:(if 0<=n/\n<=1000000 then xn (bD ((l0 0 n.toNat).map λk=>(p9 kvs k).getD .none)) else xI)=xn d:=g2;by_cases c:0<=n/\n<=1000000
  ·rw[aB c]at g3;cases g3
   refine qi Z σ H P F (l0 0 n.toNat) _ (Pend.e ⟨l1,l2,S0⟩) (a8m h1 c.1 (by lia)) λJ xs Pr H1 e1 hw qO hx Dl hD=>?_
   have S1:=S0.grow e1;have zk:Dl∉F:=λz=>by obtain⟨zs,w⟩:=S1.lst Dl z;rw[hD]at w;cases w
   obtain⟨G,a1,a2,a3⟩:=S1.all;obtain⟨G1,G2,rfl,a4,a5⟩:=a1.splitAt l1 l2;obtain⟨dd,oo,f,pre,post,q1,q2,⟨v2,rfl,q3⟩,rfl,q5⟩:=a5.at_ hm;obtain⟨b,es,ds,fs,rfl,r2,r3,rfl,r5,r6,hl,hn⟩:=q3.dict;have sX:dd=.dict kvs:=by rw[<-hZ,C6 q1]
   rw[sX]at r3
   injection r3 with r3
   have AG:b≠Dl:=λz=>by rw[z,hD]at r2;cases r2
   have qK:∀(j:Nat) (x:V),xs[j]?=xn x->x=V.int (j:Int)/\(l0 0 n.toNat)[j]?=xn (aO (j:Int)):=λj x hj=>by
    obtain⟨dj,z1,z2⟩:=hx.getV hj;have z3:=z1;unfold l0 at z3;rw[aR]at z3;obtain⟨m,z4,z5⟩:=eU.mp z3;have wN:m=j:=by
     have jv:=(aL.mp z4).1;rw[bz]at jv;rw[eR jv]at z4;exact (aF z4).symm
    subst wN;have z6:aO (0+(m:Int))=dj:=z5;rw[Int.zero_add]at z6;subst z6;exact⟨z2.int_inv,z1⟩
   have ow:=hx.length;refine a4N (tt:=a9N) (te:=a6Z X) (g:=L6 0) (R:=λH'=>Q (.ref Dl) H') hw (λj ys σ' H'=>(∃w,σ'=[w,xn (.ref b)])/\H'=upd H1 Dl (.lst ys)/\ys=((l0 0 n.toNat).take j).map (valAt es)/\ys.length<=j) ?_ ?_ ?_ ?_
   ·refine⟨⟨xI,?_⟩,rfl,rfl,ay _⟩;show [xI]++[(σ[i]?).getD xI]=_;rw[q2];rfl
   ·rintro j ys σ' H' ⟨_,rfl,_⟩;refine qO _ (λz o hz=>?_);obtain⟨n1,n2⟩:=m4 hz;rw[c7 (λe=>by rw[e,hD]at n2;cases n2)];exact n2
   ·rintro j x ys σ' H' Cd ⟨⟨w,rfl⟩,rfl,uQ,xV⟩;obtain⟨rfl,yj⟩:=qK j x Cd;have qP:=(aL.mp yj).1;have Dd:(l0 0 n.toNat).length=n.toNat:=by simp[l0]
    have fin:∀v,v=valAt es (.int (j:Int))->(upd H1 Dl (.lst ys)) Dl=xn (.lst ys)/\ys.length<a_/\(∃w,[xn (V.int (j:Int)),xn (.ref b)]=[w,xn (.ref b)])/\upd (upd H1 Dl (.lst ys)) Dl (.lst (ys++[v]))=upd H1 Dl (.lst (ys++[v]))/\ys++[v]=((l0 0 n.toNat).take (j+1)).map (valAt es)/\(ys++[v]).length<=j+1:=λv hv=>by
     refine⟨g8,gU (cC xV (by lia)) (show 1000000<a_ by rw[dg];decide),⟨_,rfl⟩,b5u ..,?_,by rw[az];simp;lia⟩;rw[Bq,yj,aN,<-uQ,hv];rfl
    unfold L6 a9N;refine a5t ?_;refine⟨.ref b,rfl,⟨b,es,rfl,by rw[c7 AG];exact r2⟩,.int (j:Int),rfl,b,es,false,.int (j:Int),.int (j:Int),rfl,rfl,by rw[c7 AG];exact r2,⟨λe he=>⟨(r5 e he).1,?_⟩,E4 rfl,den_int⟩,λhf=>?_,λe he fS=>?_⟩
    ·exact ((r5 e he).2.up j5).up λz o hz=>by rw[c7 (λq=>by rw[q,hD]at hz;cases hz)];exact hz
    ·refine fin .non ?_;unfold valAt;rw[a3x.mpr hf]
    ·refine fin e.2.2 ?_;have heq:aI e.1 (.int (j:Int))=true:=(D6 e.1 _ (r5 e he).1.1 rfl).mpr fS;unfold valAt;cases wQ:F6 es (.int (j:Int)) with
     |none=>
      have:=a3x.mp wQ;unfold x5 at this;rw[et]at this;exact absurd heq (this e he)
     |some i0=>
      obtain⟨e0,z1,z2⟩:=S6 wQ;have z3:=(D6 e0.1 _ (r5 e0 (br z1)).1.1 rfl).mp z2;have z4:=b3M hn he (br z1) (fS.trans z3.symm);show _=((es.map (·.2.2))[i0]?).getD .non;rw[aR,z1,z4];rfl
   ·rintro ys σ' H' ⟨_,rfl,uQ,_⟩;have uP:ys=(l0 0 n.toNat).map (valAt es):=by
     rw[uQ,ow,nZ]
    have sV:fs.Nodup:=by
     have:=(bN.mp (bN.mp (bN.mp a2).2.1).2.1).1;exact (bV.mp this).2
    obtain⟨jE,w1,w2,w3⟩:=b1B oy hl (λe he=>(r5 e he).1) hn r6 sV n.toNat;have iE:Same (cut H1 F) (cut (upd H1 Dl (.lst ys)) (Dl::F)):=λz o hz=>by
     obtain⟨n1,n2⟩:=m4 hz;have Af:z≠Dl:=λe=>by rw[e,hD]at n2;cases n2
     exact g9 (λq=>by rcases aH.mp q with q|q;exact Af q;exact n1 q) (by rw[c7 Af];exact n2)
    have keep:∀z∈F,upd H1 Dl (.lst ys) z=H1 z:=λz hz=>c7 λe=>zk (e▸hz)
    have Fy:∀z∈G1++(pre++(b::fs++post)),z∈F:=a3;have vE:∀z∈fs,z∈F:=λz hz=>a3 z (by simp[hz])
    have own:Own X.K (upd H1 Dl (.lst ys)) (Dl::F) (.l u) (.ref Dl) (.list ((l0 0 n.toNat).map λk=>(p9 kvs k).getD .none)) (Dl::jE):=by
     simp only[Own];refine .inr ⟨Dl,ys,_,jE,rfl,g8,rfl,rfl,?_⟩;have hd:((l0 0 n.toNat).map λk=>(p9 kvs k).getD .none)=(l0 0 n.toNat).map (a4T es ds):=by
      refine bG λk _=>?_
      rw[a4U k hl,r3]
     rw[hd,uP];rw[uP]at iE keep;exact n9 iE w1 λz hz=>keep z (vE z (w3 z hz))
    have q:=q5 (upd H1 Dl (.lst ys)) (Dl::F) .dead dd (xn (.ref b)) [] (λz hz=>keep z (a3 z (by
     rcases aq.mp hz with y|y
     ·exact ah _ (ak _ y)
     ·exact ah _ (ah _ (ah _ y))))) iE rfl
    rw[set_same q1,set_same q2]at q;have qj:=(a4.frame iE λz hz=>keep z (a3 z (ak _ hz))).join (j6 (m:=.own (.l u)) (d:=.list ((l0 0 n.toNat).map λk=>(p9 kvs k).getD .none)) (o:=xn (.ref Dl)) (f:=Dl::jE) ⟨_,rfl,own⟩ q);refine k (.ref Dl) _ (Dl::F) (e1.trans (l6 hD _)) ⟨by simp[l1],by simp[l2],⟨⟨G1++(Dl::jE++(pre++([]++post))),by simpa using qj,?_,λz hz=>?_⟩,λz hz=>?_,S1.prot.trans iE⟩⟩
    ·refine eL.mpr λz=>?_
     have c1:=eL.mp a2 z;have c2:jE.count z<=fs.count z:=by
      by_cases hz:z∈jE
      ·have y1:=eL.mp w2 z;have y2:=fw.mpr (w3 z hz);lia
      ·rw[jN.mpr hz];lia
     by_cases hz:z=Dl
     ·subst hz;have y:(G1++(pre++(b::fs++post))).count z=0:=jN.mpr λy=>zk (a3 z y)
      simp only[bT,bB,f_,bJ,EG,pq]at c1 y ⊢;lia
     ·have rD:(Dl==z)=false:=gF.mpr λe=>hz e.symm
      simp only[bT,bB,f_,bJ,rD,bu,dr]at c1 ⊢;lia
    ·simp only[aq,aH,bB,bJ]at hz ⊢;rcases hz with y|y|y|y|y
     ·exact .inr (a3 z (by simp[y]))
     ·exact .inl y
     ·exact .inr (vE z (w3 z y))
     ·exact .inr (a3 z (by simp[y]))
     ·exact .inr (a3 z (by simp[y]))
    ·by_cases e:z=Dl
     ·subst e;exact⟨⟨.lst ys,trivial⟩,g8⟩
     ·rcases aH.mp hz with y|y
      ·exact absurd y e
      ·obtain⟨zs,w⟩:=S1.lst z y;exact⟨zs,by rw[c7 e];exact w⟩
  ·rw[aJ c]at g3;cases g3
 |_=>rw[hZ]at g2;cases g2
end
def keysOk(kt:Bool)(kvs:List (D×D)):Bool:=kvs.all λp=>o8 kt p.1
def b1D{kvs:List (D×D)}{es:List (D×V×V)}(h:es.map (·.1)=kvs.map (·.1)):F9 kvs k=x5 es k:=by
 have e1:F9 kvs k=(kvs.map (·.1)).any λx=>aI x k:=by unfold F9;rw[List.any_map];rfl
 have e2:x5 es k=(es.map (·.1)).any λx=>aI x k:=by unfold x5;rw[List.any_map];rfl
 rw[e1,e2,h]
def c1s{X:Cx}(h:DenKV X.K H es kvs)(ho:keysOk kt kvs=true)(hk:o8 kt k=true)(hd:Den X.K H kv k):KeysAt X H kt es k kv:=by
 refine⟨λe he=>⟨?_,h.kden e he⟩,E4 hk,hd⟩;have hm:e.1∈kvs.map (·.1):=by rw[<-h.keys];exact cH he
 obtain⟨p,hp,e1⟩:=aG.mp hm;rw[<-e1];exact E4 (dH.mp ho p hp)
section
variable {X:Cx}{M:List Md}{a b:Expr}{fa fb:EvE}{ca cb:Cat}{kt:Bool}{pos:fM}
def b9D{es:List (D×V×V)}(hn:(es.map (·.1)).Nodup)(hk:∀e∈es,aI e.1 k=true↔e.1=k)(h:DenKV K H es kvs)(he:e∈es)(fS:e.1=k):∃d,p9 kvs k=xn d/\Den K H e.2.2 d:=by
 obtain⟨j,hj⟩:=cS.mp he;have hl:kvs.length=es.length:=by have:=dB dY h.keys;simpa using this.symm
 have hz:kvs=(es.map (·.1)).zip (kvs.map (·.2)):=by
  rw[h.keys,List.zip_map',List.map_id'' (λp=>rfl)]
 obtain⟨p,hp⟩:∃p,kvs[j]?=xn p:=⟨_,ab (by rw[hl];exact (aL.mp hj).1)⟩;have hd:(kvs.map (·.2))[j]?=xn p.2:=by rw[aR,hp];rfl
 refine⟨p.2,?_,?_⟩
 ·rw[hz];exact a3p (by rw[ai];exact hl) hk hn hj fS hd
 ·obtain⟨v,z1,z2⟩:=h.vals.get hd;rw[aR,hj]at z1;cases z1
  exact z2
end
def frz:Md->Md
 |.own .i=>.own .i
 |.own _=>.own .f
 |m=>m
def b3N(h:SlotR K H F m o d f):SlotR K H [] (frz m) o d []:=by
 have hc:Same (cut H F) (cut H []):=λa x ha=>g9 (by simp) (j5 a x ha)
 have key:∀u:Ty,(∃v,o=xn v/\Own K H F u v d f)->SlotR K H [] (.own .f) o d []:=λu ⟨v,e,q⟩=>⟨v,e,by
  have hd:Den K H v d:=q.den;simp only[Own];exact⟨trivial,hd.up λa x ha=>g9 (by simp) ha⟩⟩
 cases m with
 |dead=>rfl
 |own u=>
  cases u with
  |i=>
   obtain⟨v,e,q⟩:=h;refine⟨v,e,?_⟩;simp only[Own]at q ⊢;exact⟨trivial,q.2.1,q.2.2.up hc⟩
  |f=>exact key _ h
  |l u=>exact key _ h
  |tp us=>exact key _ h
  |d kt u=>exact key _ h
 |exc=>obtain⟨_,h2⟩:=h.frame (H':=H) (F':=[]) hc λ_ _=>rfl;exact⟨rfl,h2⟩
 |keys kt=>obtain⟨_,h2⟩:=h.frame (H':=H) (F':=[]) hc λ_ _=>rfl;exact⟨rfl,h2⟩
 |pin v=>exact⟨rfl,h.2⟩
 |fn Φ=>obtain⟨_,h2⟩:=h.frame (H':=H) (F':=[]) hc λ_ _=>rfl;exact⟨rfl,h2⟩
theorem a4V:∀{M:List Md} {Z:List D} {σ:L2.St} {G:List aw},StAll K H F M Z σ G->StAll K H [] (M.map frz) Z σ []
 |[],_,_,_,h=>by simp only[StAll]at h;obtain⟨rfl,rfl,_⟩:=h;exact L3
 |m::M,_,_,_,h=>by
  simp only[StAll]at h;obtain⟨d,Z,o,σ,f,g,rfl,rfl,rfl,h1,h2⟩:=h;exact j6 (f:=[]) (g:=[]) (b3N h1) (a4V h2)
section
variable {K:af}{M:List Md}{Z:List D}{σ:L2.St}{H P:Hp}{F:List aw}{i j:Nat}{t:Ty}{ds es:List D}
def StR.extendL(gC:i≠j)(h:StR K M Z σ H P F)(hi:M[i]?=xn (.own (.l t)))(hj:M[j]?=xn (.own (.l t)))(AK:Z.getD i .none=.list ds)(AJ:Z.getD j .none=.list es) :
  ∃a b xs zs,σ[i]?=xn (xn (.ref a))/\σ[j]?=xn (xn (.ref b))/\H a=xn (.lst xs)/\H b=xn (.lst zs)/\xs.length=ds.length/\zs.length=es.length/\StR K (M.set j .dead) (Z.set i (.list (ds++es))) σ (upd H a (.lst (xs++zs))) P F/\Den K (upd H a (.lst (xs++zs))) (.ref b) (.list es):=by
 obtain⟨G,h1,h2,h3⟩:=h.all;obtain⟨dj,oj,fj,qI,om,Bc,xj,⟨vj,rfl,Oj⟩,zu,En⟩:=h1.at_ hj;rw[C6 Bc]at AJ;subst AJ;simp only[Own]at Oj;rcases Oj with⟨_,lH,_⟩|⟨b,zs,jF,gs,rfl,um,lI,rfl,AN⟩
 ·simp only[imm]at lH;cases lH
 cases lI
 rw[zu]at h2;have q1:=En H F .dead (.list es) (xn (.ref b)) [] (λ_ _=>rfl) (Same.refl _) rfl;rw[set_same Bc,set_same xj]at q1;have wN:(M.set j .dead)[i]?=xn (.own (.l t)):=by rw[bF (cY gC)];exact hi
 obtain⟨di,oi,f1,pF,mY,Er,xl,⟨vi,rfl,Oi⟩,Ep,Eo⟩:=q1.at_ wN;rw[C6 Er]at AK;subst AK;simp only[Own]at Oi;rcases Oi with⟨_,lH,_⟩|⟨a,xs,jS,fi,rfl,rQ,jR,rfl,AO⟩
 ·simp only[imm]at lH;cases lH
 cases jR
 have q_:qI++om=pF++((a::fi)++mY):=by simpa using Ep
 have apart:=a1y h2;have iQ:∀x∈qI++om,x∈F:=λx hx=>h3 x (by rw[zu];exact mem_mid hx)
 have tj:a∈qI++om:=by rw[q_];simp
 have qS:a≠b:=λz=>apart b aK (by rw[<-z];exact tj)
 have vT:a∈F:=iQ a tj;have qQ:Same (cut H F) (cut (upd H a (.lst (xs++zs))) F):=λc o' uh=>by
  obtain⟨r1,r2⟩:=m4 uh;have ne:c≠a:=λz=>r1 (by rw[z];exact vT)
  exact g9 r1 (by rw[c7 ne];exact r2)
 have vg:(pF++((a::fi)++mY)).Nodup:=by rw[<-q_];exact P3 h2
 have vR:a∉fi++mY:=by
  have:=(bN.mp vg).2.1;rw[bB,bV]at this;exact this.1
 have vQ:a∉pF:=λz=>(bN.mp vg).2.2 a z a (by simp) rfl
 have y_:a∉gs:=λz=>apart a (av _ z) tj
 have LB:ListAll (Own K (upd H a (.lst (xs++zs))) F t) zs es gs:=AN.imp λv d f hf _ q=>q.frame qQ t λx hx=>c7 λz=>y_ (by rw[<-z];exact hf x hx)
 have LA:ListAll (Own K (upd H a (.lst (xs++zs))) F t) xs ds fi:=AO.imp λv d f hf _ q=>q.frame qQ t λx hx=>c7 λz=>vR (ak _ (by rw[<-z];exact hf x hx))
 have own:Own K (upd H a (.lst (xs++zs))) F (.l t) (.ref a) (.list (ds++es)) (a::(fi++gs)):=by
  simp only[Own];exact .inr ⟨a,xs++zs,ds++es,fi++gs,rfl,g8,rfl,rfl,LA.append LB⟩
 have q2:=Eo _ _ (.own (.l t)) (.list (ds++es)) (xn (.ref a)) (a::(fi++gs)) (λx hx=>c7 λz=>by
  rcases aq.mp hx with y|y
  ·exact vQ (by rw[<-z];exact y)
  ·exact vR (ah _ (by rw[<-z];exact y))) qQ ⟨_,rfl,own⟩
 rw[set_same wN,set_same xl]at q2;have nV:∀x,(qI++om).count x=(pF++((a::fi)++mY)).count x:=λx=>by rw[q_]
 refine⟨a,b,xs,zs,xl,xj,rQ,um,AO.length,AN.length,⟨⟨_,q2,W5 h2 λx=>?_,λx hx=>?_⟩,λx hx=>?_,h.prot.trans qQ⟩,den_list (.inl (.inl (by rw[c7 (cY qS)];exact um))) (ListAll.den (λv d f q=>q.den) LB)⟩
 ·have:=nV x;simp only[bT,bB,f_]at this ⊢;lia
 ·have uT:x∈pF++((a::fi)++mY)∨x∈gs:=by
   simp only[aq,aH,bB]at hx ⊢;rcases hx with z|z|(z|z)|z
   ·exact .inl (.inl z)
   ·exact .inl (.inr (.inl z))
   ·exact .inl (.inr (.inr (.inl z)))
   ·exact .inr z
   ·exact .inl (.inr (.inr (.inr z)))
  rcases uT with z|z
  ·exact iQ x (by rw[q_];exact z)
  ·exact h3 x (by rw[zu];simp[z])
 ·by_cases z:x=a
  ·exact⟨⟨.lst (xs++zs),trivial⟩,by rw[z,g8]⟩
  ·rw[c7 z];exact h.lst x hx
end
noncomputable def a2l(i j:Nat):EvS:=λZ=>match Z.getD i .none,Z.getD j .none with
 |.list ds,.list es=>if ds.length+es.length<=1000000 then xn (.nx (Z.set i (.list (ds++es)))) else xI
 |_,_=>xI
section
variable {X:Cx}{M M1 ML:List Md}{w t:Ty}{e iter:Expr}{f:EvE}{fi:EvA}{x y z:bE}{px py pz pm pos mZ uJ apos cF:fM}
def b6v(i j jm:Nat)(gC:i≠j)(wU:j≠jm)(Dh:i≠jm)(hM:M=(M1.set j .dead).set jm .dead)(hc:X.calm=true)(hp:nJ (aY X.prog X.w) X.A X.env X.xe)(xc:X.N.Nodup)(hi:PIX X M1 (.Name z pm) iter fi)(hL:PXL X M j e f (.new (.l t)))
  (vn:M1[i]?=xn (.own (.l t)):=by rfl) (t_:M1[j]?=xn (.own (.l t)):=by rfl) (Av:M1[jm]?=xn mm:=by rfl) (xb:X.N[i]?=xn x:=by rfl) (xa:X.N[j]?=xn y:=by rfl) (DY:X.N[jm]?=xn z:=by rfl)
  (sC:Vis X.env.scope x:=by first|exact bY rfl|exact bR (bY rfl)|exact bR (bR rfl)) (oS:(x==("__debug__":bE))=false:=by decide) (yV:(x==("__classdict__":bE))=false:=by decide)
  (xZ:Vis X.env.scope y:=by first|exact bY rfl|exact bR (bY rfl)|exact bR (bR rfl)) (yR:(y==("__debug__":bE))=false:=by decide) (yU:(y==("__classdict__":bE))=false:=by decide)
  (CT:Loc X.env.scope y:=by first|exact bY rfl|exact bR rfl) (wX:X.fn y=true∨X.env.scope.names.lookup y=xn .local:=by first|exact .inl rfl|exact .inr rfl)
  (CQ:Loc X.env.scope z:=by first|exact bY rfl|exact bR rfl) (Dx:X.fn z=true∨X.env.scope.names.lookup z=xn .local:=by first|exact .inl rfl|exact .inr rfl)
  (fm:dM (.Name x px) "extend" X.env (cK (.Name x px) X.env)=cK (.Name x px) X.env:=by rfl)
  (ic:((cB cF (ar [.Name y py] X.env)).all (λx=>!x.1)&&(eK cF (dh [] X.env)).all (λx=>x.1.isSome)
   && decide (([.Name y py]:List Expr).length+([]:List eB).length+(if ([]:List eB).isEmpty then 0 else 1)<30))=true:=by rfl)
  (fg:(apos.endLine==cF.line)=true:=by rfl) (hs:ar [.Name y py] X.env=(false,cK (.Name y py) X.env)::ar [] X.env:=by rfl) (dZ:(cB cF (ar [] X.env)).any (·.1)=false:=by rfl)
  (qN:fL (.Call (.Attribute (.Name x px) "extend" apos) [.Name y py] [] cF) xI uJ.line X.env=pure false:=by rfl) (sE:fL e (xn (.Name y pz)) mZ.line X.env=pure false:=by rfl)
  (hf:∀x,fN iter X.env x=pure x:=by intro _;rfl) :
  PSX X w ML M1 (.For (.Name z pm) iter [.Assign [.Name y pz] e mZ,.Expr (.Call (.Attribute (.Name x px) "extend" apos) [.Name y py] [] cF) uJ] [] pos) (C0 fi (t8 jm) (f8 (i9 j f) (a2l i j))) M:=by
 obtain⟨wi,pi,qi⟩:=hi;obtain⟨te,pe,qe⟩:=hL;have lm:jm<M1.length:=(aL.mp Av).1;have lj:j<M1.length:=(aL.mp t_).1;have Ea:M[i]?=xn (.own (.l t)):=by rw[hM,bF (cY Dh),bF (cY gC)];exact vn
 have zh:M[j]?=xn .dead:=by rw[hM,bF (cY wU),er lj]
 have AM:M[jm]?=xn .dead:=by rw[hM,er (by rw[FP];exact lm)]
 refine .mk ⟨_,a7P hp hc pi (q8 xc DY CQ Dx) (a0G (a7N xc xa CT pe sE wX) (a9p (Q6 (a4F eM rh rg a4G (B5 xb sC oS yV) (k8 (B5 xa xZ yR yU) p5 hs) fm ic fg hs dZ) qN))) hf,λE Z σ H P F o S sU k=>?_⟩;obtain⟨ds,h1,g1⟩:=bnd sU;refine qi Z σ H P F ds _ S.toE h1 λJ xs Pr H1 e1 hw qO hx=>?_
 have S1:=S.grow e1;have ow:=hx.length;obtain⟨v0,f0,tS,o0,_⟩:=S1.toE.get t_;have S0:StR X.K M Z σ H1 P F:=by
  rw[hM];exact (S1.dead t_).dead (m:=mm) (by rw[bF wU];exact Av)
 refine⟨λn m σ' H'=>m=xs.length-n/\n<=xs.length/\∃Z' F' v,StR X.K M Z' σ' H' (cut H1 F) F'/\σ'[j]?=xn (xn v)/\Den X.K H' v (Z'.getD j .none)/\U9 (t8 jm) (f8 (i9 j f) (a2l i j)) (ds.drop n) Z'=xn o,⟨xs.length,by simp,cE _,Z,F,v0,⟨S0.all,S0.lst,Same.refl _⟩,tS,o0.den,g1⟩,?_⟩;rintro n m σ' H' ⟨rfl,hn,Z',F',v,S',hv,kJ,hfl⟩;have q:=qO H' (S'.prot.trans j5);by_cases jv:n<xs.length
 ·refine .inr ⟨hw.go n H' q jv,λσ2 H2=>∃Z2 F2 v2,StR X.K M Z2 σ2 H2 (cut H1 F) F2/\σ2[j]?=xn (xn v2)/\Den X.K H2 v2 (Z2.getD j .none)/\U9 (t8 jm) (f8 (i9 j f) (a2l i j)) (ds.drop (n+1)) Z2=xn o,λσ2 H2 zz=>⟨xs.length-(n+1),by lia,rfl,jv,zz⟩,λvx H2 hy=>?_⟩;obtain⟨rfl,qK⟩:=hw.yld n H' vx H2 q jv hy;have mB:n<ds.length:=by lia
  rw[dJ mB]at hfl;obtain⟨Z1,tW,g2⟩:=bnd (show (t8 jm Z' ds[n]).bind _=xn o from hfl);cases tW
  obtain⟨o1,hg1,g3⟩:=bnd g2;obtain⟨oa,w_,wZ⟩:=bnd (show (i9 j f (Z'.set jm ds[n])).bind _=xn o1 from hg1);obtain⟨dy,vD,Cy⟩:=bnd (show (f (Z'.set jm ds[n])).bind (λd=>xn (Out.nx ((Z'.set jm ds[n]).set j d)))=xn oa from w_);cases Cy
  have S2:=S'.kill AM ds[n] (xn vx);rw[set_same AM]at S2;have tR:(σ'.set jm (xn vx))[j]?=xn (xn v):=by rw[bF (cY wU)];exact hv
  have hd2:(Z'.set jm ds[n]).getD j .none=Z'.getD j .none:=by rw[ag,bF (cY wU),ag]
  refine qe _ (σ'.set jm (xn vx)) H2 (cut H1 F) F' dy v _ S2.toE tR (by rw[hd2];exact kJ) vD λvy H3 e3 ⟨fp,o3,n3,f3⟩=>?_
  have S3:=S2.set zh e3 o3 n3 f3;have zi:(M.set j (.own (.l t)))[i]?=xn (.own (.l t)):=by rw[bF (cY gC)];exact Ea
  have zg:(M.set j (.own (.l t)))[j]?=xn (.own (.l t)):=er (aL.mp zh).1;have yO:∃es fs,((Z'.set jm ds[n]).set j dy).getD i .none=.list es/\((Z'.set jm ds[n]).set j dy).getD j .none=.list fs/\es.length+fs.length<=1000000/\o1=.nx (((Z'.set jm ds[n]).set j dy).set i (.list (es++fs))):=by
   have oU:a2l i j ((Z'.set jm ds[n]).set j dy)=xn o1:=wZ;unfold a2l at oU;generalize ((Z'.set jm ds[n]).set j dy).getD i .none=d1 at oU;generalize ((Z'.set jm ds[n]).set j dy).getD j .none=d2 at oU;cases d1 with
   |list es=>
    cases d2 with
    |list fs=>
     have h':(if es.length+fs.length<=1000000 then xn (Out.nx (((Z'.set jm ds[n]).set j dy).set i (.list (es++fs)))) else xI)=xn o1:=oU;by_cases cc:es.length+fs.length<=1000000
     ·rw[aB cc]at h';exact⟨es,fs,rfl,rfl,cc,(aF h').symm⟩
     ·rw[aJ cc]at h';cases h'
    |_=>cases oU
   |_=>cases oU
  obtain⟨es,fs,DA,sV,ku,rfl⟩:=yO;obtain⟨a,b,tJ,wz,sr,qJ,rQ,um,l1,l2,S4,D4⟩:=S3.extendL gC zi zg DA sV;have hz:a_=16777216:=dg;refine⟨.ref a,sr,.inl ⟨rfl,tJ,SqL.of rQ⟩,.ref b,qJ,a,b,tJ,wz,rfl,rfl,rQ,um,by lia,?_⟩;rw[List.set_set,set_same zh]at S4;refine⟨_,_,.ref b,S4,qJ,?_,g3⟩;rw[ag,bF gC,<-ag,sV];exact D4
 ·have e:n=xs.length:=by lia
  subst e;rw[ow,iN]at hfl;have:o=.nx Z':=(aF hfl).symm;subst this;exact .inl ⟨hw.stop _ H' q (ay _),k σ' H' F' ⟨S'.all,S'.lst,S0.prot.trans S'.prot⟩⟩
end
noncomputable def a7a(i:Nat)(f:EvE):EvS:=λZ=>(f Z).bind λd=>match d,Z.getD i .none with
 |.list es,.list ds=>if ds.length+es.length<=1000000 then xn (.nx (Z.set i (.list (ds++es)))) else xI
 |_,_=>xI
section
variable {X:Cx}{t w:Ty}{ML M:List Md}{e:Expr}{f:EvE}{pos apos cF:fM}{x:bE}{px:fM}
def b6w(i:Nat)(he:PX X M e f (.new (.l t)))(hm:M[i]?=xn (.own (.l t)):=by rfl)(hN:X.N[i]?=xn x:=by rfl)(hv:Vis X.env.scope x:=by first|exact bY rfl|exact bR (bY rfl)|exact bR (bR rfl))(hd:(x==("__debug__":bE))=false:=by decide)
  (iF:(x==("__classdict__":bE))=false:=by decide)
  (fm:dM (.Name x px) "extend" X.env (cK (.Name x px) X.env)=cK (.Name x px) X.env:=by rfl)
  (ic:((cB cF (ar [e] X.env)).all (λx=>!x.1)&&(eK cF (dh [] X.env)).all (λx=>x.1.isSome)
   && decide ([e].length+([]:List eB).length+(if ([]:List eB).isEmpty then 0 else 1)<30))=true:=by rfl)
  (fg:(apos.endLine==cF.line)=true:=by rfl) (hs:ar [e] X.env=(false,cK e X.env)::ar [] X.env:=by rfl) (dZ:(cB cF (ar [] X.env)).any (·.1)=false:=by rfl)
  (qN:fL (.Call (.Attribute (.Name x px) "extend" apos) [e] [] cF) xI pos.line X.env=pure false:=by rfl) :
  PSX X w ML M (.Expr (.Call (.Attribute (.Name x px) "extend" apos) [e] [] cF) pos) (a7a i f) M:=by
 obtain⟨te,pe,qe⟩:=he.out;refine .mk ⟨_,Q6 (a4F eM rh rg a4G (B5 hN hv hd iF) (k8 pe p5 hs) fm ic fg hs dZ) qN,λD Z σ H P F o S hg k=>?_⟩;obtain⟨d,h3,g3⟩:=bnd hg;have hl:∃es ds,d=.list es/\Z.getD i .none=.list ds/\ds.length+es.length<=1000000/\o=.nx (Z.set i (.list (ds++es))):=by
  cases d with
  |list es=>
   cases hr:Z.getD i iB with
   |list ds=>
    rw[hr]at g3;have qX:(if ds.length+es.length<=1000000 then xn (Out.nx (Z.set i (.list (ds++es)))) else xI)=xn o:=g3;by_cases c:ds.length+es.length<=1000000
    ·rw[aB c]at qX;exact⟨es,ds,rfl,rfl,c,(aF qX).symm⟩
    ·rw[aJ c]at qX;cases qX
   |_=>rw[hr]at g3;cases g3
  |_=>cases g3
 obtain⟨es,ds,rfl,hr,hz,rfl⟩:=hl;obtain⟨v0,f0,e0,o0,BF⟩:=S.toE.get hm;rw[hr]at o0;simp only[Own]at o0;rcases o0 with⟨_,hi,_⟩|⟨b,xs,jS,fs,rfl,hH,jR,rfl,hL⟩
 ·simp only[imm]at hi;cases hi
 cases jR
 refine⟨.ref b,e0,.inl ⟨rfl,xs,SqL.of hH⟩,qe Z σ H P F _ _ S.toE h3 λv1 H1 e1 ⟨fp,o1,nd,fr⟩=>?_⟩;obtain⟨_,_,S1⟩:=S.pend.new e1 o1 nd fr;have EH:StR X.K (.own (.l t)::M) (.list es::Z) (xn v1::σ) H1 P (fp++F):=S1;obtain⟨a,b',tJ,wz,sr,qJ,rQ,um,l1,l2,S4,_⟩:=EH.extendL (i:=i+1) (j:=0) (by lia) (by simpa using hm) rfl (by simpa using hr) rfl;have ea:b=a:=by
  have:(xn (xn (V.ref b)):Option (Option V))=xn (xn (.ref a)):=by rw[<-e0];simpa using sr
  cases this;rfl
 subst ea;cases (show (xn (xn v1):Option (Option V))=xn (xn (.ref b')) from qJ)
 have uS:tJ=xs:=by rw[e1 _ _ hH]at rQ;cases rQ;rfl
 subst uS;have ku:a_=16777216:=dg;refine⟨b,b',tJ,wz,rfl,rfl,rQ,um,by lia,k σ _ (fp++F) ?_⟩;obtain⟨G,q1,q2,q3⟩:=S4.all;have zU:StAll X.K (upd H1 b (.lst (tJ++wz))) (fp++F) (.dead::M) (.list es::Z.set i (.list (ds++es))) (xn (.ref b')::σ) G:=q1;simp only[StAll]at zU;obtain⟨d,Z',o',σ',f',g',z1,z2,rfl,z4,z5⟩:=zU;cases z1
 cases z2
 have Bv:f'=[]:=z4;subst Bv;exact⟨⟨g',z5,by simpa using q2,λa ha=>q3 a (by simpa using ha)⟩,S4.lst,S4.prot⟩
end
section
variable {X:Cx}{M ML:List Md}{u:Ty}{e:Expr}{f:EvE}{pos:fM}
def StR.free{Z:List D}(S:StR K M Z σ H P F)(hM:M.map frz=M):StR K M Z σ H P []:=by
 obtain⟨G,h1,_,_⟩:=S.all;have:=a4V h1;rw[hM]at this;exact⟨⟨[],this,bA,λa ha=>(nomatch ha)⟩,λa ha=>(nomatch ha),S.prot.trans λa x ha=>g9 (by simp) (j5 a x ha)⟩
end
end VS
namespace VS
open PySem PySem.Spec L2
open PyProof.Rows (KeyOrd mirror bubble getElem?_mirror_all getElem?_bubble mirror_perm bubble_perm)
open PySem.W (KasT kas_asc kas_desc kas_rev kas_tail3 kas_descPart kas_count kas_place kas_bin kas_sort)
section
variable {O:KeyOrd}{key:Nat->O.α}{N:Nat}{sh:au}{cmp:Nat->Nat->(Bool->au->Prop)->au->Prop}
def kyP(key:Nat->O.α)(p:Array Nat)(i:Nat):O.α:=key (p.getD i 0)
def b1E(key:Nat->O.α)(p:Array Nat)(k:Nat):Prop:=∀i j,i<=j->j<k->O.kle (kyP key p i) (kyP key p j)
def AllN(N:Nat)(p:Array Nat):Prop:=p.toList.Perm (aA N)
theorem AllN.size(h:AllN N p):p.size=N:=by
 have:=h.length_eq;simpa using this
end
end VS
namespace PySem
open Sem (wp)
set_option maxRecDepth 100000
def Heap.RawDict(hp:cR)(d:aw)(rows:Array gX)(ep:Nat):Prop:=∃u,hp.get? d=xn u/\u.ExactDict/\u.data=.dict rows ep
section
variable {prog:bw}{w:b_}{A:bQ}{E:aj->au->Prop}{sh:au}{d it:aw}{rows:Array gX}{ep i:Nat}
def Heap.RawDict.at{h h':cR}(x:h.RawDict d rows ep)(e:∀o,h.get? d=xn o->h'.get? d=xn o):h'.RawDict d rows ep:=let⟨u,hu,r⟩:=x;⟨u,e _ hu,r⟩
def Heap.RawDict.typeIs(x:sh.heap.RawDict d rows ep):sh.TypeIs (.ref d) "dict":=let⟨u,hu,r,_⟩:=x;⟨u,hu,r.1⟩
def b3O(h0:(d==dq)=false)(hm:sh.heap.RawDict d rows ep)
  (q:Q (.ref sh.heap.objs.size) {sh with heap:=sh.heap.push {cls:=.type "dict_keyiterator",data:=.fields #[.ref d,.int 0 0,.int rows.size 0,.int ep 0]}}) :
  aX (aY prog w) A (pyIter (.ref d)) Q E sh:=by
 obtain⟨u,hu,hx,kC⟩:=id hm;refine wpAny_pyIter_slot hm.typeIs F.slot_dict_iter (dN F.slot_dict_iter hm.typeIs F.entry_dict_iter ?_ (F.args_dict_iter_1 _));unfold Builtin.«dict.__iter__»;refine ae ?_;unfold Builtin.Dict.dictSlotNone;refine ae (mG hm.typeIs ?_);show aX _ _ (pure (bH d)) _ _ sh;refine aC ?_;show aX _ _ (FT d >>= _) _ _ sh;unfold FT;rw[aJ (by rw[h0];exact cj)];refine ae (aC (ae (gB hu kC (ae (sf hu kC ?_)))));refine ae (iP (aC ⟨_,rfl,"dict_keyiterator",_,⟨_,be _ rfl,rfl⟩,eX.lookup,?_⟩));simpa[jt]using q
def b3P(hI:sh.heap.IsKeyIter it d i rows.size ep)(hm:sh.heap.RawDict d rows ep)(hi:i<rows.size)
  (q:∀h',h'.IsKeyIter it d (i+1) rows.size ep->mq it sh.heap h'->Q (xn rows[i].key) {sh with heap:=h'}):aX (aY prog w) A (uI (.ref it)) Q E sh:=by
 obtain⟨x,hx,Aj,sv⟩:=id hI;obtain⟨u,hu,_,uV⟩:=id hm;unfold uI;refine ae (oh (fW (name:=cG "__next__") hI.typeIs eX (dN eX hI.typeIs sd ?_ (rz _))));refine ae (aC (ae (ae ?_)))
 first|refine ae (gj hI.typeIs (aC ?_))|refine ae (hX hI.typeIs (aC ?_))
 refine ae (wpAny_fieldsOf hx sv ?_);simp only[show tI "dict_keyiterator"=false from by decide,bu,dr];show aX _ _ (if (bH d==bt)=true then _ else _) _ _ sh;rw[aJ (show ¬ (bH d==bt)=true from cj)];refine ae (aC (ae (gB hu uV ?_)));rw[aJ (by simp)];refine ae (aC (ae (sf hu uV ?_)));rw[aJ (by simp)];refine aC ?_;simp only[show ¬ (i:Int)<0 from by lia,dr,bK,bh hi];refine ae ?_
 first|refine ae (gj hI.typeIs (aC ?_))|refine ae (hX hI.typeIs (aC ?_))
 refine ae (EU hI.typeIs ?_);show aX _ _ (setField (.ref it) 1 (jt ((i:Int)+1)) >>= _) _ _ sh;refine ae (wpAny_setField hx sv (by simp) ?_);have AR:(sh.heap.update it (fY.mapFields (·.setIfInBounds 1 (jt ((i:Int)+1))))).IsKeyIter it d (i+1) rows.size ep:=
  ⟨_,cU _ hx (fY.isFreed_of_fields (fY.data_mapFields sv _)),(fY.cls_mapFields ..).trans Aj,by rw[fY.data_mapFields sv];simp[jt]⟩
 refine ae (dC ?_);refine ae (EU (s:={sh with heap:=sh.heap.update it (fY.mapFields (·.setIfInBounds 1 (jt ((i:Int)+1))))}) AR.typeIs ?_);show aX _ _ (pure rows[i].key) _ _ _;exact aC (aC ⟨_,rfl,aC (q _ AR (fx ..))⟩)
def b3Q(hh:A.handled=xI)(hI:sh.heap.IsKeyIter it d i rows.size ep)(hm:sh.heap.RawDict d rows ep)(hi:rows.size<=i)
  (q:∀h',cR.ExtBut it sh.heap h'->Q xI {sh with heap:=h'}):aX (aY prog w) A (uI (.ref it)) Q E sh:=by
 obtain⟨x,hx,Aj,sv⟩:=id hI;obtain⟨u,hu,_,uV⟩:=id hm;unfold uI;refine ae (oh (fW (name:=cG "__next__") hI.typeIs eX (dN eX hI.typeIs sd ?_ (rz _))));refine ae (aC (ae (ae ?_)))
 first|refine ae (gj hI.typeIs (aC ?_))|refine ae (hX hI.typeIs (aC ?_))
 refine ae (wpAny_fieldsOf hx sv ?_);simp only[show tI "dict_keyiterator"=false from by decide,bu,dr];show aX _ _ (if (bH d==bt)=true then _ else _) _ _ sh;rw[aJ (show ¬ (bH d==bt)=true from cj)];refine ae (aC (ae (gB hu uV ?_)));rw[aJ (by simp)];refine ae (aC (ae (sf hu uV ?_)));rw[aJ (by simp)];refine aC ?_;simp only[show ¬ (i:Int)<0 from by lia,dr,bK,fV hi];refine ae ?_
 first|refine ae (gj hI.typeIs (aC ?_))|refine ae (hX hI.typeIs (aC ?_))
 show aX _ _ (setField (.ref it) 0 .none >>= _) _ _ sh;refine ae (wpAny_setField hx sv (by simp) ?_);show aX _ _ (newExc (.type "StopIteration") [] >>= _) _ _ _;refine ae ?_;simp only[newExc,newTuple];refine ae (iP ?_ (by size_fits));refine ae (m:=firstArgMember _ _) (wpAny_of_eq (a:=bt) (by first|rfl|(simp only[firstArgMember];rfl)) ?_);refine iP ?_ (by size_fits);simp only[raiseNew];refine ae (wpAny_handled ?_);rw[show A.in1.handled=xI from hh];refine ae (aC (wpAny_throw ?_));refine ae (lM (b:=true) (T:="StopIteration") ⟨_,be _ rfl,rfl⟩ isSubtype_stop ?_);exact aC (q _ (((fx ..).extBut.push _).push _))
def b1F(hh:A.handled=xI)(gM:d≠it):Walks prog w A it [it,d] [it] rows.size (λi v=>∃e,rows[i]?=xn e/\v=e.key) (λi h=>h.IsKeyIter it d i rows.size ep/\h.RawDict d rows ep) where
 sub:=λb hb=>aH.mpr (.inl (ao.mp hb))
 frame:=λ_ _ _ st hk=>⟨st.1.at λo e=>hk it aK o e,st.2.at λo e=>hk d (av _ aK) o e⟩
 item:=λi s Q E hi st q=>b3P st.1 st.2 hi λh' hI hs=>q _ h' s.toks ⟨rows[i],bh hi,rfl⟩ ⟨hI,st.2.at λo e=>hs.extBut d o gM e⟩ λb o hb e=>hs.extBut b o (λz=>hb (by rw[z];exact ao.mpr rfl)) e
 done:=λs Q E st q=>b3Q hh st.1 st.2 (ay _) λh' he=>q h' s.toks λb o hb e=>he b o (λz=>hb (by rw[z];exact ao.mpr rfl)) e
 self:=λ_ _ _ _ st q=>wpAny_pyIter_keyiter st.1 q
def b6x(h0:(d==dq)=false):W.KdlSrc prog w "dict" d d rows.size (λi v=>∃e,rows[i]?=xn e/\v=e.key) (λh=>h.RawDict d rows ep) where
 type:=λ_ hm=>hm.typeIs
 there:=λh hm=>let⟨_,hu,_⟩:=hm;⟨aU hu,aU hu⟩
 keep:=λ_ _ hm hk=>hm.at λo e=>hk d (.inl rfl) o e
 notList:=by decide
 notTuple:=by decide
 hint:=λ_ _ s _ hm q=>W.kdl_hint_dict (Heap.RawDict.typeIs (sh:=s) hm) q
 iter:=λ_ _ hh hm=>⟨_,_,(λ_ _ q=>b3O h0 hm q),b1F hh (let⟨_,hu,_⟩:=hm;bM (aU hu)),⟨⟨_,be _ rfl,rfl,rfl⟩,hm.at λ_ e=>aE _ e⟩⟩
end
end PySem
namespace VS
open PySem PyProof.Rows
def a5T:Bool->bO->Array bO->Nat->Nat->Nat->StateT df zD (Option Nat):=sortPriv% PySem.Builtin.gallop
structure CmpS (prog:bw) (w:b_) (A:bQ) (s:au) (κ:eS) (O:KeyOrd) (ky:bO->O.α) (S:bO->Prop):Prop where
 lt:∀x y:bO,S x->S y->∀C:Bool->au->Prop,C (O.blt (ky x) (ky y)) s->aX (aY prog w) A (keyLt' κ x.1 y.1) C (λ_ _=>False) s
section
variable {prog:bw}{w:b_}{A:bQ}{E:aj->au->Prop}{s:au}{κ:eS}{O:KeyOrd}{ky:bO->O.α}{S:bO->Prop}{st:df}
def a3y(H:CmpS prog w A s κ O ky S)(hk:kindOf st=κ)(hx:S x)(hy:S y)(h:Q (xn (O.blt (ky x) (ky y))) st):se (aY prog w) A E s (lt' x y) Q st:=by
 rw[lt'_eq];refine aM (kA ?_);rw[hk];refine aM (wpS_lift (oh ?_));refine d_ (H.lt x y hx hy (λb s'=>b=O.blt (ky x) (ky y)/\s'=s) ⟨rfl,rfl⟩) (λb s' hb=>?_) λ_ _ e=>e.elim
 obtain⟨rfl,rfl⟩:=hb;exact⟨rfl,aW h⟩
def l7{arr:Array bO}(hi:i<arr.size)(h:Q arr[i] st):se (aY prog w) A E s (elem' arr i) Q st:=by
 rw[elem'_eq,bh hi];exact aW h
end
section
variable {prog:bw}{w:b_}{A:bQ}{E:aj->au->Prop}{s:au}{κ:eS}{O:KeyOrd}{ky:bO->O.α}{S:bO->Prop}{st:df}
def b3R(ky:bO->O.α)(S:bO->Prop)(arr:Array bO)(base n:Nat)(ka:Nat->O.α):Prop:=∀i,i<n->∃h:base+i<arr.size,ky arr[base+i]=ka i/\S arr[base+i]
def prG(left:Bool)(k:O.α)(ka:Nat->O.α)(i:Nat):Bool:=if left then O.blt (ka i) k else !O.blt k (ka i)
def N1(H:CmpS prog w A s κ O ky S)(hk:kindOf st=κ)(P:b3R ky S arr base n ka)(hS:S key)(hi:i<n)(h:Q (xn (prG left (ky key) ka i)) st) :
  se (aY prog w) A E s (do let x <-elem' arr (base+i);if left then lt' x key else return (<-lt' key x).map (!·)) Q st:=by
 obtain⟨hb,e,hs⟩:=P i hi;refine aM (l7 hb ?_);unfold prG at h;cases left with
 |true=>exact a3y H hk hs hS (by rw[e];exact h)
 |false=>exact aM (a3y H hk hS hs (aW (by rw[e];exact h)))
def a3z(H:CmpS prog w A s κ O ky S)(hk:kindOf st=κ)(P:b3R ky S arr base n ka)(hS:S key)(hh:hint<n)(mono:∀i j,i<=j->j<n->prG left (ky key) ka j=true->prG left (ky key) ka i=true) 
  (q:∀k,k<=n->(∀i,i<k->prG left (ky key) ka i=true)->(∀i,k<=i->i<n->prG left (ky key) ka i=false)->Q (xn k) st):se (aY prog w) A E s (a5T left key arr base n hint) Q st:=by
 have tw:∀i j,i<=j->j<n->prG left (ky key) ka i=false->prG left (ky key) ka j=false:=λi j gC hj hi=>by
  cases c:prG left (ky key) ka j with
  |false=>rfl
  |true=>rw[mono i j gC hj c]at hi;cases hi
 refine aM (N1 H hk P hS hh ?_);have wg:∀f:Nat->(Option (Option Nat)×Nat×Nat)->StateT df zD (ForInStep (Option (Option Nat)×Nat×Nat)),
   (∀x l r (Q':ForInStep (Option (Option Nat)×Nat×Nat)->df->Prop),l≥r->Q' (.done (xI,l,r)) st->se (aY prog w) A E s (f x (xI,l,r)) Q' st)->
   (∀x l r (Q':ForInStep (Option (Option Nat)×Nat×Nat)->df->Prop),¬ l≥r->l+(r-l) / 2<n->(prG left (ky key) ka (l+(r-l) / 2)=true->Q' (.yield (xI,l+(r-l) / 2+1,r)) st)->(prG left (ky key) ka (l+(r-l) / 2)=false->Q' (.yield (xI,l,l+(r-l) / 2)) st)->se (aY prog w) A E s (f x (xI,l,r)) Q' st)->
   ∀lo hi,lo<=hi->hi<=n->(∀i,i<lo->prG left (ky key) ka i=true)->(∀i,hi<=i->i<n->prG left (ky key) ka i=false)->
   se (aY prog w) A E s (forIn [0:n] ((xI:Option (Option Nat)),lo,hi) f) (λc cO=>cO=st/\∃r,c=(xI,r,r)/\r<=n/\(∀i,i<r->prG left (ky key) ka i=true)/\(∀i,r<=i->i<n->prG left (ky key) ka i=false)) st:=by
  intro f f1 f2 lo hi h1 h2 h3 h4;refine dw (I:=λx c cO=>cO=st/\∃l r,c=(xI,l,r)/\l<=r/\r<=n/\r-l<=n-x/\(∀i,i<l->prG left (ky key) ka i=true)/\(∀i,r<=i->i<n->prG left (ky key) ka i=false)) ?step ?fin ⟨rfl,lo,hi,rfl,h1,h2,by lia,h3,h4⟩
  case fin=>
   rintro c cO ⟨rfl,l,r,rfl,g1,g2,g3,g4,g5⟩;have:l=r:=by lia
   subst this;exact⟨rfl,l,rfl,g2,g4,g5⟩
  case step=>
   rintro x c cO _ hx ⟨rfl,l,r,rfl,g1,g2,g3,g4,g5⟩;by_cases c:l≥r
   ·have:l=r:=by lia
    subst this;exact f1 x l l _ c ⟨rfl,l,rfl,g2,g4,g5⟩
   ·refine f2 x l r _ c (by lia) (λd=>?_) λd=>?_
    ·exact⟨rfl,_,_,rfl,by lia,g2,by lia,λi hi=>mono i _ (show i<=l+(r-l) / 2 by lia) (by lia) d,g5⟩
    ·exact⟨rfl,_,_,rfl,by lia,by lia,by lia,g4,λi hi hn=>tw _ i hi hn d⟩
 dsimp only
 cases d:prG left (ky key) ka hint with
 |true=>
  rw[aB rfl];refine aM (fA (dw (I:=λx c cO=>cO=st/\∃l o,c=(xI,l,o)/\l<o/\x+1<=o/\hint+l<n/\prG left (ky key) ka (hint+l)=true)
   (Q:=λc cO=>cO=st/\∃l o,c=(xI,l,o)/\l<o/\hint+l<n/\prG left (ky key) ka (hint+l)=true/\(hint+o<n->prG left (ky key) ka (hint+o)=false)) ?step ?fin ⟨rfl,0,1,rfl,by lia,by lia,by lia,d⟩) ?post)
  case fin=>
   rintro c cO ⟨rfl,l,o,rfl,g1,g2,g3,g4⟩;exact⟨rfl,l,o,rfl,g1,g3,g4,λz=>by lia⟩
  case post=>
   rintro c cO ⟨rfl,l,o,rfl,g1,g2,g3,g4⟩
   dsimp only
   refine aM (fA (wg _ (λx l r Q' c h=>?_) (λx l r Q' c hm ht hf=>?_) (hint+l+1) (hint+min o (n-hint)) (by lia) (by lia) (λi hi=>mono i (hint+l) (by lia) g2 g3) (λi hi hn=>(cI (hint+o) n).elim (λz=>tw (hint+o) i (by lia) hn (g4 z)) λz=>by lia)) λc cO ⟨e,r,e2,r1,r2,r3⟩=>?_)
   ·dsimp only;rw[aB c];exact aW h
   ·dsimp only
    rw[aJ c];refine aM (N1 H hk P hS hm ?_)
    dsimp only
    cases d':prG left (ky key) ka (l+(r-l) / 2) with
    |true=>rw[aB rfl];exact aW (ht d')
    |false=>simp only[bu,dr];exact aW (hf d')
   ·subst e e2;exact aW (q r r1 r2 r3)
  case step=>
   rintro x c cO _ hx ⟨rfl,l,o,rfl,g1,g2,g3,g4⟩
   dsimp only
   by_cases c:o≥n-hint
   ·rw[aB c];exact aW ⟨rfl,l,o,rfl,g1,g3,g4,λz=>by lia⟩
   ·rw[aJ c];refine aM (N1 H hk P hS (show hint+o<n by lia) ?_)
    dsimp only
    cases e:prG left (ky key) ka (hint+o) with
    |true=>
     simp only[gf,bu,dr];exact aW ⟨rfl,o,2*o+1,rfl,by lia,by lia,by lia,e⟩
    |false=>
     simp only[Bool.not_false,pq];exact aW ⟨rfl,l,o,rfl,g1,g3,g4,λ_=>e⟩
 |false=>
  simp only[bu,dr];refine aM (fA (dw (I:=λx c cO=>cO=st/\∃l o,c=(xI,l,o)/\l<o/\x+1<=o/\l<=hint/\prG left (ky key) ka (hint-l)=false)
   (Q:=λc cO=>cO=st/\∃l o,c=(xI,l,o)/\l<o/\l<=hint/\prG left (ky key) ka (hint-l)=false/\(o<=hint->prG left (ky key) ka (hint-o)=true)) ?step ?fin ⟨rfl,0,1,rfl,by lia,by lia,by lia,d⟩) ?post)
  case fin=>
   rintro c cO ⟨rfl,l,o,rfl,g1,g2,g3,g4⟩;exact⟨rfl,l,o,rfl,g1,g3,g4,λz=>by lia⟩
  case post=>
   rintro c cO ⟨rfl,l,o,rfl,g1,g2,g3,g4⟩
   dsimp only
   refine aM (fA (wg _ (λx l r Q' c h=>?_) (λx l r Q' c hm ht hf=>?_) (hint+1-min o (hint+1)) (hint-l) (by lia) (by lia) (λi hi=>(cI hint o).elim (λz=>by lia) λz=>mono i (hint-o) (by lia) (by lia) (g4 z)) (λi hi hn=>tw (hint-l) i (by lia) hn g3)) λc cO ⟨e,r,e2,r1,r2,r3⟩=>?_)
   ·dsimp only;rw[aB c];exact aW h
   ·dsimp only
    rw[aJ c];refine aM (N1 H hk P hS hm ?_)
    dsimp only
    cases d':prG left (ky key) ka (l+(r-l) / 2) with
    |true=>rw[aB rfl];exact aW (ht d')
    |false=>simp only[bu,dr];exact aW (hf d')
   ·subst e e2;exact aW (q r r1 r2 r3)
  case step=>
   rintro x c cO _ hx ⟨rfl,l,o,rfl,g1,g2,g3,g4⟩
   dsimp only
   by_cases c:o≥hint+1
   ·rw[aB c];exact aW ⟨rfl,l,o,rfl,g1,g3,g4,λz=>by lia⟩
   ·rw[aJ c];refine aM (N1 H hk P hS (show hint-o<n by lia) ?_)
    dsimp only
    cases e:prG left (ky key) ka (hint-o) with
    |true=>
     rw[aB rfl];exact aW ⟨rfl,l,o,rfl,g1,g3,g4,λ_=>e⟩
    |false=>
     simp only[bu,dr];exact aW ⟨rfl,o,2*o+1,rfl,by lia,by lia,by lia,e⟩
end
section
variable {O:KeyOrd}{ky:bO->O.α}
def UpA(ky:bO->O.α)(a:Array bO):Prop:=∀i j (hj:j<a.size) (h:i<=j),O.kle (ky (a[i]'(by lia))) (ky a[j])
structure MInv (ky:bO->O.α) (a b out:Array bO) (ia ib:Nat):Prop where
 la:ia<=a.size
 lb:ib<=b.size
 pm:out.toList.Perm (a.toList.take ia++b.toList.take ib)
 up:out.toList.Pairwise λx y=>O.kle (ky x) (ky y)
 ra:∀x∈out.toList,∀i (h:i<a.size),ia<=i->O.kle (ky x) (ky a[i])
 rb:∀x∈out.toList,∀i (h:i<b.size),ib<=i->O.kle (ky x) (ky b[i])
def take_snoc{α:Type}{l:List α}(h:i<l.length):l.take (i+1)=l.take i++[l[i]]:=(List.take_append_getElem h).symm
def MInv.stepA(M:MInv ky a b out ia ib)(ua:UpA ky a)(h:ia<a.size)(hb:∀j (hj:j<b.size),ib<=j->O.kle (ky a[ia]) (ky b[j])):MInv ky a b (out.push a[ia]) (ia+1) ib:=by
 refine⟨h,M.lb,?_,?_,λx hx i hi hh=>?_,λx hx j hj hh=>?_⟩
 ·rw[cm,take_snoc (by simpa using h),aS];refine (M.pm.append_right _).trans ?_;rw[aS];refine lC _ ?_;rw[bU];exact List.perm_append_comm
 ·rw[cm,dE];refine⟨M.up,dD _ _,λx hx y hy=>?_⟩;rw[ao.mp hy];exact M.ra x hx ia h (ay _)
 ·rw[cm]at hx;rcases aq.mp hx with z|z
  ·exact M.ra x z i hi (by lia)
  ·rw[ao.mp z];exact ua ia i hi (by lia)
 ·rw[cm]at hx;rcases aq.mp hx with z|z
  ·exact M.rb x z j hj hh
  ·rw[ao.mp z];exact hb j hj hh
def MInv.stepB(M:MInv ky a b out ia ib)(ub:UpA ky b)(h:ib<b.size)(ha:∀i (hi:i<a.size),ia<=i->O.kle (ky b[ib]) (ky a[i])):MInv ky a b (out.push b[ib]) ia (ib+1):=by
 refine⟨M.la,h,?_,?_,λx hx i hi hh=>?_,λx hx j hj hh=>?_⟩
 ·rw[cm,take_snoc (l:=b.toList) (by simpa using h),<-aS,bU];exact M.pm.append_right _
 ·rw[cm,dE];refine⟨M.up,dD _ _,λx hx y hy=>?_⟩;rw[ao.mp hy];exact M.rb x hx ib h (ay _)
 ·rw[cm]at hx;rcases aq.mp hx with z|z
  ·exact M.ra x z i hi hh
  ·rw[ao.mp z];exact ha i hi hh
 ·rw[cm]at hx;rcases aq.mp hx with z|z
  ·exact M.rb x z j hj (by lia)
  ·rw[ao.mp z];exact ub ib j hj (by lia)
def a0W{a out:Array bO}(h:i+k<a.size):(out++a.extract i (i+k)).push (a[i+k]'h)=out++a.extract i (i+(k+1)):=by
 rw[og,jQ]
 congr 1;apply gY;rw[mv,gx,gx];simp only[jV];rw[show i+k-i=k by lia,show i+(k+1)-i=k+1 by lia,take_snoc (by rw[gA,aP];lia),Bs,bU]
theorem MInv.manyA(ua:UpA ky a):∀(k:Nat) {out:Array bO},MInv ky a b out ia ib->ia+k<=a.size->(∀i (hi:i<a.size),ia<=i->i<ia+k->∀j (hj:j<b.size),ib<=j->O.kle (ky a[i]) (ky b[j]))->MInv ky a b (out++a.extract ia (ia+k)) (ia+k) ib
 |0,out,M,_,_=>by
  have e:a.extract ia (ia+0)=#[]:=by apply gY;simp
  rw[e,gZ];exact M
 |k+1,out,M,h,hb=>by
  have ih:=MInv.manyA ua k M (by lia) λi hi h1 h2=>hb i hi h1 (by lia)
  have:=ih.stepA ua (show ia+k<a.size by lia) λj hj h1=>hb (ia+k) (by lia) (by lia) (by lia) j hj h1
  rw[a0W (by lia)]at this;exact this
theorem MInv.manyB(ub:UpA ky b):∀(k:Nat) {out:Array bO},MInv ky a b out ia ib->ib+k<=b.size->(∀j (hj:j<b.size),ib<=j->j<ib+k->∀i (hi:i<a.size),ia<=i->O.kle (ky b[j]) (ky a[i]))->MInv ky a b (out++b.extract ib (ib+k)) ia (ib+k)
 |0,out,M,_,_=>by
  have e:b.extract ib (ib+0)=#[]:=by apply gY;simp
  rw[e,gZ];exact M
 |k+1,out,M,h,hb=>by
  have ih:=MInv.manyB ub k M (by lia) λi hi h1 h2=>hb i hi h1 (by lia)
  have:=ih.stepB ub (show ib+k<b.size by lia) λj hj h1=>hb (ib+k) (by lia) (by lia) (by lia) j hj h1
  rw[a0W (by lia)]at this;exact this
def P8(ky:bO->O.α)(a b out:Array bO):Prop:=out.toList.Perm (a.toList++b.toList)/\out.toList.Pairwise λx y=>O.kle (ky x) (ky y)
def MInv.all(M:MInv ky a b out a.size b.size):P8 ky a b out:=by
 refine⟨?_,M.up⟩;have:=M.pm
 rwa[kT (by simp),kT (by simp)]at this
def MInv.doneB(M:MInv ky a b out ia b.size)(ua:UpA ky a):P8 ky a b (out++a.extract ia a.size++b.extract b.size b.size):=by
 have:=MInv.manyA ua (a.size-ia) M (by have:=M.la;lia) λi hi _ _ j hj h=>by lia
 rw[show ia+(a.size-ia)=a.size by have:=M.la;lia]at this;have e:b.extract b.size b.size=#[]:=by simp
 rw[e,gZ];exact this.all
def MInv.doneA(M:MInv ky a b out a.size ib)(ub:UpA ky b):P8 ky a b (out++a.extract a.size a.size++b.extract ib b.size):=by
 have:=MInv.manyB ub (b.size-ib) M (by have:=M.lb;lia) λi hi _ _ j hj h=>by lia
 rw[show ib+(b.size-ib)=b.size by have:=M.lb;lia]at this;have e:a.extract a.size a.size=#[]:=by simp
 rw[e,gZ];exact this.all
def MInv.last(M:MInv ky a b out ia ib)(ua:UpA ky a)(ub:UpA ky b)(h:ia+1=a.size)(hl:∀j (hj:j<b.size),O.kle (ky b[j]) (ky (a[ia]'(by lia)))):P8 ky a b (out++b.extract ib b.size++a.extract ia a.size):=by
 have M1:=MInv.manyB ub (b.size-ib) M (by have:=M.lb;lia) λj hj _ _ i hi h2=>by
  have:i=ia:=by lia
  subst this;exact hl j hj
 rw[show ib+(b.size-ib)=b.size by have:=M.lb;lia]at M1;have M2:=MInv.manyA ua 1 M1 (by lia) λi hi _ _ j hj h2=>by lia
 rw[h]at M2;exact M2.all
end
def b3S:Array bO->Array bO->StateT df zD (Array bO):=sortPriv% PySem.Builtin.mergeLo
def a4p:Nat->StateT df zD Unit:=sortPriv% PySem.Builtin.setMinGallop
section
variable {prog:bw}{w:b_}{A:bQ}{E:aj->au->Prop}{s:au}{κ:eS}{O:KeyOrd}{ky:bO->O.α}{S:bO->Prop}{st:df}
def SameG(st cO:df):Prop:=kindOf cO=kindOf st/\aZ cO=aZ st/\bX cO=bX st/\fI cO=fI st
def SameG.refl(st:df):SameG st st:=⟨rfl,rfl,rfl,rfl⟩
theorem SameG.trans(x:SameG a b)(y:SameG b c):SameG a c:=⟨y.1.trans x.1,y.2.1.trans x.2.1,y.2.2.1.trans x.2.2.1,y.2.2.2.trans x.2.2.2⟩
def a0X(h:∀cO,SameG st cO->Q () cO):se (aY prog w) A E s (a4p g) Q st:=by
 exact ip (h _ ⟨rfl,rfl,rfl,rfl⟩)
def P9(h:Q () st):se (aY prog w) A E s (rule x) Q st:=wpS_lift (iw ⟨rfl,h⟩)
def j9{β:Type}{c:Prop}{dc:Decidable c}{x y:StateT df zD β}{Q:β->df->Prop}(h:c->se (aY prog w) A E s x Q st)(g:¬ c->se (aY prog w) A E s y Q st):se (aY prog w) A E s (ite c x y) Q st:=by
 by_cases d:c
 ·rw[aB d];exact h d
 ·rw[aJ d];exact g d
def x6{i j:Nat}(h:¬ (i==j)=true):i≠j:=λe=>h (by rw[e];exact EG j)
def Q0{γ δ:Sort _}{β:Type}{R:γ->δ->Prop}{F:γ->δ->StateT df zD β}{x:StateT df zD β}{Q:β->df->Prop}(tl:∀g d,R g d->se (aY prog w) A E s (F g d) Q st)(mn:(∀g d,R g d->se (aY prog w) A E s (F g d) Q st)->se (aY prog w) A E s x Q st):se (aY prog w) A E s x Q st:=mn tl
def a5U:(!O.blt k x)=true↔O.kle x k:=by unfold KeyOrd.kle;cases O.blt k x<;>simp
def UpR(ky:bO->O.α)(arr:Array bO)(base n:Nat):Prop:=∀i j (hj:j<arr.size) (h:i<=j),base<=i->j<base+n->O.kle (ky (arr[i]'(by lia))) (ky arr[j])
def UpA.part(u:UpA ky arr)(base n:Nat):UpR ky arr base n:=λi j hj h _ _=>u i j hj h
def kyD(ky:bO->O.α)(arr:Array bO)(base:Nat)(d:O.α)(i:Nat):O.α:=(arr[base+i]?.map ky).getD d
def a0z{arr:Array bO}(h:base+i<arr.size):kyD ky arr base d i=ky arr[base+i]:=by unfold kyD;rw[bh h];rfl
def part_of{arr:Array bO}(hn:base+n<=arr.size)(pE:∀i (h:i<arr.size),base<=i->i<base+n->S arr[i])(d:O.α):b3R ky S arr base n (kyD ky arr base d):=λi hi=>⟨by lia,(a0z (by lia)).symm,pE _ _ (by lia) (by lia)⟩
def a3A(H:CmpS prog w A s κ O ky S)(hk:kindOf st=κ)(u:UpR ky arr base n)(pE:∀i (h:i<arr.size),base<=i->i<base+n->S arr[i])(hS:S key)(hn:base+n<=arr.size)(hh:hint<n) 
  (q:∀k,k<=n->(∀i (h:i<arr.size),base<=i->i<base+k->O.kle (ky arr[i]) (ky key))->(∀i (h:i<arr.size),base+k<=i->i<base+n->O.klt (ky key) (ky arr[i]))->Q (xn k) st):se (aY prog w) A E s (a5T false key arr base n hint) Q st:=by
 have at_:∀i (h:i<arr.size),base<=i->kyD ky arr base (ky key) (i-base)=ky arr[i]:=λi h hb=>by
  have e:base+(i-base)=i:=by lia
  rw[a0z (by lia)];simp only[e]
 refine a3z H hk (part_of hn pE (ky key)) hS hh (λi j gC hj h=>?_) λk k1 k2 k3=>q k k1 (λi h hb hi=>?_) λi h hb hi=>?_
 ·have h':=a5U.mp h;refine a5U.mpr (c_ ?_ h');rw[a0z (show base+i<arr.size by lia),a0z (show base+j<arr.size by lia)];exact u (base+i) (base+j) (by lia) (by lia) (by lia) (by lia)
 ·have:=a5U.mp (k2 (i-base) (by lia))
  rwa[at_ i h hb]at this
 ·have:=k3 (i-base) (by lia) (by lia);have h2:(!O.blt (ky key) (kyD ky arr base (ky key) (i-base)))=false:=this;rw[at_ i h (by lia)]at h2;show O.blt _ _=true;simpa using h2
def a3B(H:CmpS prog w A s κ O ky S)(hk:kindOf st=κ)(u:UpR ky arr base n)(pE:∀i (h:i<arr.size),base<=i->i<base+n->S arr[i])(hS:S key)(hn:base+n<=arr.size)(hh:hint<n) 
  (q:∀k,k<=n->(∀i (h:i<arr.size),base<=i->i<base+k->O.klt (ky arr[i]) (ky key))->(∀i (h:i<arr.size),base+k<=i->i<base+n->O.kle (ky key) (ky arr[i]))->Q (xn k) st):se (aY prog w) A E s (a5T true key arr base n hint) Q st:=by
 have at_:∀i (h:i<arr.size),base<=i->kyD ky arr base (ky key) (i-base)=ky arr[i]:=λi h hb=>by
  have e:base+(i-base)=i:=by lia
  rw[a0z (by lia)];simp only[e]
 refine a3z H hk (part_of hn pE (ky key)) hS hh (λi j gC hj h=>?_) λk k1 k2 k3=>q k k1 (λi h hb hi=>?_) λi h hb hi=>?_
 ·have h':O.klt _ _:=h;refine (KeyOrd.klt_of_kle_of_klt ?_ h':O.klt _ _);rw[a0z (show base+i<arr.size by lia),a0z (show base+j<arr.size by lia)];exact u (base+i) (base+j) (by lia) (by lia) (by lia) (by lia)
 ·have:O.blt _ _=true:=k2 (i-base) (by lia);rw[at_ i h hb]at this;exact this
 ·have:O.blt _ _=false:=k3 (i-base) (by lia) (by lia);rw[at_ i h (by lia)]at this;exact this
def a7b(H:CmpS prog w A s κ O ky S)(hk:kindOf st=κ)(ua:UpA ky a)(ub:UpA ky b)(sa:∀i (h:i<a.size),S a[i])(sb:∀i (h:i<b.size),S b[i])(a0:0<a.size)(b0:0<b.size)(hf:O.klt (ky b[0]) (ky a[0]))(hl:∀j (hj:j<b.size),O.klt (ky b[j]) (ky (a[a.size-1]'(by lia))))
  (q:∀out cO,SameG st cO->P8 ky a b out->Q out cO):se (aY prog w) A E s (b3S a b) Q st:=by
 have M0:MInv ky a b #[b[0]] 0 1:=by
  have M:MInv ky a b #[] 0 0:=⟨cE _,cE _,by simp,by simp,λx hx=>by simp at hx,λx hx=>by simp at hx⟩;have:=M.stepB ub b0 λi hi _=>cL (eY hf (ua 0 i hi (by lia)))
  simpa using this
 have mL:∀{out:Array bO} {ia ib:Nat},MInv ky a b out ia ib->ia+1=a.size->P8 ky a b (out++b.extract ib b.size++a.extract ia a.size):=λ{out ia ib} M h=>M.last ua ub h λj hj=>by
  have:=hl j hj;have e:a.size-1=ia:=by lia
  simp only[e]at this;exact cL this
 refine aM (P9 ?_);refine aM (l7 b0 ?_);refine j9 (λc1=>?_) λc1=>?_
 ·have e:1=b.size:=eq_of_beq c1;refine aW (q _ _ (SameG.refl _) ?_);have:=M0;rw[e]at this ⊢;exact this.doneB ua
 have EE:1≠b.size:=x6 c1;refine j9 (λc2=>aW (q _ _ (SameG.refl _) (mL M0 (eq_of_beq c2)))) λc2=>?_
 have ED:0+1≠a.size:=x6 c2;refine aM (kA ?_);refine aM (fA (dw (I:=λx c cO=>SameG st cO/\∃out ia ib mg,c=(xI,out,ia,ib,mg)/\MInv ky a b out ia ib/\ia+1<a.size/\ib<b.size/\x+1<=ia+ib)
  (Q:=λc cO=>SameG st cO/\∃r z,c=(xn r,z)/\P8 ky a b r) ?ostep ?ofin ⟨SameG.refl _,#[b[0]],0,1,_,rfl,M0,by lia,by lia,by lia⟩) ?opost)
 case opost=>
  rintro c cO ⟨hs,r,z,rfl,hm⟩;exact aW (q r cO hs hm)
 case ofin=>
  rintro c cO ⟨hs,out,ia,ib,mg,rfl,M,h1,h2,h3⟩;lia
 case ostep=>
  rintro x c cO _ hx ⟨hs,out,ia,ib,mg,rfl,M,h1,h2,h3⟩;refine aM (fA (dw (I:=λx' c e_=>SameG st e_/\∃iY lF lP ac bc,c=(xI,iY,lF,lP,ac,bc)/\MInv ky a b iY lF lP/\lF+1<a.size/\lP<b.size/\lF+lP=ia+ib+x')
   (Q:=λc e_=>SameG st e_/\((∃r z,c=(xn r,z)/\P8 ky a b r)∨∃iY lF lP ac bc,c=(xI,iY,lF,lP,ac,bc)/\MInv ky a b iY lF lP/\lF+1<a.size/\lP<b.size/\ia+ib+1<=lF+lP)) ?istep ?ifin ⟨hs,out,ia,ib,_,_,rfl,M,h1,h2,by lia⟩) ?ipost)
  case ifin=>
   rintro c e_ ⟨iO,iY,lF,lP,ac,bc,rfl,M',g1,g2,g3⟩;exact⟨iO,.inr ⟨_,_,_,_,_,rfl,M',g1,g2,by lia⟩⟩
  case istep=>
   rintro x' c e_ _ uT ⟨iO,iY,lF,lP,ac,bc,rfl,M',g1,g2,g3⟩;have wV:lF<a.size:=by lia
   refine aM (l7 g2 (aM (l7 wV ?_)));refine aM (a3y H (iO.1.trans hk) (sb _ g2) (sa _ wV) (j9 (λc=>?_) λc=>?_))
   ·refine aM (l7 g2 (j9 (λd=>?_) λd=>?_))
    ·have M2:=M'.stepB ub g2 λi hi h=>cL (eY c (ua lF i hi h))
     have e:lP+1=b.size:=eq_of_beq d;refine aW ⟨iO,.inl ⟨_,_,rfl,?_⟩⟩;rw[e]at M2 ⊢;exact M2.doneB ua
    ·have M2:=M'.stepB ub g2 λi hi h=>cL (eY c (ua lF i hi h))
     have e:lP+1≠b.size:=x6 d;exact j9 (λ_=>aW ⟨iO,.inr ⟨_,lF,lP+1,_,_,rfl,M2,g1,by lia,by lia⟩⟩) λ_=>aW ⟨iO,_,lF,lP+1,_,_,rfl,M2,g1,by lia,by lia⟩
   ·have c:=fH.mpr c;have M2:=M'.stepA ua wV λj hj h=>c_ (show O.kle (ky a[lF]) (ky b[lP]) from c) (ub lP j hj h)
    refine aM (l7 wV (j9 (λd=>aW ⟨iO,.inl ⟨_,_,rfl,mL M2 (eq_of_beq d)⟩⟩) λd=>?_));have e:lF+1+1≠a.size:=x6 d;exact j9 (λ_=>aW ⟨iO,.inr ⟨_,lF+1,lP,_,_,rfl,M2,by lia,g2,by lia⟩⟩) λ_=>aW ⟨iO,_,lF+1,lP,_,_,rfl,M2,by lia,g2,by lia⟩
  case ipost=>
   rintro c e_ ⟨iO,⟨r,z,rfl,hm⟩|⟨iY,lF,lP,ac,bc,rfl,M',g1,g2,g3⟩⟩
   ·exact aW ⟨iO,r,_,rfl,hm⟩
   refine aM (P9 ?_);refine aM (fA (dw (I:=λ_ c jj=>SameG st jj/\∃o2 i2 j2 mg ac bc,c=(xI,o2,i2,j2,mg,ac,bc)/\MInv ky a b o2 i2 j2/\i2+1<a.size/\j2<b.size/\lF+lP<=i2+j2)
    (Q:=λc jj=>SameG st jj/\((∃r z,c=(xn r,z)/\P8 ky a b r)∨∃o2 i2 j2 mg ac bc,c=(xI,o2,i2,j2,mg,ac,bc)/\MInv ky a b o2 i2 j2/\i2+1<a.size/\j2<b.size/\lF+lP<=i2+j2)) ?gstep ?gfin ⟨iO,iY,lF,lP,_,_,_,rfl,M',g1,g2,ay _⟩) ?gpost)
   case gfin=>
    rintro c jj ⟨mO,x⟩;exact⟨mO,.inr x⟩
   case gpost=>
    rintro c jj ⟨mO,⟨r,z,rfl,hm⟩|⟨o2,i2,j2,sj,zC,zA,rfl,M2,k1,k2,k3⟩⟩
    ·exact aW ⟨mO,r,_,rfl,hm⟩
    refine aM (a0X λiz sF=>aW ?_);exact⟨mO.trans sF,o2,i2,j2,_,rfl,M2,k1,k2,by lia⟩
   case gstep=>
    rintro y c jj _ hy ⟨mO,o2,i2,j2,sj,zC,zA,rfl,M2,k1,k2,k3⟩
    dsimp only
    refine' Q0 (γ:=Nat) (δ:=True) (R:=λ_ _=>True) (λmg tt _=>?tl0) λtl=>?mn0
    case mn0=>
     have u:=trivial;refine j9 (λ_=>?_) λ_=>?_
     ·generalize sj-1=g;exact tl g u u
     ·exact tl sj u u
    refine aM (a0X λiz sF=>?_);have mN:=mO.trans sF;refine aM (l7 k2 ?_);refine aM (a3A H (mN.1.trans hk) (ua.part _ _) (λi h _ _=>sa i h) (sb _ k2) (by lia) (by lia) λk q1 q2 q3=>?_);refine' Q0 (R:=λi3 o3=>MInv ky a b o3 i3 j2/\i3=i2+k/\i3+1<a.size) (λi3 o3 h3=>?tl1) λtl=>?mn1
    case mn1=>
     refine j9 (λyF=>?_) λyF=>?_
     ·have M3:=MInv.manyA ua k M2 (by lia) λi hi h1 h2 j hj h3=>c_ (q2 i hi h1 h2) (ub j2 j hj h3)
      refine j9 (λd=>aW ⟨mN,.inl ⟨_,_,rfl,mL M3 (eq_of_beq d)⟩⟩) λd=>j9 (λd2=>?_) λd2=>?_
      ·have e2:i2+k=a.size:=eq_of_beq d2;refine aW ⟨mN,.inl ⟨_,_,rfl,?_⟩⟩;have Bp:=M3;rw[e2]at Bp ⊢;exact Bp.doneA ub
      have e1:=x6 d;have e2:=x6 d2;generalize o2++a.extract i2 (i2+k)=o3 at M3 ⊢;obtain⟨i3,ei⟩:∃i3,i3=i2+k:=⟨_,rfl⟩;rw[<-ei]at M3 ⊢;exact tl i3 o3 ⟨M3,ei,by lia⟩
     ·exact tl i2 o2 ⟨M2,by lia,k1⟩
    obtain⟨M3,ei,pP⟩:=h3;have pP:i3<a.size:=by lia
    refine aM (l7 k2 ?_);have M4:=M3.stepB ub k2 λi hi h=>cL (q3 i hi (by lia) (by lia))
    refine j9 (λd3=>?_) λd3=>?_
    ·have e3:j2+1=b.size:=eq_of_beq d3;refine aW ⟨mN,.inl ⟨_,_,rfl,?_⟩⟩;rw[e3]at M4 ⊢;exact M4.doneB ua
    have e3:=x6 d3;refine aM (l7 pP ?_);refine aM (a3B H (mN.1.trans hk) (ub.part _ _) (λi h _ _=>sb i h) (sa _ pP) (by lia) (by lia) λk' r1 r2 r3=>?_);refine' Q0 (R:=λj3 o3=>MInv ky a b o3 i3 j3/\j3=j2+1+k'/\j3<b.size) (λj3 o3 h3=>?tl2) λtl=>?mn2
    case mn2=>
     refine j9 (λni=>?_) λni=>?_
     ·have M5:=MInv.manyB ub k' M4 (by lia) λj hj h1 h2 i hi h3=>cL (eY (r2 j hj h1 h2) (ua i3 i hi h3))
      refine j9 (λd4=>?_) λd4=>?_
      ·have e4:j2+1+k'=b.size:=eq_of_beq d4;refine aW ⟨mN,.inl ⟨_,_,rfl,?_⟩⟩;rw[e4]at M5 ⊢;exact M5.doneB ua
      have e4:=x6 d4;generalize o3.push b[j2]++b.extract (j2+1) (j2+1+k')=o4 at M5 ⊢;obtain⟨j3,ej⟩:∃j3,j3=j2+1+k':=⟨_,rfl⟩;rw[<-ej]at M5 ⊢;exact tl j3 o4 ⟨M5,ej,by lia⟩
     ·generalize o3.push b[j2]=o4 at M4 ⊢;obtain⟨j3,ej⟩:∃j3,j3=j2+1:=⟨_,rfl⟩;rw[<-ej]at M4 ⊢;exact tl j3 o4 ⟨M4,by lia,by lia⟩
    obtain⟨M5,ej,Fq⟩:=h3;have M6:=M5.stepA ua pP λj hj h=>r3 j hj (by lia) (by lia)
    refine aM (l7 pP (j9 (λd=>aW ⟨mN,.inl ⟨_,_,rfl,mL M6 (eq_of_beq d)⟩⟩) λd=>?_));have e5:=x6 d;exact j9 (λ_=>aW ⟨mN,.inr ⟨_,_,_,_,_,_,rfl,M6,by lia,by lia,by lia⟩⟩) λ_=>aW ⟨mN,_,_,_,_,_,_,rfl,M6,by lia,by lia,by lia⟩
end
section
variable {O:KeyOrd}{ky:bO->O.α}
structure NInv (ky:bO->O.α) (a b out:Array bO) (na nb:Nat):Prop where
 la:na<=a.size
 lb:nb<=b.size
 pm:out.toList.Perm (a.toList.drop na++b.toList.drop nb)
 up:out.toList.Pairwise λx y=>O.kle (ky y) (ky x)
 ra:∀x∈out.toList,∀i (h:i<a.size),i<na->O.kle (ky a[i]) (ky x)
 rb:∀x∈out.toList,∀i (h:i<b.size),i<nb->O.kle (ky b[i]) (ky x)
def a1G{α:Type}{l:List α}(h:i<l.length):l.drop i=l[i]::l.drop (i+1):=dJ h
def NInv.stepA(M:NInv ky a b out (na+1) nb)(ua:UpA ky a)(h:na<a.size)(hb:∀j (hj:j<b.size),j<nb->O.kle (ky b[j]) (ky a[na])):NInv ky a b (out.push a[na]) na nb:=by
 refine⟨by lia,M.lb,?_,?_,λx hx i hi hh=>?_,λx hx j hj hh=>?_⟩
 ·rw[cm,a1G (l:=a.toList) (by simpa using h),bU,bB];exact (p_ _ _).trans (M.pm.cons _)
 ·rw[cm,dE];refine⟨M.up,dD _ _,λx hx y hy=>?_⟩;rw[ao.mp hy];exact M.ra x hx na h (by lia)
 ·rw[cm]at hx;rcases aq.mp hx with z|z
  ·exact M.ra x z i hi (by lia)
  ·rw[ao.mp z];exact ua i na h (by lia)
 ·rw[cm]at hx;rcases aq.mp hx with z|z
  ·exact M.rb x z j hj hh
  ·rw[ao.mp z];exact hb j hj hh
def NInv.stepB(M:NInv ky a b out na (nb+1))(ub:UpA ky b)(h:nb<b.size)(ha:∀i (hi:i<a.size),i<na->O.kle (ky a[i]) (ky b[nb])):NInv ky a b (out.push b[nb]) na nb:=by
 refine⟨M.la,by lia,?_,?_,λx hx i hi hh=>?_,λx hx j hj hh=>?_⟩
 ·rw[cm,a1G (l:=b.toList) (by simpa using h),bU];refine (p_ _ _).trans ((M.pm.cons _).trans ?_);exact List.perm_middle.symm
 ·rw[cm,dE];refine⟨M.up,dD _ _,λx hx y hy=>?_⟩;rw[ao.mp hy];exact M.rb x hx nb h (by lia)
 ·rw[cm]at hx;rcases aq.mp hx with z|z
  ·exact M.ra x z i hi hh
  ·rw[ao.mp z];exact ha i hi hh
 ·rw[cm]at hx;rcases aq.mp hx with z|z
  ·exact M.rb x z j hj (by lia)
  ·rw[ao.mp z];exact ub j nb h (by lia)
def a7c{a out:Array bO}(h:i<a.size)(hn:i<n)(Fm:n<=a.size):(out++(a.extract (i+1) n).reverse).push a[i]=out++(a.extract i n).reverse:=by
 rw[og,jQ]
 congr 1;apply gY;simp only[mv,lY,gx,jV];rw[show n-i=(n-(i+1))+1 by lia,a1G (l:=a.toList) (i:=i) (by simpa using h),List.take_succ_cons,jX,bU]
theorem NInv.manyA(ua:UpA ky a):∀(k:Nat) {out:Array bO},NInv ky a b out na nb->k<=na->(∀i (hi:i<a.size),na-k<=i->i<na->∀j (hj:j<b.size),j<nb->O.kle (ky b[j]) (ky a[i]))->NInv ky a b (out++(a.extract (na-k) na).reverse) (na-k) nb
 |0,out,M,_,_=>by
  have e:a.extract (na-0) na=#[]:=by apply gY;simp
  rw[e];simpa using M
 |k+1,out,M,h,hb=>by
  have ih:=NInv.manyA ua k M (by lia) λi hi h1 h2=>hb i hi (by lia) h2
  have Ay:=M.la;rw[show na-k=(na-(k+1))+1 by lia]at ih;have:=ih.stepA ua (show na-(k+1)<a.size by lia) λj hj h1=>hb (na-(k+1)) (by lia) (ay _) (by lia) j hj h1
  rw[a7c (by lia) (by lia) Ay]at this;exact this
theorem NInv.manyB(ub:UpA ky b):∀(k:Nat) {out:Array bO},NInv ky a b out na nb->k<=nb->(∀j (hj:j<b.size),nb-k<=j->j<nb->∀i (hi:i<a.size),i<na->O.kle (ky a[i]) (ky b[j]))->NInv ky a b (out++(b.extract (nb-k) nb).reverse) na (nb-k)
 |0,out,M,_,_=>by
  have e:b.extract (nb-0) nb=#[]:=by apply gY;simp
  rw[e];simpa using M
 |k+1,out,M,h,hb=>by
  have ih:=NInv.manyB ub k M (by lia) λi hi h1 h2=>hb i hi (by lia) h2
  have Ax:=M.lb;rw[show nb-k=(nb-(k+1))+1 by lia]at ih;have:=ih.stepB ub (show nb-(k+1)<b.size by lia) λj hj h1=>hb (nb-(k+1)) (by lia) (ay _) (by lia) j hj h1
  rw[a7c (by lia) (by lia) Ax]at this;exact this
def NInv.all(M:NInv ky a b out 0 0):P8 ky a b out.reverse:=by
 refine⟨?_,?_⟩
 ·rw[lY];refine (List.reverse_perm _).trans ?_;simpa using M.pm
 ·rw[lY,uz];exact M.up
def a2N{out c:Array bO}:(out++c.reverse).reverse=c++out.reverse:=by apply gY;simp
def NInv.doneA(M:NInv ky a b out 0 nb)(ub:UpA ky b):P8 ky a b (a.extract 0 0++b.extract 0 nb++out.reverse):=by
 have:=(NInv.manyB ub nb M (ay _) λj hj _ _ i hi h=>by lia);rw[kP]at this;have e:a.extract 0 0=#[]:=by apply gY;simp
 have:=this.all;rw[a2N]at this;rw[e,Array.empty_append];exact this
def NInv.doneB(M:NInv ky a b out na 0)(ua:UpA ky a):P8 ky a b (a.extract 0 na++b.extract 0 0++out.reverse):=by
 have:=(NInv.manyA ua na M (ay _) λj hj _ _ i hi h=>by lia);rw[kP]at this;have e:b.extract 0 0=#[]:=by apply gY;simp
 have:=this.all;rw[a2N]at this;rw[e,gZ];exact this
def NInv.first(M:NInv ky a b out na 1)(ua:UpA ky a)(ub:UpA ky b)(b0:0<b.size)(hf:∀i (hi:i<a.size),O.kle (ky b[0]) (ky a[i])):P8 ky a b (b.extract 0 1++a.extract 0 na++out.reverse):=by
 have M1:=NInv.manyA ua na M (ay _) λi hi _ _ j hj h=>by
  have:j=0:=by lia
  subst this;exact hf i hi
 rw[kP]at M1;have M2:=(NInv.manyB ub 1 M1 (ay _) λj hj _ _ i hi h=>by lia);rw[kP]at M2;have:=M2.all;rw[a2N,a2N,<-jQ]at this;exact this
end
def b3T:Array bO->Array bO->StateT df zD (Array bO):=sortPriv% PySem.Builtin.mergeHi
section
variable {prog:bw}{w:b_}{A:bQ}{E:aj->au->Prop}{s:au}{κ:eS}{O:KeyOrd}{ky:bO->O.α}{S:bO->Prop}{st:df}
def a7d(H:CmpS prog w A s κ O ky S)(hk:kindOf st=κ)(ua:UpA ky a)(ub:UpA ky b)(sa:∀i (h:i<a.size),S a[i])(sb:∀i (h:i<b.size),S b[i])(a0:0<a.size)(b0:0<b.size)(hf:O.klt (ky b[0]) (ky a[0]))(hl:∀j (hj:j<b.size),O.klt (ky b[j]) (ky (a[a.size-1]'(by lia))))
  (q:∀out cO,SameG st cO->P8 ky a b out->Q out cO):se (aY prog w) A E s (b3T a b) Q st:=by
 have M0:NInv ky a b #[a[a.size-1]'(by lia)] (a.size-1) b.size:=by
  have M:NInv ky a b #[] (a.size-1+1) b.size:=⟨by lia,ay _,by simp;lia,by simp,λx hx=>by simp at hx,λx hx=>by simp at hx⟩;have:=M.stepA ua (show a.size-1<a.size by lia) λj hj _=>cL (hl j hj)
  simpa using this
 have oR:∀i (hi:i<a.size),O.kle (ky b[0]) (ky a[i]):=λi hi=>cL (eY hf (ua 0 i hi (by lia)))
 have lJ:∀{out:Array bO} {na nb:Nat},NInv ky a b out na nb->nb=1->P8 ky a b (b.extract 0 nb++a.extract 0 na++out.reverse):=λ{out na nb} M h=>by subst h;exact M.first ua ub b0 oR
 have mP:∀{out:Array bO} {na nb:Nat},NInv ky a b out na nb->na=0->P8 ky a b (a.extract 0 na++b.extract 0 nb++out.reverse):=λ{out na nb} M h=>by subst h;exact M.doneA ub
 refine aM (P9 ?_);refine aM (l7 (show a.size-1<a.size by lia) ?_);refine j9 (λc1=>aW (q _ _ (SameG.refl _) (mP M0 (eq_of_beq c1)))) λc1=>j9 (λc2=>aW (q _ _ (SameG.refl _) (lJ M0 (eq_of_beq c2)))) λc2=>?_
 have EE:a.size-1≠0:=x6 c1;have ED:b.size≠1:=x6 c2;refine aM (kA ?_);refine aM (fA (dw (I:=λx c cO=>SameG st cO/\∃na nb out mg,c=(xI,na,nb,out,mg)/\NInv ky a b out na nb/\0<na/\1<nb/\na+nb+x+1<=a.size+b.size)
  (Q:=λc cO=>SameG st cO/\∃r z,c=(xn r,z)/\P8 ky a b r) ?ostep ?ofin ⟨SameG.refl _,a.size-1,b.size,_,_,rfl,M0,by lia,by lia,by lia⟩) ?opost)
 case opost=>
  rintro c cO ⟨hs,r,z,rfl,hm⟩;exact aW (q r cO hs hm)
 case ofin=>
  rintro c cO ⟨hs,na,nb,out,mg,rfl,M,h1,h2,h3⟩;lia
 case ostep=>
  rintro x c cO _ hx ⟨hs,na,nb,out,mg,rfl,M,h1,h2,h3⟩;have Ay:=M.la;have Ax:=M.lb;refine aM (fA (dw (I:=λx' c e_=>SameG st e_/\∃kY kX iY ac bc,c=(xI,kY,kX,iY,ac,bc)/\NInv ky a b iY kY kX/\0<kY/\1<kX/\kY+kX+x'=na+nb)
   (Q:=λc e_=>SameG st e_/\((∃r z,c=(xn r,z)/\P8 ky a b r)∨∃kY kX iY ac bc,c=(xI,kY,kX,iY,ac,bc)/\NInv ky a b iY kY kX/\0<kY/\1<kX/\kY+kX+1<=na+nb)) ?istep ?ifin ⟨hs,na,nb,out,_,_,rfl,M,h1,h2,by lia⟩) ?ipost)
  case ifin=>
   rintro c e_ ⟨iO,kY,kX,iY,ac,bc,rfl,M',g1,g2,g3⟩;exact⟨iO,.inr ⟨_,_,_,_,_,rfl,M',g1,g2,by lia⟩⟩
  case istep=>
   rintro x' c e_ _ uT ⟨iO,kY,kX,iY,ac,bc,rfl,M',g1,g2,g3⟩;have ja:kY-1<a.size:=by have:=M'.la;lia
   have jb:kX-1<b.size:=by have:=M'.lb;lia
   refine aM (l7 jb (aM (l7 ja ?_)));refine aM (a3y H (iO.1.trans hk) (sb _ jb) (sa _ ja) (j9 (λc=>?_) λc=>?_))
   ·have M2:=NInv.stepA (na:=kY-1) (by rw[show kY-1+1=kY by lia];exact M') ua ja λj hj h=>cL (KeyOrd.klt_of_kle_of_klt (ub j (kX-1) jb (by lia)) c)
    refine aM (l7 ja (j9 (λd=>aW ⟨iO,.inl ⟨_,_,rfl,mP M2 (eq_of_beq d)⟩⟩) λd=>?_));have e:kY-1≠0:=x6 d;exact j9 (λ_=>aW ⟨iO,.inr ⟨kY-1,kX,_,_,_,rfl,M2,by lia,g2,by lia⟩⟩) λ_=>aW ⟨iO,kY-1,kX,_,_,_,rfl,M2,by lia,g2,by lia⟩
   ·have c:=fH.mpr c;have M2:=NInv.stepB (nb:=kX-1) (by rw[show kX-1+1=kX by lia];exact M') ub jb λi hi h=>c_ (ua i (kY-1) ja (by lia)) (show O.kle (ky a[kY-1]) (ky b[kX-1]) from c)
    refine aM (l7 jb (j9 (λd=>aW ⟨iO,.inl ⟨_,_,rfl,lJ M2 (eq_of_beq d)⟩⟩) λd=>?_));have e:kX-1≠1:=x6 d;exact j9 (λ_=>aW ⟨iO,.inr ⟨kY,kX-1,_,_,_,rfl,M2,g1,by lia,by lia⟩⟩) λ_=>aW ⟨iO,kY,kX-1,_,_,_,rfl,M2,g1,by lia,by lia⟩
  case ipost=>
   rintro c e_ ⟨iO,⟨r,z,rfl,hm⟩|⟨kY,kX,iY,ac,bc,rfl,M',g1,g2,g3⟩⟩
   ·exact aW ⟨iO,r,_,rfl,hm⟩
   refine aM (P9 ?_);refine aM (fA (dw (I:=λ_ c jj=>SameG st jj/\∃i2 j2 o2 mg ac bc,c=(xI,i2,j2,o2,mg,ac,bc)/\NInv ky a b o2 i2 j2/\0<i2/\1<j2/\i2+j2<=kY+kX)
    (Q:=λc jj=>SameG st jj/\((∃r z,c=(xn r,z)/\P8 ky a b r)∨∃i2 j2 o2 mg ac bc,c=(xI,i2,j2,o2,mg,ac,bc)/\NInv ky a b o2 i2 j2/\0<i2/\1<j2/\i2+j2<=kY+kX)) ?gstep ?gfin ⟨iO,kY,kX,iY,_,_,_,rfl,M',g1,g2,ay _⟩) ?gpost)
   case gfin=>
    rintro c jj ⟨mO,x⟩;exact⟨mO,.inr x⟩
   case gpost=>
    rintro c jj ⟨mO,⟨r,z,rfl,hm⟩|⟨i2,j2,o2,sj,zC,zA,rfl,M2,k1,k2,k3⟩⟩
    ·exact aW ⟨mO,r,_,rfl,hm⟩
    refine aM (a0X λiz sF=>aW ?_);exact⟨mO.trans sF,i2,j2,o2,_,rfl,M2,k1,k2,by lia⟩
   case gstep=>
    rintro y c jj _ hy ⟨mO,i2,j2,o2,sj,zC,zA,rfl,M2,k1,k2,k3⟩;have ja:=M2.la;have jb:=M2.lb;have uN:j2-1<b.size:=by lia
    dsimp only
    refine' Q0 (γ:=Nat) (δ:=True) (R:=λ_ _=>True) (λmg tt _=>?tl0) λtl=>?mn0
    case mn0=>
     have u:=trivial;refine j9 (λ_=>?_) λ_=>?_
     ·generalize sj-1=g;exact tl g u u
     ·exact tl sj u u
    refine aM (a0X λiz sF=>?_);have mN:=mO.trans sF;refine aM (l7 uN ?_);refine aM (a3A H (mN.1.trans hk) (ua.part _ _) (λi h _ _=>sa i h) (sb _ uN) (by lia) (by lia) λk q1 q2 q3=>?_)
    dsimp only
    generalize lU:i2-k=ac;refine' Q0 (R:=λi3 o3=>NInv ky a b o3 i3 j2/\i3=k/\0<i3) (λi3 o3 h3=>?tl1) λtl=>?mn1
    case mn1=>
     refine j9 (λyF=>?_) λyF=>?_
     ·have M3:=NInv.manyA ua (i2-k) M2 (by lia) λi hi h1 h2 j hj h3=>c_ (ub j (j2-1) uN (by lia)) (cL (q3 i hi (by lia) (by lia)))
      rw[show i2-(i2-k)=k by lia]at M3;refine j9 (λd=>aW ⟨mN,.inl ⟨_,_,rfl,mP M3 (eq_of_beq d)⟩⟩) λd=>?_
      have e1:=x6 d;generalize o2++(a.extract k i2).reverse=o3 at M3 ⊢;obtain⟨i3,ei⟩:∃i3,i3=k:=⟨_,rfl⟩;rw[<-ei]at M3 ⊢;exact tl i3 o3 ⟨M3,ei,by lia⟩
     ·exact tl i2 o2 ⟨M2,by lia,k1⟩
    obtain⟨M3,ei,h0⟩:=h3;have M4:=NInv.stepB (nb:=j2-1) (by rw[show j2-1+1=j2 by lia];exact M3) ub uN λi hi h=>q2 i hi (by lia) (by lia)
    refine aM (l7 uN (j9 (λd=>aW ⟨mN,.inl ⟨_,_,rfl,lJ M4 (eq_of_beq d)⟩⟩) λd3=>?_));have e3:=x6 d3;have pP:i3-1<a.size:=by lia
    refine aM (l7 pP ?_);refine aM (a3B H (mN.1.trans hk) (ub.part _ _) (λi h _ _=>sb i h) (sa _ pP) (by lia) (by lia) λk' r1 r2 r3=>?_)
    dsimp only
    generalize Fu:j2-1-k'=bc;refine' Q0 (R:=λj3 o4=>NInv ky a b o4 i3 j3/\j3=k'/\1<j3) (λj3 o4 h3=>?tl2) λtl=>?mn2
    case mn2=>
     refine j9 (λni=>?_) λni=>?_
     ·have M5:=NInv.manyB ub (j2-1-k') M4 (by lia) λj hj h1 h2 i hi h3=>c_ (ua i (i3-1) pP (by lia)) (r3 j hj (by lia) (by lia))
      rw[show j2-1-(j2-1-k')=k' by lia]at M5;refine j9 (λd=>aW ⟨mN,.inl ⟨_,_,rfl,lJ M5 (eq_of_beq d)⟩⟩) λd4=>j9 (λd6=>?_) λd6=>?_
      ·have e6:k'=0:=eq_of_beq d6;refine aW ⟨mN,.inl ⟨_,_,rfl,?_⟩⟩;have Bo:=M5;rw[e6]at Bo ⊢;exact Bo.doneB ua
      have e4:=x6 d4;have e6:=x6 d6;generalize o3.push b[j2-1]++(b.extract k' (j2-1)).reverse=o4 at M5 ⊢;obtain⟨j3,ej⟩:∃j3,j3=k':=⟨_,rfl⟩;rw[<-ej]at M5 ⊢;exact tl j3 o4 ⟨M5,ej,by lia⟩
     ·generalize o3.push b[j2-1]=o4 at M4 ⊢;exact tl (j2-1) o4 ⟨M4,by lia,by lia⟩
    obtain⟨M5,ej,h1⟩:=h3;have M6:=NInv.stepA (na:=i3-1) (by rw[show i3-1+1=i3 by lia];exact M5) ua pP λj hj h=>cL (r2 j hj (by lia) (by lia))
    refine aM (l7 pP (j9 (λd=>aW ⟨mN,.inl ⟨_,_,rfl,mP M6 (eq_of_beq d)⟩⟩) λd=>?_));have e5:=x6 d;exact j9 (λ_=>aW ⟨mN,.inr ⟨_,_,_,_,_,_,rfl,M6,by lia,by lia,by lia⟩⟩) λ_=>aW ⟨mN,_,_,_,_,_,_,rfl,M6,by lia,by lia,by lia⟩
end
theorem a9O{α:Type}(p0:Nat):∀(l:List α) (n:Nat) (arr:Array α),p0+n+l.length<=arr.size->((l.zipIdx n).foldl (λa (q:α×Nat)=>a.setIfInBounds (p0+q.2) q.1) arr).toList=arr.toList.take (p0+n)++l++arr.toList.drop (p0+n+l.length)
 |[],n,arr,h=>by simp
 |x::l,n,arr,h=>by
  rw[aV]at h;rw[List.zipIdx_cons,FQ,a9O p0 l (n+1) _ (by rw[Array.size_setIfInBounds];lia),Array.toList_setIfInBounds];have hl:p0+n<arr.toList.length:=by rw[aP];lia
  have e1:(arr.toList.set (p0+n) x).take (p0+(n+1))=arr.toList.take (p0+n)++[x]:=by
   rw[show p0+(n+1)=(p0+n)+1 by lia,take_snoc (by rw[FP];exact hl),List.take_set_of_le (ay _),List.getElem_set_self]
  have e2:(arr.toList.set (p0+n) x).drop (p0+(n+1)+l.length)=arr.toList.drop (p0+n+(x::l).length):=by
   rw[List.drop_set_of_lt (by lia),aV]
   congr 1;lia
  rw[e1,e2];simp
section
variable {prog:bw}{w:b_}{A:bQ}{E:aj->au->Prop}{s:au}{κ:eS}{O:KeyOrd}{ky:bO->O.α}{S:bO->Prop}{st:df}
def b6y(h:Q ⟨⟩ cO):se (aY prog w) A E s (set cO:StateT df zD PUnit) Q st:=by
 unfold se;rw[StateT.run_set];exact aC ⟨rfl,h⟩
def a2m{arr:Array bO}{base n:Nat}(u:UpR ky arr base n)(hn:base+n<=arr.size){lo hi:Nat}(h1:base<=lo)(h2:lo<=hi)(h3:hi<=base+n):UpA ky (arr.extract lo hi):=by
 intro i j hj h;rw[mV]at hj;rw[dP,dP];exact u (lo+i) (lo+j) (by lia) (by lia) (by lia) (by lia)
structure Fused (ky:bO->O.α) (arr mi:Array bO) (lo hi:Nat):Prop where
 pm:mi.toList.Perm arr.toList
 out:∀t,t<lo∨hi<=t->mi[t]?=arr[t]?
 up:UpR ky mi lo (hi-lo)
def a7e(H:CmpS prog w A s κ O ky S)(hk:kindOf st=κ){i sa na pw sb nb xE:Nat}(p1:(bX st)[i]?=xn (sa,na,pw))(p2:(bX st)[i+1]?=xn (sb,nb,xE))(ye:sb=sa+na)(wF:0<na)(xJ:0<nb)(ku:sb+nb<=(aZ st).size)(sS:∀i (h:i<(aZ st).size),S (aZ st)[i])(u1:UpR ky (aZ st) sa na)(u2:UpR ky (aZ st) sb nb)(hfl:fI st=xI){Q:Bool->df->Prop}
  (q:∀cO,kindOf cO=kindOf st->fI cO=xI->bX cO=((bX st).setIfInBounds i (sa,na+nb,pw)).eraseIdxIfInBounds (i+1)->Fused ky (aZ st) (aZ cO) sa (sb+nb)->Q true cO):se (aY prog w) A E s (mergeAt' i) Q st:=by
 refine aM (kA ?_);rw[p1,p2]
 dsimp only
 refine aM (b6y ?_);have b0:sb<(aZ st).size:=by lia
 refine aM (l7 b0 ?_);refine aM (a3A H (by exact hk) u1 (λi h _ _=>sS i h) (sS _ b0) (by lia) wF λk k1 k2 k3=>?_)
 dsimp only
 have rV:(∀i (hi:i<(aZ st).size),sa<=i->i<sb->O.kle (ky (aZ st)[i]) (ky (aZ st)[sb]))->Fused ky (aZ st) (aZ st) sa (sb+nb):=λh=>⟨jO _,λ_ _=>rfl,λi j hj gC h1 h2=>by
  rcases cI j sb with c|c
  ·exact u1 i j hj gC h1 (by lia)
  ·rcases cI i sb with d|d
   ·exact c_ (h i (by lia) h1 d) (u2 sb j hj c (ay _) (by lia))
   ·exact u2 i j hj gC d (by lia)⟩
 by_cases c1:(na-k==0)=true
 ·rw[aB c1];have e:na-k=0:=by simpa using c1
  exact aW (q _ rfl hfl rfl (rV λi hi h1 h2=>k2 i hi h1 (by lia)))
 rw[aJ c1];have e1:na-k≠0:=by simpa using c1
 have al:sa+k+(na-k)-1<(aZ st).size:=by lia
 refine aM (l7 al ?_);refine aM (a3B H (by exact hk) u2 (λi h _ _=>sS i h) (sS _ al) (by lia) (by lia) λm m1 m2 m3=>?_)
 dsimp only
 by_cases c2:(m==0)=true
 ·rw[aB c2];have e:m=0:=by simpa using c2
  refine aW (q _ rfl hfl rfl (rV λi hi h1 h2=>?_));refine c_ (u1 i (sa+k+(na-k)-1) al (by lia) h1 (by lia)) (m3 sb b0 (by lia) (by lia))
 rw[aJ c2];have e2:m≠0:=by simpa using c2
 have xs:((aZ st).extract (sa+k) sb).size=na-k:=by rw[mV];lia
 have ys:((aZ st).extract sb (sb+m)).size=m:=by rw[mV];lia
 have ux:UpA ky ((aZ st).extract (sa+k) sb):=a2m u1 (by lia) (by lia) (by lia) (by lia);have uy:UpA ky ((aZ st).extract sb (sb+m)):=a2m u2 (by lia) (by lia) (by lia) (by lia);have sx:∀i (h:i<((aZ st).extract (sa+k) sb).size),S ((aZ st).extract (sa+k) sb)[i]:=λi h=>by rw[dP];exact sS _ _
 have sy:∀i (h:i<((aZ st).extract sb (sb+m)).size),S ((aZ st).extract sb (sb+m))[i]:=λi h=>by rw[dP];exact sS _ _
 have hf:O.klt (ky (((aZ st).extract sb (sb+m))[0]'(by lia))) (ky (((aZ st).extract (sa+k) sb)[0]'(by lia))):=by
  rw[dP,dP];exact k3 (sa+k+0) (by lia) (by lia) (by lia)
 have hl:∀j (hj:j<((aZ st).extract sb (sb+m)).size),O.klt (ky ((aZ st).extract sb (sb+m))[j]) (ky (((aZ st).extract (sa+k) sb)[((aZ st).extract (sa+k) sb).size-1]'(by lia))):=λj hj=>by
  rw[dP,dP];have:=m2 (sb+j) (by lia) (by lia) (by lia);simp only[xs];have e:sa+k+(na-k-1)=sa+k+(na-k)-1:=by lia
  simp only[e];exact this
 have fin:∀out cO,SameG (tK st (((bX st).setIfInBounds i (sa,na+nb,pw)).eraseIdxIfInBounds (i+1))) cO->P8 ky ((aZ st).extract (sa+k) sb) ((aZ st).extract sb (sb+m)) out->
   se (aY prog w) A E s (do
    modify λs=>setArr s (out.toList.zipIdx.foldl (λa (p,j)=>a.setIfInBounds (sa+k+j) p) (aZ s))
    return (fI (<-get)).isNone) Q cO:=by
  intro out cO ⟨g1,g2,g3,g4⟩ hm;have os:out.size=na-k+m:=by
   have:=hm.1.length_eq;rw[az,aP,aP,aP,xs,ys]at this;exact this
  have mX:aZ cO=aZ st:=g2;have wl:=a9O (sa+k) out.toList 0 (aZ st) (by rw[aP];lia);rw[Nat.add_zero,aP]at wl;refine aM (ip (aM (kA (aW ?_))));have ff:(fI cO).isNone=true:=by rw[show fI cO=fI st from g4,hfl];rfl
  show Q (fI cO).isNone _;rw[ff];refine q _ g1 (by show fI cO=xI;rw[show fI cO=fI st from g4,hfl]) g3 ?_;show Fused ky (aZ st) (out.toList.zipIdx.foldl (λa (q:bO×Nat)=>a.setIfInBounds (sa+k+q.2) q.1) (aZ cO)) sa (sb+nb);rw[mX];generalize hW:out.toList.zipIdx.foldl (λa (q:bO×Nat)=>a.setIfInBounds (sa+k+q.2) q.1) (aZ st)=W at wl;have Ag:((aZ st).extract (sa+k) sb).toList++((aZ st).extract sb (sb+m)).toList=((aZ st).toList.drop (sa+k)).take (na-k+m):=by
   rw[gx,gx];simp only[jV];rw[show sb-(sa+k)=na-k by lia,show sb+m-sb=m by lia,List.take_add,List.drop_drop,show sa+k+(na-k)=sb by lia]
  have ws:W.size=(aZ st).size:=by
   have:=dB dY wl;rw[az,az,dX,gA,aP,aP,aP]at this;lia
  have lo:∀t,t<sa+k->W[t]?=(aZ st)[t]?:=λt ht=>by
   rw[<-bP,wl,aS,dI (by rw[dX,aP];lia),kr ht,bP]
  have hi:∀t,sa+k+out.size<=t->W[t]?=(aZ st)[t]?:=λt ht=>by
   rw[<-bP,wl,cQ (by rw[az,dX,aP,aP];lia),List.getElem?_drop,az,dX,aP,aP,<-bP]
   congr 1;lia
  have mid:∀t,t<out.size->W[sa+k+t]?=out[t]?:=λt ht=>by
   rw[<-bP,wl,aS,cQ (by rw[dX,aP];lia),dX,aP,dI (by rw[aP];lia),bP]
   congr 1;lia
  have src:∀x∈out.toList,∃u,∃h:u<(aZ st).size,sa+k<=u/\u<sb+m/\x=(aZ st)[u]:=λx hx=>by
   have h1:=hm.1.mem_iff.mp hx;rw[Ag]at h1;obtain⟨v,hv,e⟩:=iV.mp h1;rw[dX,gA,aP]at hv;refine⟨sa+k+v,by lia,by lia,by lia,?_⟩;rw[<-e,List.getElem_take,Bs,bU]
  refine⟨?_,λt ht=>?_,λt1 t2 h2 AW hlo sT=>?_⟩
  ·rw[wl];have e:(aZ st).toList=(aZ st).toList.take (sa+k)++((aZ st).toList.drop (sa+k)).take (na-k+m)++(aZ st).toList.drop (sa+k+out.size):=by
    have e2:(aZ st).toList.drop (sa+k+(na-k+m))=((aZ st).toList.drop (sa+k)).drop (na-k+m):=by rw[List.drop_drop]
    rw[os,aS,e2,iC,iC]
   conv=>rhs;rw[e]
   refine List.Perm.append_right _ (lC _ ?_);rw[<-Ag];exact hm.1
  ·rcases ht with h|h
   ·exact lo t (by lia)
   ·exact hi t (by lia)
  ·have rT:∀t (h:t<W.size),t<sa+k->∃h':t<(aZ st).size,W[t]=(aZ st)[t]:=λt h ht=>by
    have:=lo t ht;rw[bh h,bh (by lia)]at this;exact⟨by lia,aF this⟩
   have oD:∀t (h:t<W.size),sa+k+out.size<=t->∃h':t<(aZ st).size,W[t]=(aZ st)[t]:=λt h ht=>by
    have:=hi t ht;rw[bh h,bh (by lia)]at this;exact⟨by lia,aF this⟩
   have nX:∀t (h:t<W.size),sa+k<=t->t<sa+k+out.size->∃h':t-(sa+k)<out.size,W[t]=out[t-(sa+k)]:=λt h ht Fk=>by
    have:=mid (t-(sa+k)) (by lia);have e:sa+k+(t-(sa+k))=t:=by lia
    rw[e,bh h,bh (by lia)]at this;exact⟨by lia,aF this⟩
   have w1:t1<W.size:=by lia
   rcases cI t1 (sa+k) with c|c
   ·obtain⟨l_,e1⟩:=rT t1 w1 c;rw[e1];rcases cI t2 (sa+k) with d|d
    ·obtain⟨kG,e2⟩:=rT t2 h2 d;rw[e2];exact u1 t1 t2 kG AW hlo (by lia)
    ·have key:∀u (hu:u<(aZ st).size),sa+k<=u->u<sb+nb->O.kle (ky (aZ st)[t1]) (ky (aZ st)[u]):=λu hu ya Al=>by
      rcases cI u sb with z|z
      ·exact u1 t1 u hu (by lia) hlo (by lia)
      ·exact c_ (k2 t1 l_ hlo c) (u2 sb u hu z (ay _) (by lia))
     rcases cI t2 (sa+k+out.size) with z|z
     ·obtain⟨kG,e2⟩:=nX t2 h2 d z;rw[e2];obtain⟨u,hu,ya,Al,e⟩:=src out[t2-(sa+k)] (gN kG);rw[e];exact key u hu ya (by lia)
     ·obtain⟨kG,e2⟩:=oD t2 h2 z;rw[e2];exact key t2 kG (by lia) (by lia)
   ·rcases cI t1 (sa+k+out.size) with d|d
    ·obtain⟨l_,e1⟩:=nX t1 w1 c d;rw[e1];rcases cI t2 (sa+k+out.size) with z|z
     ·obtain⟨kG,e2⟩:=nX t2 h2 (by lia) z;rw[e2];rcases cI t1 t2 with y|y
      ·have:=qD.mp hm.2 (t1-(sa+k)) (t2-(sa+k)) (by rw[aP];lia) (by rw[aP];lia) (by lia)
       rwa[bU,bU]at this
      ·have:t1=t2:=by lia
       subst this;exact eD _
     ·obtain⟨kG,e2⟩:=oD t2 h2 z;rw[e2];obtain⟨u,hu,ya,Al,e⟩:=src out[t1-(sa+k)] (gN l_);rw[e];rcases cI u sb with y|y
      ·exact c_ (u1 u (sa+k+(na-k)-1) al (by lia) (by lia) (by lia)) (m3 t2 kG (by lia) (by lia))
      ·exact u2 u t2 kG (by lia) y (by lia)
    ·obtain⟨l_,e1⟩:=oD t1 w1 d;obtain⟨kG,e2⟩:=oD t2 h2 (by lia);rw[e1,e2];exact u2 t1 t2 kG AW (by lia) (by lia)
 split
 ·exact aM (a7b H (by exact hk) ux uy sx sy (by lia) (by lia) hf hl λout cO hs hm=>fin out cO hs hm)
 ·exact aM (a7d H (by exact hk) ux uy sx sy (by lia) (by lia) hf hl λout cO hs hm=>fin out cO hs hm)
end
def a7f{α:Sort _}{P:α->Prop}{G:Prop}(code:α)(h:P code)(k:P code->G):G:=k h
section
variable {prog:bw}{w:b_}{A:bQ}{E:aj->au->Prop}{s:au}{κ:eS}{O:KeyOrd}{ky:bO->O.α}{S:bO->Prop}{st:df}
def kq(ky:bO->O.α)(d:O.α)(arr:Array bO)(t:Nat):O.α:=(arr[t]?.map ky).getD d
def W8{xs ys:Array bO}(h:xs[i]?=ys[j]?):kq ky d xs i=kq ky d ys j:=by unfold kq;rw[h]
def a9P{arr:Array bO}(h:t<arr.size):kq ky d arr t=ky arr[t]:=by unfold kq;rw[bh h];rfl
def a1H{xs:Array bO}(hj:j<=xs.size)(k:Nat):kq ky d (mW xs i j ((j-i) / 2)) k=if i<=k/\k<j then kq ky d xs (i+j-1-k) else kq ky d xs k:=by
 have e:=getElem?_mirror_all (i:=i) hj k
 split
 ·rename_i h;rw[aB h]at e;exact W8 e
 ·rename_i h;rw[aJ h]at e;exact W8 e
def N2{xs:Array bO}(hj:j<=xs.size)(heq:∀k,i<=k->k<j->kq ky d xs k=kq ky d xs (j-1))(k:Nat):kq ky d (mW xs i j ((j-i) / 2)) k=kq ky d xs k:=by
 rw[a1H hj]
 split
 ·rw[heq _ (by lia) (by lia),heq k (by lia) (by lia)]
 ·rfl
def AscTo(ky:bO->O.α)(d:O.α)(arr:Array bO)(lo n:Nat):Prop:=∀i j,i<=j->j<n->O.kle (kq ky d arr (lo+i)) (kq ky d arr (lo+j))
def a7g(ky:bO->O.α)(d:O.α)(arr:Array bO)(lo n:Nat):Prop:=∀i j,i<=j->j<n->O.kle (kq ky d arr (lo+j)) (kq ky d arr (lo+i))
def AscTo.up{d:O.α}{arr:Array bO}{lo n:Nat}(h:AscTo ky d arr lo n):UpR ky arr lo n:=λi j hj gC h1 h2=>by
 have:=h (i-lo) (j-lo) (by lia) (by lia);rw[show lo+(i-lo)=i by lia,show lo+(j-lo)=j by lia,a9P hj,a9P (show i<arr.size by lia)]at this;exact this
structure SB (S:bO->Prop) (κ:eS) (kF st:df) (lo hi:Nat):Prop where
 kind:kindOf st=κ
 fl:fI st=xI
 pn:bX st=bX kF
 pm:(aZ st).Perm (aZ kF)
 out:∀t,t<lo∨hi<=t->(aZ st)[t]?=(aZ kF)[t]?
 all:∀i (h:i<(aZ st).size),S (aZ st)[i]
theorem SB.size{kF:df}{lo hi:Nat}(h:SB S κ kF st lo hi):(aZ st).size=(aZ kF).size:=by have:=(fy.mp h.pm).length_eq;simpa using this
def SB.mod{kF:df}{lo hi:Nat}(h:SB S κ kF st lo hi){xs:Array bO}(p:xs.Perm (aZ st))(o:∀t,t<lo∨hi<=t->xs[t]?=(aZ st)[t]?):SB S κ kF (setArr st xs) lo hi:=by
 refine⟨h.kind,h.fl,h.pn,p.trans h.pm,λt ht=>(o t ht).trans (h.out t ht),λi hi=>?_⟩;have hm:xs[i]∈(aZ st).toList:=(fy.mp p).mem_iff.mp (gN hi);obtain⟨j,hj,e⟩:=iV.mp hm;show S xs[i];rw[<-e,bU];exact h.all j (by simpa using hj)
def SB.mir{kF:df}{lo hi i j:Nat}(h:SB S κ kF st lo hi)(h1:lo<=i)(h2:j<=hi)(h3:j<=(aZ st).size):SB S κ kF (setArr st (mW (aZ st) i j ((j-i) / 2))) lo hi:=h.mod (mirror_perm _ _ _ _) λt ht=>by
 rw[getElem?_mirror_all h3,aJ (by lia)]
def L4(H:CmpS prog w A s κ O ky S){d:O.α}{kF:df}{lo hi i j:Nat}(B:SB S κ kF st lo hi)(lH:i<(aZ st).size)(nS:j<(aZ st).size){Q:Option Bool->df->Prop}(h:Q (xn (O.blt (kq ky d (aZ st) i) (kq ky d (aZ st) j))) st):se (aY prog w) A E s (ltAt' i j) Q st:=by
 rw[ltAt'_eq];refine aM (kA ?_)
 dsimp only
 refine aM (l7 lH (aM (l7 nS ?_)));rw[a9P lH,a9P nS]at h;exact a3y H B.kind (B.all _ _) (B.all _ _) h
def a0Y(h:Q () (setArr st (mW (aZ st) i j ((j-i) / 2)))):se (aY prog w) A E s (reverseSlice' i j) Q st:=by
 rw[reverseSlice'_eq];exact ip h
def a4q(H:CmpS prog w A s κ O ky S){d:O.α}{kF:df}{lo h_:Nat}(B:SB S κ kF st lo (lo+h_))(hn:lo+h_<=(aZ kF).size)(h1:1<=h_){Q:Option Nat->df->Prop}
  (q:∀m cO,SB S κ kF cO lo (lo+h_)->1<=m->m<=h_->AscTo ky d (aZ cO) lo m->Q (xn m) cO):se (aY prog w) A E s (countRun' lo h_) Q st:=by
 have zB:∀{cO:df},AscTo ky d (aZ cO) lo 1:=λ{cO} i j gC hj=>by
  have:i=j:=by lia
  subst this;exact eD _
 have oE:∀{cO:df} {n:Nat},1<=n->AscTo ky d (aZ cO) lo n->O.blt (kq ky d (aZ cO) (lo+n)) (kq ky d (aZ cO) (lo+n-1))=false->AscTo ky d (aZ cO) lo (n+1):=λ{cO n} wM ha hb i j gC hj=>by
  by_cases c:j<n
  ·exact ha i j gC c
  ·have:j=n:=by lia
   subst this;by_cases e:i=j
   ·subst e;exact eD _
   ·have h2:=ha i (j-1) (by lia) (by lia);rw[show lo+(j-1)=lo+j-1 by lia]at h2;exact c_ h2 hb
 rw[countRun'_eq];refine aM (fA (dw (I:=λx c cO=>cO=st/\c=(xI,x)/\AscTo ky d (aZ st) lo x)
  (Q:=λc cO=>cO=st/\∃n,c=(xI,n)/\1<=n/\n<=h_/\AscTo ky d (aZ st) lo n/\(n=h_∨O.klt (kq ky d (aZ st) (lo+n)) (kq ky d (aZ st) (lo+n-1)))) ?astep ?afin ⟨rfl,rfl,zB⟩) ?apost)
 case afin=>
  rintro c cO ⟨rfl,rfl,ha⟩;rw[show max 1 h_=h_ by lia]at ha ⊢;exact⟨rfl,h_,rfl,h1,ay _,ha,.inl rfl⟩
 case astep=>
  rintro x c cO wH Ce ⟨rfl,rfl,ha⟩;have sz:=B.size
  dsimp only
  exact aM (L4 H (d:=d) B (by lia) (by lia) (j9 (λhb=>aW ⟨rfl,x,rfl,wH,by lia,ha,.inr hb⟩) λhb=>aW ⟨rfl,rfl,oE wH ha (fH.mpr hb)⟩))
 case apost=>
  rintro c cO ⟨rfl,n,rfl,n1,nn,ha,Cv⟩;have sz:=B.size
  dsimp only
  refine j9 (λcn=>aW (q n cO B n1 nn ha)) λcn=>?_
  have en:=x6 cn;have jv:O.klt (kq ky d (aZ cO) (lo+n)) (kq ky d (aZ cO) (lo+n-1)):=Cv.resolve_left en;refine' a7f (P:=λcode=>∀wA:df,SB S κ kF wA lo (lo+h_)->a7g ky d (aZ wA) lo (n+1)->se (aY prog w) A E s code Q wA) _ ?desc λdesc=>?main
  case main=>
   refine j9 (λDn=>?_) λDn=>?_
   ·refine aM (L4 H (d:=d) B (by lia) (by lia) (j9 (λox=>aW (q n cO B n1 nn ha)) λox=>?_))
    ·have ox:=fH.mpr ox;have g_:∀t,lo<=t->t<lo+n->kq ky d (aZ cO) t=kq ky d (aZ cO) (lo+n-1):=λt t1 t2=>by
      have a1:=ha 0 (t-lo) (by lia) (by lia);have a2:=ha (t-lo) (n-1) (by lia) (by lia);rw[show lo+0=lo by lia,show lo+(t-lo)=t by lia]at a1;rw[show lo+(t-lo)=t by lia,show lo+(n-1)=lo+n-1 by lia]at a2;exact KeyOrd.kle_antisymm a2 (c_ ox a1)
     refine aM (a0Y ?_);refine desc _ (B.mir (i:=lo) (j:=lo+n) (ay _) (by lia) (by lia)) λi j gC hj=>?_
     show O.kle (kq ky d (mW (aZ cO) lo (lo+n) ((lo+n-lo) / 2)) (lo+j)) (kq ky d (mW (aZ cO) lo (lo+n) ((lo+n-lo) / 2)) (lo+i));rw[N2 (by lia) g_,N2 (by lia) g_];by_cases Dd:j<n
     ·rw[g_ (lo+i) (by lia) (by lia),g_ (lo+j) (by lia) (by lia)];exact eD _
     ·have nS:j=n:=by lia
      subst nS;by_cases lH:i=j
      ·subst lH;exact eD _
      ·rw[g_ (lo+i) (by lia) (by lia)];exact cL jv
   ·have e:n=1:=by lia
    refine desc _ B λi j gC hj=>?_
    by_cases lH:i=j
    ·subst lH;exact eD _
    ·have Di:lo+i=lo+n-1:=by lia
     have Dg:lo+j=lo+n:=by lia
     rw[Di,Dg];exact cL jv
  case desc=>
   intro wA B1 D1;have E_:=B1.size;refine aM (P9 ?_);refine aM (fA (dw (I:=λx c kU=>∃mK,c=(xI,x,mK)/\SB S κ kF kU lo (lo+h_)/\a7g ky d (aZ kU) lo x/\mK+1<=x/\∀t,lo+x-(mK+1)<=t->t<lo+x->kq ky d (aZ kU) t=kq ky d (aZ kU) (lo+x-1))
    (Q:=λc kU=>∃x mK,c=(xI,x,mK)/\n+1<=x/\x<=h_/\SB S κ kF kU lo (lo+h_)/\a7g ky d (aZ kU) lo x/\mK+1<=x/\∀t,lo+x-(mK+1)<=t->t<lo+x->kq ky d (aZ kU) t=kq ky d (aZ kU) (lo+x-1)) ?dstep ?dfin ⟨0,rfl,B1,D1,by lia,λt t1 t2=>by rw[show t=lo+(n+1)-1 by lia]⟩) ?dpost)
   case dfin=>
    rintro c kU ⟨mK,rfl,B2,D2,q1,q2⟩;rw[show max (n+1) h_=h_ by lia]at D2 q1 q2 ⊢;exact⟨h_,mK,rfl,by lia,ay _,B2,D2,q1,q2⟩
   case dstep=>
    rintro x c kU wH Ce ⟨mK,rfl,B2,D2,q1,q2⟩;have BE:=B2.size
    dsimp only
    refine aM (L4 H (d:=d) B2 (by lia) (by lia) (j9 (λkZ=>?_) λkZ=>?_))
    ·have rC:∀xs:Array bO,(∀k,kq ky d xs k=kq ky d (aZ kU) k)->a7g ky d xs lo (x+1):=by
      intro xs hk i j gC hj;rw[hk,hk];by_cases sQ:j<x
      ·exact D2 i j gC sQ
      ·have nS:j=x:=by lia
       subst nS;by_cases lH:i=j
       ·subst lH;exact eD _
       ·have h2:=D2 i (j-1) (by lia) (by lia);rw[show lo+(j-1)=lo+j-1 by lia]at h2;exact c_ (cL kZ) h2
     refine j9 (λsL=>?_) λsL=>?_
     ·refine aM (a0Y (aW ⟨0,rfl,B2.mir (i:=lo+x-(mK+1)) (j:=lo+x) (by lia) (by lia) (by lia),rC _ (N2 (by lia) q2),by lia,λt t1 t2=>by rw[show t=lo+(x+1)-1 by lia]⟩))
     ·exact aW ⟨0,rfl,B2,rC _ (λ_=>rfl),by lia,λt t1 t2=>by rw[show t=lo+(x+1)-1 by lia]⟩
    ·have kZ:=fH.mpr kZ;refine aM (L4 H (d:=d) B2 (by lia) (by lia) (j9 (λlG=>?_) λlG=>?_))
     ·exact aW ⟨x,mK,rfl,wH,by lia,B2,D2,q1,q2⟩
     ·have lG:=fH.mpr lG;have vF:kq ky d (aZ kU) (lo+x)=kq ky d (aZ kU) (lo+x-1):=KeyOrd.kle_antisymm lG kZ;refine aW ⟨mK+1,rfl,B2,λi j gC hj=>?_,by lia,λt t1 t2=>?_⟩
      ·by_cases sQ:j<x
       ·exact D2 i j gC sQ
       ·have nS:j=x:=by lia
        subst nS;by_cases lH:i=j
        ·subst lH;exact eD _
        ·have h2:=D2 i (j-1) (by lia) (by lia);rw[show lo+(j-1)=lo+j-1 by lia]at h2;rw[vF];exact h2
      ·rw[show lo+(x+1)-1=lo+x by lia];by_cases yH:t=lo+x
       ·subst yH;rfl
       ·rw[vF];exact q2 t (by lia) (by lia)
   case dpost=>
    rintro c kU ⟨x,mK,rfl,x1,x2,B2,D2,q1,q2⟩;have BE:=B2.size
    dsimp only
    refine' a7f (P:=λcode=>∀jj:df,SB S κ kF jj lo (lo+h_)->a7g ky d (aZ jj) lo x->se (aY prog w) A E s code Q jj) _ ?tl λtl=>?mn
    case mn=>
     refine j9 (λsL=>?_) λsL=>?_
     ·refine aM (a0Y ?_);refine tl _ (B2.mir (i:=lo+x-(mK+1)) (j:=lo+x) (by lia) (by lia) (by lia)) λi j gC hj=>?_
      show O.kle (kq ky d (mW (aZ kU) (lo+x-(mK+1)) (lo+x) ((lo+x-(lo+x-(mK+1))) / 2)) (lo+j)) (kq ky d (mW (aZ kU) (lo+x-(mK+1)) (lo+x) ((lo+x-(lo+x-(mK+1))) / 2)) (lo+i));rw[N2 (by lia) q2,N2 (by lia) q2];exact D2 i j gC hj
     ·exact tl _ B2 D2
    case tl=>
     intro jj B3 D3;have EZ:=B3.size;refine aM (a0Y ?_);have B4:=B3.mir (i:=lo) (j:=lo+x) (ay _) (by lia) (by lia);have A4:AscTo ky d (aZ (setArr jj (mW (aZ jj) lo (lo+x) ((lo+x-lo) / 2)))) lo x:=λi j gC hj=>by
      show O.kle (kq ky d (mW (aZ jj) lo (lo+x) ((lo+x-lo) / 2)) (lo+i)) (kq ky d (mW (aZ jj) lo (lo+x) ((lo+x-lo) / 2)) (lo+j));rw[a1H (by lia),a1H (by lia),aB (by lia),aB (by lia)];have:=D3 (x-1-j) (x-1-i) (by lia) (by lia);rw[show lo+(x-1-j)=lo+(lo+x)-1-(lo+j) by lia,show lo+(x-1-i)=lo+(lo+x)-1-(lo+i) by lia]at this;exact this
     generalize setArr jj (mW (aZ jj) lo (lo+x) ((lo+x-lo) / 2))=iz at B4 A4 ⊢;refine aM (fA (dw (I:=λy c cO=>cO=iz/\c=(xI,y)/\AscTo ky d (aZ iz) lo y)
      (Q:=λc cO=>cO=iz/\∃m,c=(xI,m)/\1<=m/\m<=h_/\AscTo ky d (aZ iz) lo m) ?bstep ?bfin ⟨rfl,rfl,A4⟩) ?bpost)
     case bfin=>
      rintro c cO ⟨rfl,rfl,ha⟩;rw[show max x h_=h_ by lia]at ha ⊢;exact⟨rfl,h_,rfl,h1,ay _,ha⟩
     case bstep=>
      rintro y c cO Fj Fi ⟨rfl,rfl,ha⟩;have EY:=B4.size
      dsimp only
      exact aM (L4 H (d:=d) B4 (by lia) (by lia) (j9 (λhb=>aW ⟨rfl,y,rfl,by lia,by lia,ha⟩) λhb=>aW ⟨rfl,rfl,oE (by lia) ha (fH.mpr hb)⟩))
     case bpost=>
      rintro c cO ⟨rfl,m,rfl,m1,m2,ha⟩;exact aW (q m cO B4 m1 m2 ha)
end
section
variable {prog:bw}{w:b_}{A:bQ}{E:aj->au->Prop}{s:au}{κ:eS}{O:KeyOrd}{ky:bO->O.α}{S:bO->Prop}{st:df}
def a4W{xs:Array bO}(hs:src<xs.size)(hd:e<=src)(k:Nat) :
  kq ky d (bubble xs src e) k=if k=src-e then kq ky d xs src else if src-e<k/\k<=src then kq ky d xs (k-1) else kq ky d xs k:=by
 have e:=getElem?_bubble hs e hd k
 split
 ·rename_i h1;rw[aB h1]at e;exact W8 e
 ·rename_i h1
  rw[aJ h1]at e
  split
  ·rename_i h2;rw[aB h2]at e;exact W8 e
  ·rename_i h2;rw[aJ h2]at e;exact W8 e
def a2H(H:CmpS prog w A s κ O ky S){d:O.α}{kF:df}{lo hi n ok:Nat}(B:SB S κ kF st lo hi)(hn:lo+n<=(aZ kF).size)(hh:lo+n<=hi)(hok:ok<=n)(hs:AscTo ky d (aZ st) lo ok){Q:Bool->df->Prop}
  (q:∀cO,SB S κ kF cO lo hi->AscTo ky d (aZ cO) lo n->Q true cO):se (aY prog w) A E s (binarySort' lo n ok) Q st:=by
 rw[binarySort'_eq];refine aM (fA (dw (I:=λk c cO=>c=(xI,())/\SB S κ kF cO lo hi/\AscTo ky d (aZ cO) lo (min k n))
  (Q:=λc cO=>c=(xI,())/\SB S κ kF cO lo hi/\AscTo ky d (aZ cO) lo n) ?step ?fin ?init) ?post)
 case post=>
  rintro c cO ⟨rfl,B',iO⟩;exact aW (q cO B' iO)
 case init=>
  refine⟨rfl,B,λi j gC hj=>?_⟩;by_cases h1:ok=0
  ·have:i=j:=by lia
   subst this;exact eD _
  ·exact hs i j gC (by lia)
 case fin=>
  rintro c cO ⟨hc,B',iO⟩;refine⟨hc,B',?_⟩
  rwa[show min (max (max ok 1) n) n=n by lia]at iO
 case step=>
  rintro k c cO Fv vt ⟨rfl,B',iO⟩;rw[show min k n=k by lia]at iO;have sz:=B'.size;refine aM (fA (dw (I:=λx c e_=>e_=cO/\∃l r,c=(xI,l,r)/\l<=r/\r<=k/\r-l<=k-x/\
    (∀i,i<l->O.kle (kq ky d (aZ cO) (lo+i)) (kq ky d (aZ cO) (lo+k)))/\(∀i,r<=i->i<k->O.klt (kq ky d (aZ cO) (lo+k)) (kq ky d (aZ cO) (lo+i))))
   (Q:=λc e_=>e_=cO/\∃l r,c=(xI,l,r)/\l<=k/\
    (∀i,i<l->O.kle (kq ky d (aZ cO) (lo+i)) (kq ky d (aZ cO) (lo+k)))/\(∀i,l<=i->i<k->O.klt (kq ky d (aZ cO) (lo+k)) (kq ky d (aZ cO) (lo+i)))) ?istep ?ifin ?iinit) ?ipost)
  case iinit=>exact⟨rfl,0,k,rfl,by lia,by lia,by lia,λi hi=>by lia,λi h1 h2=>by lia⟩
  case ifin=>
   rintro c e_ ⟨rfl,l,r,rfl,CP,yh,hm,hlo,sT⟩;have:l=r:=by lia
   subst this;exact⟨rfl,l,l,rfl,yh,hlo,sT⟩
  case istep=>
   rintro x c e_ _ Ah ⟨rfl,l,r,rfl,CP,yh,hm,hlo,sT⟩
   dsimp only
   by_cases uc:l≥r
   ·rw[aB uc];have:l=r:=by lia
    subst this;exact aW ⟨rfl,l,l,rfl,yh,hlo,sT⟩
   ·rw[aJ uc];refine aM (L4 H (d:=d) B' (by lia) (by lia) ?_)
    dsimp only
    cases kZ:O.blt (kq ky d (aZ e_) (lo+k)) (kq ky d (aZ e_) (lo+(l+r) / 2)) with
    |true=>
     rw[aB rfl];refine aW ⟨rfl,l,(l+r) / 2,rfl,by lia,by lia,by lia,hlo,λi h1 h2=>?_⟩;exact eY kZ (iO _ _ h1 h2)
    |false=>
     simp only[bu,dr];refine aW ⟨rfl,(l+r) / 2+1,r,rfl,by lia,by lia,by lia,λi h1=>?_,sT⟩;exact c_ (iO i ((l+r) / 2) (by lia) (by lia)) (show O.kle _ _ from kZ)
  case ipost=>
   rintro c e_ ⟨rfl,l,r,rfl,Fn,hlo,sT⟩;show se _ _ _ _ (do moveDown' (lo+k) (lo+l);pure (fE (xI,()))) _ _;rw[moveDown'_eq];have k_:lo+k<(aZ e_).size:=by lia
   refine aM (ip (aW ⟨rfl,B'.mod (bubble_perm _ _ _) λt ht=>?_,?_⟩))
   ·rw[getElem?_bubble k_ _ (by lia),aJ (by lia),aJ (by lia)]
   rw[show min (k+1) n=k+1 by lia];intro i j gC hj;show O.kle (kq ky d (bubble (aZ e_) (lo+k) (lo+k-(lo+l))) (lo+i)) (kq ky d (bubble (aZ e_) (lo+k) (lo+k-(lo+l))) (lo+j));rw[a4W k_ (by lia),a4W k_ (by lia),show lo+k-(lo+k-(lo+l))=lo+l by lia];have mO:∀a b,lo<=a->a<=b->b<lo+k->O.kle (kq ky d (aZ e_) a) (kq ky d (aZ e_) b):=λa b h1 h2 h3=>by
    have:=iO (a-lo) (b-lo) (by lia) (by lia)
    rwa[show lo+(a-lo)=a by lia,show lo+(b-lo)=b by lia]at this
   have yJ:∀a,lo+l<=a->a<lo+k->O.klt (kq ky d (aZ e_) (lo+k)) (kq ky d (aZ e_) a):=λa h1 h2=>by
    have:=sT (a-lo) (by lia) (by lia)
    rwa[show lo+(a-lo)=a by lia]at this
   repeat' split
   all_goals first
    | (exfalso;lia)
    |exact eD _
    |exact hlo _ (by lia)
    |exact cL (yJ _ (by lia) (by lia))
    |exact mO _ _ (by lia) (by lia) (by lia)
end
section
variable {prog:bw}{w:b_}{A:bQ}{E:aj->au->Prop}{s:au}{κ:eS}{O:KeyOrd}{ky:bO->O.α}{S:bO->Prop}{st:df}
def Chain(ky:bO->O.α)(arr:Array bO):List (Nat×Nat)->Nat->Nat->Prop
 |[],a,b=>a=b
 | (x,n)::l,a,b=>x=a/\0<n/\UpR ky arr x n/\Chain ky arr l (x+n) b
theorem Chain.len:∀{l:List (Nat×Nat)} {a b:Nat},Chain ky arr l a b->a+l.length<=b
 |[],a,b,h=>by have h:a=b:=h;simp;lia
 | (x,n)::l,a,b,⟨e,h0,_,h⟩=>by have:=h.len;rw[aV];lia
theorem Chain.app{arr:Array bO}{l2:List (Nat×Nat)}:∀{l1:List (Nat×Nat)} {a b:Nat},Chain ky arr (l1++l2) a b↔∃c,Chain ky arr l1 a c/\Chain ky arr l2 c b
 |[],a,b=>⟨λh=>⟨a,rfl,h⟩,λ⟨c,e,h⟩=>by have e:a=c:=e;subst e;exact h⟩
 | (x,n)::l,a,b=>by
  show (x=a/\0<n/\UpR ky arr x n/\Chain ky arr (l++l2) (x+n) b)↔_;rw[Chain.app (l1:=l)];exact⟨λ⟨h1,h2,h3,c,h4,h5⟩=>⟨c,⟨h1,h2,h3,h4⟩,h5⟩,λ⟨c,⟨h1,h2,h3,h4⟩,h5⟩=>⟨h1,h2,h3,c,h4,h5⟩⟩
def UpR.congr{arr mi:Array bO}(h:UpR ky arr x n)(e:∀t,x<=t->t<x+n->mi[t]?=arr[t]?):UpR ky mi x n:=λi j hj gC h1 h2=>by
 have ej:=e j (by lia) h2;have ei:=e i h1 (by lia);rw[bh hj]at ej;rw[bh (show i<mi.size by lia)]at ei;obtain⟨j2,xj⟩:=qg.mp ej.symm;obtain⟨i2,xl⟩:=qg.mp ei.symm;rw[<-xj,<-xl];exact h i j j2 gC h1 h2
theorem Chain.congr{arr mi:Array bO}:∀{l:List (Nat×Nat)} {a b:Nat},Chain ky arr l a b->(∀t,a<=t->t<b->mi[t]?=arr[t]?)->Chain ky mi l a b
 |[],a,b,h,_=>h
 | (x,n)::l,a,b,⟨e,h0,u,h⟩,he=>by
  have hl:=h.len;exact⟨e,h0,u.congr λt t1 t2=>he t (by lia) (by lia),h.congr λt t1 t2=>he t (by lia) t2⟩
def a0A(st:df):List (Nat×Nat):=(bX st).toList.map λr=>(r.1,r.2.1)
structure RI (S:bO->Prop) (κ:eS) (ky:bO->O.α) (a0:Array bO) (st:df) (lo:Nat):Prop where
 kind:kindOf st=κ
 fl:fI st=xI
 pm:(aZ st).Perm a0
 all:∀i (h:i<(aZ st).size),S (aZ st)[i]
 ch:Chain ky (aZ st) (a0A st) 0 lo
 hlo:lo<=a0.size
theorem RI.size{a0:Array bO}{lo:Nat}(h:RI S κ ky a0 st lo):(aZ st).size=a0.size:=by have:=(fy.mp h.pm).length_eq;simpa using this
def a7h{α:Type}{l:List α}(h:i+1<l.length):l=l.take i++l[i]::l[i+1]::l.drop (i+2):=by
 conv=>lhs;rw[<-iC i l]
 rw[dJ (show i<l.length by lia),dJ h]
def a4X(l1 l2:List α)(a b v:α):((l1++a::b::l2).set l1.length v).eraseIdx (l1.length+1)=l1++v::l2:=by
 induction l1 with
 |nil=>rfl
 |cons x l1 ih=>simp only[bB,aV,fU,List.eraseIdx_cons_succ,ih]
def a7i(p:Array α)(i:Nat)(v:α):((p.setIfInBounds i v).eraseIdxIfInBounds (i+1)).toList=(p.toList.set i v).eraseIdx (i+1):=by
 obtain⟨l⟩:=p;simp
def RI.merge(H:CmpS prog w A s κ O ky S){a0:Array bO}{lo i:Nat}(R:RI S κ ky a0 st lo)(hi:i+1<(bX st).size){Q:Bool->df->Prop}
  (q:∀cO,RI S κ ky a0 cO lo->(∀t,lo<=t->(aZ cO)[t]?=(aZ st)[t]?)->(bX cO).size+1=(bX st).size->Q true cO):se (aY prog w) A E s (mergeAt' i) Q st:=by
 have hl:i+1<(bX st).toList.length:=by rw[aP];exact hi
 have sp:=a7h hl;have xP:((bX st).toList.take i).length=i:=by rw[dX];lia
 generalize wO:(bX st).toList.take i=l1 at sp xP;generalize oQ:(bX st).toList.drop (i+2)=l2 at sp;obtain⟨⟨sa,na,pw⟩,ea⟩:∃x,x=(bX st).toList[i]:=⟨_,rfl⟩;obtain⟨⟨sb,nb,xE⟩,eb⟩:∃x,x=(bX st).toList[i+1]:=⟨_,rfl⟩;rw[<-ea,<-eb]at sp;have p1:(bX st)[i]?=xn (sa,na,pw):=by rw[bh (by lia),ea,bU]
 have p2:(bX st)[i+1]?=xn (sb,nb,xE):=by rw[bh hi,eb,bU]
 have ch:=R.ch;rw[a0A,sp,aN,Chain.app]at ch;obtain⟨c,c1,e1,wF,u1,e2,xJ,u2,c2⟩:=ch
 dsimp only at e1 wF u1 e2 xJ u2 c2
 have cl:=c2.len;have FL:=c1.len;have sz:=R.size;have zS:=R.hlo;refine a7e H R.kind p1 p2 e2 wF xJ (by lia) R.all u1 u2 R.fl λcO k' f' pe F=>q cO ⟨k'.trans R.kind,f',(fy.mpr F.pm).trans R.pm,λi hi=>?_,?_,zS⟩ (λt ht=>F.out t (by lia)) ?_
 ·have hm:(aZ cO)[i]∈(aZ st).toList:=F.pm.mem_iff.mp (gN hi);obtain⟨j,hj,e⟩:=iV.mp hm;rw[<-e,bU];exact R.all j (by simpa using hj)
 ·have e:(bX cO).toList=l1++(sa,na+nb,pw)::l2:=by
   rw[pe,a7i,sp]
   conv=>lhs;rw[<-xP]
   exact a4X _ _ _ _ _
  rw[a0A,e,aN,Chain.app];refine⟨c,c1.congr λt _ t2=>F.out t (by lia),e1,by dsimp only;lia,?_,?_⟩
  ·dsimp only
   have:=F.up
   rwa[show sb+nb-sa=na+nb by lia]at this
  ·dsimp only
   rw[show sa+(na+nb)=sb+nb by lia];exact c2.congr λt t1 _=>F.out t (by lia)
 ·have:=dB dY (dB Array.toList pe);rw[a7i,sp]at this;rw[<-xP,a4X]at this;have h2:=dB dY sp;simp only[aP,az,aV]at this h2;lia
end
section
variable {prog:bw}{w:b_}{A:bQ}{E:aj->au->Prop}{s:au}{κ:eS}{O:KeyOrd}{ky:bO->O.α}{S:bO->Prop}{st:df}
def RI.pend{a0:Array bO}{lo:Nat}(R:RI S κ ky a0 st lo){p:Array (Nat×Nat×Nat)}(e:p.toList.map (λr=>(r.1,r.2.1))=a0A st):RI S κ ky a0 (tK st p) lo:=
 ⟨R.kind,R.fl,R.pm,R.all,by show Chain ky (aZ st) (p.toList.map _) 0 lo;rw[e];exact R.ch,R.hlo⟩
theorem RI.push{a0:Array bO}{lo n:Nat}(R:RI S κ ky a0 st lo)(n0:0<n)(hn:lo+n<=a0.size)(u:UpR ky (aZ st) lo n):RI S κ ky a0 (tK st ((bX st).push (lo,n,0))) (lo+n):=
 ⟨R.kind,R.fl,R.pm,R.all,by
  show Chain ky (aZ st) (((bX st).push (lo,n,0)).toList.map _) 0 (lo+n);rw[cm,aN,Chain.app];exact⟨lo,R.ch,rfl,n0,u,rfl⟩,hn⟩
def RI.sb{a0:Array bO}{lo hi:Nat}(R:RI S κ ky a0 st lo):SB S κ st st lo hi:=⟨R.kind,R.fl,rfl,FU _,λ_ _=>rfl,R.all⟩
def RI.ofSB{a0:Array bO}{lo hi:Nat}{cO:df}(R:RI S κ ky a0 st lo)(B:SB S κ st cO lo hi):RI S κ ky a0 cO lo:=
 ⟨B.kind,B.fl,B.pm.trans R.pm,B.all,by
  unfold a0A;rw[B.pn];exact R.ch.congr λt _ t2=>B.out t (.inl t2),R.hlo⟩
def b6z[Decidable c](h1:a+1<n)(h2:b+1<n):(if c then a else b)+1<n:=by split<;>assumption
def a0e(p:Array (Nat×Nat×Nat))(i pw:Nat):(p.modify i λ(x,len,_)=>(x,len,pw)).toList.map (λr=>(r.1,r.2.1))=p.toList.map λr=>(r.1,r.2.1):=by
 apply j_;intro k;rw[aR,aR,bP,bP,Array.getElem?_modify]
 split
 ·cases p[k]?<;>rfl
 ·rfl
def a4r(H:CmpS prog w A s κ O ky S)(d:O.α)(R0:RI S κ ky a0 st 0) 
  (q:∀cO,(aZ cO).Perm a0->fI cO=xI->UpA ky (aZ cO)->Q () cO):se (aY prog w) A E s sortRuns' Q st:=by
 rw[sortRuns'_eq];refine aM (kA ?_)
 try dsimp only
 simp only[R0.size];refine aM (fA (dw
  (I:=λx c cO=>∃lo,c=(xI,lo)/\RI S κ ky a0 cO lo/\x<=lo)
  (Q:=λc cO=>c=(xI,a0.size)/\RI S κ ky a0 cO a0.size) ?step ?fin ⟨0,rfl,R0,ay _⟩) ?post)
 case fin=>
  rintro c cO ⟨lo,rfl,R,h⟩;have:=R.hlo;have e:lo=a0.size:=by lia
  subst e;exact⟨rfl,R⟩
 case step=>
  rintro x c cO _ hx ⟨lo,rfl,R,h⟩
  try dsimp only
  have zS:=R.hlo;by_cases c1:lo≥a0.size
  ·rw[aB c1];have e:lo=a0.size:=by lia
   subst e;exact aW ⟨rfl,R⟩
  rw[aJ c1];have sz:=R.size;refine aM (a4q H (d:=d) R.sb (by lia) (by lia) λm kU B2 m1 m2 A2=>?_)
  try dsimp only
  by_cases c2:m<minRun' a0.size a0.size 0
  ·rw[aB c2];refine aM (P9 ?_);have f1:lo+min (a0.size-lo) (minRun' a0.size a0.size 0)<=a0.size:=by lia
   have f2:m<=min (a0.size-lo) (minRun' a0.size a0.size 0):=by lia
   generalize min (a0.size-lo) (minRun' a0.size a0.size 0)=n at f1 f2 ⊢;refine aM (a2H H (d:=d) B2 (by lia) (by lia) f2 A2 λjj B3 A3=>?_);simp only[gf,bu,dr];have n0:0<n:=by lia
   have R3:=R.ofSB B3;have u3:=A3.up;refine aM (kA ?_);have fin:∀iz:df,RI S κ ky a0 iz lo->UpR ky (aZ iz) lo n->∃sk,(xI,lo+n)=((xI,sk):Option Unit×Nat)/\RI S κ ky a0 (tK iz ((bX iz).push (lo,n,0))) sk/\x+1<=sk:=λiz R4 u4=>⟨lo+n,rfl,R4.push n0 f1 u4,by lia⟩
   cases hb:(bX jj).back? with
   |none=>
    try dsimp only
    exact aM (ip (aW (fin _ R3 u3)))
   |some r=>
    obtain⟨s1,n1,BO⟩:=r
    try dsimp only
    refine aM (fA (dw (I:=λ_ c iz=>c=(xI,())/\RI S κ ky a0 iz lo/\UpR ky (aZ iz) lo n) (Q:=λc iz=>c=(xI,())/\RI S κ ky a0 iz lo/\UpR ky (aZ iz) lo n) ?_ (λ_ _ hh=>hh) ⟨rfl,R3,u3⟩) ?_)
    ·rintro y c iz _ _ ⟨rfl,R4,u4⟩
     try dsimp only
     refine aM (kA ?_);by_cases c3:(bX iz).size>1
     ·rw[aB c3,bh (by lia)];generalize (bX iz)[(bX iz).size-2]'(by lia)=r2;obtain⟨s2,n2,pG⟩:=r2
      try dsimp only
      by_cases c4:pG<=power' a0.size (2*s1+n1) (2*s1+n1+n1+n) a0.size
      ·rw[aB c4];exact aW ⟨rfl,R4,u4⟩
      ·rw[aJ c4];refine aM (R4.merge H (by lia) λpj R5 o5 _=>?_);simp only[gf,bu,dr];exact aW ⟨rfl,R5,u4.congr λt t1 _=>o5 t t1⟩
     ·rw[aJ c3];exact aW ⟨rfl,R4,u4⟩
    ·rintro c iz ⟨rfl,R4,u4⟩
     try dsimp only
     exact aM (ip (aM (ip (aW (fin _ (R4.pend (a0e _ _ _)) u4)))))
  ·rw[aJ c2];obtain⟨n,en⟩:∃n,n=m:=⟨m,rfl⟩;obtain⟨jj,es⟩:∃jj,jj=kU:=⟨kU,rfl⟩;rw[<-en,<-es];have n0:0<n:=by lia
   have f1:lo+n<=a0.size:=by lia
   have R3:RI S κ ky a0 jj lo:=by rw[es];exact R.ofSB B2
   have u3:UpR ky (aZ jj) lo n:=by rw[es,en];exact A2.up
   refine aM (kA ?_);have fin:∀iz:df,RI S κ ky a0 iz lo->UpR ky (aZ iz) lo n->∃sk,(xI,lo+n)=((xI,sk):Option Unit×Nat)/\RI S κ ky a0 (tK iz ((bX iz).push (lo,n,0))) sk/\x+1<=sk:=λiz R4 u4=>⟨lo+n,rfl,R4.push n0 f1 u4,by lia⟩
   cases hb:(bX jj).back? with
   |none=>
    try dsimp only
    exact aM (ip (aW (fin _ R3 u3)))
   |some r=>
    obtain⟨s1,n1,BO⟩:=r
    try dsimp only
    refine aM (fA (dw (I:=λ_ c iz=>c=(xI,())/\RI S κ ky a0 iz lo/\UpR ky (aZ iz) lo n) (Q:=λc iz=>c=(xI,())/\RI S κ ky a0 iz lo/\UpR ky (aZ iz) lo n) ?_ (λ_ _ hh=>hh) ⟨rfl,R3,u3⟩) ?_)
    ·rintro y c iz _ _ ⟨rfl,R4,u4⟩
     try dsimp only
     refine aM (kA ?_);by_cases c3:(bX iz).size>1
     ·rw[aB c3,bh (by lia)];generalize (bX iz)[(bX iz).size-2]'(by lia)=r2;obtain⟨s2,n2,pG⟩:=r2
      try dsimp only
      by_cases c4:pG<=power' a0.size (2*s1+n1) (2*s1+n1+n1+n) a0.size
      ·rw[aB c4];exact aW ⟨rfl,R4,u4⟩
      ·rw[aJ c4];refine aM (R4.merge H (by lia) λpj R5 o5 _=>?_);simp only[gf,bu,dr];exact aW ⟨rfl,R5,u4.congr λt t1 _=>o5 t t1⟩
     ·rw[aJ c3];exact aW ⟨rfl,R4,u4⟩
    ·rintro c iz ⟨rfl,R4,u4⟩
     try dsimp only
     exact aM (ip (aM (ip (aW (fin _ (R4.pend (a0e _ _ _)) u4)))))
 case post=>
  rintro c cO ⟨rfl,R⟩
  try dsimp only
  have cl:=R.ch.len;rw[a0A,ai,aP]at cl;refine aM (fA (dw (I:=λx c e_=>c=(xI,())/\RI S κ ky a0 e_ a0.size/\(bX e_).size+x<=a0.size) (Q:=λc e_=>c=(xI,())/\RI S κ ky a0 e_ a0.size/\(bX e_).size<=1) ?_ ?_ ⟨rfl,R,by lia⟩) ?_)
  ·rintro x c e_ _ hx ⟨rfl,R2,h2⟩
   try dsimp only
   refine aM (kA ?_);by_cases c1:(bX e_).size<=1
   ·rw[aB c1];exact aW ⟨rfl,R2,c1⟩
   rw[aJ c1];refine aM (R2.merge H (b6z (by lia) (by lia)) λpj R5 _ e5=>?_);simp only[gf,bu,dr];exact aW ⟨rfl,R5,by lia⟩
  ·rintro c e_ ⟨rfl,R2,h2⟩;exact⟨rfl,R2,by lia⟩
  ·rintro c e_ ⟨rfl,R2,h2⟩;refine aW (q e_ R2.pm R2.fl ?_);have ch:=R2.ch;have sz:=R2.size;unfold a0A at ch;generalize hp:(bX e_).toList=l at ch;have hl:l.length<=1:=by rw[<-hp,aP];exact h2
   match l,hl,ch with
   |[],_,ch=>
    have ch:0=a0.size:=ch;intro i j hj gC;lia
   |[(x,n,pw)],_,⟨e1,_,u,e2⟩=>
    have e2:x+n=a0.size:=e2;intro i j hj gC;exact u i j hj gC (by dsimp only at e1 ⊢;lia) (by dsimp only at e1 ⊢;lia)
end
end VS
namespace VS
open PySem PyProof.Rows
open PySem.W (kas_item)
def b1G{α β:Type}{f:α->β}{l l':List β}(h:l.Perm l'):∀m:List α,l'=m.map f->∃m':List α,m'.Perm m/\l=m'.map f:=by
 induction h with
 |nil=>intro m e;exact⟨m,jO _,e⟩
 |cons x _ ih=>
  intro m e
  match m,e with
  |y::m,e=>
   rw[ax,gc]at e;obtain⟨m',p,e2⟩:=ih m e.2;exact⟨y::m',p.cons y,by rw[ax,e.1,e2]⟩
 |swap x y l=>
  intro m e
  match m,e with
  |a::b::m,e=>
   rw[ax,ax,gc,gc]at e;exact⟨b::a::m,List.Perm.swap a b m,by rw[ax,ax,e.1,e.2.1,e.2.2]⟩
 |trans _ _ xS xR=>
  intro m e;obtain⟨m1,p1,e1⟩:=xR m e;obtain⟨m2,p2,e2⟩:=xS m1 e1;exact⟨m2,p2.trans p1,e2⟩
section
variable {prog:bw}{w:b_}{A:bQ}{E:aj->au->Prop}{s:au}{κ:eS}{O:KeyOrd}{key:Nat->O.α}{ks vs:List aj}
noncomputable def b6A(key:Nat->O.α)(ks:List aj)(x:bO):O.α:=
 open Classical in if h : ∃ i, i<ks.length /\ ks.getD i bt = x.1 then key h.choose else key 0
def a5V(cong:∀i j,i<ks.length->j<ks.length->ks.getD i bt=ks.getD j bt->key i=key j){x:bO}(hi:i<ks.length)(e:ks.getD i bt=x.1):b6A key ks x=key i:=by
 have h:∃i,i<ks.length/\ks.getD i bt=x.1:=⟨i,hi,e⟩;unfold b6A;rw[dif_pos h];exact cong _ _ h.choose_spec.1 hi (h.choose_spec.2.trans e.symm)
def b6B(hl:ks.length=vs.length)(jv:∀(i j:Nat) (C:Bool->au->Prop),i<vs.length->j<vs.length->C (O.blt (key i) (key j)) s->aX (aY prog w) A (keyLt' κ (ks.getD i bt) (ks.getD j bt)) C (λ_ _=>False) s)
  (cong:∀i j,i<ks.length->j<ks.length->ks.getD i bt=ks.getD j bt->key i=key j) :
  aX (aY prog w) A ((sortRuns').run (df.mk' κ (ks.toArray.zip vs.toArray) #[] 7 xI)) (λr s'=>s'=s/\∃p:Array Nat,aZ r.2=p.map (md (ks.toArray.zip vs.toArray))/\fI r.2=xI/\AllN vs.length p/\b1E key p vs.length) E s:=by
 have zs:(ks.toArray.zip vs.toArray).size=vs.length:=by simp[hl]
 have it:∀i,i<vs.length->md (ks.toArray.zip vs.toArray) i=(ks.getD i bt,vs.getD i bt):=λi hi=>PySem.W.kat_item hl i
 have hz:∀i (h:i<(ks.toArray.zip vs.toArray).size),(ks.toArray.zip vs.toArray)[i]=(ks.getD i bt,vs.getD i bt):=λi h=>by
  rw[<-it i (by lia)];unfold md;rw[zM,dif_pos h];rfl
 have H:CmpS prog w A s κ O (b6A key ks) (λx=>∃i,i<vs.length/\x.1=ks.getD i bt):=⟨λx y ⟨i,hi,ei⟩ ⟨j,hj,ej⟩ C hC=>by
  rw[a5V cong (by lia) ei.symm,a5V cong (by lia) ej.symm]at hC;rw[ei,ej];exact jv i j C hi hj hC⟩
 show se (aY prog w) A E s sortRuns' (λ_ cO=>∃p:Array Nat,aZ cO=p.map (md (ks.toArray.zip vs.toArray))/\fI cO=xI/\AllN vs.length p/\b1E key p vs.length) (df.mk' κ (ks.toArray.zip vs.toArray) #[] 7 xI);refine a4r (st:=df.mk' κ (ks.toArray.zip vs.toArray) #[] 7 xI) H (key 0) (a0:=ks.toArray.zip vs.toArray) ⟨rfl,rfl,FU _,λi h=>⟨i,?_,?_⟩,rfl,cE _⟩ λcO pm fl up=>?_
 ·have h':i<(ks.toArray.zip vs.toArray).size:=h;lia
 ·show (ks.toArray.zip vs.toArray)[i].1=_;rw[hz]
 have el:(ks.toArray.zip vs.toArray).toList=(aA vs.length).map (md (ks.toArray.zip vs.toArray)):=by
  apply iM
  ·rw[aP,ai,bz];exact zs
  intro i h1 h2;rw[bU,de,jM,hz,it i (by rw[aP]at h1;lia)]
 obtain⟨p,pp,pe⟩:=b1G (fy.mp pm) _ el;have hp:AllN vs.length p.toArray:=pp;have ea:aZ cO=p.toArray.map (md (ks.toArray.zip vs.toArray)):=by
  apply Array.toList_inj.mp;rw[Array.toList_map,pe]
 refine⟨p.toArray,ea,fl,hp,λi j gC hj=>?_⟩;have gE:p.length=vs.length:=by have:=pp.length_eq;rw[bz]at this;exact this
 have sz:(aZ cO).size=vs.length:=by rw[ea,Array.size_map,bp];exact gE
 have hk:∀t (ht:t<(aZ cO).size),b6A key ks (aZ cO)[t]=kyP key p.toArray t:=λt ht=>by
  have uW:t<p.length:=by lia
  have hm:p[t]<vs.length:=bI.mp (pp.mem_iff.mp (dA uW));have e1:(aZ cO)[t]=md (ks.toArray.zip vs.toArray) p[t]:=by
   have:(aZ cO)[t]?=(p.toArray.map (md (ks.toArray.zip vs.toArray)))[t]?:=by rw[ea]
   rw[bh ht,Array.getElem?_map]at this;simp only[List.getElem?_toArray,ab uW,oX,nz]at this;exact this
  rw[e1,it _ hm,a5V cong (i:=p[t]) (by lia) rfl];unfold kyP;simp[zM,uW]
 have:=up i j (by lia) gC;rw[hk i (by lia),hk j (by lia)]at this;exact this
end
end VS
namespace VS
open PySem PySem.Spec L2
open PyProof.Rows (KeyOrd SortKind SortSt keyKind' keyLt' seqObj listItems_at listUpdate_at seqEpoch_at arrOf failedOf get?_update_seq list_sort_plain general' tuples' size_push' slot_list_sort entry_list_sort args_list_sort kind_sorted plain_sorted entry_sorted args_sorted1)
open PySem.W (kas_sort kas_ask kas_item kat_run kat_snds)
section
variable {prog:bw}{w:b_}{A:bQ}{E:aj->au->Prop}{sh:au}{vs:List aj}{κ:eS}{O:KeyOrd}{key:Nat->O.α}
def Kept(h h':cR):Prop:=∀b o,h.get? b=xn o->h'.get? b=xn o
theorem Kept.push(x:Kept h h')(o:fY):Kept h (h'.push o):=λb u e=>aE _ (x b u e)
def Kept.upd(x:Kept h h')(f:fY->fY)(ha:h.objs.size<=a):Kept h (h'.update a f):=λb u e=>by
 rw[dO _ _ (jy (bo (aU e) ha))];exact x b u e
structure Sortable (prog:bw) (w:b_) (A:bQ) (h0:cR) (ks:List aj) (κ:eS) (O:KeyOrd) (key:Nat->O.α):Prop where
 kind:2<=ks.length->∀(s:au) (E:aj->au->Prop) (Q:eS->au->Prop),Kept h0 s.heap->Q κ s->aX (aY prog w) A (keyKind' ks.toArray) Q E s
 lt:∀(s:au) (i j:Nat) (C:Bool->au->Prop),Kept h0 s.heap->i<ks.length->j<ks.length->C (O.blt (key i) (key j)) s->aX (aY prog w) A (keyLt' κ (ks.getD i bt) (ks.getD j bt)) C (λ_ _=>False) s
 cong:∀i j,i<ks.length->j<ks.length->ks.getD i bt=ks.getD j bt->key i=key j
def Gives(prog:bw)(w:b_)(A:bQ)(sh:au)(r:aj)(vs:List aj):Prop:=
 ∀(E:aj->au->Prop) (Q:List aj->au->Prop),(∀(h':cR) (tk:Nat),Kept sh.heap h'->sh.heap.objs.size<=h'.objs.size->Q vs {sh with heap:=h',toks:=tk})->aX (aY prog w) A (collect r) Q E sh
def a8A(hh:A.handled=xI)(h0:(d==dq)=false)(hm:sh.heap.RawDict d rows ep)(hz:rows.size<=a_):Gives prog w A sh (.ref d) (rows.toList.map (·.key)):=λE Q q=>by
 have hd:d<sh.heap.objs.size:=let⟨_,hu,_⟩:=hm;aU hu
 have fin:∀(h':cR) (tk:Nat) (acc:Array aj) (c:Nat),(∀b o,b≠sh.heap.objs.size->(sh.heap.push {cls:=.type "list",data:=.seq ([]:List aj).toArray}).get? b=xn o->h'.get? b=xn o)->
   h'.get? sh.heap.objs.size=xn {cls:=.type "list",dict:=xI,data:=.seq acc c,slots:=#[]}->qf (λi v=>∃e,rows[i]?=xn e/\v=e.key) acc rows.size->Q acc.toList {sh with heap:=h',toks:=tk}:=by
  intro h' tk acc c hk hS nW;have e:acc.toList=rows.toList.map (·.key):=by
   refine j_ λi=>?_
   rw[aR,bP,bP];by_cases c:i<rows.size
   ·obtain⟨x,hx⟩:∃x,acc[i]?=xn x:=⟨_,bh (by rw[nW.1];exact c)⟩;obtain⟨y,h1,h2⟩:=nW.2 i x hx;rw[hx,h1,h2];rfl
   ·rw[fV (by rw[nW.1];lia),fV (by lia)];rfl
  rw[e];exact q h' tk (λb o x=>hk b o (bM (aU x)) (aE _ x)) (eV (aU hS))
 unfold collect;refine ae (wpAny_runValue (codeAny_builtin PyProof.Rows.entry_proto_collect' ?_));rw[bQ.under_plainId PySem.F.plain_proto_collect _];show aX _ A.in1 (newList [] >>= λl=>again (.builtin "list.__iadd__" ⟨[l,.ref d],[]⟩)) _ _ sh;refine ae (iP (aC ⟨lu rX _,codeAny_builtin PyProof.Rows.entry_list_iadd' ?_⟩));rw[bQ.under_plainId rX _];show aX _ A.in1 (cM (.ref sh.heap.objs.size) (.ref d) (.ref sh.heap.objs.size)) _ _ _;refine d_ (W.kdl_extend (A:=A) (s:={sh with heap:=sh.heap.push {cls:=.type "list",data:=.seq ([]:List aj).toArray}})
  (R:=λ(g:Result) (s':au)=>∃(h':cR) (tk:Nat) (acc:Array aj) (c:Nat),g=.ok (.ret (.ref sh.heap.objs.size))/\s'={sh with heap:=h',toks:=tk}/\
   h'.get? sh.heap.objs.size=xn {cls:=.type "list",dict:=xI,data:=.seq acc c,slots:=#[]}/\Q acc.toList {sh with heap:=h',toks:=tk})
  (b6x (ep:=ep) h0) hh (hm.at λo e=>aE _ e) sh.heap.objs.size (jy hd) (jy hd) (.ref sh.heap.objs.size) 0 (be _ rfl)
  (λh' tk acc c hk hS nW=>⟨h',tk,acc,c,rfl,rfl,hS,fin h' tk acc c hk hS nW⟩) hz) (λg s' x=>?_) λe s' x=>?_
 ·cases g with
  |done f=>
   obtain⟨h',tk,acc,c,e,rfl,hS,qq⟩:=x;cases e
   show aX _ A (load sh.heap.objs.size >>= _) _ _ _;exact ae (wpAny_load hS (aC qq))
  |again c₁=>
   refine⟨x.1,gQ x.2 λg s₂ y=>?_⟩;obtain⟨h',tk,acc,c,rfl,rfl,hS,qq⟩:=y;show aX _ A (load sh.heap.objs.size >>= _) _ _ _;exact ae (wpAny_load hS (aC qq))
 ·obtain⟨_,_,_,_,e',_⟩:=x;cases e'
end
end VS
namespace VS
open PySem PySem.Spec L2
open PyProof.Rows (KeyOrd SortKind keyKind' keyLt' tuples' oneType' IntsAre oneLt')
open PySem.W (KatLex KatTups BoolBack)
def G5:List Int->List Int->Bool
 |[],[]=>false
 |[],_::_=>true
 |_::_,[]=>false
 |a::x,b::y=>if a=b then G5 x y else decide (a<b)
theorem a0Z:∀a,G5 a a=false
 |[]=>rfl
 |a::x=>by rw[G5,aB rfl];exact a0Z x
theorem S7:∀a b,G5 a b=false->G5 b a=false->a=b
 |[],[],_,_=>rfl
 |[],_::_,h,_=>by cases h
 |_::_,[],_,h=>by cases h
 |a::x,b::y,h1,h2=>by
  rw[G5]at h1 h2;by_cases c:a=b
  ·subst c;rw[aB rfl]at h1 h2;rw[S7 x y h1 h2]
  ·rw[aJ c]at h1;rw[aJ (λz=>c z.symm)]at h2;have:=jC h1;have:=jC h2;lia
theorem S8:∀a b c,G5 a b=true->G5 b c=true->G5 a c=true
 |[],[],_,h,_=>by cases h
 |[],_::_,[],_,h=>by cases h
 |[],_::_,_::_,_,_=>rfl
 |_::_,[],_,h,_=>by cases h
 |_::_,_::_,[],_,h=>by cases h
 |a::x,b::y,c::z,h1,h2=>by
  rw[G5]at h1 h2 ⊢;by_cases e1:a=b
  ·subst e1;rw[aB rfl]at h1;by_cases e2:a=c
   ·rw[aB e2]at h2 ⊢;exact S8 x y z h1 h2
   ·rw[aJ e2]at h2 ⊢;exact h2
  ·rw[aJ e1]at h1;have q1:=bx h1;by_cases e2:b=c
   ·subst e2;rw[aJ e1];exact h1
   ·rw[aJ e2]at h2;have q2:=bx h2;rw[aJ (by lia)];exact aQ (by lia)
def b1H(h:G5 a b=true):G5 b a=false:=by
 cases c:G5 b a with
 |false=>rfl
 |true=>rw[<-a0Z a,S8 _ _ _ h c]
def b3U(a b c:List Int)(h:G5 a c=true):G5 a b=true∨G5 b c=true:=by
 cases h1:G5 a b with
 |true=>exact .inl rfl
 |false=>
  refine .inr ?_;cases h2:G5 b a with
  |true=>exact S8 _ _ _ h2 h
  |false=>rw[<-S7 a b h1 h2];exact h
def OI:KeyOrd:=⟨List Int,G5,a0Z,S8,b3U,S7⟩
end VS
namespace VS
open PySem PySem.Spec L2
open PyProof.Rows (IntsAre seqObj)
def b1I(n:List Int):List (List Int)->List (List Int)
 |[]=>[n]
 |m::ms=>if G5 m n then m::b1I n ms else n::m::ms
def a8B:List (List Int)->List (List Int)
 |[]=>[]
 |n::ns=>b1I n (a8B ns)
def leL(a b:List Int):Prop:=G5 b a=false
def b1J(h1:leL a b)(h2:leL b c):leL a c:=PyProof.Rows.KeyOrd.kle_trans (O:=OI) h1 h2
theorem a1I(n:List Int):∀ms,(b1I n ms).Perm (n::ms)
 |[]=>jO _
 |m::ms=>by
  unfold b1I;by_cases c:G5 m n=true
  ·rw[aB c];exact ((a1I n ms).cons m).trans (List.Perm.swap n m ms)
  ·rw[aJ c]
theorem a1J:∀ns,(a8B ns).Perm ns
 |[]=>jO _
 |n::ns=>(a1I n (a8B ns)).trans ((a1J ns).cons n)
theorem a2n(n:List Int):∀ms:List (List Int),ms.Pairwise leL->(b1I n ms).Pairwise leL
 |[],_=>dD ..
 |m::ms,h=>by
  unfold b1I;obtain⟨h1,h2⟩:=gW.mp h;by_cases c:G5 m n=true
  ·rw[aB c];refine gW.mpr ⟨λx hx=>?_,a2n n ms h2⟩;rcases aH.mp ((a1I n ms).mem_iff.mp hx) with z|z
   ·rw[z];exact b1H c
   ·exact h1 x z
  ·rw[aJ c];have As:leL n m:=by simpa[leL]using c
   refine gW.mpr ⟨λx hx=>?_,h⟩;rcases aH.mp hx with z|z
   ·rw[z];exact As
   ·exact b1J As (h1 x z)
theorem a2o:∀ns:List (List Int),(a8B ns).Pairwise leL
 |[]=>kc
 |n::ns=>a2n n _ (a2o ns)
def b1K{a b:List (List Int)}(hp:a.Perm b)(ha:a.Pairwise leL):a=a8B b:=
 List.Perm.eq_of_pairwise (λx y _ _ h1 h2=>S7 _ _ h2 h1) ha (a2o b) (hp.trans (a1J b).symm)
def kD(kt:Bool)(ns:List Int):D:=if kt then .tuple (ns.map .int) else .int (ns.headD 0)
def b9E(kt:Bool):D->Option (List Int)
 |.int n=>if kt then xI else xn [n]
 |.tuple ds=>if kt then intsOf ds else xI
 |_=>xI
def a9Q(kt:Bool):List D->Option (List (List Int))
 |[]=>xn []
 |d::ds=>(b9E kt d).bind λns=>(a9Q kt ds).bind λr=>xn (ns::r)
def b1L(h:b9E kt d=xn ns):d=kD kt ns/\(kt=false->ns.length=1):=by
 cases d with
 |int n=>
  cases kt with
  |true=>cases h
  |false=>cases h;exact⟨rfl,λ_=>rfl⟩
 |tuple ds=>
  cases kt with
  |false=>cases h
  |true=>
   have h':intsOf ds=xn ns:=h;cases J7 h'
   exact⟨rfl,λz=>by cases z⟩
 |_=>cases h
theorem a3C:∀{ds:List D} {nss:List (List Int)},a9Q kt ds=xn nss->ds=nss.map (kD kt)/\(kt=false->∀ns∈nss,ns.length=1)
 |[],nss,h=>by cases h;exact⟨rfl,λ_ _ z=>(nomatch z)⟩
 |d::ds,nss,h=>by
  obtain⟨ns,h1,h⟩:=bnd (show (b9E kt d).bind _=xn nss from h);obtain⟨r,h2,h3⟩:=bnd h;cases h3
  obtain⟨e1,e2⟩:=b1L h1;obtain⟨e3,e4⟩:=a3C h2;refine⟨by rw[ax,<-e1,<-e3],λz x hx=>?_⟩;rcases aH.mp hx with y|y
  ·rw[y];exact e2 z
  ·exact e4 z x y
section
variable {X:Cx}{pins:List (aw×fY)}{σ:L2.St}{H:Hp}{s:au}
def b6C{key:Nat->List Int}{p:Array Nat}(hp:AllN N p)(hu:b1E (O:=OI) key p N):(p.toList.map key).Pairwise leL:=by
 rw[qD];intro i j hi hj gC;rw[ai,aP,hp.size]at hi hj;have z:=hu i j (eV gC) hj;have e:∀k (hk:k<N),kyP (O:=OI) key p k=(p.toList.map key)[k]'(by rw[ai,aP,hp.size];exact hk):=λk hk=>by
  have sP:k<p.size:=by rw[hp.size];exact hk
  simp only[kyP,de,bU]
  congr 1;simp[zM,sP]
 rw[e i hi,e j hj]at z;exact z
def a4s:∀{l:List α} {p:List Nat},p.Perm (aA l.length)->(p.map λi=>l.getD i d).Perm l:=by
 intro l p h;refine (h.map _).trans (List.Perm.of_eq ?_);refine j_ λi=>?_
 rw[aR];by_cases c:i<l.length
 ·rw[eR c,oX,ab c,ag,ab c];rfl
 ·rw[lA (by simpa using c),lA (by simpa using c)];rfl
end
section
variable {X:Cx}{M:List Md}{a:Expr}{fa:EvE}{ca:Cat}{pos p:fM}
def b9F:D->Option (List D)
 |.dict kvs=>xn (kvs.map (·.1))
 |_=>xI
theorem a2p:∀{kvs:List (D×D)} {es:List (D×V×V)},DenKV K H es kvs->DenAll K H (es.map (·.2.1)) (kvs.map (·.1))
 |[],es,h=>by
  simp only[DenKV]at h;subst h;exact denAll_nil
 | (k,d)::r,es,h=>by
  simp only[DenKV]at h;obtain⟨e,q,rfl,h2,h3,h4,h5⟩:=h;exact denAll_cons h3 (a2p h5)
end
end VS
namespace VS
open PySem PySem.Spec L2
section
variable {K:af}{H:Hp}{F:List aw}{kt:Bool}{u:Ty}
def b3V(vT:a∈F)(o:HO):Same (cut H F) (cut (upd H a o) F):=λb o' hb=>by
 obtain⟨n1,n2⟩:=m4 hb;exact g9 n1 (by rw[c7 (show b≠a from λz=>n1 (z▸vT))];exact n2)
end
def b9G:∀{us:List α},us.length=1->∃a,us=[a]
 |[a],_=>⟨a,rfl⟩
def b9H:∀{us:List α},us.length=2->∃a b,us=[a,b]
 |[a,b],_=>⟨a,b,rfl⟩
def c1t:∀{us:List α},us.length=3->∃a b c,us=[a,b,c]
 |[a,b,c],_=>⟨a,b,c,rfl⟩
def c2I:∀{us:List α},us.length=4->∃a b c d,us=[a,b,c,d]
 |[a,b,c,d],_=>⟨a,b,c,d,rfl⟩
def c2J:∀{us:List α},us.length=5->∃a b c d e,us=[a,b,c,d,e]
 |[a,b,c,d,e],_=>⟨a,b,c,d,e,rfl⟩
def c2K:∀{us:List α},us.length=6->∃a b c d e f,us=[a,b,c,d,e,f]
 |[a,b,c,d,e,f],_=>⟨a,b,c,d,e,f,rfl⟩
section
variable {X:Cx}{pins:List (aw×fY)}{σ:L2.St}{H:Hp}{s:au}{A:bQ}{E:aj->au->Prop}{a:aw}{es:List (D×V×V)}{kt:Bool}{k:D}{kv v:V}{key val:aj}
def b6D(hu:A.units+12<dF)(I:Inv X pins σ H s)(h:H a=xn (g6 a es))(K:KeysAt X H kt es k kv)(rk:RelV kv key)
  (jn:x5 es k=false->∀s',Inv X pins σ H s'->Q val s') (jk:∀e∈es,e.1=k->∀x s',Inv X pins σ H s'->RelV e.2.2 x->Q x s'):aX (aY X.prog X.w) A (call (.builtin "dict.get") [.ref a,key,val]) Q E s:=by
 have hT:=o6 I h;obtain⟨hd,_⟩:=v5 I h;refine dN F.slot_dict_get hT F.entry_dict_get ?_ (F.args_dict_get_3 _ _ _);show aX _ _ (uw a key >>= _) _ _ s;refine ae (get_dict (A:=A.in1) I (by show A.units+1+10<dF;lia) h K rk (λhf s' I'=>?_) λe he fS x s' I' r=>?_)
 ·show aX _ _ (Builtin.Dict.missed a key >>= _) _ _ _;exact ae (wpAny_missed_other hd (aC ⟨_,rfl,jn hf s' I'⟩))
 ·exact aC ⟨x,rfl,jk e he fS x s' I' r⟩
end
section
variable {X:Cx}{M:List Md}{a b z:Expr}{fa fb fz:EvE}{cb cz:Cat}{kt:Bool}{u:Ty}{pos apos cF:fM}
def c1u(X:Cx):V->List V->Hp->VK->Prop:=λx xs H Q=>∃p es kt k y z,x=.ref p/\xs=[y,z]/\H p=xn (g6 p es)/\KeysAt X H kt es k y/\(x5 es k=false->Q z H)/\((es.map (·.1)).Nodup->∀e∈es,e.1=k->Q e.2.2 H)
def b6E(hu:X.A.units+64<dF):MtR X "dict.get" (c1u X):=by
 intro pins s σ H x xs v us Q I rx rv h;obtain⟨p,es,kt,k,y,z,rfl,rfl,hH,K,q1,q2⟩:=h;cases (show v=bH p from rx)
 obtain⟨w1,w2,rfl,r1,r2⟩:=vals2 rv;have hn:=(v5 I hH).2.2.1;exact b6D (by lia) I hH K r1 (λhf s' I'=>⟨z,H,I',r2,q1 hf⟩) λe he fS x s' I' r'=>⟨e.2.2,H,I',r',q2 hn e he fS⟩
noncomputable def a9R(kt:Bool)(fa fb fz:EvE):EvE:=λZ=>(fa Z).bind λd=>(fb Z).bind λk=>(fz Z).bind λz=>match d with
 |.dict kvs=>if o8 kt k&&keysOk kt kvs then xn ((p9 kvs k).getD z) else xI
 |_=>xI
def b6F(hu:X.A.units+64<dF)(ha:PX X M a fa (.new .f))(hb:PX X M b fb cb)(hz:PX X M z fz cz)(fm:dM a "get" X.env (cK a X.env)=cK a X.env:=by rfl)
  (ic:((cB cF (ar [b,z] X.env)).all (λx=>!x.1)&&(eK cF (dh [] X.env)).all (λx=>x.1.isSome)
   && decide (([b,z]:List Expr).length+([]:List eB).length+(if ([]:List eB).isEmpty then 0 else 1)<30))=true:=by rfl)
  (fg:(apos.endLine==cF.line)=true:=by rfl) (hs:ar [b,z] X.env=(false,cK b X.env)::ar [z] X.env:=by rfl) (mO:ar [z] X.env=(false,cK z X.env)::ar [] X.env:=by rfl) (dZ:(cB cF (ar [z] X.env)).any (·.1)=false:=by rfl) :
  PX X M (.Call (.Attribute a "get" apos) [b,z] [] cF) (a9R kt fa fb fz) .tmp:=by
 obtain⟨ta,pa,qa⟩:=ha.out;obtain⟨tb,pb,qb⟩:=hb.out;obtain⟨tz,pz,qz⟩:=hz.out;refine .mk ⟨_,a5N lz ly (b6E hu) pa (k8 pb (k8 pz p5 mO) hs) fm ic fg hs dZ,λZ σ H P F d Q S hf q=>?_⟩;obtain⟨x,h1,g1⟩:=bnd hf;obtain⟨y,h2,g2⟩:=bnd g1;obtain⟨zd,h3,g3⟩:=bnd g2;cases x with
 |dict kvs=>
  have qX:(if (o8 kt y&&keysOk kt kvs)=true then xn ((p9 kvs y).getD zd) else xI)=xn d:=g3;by_cases hk:(o8 kt y&&keysOk kt kvs)=true
  ·rw[aB hk]at qX;cases qX
   rw[aD]at hk;refine qa Z σ H P F _ _ S h1 λv H1 e1 ⟨fp,o,nd,fr⟩=>?_
   simp only[Own]at o;obtain⟨rfl,o⟩:=o;obtain⟨p,es,rfl,hH,dk⟩:=o.dict_inv;refine⟨⟨p,es,rfl,j5 _ _ hH⟩,qb Z σ H1 P F y _ (S.grow e1) h2 λw H2 e2 r2=>qz Z σ H2 P F zd _ (S.grow (e1.trans e2)) h3 λzv H3 e3 r3=>?_⟩;have Bf:DenKV X.K H3 es kvs:=DenKV.mono (j5.trans (e2.trans e3)) kvs dk;have KK:=c1s Bf hk.2 hk.1 (r2.den.up e3);refine⟨p,es,kt,y,w,zv,rfl,rfl,(e2.trans e3) _ _ (j5 _ _ hH),KK,λhf=>?_,λhn e he fS=>?_⟩
   ·have:p9 kvs y=xI:=P5 (by rw[b1D dk.keys];exact hf);rw[this]at q;exact q zv H3 ((e1.trans e2).trans e3) r3.den
   ·obtain⟨d',g',dd⟩:=b9D hn (λe he=>KK.eqv he) Bf he fS;rw[g']at q;exact q _ H3 ((e1.trans e2).trans e3) dd
  ·rw[aJ hk]at qX;cases qX
 |_=>cases g3
end
end VS
namespace VS
open PySem PySem.Spec L2
open PyProof.Rows (KeyOrd SortKind SortSt keyKind' keyLt' seqObj listItems_at listUpdate_at seqEpoch_at arrOf failedOf get?_update_seq general' size_push' ksk_end ksk_tail)
open PySem.W (kas_sort kas_ask kas_item kat_run kat_snds)
section
variable {prog:bw}{w:b_}{A:bQ}{E:aj->au->Prop}{sh:au}{vs ks:List aj}{κ:eS}{O:KeyOrd}{key:Nat->O.α}{R:cR->Prop}
structure SortableR (prog:bw) (w:b_) (A:bQ) (R:cR->Prop) (ks:List aj) (κ:eS) (O:KeyOrd) (key:Nat->O.α):Prop where
 kind:2<=ks.length->∀(s:au) (E:aj->au->Prop) (Q:eS->au->Prop),R s.heap->Q κ s->aX (aY prog w) A (keyKind' ks.toArray) Q E s
 lt:∀(s:au) (i j:Nat) (C:Bool->au->Prop),R s.heap->i<ks.length->j<ks.length->C (O.blt (key i) (key j)) s->aX (aY prog w) A (keyLt' κ (ks.getD i bt) (ks.getD j bt)) C (λ_ _=>False) s
 cong:∀h,R h->∀i j,i<ks.length->j<ks.length->ks.getD i bt=ks.getD j bt->key i=key j
def a2q{a kS:aw}{e e1:Nat}{P:EJ->au->Prop}{st:df}{out:List aj}(yt:out.length<=a_)(k_:ks.length<=a_)(yZ:(aZ st).map (·.2)=out.toArray)(hf:fI st=xI)(ho:sh.heap.get? a=xn (iu "list" #[] e1))(hk:sh.heap.get? kS=xn (iu "list" ks.toArray e))(gM:kS≠a)
  (q:P (.done (.ret .none)) {sh with heap:=(sh.heap.update kS (cw λ_=>(#[]:Array aj))).update a (cw λ_=>out.toArray)}) :
  aX (aY prog w) A (ksk_tail a false e1 (.ref kS) st) P E sh:=by
 have s1:=fx sh.heap kS (cw λ_=>(#[]:Array aj));have z_:(sh.heap.update kS (cw λ_=>(#[]:Array aj))).get? a=xn (iu "list" #[] e1):=(s1.2 a gM.symm).trans ho;unfold ksk_tail
 try dsimp only
 rw[yZ];refine ae (so hk rfl ?_ (by rw[bp];exact k_) (cE _));refine ae (rA ?_);refine ae (seqEpoch_at z_ rfl ?_);simp only[bu,dr];refine ae (so z_ rfl ?_ (cE _) (by rw[bp];exact nD yt));rw[hf];simp only[bne_self_eq_false,bu,dr];exact aC q
def a8C{a kS:aw}{e e1:Nat}{P:EJ->au->Prop}(hl:ks.length=vs.length)(S:SortableR prog w A R ks κ O key)(hR:R sh.heap)(ho:sh.heap.get? a=xn (iu "list" #[] e1))(hk:sh.heap.get? kS=xn (iu "list" ks.toArray e))(gM:kS≠a)(qT:vs.length<65536)
  (q:∀p:Array Nat,AllN vs.length p->b1E key p vs.length->P (.done (.ret .none)) {sh with heap:=(sh.heap.update kS (cw λ_=>(#[]:Array aj))).update a (cw λ_=>(p.toList.map λi=>vs.getD i bt).toArray)}) :
  aX (aY prog w) A (ksk_end a false vs.toArray e1 (.ref kS) ks.toArray) P E sh:=by
 have k_:ks.length<=a_:=by rw[dg];lia
 have yt:∀p:Array Nat,AllN vs.length p->(p.toList.map λi=>vs.getD i bt).length<=a_:=λp hp=>by rw[ai,hp.length_eq,bz,dg];lia
 unfold ksk_end
 try dsimp only
 simp only[bu,dr];by_cases h2:vs.toArray.size<2
 ·rw[aB h2,aB h2];refine ae (aC ?_);rw[StateT.run_pure];refine ae (aC ?_);have oQ:vs.length<2:=by simpa using h2
  have e0:(List.toArray (aA vs.length)).toList.map (λi=>vs.getD i bt)=vs:=by
   match vs,oQ with
   |[],_=>rfl
   |[v],_=>rfl
   |_::_::_,h=>simp at h;lia
  have ez:(aZ (df.mk' general' (ks.toArray.zip vs.toArray) #[] 7 xI)).map (·.2)=vs.toArray:=by
   show (ks.toArray.zip vs.toArray).map (·.2)=vs.toArray;simp[List.map_snd_zip,hl]
  dsimp only
  have q0:=q (List.toArray (aA vs.length)) (jO _) λi j a b=>by
   obtain rfl:i=j:=by lia
   exact eD _
  rw[e0]at q0;exact a2q (out:=vs) (by rw[dg];lia) k_ ez rfl ho hk gM q0
 ·rw[aJ h2,aJ h2];have Fp:¬ vs.length<2:=by simpa using h2
  have oQ:2<=vs.length:=by lia
  refine ae (S.kind (by lia) sh _ _ hR ?_);refine ae (d_ (b6B (key:=key) hl (λi j C hi hj hC=>S.lt sh i j C hR (by lia) (by lia) hC) (S.cong _ hR)) ?_ λ_ _ e=>e);rintro⟨⟨⟩,cO⟩ s' ⟨rfl,p,yZ,hf,hp,hu⟩
  dsimp only
  exact a2q (yt p hp) k_ (kat_snds hl yZ) hf ho hk gM (q p hp hu)
end
end VS
namespace VS
open PySem PySem.Spec L2
open PyProof.Rows (seqObj listItems_at listUpdate_at seqEpoch_at ksk_end ksk_rest ksk_fold)
section
variable {X:Cx}{pins:List (aw×fY)}{σ:L2.St}{k:Nat}{f:aw}{fd:dR}{ps:List bE}{sp:Sp}
def b6G(F:FnOk X.prog X.w X.K X.mg X.base CX0 k f fd ps sp)(hr:Room k X.A.in1.in1)(hb:Binds X.K fd ps [])(I:Inv X pins σ H s)(r:Vals vs us)(h:sp vs H Q E0) :
  aX (aY X.prog X.w) X.A.in1.in1 (call (.ref f) us) (EP X pins σ Q) (λ_ _=>False) s:=by
 have hl:us.length=ps.length:=by rw[<-r.length];exact F.len _ _ _ _ h
 have wY:=hb s us I.kIn (by rw[bg];exact hl);rw[bg]at wY;refine uD (gQ (F.run X.A.in1.in1 X.stack s H ⟨us,[]⟩ us vs Q E0 hr I.env0.in1.in1 wY r h) λr s' hq=>?_);cases r with
 |error e=>exact hq
 |ok fl=>
  cases fl with
  |ret u=>exact I.after hq
  |next=>exact cJ hq
  |brk=>exact cJ hq
  |cont=>exact cJ hq
def SameX(a:aw)(H H':Hp):Prop:=∀b o,b≠a->H b=xn o->H' b=xn o
def SameX.refl(a:aw)(H:Hp):SameX a H H:=λ_ _ _ h=>h
theorem SameX.cut(h:SameX a H H'):Same (cut H [a]) (cut H' [a]):=λb o hb=>by
 obtain⟨n1,n2⟩:=m4 hb;exact g9 n1 (h b o (λz=>n1 (by rw[z];exact ao.mpr rfl)) n2)
def b6H{a kS:aw}{e1:Nat}{xs:List V}{us:List aj}{kd:Nat->D}{P:EJ->au->Prop}{E:aj->au->Prop}{s:au}{H:Hp}(I:Inv X pins σ H s)(rv:Vals xs us)(hk:H kS=xn (.lst []))(qT:us.length<65536)
  (turn:∀(i:Nat) (x:V) (u:aj),xs[i]?=xn x->us[i]?=xn u->∀(s':au) (H':Hp),Inv X pins σ H' s'->SameX kS H H'->(∃kvs,H' kS=xn (.lst kvs))->aX (aY X.prog X.w) X.A.in1.in1 (call (.ref f) [u]) (EP X pins σ λv H2=>Same H' H2/\Den X.K (cut H2 [kS]) v (kd i)) (λ_ _=>False) s')
  (fin:∀(s':au) (H':Hp) (kvs:List V) (ks:List aj) (n:Nat),Inv X pins σ H' s'->SameX kS H H'->H' kS=xn (.lst kvs)->Vals kvs ks->kvs.length=us.length->(∀i v,kvs[i]?=xn v->Den X.K (cut H' [kS]) v (kd i))->s'.heap.get? kS=xn (iu "list" ks.toArray n)->
   aX (aY X.prog X.w) X.A.in1.in1 (ksk_end a false us.toArray e1 (.ref kS) ks.toArray) P E s') :
  aX (aY X.prog X.w) X.A.in1.in1 (ksk_rest a (.ref f) false us.toArray e1 (.ref kS)) P E s:=by
 unfold ksk_rest;refine ae (iw ?_)
 first
  |rw[List.forIn_toArray]
  | (rw[<-jP];simp only[xq])
  |rw[<-jP]
 refine ae (ksk_fold (λj s'=>∃(Hj:Hp) (kvs:List V),Inv X pins σ Hj s'/\SameX kS H Hj/\Hj kS=xn (.lst kvs)/\kvs.length=j/\∀i v,kvs[i]?=xn v->Den X.K (cut Hj [kS]) v (kd i)) us 0 s
  ⟨H,[],I,SameX.refl _ _,hk,rfl,λi v h=>by simp at h⟩ ?step ?done)
 case step=>
  rintro j u s' hu ⟨Hj,kvs,I',sx,k_,hlen,kJ⟩;simp only[ig]at hlen ⊢;have hj:j<us.length:=(aL.mp hu).1;obtain⟨x,hx⟩:∃x,xs[j]?=xn x:=⟨_,ab (by rw[rv.length];exact hj)⟩;refine ae (oh (d_ (turn j x u hx hu s' Hj I' sx ⟨kvs,k_⟩) (λkv uF he=>?_) λ_ _ hF=>hF.elim));obtain⟨v,H2,I2,r2,same,den⟩:=he
  try dsimp only
  have sO:H2 kS=xn (.lst kvs):=same _ _ k_;obtain⟨z,its,n,r,hl,e⟩:=I2.lstM sO;refine ae (so e rfl ?_ (by rw[bp,dg];lia) (cC (Nat.le_of_eq (Array.size_push ..)) (by rw[bp,dg];lia)));have I3:=I2.lset (t':=uF.toks) (f:=(·.push kv)) (its':=its++[kv]) (ys:=kvs++[v]) sO e (by simp) (r.append (.cons r2 .nil)) (by rw[az,bW,dg];lia);have c2:Same (cut H2 [kS]) (cut (upd H2 kS (.lst (kvs++[v]))) [kS]):=b3V (ao.mpr rfl) _;refine aC ⟨rfl,upd H2 kS (.lst (kvs++[v])),kvs++[v],I3,λb o hb ho=>?_,g8,by rw[az,hlen];rfl,λi w hw=>?_⟩
  ·rw[c7 hb];exact same _ _ (sx b o hb ho)
  ·rcases cI i kvs.length with c|c
   ·rw[dI c]at hw;exact (kJ i w hw).up (((SameX.cut λb o _ h=>same _ _ h)).trans c2)
   ·rw[cQ c]at hw;have mB:i-kvs.length=0:=by
     have:=(aL.mp hw).1;simp at this;lia
    rw[mB]at hw;have e9:v=w:=by simpa using hw
    have e8:i=j:=by lia
    subst e9;subst e8;exact den.up c2
 case done=>
  rintro s' ⟨Hj,kvs,I',sx,k_,hlen,kJ⟩;rw[ig]at hlen;obtain⟨z,its,n,r,hl,e⟩:=I'.lstM k_
  try dsimp only
  refine ae (listItems_at e rfl ?_);exact fin s' Hj kvs its n I' sx k_ r hlen kJ e
end
end VS
namespace VS
open PySem PySem.Spec L2
section
variable {X:Cx}{pins:List (aw×fY)}{σ:L2.St}{H:Hp}{s:au}{a:aw}{o:HO}
def b1M(I:Inv X pins σ H s)(hn:H a=xI)(ha:X.s₀.heap.objs.size<=a)(vS:a≠X.env.locals)(lU:∀x c,X.env.cells.lookup x=xn c->c≠a)(qR:∀p∈X.pn++pins,p.1≠a)(new:ObjOk X.prog X.w (upd H a o) s.heap a o):Inv X pins σ (upd H a o) s where
 ok:=I.ok
 os:=I.os
 bare:=I.bare
 base:=⟨I.base.keep,I.base.slot,λb u q n hx=>by rw[c7 (bM (bo (aU q) ha))];exact I.base.free b u q n hx,I.base.there,
  λb xs q=>by rw[c7 (i7 (I.base.tups b xs q) hn)];exact I.base.tups b xs q,
  λb u xs q=>by rw[c7 (i7 (I.base.frzs b u xs q) hn)];exact I.base.frzs b u xs q,
  λb ps q=>by
   obtain⟨more,e⟩:=I.base.tbls b ps q;exact⟨more,by rw[c7 (i7 e hn)];exact e⟩⟩
 loc:=I.loc
 cell:=I.cell
 free:=by rw[c7 (cY vS)];exact I.free
 freeC:=λx c e=>by rw[c7 (lU x c e)];exact I.freeC x c e
 pin:=λp hp=>⟨(I.pin p hp).1,by rw[c7 (qR p hp)];exact (I.pin p hp).2.1,(I.pin p hp).2.2⟩
 hok:=λb u e=>by
  by_cases hb:b=a
  ·subst hb;rw[g8]at e;cases e;exact new
  ·rw[c7 hb]at e;exact (I.hok b u e).stay (λc v _ q=>q) (λc q=>by rw[c7 (i7 q hn)];exact q) λc xs q=>by rw[c7 (i7 q hn)];exact q
 len:=I.len
end
end VS
namespace VS
open PySem PySem.Spec L2
open PyProof.Rows (KeyOrd SortKind seqObj listItems_at listUpdate_at seqEpoch_at ksk_tree ksk_rest ksk_end ksk_t1 ksk_s1 ksk_l1 kind_sorted plain_sorted entry_sorted slot_list_sort entry_list_sort call_function_entry_kw wpAny_call_entry_kw size_push' get?_update_seq)
section
variable {X:Cx}{pins:List (aw×fY)}{σ:L2.St}{f:aw}{O:KeyOrd}{key:Nat->O.α}{κ:eS}{H:Hp}{s:au}
def a8D{us:List aj}{xs:List V}{kd:Nat->D}(I:Inv X pins σ H s)(hg:Gives X.prog X.w X.A.in1 s r us)(rv:Vals xs us)(qT:us.length<65536)
  (turn:∀(kW:List (aw×fY)) (kS:aw) (i:Nat) (x:V) (u:aj),xs[i]?=xn x->us[i]?=xn u->∀(s':au) (H':Hp),Inv X kW σ H' s'->Same H H'->H kS=xI->(∃kvs,H' kS=xn (.lst kvs))->aX (aY X.prog X.w) X.A.in1.in1 (call (.ref f) [u]) (EP X kW σ λv H2=>Same H' H2/\Den X.K (cut H2 [kS]) v (kd i)) (λ_ _=>False) s')
  (srt:∀(kW:List (aw×fY)) (kS:aw) (s':au) (H':Hp) (kvs:List V) (ks:List aj),Inv X kW σ H' s'->Vals kvs ks->kvs.length=us.length->(∀i v,kvs[i]?=xn v->Den X.K (cut H' [kS]) v (kd i))->H' kS=xn (.lst kvs)->∃R:cR->Prop,SortableR X.prog X.w X.A.in1.in1 R ks κ O key/\R s'.heap)
  (fin:∀(p:Array Nat) (z:aw) (H':Hp),AllN us.length p->b1E key p us.length->Same H H'->H z=xI->H' z=xI->Q (.ref z) (upd H' z (.lst (p.toList.map λi=>xs.getD i .non)))) :
  aX (aY X.prog X.w) X.A (call (.builtin "sorted") [r] [(cG "key",.ref f)]) (EP X pins σ Q) X.xe s:=by
 have ow:xs.length=us.length:=rv.length;have tU:us.length<=a_:=by rw[dg];lia
 refine call_function_entry_kw kind_sorted plain_sorted entry_sorted (ksk_s1 _ _) ?_;unfold Builtin.«sorted»;refine ae (m:=checkCount "sorted" 1 1 _) (aC ?_);refine ae (hg _ _ λh1 tk k1 z1=>?_);refine ae (wpAny_newList ?_ tU);have oL:(h1.push (iu "list" us.toArray 0)).get? h1.objs.size=xn (iu "list" us.toArray 0):=be _ rfl;refine ae (dC (wpAny_call_entry_kw slot_list_sort ⟨_,oL,rfl⟩ entry_list_sort ?body (ksk_l1 _ _)))
 case body=>
  show aX (aY X.prog X.w) X.A.in1.in1 (Builtin.«list.sort» ⟨[.ref h1.objs.size],[(cG "key",.ref f)]⟩) _ _ _;rw[ksk_t1];unfold ksk_tree;obtain⟨a,ea⟩:∃a,a=h1.objs.size:=⟨_,rfl⟩;rw[<-ea]at oL ⊢;have su:s.heap.objs.size<=a:=by rw[ea];exact z1
  obtain⟨c1,o1⟩:∃c1,((h1.push (iu "list" us.toArray 0)).update a (cw λ_=>(#[]:Array aj))).get? a=xn (iu "list" #[] c1):=⟨_,get?_update_seq oL λ_=>#[]⟩;refine ae (listItems_at oL rfl (ae (so oL rfl ?_ (by rw[bp];exact tU) (cE _))));refine ae (seqEpoch_at o1 rfl (ae (wpAny_newTuple ?_ tU)));refine ae (wpAny_newList ?_ (cE _));refine dC ?_;obtain⟨ju,zw⟩:∃ju:cR,ju=((h1.push (iu "list" us.toArray 0)).update a (cw λ_=>(#[]:Array aj))).push (iu "tuple" us.toArray 0):=⟨_,rfl⟩;have BY:∀b u,s.heap.get? b=xn u->ju.get? b=xn u:=λb u hb=>by
   rw[zw];exact (((show Kept s.heap h1 from k1).push _).upd _ su).push _ b u hb
  have o2:ju.get? a=xn (iu "list" #[] c1):=by rw[zw];exact aE _ o1
  have vY:H a=xI:=I.hok.fresh su;have vS:a≠X.env.locals:=jy (bo I.lt su);have I2:Inv X pins σ H {s with heap:=ju,toks:=tk}:=I.kept BY;have ES:Inv X ((a,iu "list" #[] c1)::pins) σ H {s with heap:=ju,toks:=tk}:=I2.pins_of λp hp=>by
   rcases aH.mp hp with rfl|hp
   ·exact⟨o2,vY,vS,I.nofs su,λv=>by intro z;cases z⟩
   ·exact I2.pin p (ah _ hp)
  have I3:=ES.lnew (t':=tk) (its:=[]) (ys:=[]) .nil (cE _);have vt:H ju.objs.size=xI:=I2.fresh;show aX (aY X.prog X.w) X.A.in1.in1 (ksk_rest a (.ref f) false us.toArray c1 (.ref (cR.objs (cR.push ((h1.push (iu "list" us.toArray 0)).update a (cw λ_=>(#[]:Array aj))) (iu "tuple" us.toArray 0))).size)) _ _ _;rw[<-zw];refine b6H (X:=X) (a:=a) (f:=f) (kd:=kd) (kS:=ju.objs.size) (H:=upd H ju.objs.size (.lst [])) I3 rv g8 qT (λi x u hx hu s' H' I' sx hk=>turn _ ju.objs.size i x u hx hu s' H' I' (λb o hb=>sx b o (i7 hb vt) (by rw[c7 (i7 hb vt)];exact hb)) vt hk) λs' H' kvs ks n I' sx k_ rk hlen kJ ek=>?_
  have pa:=I'.pin (a,iu "list" #[] c1) (ah _ aK);have gM:ju.objs.size≠a:=jy (aU o2);obtain⟨R,S,hR⟩:=srt _ ju.objs.size s' H' kvs ks I' rk hlen kJ k_;refine a8C (sh:=s') (by rw[<-rk.length];exact hlen) S hR pa.1 ek gM qT λp hp hu=>⟨_,rfl,?_⟩
  have J1:=I'.lset (t':=s'.toks) (f:=λ_=>(#[]:Array aj)) (its':=[]) (ys:=[]) k_ ek rfl .nil (cE _);have J2:Inv X pins σ (upd H' ju.objs.size (.lst [])) {s' with heap:=s'.heap.update ju.objs.size (cw λ_=>(#[]:Array aj)),toks:=s'.toks}:=J1.pins_of λp hp=>J1.pin p (by rcases aq.mp (ah X.pn hp) with z|z;exact ak _ z;exact ah _ (av _ z))
  have wM:upd H' ju.objs.size (.lst []) a=xI:=by rw[c7 gM.symm];exact pa.2.1
  have Aq:X.s₀.heap.objs.size<=a:=cC I.sz su;have lU:∀x c,X.env.cells.lookup x=xn c->c≠a:=λx c e z=>by
   obtain⟨v,hv⟩:=I.cell x c e;obtain⟨ob,Cw,_⟩:=hv;have this:=aU Cw;rw[z]at this;exact dQ _ (bo this su)
  have qR:∀p∈X.pn++pins,p.1≠a:=λp hp z=>by
   have this:=aU (I.pin p hp).1;rw[z]at this;exact dQ _ (bo this su)
  have oa:(s'.heap.update ju.objs.size (cw λ_=>(#[]:Array aj))).get? a=xn (iu "list" #[] c1):=((fx s'.heap ju.objs.size _).2 a gM.symm).trans pa.1;have J3:=J2.turned (it:=a) (t':=s'.toks) (h':=(s'.heap.update ju.objs.size (cw λ_=>(#[]:Array aj))).update a (cw λ_=>(p.toList.map λi=>us.getD i bt).toArray)) (λb o hb ho=>((fx (s'.heap.update ju.objs.size (cw λ_=>(#[]:Array aj))) a _).2 b hb).trans ho) wM vS (.inr Aq) lU qR;obtain⟨c3,o3⟩:∃c3,((s'.heap.update ju.objs.size (cw λ_=>(#[]:Array aj))).update a (cw λ_=>(p.toList.map λi=>us.getD i bt).toArray)).get? a=xn (iu "list" (p.toList.map λi=>us.getD i bt).toArray c3):=⟨_,get?_update_seq oa λ_=>_⟩;have gE:p.toList.length=us.length:=by rw[hp.length_eq,bz]
  have hv:Vals (p.toList.map λi=>xs.getD i .non) (p.toList.map λi=>us.getD i bt):=by
   refine a2M (by rw[ai,ai]) λi x u g1 g2=>?_
   rw[aR]at g1 g2;obtain⟨j,j1,rfl⟩:=eU.mp g1;rw[j1]at g2;cases g2
   have hj:j<us.length:=bI.mp (hp.mem_iff.mp (br j1));have sQ:xs[j]?=xn (xs.getD j .non):=by rw[ab (by lia),ag,ab (by lia)];rfl
   obtain⟨u,hu,ru⟩:=rv.get sQ;show RelV (xs.getD j .non) (us.getD j bt);rw[ag (l:=us),hu];exact ru
  have J4:=b1M (a:=a) (o:=.lst (p.toList.map λi=>xs.getD i .non)) J3 wM Aq vS lU qR ⟨by rw[ai,gE];exact tU,_,c3,hv,o3⟩;refine aC ⟨.ref a,rfl,.ref a,_,J4,rfl,fin p a _ hp hu (λb o hb=>?_) vY wM⟩;have yY:=i7 hb vt;rw[c7 yY];exact sx b o yY (by rw[c7 yY];exact hb)
end
end VS
namespace VS
open PySem PySem.Spec L2
open PySem.W (KatLex KatTups BoolBack)
open PyProof.Rows (KeyOrd SortKind keyKind' keyLt' tuples')
def kdP(ns:List Int):D:=.tuple [.int ns.length,.tuple (ns.map .int)]
def sqD(l:Bool)(ns:List Int):D:=if l then .list (ns.map .int) else .tuple (ns.map .int)
def kdQ(l:Bool)(ns:List Int):D:=.tuple [.int ns.length,sqD l ns]
def b6I(l:Bool)(ns:List Int):D->Bool
 |.list ds=>l&&decide (intsOf ds=xn ns)
 |.tuple ds=>!l&&decide (intsOf ds=xn ns)
 |_=>false
def b9I(l:Bool)(ns:List Int):Option D->Bool
 |some (.tuple [.int n,d])=>decide (n=ns.length)&&b6I l ns d
 |_=>false
def b1N(h:b6I l ns d=true):d=sqD l ns:=by
 cases d with
 |list ds=>
  have h':(l&&decide (intsOf ds=xn ns))=true:=h;rw[aD]at h';rw[h'.1,J7 (bx h'.2)];rfl
 |tuple ds=>
  have h':(!l&&decide (intsOf ds=xn ns))=true:=h;rw[aD,Bool.not_eq_true']at h';rw[h'.1,J7 (bx h'.2)];rfl
 |_=>cases h
def b1O:∀{o:Option D},b9I l ns o=true->o=xn (kdQ l ns)
 |some (.tuple [.int n,d]),h=>by
  have h':(decide (n=ns.length)&&b6I l ns d)=true:=h;rw[aD]at h';rw[bx h'.1,b1N h'.2];rfl
def b6J(l:Bool)(ns:List Int):b9I l ns (xn (kdQ l ns))=true:=by
 show (decide ((ns.length:Int)=ns.length)&&b6I l ns (sqD l ns))=true;rw[aQ rfl,mE];cases l
 ·show (!false&&decide (intsOf (ns.map .int)=xn ns))=true;rw[a0x,aQ rfl];rfl
 ·show (true&&decide (intsOf (ns.map .int)=xn ns))=true;rw[a0x,aQ rfl];rfl
noncomputable def b1P(l:Bool)(m:List D->Option D)(nss:List (List Int)):Bool:=decide (nss.length<65536)&&nss.all λns=>b9I l ns (m [sqD l ns])
def b1Q(h:b1P l m nss=true):nss.length<65536/\∀ns∈nss,m [sqD l ns]=xn (kdQ l ns):=by
 unfold b1P at h;rw[aD,dH]at h;exact⟨bx h.1,λns hn=>b1O (h.2 ns hn)⟩
def b6K{nss:List (List Int)}(h:nss.length<65536)(hm:∀ns∈nss,m [sqD l ns]=xn (kdQ l ns)):b1P l m nss=true:=by
 unfold b1P;rw[aD,dH];exact⟨aQ h,λns hn=>by rw[hm ns hn];exact b6J l ns⟩
theorem eqI:∀xs ys:List Int,cu (xs.map aO) (ys.map aO)=decide (xs=ys)
 |[],[]=>by simp[cu]
 |[],_::_=>by simp[cu]
 |_::_,[]=>by simp[cu]
 |x::xs,y::ys=>by
  have:aI (.int x) (.int y)=decide (x=y):=by
   show (x==y)=decide (x=y);exact gi x y
  simp only[ax,cu,this,eqI xs ys,gc];by_cases h1:x=y<;>by_cases h2:xs=ys<;>simp[h1,h2]
theorem b9J:∀ns:List Int,bb (ns.map aO)=true
 |[]=>by simp only[cW,bb]
 |n::ns=>by simp only[ax,bb,eQ,b9J ns,eG]
theorem c1v:∀ns:List Int,cX (ns.map aO)=0
 |[]=>by simp only[cW,cX]
 |n::ns=>by simp only[ax,cX,fB,c1v ns];rfl
def a5W(r:Reads h v (kdQ l ns) as) :
  ∃(a:aw) (o:fY) (vs:Array aj) (m:Nat) (t:Tok) (u:aj) (bs:List aw),v=.ref a/\h.get? a=xn o/\o.cls=.type "tuple"/\o.data=.seq vs m/\vs.toList=[.int ns.length t,u]/\Reads h u (sqD l ns) bs:=by
 unfold kdQ at r;cases r with
 |@tuple a o vs m xs as ho hc hd rs=>
  generalize hv:vs.toList=l at rs;cases rs with
  |cons r1 rs=>
   cases rs with
   |cons r2 rs=>
    cases rs with
    |nil=>
     cases r1 with
     |int i t=>exact⟨a,o,vs,m,t,_,_,rfl,ho,hc,hd,hv,r2⟩
section
variable {prog:bw}{w:b_}{A:bQ}
theorem b7U:∀{ks:List aj} {nss:List (List Int)},ks.length=nss.length->(∀i,i<ks.length->∃as,Reads h (ks.getD i bt) (kdQ l (nss.getD i [])) as)->∃fs,KatTups h ks fs/\fs.length=ks.length/\∀v∈fs,∃n t,v=jw n t
 |[],_,_,_=>⟨[],trivial,rfl,λ_ h=>(nomatch h)⟩
 |v::vs,[],hl,_=>by simp at hl
 |v::vs,ns::nss,hl,hv=>by
  obtain⟨fs,h1,h2,h3⟩:=b7U (ks:=vs) (nss:=nss) (by simpa using hl) λi hi=>by have:=hv (i+1) (by simpa using hi);simpa using this
  obtain⟨as,r⟩:=hv 0 (Nat.zero_lt_succ _);obtain⟨a,o,xs,m,t,u,bs,e,ho,hc,hd,hx,_⟩:=a5W (show Reads h v (kdQ l ns) as from r);have tP:xs[0]?=xn (jw ns.length t):=by rw[<-bP,hx];rfl
  refine⟨jw ns.length t::fs,⟨⟨a,o,xs,m,e,ho,hc,hd,tP⟩,h1⟩,by rw[aV,aV,h2],λy hy=>?_⟩;rcases aH.mp hy with z|z
  ·rw[z];exact⟨_,_,rfl⟩
  ·exact h3 y z
def b6L(h:kdQ l ms=kdQ l ns):ns=ms:=by
 have ii:∀{a b:List Int},a.map aO=b.map aO->b=a:=λ{a b} e=>((zJ λx y e=>by cases e;rfl).mp e).symm
 unfold kdQ at h;have h2:=(rq (rq (dm.inj h)).2).1;cases l with
 |true=>exact ii (bD.inj h2)
 |false=>exact ii (dm.inj h2)
theorem a3D:∀a b,G5 a b=HT.lexLt a b
 |[],[]=>rfl
 |[],_::_=>rfl
 |_::_,[]=>rfl
 |_::x,_::y=>by rw[G5,HT.a2X,a3D x y]
theorem a3E:∀{ns:List Int} {vs:List aj} {as:List aw},iT h vs (ns.map aO) as->lX vs ns
 |[],_,_,r=>by cases r;exact .nil
 |n::ns,_,_,r=>by cases r with|cons r1 r2=>cases r1;exact .cons _ _ (a3E r2)
def a7j(r:Reads h v (sqD false ns) as):∃a its,v=.ref a/\PyProof.Rows.IsTup h a its/\lX its.toList ns:=by
 replace r:Reads h v (.tuple (ns.map .int)) as:=r
 cases r with
 |@tuple a o vs m xs as ho hc hd rs=>exact⟨a,vs,rfl,⟨o,ho,hc,m,hd⟩,a3E rs⟩
def a4t{ks:List aj}{nss:List (List Int)}(hl:ks.length=nss.length)(hu:A.units+8<dF) :
  SortableR prog w A (λh=>∀i,i<ks.length->∃as,Reads h (ks.getD i bt) (kdQ false (nss.getD i [])) as) ks (tuples' true) OI (λi=>(((nss.getD i []).length:Nat):Int)::nss.getD i []) where
 kind:=λh2 s E Q hR q=>by
  obtain⟨fs,h1,kG,h3⟩:=b7U hl hR;refine W.kat_kind (T:=fF "int") h1 (by lia) (λv Ck=>?_) rfl q;obtain⟨n,t,rfl⟩:=h3 v Ck;exact λA Q E s _ q=>aC q
 cong:=λh hR i j hi hj e=>by
  obtain⟨as,ri⟩:=hR i hi;obtain⟨bs,rj⟩:=hR j hj;rw[<-e]at rj;have z:=(PyProof.Rows.reads_det (λ_ _ e _=>e) ri rj).1;have:nss.getD i []=nss.getD j []:=b6L z;exact dB (λns:List Int=>(((ns.length:Nat):Int)::ns:List Int)) this
 lt:=λs i j C hR hi hj q=>by
  obtain⟨as,ri⟩:=hR i hi;obtain⟨bs,rj⟩:=hR j hj;obtain⟨a,o,xs,k,t,u,us,e1,ho,_,hd,hx,ru⟩:=a5W ri;obtain⟨a',o',ys,k',t',u',EW,e2,ng,_,jR,hy,xC⟩:=a5W rj;rw[e1,e2];refine W.kat_lt ho hd ng jR ?_;have q':C (G5 ((((nss.getD i []).length:Nat):Int)::nss.getD i []) ((((nss.getD j []).length:Nat):Int)::nss.getD j [])) s:=q;generalize nss.getD i []=ns at q' hx ru;generalize nss.getD j []=ms at q' hy xC;rw[hx,hy,dt,dt,mS];have hz:decide (xs.size<ys.size)=false:=by
   have z1:=dB dY hx;have z2:=dB dY hy;rw[aP]at z1 z2;simp only[aV,gO]at z1 z2;exact ba (by lia)
  rw[hz];rw[G5]at q';refine W.kat_cons (wpAny_eqBool_int ?_);have lay:∀ns:List Int,(sqD false ns).canLay0=true:=λns=>by simp only[sqD,dr,bu,eQ];exact b9J ns
  have FI:(sqD false ns).depth<=1:=by simp only[sqD,dr,bu,fB,c1v];lia
  by_cases c:((ns.length:Nat):Int)=((ms.length:Nat):Int)
  ·rw[aB c]at q';rw[show (((ns.length:Nat):Int)==((ms.length:Nat):Int))=true by simp[c]];refine W.kat_yes (W.kat_cons (rf _ _ A s _ _ _ _ ru xC (lay ns) (lay ms) (by have:=lg (sqD false ns).depth (sqD false ms).depth;lia) _ _ _ _ ?_));have ee:aI (sqD false ns) (sqD false ms)=decide (ns=ms):=by simp only[sqD,dr,bu,aI];exact eqI ns ms
   rw[ee];by_cases c2:ns=ms
   ·rw[aQ c2];refine W.kat_yes (W.kat_nil ?_);rw[c2,a0Z]at q';exact q'
   ·rw[ba c2];refine W.kat_no ?_;refine W.kat_one _ _ ?_;obtain⟨_,_,z1,p1,i1⟩:=a7j ru;obtain⟨_,_,z2,p2,i2⟩:=a7j xC;rw[z1,z2];exact HT.a7U p1 p2 i1 i2 (by lia) (by rw[<-a3D];exact q')
  ·rw[aJ c]at q';rw[show (((ns.length:Nat):Int)==((ms.length:Nat):Int))=false by simp[c]];exact W.kat_no (PyProof.Rows.oneLt_int q')
end
end VS
namespace VS
open PySem PySem.Spec L2
def a1K(ns:List Int):List Int:=((ns.length:Nat):Int)::ns
def V0(nss:List (List Int)):List (List Int):=(a8B (nss.map a1K)).map rZ
def b3W{nss:List (List Int)}(hp:AllN nss.length p)(hu:b1E (O:=OI) (λi=>(((nss.getD i []).length:Nat):Int)::nss.getD i []) p nss.length):p.toList.map (λi=>nss.getD i [])=V0 nss:=by
 unfold V0;have e:p.toList.map (λi=>(((nss.getD i []).length:Nat):Int)::nss.getD i [])=a8B (nss.map a1K):=by
  refine b1K ?_ (b6C hp hu);have h:=(a4s (d:=([]:List Int)) (l:=nss) hp).map a1K;rw[bC]at h;exact h
 rw[<-e,bC];rfl
section
variable {X:Cx}{pins:List (aw×fY)}{σ:L2.St}{H:Hp}{s:au}{k:Nat}{f:aw}{fd:dR}{ps:List bE}{m:List D->Option D}
def b1R{nss:List (List Int)}(F:FnOk X.prog X.w X.K X.mg X.base CX0 k f fd ps (spD X.K 1 m .i))(hr:Room k X.A.in1.in1)(hb:Binds X.K fd ps [])(I:Inv X pins σ H s)(hg:Gives X.prog X.w X.A.in1 s r us)(rv:Vals xs us)(hd:DenAll X.K H xs (nss.map λns=>.tuple (ns.map .int)))
  (qT:nss.length<65536) (hm:∀ns∈nss,m [.tuple (ns.map .int)]=xn (kdP ns)) (q:∀z out H',Same H H'->H z=xI->H' z=xI->DenAll X.K H' out ((V0 nss).map λns=>.tuple (ns.map .int))->Q (.ref z) (upd H' z (.lst out))) :
  aX (aY X.prog X.w) X.A (call (.builtin "sorted") [r] [(cG "key",.ref f)]) (EP X pins σ Q) X.xe s:=by
 have ow:xs.length=nss.length:=by rw[hd.length,ai]
 have Ak:us.length=nss.length:=by rw[<-rv.length];exact ow
 have rL:∀i x,xs[i]?=xn x->i<nss.length/\Den X.K H x (.tuple ((nss.getD i []).map .int)):=λi x hx=>by
  have hi:i<nss.length:=by rw[<-ow];exact (aL.mp hx).1
  have e1:(nss.map λns=>dm (ns.map .int))[i]?=xn (.tuple ((nss.getD i []).map .int)):=by rw[aR,ab hi,ag,ab hi];rfl
  obtain⟨v,hv,dv⟩:=hd.get e1;rw[hx]at hv;cases hv
  exact⟨hi,dv⟩
 have iQ:∀i,i<nss.length->nss.getD i []∈nss:=λi hi=>by rw[ag,ab hi];exact dA hi
 have yI:∀ns:List Int,imm (kdP ns)=true:=λns=>by unfold kdP;simp only[imm,e7,fJ,mE];exact b9C ns
 have vq:∀ns:List Int,(kdP ns).canLay0=true:=λns=>by unfold kdP;simp only[eQ,bb,fJ,mE];exact b9J ns
 refine a8D (f:=f) (O:=OI) (κ:=PyProof.Rows.tuples' true) (key:=λi=>(((nss.getD i []).length:Nat):Int)::nss.getD i []) (kd:=λi=>kdP (nss.getD i [])) I hg rv (by lia) (λkW kS i x u hx hu s' H' I' same _ hk=>?_) (λkW kS s' H' kvs ks I' rk hlen kJ k_=>?_) λp z H' hp hu same hz rD=>?_
 ·obtain⟨hi,dx⟩:=rL i x hx;obtain⟨u',rE,ru⟩:=rv.get hx;rw[hu]at rE;cases rE
  refine b6G F hr hb I' (.cons ru .nil) ⟨[.tuple ((nss.getD i []).map .int)],kdP (nss.getD i []),rfl,denAll_cons (dx.up same) denAll_nil,hm _ (iQ i hi),λv H2 fp e o nd fr=>⟨e,(o.den _).imm_out (F:=[kS]) (λb hb=>by obtain⟨kvs,hk⟩:=hk;rw[ao.mp hb];exact⟨⟨.lst kvs,trivial⟩,e _ _ hk⟩) _ (yI _)⟩⟩
 ·have CZ:ks.length=nss.length:=by rw[<-rk.length,hlen];exact Ak
  refine⟨_,a4t (nss:=nss) CZ (by have:=hr.un;lia),λi hi=>?_⟩;obtain⟨v,hv⟩:∃v,kvs[i]?=xn v:=⟨_,ab (by rw[rk.length];exact hi)⟩;obtain⟨u,hu,ru⟩:=rk.get hv;rw[ag,hu];exact Den.reads I' _ (vq _) ((kJ i v hv).up j5) ru
 ·rw[Ak]at hp hu;refine q z _ H' same hz rD ?_;rw[<-b3W hp hu,bC];have:∀l:List Nat,(∀j∈l,j<nss.length)->DenAll X.K H' (l.map λi=>xs.getD i .non) (l.map ((λns=>dm (ns.map .int)) ∘ λi=>nss.getD i [])):=by
   intro l
   induction l with
   |nil=>intro _;exact denAll_nil
   |cons j l ih=>
    intro hj;have qP:=hj j aK;have sQ:xs[j]?=xn (xs.getD j .non):=by rw[ab (by lia),ag,ab (by lia)];rfl
    exact denAll_cons ((rL j _ sQ).2.up same) (ih λk hk=>hj k (av _ hk))
  exact this _ λj hj=>bI.mp (hp.mem_iff.mp hj)
def a8E{nss:List (List Int)}(hc:X.calm=true)(F:FnOk X.prog X.w X.K X.mg X.base CX0 k f fd ps (spD X.K 1 m .i))(hr:Room k X.A.in1.in1)(hb:Binds X.K fd ps [])(I:Inv X pins σ H s)(hH:H p=xn (g6 p es))(hd:DenAll X.K H (es.map (·.2.1)) (nss.map λns=>.tuple (ns.map .int)))
  (qT:nss.length<65536) (hm:∀ns∈nss,m [.tuple (ns.map .int)]=xn (kdP ns)) (q:∀z out H',Same H H'->H z=xI->H' z=xI->DenAll X.K H' out ((V0 nss).map λns=>.tuple (ns.map .int))->Q (.ref z) (upd H' z (.lst out))) :
  aX (aY X.prog X.w) X.A (call (.builtin "sorted") [.ref p] [(cG "key",.ref f)]) (EP X pins σ Q) X.xe s:=by
 obtain⟨h0,hl,hn,o,ents,ep,g1,g2,g3,g4⟩:=v5 I hH;refine b1R F hr hb I (a8A (by simpa using I.ok.hd hc) h0 ⟨o,g1,g2,g3⟩ (by have z:=gy g4;have z2:ents.toList.length=ents.size:=aP;lia)) ?_ hd qT hm q;have:∀{es:List (D×V×V)} {l:List gX},fK U1 es l->Vals (es.map (·.2.1)) (l.map (·.key)):=by
  intro es l h
  induction h with
  |nil=>exact .nil
  |cons r _ ih=>exact .cons r.2.1 ih
 exact this g4
end
def a8F(ns:List Int):D:=.tuple (ns.map .int)
noncomputable def a0B(m:List D->Option D)(a:EvE):EvE:=λZ=>(a Z).bind λd=>(b9F d).bind λks=>(a9Q true ks).bind λnss=>if b1P false m nss then xn (.list ((V0 nss).map a8F)) else xI
section
variable {X:Cx}{M:List Md}{a:Expr}{fa:EvE}{ca:Cat}{pos p py lx:fM}{y:bE}{k:Nat}{ps:List bE}{m:List D->Option D}{ta:TE}
noncomputable def b9K(X:Cx)(m:List D->Option D)(ta:TE):TE:=λσ H Q=>a6z ta b2I σ H λxs H1=>∃pd es nss,xs=[V.ref pd]/\H1 pd=xn (g6 pd es)/\DenAll X.K H1 (es.map (·.2.1)) (nss.map a8F)/\nss.length<65536/\(∀ns∈nss,m [a8F ns]=xn (kdP ns))/\∀z out H',Same H1 H'->H1 z=xI->H' z=xI->DenAll X.K H' out ((V0 nss).map a8F)->Q (.ref z) (upd H' z (.lst out))
def b3X(hc:X.calm=true)(yz:X.mg "sorted"=xI)(W:Has X.prog X.w X.K X.mg X.base y k ps (spD X.K 1 m .i))(hr:Room (k+2) X.A)(ha:PE X a ta)(hg:Gl X "sorted":=by rfl)(vC:Gl X y:=by rfl)(vH:(y==("__debug__":bE))=false:=by decide)
  (he:ar [a] X.env=(false,cK a X.env)::ar [] X.env:=by rfl) (nU:cB pos (ar [a] X.env)=(false,cK a X.env)::cB pos (ar [] X.env):=by rfl) (dZ:(cB pos (ar [a] X.env)).any (·.1)=false:=by rfl)
  (g_:(eK pos (dh [⟨xn (cG "key"),.Name y py,lx⟩] X.env)).all (·.1.isSome)=true:=by rfl) (yE:(eK pos (dh [⟨xn (cG "key"),.Name y py,lx⟩] X.env)).any (·.1.isNone)=false:=by rfl)
  (k_:(eK pos (dh [⟨xn (cG "key"),.Name y py,lx⟩] X.env)).filterMap (·.1)=[cG "key"]:=by rfl) :
  PE X (.Call (.Name "sorted" p) [a] [⟨xn (cG "key"),.Name y py,lx⟩] pos) (b9K X m ta):=by
 obtain⟨f,fd,F,b,kp,CH⟩:=W.ex;intro pins s σ H Q I h;refine gq (a0n I hg yz PyProof.Rows.Boot.«sorted» ?_ (by decide) (by decide));have hA:PA X [a] (a6z ta b2I):=k8 ha p5 he;have hK:PK X [⟨xn (cG "key"),.Name y py,lx⟩] (a6z (tC (.ref f)) b2I):=b5H (a9o vC CH rfl vH) b8G;refine PyProof.Rows.callWith_kw (L2.thn (hA pos pins s σ H _ I h) λus s1 ⟨xs,H1,I1,r1,pd,es,nss,e0,hH,hd,qT,hm,q⟩=>?_) nU dZ g_ yE;subst e0;refine L2.thn (hK pos pins s1 σ H1 (λzs H2=>zs=[.ref f]/\H2=H1) I1 ⟨rfl,rfl⟩) λws s2 ⟨zs,H2,I2,r2,ez,eH⟩=>?_
 subst ez;subst eH;rw[k_];obtain⟨u,rfl,ru⟩:=r1.one;obtain⟨w,rfl,uG⟩:=r2.one;cases (show u=bH pd from ru)
 cases (show w=bH f from uG)
 exact a8E hc F hr.in1.in1 b I2 hH hd qT hm q
def a7k(hc:X.calm=true)(yz:X.mg "sorted"=xI)(W:Has X.prog X.w X.K X.mg X.base y k ps (spD X.K 1 m .i))(hr:Room (k+2) X.A)(ha:PX X M a fa ca)(hg:Gl X "sorted":=by rfl)(vC:Gl X y:=by rfl)(vH:(y==("__debug__":bE))=false:=by decide)
  (he:ar [a] X.env=(false,cK a X.env)::ar [] X.env:=by rfl) (nU:cB pos (ar [a] X.env)=(false,cK a X.env)::cB pos (ar [] X.env):=by rfl) (dZ:(cB pos (ar [a] X.env)).any (·.1)=false:=by rfl)
  (g_:(eK pos (dh [⟨xn (cG "key"),.Name y py,lx⟩] X.env)).all (·.1.isSome)=true:=by rfl) (yE:(eK pos (dh [⟨xn (cG "key"),.Name y py,lx⟩] X.env)).any (·.1.isNone)=false:=by rfl)
  (k_:(eK pos (dh [⟨xn (cG "key"),.Name y py,lx⟩] X.env)).filterMap (·.1)=[cG "key"]:=by rfl) :
  PX X M (.Call (.Name "sorted" p) [a] [⟨xn (cG "key"),.Name y py,lx⟩] pos) (a0B m fa) (.new (.l .i)):=by
 obtain⟨ta,pa,qa⟩:=ha.out;refine .mk ⟨_,b3X hc yz W hr pa hg vC vH he nU dZ g_ yE k_,λZ σ H P F d Q S hf q=>?_⟩;obtain⟨x,h1,g1⟩:=bnd hf;obtain⟨ks,h2,g2⟩:=bnd g1;obtain⟨nss,h3,g3⟩:=bnd g2;obtain⟨e1,_⟩:=a3C h3;by_cases c:b1P false m nss=true
 ·rw[aB c]at g3;have c:nss.length<65536/\∀ns∈nss,m [a8F ns]=xn (kdP ns):=b1Q c;cases g3
  cases x with
  |dict kvs=>
   cases h2
   refine qa Z σ H P F _ _ S h1 λv H1 w1 r1=>?_
   obtain⟨pp,es,rfl,k1,k2⟩:=r1.den.dict_inv;refine⟨pp,es,nss,rfl,k1,?_,c.1,c.2,λz out H' same hz rD ho=>q _ _ ((w1.trans same).trans (l6 rD _)) ?_⟩
   ·have hk:=a2p k2;rw[e1]at hk;exact hk
   ·have hi:∀l:List (List Int),e7 (l.map a8F)=true:=λl=>by
     induction l with
     |nil=>simp only[cW,e7]
     |cons ns l ih=>simp only[ax,e7,ih,fJ,a8F,imm];exact b9C ns
    exact Y4 ho (hi _) (w1.trans same) rD (S.lst' (w1.trans same))
  |_=>cases h2
 ·rw[aJ c]at g3;cases g3
end
section
variable {X:Cx}{M:List Md}{a b:Expr}{rest:List Expr}{fa fb:EvE}{u:Ty}{pos:fM}{ta tb:TE}
def b9L(ha:PE X a ta)(hb:PE X (.BoolOp .Or (b::rest) pos) tb):PE X (.BoolOp .Or (a::b::rest) pos) (λσ H Q=>ta σ H λx H1=>∃k,b5E X.K x H1 k/\if k=true then Q x H1 else tb σ H1 Q):=by
 intro pins s σ H Q I h;refine PyProof.Rows.BoolOp_or (L2.thn (ha pins s σ H _ I h) λv s1 ⟨x,H1,I1,r1,k,hk,q1⟩=>?_);refine L2.thn (b2G pins s1 σ H1 x v (λc H2=>c=k/\H2=H1) I1 r1 ⟨k,hk,rfl,rfl⟩) λc s2 ⟨H2,I2,ec,eH⟩=>?_
 subst ec;subst eH;cases c with
 |true=>exact⟨x,H2,I2,r1,q1⟩
 |false=>exact hb pins s2 σ H2 Q I2 q1
noncomputable def b6M(fa fb:EvE):EvE:=λZ=>(fa Z).bind λd=>(tr d).bind λk=>if k then xn d else fb Z
def b9M(ha:PX X M a fa (.new u))(hb:PX X M (.BoolOp .Or (b::rest) pos) fb (.new u)):PX X M (.BoolOp .Or (a::b::rest) pos) (b6M fa fb) (.new u):=by
 obtain⟨ta,pa,qa⟩:=ha.out;obtain⟨tb,pb,qb⟩:=hb.out;refine .mk ⟨_,b9L pa pb,λZ σ H P F d Q S hf q=>?_⟩;obtain⟨x,h1,hf⟩:=bnd hf;obtain⟨k,h2,hf⟩:=bnd hf;refine qa Z σ H P F _ _ S h1 λv H1 e1 r1=>⟨k,b2Z r1.den h2,?_⟩
 cases k with
 |true=>
  have oR:d=x:=(aF hf).symm;subst oR;exact a5t (q _ H1 e1 r1)
 |false=>exact a6C (qb Z σ H1 P F d Q (S.grow e1) hf λw H2 e2 r2=>q w H2 (e1.trans e2) (r2.early e1))
end
def a7l(F:List aw)(H H2:Hp):Hp:=λa=>if a∈F then H a else H2 a
def a1a(h:a∈F):a7l F H H2 a=H a:=aB h
def p8(h:a∉F):a7l F H H2 a=H2 a:=aJ h
def b9N(sp:Sp):Sp:=λvs H Q E=>∃F:List aw,(∀a∈F,∃ys:MuO,H a=xn ys.1)/\sp vs (cut H F) (λv H2=>(∀a∈F,H2 a=xI)->Q v (a7l F H H2)) E
section
variable {P:bw}{w:b_}{K:af}{mg:bE->Option aj}{base:cR}{k:Nat}{f:aw}{fd:dR}{ps:List bE}{sp:Sp}{H:Hp}{h:cR}{F:List aw}
def a1L(hF:∀a∈F,∃ys:MuO,H a=xn ys.1)(e:H b=xn o)(n:¬ Mu o):b∉F:=λz=>by
 obtain⟨ys,hy⟩:=hF b z;rw[e]at hy;cases hy
 exact n ys.2
def b9O(h:Pin a o):¬ Mu o:=by cases o<;>first|exact λz=>z|exact λ_=>h
def b6N(hk:HOk P w H h)(hF:∀a∈F,∃ys:MuO,H a=xn ys.1):HOk P w (cut H F) h:=λa o e=>by
 obtain⟨_,e'⟩:=m4 e;exact (hk a o e').stay (λb u _ q=>q) (λb q=>g9 (a1L hF q (λz=>z)) q) λb xs q=>g9 (a1L hF q (b9O xs.2)) q
def x9(n:H a=xI):cut H F a=xI:=by
 by_cases q:a∈F
 ·exact V6 q
 ·rw[Y3 q];exact n
def a8G(F0:FnOk P w K mg base CX0 k f fd ps sp):FnOk P w K mg base CX0 k f fd ps (b9N sp) where
 len:=λvs H Q E ⟨F,_,hs⟩=>F0.len _ _ _ _ hs
 run:=λA outer s H args us vs Q E hr he hb hv ⟨F,hF,hs⟩=>by
  have lI:Env0 P w K mg base A outer s (cut H F):=⟨he.frames,he.mod,λb o e=>⟨(he.bs b o e).1,x9 (he.bs b o e).2⟩,he.bsz,he.funs,λb hb=>x9 (he.frf b hb),b6N he.hok hF,he.bare,λx hx p e=>let⟨qs,t,e1,e2⟩:=he.tabs x hx p e;⟨qs,t,g9 (a1L hF e1 (λz=>z)) e1,e2⟩⟩;refine gQ (F0.run A outer s (cut H F) args us vs _ E hr lI hb hv hs) λr s' hq=>?_
  cases r with
  |error e=>exact hq
  |ok fl=>
   cases fl with
   |ret u=>
    obtain⟨v,H2,os,bare,un,oN,rv,q⟩:=(show CE outer P w (cut H F) s _ u s' from hq);have there:∀a∈F,∃o,s.heap.get? a=xn o:=λa ha=>by
     obtain⟨⟨ys,hm⟩,hy⟩:=hF a ha;have:=he.hok a _ hy;cases ys with
     |lst xs=>obtain⟨_,its,n,r,e⟩:=this;exact⟨_,e⟩
     |dK kvs=>obtain⟨_,_,vs,_,ob,es,ep,e,_⟩:=this;exact⟨_,e⟩
     |ext φ=>obtain⟨_,e,_⟩:=this;exact e
     |_=>exact cJ hm
    have AS:∀a∈F,H2 a=xI:=λa ha=>by
     obtain⟨o,ho⟩:=there a ha;exact un.free a o ho (V6 ha) (by simp)
    have CD:∀{b:aw},H b=xI->b∉F:=λ{b} n z=>by
     obtain⟨ys,hy⟩:=hF b z;rw[n]at hy;cases hy
    refine (show CE outer P w H s Q u s' from⟨v,a7l F H H2,os,bare,?_,?_,rv,q AS⟩)
    ·refine⟨λb o q n hb hx=>un.keep b o q (x9 n) hb hx,λb o q n hb hx=>un.slot b o q (x9 n) hb hx,λb o q n hx=>?_,un.there,λb xs q=>?_,λb o u q=>?_,λb ps q=>?_⟩
     ·rw[p8 (CD n)];exact un.free b o q (x9 n) hx
     ·have n:=a1L hF q (λz=>z);rw[p8 n];exact un.tups b xs (g9 n q)
     ·have n:=a1L hF q (λz=>z);rw[p8 n];exact un.frzs b o u (g9 n q)
     ·have n:=a1L hF q (λz=>z);rw[p8 n];exact un.tbls b ps (g9 n q)
    ·intro a o e;by_cases ha:a∈F
     ·rw[a1a ha]at e;have hk:∀u,s.heap.get? a=xn u->s'.heap.get? a=xn u:=λu q=>un.keep a u q (V6 ha) (λz=>by rw[he.frf a z]at e;cases e) (by simp)
      obtain⟨⟨ys,hm⟩,hy⟩:=hF a ha;have ho:=he.hok a _ hy;have eo:o=ys:=aF (e.symm.trans hy);rw[eo];cases ys with
      |lst xs=>obtain⟨z,its,n,r,e⟩:=ho;exact⟨z,its,n,r,hk _ e⟩
      |dK kvs=>obtain⟨z,y,vs,r,ob,es,ep,e,c⟩:=ho;exact⟨z,y,vs,r,ob,es,ep,hk _ e,c⟩
      |ext φ=>obtain⟨h1,⟨ob,h2⟩,h3⟩:=ho;exact⟨h3 _ _ h1 hk,⟨ob,hk _ h2⟩,h3⟩
      |_=>exact cJ hm
     ·rw[p8 ha]at e;have lR:∀{b:aw} {o:HO},H2 b=xn o->a7l F H H2 b=xn o:=λ{b} {o} q=>by
       rw[p8 (λz=>by rw[AS b z]at q;cases q)];exact q
      exact (oN a o e).stay (λb u _ q=>q) (λb q=>lR q) λb xs q=>lR q
   |next=>exact cJ hq
   |brk=>exact cJ hq
   |cont=>exact cJ hq
end
section
variable {X:Cx}{M:List Md}{a e0:Expr}{es:List Expr}{fa:EvE}{f:EvA}{ca:Cat}{u:Ty}{x:bE}{p pos:fM}
def b1S(W:Has X.prog X.w X.K X.mg X.base x k ps sp):Has X.prog X.w X.K X.mg X.base x k ps (b9N sp):=by
 obtain⟨f,fd,F,b⟩:=W.ex;exact⟨f,fd,a8G F,b⟩
noncomputable def PAF(X:Cx)(M:List Md)(es:List Expr)(f:EvA):Prop:=
 ∃t,PA X es t/\∀(Z:List D) (σ:L2.St) (H P:Hp) (F:List aw) (ds:List D) (Q:List V->Hp->Prop),StE X.K M Z σ H P F->f Z=xn ds->(∀vs H',Same H H'->DenAll X.K (cut H' F) vs ds->Q vs H')->t σ H Q
def a1b:PAF X M [] b9:=⟨_,p5,λZ σ H P F ds Q S hf q=>by cases hf;exact q [] H (Same.refl _) denAll_nil⟩
def C2(ha:PX X M a fa ca)(hr:PAF X M es fr)(hc:frozen ca:=by trivial)(hs:ar (a::es) X.env=(false,cK a X.env)::ar es X.env:=by rfl):PAF X M (a::es) (a7 fa fr):=by
 obtain⟨ta,pa,qa⟩:=ha.out;obtain⟨tr,pr,qr⟩:=hr;refine⟨_,k8 pa pr hs,λZ σ H P F ds Q S hf q=>?_⟩;obtain⟨x,h1,hf⟩:=bnd hf;obtain⟨xs,h2,hf⟩:=bnd hf;cases hf
 exact qa Z σ H P F _ _ S h1 λv H1 e1 r1=>qr Z σ H1 P F _ _ (S.grow e1) h2 λvs H2 e2 r2=>q (v::vs) H2 (e1.trans e2) (denAll_cons ((Y5 hc r1).up (L7 e2)) r2)
def W9(W:Has X.prog X.w X.K X.mg X.base x k ps (spD X.K n m u))(hr:Room k X.A)(h:PAF X M (e0::es) f)(hl:(e0::es).length=n:=by rfl)(hfl:∀Z ds,f Z=xn ds->ds.length=(e0::es).length)
  (hg:Gl X x:=by rfl) (lS:(x==("__debug__":bE))=false:=by decide) (he:ar (e0::es) X.env=(false,cK e0 X.env)::ar es X.env:=by rfl) (gE:(cB pos (ar es X.env)).any (·.1)=false:=by rfl) :
  PX X M (.Call (.Name x p) (e0::es) [] pos) (eCl m f) (.new u):=by
 obtain⟨t,pa,qa⟩:=h;refine .mk ⟨_,a7W (b1S W) hr pa hg lS he gE,λZ σ H P F d Q S hf q=>?_⟩;obtain⟨ds,h1,hf⟩:=bnd hf;refine qa Z σ H P F ds _ S h1 λvs H1 e1 r1=>?_
 show b9N (spD X.K n m u) (vs++[]) H1 Q E0;rw[bg];refine⟨F,S.lst' e1,ds,d,by rw[r1.length,hfl Z ds h1,hl],r1,hf,λv H2 fp e o nd fr hz=>q v (a7l F H1 H2) ?_ ?_⟩
 ·intro b o' hb;have vO:=e1 b o' hb;by_cases c:b∈F
  ·rw[a1a c];exact vO
  ·rw[p8 c];exact e b o' (g9 c vO)
 ·have AA:∀a∈fp,a∉F:=λa ha z=>by
   obtain⟨ys,hy⟩:=o.lst u a ha;rw[hz a z]at hy;cases hy
  refine⟨fp,Own.frame (λb o' hb=>?_) u o (λa ha=>p8 (AA a ha)),nd,λa ha=>?_⟩
  ·obtain⟨n1,n2⟩:=m4 hb;have n3:b∉F:=λz=>by rw[hz b z]at n2;cases n2
   exact g9 (λz=>(aq.mp z).elim n1 n3) (by rw[p8 n3];exact n2)
  ·have:=fr a ha;rw[Y3 (AA a ha)]at this;exact e1.free this
end
def Junk(H:Hp)(C:List aw):Prop:=∀a∈C,∀u,H a=xn u->∃o,u=.frz o (.own a)
section
variable {K:af}{H H':Hp}{C F:List aw}
theorem Junk.cut(h:Junk H C):Junk (cut H F) C:=λa ha u e=>h a ha u (m4 e).2
def Junk.out(h:Junk H C)(e:H a=xn u)(n:∀o,u≠.frz o (.own a)):a∉C:=λz=>by
 obtain⟨o,q⟩:=h a z u e;exact n o q
def b3Y(h:Junk H C)(q:SqX K H a xs):SqX K (VS.cut H C) a xs:=by
 rcases q with (q|⟨o,q⟩)|q
 ·exact .inl (.inl (g9 (h.out q λo z=>(nomatch z)) q))
 ·exact .inl (.inr ⟨o,g9 (h.out q λo z=>by cases z) q⟩)
 ·exact .inr q
def b3Z(h:Junk H C)(q:SqT K H a xs):SqT K (VS.cut H C) a xs:=by
 rcases q with (q|⟨o,q⟩)|q
 ·exact .inl (.inl (g9 (h.out q λo z=>(nomatch z)) q))
 ·exact .inl (.inr ⟨o,g9 (h.out q λo z=>by cases z) q⟩)
 ·exact .inr q
def a3F(h:Junk H C)(q:H a=xn (g6 a es)):VS.cut H C a=xn (g6 a es):=
 g9 (h.out q λo z=>by unfold g6 at z;cases z) q
mutual
theorem Den.junk(h:Junk H C):∀(d:bj) {v:V},Den K H v d->Den K (VS.cut H C) v d
 |.none,_,q=>by simpa only [Den]using q
 |.bool _,_,q=>by simpa only [Den]using q
 |.int _,_,q=>by simpa only [Den]using q
 |.str _,_,q=>by simpa only [Den]using q
 |.list ds,_,q=>by
  obtain⟨a,xs,rfl,h1,h2⟩:=q.list_inv;exact den_list (b3Y h h1) (DenAll.junk h ds h2)
 |.tuple ds,_,q=>by
  obtain⟨a,xs,rfl,h1,h2⟩:=q.tup_inv;exact den_tup (b3Z h h1) (DenAll.junk h ds h2)
 |.dict kvs,_,q=>by
  obtain⟨a,es,rfl,h1,h2⟩:=q.dict_inv;simp only[Den];exact⟨a,es,rfl,a3F h h1,DenKV.junk h kvs h2⟩
theorem DenAll.junk(h:Junk H C):∀(ds:List bj) {xs:List V},DenAll K H xs ds->DenAll K (VS.cut H C) xs ds
 |[],_,q=>by simpa only [DenAll]using q
 |d::ds,_,q=>by
  obtain⟨v,r,rfl,h1,h2⟩:=q.cons_inv;exact denAll_cons (Den.junk h d h1) (DenAll.junk h ds h2)
theorem DenKV.junk(h:Junk H C):∀(kvs:List (bj×bj)) {es:List (bj×V×V)},DenKV K H es kvs->DenKV K (VS.cut H C) es kvs
 |[],_,q=>by simpa only [DenKV]using q
 | (k,d)::r,_,q=>by
  simp only[DenKV]at q ⊢;obtain⟨x,es,h1,h2,h3,h4,h5⟩:=q;exact⟨x,es,h1,h2,Den.junk h k h3,Den.junk h d h4,DenKV.junk h r h5⟩
end
def b4a(a:aw):VS.cut (VS.cut H C) F a=VS.cut (VS.cut H F) C a:=by
 unfold VS.cut;by_cases h1:a∈F<;>by_cases h2:a∈C<;>simp[h1,h2]
def Y9(h:Junk H C)(q:Den K (VS.cut H F) v d):Den K (VS.cut (VS.cut H C) F) v d:=
 (Den.junk h.cut d q).up λa o e=>by rw[b4a];exact e
mutual
theorem Own.junk(h:Junk H C):∀(u:Ty) {v:V} {d:bj} {fp:List aw},Own K H F u v d fp->Own K (VS.cut H C) F u v d fp
 |.i,_,_,_,q=>by simp only[Own]at q ⊢;exact⟨q.1,q.2.1,Y9 h q.2.2⟩
 |.f,_,_,_,q=>by simp only[Own]at q ⊢;exact⟨q.1,Y9 h q.2⟩
 |.l u,_,_,_,q=>by
  simp only[Own]at q ⊢;rcases q with⟨h1,h2,q⟩|⟨a,xs,ds,fs,rfl,h1,rfl,rfl,h2⟩
  ·exact .inl ⟨h1,h2,Y9 h q⟩
  ·exact .inr ⟨a,xs,ds,fs,rfl,g9 (h.out h1 λo z=>(nomatch z)) h1,rfl,rfl,h2.imp λv d f _ _ z=>Own.junk h u z⟩
 |.tp us,_,_,_,q=>by
  simp only[Own]at q ⊢;obtain⟨a,xs,ds,rfl,h1,h0,rfl,h2⟩:=q;exact⟨a,xs,ds,rfl,g9 (h.out h1 λo z=>(nomatch z)) h1,h0,rfl,OwnTs.junk h us h2⟩
 |.d kt u,_,_,_,q=>by
  simp only[Own]at q ⊢;obtain⟨a,es,ds,fs,rfl,h1,rfl,rfl,h3,h2⟩:=q;exact⟨a,es,ds,fs,rfl,a3F h h1,rfl,rfl,⟨h3.1,λx hx=>⟨(h3.2 x hx).1,Y9 h (h3.2 x hx).2⟩⟩,h2.imp λv d f _ _ z=>Own.junk h u z⟩
theorem OwnTs.junk(h:Junk H C):∀(us:List Ty) {xs:List V} {ds:List bj} {fp:List aw},OwnTs K H F us xs ds fp->OwnTs K (VS.cut H C) F us xs ds fp
 |[],_,_,_,q=>by simpa only [OwnTs]using q
 |u::us,_,_,_,q=>by
  simp only[OwnTs]at q ⊢;obtain⟨v,r,d,e,f,g,rfl,rfl,rfl,h1,h2⟩:=q;exact⟨v,r,d,e,f,g,rfl,rfl,rfl,Own.junk h u h1,OwnTs.junk h us h2⟩
end
def a7m(k:HOk P w H h)(j:Junk H C):HOk P w (VS.cut H C) h:=λa o e=>by
 obtain⟨na,e'⟩:=m4 e;refine (k a o e').stay (λb u _ q=>q) (λb q=>g9 (j.out q λo z=>(nomatch z)) q) λb u q=>g9 (λhb=>?_) q
 obtain⟨u,hu⟩:=u;obtain⟨ob,z⟩:=j b hb u q;subst z;have rE:b=a:=hu;exact na (rE▸hb)
def b1T(t:TabsIn K H)(j:Junk H C):TabsIn K (VS.cut H C):=λx hx p e=>by
 obtain⟨qs,t',e1,e2⟩:=t x hx p e;exact⟨qs,t',g9 (j.out e1 λo z=>(nomatch z)) e1,e2⟩
end
end VS
namespace VS
open PySem PySem.Spec L2 PyProof.Rows
noncomputable def FnV(P:bw)(w:b_)(K:af)(mg:bE->Option aj)(base:cR)(k n:Nat)(u:Ty)(m:List D->Option D)(H:Hp)(v:V):Prop:=
 ∃fa fo,v=.ref fa/\H fa=xn (.frz fo (.own fa))/\(∃fd,fo.data=.func fd)/\
  ∀(A:bQ) (outer:List oe) (s:au) (us:List aj) (vs:List V) (Q:VK) (E:XK),Room k A->Env0 P w K mg base A outer s H->Vals vs us->spD K n m u vs H Q E->
   gR (aY P w) A (.call (.ref fa) ⟨us,[]⟩) (CR CX0 outer P w H s Q E) s
section
variable {X:Cx}{M:List Md}{a e0:Expr}{es:List Expr}{fa:EvE}{f:EvA}{ca:Cat}{u:Ty}{x:bE}{p pos:fM}
noncomputable def b9P(X:Cx)(i k n:Nat)(u:Ty)(m:List D->Option D)(t:TA):TE:=λσ H Q=>∃v,σ[i]?=xn (xn v)/\t σ H λvs H1=>FnV X.prog X.w X.K X.mg X.base k n u m H1 v/\spD X.K n m u vs H1 Q E0
def b4b(hr:Room k X.A)(ha:PA X (e0::es) t)(hN:X.N[i]?=xn x)(hv:Vis X.env.scope x)(hd:(x==("__debug__":bE))=false)(iF:(x==("__classdict__":bE))=false)
  (he:ar (e0::es) X.env=(false,cK e0 X.env)::ar es X.env) (gE:(cB pos (ar es X.env)).any (·.1)=false):PE X (.Call (.Name x p) (e0::es) [] pos) (b9P X i k n u m t):=by
 intro pins s σ H Q I ⟨v,e,h⟩;refine gq (L2.thn (B5 hN hv hd iF pins s σ H (λv' H'=>v'=v/\H'=H) I ⟨v,e,rfl,rfl⟩) λu1 s1 ⟨v',H',I1,r1,z1,z2⟩=>?_);subst z1;subst z2;rw[he];refine PySem.W.callWith_of (P:=λh=>∃fa fo fd,u1=.ref fa/\h.get? fa=xn fo/\fo.data=.func fd) (by show ((false||(cB pos (ar es X.env)).any (·.1))||false)=false;rw[gE];rfl) (λh ⟨fa,fo,fd,q1,q2,q3⟩=>?_) (nF ?_)
 ·subst q1;obtain⟨cls,dict,data,slots⟩:=fo;have BN:data=.func fd:=q3;subst BN;exact⟨.frame,.inl rfl,(PySem.W.Looks.ld (part:=xI) q2).andThen .now⟩
 ·have rN:=ha pos pins s1 σ H' _ I1 h;rw[he]at rN;refine L2.thn rN λus s2 ⟨vs,H2,I2,r2,⟨fa,fo,q1,q2,⟨fd,q3⟩,q4⟩,q5⟩=>⟨?_,?_⟩
  ·have xD:u1=.ref fa:=by rw[q1]at r1;exact r1
   exact⟨fa,fo,fd,xD,(I2.hok fa _ q2).1,q3⟩
  ·have xD:u1=.ref fa:=by rw[q1]at r1;exact r1
   subst xD;refine uD (gQ (q4 X.A X.stack s2 us vs Q E0 hr I2.env0 r2 q5) λr s' hq=>?_);cases r with
   |error e=>exact cJ hq
   |ok fl=>
    cases fl with
    |ret u=>exact I2.after hq
    |next=>exact cJ hq
    |brk=>exact cJ hq
    |cont=>exact cJ hq
def StE.getF{K:af}{Z:List D}{σ:L2.St}{H P:Hp}{F:List aw}{Φ:Hp->V->Prop}(h:StE K M Z σ H P F){i:Nat}(hm:M[i]?=xn (.fn Φ)):∃v,σ[i]?=xn (xn v)/\∀H',Same (cut H F) H'->Φ H' v:=by
 obtain⟨G,h1,h3⟩:=h.all;obtain⟨d,o,f,pre,post,e1,e2,⟨_,v,rfl,q⟩,e4,_⟩:=h1.at_ hm;exact⟨v,e2,q⟩
def b4c(i:Nat){k n:Nat}{m:List D->Option D}(hr:Room k X.A)(h:PAX X M (e0::es) f)(hm:M[i]?=xn (.fn (FnV X.prog X.w X.K X.mg X.base k n u m)):=by rfl)(hu:u.shut=true:=by rfl)(hl:(e0::es).length=n:=by rfl)(hfl:∀Z ds,f Z=xn ds->ds.length=(e0::es).length)
  (hN:X.N[i]?=xn x:=by rfl) (hv:Vis X.env.scope x:=by first|exact bY rfl|exact bR (bY rfl)|exact bR (bR rfl)) (lS:(x==("__debug__":bE))=false:=by decide) (iF:(x==("__classdict__":bE))=false:=by decide)
  (he:ar (e0::es) X.env=(false,cK e0 X.env)::ar es X.env:=by rfl) (gE:(cB pos (ar es X.env)).any (·.1)=false:=by rfl) :
  PX X M (.Call (.Name x p) (e0::es) [] pos) (eCl m f) (.new u):=by
 obtain⟨t,pa,qa⟩:=h;refine .mk ⟨_,b4b (i:=i) (n:=n) (m:=m) (u:=u) hr pa hN hv lS iF he gE,λZ σ H P F d Q S hf q=>?_⟩;obtain⟨ds,h1,hf⟩:=bnd hf;obtain⟨v,x_,tR⟩:=S.getF hm;refine⟨v,x_,qa Z σ H P F ds _ S h1 λvs H1 e1 r1=>⟨tR H1 (j5.trans e1),?_⟩⟩;refine⟨ds,d,by rw[r1.length,hfl Z ds h1,hl],r1,hf,λv H' fp e o nd fr=>q v H' (e1.trans e) ⟨fp,o.shut_out (λa ha=>?_) u hu,nd,λa ha=>e1.free (fr a ha)⟩⟩;rcases aq.mp ha with z|z
 ·exact o.lst u a z
 ·exact S.lst' (e1.trans e) a z
end
def spL(K:af)(n:Nat)(Φ:(List D->Option D)->Hp->V->Prop)(m:(List D->Option D)->List D->Option D)(u:Ty):Sp:=λvs H Q _=>∃rs v gm ds d,vs=rs++[v]/\rs.length=n/\DenAll K H rs ds/\(∀H',Same H H'->Φ gm H' v)/\m gm ds=xn d/\
 ∀v H' fp,Same H H'->Own K H' fp u v d fp->fp.Nodup->(∀a∈fp,H a=xI)->Q v H'
def fnL(us:List Ty)(n:Nat)(g:(List D->Option D)->EvS):(List D->Option D)->List D->Option D:=λgm ds=>if argsOk us ds then (g gm (ds++(.none::aT n .none))).bind λo=>match o with
 |.rt d=>xn d
 |_=>xI
 else xI
theorem StAll.app{K:af}{H:Hp}{F:List aw}:∀{M1 M2:List Md} {Z1 Z2:List D} {σ1 σ2:L2.St} {f1 f2:List aw},StAll K H F M1 Z1 σ1 f1->StAll K H F M2 Z2 σ2 f2->StAll K H F (M1++M2) (Z1++Z2) (σ1++σ2) (f1++f2)
 |[],_,_,_,_,_,_,_,h,q=>by simp only[StAll]at h;obtain⟨rfl,rfl,rfl⟩:=h;exact q
 |m::M,_,_,_,_,_,_,_,h,q=>by
  simp only[StAll]at h;obtain⟨d,Z,o,σ,f,g,rfl,rfl,rfl,h1,h2⟩:=h;rw[aS];exact j6 h1 (StAll.app h2 q)
theorem a2r{K:af}{H:Hp}{F:List aw}:∀n:Nat,StAll K H F (aT n .dead) (aT n .none) (aT n xI) []
 |0=>L3
 |n+1=>j6 (f:=[]) (g:=[]) rfl (a2r n)
def b4d{P:bw}{w:b_}{K:af}{mg:bE->Option aj}{base:cR}{x:bE}{st:iy}{f:aw}{fd:dR}{N ps:List bE}{k n:Nat}{us:List Ty}{u:Ty}{Φ:(List D->Option D)->Hp->V->Prop}{g:(List D->Option D)->EvS}{M':(List D->Option D)->List Md}(F:Fun K x x st f fd)(S:FnScope N ps (g7 st))(nO:us.length+1=ps.length)(hn:N.length=ps.length+n)
  (hb:∀(gm:List D->Option D) (gr:aj) (A:bQ) (outer:List oe) (s:au) (H:Hp) (E:XK),Room k (A.deeper (jo x (g7 st) s.heap.objs.size f gr))->PSsX (a0H CX0 P w K mg base N x (g7 st) f gr A outer s H E).nox u [] (us.map .own++(.fn (Φ gm)::aT n .dead)) (v9 st) (g gm) (M' gm)) :
  FnOk P w K mg base CX0 (k+1) f fd ps (spL K us.length Φ (fnL us n g) u):=by
 refine F.ok S (λvs H Q E h=>?_) (λgr A outer s H vs Q E hr h=>?_)
 ·obtain⟨rs,v,gm,ds,d,rfl,hl,_⟩:=h;rw[az,hl];exact nO
 obtain⟨rs,v,gm,ds,d,rfl,hl,hd,hΦ,hm,q⟩:=h;obtain⟨t,p,r⟩:=(hb gm gr A outer s H E hr).out;refine⟨t,p,?_⟩;unfold fnL at hm;by_cases ha:argsOk us ds=true
 ·rw[aB ha]at hm;obtain⟨o,h1,h2⟩:=bnd hm;cases o with
  |rt d'=>
   have kG:xn d'=xn d:=h2;cases kG
   have e:L2.start N (rs++[v])=rs.map xn++(xn v::aT n xI):=by
    unfold L2.start;rw[show N.length-(rs++[v]).length=n by rw[az,hl];show N.length-(us.length+1)=n;lia];simp
   rw[e];have h0:=R8 (K:=K) (H:=H) ha hd 0;simp only[gJ,bg]at h0;have qo:=h0.app (j6 (K:=K) (H:=H) (F:=[]) (m:=.fn (Φ gm)) (d:=iB) (o:=xn v) (f:=[]) ⟨rfl,v,rfl,λH' e'=>hΦ H' (by rw[K6]at e';exact e')⟩ (a2r n));refine r _ _ _ H H [] (.rt d) ⟨⟨_,qo,bA,λa ha=>(nomatch ha)⟩,λa ha=>(nomatch ha),by rw[K6];exact Same.refl H⟩ h1 ?_;exact λv H' fp o nd fr e=>q v H' fp e o nd fr
  |_=>cases h2
 ·rw[aJ ha]at hm;cases hm
section
variable {X:Cx}{M:List Md}{e0:Expr}{es:List Expr}{f:EvA}{u:Ty}{x y:bE}{p pv pos:fM}
def b6O:∀(Z:List D) ds,b9 Z=xn ds->ds.length=0:=λZ ds h=>by cases h;rfl
def b4e(h:∀Z ds,fr Z=xn ds->ds.length=n):∀Z ds,a7 fa fr Z=xn ds->ds.length=n+1:=λZ ds q=>by
 obtain⟨x,h1,q⟩:=bnd q;obtain⟨xs,h2,q⟩:=bnd q;cases q
 rw[aV,h Z xs h2]
noncomputable def PAL(X:Cx)(M:List Md)(es:List Expr)(f:EvA)(Ψ:Hp->V->Prop):Prop:=
 ∃t,PA X es t/\∀(Z:List D) (σ:L2.St) (H P:Hp) (F:List aw) (ds:List D) (Q:List V->Hp->Prop),StE X.K M Z σ H P F->f Z=xn ds->
  (∀vs v H',Same H H'->DenAll X.K H' vs ds->Ψ H' v->Q (vs++[v]) H')->t σ H Q
def b4f(ha:PX X M a fa ca)(hr:PAL X M es fr Ψ)(hs:ar (a::es) X.env=(false,cK a X.env)::ar es X.env:=by rfl):PAL X M (a::es) (a7 fa fr) Ψ:=by
 obtain⟨ta,pa,qa⟩:=ha.out;obtain⟨tr,pr,qr⟩:=hr;refine⟨_,k8 pa pr hs,λZ σ H P F ds Q S hf q=>?_⟩;obtain⟨x,h1,hf⟩:=bnd hf;obtain⟨xs,h2,hf⟩:=bnd hf;cases hf
 exact qa Z σ H P F _ _ S h1 λv H1 e1 r1=>qr Z σ H1 P F _ _ (S.grow e1) h2 λvs w H2 e2 r2 hw=>q (v::vs) w H2 (e1.trans e2) (denAll_cons (r1.den.up e2) r2) hw
end
def a7n:∀(l r:List aj),kz l->kz r->kz (l++r):=by
 intro l
 fun_induction kz l with
 |case1=>intro r _ h;exact h
 |case2 a t b u c rest ih=>intro r h1 h2;simp only[bB,kz];exact ih r h1 h2
 |case3=>intro r h;exact h.elim
def b1U:∀(l r:List aj),kz l->lV pos (l++r)=xn cv->lV pos l=xn cv∨lV pos r=xn cv:=by
 intro l
 fun_induction kz l with
 |case1=>intro r _ h;exact .inr h
 |case2 a t b u c rest ih=>
  intro r h1 h2;simp only[bB,lV]at h2 ⊢
  split at h2
  ·rename_i hc
   rw[aB hc];exact .inl h2
  ·rename_i hc
   rw[aJ hc];exact ih r h1 h2
 |case3=>intro r h;exact h.elim
def LamO(q:bE)(params:lZ)(body:Expr)(scope:gk)(clos:List (bE×aw))(H:Hp)(fa:aw):Prop:=
 ∃pm c' mh oc vs t b,H fa=xn (.frz (eN "<lambda>" q params body scope clos pm c' mh) (.own fa))/\H c'=xn (.frz oc (.own b))/\oc.data=.fields vs/\vs[1]?=xn (.str q t)
def LamO.up(h:LamO q params body scope clos H fa)(e:Same H H'):LamO q params body scope clos H' fa:=by
 obtain⟨pm,c',mh,oc,vs,t,b,h1,h2,h3⟩:=h;exact⟨pm,c',mh,oc,vs,t,b,e _ _ h1,e _ _ h2,h3⟩
def c1w(q:bE)(params:lZ)(body:Expr)(scope:gk)(clos:List (bE×aw)):TE:=λ_ H Q=>∀fa H',Same H H'->LamO q params body scope clos H' fa->Q (.ref fa) H'
def b1V{X:Cx}(hx:x∈L5)(hP:B0 X.K x=xn P)(hc:X.env.code=.ref c)(hd:gw X.base c P)(hq:X.env.qual++"<lambda>"=V2 x)
  (pR:oV scope X.env=pure clos) (sW:defaultsOf params X.env=([],[])):PE X (.Lambda params body scope kg) (c1w (V2 x) params body scope clos):=by
 intro pins s σ H Q I h;refine PySem.W.kla_eval sW ?_;rw[hq];obtain⟨qs,t0,e1,e2⟩:=I.tabs x hx P hP;obtain⟨ps,vV,ht,hf⟩:=(show a6x H s.heap P qs from I.hok P _ e1);have yK:s.heap.Ns bS X.mg:=I.mod.glob.keeps I.bk;obtain⟨bm,ob,b1,b2,b3,b4,b5,b6⟩:=I.mod.bmain;have Dv:bS≠P:=λq=>by
  obtain⟨o,es,ep,e,jR,_⟩:=yK;rw[q,vV]at e;cases e;cases jR
 have DQ:bm≠P:=λq=>by
  have e:=I.bk _ _ b3;rw[q,vV]at e;cases e;cases b4
 have DR:bm≠bS:=λq=>by
  obtain⟨o,es,ep,e,jR,_⟩:=I.mod.glob;rw[q,e]at b3;cases b3;rw[jR]at b6;cases b6
 have hB:s.heap.BuiltinsAt X.mg P:=⟨bm,ob,b1,b2,DR,DQ,I.bk _ _ b3,b4,b5,b6⟩;have hC:gw s.heap c P:=hd.keeps I.bk;cases hn:lV kg ps.toList with
 |some cv=>
  obtain⟨c',oc,vs,q,t,t',rfl,z2,z3,z4,z5⟩:=hf kg cv hn;rw[e2]at z5;have Bu:rd (V2 x) t0=rd q t':=aF z5;cases Bu
  refine PySem.W.kla_makeFunctionHit (mg:=X.mg) pR I.ok.glob yK hc hC vV ht hn hB λmh h' tk hk ku=>?_
  have nT:H h'.objs.size=xI:=I.hok.fresh ku;have I':=I.laid (a:=h'.objs.size) (o:=.frz (eN "<lambda>" (V2 x) params body scope clos ((X.mg "__name__").getD .none) c' mh) (.own h'.objs.size)) (t':=tk) (h':=h'.push (eN "<lambda>" (V2 x) params body scope clos ((X.mg "__name__").getD .none) c' mh)) (λb u e=>aE _ (hk b u e)) ku ⟨be _ rfl,_,be _ rfl⟩;refine⟨.ref h'.objs.size,_,I',rfl,h _ _ (l6 nT _) ⟨_,c',mh,oc,vs,t,P,g8,?_,z3,z4⟩⟩;rw[c7 (i7 z2 nT)];exact z2
 |none=>
  refine PySem.W.kla_makeFunction (mg:=X.mg) pR I.ok.glob yK hc hC vV ht hn Dv hB λc' mh h' tk Cc uc jv yi An=>?_
  obtain⟨c2,oc,vs,t,rc,ve,AF,qm⟩:=yi;cases rc
  have DW:P<s.heap.objs.size:=aU vV;have ug:H c'=xI:=I.hok.fresh uc;have sV:s.heap.objs.size<=h'.objs.size:=eV (gU uc jv);have nT:H h'.objs.size=xI:=I.hok.fresh sV;have gM:c'≠h'.objs.size:=bM jv;have low:∀b u,H b=xn u->upd (upd H c' (.frz oc (.own P))) h'.objs.size (.frz (eN "<lambda>" (V2 x) params body scope clos ((X.mg "__name__").getD .none) c' mh) (.own h'.objs.size)) b=xn u:=λb u e=>by
   rw[c7 (i7 e nT),c7 (i7 e ug)];exact e
  have xM:∀b,b<s.heap.objs.size->H b=xI->upd (upd H c' (.frz oc (.own P))) h'.objs.size (.frz (eN "<lambda>" (V2 x) params body scope clos ((X.mg "__name__").getD .none) c' mh) (.own h'.objs.size)) b=xI:=λb hb e=>by
   rw[c7 (bM (bo hb sV)),c7 (bM (bo hb uc))];exact e
  have kp:∀b o,b≠P->s.heap.get? b=xn o->(h'.push (eN "<lambda>" (V2 x) params body scope clos ((X.mg "__name__").getD .none) c' mh)).get? b=xn o:=λb o hb e=>aE _ (Cc b o hb e)
  have nP:∀b,H b=xI->b≠P:=λb e z=>by rw[z,e1]at e;cases e
  have I':=I.un (t':=tk) (h':=h'.push (eN "<lambda>" (V2 x) params body scope clos ((X.mg "__name__").getD .none) c' mh)) (H':=upd (upd H c' (.frz oc (.own P))) h'.objs.size (.frz (eN "<lambda>" (V2 x) params body scope clos ((X.mg "__name__").getD .none) c' mh) (.own h'.objs.size)))
   ⟨λb o e n _ _=>kp b o (nP b n) e,λb o e n _ _=>⟨o.slots,kp b o (nP b n) e⟩,λb o e n _=>xM b (aU e) n,λb o e _=>by
    by_cases hb:b=P
    ·exact⟨_,by rw[hb];exact aE _ An⟩
    ·exact⟨o,kp b o hb e⟩,λb xs e=>low b _ e,λb o u e=>low b _ e,λb Fb e=>⟨#[],by rw[low b _ e];simp⟩⟩ (λb u e=>by
    by_cases vO:b=h'.objs.size
    ·subst vO;rw[g8]at e;cases e
     exact⟨be _ rfl,_,be _ rfl⟩
    ·rw[c7 vO]at e;by_cases AI:b=c'
     ·subst AI;rw[g8]at e;cases e
      exact⟨aE _ ve,_,aE _ ve⟩
     ·rw[c7 AI]at e;by_cases AH:b=P
      ·subst AH;rw[e1]at e;cases e
       refine⟨_,aE _ An,?_,λpos cv z=>?_⟩
       ·have:(ps++#[jt kg.line,jt kg.col,bH c']).toList=ps.toList++[jt kg.line,jt kg.col,bH c']:=by simp
        rw[this];exact a7n _ _ ht trivial
       ·have:(ps++#[jt kg.line,jt kg.col,bH c']).toList=ps.toList++[jt kg.line,jt kg.col,bH c']:=by simp
        rw[this]at z;rcases b1U _ _ ht z with z|z
        ·obtain⟨c3,BU,BA,q3,t3,t4,y1,y2,y3,y4,y5⟩:=hf pos cv z;exact⟨c3,BU,BA,q3,t3,t4,y1,low _ _ y2,y3,y4,y5⟩
        ·have z':cv=.ref c':=by
          simp only[jt,lV]at z
          split at z
          ·exact (aF z).symm
          ·cases z
         refine⟨c',oc,vs,V2 x,t,t0,z',?_,AF,qm,e2⟩;rw[c7 gM,g8]
      ·refine (I.hok b u e).stay (λd v jR q=>kp d v (λz=>?_) q) (λd q=>low _ _ q) λd v q=>low _ _ q
       rcases jR with z'|z'
       ·exact AH (z'.symm.trans z)
       ·rw[z,e1]at z';cases z')
  refine⟨.ref h'.objs.size,_,I',rfl,h _ _ (λb u e=>low b u e) ⟨_,c',mh,oc,vs,t,P,g8,?_,AF,qm⟩⟩;rw[c7 gM,g8]
def a9S(P:bw)(w:b_)(K:af)(mg:bE->Option aj)(base:cR)(N:List bE)(q:bE)(scope:gk)(f:aw)(cd:aj)(cl:List (bE×aw))(A:bQ)(outer:List oe)(s:au)(H:Hp):Cx where
 prog:=P
 w:=w
 K:=K
 mg:=mg
 base:=base
 A:=A.deeper (jx q scope s.heap.objs.size f cd cl)
 N:=N
 s₀:=s
 H₀:=H
 env:=jx q scope s.heap.objs.size f cd cl
 outer:=outer
 stack:=jx q scope s.heap.objs.size f cd cl::outer
 ex:=[]
 calm:=true
 fn:=λ_=>false
 pn:=[]
 xe:=λ_ _=>False
structure LamScope (N ps ys:List bE) (sc:gk) (cl:List (bE×aw)):Prop where
 kind:sc.kind=.function
 co:sc.isCoroutine=false
 gen:sc.isGenerator=false
 nd:N.Nodup
 pre:N=ps++ys
 par:∀x∈ps,sc.names.lookup x=xn .local
 fre:∀y∈ys,sc.names.lookup y=xn .free
 ncell:∀x∈sc.names,x.2≠.cell
 has:(sc.names.all λx=>x.2 !=.free||(cl.lookup x.1).isSome)=true
def CellsIn(cl:List (bE×aw))(H:Hp):List bE->List V->Prop
 |[],vs=>vs=[]
 |y::ys,vs=>∃v r c ob uo,vs=v::r/\cl.lookup y=xn c/\H c=xn (.frz ob (.own c))/\ob.data=.cell (xn uo)/\RelV v uo/\CellsIn cl H ys r
section
variable {cl:List (bE×aw)}{H H':Hp}
theorem CellsIn.up(e:Same H H'):∀{ys:List bE} {vs:List V},CellsIn cl H ys vs->CellsIn cl H' ys vs
 |[],_,h=>h
 |y::ys,_,h=>by
  obtain⟨v,r,c,ob,uo,h1,h2,h3,h4,h5,h6⟩:=h;exact⟨v,r,c,ob,uo,h1,h2,e _ _ h3,h4,h5,CellsIn.up e h6⟩
theorem CellsIn.len:∀{ys:List bE} {vs:List V},CellsIn cl H ys vs->vs.length=ys.length
 |[],_,h=>by rw[show _=[] from h];rfl
 |y::ys,_,h=>by
  obtain⟨v,r,c,ob,uo,rfl,h2,h3,h4,h5,h6⟩:=h;rw[aV,aV,CellsIn.len h6]
theorem CellsIn.get:∀{ys:List bE} {vs:List V} {i:Nat} {y:bE} {v:V},CellsIn cl H ys vs->ys[i]?=xn y->vs[i]?=xn v->∃c ob uo,cl.lookup y=xn c/\H c=xn (.frz ob (.own c))/\ob.data=.cell (xn uo)/\RelV v uo
 |[],_,i,y,v,_,e,_=>by simp at e
 |y0::ys,_,0,y,v,h,e1,e2=>by
  obtain⟨v',r,c,ob,uo,rfl,h2,h3,h4,h5,h6⟩:=h;have Eu:y0=y:=by simpa using e1
  have Et:v'=v:=by simpa using e2
  subst Eu Et;exact⟨c,ob,uo,h2,h3,h4,h5⟩
 |y0::ys,_,i+1,y,v,h,e1,e2=>by
  obtain⟨v',r,c,ob,uo,rfl,h2,h3,h4,h5,h6⟩:=h;exact CellsIn.get h6 (by simpa using e1) (by simpa using e2)
end
def b4g(cl:List (bE×aw))(H:Hp):Prop:=∀y c,cl.lookup y=xn c->∃ob uo,H c=xn (.frz ob (.own c))/\ob.data=.cell uo
noncomputable def fnE(us:List Ty)(qB:List D)(f:EvE):List D->Option D:=λds=>if argsOk us ds then f (ds++qB) else xI
theorem b7V{K:af}{H:Hp}:∀{vs:List V} {ds:List D},DenAll K H vs ds->StAll K H [] (aT vs.length (.own .f)) ds (vs.map xn) []
 |_,[],h=>by rw[h.nil_inv];exact L3
 |_,d::ds,h=>by
  obtain⟨v,r,rfl,h1,h2⟩:=h.cons_inv;refine j6 (K:=K) (H:=H) (F:=[]) (m:=.own .f) (f:=[]) (g:=[]) ⟨v,rfl,?_⟩ (b7V h2);simp only[Own,K6];exact⟨trivial,h1⟩
theorem a2s:∀(ps:List α) (us:List β),((ps.zip us).map (·.1)).Sublist ps
 |[],_=>by rw[nE];exact ik _
 |p::ps,[]=>by rw[mS];exact List.nil_sublist _
 |p::ps,u::us=>by rw[dt,ax];exact (a2s ps us).cons₂ p
def a3G{ps:List bE}{us:List aj}:∀{i:Nat} {y:bE} {v:aj},ps.Nodup->ps[i]?=xn y->us[i]?=xn v->(ps.zip us).reverse.lookup y=xn v:=by
 intro i y v nd h1 h2;have hm:(y,v)∈(ps.zip us).reverse:=by
  rw[List.mem_reverse];exact br (by rw[qE];exact⟨h1,h2⟩)
 have hk:(((ps.zip us).reverse).map (·.1)).Nodup:=by
  rw[List.map_reverse];have h0:((ps.zip us).map (·.1)).Nodup:=nd.sublist (a2s ps us);exact uz.mpr (h0.imp λz=>cY z)
 have key:∀l:List (bE×aj),(l.map (·.1)).Nodup->(y,v)∈l->l.lookup y=xn v:=by
  intro l
  induction l with
  |nil=>intro _ h;cases h
  |cons p l ih=>
   intro hn hm;rw[ax,bV]at hn;obtain⟨k,z⟩:=p;rcases aH.mp hm with e|e
   ·cases e;simp[List.lookup]
   ·have:(y==k)=false:=by
     rw[gF];intro q;exact hn.1 (q▸aG.mpr ⟨_,e,rfl⟩)
    rw[fQ,this];exact ih hn.2 e
 exact key _ hk hm
def b6P{P:bw}{w:b_}{K:af}{mg:bE->Option aj}{base:cR}{k:Nat}{q:bE}{params:lZ}{body:Expr}{scope:gk}{cl:List (bE×aw)}{N ps ys:List bE}{us:List Ty}{u:Ty}{f:EvE}{lK:List V}{qB:List D}{H:Hp}{fa:aw}
  (L:LamO q params body scope cl H fa) (S:LamScope N ps ys scope cl) (sR:∀x y c,cl.lookup x=xn c->cl.lookup y=xn c->x=y) (hC:CellsIn cl H ys lK) (xf:b4g cl H) (hD:DenAll K H lK qB) (nO:us.length=ps.length)
  (nq:∀(pm:aj) (c:aw) (mh:aj) (us:List aj),us.length=ps.length->pX (PySem.W.kla_fn "<lambda>" q params body scope cl pm (.ref c) mh) ⟨us,[]⟩=pure (ps.zip us))
  (hb:∀(c:aw) (A:bQ) (outer:List oe) (s:au) (H:Hp),Room k (A.deeper (jx q scope s.heap.objs.size fa (.ref c) cl))->PX (a9S P w K mg base N q scope fa (.ref c) cl A outer s H) (us.map .own++aT ys.length (.own .f)) body f (.new u)) :
  FnV P w K mg base (k+1) ps.length u (fnE us qB f) H (.ref fa):=by
 obtain⟨pm,c',mh,oc,BB,t0,b0,l1,l2,l3,l4⟩:=L;refine⟨fa,_,rfl,l1,⟨_,rfl⟩,λA outer s as vs Q E hr e0 rv ⟨ds,d,hl,hd,hm,hq⟩=>?_⟩;obtain⟨C,memC,uO⟩:∃C:List aw,(∀c∈C,∃y,cl.lookup y=xn c)/\∀y c,cl.lookup y=xn c->c∈C:=
  ⟨(cl.map (·.1)).filterMap λy=>cl.lookup y,λc hc=>let⟨y,_,e⟩:=dU.mp hc;⟨y,e⟩,λy c e=>dU.mpr ⟨y,aG.mpr ⟨(y,c),cy e,rfl⟩,e⟩⟩
 have J:Junk H C:=λa ha u e=>by
  obtain⟨y,hy⟩:=memC a ha;obtain⟨ob,uo,h1,_⟩:=xf y a hy;rw[h1]at e;cases e
  exact⟨ob,rfl⟩
 have B_:∀a∈C,∃u,H a=xn u:=λa ha=>by
  obtain⟨y,hy⟩:=memC a ha;obtain⟨ob,uo,h1,_⟩:=xf y a hy;exact⟨_,h1⟩
 have lim:s.heap.NoLimit:=e0.mod.nolimit.keeps λb o e=>(e0.bs b o e).1
 have ho:s.heap.get? fa=xn (eN "<lambda>" q params body scope cl pm c' mh):=(e0.hok fa _ l1).1;have DH:s.heap.CodeRec (.ref c') q:=⟨c',oc,BB,t0,rfl,(e0.hok c' _ l2).1,l3,l4⟩;have DT:as.length=ps.length:=by rw[<-rv.length];exact hl
 have BV:ps.Nodup:=by have:=S.nd;rw[S.pre]at this;exact this.sublist (ko _ _)
 refine PySem.W.kla_callFunE hr.depth ho rfl S.co S.gen rfl DH ?_;rw[nq pm c' mh as DT];refine aC (wpAny_newFunctionEnv S.ncell (λy hy=>S.par _ (jh hy).1) (λh₁ sJ ye=>⟨lim.fresh _ ye,?_⟩) S.kind);show gR _ _ (.expr body (jx q scope s.heap.objs.size fa (.ref c') cl)) _ _;have oz:∀b o,s.heap.get? b=xn o->h₁.get? b=xn o:=λb o e=>ye.extBut b o (bM (aU e)) (aE _ e)
 have si:∀b:aw,b∉(a9S P w K mg base N q scope fa (.ref c') cl A outer s (VS.cut H C)).ex:=λb z=>absurd (show b∈([]:List aw) from z) (by simp)
 have CW:N.length=ps.length+ys.length:=by rw[S.pre,az]
 have I:Inv (a9S P w K mg base N q scope fa (.ref c') cl A outer s (VS.cut H C)) [] (vs.map xn++lK.map xn) (VS.cut H C) {s with heap:=h₁,toks:=s.toks+(ps.zip as).length}:=by
  refine⟨⟨e0.mod,S.kind,rfl,rfl,ay _,sR,λx hx=>?_,λx c hx _=>(nomatch hx),λ_=>hr.hd,bQ.frames_deeper e0.frames,.inr ⟨rfl,rfl⟩,λb z=>absurd z (si b),λb o e=>⟨(e0.bs b o e).1,x9 (e0.bs b o e).2⟩,e0.bsz,λb _ _=>si b,λb z=>absurd z (si b),e0.funs,λb hb=>x9 (e0.frf b hb),b1T e0.tabs J⟩,
   rfl,e0.bare,Un.kept oz,⟨_,sJ,λi x v h1 h2 h3=>?_⟩,λx c e=>?_,x9 (e0.hok.fresh (ay _)),λx c e=>V6 (uO x c e),λp hp=>absurd (show p∈([]:List (aw×fY)) from hp) (by simp),(a7m e0.hok J).kept oz,?_⟩
  ·have uT:scope.names.lookup x=xn .cell∨scope.names.lookup x=xn .free:=hx;rcases uT with z|z
   ·exact absurd rfl (S.ncell _ (cy z))
   ·have w:=dH.mp S.has _ (cy z);rw[ll]at w;rcases w with w|w
    ·exact absurd (show (fC !=fC)=true from w) (by decide)
    ·exact kn.mp w
  ·have l_:(ps++ys)[i]?=xn x:=by rw[<-S.pre];exact h1
   by_cases hi:i<ps.length
   ·rw[dI hi]at l_;rw[dI (by rw[ai,hl];exact hi),aR]at h2;have kG:vs[i]?=xn v:=by
     cases e:vs[i]? with
     |none=>rw[e]at h2;cases h2
     |some a=>rw[e]at h2;cases h2;rfl
    obtain⟨u',hu,r⟩:=rv.get kG;exact⟨u',r,.inl ⟨S.par x (br l_),a3G BV l_ hu⟩⟩
   ·rw[cQ (by lia)]at l_;rw[cQ (by rw[ai,hl];lia),ai,aR,hl]at h2;have kG:lK[i-ps.length]?=xn v:=by
     cases e:lK[i-ps.length]? with
     |none=>rw[e]at h2;cases h2
     |some a=>rw[e]at h2;cases h2;rfl
    obtain⟨c,ob,uo,z1,z2,z3,z4⟩:=hC.get l_ kG;exact⟨uo,z4,.inr ⟨.inr (S.fre x (br l_)),c,z1,ob,oz c ob (e0.hok c _ z2).1,z3⟩⟩
  ·obtain⟨ob,uo,z1,z2⟩:=xf x c e;exact⟨uo,ob,oz c ob (e0.hok c _ z1).1,z2⟩
  ·show _=N.length;rw[az,ai,ai,hl,hC.len,CW]
 obtain⟨t,pt,qt⟩:=(hb c' A outer s (VS.cut H C) (hr.deeper _)).out;unfold fnE at hm;by_cases ha:argsOk us ds=true
 ·rw[aB ha]at hm;have vL:DenAll K (VS.cut H C) vs ds:=DenAll.junk J ds hd;have DJ:DenAll K (VS.cut H C) lK qB:=DenAll.junk J qB hD;have h0:=R8 (K:=K) (H:=VS.cut H C) ha vL 0;simp only[gJ,bg]at h0;have h1:=b7V DJ;rw[hC.len]at h1;have SE:StE K (us.map .own++aT ys.length (.own .f)) (ds++qB) (vs.map xn++lK.map xn) (VS.cut H C) (VS.cut H C) []:=⟨⟨_,h0.app h1,λa ha=>(nomatch ha)⟩,λa ha=>(nomatch ha),by rw[K6];exact Same.refl _⟩;refine PySem.W.kla_codeExpr (d_ (pt [] _ _ (VS.cut H C) (λv H'=>Same (VS.cut H C) H'/\ResR K (.new u) (VS.cut H C) H' [] v d) I (qt (ds++qB) _ (VS.cut H C) (VS.cut H C) [] d _ SE hm λv H' e r=>⟨e,r⟩)) (λv s' hs=>?_) λe s' hs=>(show False from hs).elim);obtain⟨v',H',J',r',e',fp,o,nd,fr⟩:=hs;have oI:∀c∈C,H' c=xI:=λc hc=>by
   obtain⟨y,hy⟩:=memC c hc;exact J'.freeC y c hy
  have inn:∀{b:aw} {o:HO},H' b=xn o->a7l C H H' b=xn o:=λ{b o} q=>by
   rw[p8 (λz=>by rw[oI b z]at q;cases q)];exact q
  have nC:∀{b:aw},H b=xI->b∉C:=λ{b} n z=>by
   obtain⟨u,hu⟩:=B_ b z;rw[n]at hu;cases hu
  have xi:∀a∈fp,a∉C:=λa ha z=>by
   obtain⟨ys,q⟩:=o.lst u a ha;rw[oI a z]at q;cases q
  refine (show CE outer P w H s Q v s' from⟨v',a7l C H H',J'.os,J'.bare,⟨λb o q n hb hx=>J'.base.keep b o q (x9 n) hb hx,λb o q n hb hx=>J'.base.slot b o q (x9 n) hb hx,λb o q n hx=>?_,J'.base.there,λb xs e=>?_,λb o u e=>?_,λb ps e=>?_⟩,λb o e=>?_,r',hq v' _ fp (λb o e=>?_) ?_ nd λa ha=>?_⟩)
  ·rw[p8 (nC n)];exact J'.base.free b o q (x9 n) hx
  ·have nb:=J.out e λo z=>(nomatch z)
   rw[p8 nb];exact J'.base.tups b xs (g9 nb e)
  ·by_cases hb:b∈C
   ·rw[a1a hb];exact e
   ·rw[p8 hb];exact J'.base.frzs b o u (g9 hb e)
  ·have nb:=J.out e λo z=>(nomatch z)
   obtain⟨more,z⟩:=J'.base.tbls b ps (g9 nb e);exact⟨more,by rw[p8 nb];exact z⟩
  ·by_cases hb:b∈C
   ·rw[a1a hb]at e;obtain⟨ob,rfl⟩:=J b hb o e;have z:=(e0.hok b _ e).1;have z':=J'.base.keep b ob z (V6 hb) (λy=>by rw[e0.frf b y]at e;cases e) (by intro y;exact absurd (show b∈([]:List aw) from y) (by simp));exact⟨z',_,z'⟩
   ·rw[p8 hb]at e;exact (J'.hok b o e).stay (λ_ _ _ q=>q) (λb q=>inn q) λb u q=>inn q
  ·by_cases hb:b∈C
   ·rw[a1a hb];exact e
   ·rw[p8 hb];exact e' b o (g9 hb e)
  ·refine Own.frame (λb o' hb=>?_) u o λa ha=>p8 (xi a ha)
   obtain⟨n1,n2⟩:=m4 hb;exact g9 (λz=>n1 (ak _ z)) (inn n2)
  ·have:=fr a ha;rw[Y3 (xi a ha)]at this;exact this
 ·rw[aJ ha]at hm;cases hm
def a9T(X:Cx)(cl:List (bE×aw)):List bE->List Nat->Prop
 |[],js=>js=[]
 |y::ys,js=>∃j r c,js=j::r/\X.N[j]?=xn y/\X.env.kindOf y=xn .cell/\X.env.cells.lookup y=xn c/\cl.lookup y=xn c/\a9T X cl ys r
def c1x(X:Cx)(cl:List (bE×aw)):Prop:=∀p∈cl,X.env.cells.lookup p.1=xn p.2/\X.fn p.1=true
def b6Q(σ:L2.St):List Nat->List V->Prop
 |[],vs=>vs=[]
 |j::js,vs=>∃v r,vs=v::r/\σ[j]?=xn (xn v)/\b6Q σ js r
def b9Q(X:Cx)(cl:List (bE×aw))(ys:List bE)(js:List Nat)(sp:Sp)(t:TA):TE:=λσ H Q=>t σ H λvs H1=>∃lK,b6Q σ js lK/\
 ∀(H2:Hp) (C:List aw),(∀x y c,cl.lookup x=xn c->cl.lookup y=xn c->x=y)->Same H1 H2->CellsIn cl H2 ys lK->b4g cl H2->Junk H2 C->(∀b,b∉C->H2 b=H1 b)->(∀b∈C,H1 b=xI)->sp vs H2 (λv H'=>Junk H' C->Q v (VS.cut H' C)) E0
theorem a7o{cl:List (bE×aw)}(I:Inv X pins σ H s)(h2:∀y c,cl.lookup y=xn c->∀ob,s.heap.get? c=xn ob->H2 c=xn (.frz ob (.own c))) :
  ∀{ys:List bE} {js:List Nat} {lK:List V},a9T X cl ys js->b6Q σ js lK->CellsIn cl H2 ys lK
 |[],js,lK,h,q=>by
  rw[show js=[] from h]at q;exact q
 |y::ys,_,lK,h,q=>by
  obtain⟨j,r,c,rfl,h1,h3,h4,h5,h6⟩:=h;obtain⟨v,rs,rfl,q1,q2⟩:=q;obtain⟨m,hn,hl⟩:=I.loc;obtain⟨u,ru,lk⟩:=hl j y v h1 q1 (.inr (.inl h3));rcases lk with⟨k,_⟩|⟨k,c',e',ob,z1,z2⟩
  ·rw[h3]at k;cases k
  ·rw[h4]at e';cases e'
   exact⟨v,rs,c,ob,u,rfl,h5,h2 y c h5 ob z1,z2,ru,a7o I h2 h6 q2⟩
section
variable {X:Cx}{k:Nat}{f:aw}{fd:dR}{ps:List bE}{sp:Sp}{x:bE}{p pos:fM}{e:Expr}{es:List Expr}{t:TA}{cl:List (bE×aw)}{ys:List bE}{js:List Nat}
def b4h(F:FnOk X.prog X.w X.K X.mg X.base CX0 k f fd ps sp)(hr:Room k X.A)(hg:Gl X x)(hm:X.mg x=xn (.ref f))(hk:fP X.K (.ref f)=true)(hb:Binds X.K fd ps [])(ha:PA X (e::es) t)(sY:a9T X cl ys js)(me:c1x X cl)
  (lS:(x==("__debug__":bE))=false) (he:ar (e::es) X.env=(false,cK e X.env)::ar es X.env) (gE:(cB pos (ar es X.env)).any (·.1)=false) :
  PE X (.Call (.Name x p) (e::es) [] pos) (b9Q X cl ys js sp t):=by
 intro pins s0 σ H0 Q I0 h;refine gq (a5n I0 hg hm ?_ lS);refine zH (h₀:=X.base) I0.ok.mod.kin hk (L2.thn (ha pos pins s0 σ H0 _ I0 h) λus s ⟨vs,H,I,r,lK,DG,q⟩=>⟨I.kIn,?_⟩) he gE;obtain⟨C,memC,uO⟩:∃C:List aw,(∀c∈C,∃y,cl.lookup y=xn c)/\∀y c,cl.lookup y=xn c->c∈C:=
  ⟨(cl.map (·.1)).filterMap λy=>cl.lookup y,λc hc=>let⟨y,_,e⟩:=dU.mp hc;⟨y,e⟩,λy c e=>dU.mpr ⟨y,aG.mpr ⟨(y,c),cy e,rfl⟩,e⟩⟩
 have oB:∀c∈C,∃y,X.env.cells.lookup y=xn c/\X.fn y=true:=λc hc=>by
  obtain⟨y,hy⟩:=memC c hc;exact⟨y,me _ (cy hy)⟩
 have oI:∀c∈C,H c=xI:=λc hc=>by
  obtain⟨y,hy,_⟩:=oB c hc;exact I.freeC y c hy
 have mH:∀c∈C,∃ob v,s.heap.get? c=xn ob/\ob.data=.cell v:=λc hc=>by
  obtain⟨y,hy,_⟩:=oB c hc;obtain⟨v,ob,z1,z2⟩:=I.cell y c hy;exact⟨ob,v,z1,z2⟩
 have rK:∀c∈C,X.s₀.heap.objs.size<=c:=λc hc=>by
  obtain⟨y,hy,hf⟩:=oB c hc;exact I.ok.cab y c hf hy
 obtain⟨H2,pV,mD⟩:∃H2:Hp,(∀c∈C,∀ob,s.heap.get? c=xn ob->H2 c=xn (.frz ob (.own c)))/\∀b,b∉C->H2 b=H b:=
  ⟨λb=>if b∈C then (s.heap.get? b).map (λo=>HO.frz o (.own b)) else H b,λc hc ob z=>by show (if c∈C then _ else _)=_;rw[aB hc,z];rfl,λb hb=>aJ hb⟩
 have lN:Same H H2:=λb o e=>by
  rw[mD b (λz=>by rw[oI b z]at e;cases e)];exact e
 have J2:Junk H2 C:=λa hm u e=>by
  obtain⟨ob,v,z1,_⟩:=mH a hm;rw[pV a hm ob z1]at e;cases e
  exact⟨ob,rfl⟩
 have oN:HOk X.prog X.w H2 s.heap:=λb o e=>by
  by_cases hb:b∈C
  ·obtain⟨ob,v,z1,_⟩:=mH b hb;rw[pV b hb ob z1]at e;cases e
   exact⟨z1,_,z1⟩
  ·rw[mD b hb]at e;exact (I.hok b o e).stay (λ_ _ _ q=>q) (λb q=>lN _ _ q) λb u q=>lN _ _ q
 have e0:Env0 X.prog X.w X.K X.mg X.base X.A X.stack s H2:=by
  have z:=I.env0;refine⟨z.frames,z.mod,λb o e=>⟨(z.bs b o e).1,?_⟩,z.bsz,z.funs,λb hb=>?_,oN,z.bare,λx hx p e=>?_⟩
  ·rw[mD b λhc=>absurd (bo (aU e) (cC I.ok.bsz (rK b hc))) (dQ _)];exact (z.bs b o e).2
  ·rw[mD b λhc=>?_]
   ·exact z.frf b hb
   ·rcases aH.mp (I.stkSub b hb) with e|e
    ·obtain⟨y,hy,_⟩:=oB b hc;exact I.cne y b hy e
    ·obtain⟨_,o,ho,_⟩:=I.ok.funs.mem e;exact absurd (bo (aU ho) (rK b hc)) (dQ _)
  ·obtain⟨qs,t',e1,e2⟩:=z.tabs x hx p e;exact⟨qs,t',lN _ _ e1,e2⟩
 have pI:=q H2 C (λx y c z1 z2=>I.ok.inj x y c (me _ (cy z1)).1 (me _ (cy z2)).1) lN (a7o I (λy c hy ob z=>pV c (uO y c hy) ob z) sY DG) (λy c hy=>by
  obtain⟨ob,v,z1,z2⟩:=mH c (uO y c hy);exact⟨ob,v,pV c (uO y c hy) ob z1,z2⟩) J2 mD oI
 have r2:Vals vs (us++[]):=by rw[bg];exact r
 have hl:(us++[]).length=ps.length:=by rw[<-r2.length];exact F.len _ _ _ _ pI
 refine uD (gQ (F.run X.A X.stack s H2 ⟨us,[]⟩ (us++[]) vs _ E0 hr e0 (hb s us I.kIn hl) r2 pI) λr s' hq=>?_);cases r with
 |error e=>exact cJ hq
 |ok fl=>
  cases fl with
  |next=>exact cJ hq
  |brk=>exact cJ hq
  |cont=>exact cJ hq
  |ret u=>
   obtain⟨v,H',os,bare,un,pL,rv,qv⟩:=(show CE X.stack X.prog X.w H2 s _ u s' from hq);have fz:∀c∈C,∃ob,s.heap.get? c=xn ob/\H' c=xn (.frz ob (.own c))/\s'.heap.get? c=xn ob:=λc hc=>by
    obtain⟨ob,v,z1,_⟩:=mH c hc;have z2:=un.frzs c ob _ (pV c hc ob z1);exact⟨ob,z1,z2,(pL c _ z2).1⟩
   have J':Junk H' C:=λa hm u e=>by
    obtain⟨ob,_,z,_⟩:=fz a hm;rw[z]at e;cases e
    exact⟨ob,rfl⟩
   have n2:∀b,H b=xI->b∉C->H2 b=xI:=λb n hb=>by rw[mD b hb];exact n
   have oC:∀b u,H b=xn u->b∉C:=λb u e z=>by rw[oI b z]at e;cases e
   have BD:Un (frs X.stack) [] H (VS.cut H' C) s.heap s'.heap:=by
    refine⟨λb o e n hb hx=>?_,λb o e n hb hx=>?_,λb o e n hx=>?_,un.there,λb xs e=>?_,λb o u e=>?_,λb ps e=>?_⟩
    ·by_cases hc:b∈C
     ·obtain⟨ob,z1,_,z3⟩:=fz b hc;rw[e]at z1;cases z1
      exact z3
     ·exact un.keep b o e (n2 b n hc) hb hx
    ·by_cases hc:b∈C
     ·obtain⟨ob,z1,_,z3⟩:=fz b hc;rw[e]at z1;cases z1
      exact⟨o.slots,z3⟩
     ·exact un.slot b o e (n2 b n hc) hb hx
    ·by_cases hc:b∈C
     ·exact V6 hc
     ·exact x9 (un.free b o e (n2 b n hc) hx)
    ·exact g9 (oC b _ e) (un.tups b xs (lN _ _ e))
    ·exact g9 (oC b _ e) (un.frzs b o u (lN _ _ e))
    ·obtain⟨more,z⟩:=un.tbls b ps (lN _ _ e);exact⟨more,g9 (oC b _ e) z⟩
   exact⟨v,VS.cut H' C,I.call' os BD (a7m pL J') bare (λb z=>absurd z (by simp)),rv,qv J'⟩
end
def O7(scope:gk)(env:oe):List (bE×aw):=scope.names.foldl (λcs p=>if p.2==.free then (match env.cells.lookup p.1 with|some c=>(p.1,c)::cs|none=>cs) else cs) []
def a8H:∀p∈O7 scope env,env.cells.lookup p.1=xn p.2:=by
 have key:∀(l:List (bE×iU)) (cs:List (bE×aw)),(∀p∈cs,env.cells.lookup p.1=xn p.2)->∀p∈l.foldl (λcs p=>if p.2==.free then (match env.cells.lookup p.1 with|some c=>(p.1,c)::cs|none=>cs) else cs) cs,env.cells.lookup p.1=xn p.2:=by
  intro l
  induction l with
  |nil=>intro cs h;exact h
  |cons a l ih=>
   intro cs h;rw[FQ];refine ih _ λp hp=>?_
   split at hp
   ·split at hp
    ·rename_i c hc
     rcases aH.mp hp with e|e
     ·rw[e];exact hc
     ·exact h p e
    ·exact h p hp
   ·exact h p hp
 exact key _ _ λp hp=>(nomatch hp)
def b6R{X:Cx}(nT:∀x,X.fn x=true:=by exact λ_=>rfl):c1x X (O7 scope X.env):=λp hp=>⟨a8H p hp,nT _⟩
section
variable {X:Cx}{M:List Md}{e0:Expr}{es:List Expr}{f:EvA}{u uf:Ty}{x:bE}{p pos kg:fM}{params:lZ}{body:Expr}{scope:gk}{ys:List bE}{js:List Nat}
def b6S(hx:y∈L5)(hP:B0 X.K y=xn P)(hc:X.env.code=.ref c)(hd:gw X.base c P)(hq:X.env.qual++"<lambda>"=V2 y)
  (pR:oV scope X.env=pure (O7 scope X.env):=by rfl) (sW:defaultsOf params X.env=([],[]):=by rfl) (hs:ar [.Lambda params body scope kg] X.env=(false,cK (.Lambda params body scope kg) X.env)::ar [] X.env:=by rfl) :
  PAL X M [.Lambda params body scope kg] b9 λH v=>∃fa,v=.ref fa/\LamO (V2 y) params body scope (O7 scope X.env) H fa:=by
 refine⟨_,k8 (b1V hx hP hc hd hq pR sW) p5 hs,λZ σ H P F ds Q S hf q=>?_⟩;cases hf
 exact λfa H' e L=>q [] (.ref fa) H' e denAll_nil ⟨fa,rfl,L⟩
def b9R(M:List Md):List Nat->Prop
 |[]=>True
 |j::js=>(∃w,M[j]?=xn (.own w))/\b9R M js
theorem a9U{K:af}{Z:List D}{σ:L2.St}{H P:Hp}{F:List aw}(S:StE K M Z σ H P F):∀{js:List Nat},b9R M js->∃lK,b6Q σ js lK/\DenAll K H lK (js.map λj=>Z.getD j .none)
 |[],_=>⟨[],rfl,denAll_nil⟩
 |j::js,h=>by
  obtain⟨⟨w,hw⟩,h2⟩:=h;obtain⟨v,fp,e,o,_⟩:=S.get hw;obtain⟨lK,q1,q2⟩:=a9U S h2;exact⟨v::lK,⟨v,lK,rfl,e,q1⟩,denAll_cons (o.den w) q2⟩
noncomputable def b6T(m:(List D->Option D)->List D->Option D)(us:List Ty)(js:List Nat)(fb:EvE)(f:EvA):EvE:=λZ=>(f Z).bind (m (fnE us (js.map λj=>Z.getD j .none) fb))
def a8I{k kf n:Nat}{ps pl N:List bE}{q:bE}{us:List Ty}{fb:EvE}{m:(List D->Option D)->List D->Option D}
  (W:Has X.prog X.w X.K X.mg X.base x k ps (spL X.K n (λgm=>FnV X.prog X.w X.K X.mg X.base (kf+1) pl.length uf gm) m u)) (hr:Room k X.A) (h:PAL X M (e0::es) f λH v=>∃fa,v=.ref fa/\LamO q params body scope (O7 scope X.env) H fa)
  (sY:a9T X (O7 scope X.env) ys js) (hM:b9R M js) (S:LamScope N pl ys scope (O7 scope X.env)) (nO:us.length=pl.length)
  (nq:∀(pm:aj) (c:aw) (mh:aj) (us:List aj),us.length=pl.length->pX (PySem.W.kla_fn "<lambda>" q params body scope (O7 scope X.env) pm (.ref c) mh) ⟨us,[]⟩=pure (pl.zip us))
  (hb:∀(fa c:aw) (A:bQ) (outer:List oe) (s:au) (H:Hp),Room kf (A.deeper (jx q scope s.heap.objs.size fa (.ref c) (O7 scope X.env)))->PX (a9S X.prog X.w X.K X.mg X.base N q scope fa (.ref c) (O7 scope X.env) A outer s H) (us.map .own++aT ys.length (.own .f)) body fb (.new uf))
  (hfl:∀Z ds,f Z=xn ds->ds.length=n) (hu:u.shut=true:=by rfl) (nT:∀x,X.fn x=true:=by exact λ_=>rfl)
  (hg:Gl X x:=by rfl) (lS:(x==("__debug__":bE))=false:=by decide) (he:ar (e0::es) X.env=(false,cK e0 X.env)::ar es X.env:=by rfl) (gE:(cB pos (ar es X.env)).any (·.1)=false:=by rfl) :
  PX X M (.Call (.Name x p) (e0::es) [] pos) (b6T m us js fb f) (.new u):=by
 obtain⟨t,pa,qa⟩:=h;obtain⟨FC,fd,F,b,kp,BX⟩:=W.ex;refine .mk ⟨_,b4h F hr hg BX kp b pa sY (b6R nT) lS he gE,λZ σ H P F d Q S' hf q=>?_⟩;obtain⟨ds,h1,hf⟩:=bnd hf;refine qa Z σ H P F ds _ S' h1 λvs v H1 e1 r1 ⟨fa,hv,L⟩=>?_
 subst hv;obtain⟨lK,c1,c2⟩:=a9U (S'.grow e1) hM;refine⟨lK,c1,λH2 C sR s2 ci EC J2 o2 n2=>?_⟩;refine⟨vs,.ref fa,_,ds,d,rfl,by rw[r1.length];exact hfl Z ds h1,r1.up s2,λH' e'=>b6P (L.up (s2.trans e')) S sR (ci.up e') (λy c z=>let⟨ob,uo,w1,w2⟩:=EC y c z;⟨ob,uo,e' _ _ w1,w2⟩) (c2.up (s2.trans e')) nO nq (hb fa),hf,λv H' fp e o nd fr J'=>?_⟩;have xi:∀a∈fp,a∉C:=λa ha z=>by
  obtain⟨ys,w⟩:=o.lst u a ha;obtain⟨ob,w'⟩:=J' a z _ w;have:=ys.2;rw[w']at this;exact this
 have sm:Same H1 (VS.cut H' C):=λb o' hb=>g9 (λz=>by rw[n2 b z]at hb;cases hb) (e _ _ (s2 _ _ hb))
 refine q v (VS.cut H' C) (e1.trans sm) ⟨fp,(o.junk J' u).shut_out (λa ha=>?_) u hu,nd,λa ha=>?_⟩
 ·rcases aq.mp ha with z|z
  ·exact (o.junk J' u).lst u a z
  ·exact S'.lst' (e1.trans sm) a z
 ·have:=fr a ha;rw[o2 a (xi a ha)]at this;exact e1.free this
end
def b4i{P:bw}{w:b_}{K:af}{mg:bE->Option aj}{base:cR}{x:bE}{st:iy}{f:aw}{fd:dR}{N ps:List bE}{k n:Nat}{us:List Ty}{u:Ty}{g:EvS}{M':List Md}(F:Fun K x x st f fd)(S:FnScope N ps (g7 st))(nO:us.length=ps.length)(hn:N.length=ps.length+n)
  (hb:∀(A:bQ) (outer:List oe) (s:au) (H:Hp) (E:XK),Room k (A.deeper (jo x (g7 st) s.heap.objs.size f fd.code))->PSsX (a0H CX0 P w K mg base N x (g7 st) f fd.code A outer s H E).nox u [] (us.map .own++aT n .dead) (v9 st) g M') :
  FnOk P w K mg base CX0 (k+1) f fd ps (spD K ps.length (fnD us n g) u):=by
 obtain⟨oc,od,kV,doc,pm,an,gr,ct,oJ,rfl,lk,iF⟩:=F.ex;refine b7N lk iF S (λvs H Q E ⟨ds,d,hl,_⟩=>hl) λA outer s H vs Q E hr ⟨ds,d,hl,hd,hm,q⟩=>?_
 obtain⟨t,p,r⟩:=(hb A outer s H E hr).out;refine⟨t,p.nox,?_⟩;unfold fnD at hm;by_cases ha:argsOk us ds=true
 ·rw[aB ha]at hm;obtain⟨o,h1,h2⟩:=bnd hm;cases o with
  |rt d'=>
   have kG:xn d'=xn d:=h2;cases kG
   have e:L2.start N vs=vs.map xn++aT n xI:=by
    unfold L2.start;rw[show N.length-vs.length=n by lia]
   rw[e];refine r _ (ds++aT n iB) _ H H [] (.rt d) ⟨⟨[],R8 ha hd n,bA,λa ha=>(nomatch ha)⟩,λa ha=>(nomatch ha),by rw[K6];exact Same.refl H⟩ h1 ?_;exact λv H' fp o nd fr e=>q v H' fp e o nd fr
  |_=>cases h2
 ·rw[aJ ha]at hm;cases hm
def b4j{K:af}{base:cR}{fd:dR}(e:(B0 K x).isSome=true)(X:K.In base)(G:base.Ns bS mg)(a:gz K bS x=xn (xn (.ref f)))(l:K.lookup f=xn ⟨oc,od,.func fd,sl⟩) :
  ∃c p,fd.code=.ref c/\B0 K x=xn p/\gw base c p:=by
 obtain⟨p,hp⟩:=kn.mp e;obtain⟨f',Ff,Fe,AY,zR,c,h1,h2,h3,h4⟩:=a4P hp X G;have h5:=kj X G a;rw[h1]at h5;cases h5
 rw[l]at h2;cases h2
 exact⟨c,p,h3,hp,h4⟩
end VS
namespace VS
open PySem PySem.Spec L2
section
variable {X:Cx}{M ML M':List Md}{e:Expr}{f:EvE}{pos:fM}
def b6U(hM:M.map frz=M)(he:PX X M e f .tmp):PSX X .f ML M (.Return (xn e) pos) (t6 f) M':=by
 obtain⟨te,pe,qe⟩:=he.out;refine .mk ⟨_,b2y pe,λD Z σ H P F o S hg k=>?_⟩;obtain⟨d,h1,g1⟩:=bnd hg;cases g1
 have S0:=S.free hM;refine qe Z σ H P [] d _ S0.toE h1 λv H1 e1 hd=>?_
 refine k v H1 [] (by simp only[Own];exact⟨trivial,(show Den X.K H1 v d from hd).up λa x ha=>g9 (by simp) ha⟩) bA (λa ha=>(nomatch ha)) ((S0.prot.trans j5).trans e1)
end
end VS
namespace L2
open PySem
def Has.u(h:Has P w K mg base x i ps sp)(l:i<=j:=by decide):Has P w K mg base x j ps sp:=h.up l
end L2
namespace VS
open PySem PySem.Spec PyProof.Rows L2
structure DP (K:af) (mg:bE->Option aj) (x:bE) (st:iy):Prop where
 ex:∃f fd,Fun K x x st f fd/\gz K bS x=xn (xn (.ref f))/\mg x=xn (.ref f)
section
variable {P:bw}{w:b_}{K:af}{mg:bE->Option aj}{base h:cR}{x:bE}{st:iy}{N ps:List bE}{k n:Nat}{us:List Ty}{u wt:Ty}{g:EvS}{sp:Sp}
def c1y{f:aw}{oc:aj}{od an:Option aw}{oJ:Array (Option aj)}{kV doc pm gr ct:aj}(X:K.In h)(G:h.Ns bS mg)(a:gz K bS x=xn (xn (.ref f)))(l:K.lookup f=xn ⟨oc,od,.func (fT x x (Q8 st) (v9 st) (g7 st) .none kV doc pm an gr ct),oJ⟩)
  (c:lW K gr x=true) (k:fP K (.ref f)=true):DP K mg x st:=⟨_,_,b8J l c k,a,kj X G a⟩
def c2L(X:K.In h)(G:h.Ns bS mg)(a:gz K bS x=xn (xn (.int i t))):∃t,mg x=xn (.int i t):=⟨t,kj X G a⟩
abbrev BBy(x:bE)(st:iy)(ps:List bE):Prop:=∀(kV doc pm:aj) (an:Option aw) (gr ct:aj) (us:List aj),us.length=ps.length->pX (fT x x (Q8 st) (v9 st) (g7 st) .none kV doc pm an gr ct) ⟨us,[]⟩=pure (ps.zip us)
def l8(d:DP K mg x st)(h:∀f fd,Fun K x x st f fd->FnOk P w K mg base CX0 k f fd ps sp)(b:BBy x st ps:=by intro _ _ _ _ _ _ us hl;first|(obtain⟨_,rfl⟩:=b9G hl;rfl)|(obtain⟨_,_,rfl⟩:=b9H hl;rfl)|(obtain⟨_,_,_,rfl⟩:=c1t hl;rfl)|(obtain⟨_,_,_,_,rfl⟩:=c2I hl;rfl)|(obtain⟨_,_,_,_,_,rfl⟩:=c2J hl;rfl)|(obtain⟨_,_,_,_,_,_,rfl⟩:=c2K hl;rfl)):Has P w K mg base x k ps sp:=by
 obtain⟨f,fd,F,a,m⟩:=d.ex;exact⟨f,fd,h f fd F,F.binds b,F.kp,m⟩
def b6V(d:DP K mg x st)(h:∀f fd,Fun K x x st f fd->gz K bS x=xn (xn (.ref f))->FnOk P w K mg base CX0 k f fd ps sp)(b:BBy x st ps:=by intro _ _ _ _ _ _ us hl;first|(obtain⟨_,rfl⟩:=b9G hl;rfl)|(obtain⟨_,_,rfl⟩:=b9H hl;rfl)|(obtain⟨_,_,_,rfl⟩:=c1t hl;rfl)):Has P w K mg base x k ps sp:=by
 obtain⟨f,fd,F,a,m⟩:=d.ex;exact⟨f,fd,h f fd F a,F.binds b,F.kp,m⟩
def fnF(F:Fun K x x st f fd)(N:List bE)(hb:∀(S:FnScope N ps (g7 st)) (gr:aj) (A:bQ) (outer:List oe) (s:au) (H:Hp) (E:XK),Room k (A.deeper (jo x (g7 st) s.heap.objs.size f gr))->PSsX (a0H CX0 P w K mg base N x (g7 st) f gr A outer s H E).nox u [] (us.map .own++aT n .dead) (v9 st) g [])
  (S:FnScope N ps (g7 st):=by exact⟨rfl,rfl,rfl,by decide +kernel,rfl,by decide +kernel,by decide +kernel⟩) (nO:us.length=ps.length:=by rfl) (hn:N.length=ps.length+n:=by rfl):FnOk P w K mg base CX0 (k+1) f fd ps (spD K ps.length (fnD us n g) u):=b6a F S nO hn (hb S)
def c1z(F:Fun K x x st f fd)(N:List bE)(M':List Md)(hb:∀(S:FnScope N ps (g7 st)) (gr:aj) (A:bQ) (outer:List oe) (s:au) (H:Hp) (E:XK),Room k (A.deeper (jo x (g7 st) s.heap.objs.size f gr))->PSsX (a0H CX0 P w K mg base N x (g7 st) f gr A outer s H E).nox .i [] (us.map .own++aT n .dead) (v9 st) g M')
  (S:FnScope N ps (g7 st):=by exact⟨rfl,rfl,rfl,by decide +kernel,rfl,by decide +kernel,by decide +kernel⟩) (nO:us.length=ps.length:=by rfl) (hn:N.length=ps.length+n:=by rfl):FnOk P w K mg base CX0 (k+1) f fd ps (spD K ps.length (fnN us n g) .i):=b3s F S nO hn (hb S)
def c2M{Φ:(List D->Option D)->Hp->V->Prop}{g:(List D->Option D)->EvS}(F:Fun K x x st f fd)(N:List bE)(hb:∀(S:FnScope N ps (g7 st)) (gm:List D->Option D) (gr:aj) (A:bQ) (outer:List oe) (s:au) (H:Hp) (E:XK),Room k (A.deeper (jo x (g7 st) s.heap.objs.size f gr))->PSsX (a0H CX0 P w K mg base N x (g7 st) f gr A outer s H E).nox u [] (us.map .own++(.fn (Φ gm)::aT n .dead)) (v9 st) (g gm) [])
  (S:FnScope N ps (g7 st):=by exact⟨rfl,rfl,rfl,by decide +kernel,rfl,by decide +kernel,by decide +kernel⟩) (nO:us.length+1=ps.length:=by rfl) (hn:N.length=ps.length+n:=by rfl) (hj:j=us.length:=by rfl):FnOk P w K mg base CX0 (k+1) f fd ps (spL K j Φ (fnL us n g) u):=hj▸b4d (M':=λ_=>[]) F S nO hn (hb S)
def c2N(F:Fun K x x st f fd)(N:List bE)(lt:(B0 K x).isSome=true)(X:K.In base)(G:base.Ns bS mg)(a:gz K bS x=xn (xn (.ref f)))(hb:∀(S:FnScope N ps (g7 st)) (c:aw) (p:aw) (hc:fd.code=.ref c) (hp:B0 K x=xn p) (hd:gw base c p) (A:bQ) (outer:List oe) (s:au) (H:Hp) (E:XK),Room k (A.deeper (jo x (g7 st) s.heap.objs.size f fd.code))->PSsX (a0H CX0 P w K mg base N x (g7 st) f fd.code A outer s H E).nox u [] (us.map .own++aT n .dead) (v9 st) g [])
  (S:FnScope N ps (g7 st):=by exact⟨rfl,rfl,rfl,by decide +kernel,rfl,by decide +kernel,by decide +kernel⟩) (nO:us.length=ps.length:=by rfl) (hn:N.length=ps.length+n:=by rfl):FnOk P w K mg base CX0 (k+1) f fd ps (spD K ps.length (fnD us n g) u):=by
 obtain⟨oc,od,kV,doc,pm,an,gr,ct,oJ,e,lk,iF⟩:=F.ex;obtain⟨c,p,h1,h2,h3⟩:=b4j lt X G a lk;exact b4i F S nO hn (hb S c p h1 h2 h3)
def b9S(yN:mg x=xn (.ref fa))(d:DP K mg x st)(h:∀base:cR,K.In base->base.Ns bS mg->∀fd,Fun K x x st fa fd->FnOk P w K mg base CX0 k fa fd [p] sp)(b:∀(kV doc pm:aj) (an:Option aw) (gr ct v:aj),pX (fT x x (Q8 st) (v9 st) (g7 st) .none kV doc pm an gr ct) ⟨[v],[]⟩=pure [(p,v)]:=by intros;rfl) :
  ∃fd:dR,(∀(s:au) (v:aj),nK s fd ⟨[v],[]⟩ [(p,v)])/\∀base:cR,K.In base->base.Ns bS mg->FnOk P w K mg base CX0 k fa fd [p] sp:=by
 obtain⟨f,fd,F,a,m⟩:=d.ex;rw[yN]at m;cases m
 refine⟨fd,λs v=>?_,λbase X G=>h base X G fd F⟩;obtain⟨oc,od,kV,doc,pm,an,gr,ct,oJ,rfl,lk,iF⟩:=F.ex;exact .of_eq (b kV doc pm an gr ct v)
end
section
variable {X:Cx}{M:List Md}{e e0:Expr}{es:List Expr}{fe:EvE}{f:EvA}{c:Cat}{u:Ty}{pos p:fM}{x:bE}
abbrev mdF:Md:=.own .f
abbrev mdI:Md:=.own .i
abbrev mdL:Md:=.own (.l .i)
abbrev X0:Md:=.own (.l (.l .i))
abbrev mdD:Md:=.dead
def b8(i:Nat)(hN:X.N[i]?=xn x:=by rfl)(hv:Vis X.env.scope x:=by first|exact bY rfl|exact bR (bY rfl)|exact bR (bR rfl))(hd:(x==("__debug__":bE))=false:=by decide)(iF:(x==("__classdict__":bE))=false:=by decide)(hm:M[i]?=xn (.own .f):=by rfl):PX X M (.Name x pos) (a6 i) (.bor .f):=r0 i hN hv hd iF hm
def f6(i:Nat)(hN:X.N[i]?=xn x:=by rfl)(hv:Vis X.env.scope x:=by first|exact bY rfl|exact bR (bY rfl)|exact bR (bR rfl))(hd:(x==("__debug__":bE))=false:=by decide)(iF:(x==("__classdict__":bE))=false:=by decide)(hm:M[i]?=xn (.own .i):=by rfl):PX X M (.Name x pos) (a6 i) (.bor .i):=r0 i hN hv hd iF hm
def U4(i:Nat)(hN:X.N[i]?=xn x:=by rfl)(hv:Vis X.env.scope x:=by first|exact bY rfl|exact bR (bY rfl)|exact bR (bR rfl))(hd:(x==("__debug__":bE))=false:=by decide)(iF:(x==("__classdict__":bE))=false:=by decide)(hm:M[i]?=xn (.own (.l .i)):=by rfl):PX X M (.Name x pos) (a6 i) (.bor (.l .i)):=r0 i hN hv hd iF hm
def y6(i:Nat)(hN:X.N.Nodup)(hi:X.N[i]?=xn x:=by rfl)(hx:Loc X.env.scope x:=by first|exact bY rfl|exact bR rfl)(hf:X.fn x=true∨X.env.scope.names.lookup x=xn .local:=by first|exact .inl rfl|exact .inr rfl|assumption):PG X (.Name x pos) (L6 i):=q8 hN hi hx hf
def m8(hm:X.mg "len"=xI)(h:PX X M e fe c)(hg:Gl X "len":=by rfl)(he:ar [e] X.env=(false,cK e X.env)::ar [] X.env:=by rfl)(gE:(cB pos (ar [] X.env)).any (·.1)=false:=by rfl):PX X M (.Call (.Name "len" p) [e] [] pos) (eCl s9 (a7 fe b9)) (.new .i):=a3g b8P hm PySem.boot_len (a8 h c8 he) hg (by decide) (by decide) he gE
def k6(W:Has X.prog X.w X.K X.mg X.base x k ps (spD X.K n m u))(hr:Room k X.A)(h:PAX X M (e0::es) f)(hu:u.shut=true:=by rfl)(hl:(e0::es).length=n:=by rfl)(hfl:∀Z ds,f Z=xn ds->ds.length=(e0::es).length:=by first|exact j8 B9|exact j8 (j8 B9)|exact j8 (j8 (j8 B9))|exact j8 (j8 (j8 (j8 B9)))|exact j8 (j8 (j8 (j8 (j8 B9)))))
  (hg:Gl X x:=by rfl) (lS:(x==("__debug__":bE))=false:=by decide) (he:ar (e0::es) X.env=(false,cK e0 X.env)::ar es X.env:=by rfl) (gE:(cB pos (ar es X.env)).any (·.1)=false:=by rfl) :
  PX X M (.Call (.Name x p) (e0::es) [] pos) (eCl m f) (.new u):=a2L W hr h hu hl hfl hg lS he gE
def a1M(hu:X.A.units+64<dF:=by exact Room.units (by assumption)):OpS X (cA .Eq) dEq:=os_eq hu
def a1N(hu:X.A.units+64<dF:=by exact Room.units (by assumption)):OpS X (cA .NotEq) dNe:=c0M hu
end
end VS
namespace VS
open PySem L2
section
variable {a b c:EvE}{Z:List D}{d x y:D}
def chE(g':D->D->Option D):Option D->Option D->EvE->List D->Option D
 |some (.bool true),xn y,c,Z=>l2 g' (xn y) (c Z)
 |some (.bool false),xn _,_,_=>xn (.bool false)
 |_,_,_,_=>xI
def c2O:eCh g g' a b c Z=chE g' (l2 g (a Z) (b Z)) (b Z) c Z:=by
 unfold eCh;cases a Z with
 |none=>rfl
 |some x=>
  cases b Z with
  |none=>rfl
  |some y=>
   show (g x y).bind _=chE g' (g x y) (xn y) c Z;cases g x y with
   |none=>rfl
   |some z=>
    cases z with
    |bool k=>
     cases k with
     |false=>rfl
     |true=>cases h:c Z<;>simp[chE,asB,h,l2]
    |_=>rfl
def c1A:chE g' (xn (.bool true)) (xn y) c Z=l2 g' (xn y) (c Z):=rfl
def c1B:chE g' (xn (.bool false)) (xn y) c Z=xn (.bool false):=rfl
def c2P:(true==true)=true:=rfl
def c2Q:(true==false)=false:=rfl
def c2R:(false==true)=false:=rfl
def c2S:(false==false)=true:=rfl
def c2T:(true !=true)=false:=rfl
def c2U:(true !=false)=true:=rfl
def c2V:(false !=true)=true:=rfl
def c2W:(false !=false)=false:=rfl
def trB:tr (.bool k)=xn k:=rfl
def c1C:asB (.bool k)=xn k:=rfl
def b4k:isN .none=true:=rfl
def b6W:isN (.int i)=false:=rfl
def b4l:isN (.bool i)=false:=rfl
def b4m:isN (.list ds)=false:=rfl
def b6X:isN (.tuple ds)=false:=rfl
def b9T:a6F k x .none=xn (.bool (k !=isN x)):=rfl
def b1W:isInt (.int i)=true:=rfl
def a8J:isInt (.bool i)=true:=rfl
def a8K:isInt .none=false:=rfl
def a8L:isInt (.list ds)=false:=rfl
def b1X:isInt (.tuple ds)=false:=rfl
def b1Y:isInt (.str s)=false:=rfl
def a8M:isInt (.dict s)=false:=rfl
def a8N:isBool (.int i)=false:=rfl
def a7p:isBool (.bool i)=true:=rfl
def a7q:isBool .none=false:=rfl
def a7r:isBool (.list ds)=false:=rfl
def a8O:isBool (.tuple ds)=false:=rfl
def a8P:isBool (.str s)=false:=rfl
def a7s:isBool (.dict s)=false:=rfl
def isList_list:isList (.list ds)=true:=rfl
def isList_int:isList (.int i)=false:=rfl
def a7t:isList .none=false:=rfl
def isList_bool:isList (.bool i)=false:=rfl
def a8Q:isList (.tuple ds)=false:=rfl
def isList_str:isList (.str s)=false:=rfl
def isList_dict:isList (.dict s)=false:=rfl
def a7u:a5G (.tuple ds)=true:=rfl
def isTuple_list:a5G (.list ds)=false:=rfl
def isTuple_int:a5G (.int i)=false:=rfl
def lIs:Option D->Option D
 |some d=>b3a d
 |none=>xI
def a7v:eI a Z=lIs (a Z):=by unfold eI;cases a Z<;>rfl
def b4n(h:e7 ds=true):lIs (xn (.list ds))=xn (.list ds):=by
 show (if e7 ds=true then xn (bD ds) else xI)=_;rw[aB h]
def b9U:Option D->Option D
 |some (.list ds)=>xn (.list ds)
 |some (.tuple ds)=>xn (.list ds)
 |_=>xI
def b6Y:a0P a Z=b9U (a Z):=by
 unfold a0P;cases a Z with
 |none=>rfl
 |some d=>cases d<;>rfl
def c1D:b9U (xn (.list ds))=xn (.list ds):=rfl
def c1E:b9U (xn (.tuple ds))=xn (.list ds):=rfl
def lL:Option D->Option (List D)
 |some d=>asL d
 |none=>xI
def b4o:iL a Z=lL (a Z):=by unfold iL;cases a Z<;>rfl
def c2X:lL (xn (.list ds))=xn ds:=rfl
def lII:Option (List D)->Option (List D)
 |some ds=>if e7 ds then xn ds else xI
 |none=>xI
def c1F:iI f Z=lII (f Z):=by unfold iI;cases f Z<;>rfl
def a1c(h:f Z=xn ds)(hi:e7 ds=true):iI f Z=xn ds:=by rw[c1F,h];show (if e7 ds=true then xn ds else xI)=_;rw[aB hi]
def b9V{ds:List D}(h:ds.length<1000000):b9p i (.list ds) (xn d) Z=xn (.nx (Z.set i (.list (ds++[d])))):=a0v h
def b9W:t8 i Z d=xn (Z.set i d):=rfl
def b9X:a1z i j Z (.tuple [x,y])=xn ((Z.set i x).set j y):=rfl
def c1G:pt1 d=xn [d]:=rfl
def c1H:pt2 (.tuple [x,y])=xn [x,y]:=rfl
def c2Y:tT Z=xn true:=rfl
end
def E5(P:List D->Prop)(h1:∃Z,o=xn (.nx Z)/\P Z)(h2:∀Z,P Z->a0t (s Z)=R):a0t (thn o s)=R:=by
 obtain⟨Z,rfl,h⟩:=h1;exact h2 Z h
def b4p(P:List D->Prop)(h1:∃Z,o=xn (.nx Z)/\P Z)(h2:∀Z,P Z->s Z=R):thn o s=R:=by
 obtain⟨Z,rfl,h⟩:=h1;exact h2 Z h
def a1d{R:Option D->Prop}(P:List D->Prop)(h1:∃Z,o=xn (.nx Z)/\P Z)(h2:∀Z,P Z->R (a0t (s Z))):R (a0t (thn o s)):=by
 obtain⟨Z,rfl,h⟩:=h1;exact h2 Z h
theorem a7w(f:D->D):∀{ds:List D},(∀d∈ds,∃bs,pt d=xn bs/\g (bs++cs)=xn (f d))->U2 pt tT g cs ds=xn (ds.map f)
 |[],_=>rfl
 |d::ds,h=>by
  obtain⟨bs,h1,h2⟩:=h d aK;have ih:=a7w f (ds:=ds) λe he=>h e (av _ he)
  show (pt d).bind _=_;rw[h1];show (g (bs++cs)).bind _=_;rw[h2];show (U2 pt tT g cs ds).bind _=_;rw[ih];rfl
def a5X{js:List Nat}{Z ds:List D}(f:D->D)(hf:fi Z=xn ds)(hl:ds.length<=1000000)(h:∀d∈ds,∃bs,pt d=xn bs/\g (bs++js.map λj=>Z.getD j .none)=xn (f d)) :
  r9 fi js pt tT g Z=xn (.list (ds.map f)):=by
 unfold r9;rw[hf];show (if ds.length<=1000000 then _ else xI)=_;rw[aB hl,a7w f h];rfl
def a5Y{js:List Nat}{Z:List D}(f:Nat->D)(ha:a Z=xn (.int n))(h0:0<=n)(h1:n<=1000000)(h:∀k:Nat,(k:Int)<n->g (.int k::js.map λj=>Z.getD j .none)=xn (f k)) :
  r9 (iR a) js pt1 tT g Z=xn (.list ((aA n.toNat).map f)):=by
 rw[a5X (ds:=l0 0 n.toNat) (λd=>match d with|.int i=>f i.toNat|_=>.none) (a8m ha h0 (by lia)) (by rw[a8n];lia)]
 ·unfold l0;rw[bC]
  congr 2;refine bG λk _=>?_
  show f (0+(k:Int)).toNat=f k
  congr 1;lia
 ·intro d hd;unfold l0 at hd;obtain⟨k,hk,rfl⟩:=aG.mp hd;have:=bI.mp hk;refine⟨_,rfl,?_⟩;have e:(0:Int)+(k:Int)=k:=by lia
  rw[e];exact h k (by lia)
theorem n6(f:α->D)(h:∀x,imm (f x)=true):∀xs:List α,e7 (xs.map f)=true
 |[]=>by simp only[cW,e7]
 |x::xs=>by simp only[ax,e7,h x,n6 f h xs,eG]
end VS
namespace Prog
open PySem L2 VS
abbrev iD(ns:List Int):D:=.list (ns.map .int)
end Prog
namespace VS
open PySem L2
def b7W{a b:D}(ha:a.canLay0=true)(hb:b.canLay0=true)(hd:a.depth<=60):dEq a b=xn (.bool (aI a b)):=by
 unfold dEq b0W;rw[ha,hb,aQ hd];simp
def c1I{a b:D}(ha:a.canLay0=true)(hb:b.canLay0=true)(hd:a.depth<=60):dNe a b=xn (.bool (!aI a b)):=by
 unfold dNe b0W;rw[ha,hb,aQ hd];simp
theorem a5Z(f:α->D)(h:∀x,(f x).canLay0=true):∀xs:List α,bb (xs.map f)=true
 |[]=>by simp only[cW,bb]
 |x::xs=>by simp only[ax,bb,h x,a5Z f h xs,eG]
theorem Z0(f:α->D)(n:Nat)(h:∀x,(f x).depth<=n):∀xs:List α,cX (xs.map f)<=n
 |[]=>by simp only[cW,cX];exact cE _
 |x::xs=>by
  simp only[ax,cX];exact Nat.max_le.mpr ⟨h x,Z0 f n h xs⟩
def b6Z:(aO i).canLay0=true:=by simp only[eQ]
def a1O:(aO i).depth=0:=by simp only[fB]
def lay_ints(ns:List Int):(bD (ns.map .int)).canLay0=true:=by
 simp only[eQ];exact a5Z _ (λ_=>b6Z) ns
def a3H(ns:List Int):(bD (ns.map .int)).depth<=1:=by
 simp only[fB];have:=Z0 aO 0 (λx=>by rw[a1O];exact ay _) ns;lia
theorem a1e:∀(xs ys:List Int),cu (xs.map aO) (ys.map aO)=decide (xs=ys)
 |[],[]=>by simp[cu]
 |[],_::_=>by simp[cu]
 |_::_,[]=>by simp[cu]
 |x::xs,y::ys=>by
  have:aI (.int x) (.int y)=decide (x=y):=by
   show (x==y)=decide (x=y);exact gi x y
  simp only[ax,cu,this,a1e xs ys,gc];by_cases h1:x=y<;>by_cases h2:xs=ys<;>simp[h1,h2]
def b7X{xs ys:List Int}:dEq (.list (xs.map .int)) (.list (ys.map .int))=xn (.bool (decide (xs=ys))):=by
 rw[b7W (lay_ints _) (lay_ints _) (cC (a3H _) (by decide))];simp only[aI,a1e]
def b7Y{xs ys:List Int}:dNe (.list (xs.map .int)) (.list (ys.map .int))=xn (.bool (!decide (xs=ys))):=by
 rw[c1I (lay_ints _) (lay_ints _) (cC (a3H _) (by decide))];simp only[aI,a1e]
def a8R:Option D->Option D->Option D
 |some (.list ds),xn (.list es)=>if ds.length+es.length<=a_ then xn (.list (ds++es)) else xI
 |_,_=>xI
def a2t{Z:List D}:J6 a b Z=a8R (a Z) (b Z):=by
 unfold J6;cases a Z with
 |none=>rfl
 |some x=>
  cases x with
  |list ds=>
   cases b Z with
   |none=>rfl
   |some y=>cases y<;>rfl
  |_=>cases b Z<;>rfl
def b4q{ds es:List D}(h:ds.length+es.length<=16777216):a8R (xn (.list ds)) (xn (.list es))=xn (.list (ds++es)):=by
 show (if ds.length+es.length<=a_ then _ else _)=_;rw[aB (show ds.length+es.length<=a_ from h)]
def lSl:Option D->Option (Option Int)->Option (Option Int)->Option D
 |some (.list ds),xn l,xn h=>xn (.list (cutD ds l h))
 |_,_,_=>xI
def b7a{Z:List D}:eSl a lo hi Z=lSl (a Z) (lo Z) (hi Z):=by
 unfold eSl;cases a Z with
 |none=>rfl
 |some x=>
  cases x with
  |list ds=>
   cases lo Z with
   |none=>rfl
   |some y=>cases hi Z<;>rfl
  |_=>cases lo Z<;>cases hi Z<;>rfl
def b7Z:lSl (xn (.list ds)) (xn l) (xn h)=xn (.list (cutD ds l h)):=rfl
def a9V{Z:List D}:oNo Z=xn xI:=rfl
def lO:Option D->Option (Option Int)
 |some (.int i)=>xn (xn i)
 |_=>xI
def a9W{Z:List D}:oSo a Z=lO (a Z):=by
 unfold oSo;cases a Z with
 |none=>rfl
 |some x=>cases x<;>rfl
def b7b:lO (xn (.int i))=xn (xn i):=rfl
def b9Y{ds:List D}{k:Int}(h0:0<=k)(h1:k<=ds.length):cutD ds xI (xn k)=ds.take k.toNat:=by
 unfold cutD HT.sIx
 dsimp only
 rw[aJ (by lia),List.drop_zero,Nat.sub_zero,jf (by lia)]
def b9Z{ds:List D}{k:Int}(h0:0<=k)(h1:k<=ds.length):cutD ds (xn k) xI=ds.drop k.toNat:=by
 unfold cutD HT.sIx;simp only[aJ (show ¬ k<0 by lia),jf (show k.toNat<=ds.length by lia)];exact kT (by rw[gA];exact ay _)
def X1{xs ys:List Int}(h:xs.length+ys.length<=16777216):a8R (xn (.list (xs.map .int))) (xn (.list (ys.map .int)))=xn (.list ((xs++ys).map .int)):=by
 rw[b4q (by simpa using h),aN]
def Z3{xs:List Int}:lIs (xn (.list (xs.map .int)))=xn (.list (xs.map .int)):=b4n (p7 _)
def c1J{xs:List Int}{k:Int}(h0:0<=k)(h1:k<=xs.length):lSl (xn (.list (xs.map .int))) (xn (xn k)) (xn xI)=xn (.list ((xs.drop k.toNat).map .int)):=by
 rw[b7Z,b9Z h0 (by simpa using h1),List.map_drop]
def a2O:aI (.int x) (.int y)=decide (x=y):=by
 show (x==y)=decide (x=y);exact gi x y
def at0{α:Type}{x:α}{xs:List α}:L2.atI (x::xs) 0=xn x:=by
 unfold L2.atI ixN;rw[aB (by decide),aB (by simp only[aV];lia)];rfl
def at1{α:Type}{x y:α}{xs:List α}:L2.atI (x::y::xs) 1=xn y:=by
 unfold L2.atI ixN;rw[aB (by decide),aB (by simp only[aV];lia)];rfl
def t7{enc:α->D}{set:List D->D->Option (List D)}{xs:List α}{Z:List D}(I:List α->List D->Prop)(h0:I [] Z)
  (step:∀pre x post,xs=pre++x::post->∀Z,I pre Z->∃Z1 Z2,set Z (enc x)=xn Z1/\g Z1=xn (.nx Z2)/\I (pre++[x]) Z2) :
  ∃Z',U9 set g (xs.map enc) Z=xn (.nx Z')/\I xs Z':=by
 have key:∀(post pre:List α) (Z:List D),xs=pre++post->I pre Z->∃Z',U9 set g (post.map enc) Z=xn (.nx Z')/\I xs Z':=by
  intro post
  induction post with
  |nil=>
   intro pre Z e h;rw[bg]at e;subst e;exact⟨Z,rfl,h⟩
  |cons x post ih=>
   intro pre Z e h;obtain⟨Z1,Z2,h1,h2,h3⟩:=step pre x post e Z h;obtain⟨Z',h4,h5⟩:=ih (pre++[x]) Z2 (by rw[e,aS];rfl) h3;refine⟨Z',?_,h5⟩;show (set Z (enc x)).bind _=_;rw[h1];show (g Z1).bind _=_;rw[h2];exact h4
 exact key xs [] Z rfl h0
def a4Y:l0 0 n=(aA n).map λ(k:Nat)=>aO k:=by
 unfold l0;refine bG λk _=>?_
 show aO (0+(k:Int))=.int k;rw[Int.zero_add]
def X2(h:aA n=pre++x::post):x=pre.length/\x<n/\pre=aA x:=by
 have hx:(aA n)[pre.length]?=xn x:=by rw[h];simp
 have jv:pre.length<n:=by have:=dB dY h;simp at this;lia
 rw[eR jv]at hx;have e:x=pre.length:=(aF hx).symm;refine⟨e,by lia,?_⟩;have:=dB (List.take pre.length) h;rw[List.take_append_of_le_length (ay _),nZ,oY,jf (by lia)]at this;rw[e,this]
def N3{set:List D->D->Option (List D)}{Z:List D}(I:Nat->List D->Prop)(h0:I 0 Z)
  (step:∀k,k<n->∀Z,I k Z->∃Z1 Z2,set Z (.int k)=xn Z1/\g Z1=xn (.nx Z2)/\I (k+1) Z2) :
  ∃Z',U9 set g (l0 0 n) Z=xn (.nx Z')/\I n Z':=by
 rw[a4Y];obtain⟨Z',h1,h2⟩:=t7 (enc:=λ(k:Nat)=>aO k) (set:=set) (g:=g) (xs:=aA n) (Z:=Z) (λpre Z=>I pre.length Z) h0 λpre x post e Z h=>by
  obtain⟨e1,e2,_⟩:=X2 e;subst e1;obtain⟨Z1,Z2,a,b,c⟩:=step pre.length e2 Z h;exact⟨Z1,Z2,a,b,by rw[az];exact c⟩
 rw[bz]at h2;exact⟨Z',h1,h2⟩
def big:Int:=10^60
def c0a:1000<big:=by decide
abbrev i6:=List (List (Int×Int))
def stD(p:Int×Int):D:=.tuple [.int p.1,.int p.2]
def rwD(r:List (Int×Int)):D:=.list (r.map stD)
def rowAt(m:i6)(s:Int):List (Int×Int):=m.getD s.toNat []
def stp(m:i6)(s a:Int):Int×Int:=(rowAt m s).getD a.toNat (0,0)
structure WF (m:i6) (k:Nat):Prop where
 pos:0<m.length
 le:m.length<=30
 k1:1<=k
 k5:k<=5
 rows:∀r∈m,r.length=k
 next:∀r∈m,∀p∈r,0<=p.2/\p.2<(m.length:Int)
def G6{m:i6}{s:Int}(h0:0<=s)(h1:s<m.length):rowAt m s∈m:=by
 unfold rowAt;rw[ag,ab (by lia)];exact dA _
def WF.row{m:i6}{k:Nat}(w:WF m k){s:Int}(h0:0<=s)(h1:s<m.length):(rowAt m s).length=k:=w.rows _ (G6 h0 h1)
def b7c{m:i6}{k:Nat}(w:WF m k){s a:Int}(h0:0<=s)(h1:s<m.length)(h2:0<=a)(h3:a<k):stp m s a∈rowAt m s:=by
 have:=w.row h0 h1;unfold stp;rw[ag,ab (by lia)];exact dA _
def WF.nx{m:i6}{k:Nat}(w:WF m k){s a:Int}(h0:0<=s)(h1:s<m.length)(h2:0<=a)(h3:a<k):0<=(stp m s a).2/\(stp m s a).2<(m.length:Int):=w.next _ (G6 h0 h1) _ (b7c w h0 h1 h2 h3)
def a2I{m:i6}{s:Int}(h0:0<=s)(h1:s<m.length):L2.atI (m.map rwD) s=xn (rwD (rowAt m s)):=by
 rw[a0u h0 (by rw[ai];exact h1),de];unfold rowAt;rw[ag,ab (by lia)];rfl
def b1Z{r:List (Int×Int)}{a:Int}(h0:0<=a)(h1:a<r.length):dIx (rwD r) (.int a)=xn (stD (r.getD a.toNat (0,0))):=by
 show L2.atI (r.map stD) a=_;rw[a0u h0 (by rw[ai];exact h1),de,ag,ab (by lia)];rfl
def c1K:dIx (stD p) (.int 0)=xn (.int p.1):=rfl
def c1L:dIx (stD p) (.int 1)=xn (.int p.2):=rfl
def a3I:imm (stD p)=true:=by unfold stD;simp only[imm,e7,eG]
def c0b:a5C (stD p)=xn (stD p):=b3r a3I
def b7d:a5C (.int i)=xn (.int i):=b3r R9
def c1M:s9 [rwD r]=xn (.int r.length):=by
 show xn (aO ((r.map stD).length:Nat))=_;rw[ai]
def b7e{Z:List D}:b3k i j (xn (stD p)) Z=xn (.nx ((Z.set i (.int p.1)).set j (.int p.2))):=rfl
def b4r(p:Int×Int):(stD p).canLay0=true:=by unfold stD;simp[eQ,bb]
def a7x(p:Int×Int):(stD p).depth<=1:=by unfold stD;simp[fB,cX]
def c6(m:i6):Int->List Int->List Int×Int
 |s,[]=>([],s)
 |s,a::p=>((stp m s a).1::(c6 m (stp m s a).2 p).1,(c6 m (stp m s a).2 p).2)
theorem Q1(m:i6):∀(p q:List Int) (s:Int),c6 m s (p++q)=((c6 m s p).1++(c6 m (c6 m s p).2 q).1,(c6 m (c6 m s p).2 q).2)
 |[],q,s=>rfl
 |a::p,q,s=>by
  show ((stp m s a).1::(c6 m (stp m s a).2 (p++q)).1,(c6 m (stp m s a).2 (p++q)).2)=_;rw[Q1 m p q];rfl
theorem A7(m:i6):∀(p:List Int) (s:Int),(c6 m s p).1.length=p.length
 |[],s=>rfl
 |a::p,s=>by
  show (c6 m (stp m s a).2 p).1.length+1=_;rw[A7 m p];rfl
theorem D5{m:i6}{k:Nat}(w:WF m k):∀(p:List Int) (s:Int),0<=s->s<m.length->(∀a∈p,0<=a/\a<(k:Int))->0<=(c6 m s p).2/\(c6 m s p).2<(m.length:Int)
 |[],s,h0,h1,_=>⟨h0,h1⟩
 |a::p,s,h0,h1,h=>by
  have ha:=h a aK;have hn:=w.nx h0 h1 ha.1 ha.2;exact D5 w p _ hn.1 hn.2 λb hb=>h b (av _ hb)
def S9(m:i6)(p:List Int)(a s:Int):c6 m s (p++[a])=((c6 m s p).1++[(stp m (c6 m s p).2 a).1],(stp m (c6 m s p).2 a).2):=by
 rw[Q1];rfl
def c2Z:Option Out->Option D
 |some (.rt d)=>xn d
 |some (.nx _)=>xn .none
 |_=>xI
def b8a(h:argsOk us ds=true):fnN us n g ds=c2Z (g (ds++aT n .none)):=by
 unfold fnN;rw[aB h];cases g (ds++aT n .none) with
 |none=>rfl
 |some o=>cases o<;>rfl
section
variable {i:Nat}{t u2:Ty}{Z ds es:List D}{e d:D}{fe fj fa:EvE}{j a:Int}
def b4s{n:Nat}(h0:0<=j)(h1:j<n):ixN n j=xn j.toNat:=by
 unfold ixN;rw[aB h0,aB h1]
end
def eq_nil{p:List Int}:dEq (.list (p.map .int)) (.list [])=xn (.bool (decide (p=[]))):=b7X (ys:=[])
end VS
namespace Prog
open PySem L2 VS
def top(i:Nat):iy:=PySem.Challenge.pw_probewell_k57_common_marks.main.body.getD i (.Pass ⟨0,0,0,0⟩)
structure Bn (K:af) (mg:bE->Option aj):Prop where
 d0:DP K mg "_law_mixed" (top 45)
 d1:DP K mg "_law_pool" (top 46)
 d2:DP K mg "_law_machine" (top 47)
 d3:DP K mg "first_of_classes" (top 34)
 d4:DP K mg "renumbered" (top 21)
 d5:DP K mg "finer_level" (top 20)
 d6:DP K mg "levels_of" (top 19)
 d7:DP K mg "ways_from" (top 31)
 d8:DP K mg "ways_by_state" (top 30)
 d9:DP K mg "reached" (top 29)
 d10:DP K mg "least" (top 33)
 d11:DP K mg "ways" (top 28)
 d12:DP K mg "_law_head" (top 49)
 d13:DP K mg "is_whole" (top 6)
 d14:DP K mg "need_size" (top 38)
 d15:DP K mg "rank" (top 12)
 d16:DP K mg "marks_among" (top 26)
 d17:DP K mg "first_parting" (top 23)
 d18:DP K mg "first_unlike" (top 22)
 d19:DP K mg "apart_from" (top 18)
 d20:DP K mg "apart" (top 16)
 d21:DP K mg "marks" (top 25)
 d22:DP K mg "one_ask_longer" (top 39)
 d23:DP K mg "rows_of" (top 36)
 d24:DP K mg "asks_of" (top 10)
 d25:DP K mg "walked" (top 13)
 d26:DP K mg "book_probes" (top 43)
 d27:DP K mg "book_size" (top 37)
 d28:DP K mg "book" (top 42)
 d29:DP K mg "is_below" (top 7)
 d30:DP K mg "need_state" (top 14)
 d31:DP K mg "told_apart" (top 17)
 d32:DP K mg "_law_walked" (top 48)
 d33:DP K mg "_law_told" (top 50)
 d34:DP K mg "law" (top 51)
 bool_:mg "bool"=xI
 enumerate_:mg "enumerate"=xI
 int_:mg "int"=xI
 isinstance_:mg "isinstance"=xI
 len_:mg "len"=xI
 list_:mg "list"=xI
 max_:mg "max"=xI
 range_:mg "range"=xI
 reversed_:mg "reversed"=xI
 sorted_:mg "sorted"=xI
 tuple_:mg "tuple"=xI
 MOST_IN_BOOK_:∃t,mg "MOST_IN_BOOK"=xn (.int 3000 t)
 MOST_STATES_:∃t,mg "MOST_STATES"=xn (.int 30 t)
structure Bk (P:bw) (w:b_) (K:af) (mg:bE->Option aj) (base:cR):Prop extends Bn K mg
variable {P:bw}{w:b_}{K:af}{mg:bE->Option aj}{base:cR}
abbrev HB(_:Bk P w K mg base):=Has P w K mg base
def c1N:(["answer","after","numbers"]:List bE).Nodup:=by decide +kernel
def c3a:(["row"]:List bE).Nodup:=by decide +kernel
def c3b:(["step"]:List bE).Nodup:=by decide +kernel
def c3c:(["number","places"]:List bE).Nodup:=by decide +kernel
def c3d:(["state","machine","numbers"]:List bE).Nodup:=by decide +kernel
def c3e:(["state","found"]:List bE).Nodup:=by decide +kernel
def c1O:(["probe"]:List bE).Nodup:=by decide +kernel
def c3f:(["level","one","other"]:List bE).Nodup:=by decide +kernel
def c3g:(["other","machine","levels","state"]:List bE).Nodup:=by decide +kernel
def c1P:(["state","machine","levels"]:List bE).Nodup:=by decide +kernel
def c1Q:(["probes"]:List bE).Nodup:=by decide +kernel
def c1R:(["ask","row"]:List bE).Nodup:=by decide +kernel
def c1S:(["probe","machine"]:List bE).Nodup:=by decide +kernel
def b_law_mixed:EvS:=(f8 (i9 2 (eC (.int 3))) (f8 (sIf (tB (e2 dGt (eCl s9 (a7 (a6 0) b9)) (eC (.int 0)))) (i9 2 (e2 u9 (a6 0) (e2 J0 (a6 1) (eCl s9 (a7 (a6 0) b9))))) E1) (f8 (i9 2 (e2 J0 (e2 Z8 (e2 y9 (e2 y9 (e2 J0 (a6 2) (eC (.int 2147483629))) (e2 Z8 (eC (.int 7919)) (a6 1))) (eC (.int 1))) (eC (.int 48271))) (eC (.int 2147483647)))) (t6 (e2 J0 (e2 Z8 (a6 2) (e2 y9 (e2 y9 (e2 J0 (a6 2) (eC (.int 65521))) (a6 1)) (eC (.int 2)))) (eC (.int 2147483629)))))))
def m_law_mixed:=fnD [.f,.i] 1 b_law_mixed
abbrev J9(B:Bk P w K mg base)(k:Nat):=HB B "_law_mixed" k ["_law_script","_law_k"] (spD K 2 m_law_mixed .i)
def ok_law_mixed(B:Bk P w K mg base):J9 B 1:=
 l8 B.d0 λ_ _ F=>fnF F ["_law_script","_law_k","_law_cell"] λsc _ _ _ _ _ _ _=>by exact b7 (f9 2 (t:=.i) sc.nd (a9 c9)) (b7 (M7 (M':=[mdF,mdI,mdI]) (w6 a9v (m8 B.len_ (b8 0)) c9) (f7 (f9 2 (t:=.i) sc.nd (a9 (z8 (b8 0) (i8 z7 (f6 1) (m8 B.len_ (b8 0))))))) B7) (b7 (f9 2 (t:=.i) sc.nd (a9 (i8 z7 (i8 R1 (i8 q9 (i8 q9 (i8 z7 (f6 2) c9) (i8 R1 c9 (f6 1))) c9) c9) c9))) (f7 (k7 (a9 (i8 z7 (i8 R1 (f6 2) (i8 q9 (i8 q9 (i8 z7 (f6 2) c9) (f6 1)) c9)) c9))))))
def b_law_pool:EvS:=(f8 (i9 2 (e2 J0 (eCl m_law_mixed (a7 (a6 0) (a7 (a6 1) b9))) (eC (.int 3)))) (f8 (sIf (tB (e2 dEq (a6 2) (eC (.int 0)))) (t6 (x4 (a7 (eC (.int 0)) (a7 (eC (.int 1)) b9)))) E1) (f8 (sIf (tB (e2 dEq (a6 2) (eC (.int 1)))) (t6 (x4 (a7 (e2 a5w (e2 J0 (eCl m_law_mixed (a7 (a6 0) (a7 (e2 y9 (a6 1) (eC (.int 1))) b9))) (eC (.int 7))) (eC (.int 3))) (a7 (e2 a5w (e2 J0 (eCl m_law_mixed (a7 (a6 0) (a7 (e2 y9 (a6 1) (eC (.int 2))) b9))) (eC (.int 7))) (eC (.int 3))) b9)))) E1) (t6 (x4 (a7 (e2 a5w (eC (.int 1)) (e2 b0V (eC (.int 10)) (eC (.int 60)))) (a7 (e2 a5w (e2 y9 (e2 J0 (e2 b0V (eCl m_law_mixed (a7 (a6 0) (a7 (e2 y9 (a6 1) (eC (.int 1))) b9))) (eC (.int 7))) (e2 a5w (e2 Z8 (eC (.int 2)) (e2 b0V (eC (.int 10)) (eC (.int 60)))) (eC (.int 1)))) (eC (.int 1))) (e2 b0V (eC (.int 10)) (eC (.int 60)))) b9)))))))
def m_law_pool:=fnD [.f,.i] 1 b_law_pool
abbrev a3J(B:Bk P w K mg base)(k:Nat):=HB B "_law_pool" k ["_law_script","_law_at"] (spD K 2 m_law_pool (.l .i))
def ok_law_pool(B:Bk P w K mg base)(cP:J9 B 1):a3J B 2:=
 l8 B.d1 λ_ _ F=>fnF F ["_law_script","_law_at","_law_way"] λsc _ _ _ _ _ _ hr=>by exact b7 (f9 2 (t:=.i) sc.nd (a9 (i8 z7 (k6 cP hr (a8 (b8 0) (a8 (f6 1) c8))) c9))) (b7 (M7 (M':=[mdF,mdI,mdI]) (w6 a1M (f6 2) c9) (f7 (k7 (a9 (r8 (n:=2) (u:=.i) (m6 (u:=.i) c9 (m6 (u:=.i) c9 l5)))))) B7) (b7 (M7 (M':=[mdF,mdI,mdI]) (w6 a1M (f6 2) c9) (f7 (k7 (a9 (r8 (n:=2) (u:=.i) (m6 (u:=.i) (i8 a0q (i8 z7 (k6 cP hr (a8 (b8 0) (a8 (i8 q9 (f6 1) c9) c8))) c9) c9) (m6 (u:=.i) (i8 a0q (i8 z7 (k6 cP hr (a8 (b8 0) (a8 (i8 q9 (f6 1) c9) c8))) c9) c9) l5)))))) B7) (f7 (k7 (a9 (r8 (n:=2) (u:=.i) (m6 (u:=.i) (i8 a0q c9 (i8 a5x c9 c9)) (m6 (u:=.i) (i8 a0q (i8 q9 (i8 z7 (i8 a5x (k6 cP hr (a8 (b8 0) (a8 (i8 q9 (f6 1) c9) c8))) c9) (i8 a0q (i8 R1 c9 (i8 a5x c9 c9)) c9)) c9) (i8 a5x c9 c9)) l5))))))))
def b_law_machine:EvS:=(f8 (i9 1 (e2 y9 (eC (.int 1)) (e2 J0 (eCl m_law_mixed (a7 (a6 0) (a7 (eC (.int 0)) b9))) (eC (.int 5))))) (f8 (i9 2 (e2 y9 (eC (.int 1)) (e2 J0 (eCl m_law_mixed (a7 (a6 0) (a7 (eC (.int 1)) b9))) (eC (.int 3))))) (f8 (i9 3 (eCl m_law_pool (a7 (a6 0) (a7 (eC (.int 2)) b9)))) (f8 (i9 4 (x4 b9)) (f8 (C0 (iR (a6 1)) (t8 5) (f8 (i9 6 (x4 b9)) (f8 (C0 (iR (a6 2)) (t8 7) (f8 (i9 8 (eCl m_law_mixed (a7 (a6 0) (a7 (e2 y9 (e2 y9 (eC (.int 10)) (e2 Z8 (a6 5) (a6 2))) (a6 7)) b9)))) (M8 6 (.l .i) y8 (V7 (a7 (e2 a3f (a6 3) (e2 J0 (a6 8) (eC (.int 2)))) (a7 (e2 J0 (e2 b0T (a6 8) (eC (.int 6))) (a6 1)) b9)))))) (M8 4 (.l (.l .i)) y8 (a6 6))))) (t6 (a6 4)))))))
def m_law_machine:=fnD [.f] 8 b_law_machine
abbrev a0f(B:Bk P w K mg base)(k:Nat):=HB B "_law_machine" k ["_law_script"] (spD K 1 m_law_machine (.l (.l .i)))
def ok_law_machine(B:Bk P w K mg base)(cP:J9 B 2)(kh:a3J B 2):a0f B 3:=
 l8 B.d2 λ_ _ F=>fnF F ["_law_script","_law_states","_law_asks","_law_pool_here","_law_rows","_law_s","_law_row","_law_a","_law_cell"] λsc _ _ _ _ _ _ hr=>by exact b7 (f9 1 (t:=.i) sc.nd (a9 (i8 q9 c9 (i8 z7 (k6 cP hr (a8 (b8 0) (a8 c9 c8))) c9)))) (b7 (f9 2 (t:=.i) sc.nd (a9 (i8 q9 c9 (i8 z7 (k6 cP hr (a8 (b8 0) (a8 c9 c8))) c9)))) (b7 (f9 3 (t:=(.l .i)) sc.nd (a9 (k6 kh hr (a8 (b8 0) (a8 c9 c8))))) (b7 (f9 4 (t:=(.l (.l .i))) sc.nd (a9 (r8 (n:=0) (u:=(.l .i)) l5))) (b7 (B8 (M:=[mdF,mdI,mdI,mdL,X0,mdD,mdD,mdD,mdD]) (MB:=[mdF,mdI,mdI,mdL,X0,mdI,mdD,mdD,mdD]) rfl bL (A1 B.range_ (f6 1)) (y6 5 sc.nd) W6 b6c (PSsX.weak (M2:=[mdF,mdI,mdI,mdL,X0,mdI,mdD,mdD,mdD]) (b7 (f9 6 (t:=(.l .i)) sc.nd (a9 (r8 (n:=0) (u:=.i) l5))) (b7 (B8 (M:=[mdF,mdI,mdI,mdL,X0,mdI,mdL,mdD,mdD]) (MB:=[mdF,mdI,mdI,mdL,X0,mdI,mdL,mdI,mdD]) rfl bL (A1 B.range_ (f6 2)) (y6 7 sc.nd) W6 b6c (PSsX.weak (M2:=[mdF,mdI,mdI,mdL,X0,mdI,mdL,mdI,mdI]) (b7 (f9 8 (t:=.i) sc.nd (a9 (k6 cP hr (a8 (b8 0) (a8 (i8 q9 (i8 q9 c9 (i8 R1 (f6 5) (f6 2))) (f6 7)) c8))))) (f7 (a0s 6 (u:=(.l .i)) (t:=.i) (R7 6 (u:=(.l .i))) (a9 (a5D (n:=2) (m6 (u:=.i) (PX.newi (a5F (U4 3) (i8 z7 (f6 8) c9))) (m6 (u:=.i) (i8 z7 (i8 b8L (f6 8) c9) (f6 1)) l5)))) a3j))) l9 ((k9 7).trans (k9 8)))) (f7 (a0s 4 (u:=(.l (.l .i))) (t:=(.l .i)) (R7 4 (u:=(.l (.l .i)))) (D9 6 (u:=(.l .i))) a3j)))) l9 (k9 5))) (f7 (k7 (D9 4 (u:=(.l (.l .i))))))))))
def N4:EvS:=(f8 (i9 2 (eC (.dict []))) (f8 (C0 (iI (iL (a6 0))) (t8 3) (b3y (U3 2 false (e2 u9 (a6 1) (a6 3)) (a6 3)))) (t6 (a5R (a6 2)))))
def x8:=fnD [.f,.f] 2 N4
abbrev N5(B:Bk P w K mg base)(k:Nat):=HB B "first_of_classes" k ["states","finest"] (spD K 2 x8 (.l .i))
def Z9(B:Bk P w K mg base):N5 B 1:=
 l8 B.d3 λ_ _ F=>fnF F ["states","finest","found","state"] λsc _ _ _ _ _ _ hr=>by exact b7 (f9 2 (t:=(.d false .i)) sc.nd (a9 (P6 false .i))) (b7 (B8 (M:=[mdF,mdF,.own (.d false .i),mdD]) (MB:=[mdF,mdF,.own (.d false .i),mdI]) rfl bL (PIX.i (m7 (PX.newf (b8 0)))) (y6 3 sc.nd) W6 b1f (PSsX.weak (M2:=[mdF,mdF,.own (.d false .i),mdI]) (f7 (b9x (a6U 2 (kt:=false) (by exact hr.units) (z8 (b8 1) (f6 3)) (PX.newi (f6 3))))) l9 (k9 3))) (f7 (k7 (a9 (b3L rfl B.list_ (r0 2 (u:=(.d false .i))))))))
def T0:EvS:=(t6 (r9 (iI (iL (a6 0))) [1] pt2 tT (V7 (a7 (a6 0) (a7 (e2 u9 (a6 2) (a6 1)) b9)))))
def j7:=fnD [.f,.f] 0 T0
abbrev K8(B:Bk P w K mg base)(k:Nat):=HB B "renumbered" k ["row","numbers"] (spD K 2 j7 (.l .i))
def a4u(B:Bk P w K mg base):K8 B 1:=
 l8 B.d4 λ_ _ F=>fnF F ["row","numbers"] λ_ _ _ _ _ _ _ _=>by exact f7 (k7 (a9 (A5 rfl (tn:=["answer","after"]) (ys:=["numbers"]) (js:=[1]) (m:=.i) (PIX.i (m7 (PX.newf (b8 0)))) rfl (λ_ _ _ _ _=>a1w rfl (u8 (q8 (i:=0) c1N rfl (bY rfl) (.inr rfl)) (u8 (q8 (i:=1) c1N rfl (bY rfl) (.inr rfl)) Q7))) b5Y (.inl rfl) c0R rfl (λ_ _ _ _ _=>A6) (λ_ _ _ _ _=>(a5D (n:=2) (m6 (u:=.i) (PX.newi (f6 0)) (m6 (u:=.i) (z8 (b8 2) (f6 1)) l5)))))))
def a0g:EvS:=(f8 (i9 2 (eC (.dict []))) (f8 (i9 3 (x4 b9)) (f8 (C0 (iL (a6 0)) (t8 4) (f8 (i9 5 (L9 (eCl j7 (a7 (a6 4) (a7 (a6 1) b9))))) (a6T 3 (U3 2 true (a6 5) (eCl a9J (a7 (a6 2) b9)))))) (t6 (a6 3)))))
def v7:=fnD [.f,.f] 4 a0g
abbrev a0h(B:Bk P w K mg base)(k:Nat):=HB B "finer_level" k ["machine","level"] (spD K 2 v7 (.l .i))
def a3K(B:Bk P w K mg base)(eh:K8 B 1):a0h B 2:=
 l8 B.d5 λ_ _ F=>fnF F ["machine","level","numbers","finer","row","seen"] λsc _ _ _ _ _ _ hr=>by exact b7 (f9 2 (t:=(.d true .i)) sc.nd (a9 (P6 true .i))) (b7 (f9 3 (t:=(.l .i)) sc.nd (a9 (r8 (n:=0) (u:=.i) l5))) (b7 (B8 (M:=[mdF,mdF,.own (.d true .i),mdL,mdD,mdD]) (MB:=[mdF,mdF,.own (.d true .i),mdL,mdF,mdD]) rfl bL (m7 (PX.newf (b8 0))) (y6 4 sc.nd) a0r (λ_ _ _ _ _=>trivial) (PSsX.weak (M2:=[mdF,mdF,.own (.d true .i),mdL,mdF,mdI]) (b7 (f9 5 (t:=.i) sc.nd (a9 (W3 B.tuple_ (k6 eh hr (a8 (b8 4) (a8 (b8 1) c8)))))) (f7 (b6m 3 (t:=.i) (a6U 2 (kt:=true) (by exact hr.units) (PX.newi (f6 5)) (b6j (kt:=true) (u:=.i) B.len_ (r0 2 (u:=(.d true .i))))) (hni:=a8w (by decide))))) l9 ((k9 4).trans (k9 5)))) (f7 (k7 (D9 3 (u:=(.l .i)))))))
def a2u:EvS:=(f8 (i9 1 (x4 (a7 (r9 (iL (a6 0)) [] pt1 tT (eC (.int 0))) b9))) (f8 (i9 2 (eCl v7 (a7 (a6 0) (a7 (e2 a3f (a6 1) (eC (.int (-1)))) b9)))) (f8 (sWh (λ_=>1000000) (tB (e2 dGt (eCl a0d (a7 (a6 2) b9)) (eCl a0d (a7 (e2 a3f (a6 1) (eC (.int (-1)))) b9)))) (f8 (Y7 1 2 (eCl v7 (a7 (a6 0) (a7 (a6 2) b9)))) E1)) (t6 (a6 1)))))
def A0:=fnD [.f] 2 a2u
abbrev N9(B:Bk P w K mg base)(k:Nat):=HB B "levels_of" k ["machine"] (spD K 1 A0 (.l (.l .i)))
def a6a(B:Bk P w K mg base)(gL:a0h B 2):N9 B 3:=
 l8 B.d6 λ_ _ F=>fnF F ["machine","levels","finer"] λsc _ _ _ _ _ _ hr=>by exact b7 (f9 1 (t:=(.l (.l .i))) sc.nd (a9 (r8 (n:=1) (u:=(.l .i)) (m6 (u:=(.l .i)) (A5 rfl (tn:=["row"]) (ys:=[]) (js:=[]) (m:=.f) (m7 (PX.newf (b8 0))) rfl (λ_ _ _ _ _=>q8 (i:=0) c3a rfl (bY rfl) (.inr rfl)) C7 (.inr rfl) a9C rfl (λ_ _ _ _ _=>A6) (λ_ _ _ _ _=>c9)) l5)))) (b7 (f9 2 (t:=(.l .i)) sc.nd (a9 (k6 gL hr (a8 (b8 0) (a8 (a5F (r0 1 (u:=(.l (.l .i)))) (a8d)) c8))))) (b7 (a3i (M:=[mdF,X0,mdL]) (λ_=>1000000) bL (w6 a9v (a3g (a9L rfl) B.max_ PyProof.Rows.Boot.«max» (a8 (U4 2) c8)) (a3g (a9L rfl) B.max_ PyProof.Rows.Boot.«max» (a8 (a5F (r0 1 (u:=(.l (.l .i)))) (a8d)) c8))) (b1r 1 2 (t:=(.l .i)) (by decide) sc.nd rfl rfl rfl rfl (a6X (u:=(.l .i)) gL hr (Y6 (PXL.of (b8 0)) (Y6 (a6V) (a6W))) (hfl:=(j8 (j8 B9)))) B7)) (f7 (k7 (D9 1 (u:=(.l (.l .i))))))))
def a2v:(List D->Option D)->EvS:=λgm=>(f8 (i9 2 (eD1 false (a6 0) (x4 b9))) (f8 (i9 3 (x4 (a7 (a6 0) b9))) (f8 (sWh (λ_=>1000000) (tV (a6 3)) (f8 (i9 4 (x4 b9)) (f8 (C0 (iI (iL (a6 3))) (t8 5) (C0 (iI (iEn (eCl gm (a7 (a6 5) b9)))) (a1z 6 7) (sIf (tB (e2 (dIn true false) (a6 7) (a6 2))) (f8 (C1 2 false (a6 7) (eI (J6 (e2 (a5L false) (a6 2) (a6 5)) (x4 (a7 (a6 6) b9))))) (M8 4 (.l .i) y8 (a6 7))) E1))) (i9 3 (a6 4))))) (t6 (a6 2)))))
def O0:=fnL [.i] 6 a2v
abbrev a2w(B:Bk P w K mg base)(k:Nat):=HB B "ways_from" k ["start","led_to"] (spL K 1 (λgm=>FnV P w K mg base 1 1 (.l .i) gm) O0 (.d false (.l .i)))
def a6b(B:Bk P w K mg base):a2w B 2:=
 l8 B.d7 λ_ _ F=>c2M F ["start","led_to","found","newest","newer","place","ask","after"] λsc gm _ _ _ _ _ _ hr=>by exact b7 (f9 2 (t:=(.d false (.l .i))) sc.nd (a9 (b3G (kt:=false) (u:=(.l .i)) (by exact hr.units) (f6 0) (r8 (n:=0) (u:=.i) l5)))) (b7 (f9 3 (t:=(.l .i)) sc.nd (a9 (r8 (n:=1) (u:=.i) (m6 (u:=.i) (PX.newi (f6 0)) l5)))) (b7 (a3i (M:=[mdI,.fn (FnV P w K mg base 1 1 (.l .i) gm),.own (.d false (.l .i)),mdL,mdD,mdD,mdD,mdD]) (λ_=>1000000) bL (a5z (U4 3)) (b7 (f9 4 (t:=(.l .i)) sc.nd (a9 (r8 (n:=0) (u:=.i) l5))) (b7 (PSX.weak (M1:=[mdI,.fn (FnV P w K mg base 1 1 (.l .i) gm),.own (.d false (.l .i)),mdF,mdL,mdD,mdD,mdD]) (B8 (M:=[mdI,.fn (FnV P w K mg base 1 1 (.l .i) gm),.own (.d false (.l .i)),mdF,mdL,mdD,mdD,mdD]) (MB:=[mdI,.fn (FnV P w K mg base 1 1 (.l .i) gm),.own (.d false (.l .i)),mdF,mdL,mdI,mdD,mdD]) rfl bL (PIX.i (m7 (PX.newf (b8 3)))) (y6 5 sc.nd) W6 b1f (PSsX.weak (M2:=[mdI,.fn (FnV P w K mg base 1 1 (.l .i) gm),.own (.d false (.l .i)),mdF,mdL,mdI,mdD,mdD]) (f7 (a5P (fi:=(iI (iEn (eCl gm (a7 (a6 5) b9))))) (M:=[mdI,.fn (FnV P w K mg base 1 1 (.l .i) gm),.own (.d false (.l .i)),mdF,mdL,mdI,mdD,mdD]) (MB:=[mdI,.fn (FnV P w K mg base 1 1 (.l .i) gm),.own (.d false (.l .i)),mdF,mdL,mdI,mdI,mdI]) rfl bL (b9B B.enumerate_ (PX.frz (b4c 1 (k:=1) (n:=1) (u:=(.l .i)) (m:=gm) (hr.mono (by decide)) (a8 (f6 5) c8) (hfl:=(j8 B9))))) (a1w rfl (u8 (y6 6 sc.nd) (u8 (y6 7 sc.nd) Q7))) (a5J (w:=.i) (.inr rfl)) (λZ ds h d hd _=>b1f Z ds h d hd) b3F (PSsX.weak (M2:=[mdI,.fn (FnV P w K mg base 1 1 (.l .i) gm),.own (.d false (.l .i)),mdF,mdL,mdI,mdI,mdI]) (f7 (M7 (M':=[mdI,.fn (FnV P w K mg base 1 1 (.l .i) gm),.own (.d false (.l .i)),mdF,mdL,mdI,mdI,mdI]) (b9s (kt:=false) (u:=(.l .i)) (b1m (by exact hr.units)) (f6 7) (r0 2 (u:=(.d false (.l .i))))) (b7 (a0T 2 (kt:=false) (u:=(.l .i)) (by exact hr.units) (f6 7) (a9 (MkL.i (R6 (b9u (kt:=false) (u:=(.l .i)) (by exact hr.units) (r0 2 (u:=(.d false (.l .i)))) (f6 5)) (r8 (n:=1) (u:=.i) (m6 (u:=.i) (PX.newi (f6 6)) l5)))))) (f7 (a0s 4 (u:=(.l .i)) (t:=.i) (R7 4 (u:=(.l .i))) (a9 (PX.newi (f6 7))) a3j))) B7)) l9 ((k9 6).trans (k9 7))))) l9 (k9 5))) (K1 3) l9) (f7 (f9 3 (t:=(.l .i)) sc.nd (D9 4 (u:=(.l .i)))))))) (f7 (k7 (D9 2 (u:=(.d false (.l .i))))))))
def U5:EvS:=(t6 (b6T O0 [.i] [0] (r9 (iI (iL (e2 dIx (a6 1) (a6 0)))) [] pt1 tT (e2 u9 (a6 0) (eC (.int 1)))) (a7 (eC (.int 0)) b9)))
def u5:=fnD [.f] 0 U5
abbrev K2(B:Bk P w K mg base)(k:Nat):=HB B "ways_by_state" k ["machine"] (spD K 1 u5 (.d false (.l .i)))
def a1P(B:Bk P w K mg base)(jG:a2w B 2)(LT:(B0 K "ways_by_state").isSome=true)(KB:K.In base)(GB:base.Ns bS mg):K2 B 3:=
 b6V B.d8 λ_ _ F a=>c2N F ["machine"] LT KB GB a λ_ _ _ vM vW vK A outer s H _ hr=>by exact f7 (k7 (a9 (by exact a8I (kf:=0) (u:=(.d false (.l .i))) (uf:=(.l .i)) (N:=["state","machine"]) (pl:=["state"]) (ys:=["machine"]) (js:=[0]) (us:=[.i]) jG hr (b4f c9 (b6S (by decide) vW vM vK rfl)) ⟨_,_,_,rfl,rfl,rfl,rfl,rfl,rfl⟩ ⟨⟨_,rfl⟩,trivial⟩ (by exact⟨rfl,rfl,rfl,by decide +kernel,rfl,by decide +kernel,by decide +kernel,by decide +kernel,rfl⟩) rfl (λ_ _ _ us hl=>by obtain⟨_,rfl⟩:=VS.b9G hl;rfl) (λfa c A outer s H hr=>A5 rfl (tn:=["step"]) (ys:=[]) (js:=[]) (m:=.i) (PIX.i (m7 (D8 (PX.newf (b8 1)) (f6 0)))) rfl (λ_ _ _ _ _=>q8 (i:=0) c3b rfl (bY rfl) (.inr rfl)) C7 (.inl rfl) a4O rfl (λ_ _ _ _ _=>A6) (λ_ _ _ _ _=>(z8 (f6 0) c9))) (hfl:=(b4e b6O)))))
def a4Z:EvS:=(t6 (a5Q (eCl u5 (a7 (a6 0) b9))))
def Z4:=fnD [.f] 0 a4Z
abbrev a5a(B:Bk P w K mg base)(k:Nat):=HB B "reached" k ["machine"] (spD K 1 Z4 (.l .i))
def a8S(B:Bk P w K mg base)(eO:K2 B 3):a5a B 4:=
 l8 B.d9 λ_ _ F=>fnF F ["machine"] λ_ _ _ _ _ _ _ hr=>by exact f7 (k7 (a9 (b3K rfl B.list_ (k6 eO hr (a8 (b8 0) c8)))))
def a9X:EvS:=(f8 (i9 1 (e2 dIx (eCl A0 (a7 (a6 0) b9)) (eC (.int (-1))))) (f8 (i9 2 (eCl x8 (a7 (eCl Z4 (a7 (a6 0) b9)) (a7 (a6 1) b9)))) (f8 (i9 3 (eC (.dict []))) (f8 (C0 (iI (iEn (a6 2))) (a1z 4 5) (C1 3 false (e2 u9 (a6 1) (a6 5)) (a6 4))) (f8 (i9 6 (r9 (iI (iL (a6 1))) [3] pt1 tT (e2 (a3o false) (a6 1) (a6 0)))) (t6 (r9 (iI (iL (a6 2))) [0,6] pt1 tT (eCl j7 (a7 (e2 dIx (a6 1) (a6 0)) (a7 (a6 2) b9))))))))))
def T1:=fnD [.f] 6 a9X
abbrev a6c(B:Bk P w K mg base)(k:Nat):=HB B "least" k ["machine"] (spD K 1 T1 (.l (.l .i)))
def b4t(B:Bk P w K mg base)(gg:N5 B 4)(eh:K8 B 4)(eP:N9 B 4)(kN:a5a B 4):a6c B 5:=
 l8 B.d10 λ_ _ F=>fnF F ["machine","finest","firsts","places","place","state","numbers"] λsc _ _ _ _ _ _ hr=>by exact b7 (f9 1 (t:=.f) sc.nd (a9 (D8 (PX.frz (k6 eP hr (a8 (b8 0) c8))) (a8d)))) (b7 (f9 2 (t:=(.l .i)) sc.nd (a9 (k6 gg hr (a8 (k6 kN hr (a8 (b8 0) c8)) (a8 (b8 1) c8))))) (b7 (f9 3 (t:=(.d false .i)) sc.nd (a9 (P6 false .i))) (b7 (PSX.weak (M1:=[mdF,mdF,mdF,.own (.d false .i),mdD,mdD,mdD]) (a5P (fi:=(iI (iEn (a6 2)))) (M:=[mdF,mdF,mdF,.own (.d false .i),mdD,mdD,mdD]) (MB:=[mdF,mdF,mdF,.own (.d false .i),mdI,mdI,mdD]) rfl bL (b9B B.enumerate_ (PX.newf (b8 2))) (a1w rfl (u8 (y6 4 sc.nd) (u8 (y6 5 sc.nd) Q7))) (a5J (w:=.i) (.inr rfl)) (λZ ds h d hd _=>b1f Z ds h d hd) b3F (PSsX.weak (M2:=[mdF,mdF,mdF,.own (.d false .i),mdI,mdI,mdD]) (f7 (a0T 3 (kt:=false) (u:=.i) (by exact hr.units) (z8 (b8 1) (f6 5)) (a9 (PX.newi (f6 4))))) l9 ((k9 4).trans (k9 5)))) (K1 2) l9) (b7 (f9 6 (t:=(.l .i)) sc.nd (a9 (A5 rfl (tn:=["number"]) (ys:=["places"]) (js:=[3]) (m:=.i) (PIX.i (m7 (PX.newf (b8 1)))) rfl (λ_ _ _ _ _=>q8 (i:=0) c3c rfl (bY rfl) (.inr rfl)) C7 (.inl rfl) a4O rfl (λ_ _ _ _ _=>A6) (λ_ _ _ _ _=>(PX.newi (b9v (kt:=false) (u:=.i) (by exact hr.units) (r0 1 (u:=(.d false .i))) (f6 0))))))) (f7 (k7 (a9 (A5 rfl (tn:=["state"]) (ys:=["machine","numbers"]) (js:=[0,6]) (m:=.i) (PIX.i (m7 (PX.newf (b8 2)))) rfl (λ_ _ _ _ _=>q8 (i:=0) c3d rfl (bY rfl) (.inr rfl)) C7 (.inl rfl) a4O rfl (λ_ _ _ _ _=>A6) (λ_ _ _ _ _=>(k6 eh hr (a8 (D8 (PX.newf (b8 1)) (f6 0)) (a8 (U4 2) c8))))))))))))
def b4u:EvS:=(f8 (i9 1 (eCl u5 (a7 (a6 0) b9))) (t6 (a5S 1 (eCl s9 (a7 (a6 0) b9)))))
def T2:=fnD [.f] 1 b4u
abbrev a8T(B:Bk P w K mg base)(k:Nat):=HB B "ways" k ["machine"] (spD K 1 T2 (.l (.l .i)))
def b7f(B:Bk P w K mg base)(eO:K2 B 3):a8T B 4:=
 l8 B.d11 λ_ _ F=>fnF F ["machine","found"] λsc _ _ _ _ _ _ hr=>by exact b7 (f9 1 (t:=(.d false (.l .i))) sc.nd (a9 (k6 eO hr (a8 (b8 0) c8)))) (f7 (k7 (b1C 1 (u:=(.l .i)) rfl B.range_ (m8 B.len_ (b8 0)) (λ_ _ _ _ _=>q8 (i:=0) c3e rfl (bY rfl) (.inr rfl)) (λ_ _ _ _ _=>b6t (by exact hr.units)))))
def b_law_head:EvS:=(f8 (i9 5 (x4 b9)) (f8 (C0 (iR (e2 J0 (eCl m_law_mixed (a7 (a6 0) (a7 (a6 1) b9))) (e2 y9 (a6 4) (eC (.int 2))))) (t8 6) (M8 5 (.l .i) y8 (e2 J0 (eCl m_law_mixed (a7 (a6 0) (a7 (e2 y9 (e2 y9 (a6 1) (eC (.int 1))) (a6 6)) b9))) (eCl s9 (a7 (e2 dIx (a6 2) (eC (.int 0))) b9))))) (t6 (eI (J6 (e2 dIx (a6 3) (e2 J0 (eCl m_law_mixed (a7 (a6 0) (a7 (e2 y9 (a6 1) (eC (.int 5))) b9))) (eCl s9 (a7 (a6 3) b9)))) (a6 5))))))
def m_law_head:=fnD [.f,.i,.f,.f,.i] 2 b_law_head
abbrev a3L(B:Bk P w K mg base)(k:Nat):=HB B "_law_head" k ["_law_script","_law_at","_law_small","_law_heads","_law_extra"] (spD K 5 m_law_head (.l .i))
def ok_law_head(B:Bk P w K mg base)(cP:J9 B 1):a3L B 2:=
 l8 B.d12 λ_ _ F=>fnF F ["_law_script","_law_at","_law_small","_law_heads","_law_extra","_law_middle","_law_k"] λsc _ _ _ _ _ _ hr=>by exact b7 (f9 5 (t:=(.l .i)) sc.nd (a9 (r8 (n:=0) (u:=.i) l5))) (b7 (B8 (M:=[mdF,mdI,mdF,mdF,mdI,mdL,mdD]) (MB:=[mdF,mdI,mdF,mdF,mdI,mdL,mdI]) rfl bL (A1 B.range_ (i8 z7 (k6 cP hr (a8 (b8 0) (a8 (f6 1) c8))) (i8 q9 (f6 4) c9))) (y6 6 sc.nd) W6 b6c (PSsX.weak (M2:=[mdF,mdI,mdF,mdF,mdI,mdL,mdI]) (f7 (a0s 5 (u:=(.l .i)) (t:=.i) (R7 5 (u:=(.l .i))) (a9 (i8 z7 (k6 cP hr (a8 (b8 0) (a8 (i8 q9 (i8 q9 (f6 1) c9) (f6 6)) c8))) (m8 B.len_ (D8 (PX.newf (b8 2)) c9)))) a3j)) l9 (k9 6))) (f7 (k7 (a9 (MkL.i (R6 (D8 (PX.newf (b8 3)) (i8 z7 (k6 cP hr (a8 (b8 0) (a8 (i8 q9 (f6 1) c9) c8))) (m8 B.len_ (b8 3)))) (U4 5)))))))
def a0C:EvS:=(t6 (b2V (e1 (λd=>xn (.bool (isInt d))) (a6 0)) (b5T (e1 (λd=>xn (.bool (isBool d))) (a6 0)))))
def D0:=fnD [.f] 0 a0C
abbrev a0D(B:Bk P w K mg base)(k:Nat):=HB B "is_whole" k ["thing"] (spD K 1 D0 .i)
def a7y(B:Bk P w K mg base):a0D B 1:=
 l8 B.d13 λ_ _ F=>fnF F ["thing"] λ_ _ _ _ _ _ _ _=>by exact f7 (k7 (a9 (b2Y (b3c b5W B.isinstance_ B.int_ PyProof.Rows.Boot.«int» (b8 0)) (a8c (b8N (b3c b3d B.isinstance_ B.bool_ PyProof.Rows.Boot.«bool» (b8 0)))))))
def a2x:EvS:=(sIf (a8a (tNo (tV (eCl D0 (a7 (a6 0) b9)))) (tNo (tB (eCh dLe dLe (eC (.int 1)) (a6 0) (a6 1))))) sNo E1)
def O1:=fnN [.f,.i] 0 a2x
abbrev a2y(B:Bk P w K mg base)(k:Nat):=HB B "need_size" k ["thing","most"] (spD K 2 O1 .i)
def a6d(B:Bk P w K mg base)(gI:a0D B 1):a2y B 2:=
 l8 B.d14 λ_ _ F=>c1z F ["thing","most"] [.own .f,.own .i] λ_ _ _ _ _ _ _ hr=>by exact f7 (M7 (M':=[mdF,mdI]) (PWX.pt (a8e (a5A (a5z (k6 gI hr (a8 (b8 0) c8)))) (a5B (a5A (b0X b2Q b2Q c9 (b8 0) (f6 1)))))) (f7 (b3g)) B7)
def b4v:EvS:=(t6 (V7 (a7 (eCl s9 (a7 (a6 0) b9)) (a7 (a6 0) b9))))
def a0E:=fnD [.i] 0 b4v
abbrev a8U(B:Bk P w K mg base)(k:Nat):=HB B "rank" k ["probe"] (spD K 1 a0E .i)
def b7g(B:Bk P w K mg base):a8U B 1:=
 l8 B.d15 λ_ _ F=>fnF F ["probe"] λ_ _ _ _ _ _ _ _=>by exact f7 (k7 (a9 (a5D (n:=2) (m6 (u:=.i) (m8 B.len_ (f6 0)) (m6 (u:=.i) (PX.newi (f6 0)) l5)))))
def a0i:EvS:=(f8 (i9 1 (eC (.dict []))) (f8 (C0 (iL (a6 0)) (t8 2) (sIf (tB (e2 (a6F true) (a6 2) (eC .none))) (C1 1 true (L9 (a6 2)) (eC (.bool true))) E1)) (t6 (b6M (r9 (iI (iL (a0B a0E (a6 1)))) [] pt1 tT (eI (a0P (a6 0)))) (x4 (a7 (x4 b9) b9))))))
def C3:=fnD [.f] 2 a0i
abbrev a0j(B:Bk P w K mg base)(k:Nat):=HB B "marks_among" k ["probes"] (spD K 1 C3 (.l (.l .i)))
def a3M(B:Bk P w K mg base)(kO:a8U B 1):a0j B 4:=
 l8 B.d16 λ_ _ F=>fnF F ["probes","found","probe"] λsc _ _ _ _ _ _ hr=>by exact b7 (f9 1 (t:=(.d true .i)) sc.nd (a9 (P6 true .i))) (b7 (B8 (M:=[mdF,.own (.d true .i),mdD]) (MB:=[mdF,.own (.d true .i),mdF]) rfl bL (m7 (PX.newf (b8 0))) (y6 2 sc.nd) a0r (λ_ _ _ _ _=>trivial) (PSsX.weak (M2:=[mdF,.own (.d true .i),mdF]) (f7 (M7 (M':=[mdF,.own (.d true .i),mdF]) (w6 a9w (b8 2) a8b) (f7 (a0T 1 (kt:=true) (u:=.i) (by exact hr.units) (W3 B.tuple_ (b8 2)) (a9 a2f))) B7)) l9 (k9 2))) (f7 (k7 (a9 (b9M (A5 rfl (tn:=["probe"]) (ys:=[]) (js:=[]) (m:=.i) (PIX.i (m7 (PX.frz (a7k rfl B.sorted_ kO hr (r0 1 (u:=(.d true .i))))))) rfl (λ_ _ _ _ _=>q8 (i:=0) c1O rfl (bY rfl) (.inr rfl)) C7 (.inl rfl) a4O rfl (λ_ _ _ _ _=>A6) (λ_ _ _ _ _=>(MkL.i (a9B B.list_ (PX.newi (f6 0)))))) (a8c (r8 (n:=1) (u:=(.l .i)) (m6 (u:=(.l .i)) (r8 (n:=0) (u:=.i) l5) l5))))))))
def U6:EvS:=(f8 (i9 2 (eC (.int 0))) (f8 (sWh (λ_=>1000000) (tB (e2 dEq (e2 u9 (a6 0) (a6 2)) (e2 u9 (a6 1) (a6 2)))) (b3B 2 (eC (.int 1)))) (t6 (a6 2))))
def u6:=fnD [.f,.f] 1 U6
abbrev U7(B:Bk P w K mg base)(k:Nat):=HB B "first_parting" k ["seen","against"] (spD K 2 u6 .i)
def a1Q(B:Bk P w K mg base):U7 B 1:=
 l8 B.d17 λ_ _ F=>fnF F ["seen","against","ask"] λsc _ _ _ _ _ _ hr=>by exact b7 (f9 2 (t:=.i) sc.nd (a9 c9)) (b7 (a3i (M:=[mdF,mdF,mdI]) (λ_=>1000000) bL (w6 a1M (z8 (b8 0) (f6 2)) (z8 (b8 1) (f6 2))) (f7 (b9y 2 sc.nd c9))) (f7 (k7 (a9 (PX.newi (f6 2))))))
def X3:EvS:=(f8 (i9 4 (e2 a3q (r9 (iL (a6 1)) [2,3] pt1 tT (e2 dEq (e2 u9 (a6 0) (a6 1)) (e2 u9 (a6 0) (a6 2)))) (eC (.bool true)))) (f8 (sIf (tB (e2 dEq (a6 4) (eCl s9 (a7 (a6 1) b9)))) (t6 (eC .none)) E1) (f8 (i9 5 (x4 b9)) (f8 (C0 (iRv (eSl (a6 1) oNo (oSo (a6 4)))) (t8 6) (f8 (i9 7 (eCl u6 (a7 (eCl j7 (a7 (e2 dIx (a6 0) (a6 2)) (a7 (a6 6) b9))) (a7 (eCl j7 (a7 (e2 dIx (a6 0) (a6 3)) (a7 (a6 6) b9))) b9)))) (f8 (M8 5 (.l .i) y8 (a6 7)) (f8 (i9 2 (e2 u9 (e2 u9 (e2 dIx (a6 0) (a6 2)) (a6 7)) (eC (.int 1)))) (i9 3 (e2 u9 (e2 u9 (e2 dIx (a6 0) (a6 3)) (a6 7)) (eC (.int 1)))))))) (t6 (a6 5))))))
def w8:=fnD [.f,.f,.i,.i] 4 X3
abbrev N6(B:Bk P w K mg base)(k:Nat):=HB B "first_unlike" k ["machine","levels","one","other"] (spD K 4 w8 (.l .i))
def a2J(B:Bk P w K mg base)(eh:K8 B 1)(gT:U7 B 1):N6 B 2:=
 l8 B.d18 λ_ _ F=>fnF F ["machine","levels","one","other","many","probe","level","ask"] λsc _ _ _ _ _ _ hr=>by exact b7 (f9 4 (t:=.i) sc.nd (a9 (b3E (by exact hr.units) (A5 rfl (tn:=["level"]) (ys:=["one","other"]) (js:=[2,3]) (m:=.f) (m7 (PX.newf (b8 1))) rfl (λ_ _ _ _ _=>q8 (i:=0) c3f rfl (bY rfl) (.inr rfl)) C7 (.inr rfl) a9C rfl (λ_ _ _ _ _=>A6) (λ_ _ _ _ _=>(b2W a1M (z8 (b8 0) (f6 1)) (z8 (b8 0) (f6 2))))) a2f))) (b7 (M7 (M':=[mdF,mdF,mdI,mdI,mdI,mdD,mdD,mdD]) (w6 a1M (f6 4) (m8 B.len_ (b8 1))) (f7 (k7 (a9 (PX.itol (u:=.i) a8b)))) B7) (b7 (f9 5 (t:=(.l .i)) sc.nd (a9 (r8 (n:=0) (u:=.i) l5))) (b7 (B8 (M:=[mdF,mdF,mdI,mdI,mdI,mdL,mdD,mdD]) (MB:=[mdF,mdF,mdI,mdI,mdI,mdL,mdF,mdD]) rfl bL (b6n B.reversed_ (PX.frz (MkL.fz (W2 (PX.newf (b8 1)) V9 (W1 (f6 4)))))) (y6 6 sc.nd) a0r (λ_ _ _ _ _=>trivial) (PSsX.weak (M2:=[mdF,mdF,mdI,mdI,mdI,mdL,mdF,mdI]) (b7 (f9 7 (t:=.i) sc.nd (a9 (k6 gT hr (a8 (k6 eh hr (a8 (D8 (PX.newf (b8 0)) (f6 2)) (a8 (b8 6) c8))) (a8 (k6 eh hr (a8 (D8 (PX.newf (b8 0)) (f6 3)) (a8 (b8 6) c8))) c8))))) (b7 (a0s 5 (u:=(.l .i)) (t:=.i) (R7 5 (u:=(.l .i))) (a9 (PX.newi (f6 7))) a3j) (b7 (f9 2 (t:=.i) sc.nd (a9 (z8 (z8 (D8 (PX.newf (b8 0)) (f6 2)) (f6 7)) c9))) (f7 (f9 3 (t:=.i) sc.nd (a9 (z8 (z8 (D8 (PX.newf (b8 0)) (f6 3)) (f6 7)) c9))))))) l9 ((k9 6).trans (k9 7)))) (f7 (k7 (D9 5 (u:=(.l .i))))))))
def a1f:EvS:=(t6 (r9 (iR (eCl s9 (a7 (a6 0) b9))) [0,1,2] pt1 tT (eCl w8 (a7 (a6 1) (a7 (a6 2) (a7 (a6 3) (a7 (a6 0) b9)))))))
def E6:=fnD [.f,.f,.i] 0 a1f
abbrev a1g(B:Bk P w K mg base)(k:Nat):=HB B "apart_from" k ["machine","levels","state"] (spD K 3 E6 (.l (.l .i)))
def a4v(B:Bk P w K mg base)(fq:N6 B 2):a1g B 3:=
 l8 B.d19 λ_ _ F=>fnF F ["machine","levels","state"] λ_ _ _ _ _ _ _ hr=>by exact f7 (k7 (a9 (A5 rfl (tn:=["other"]) (ys:=["machine","levels","state"]) (js:=[0,1,2]) (m:=.i) (A1 B.range_ (m8 B.len_ (b8 0))) rfl (λ_ _ _ _ _=>q8 (i:=0) c3g rfl (bY rfl) (.inr rfl)) C7 (.inl rfl) a9D rfl (λ_ _ _ _ _=>A6) (λ_ _ _ _ _=>(k6 fq hr (a8 (b8 1) (a8 (b8 2) (a8 (f6 3) (a8 (f6 0) c8)))))))))
def a9Y:EvS:=(f8 (i9 1 (eCl A0 (a7 (a6 0) b9))) (t6 (r9 (iR (eCl s9 (a7 (a6 0) b9))) [0,1] pt1 tT (eCl E6 (a7 (a6 1) (a7 (a6 2) (a7 (a6 0) b9)))))))
def a1h:=fnD [.f] 1 a9Y
abbrev a9Z(B:Bk P w K mg base)(k:Nat):=HB B "apart" k ["machine"] (spD K 1 a1h (.l (.l (.l .i))))
def b4w(B:Bk P w K mg base)(eP:N9 B 3)(je:a1g B 3):a9Z B 4:=
 l8 B.d20 λ_ _ F=>fnF F ["machine","levels"] λsc _ _ _ _ _ _ hr=>by exact b7 (f9 1 (t:=(.l (.l .i))) sc.nd (a9 (k6 eP hr (a8 (b8 0) c8)))) (f7 (k7 (a9 (A5 rfl (tn:=["state"]) (ys:=["machine","levels"]) (js:=[0,1]) (m:=.i) (A1 B.range_ (m8 B.len_ (b8 0))) rfl (λ_ _ _ _ _=>q8 (i:=0) c1P rfl (bY rfl) (.inr rfl)) C7 (.inl rfl) a9D rfl (λ_ _ _ _ _=>A6) (λ_ _ _ _ _=>(k6 je hr (a8 (b8 1) (a8 (r0 2 (u:=(.l (.l .i)))) (a8 (f6 0) c8)))))))))
def b0a:EvS:=(t6 (r9 (iL (eCl a1h (a7 (a6 0) b9))) [] pt1 tT (eCl C3 (a7 (a6 0) b9))))
def Z5:=fnD [.f] 0 b0a
abbrev a6e(B:Bk P w K mg base)(k:Nat):=HB B "marks" k ["machine"] (spD K 1 Z5 (.l (.l (.l .i))))
def b4x(B:Bk P w K mg base)(iG:a0j B 4)(mR:a9Z B 4):a6e B 5:=
 l8 B.d21 λ_ _ F=>fnF F ["machine"] λ_ _ _ _ _ _ _ hr=>by exact f7 (k7 (a9 (A5 rfl (tn:=["probes"]) (ys:=[]) (js:=[]) (m:=.f) (m7 (PX.frz (a2L (u:=(.l (.l (.l .i)))) mR hr (a8 (b8 0) c8) (hfl:=(j8 B9))))) rfl (λ_ _ _ _ _=>q8 (i:=0) c1Q rfl (bY rfl) (.inr rfl)) C7 (.inr rfl) a9C rfl (λ_ _ _ _ _=>A6) (λ_ _ _ _ _=>(k6 iG hr (a8 (b8 0) c8))))))
def Q2:EvS:=(f8 (i9 2 (x4 b9)) (f8 (C0 (iL (a6 0)) (t8 3) (a7a 2 (r9 (iR (a6 1)) [3] pt1 tT (eI (J6 (a6 1) (x4 (a7 (a6 0) b9))))))) (t6 (a6 2))))
def t5:=fnD [.f,.i] 2 Q2
abbrev Q3(B:Bk P w K mg base)(k:Nat):=HB B "one_ask_longer" k ["rows","asks"] (spD K 2 t5 (.l (.l .i)))
def a1i(B:Bk P w K mg base):Q3 B 1:=
 l8 B.d22 λ_ _ F=>fnF F ["rows","asks","found","row"] λsc _ _ _ _ _ _ _=>by exact b7 (f9 2 (t:=(.l (.l .i))) sc.nd (a9 (r8 (n:=0) (u:=(.l .i)) l5))) (b7 (B8 (M:=[mdF,mdI,X0,mdD]) (MB:=[mdF,mdI,X0,mdF]) rfl bL (m7 (PX.newf (b8 0))) (y6 3 sc.nd) a0r (λ_ _ _ _ _=>trivial) (PSsX.weak (M2:=[mdF,mdI,X0,mdF]) (f7 (b6w 2 (t:=(.l .i)) (A5 rfl (tn:=["ask"]) (ys:=["row"]) (js:=[3]) (m:=.i) (A1 B.range_ (f6 1)) rfl (λ_ _ _ _ _=>q8 (i:=0) c1R rfl (bY rfl) (.inr rfl)) C7 (.inl rfl) a9D rfl (λ_ _ _ _ _=>A6) (λ_ _ _ _ _=>(MkL.i (R6 (PX.newf (b8 1)) (r8 (n:=1) (u:=.i) (m6 (u:=.i) (PX.newi (f6 0)) l5)))))))) l9 (k9 3))) (f7 (k7 (D9 2 (u:=(.l (.l .i)))))))
def a5b:EvS:=(f8 (i9 2 (x4 (a7 (x4 b9) b9))) (f8 (i9 3 (x4 (a7 (x4 b9) b9))) (f8 (C0 (iR (a6 1)) (t8 4) (f8 (i9 3 (eCl t5 (a7 (a6 3) (a7 (a6 0) b9)))) (a2l 2 3))) (t6 (a6 2)))))
def Z6:=fnD [.i,.i] 3 a5b
abbrev a5c(B:Bk P w K mg base)(k:Nat):=HB B "rows_of" k ["asks","most"] (spD K 2 Z6 (.l (.l .i)))
def a8V(B:Bk P w K mg base)(gG:Q3 B 1):a5c B 2:=
 l8 B.d23 λ_ _ F=>fnF F ["asks","most","found","newest","many"] λsc _ _ _ _ _ _ hr=>by exact b7 (f9 2 (t:=(.l (.l .i))) sc.nd (a9 (r8 (n:=1) (u:=(.l .i)) (m6 (u:=(.l .i)) (r8 (n:=0) (u:=.i) l5) l5)))) (b7 (f9 3 (t:=(.l (.l .i))) sc.nd (a9 (r8 (n:=1) (u:=(.l .i)) (m6 (u:=(.l .i)) (r8 (n:=0) (u:=.i) l5) l5)))) (b7 (b6v 2 3 4 (t:=(.l .i)) (M1:=[mdI,mdI,X0,X0,mdD]) (M:=[mdI,mdI,X0,mdD,mdD]) (by decide) (by decide) (by decide) rfl rfl bL sc.nd (A1 B.range_ (f6 1)) (a6X (u:=(.l (.l .i))) gG hr (Y6 (a6V) (Y6 (PXL.of (f6 0)) (a6W))) (hfl:=(j8 (j8 B9))))) (f7 (k7 (D9 2 (u:=(.l (.l .i))))))))
def a1R:EvS:=(t6 (eCl s9 (a7 (e2 dIx (a6 0) (eC (.int 0))) b9)))
def G7:=fnD [.f] 0 a1R
abbrev a1S(B:Bk P w K mg base)(k:Nat):=HB B "asks_of" k ["machine"] (spD K 1 G7 .i)
def a8W(B:Bk P w K mg base):a1S B 1:=
 l8 B.d24 λ_ _ F=>fnF F ["machine"] λ_ _ _ _ _ _ _ _=>by exact f7 (k7 (a9 (m8 B.len_ (D8 (PX.newf (b8 0)) c9))))
def a7z:EvS:=(f8 (i9 3 (x4 b9)) (f8 (C0 (iI (iL (a6 2))) (t8 4) (f8 (i9 5 (e2 u9 (e2 dIx (a6 0) (a6 1)) (a6 4))) (f8 (M8 3 (.l .i) y8 (e2 u9 (a6 5) (eC (.int 0)))) (i9 1 (e2 u9 (a6 5) (eC (.int 1))))))) (t6 (V7 (a7 (a6 3) (a7 (a6 1) b9))))))
def E7:=fnD [.f,.i,.f] 3 a7z
abbrev a3N(B:Bk P w K mg base)(k:Nat):=HB B "walked" k ["machine","state","probe"] (spD K 3 E7 (.tp [(.l .i),.i]))
def b2a(B:Bk P w K mg base):a3N B 1:=
 l8 B.d25 λ_ _ F=>fnF F ["machine","state","probe","answers","ask","step"] λsc _ _ _ _ _ _ _=>by exact b7 (f9 3 (t:=(.l .i)) sc.nd (a9 (r8 (n:=0) (u:=.i) l5))) (b7 (B8 (M:=[mdF,mdI,mdF,mdL,mdD,mdD]) (MB:=[mdF,mdI,mdF,mdL,mdI,mdD]) rfl bL (PIX.i (m7 (PX.newf (b8 2)))) (y6 4 sc.nd) W6 b1f (PSsX.weak (M2:=[mdF,mdI,mdF,mdL,mdI,mdI]) (b7 (f9 5 (t:=.i) sc.nd (a9 (z8 (D8 (PX.newf (b8 0)) (f6 1)) (f6 4)))) (b7 (a0s 3 (u:=(.l .i)) (t:=.i) (R7 3 (u:=(.l .i))) (a9 (z8 (f6 5) c9)) a3j) (f7 (f9 1 (t:=.i) sc.nd (a9 (z8 (f6 5) c9)))))) l9 ((k9 4).trans (k9 5)))) (f7 (k7 (a9F (a0Q (u:=(.l .i)) (D9 3 (u:=(.l .i))) (a0Q (u:=.i) (a9 (PX.newi (f6 1))) (a9E)))))))
def a0k:EvS:=(f8 (i9 2 (eCl Z5 (a7 (a6 0) b9))) (f8 (i9 3 (eCl Z6 (a7 (eCl G7 (a7 (a6 0) b9)) (a7 (e2 y9 (a6 1) (eC (.int 1))) b9)))) (f8 (i9 4 (eC (.dict []))) (f8 (C0 (iEn (eCl T2 (a7 (a6 0) b9))) (a1z 5 6) (C0 (iL (a6 3)) (t8 7) (C0 (iL (e2 dIx (a6 2) (e2 dIx (eCl E7 (a7 (a6 0) (a7 (a6 5) (a7 (a6 7) b9)))) (eC (.int 1))))) (t8 8) (C1 4 true (L9 (eI (J6 (eI (J6 (a6 6) (a6 7))) (a6 8)))) (eC (.bool true)))))) (t6 (r9 (iI (iL (a0B a0E (a6 4)))) [] pt1 tT (eI (a0P (a6 0)))))))))
def C4:=fnD [.f,.i] 7 a0k
abbrev a0l(B:Bk P w K mg base)(k:Nat):=HB B "book_probes" k ["small","extra"] (spD K 2 C4 (.l (.l .i)))
def a3O(B:Bk P w K mg base)(kL:a8T B 5)(kO:a8U B 3)(jT:a6e B 5)(kM:a5c B 5)(hU:a1S B 5)(iS:a3N B 5):a0l B 6:=
 l8 B.d26 λ_ _ F=>fnF F ["small","extra","marked","rows","found","state","way","row","mark"] λsc _ _ _ _ _ _ hr=>by exact b7 (f9 2 (t:=(.l (.l (.l .i)))) sc.nd (a9 (a2L (u:=(.l (.l (.l .i)))) jT hr (a8 (b8 0) c8) (hfl:=(j8 B9))))) (b7 (f9 3 (t:=(.l (.l .i))) sc.nd (a9 (k6 kM hr (a8 (k6 hU hr (a8 (b8 0) c8)) (a8 (i8 q9 (f6 1) c9) c8))))) (b7 (f9 4 (t:=(.d true .i)) sc.nd (a9 (P6 true .i))) (b7 (PSX.weak (M1:=[mdF,mdI,mdF,mdF,.own (.d true .i),mdD,mdD,mdD,mdD]) (a5P (fi:=(iEn (eCl T2 (a7 (a6 0) b9)))) (M:=[mdF,mdI,mdF,mdF,.own (.d true .i),mdD,mdD,mdD,mdD]) (MB:=[mdF,mdI,mdF,mdF,.own (.d true .i),mdF,mdF,mdD,mdD]) rfl bL (b9B B.enumerate_ (PX.frz (k6 kL hr (a8 (b8 0) c8)))) (a1w rfl (u8 (y6 5 sc.nd) (u8 (y6 6 sc.nd) Q7))) (a5J (w:=.f) (.inl rfl)) (λ_ _ _ _ _ e=>nomatch e) (λh=>h) (PSsX.weak (M2:=[mdF,mdI,mdF,mdF,.own (.d true .i),mdF,mdF,mdD,mdD]) (f7 (B8 (M:=[mdF,mdI,mdF,mdF,.own (.d true .i),mdF,mdF,mdD,mdD]) (MB:=[mdF,mdI,mdF,mdF,.own (.d true .i),mdF,mdF,mdF,mdD]) rfl bL (m7 (PX.newf (b8 3))) (y6 7 sc.nd) a0r (λ_ _ _ _ _=>trivial) (PSsX.weak (M2:=[mdF,mdI,mdF,mdF,.own (.d true .i),mdF,mdF,mdF,mdD]) (f7 (B8 (M:=[mdF,mdI,mdF,mdF,.own (.d true .i),mdF,mdF,mdF,mdD]) (MB:=[mdF,mdI,mdF,mdF,.own (.d true .i),mdF,mdF,mdF,mdF]) rfl bL (m7 (D8 (PX.newf (b8 2)) (a0w (us:=[(.l .i),.i]) (j:=1) (k6 iS hr (a8 (b8 0) (a8 (b8 5) (a8 (b8 7) c8))))))) (y6 8 sc.nd) a0r (λ_ _ _ _ _=>trivial) (PSsX.weak (M2:=[mdF,mdI,mdF,mdF,.own (.d true .i),mdF,mdF,mdF,mdF]) (f7 (a0T 4 (kt:=true) (u:=.i) (by exact hr.units) (W3 B.tuple_ (MkL.i (R6 (MkL.i (R6 (PX.newf (b8 6)) (PX.newf (b8 7)))) (PX.newf (b8 8))))) (a9 a2f))) l9 (k9 8)))) l9 (k9 7)))) l9 ((k9 5).trans (k9 6)))) ((K1 2).trans (K1 3)) l9) (f7 (k7 (a9 (A5 rfl (tn:=["probe"]) (ys:=[]) (js:=[]) (m:=.i) (PIX.i (m7 (PX.frz (a7k rfl B.sorted_ kO hr (r0 4 (u:=(.d true .i))))))) rfl (λ_ _ _ _ _=>q8 (i:=0) c1O rfl (bY rfl) (.inr rfl)) C7 (.inl rfl) a4O rfl (λ_ _ _ _ _=>A6) (λ_ _ _ _ _=>(MkL.i (a9B B.list_ (PX.newi (f6 0))))))))))))
def a2z:EvS:=(f8 (i9 3 (eC (.int 1))) (f8 (C0 (iR (e2 y9 (a6 2) (eC (.int 1)))) (t8 4) (i9 3 (e2 y9 (e2 Z8 (a6 3) (a6 1)) (eC (.int 1))))) (t6 (e2 Z8 (e2 Z8 (a6 0) (a6 3)) (eCl (a0O true) (a7 (e2 a5w (a6 0) (eC (.int 1))) (a7 (eC (.int 1)) b9)))))))
def O2:=fnD [.i,.i,.i] 2 a2z
abbrev a2A(B:Bk P w K mg base)(k:Nat):=HB B "book_size" k ["states","asks","extra"] (spD K 3 O2 .i)
def a6f(B:Bk P w K mg base):a2A B 1:=
 l8 B.d27 λ_ _ F=>fnF F ["states","asks","extra","rows","many"] λsc _ _ _ _ _ _ _=>by exact b7 (f9 3 (t:=.i) sc.nd (a9 c9)) (b7 (B8 (M:=[mdI,mdI,mdI,mdI,mdD]) (MB:=[mdI,mdI,mdI,mdI,mdI]) rfl bL (A1 B.range_ (i8 q9 (f6 2) c9)) (y6 4 sc.nd) W6 b6c (PSsX.weak (M2:=[mdI,mdI,mdI,mdI,mdI]) (f7 (f9 3 (t:=.i) sc.nd (a9 (i8 q9 (i8 R1 (f6 3) (f6 1)) c9)))) l9 (k9 4))) (f7 (k7 (a9 (i8 R1 (i8 R1 (f6 0) (f6 3)) (a3g (b3b rfl) B.max_ PyProof.Rows.Boot.«max» (a8 (i8 a0q (f6 0) c9) (a8 c9 c8))))))))
def b4y:EvS:=(f8 (sEx (eCl O1 (a7 (a6 1) (a7 (eC (.int 30)) b9)))) (f8 (i9 2 (eCl T1 (a7 (a6 0) b9))) (f8 (i9 3 (eCl (a0O true) (a7 (e2 a5w (a6 1) (eCl s9 (a7 (a6 2) b9))) (a7 (eC (.int 0)) b9)))) (f8 (sIf (tB (e2 dGt (eCl O2 (a7 (eCl s9 (a7 (a6 2) b9)) (a7 (eCl G7 (a7 (a6 0) b9)) (a7 (a6 3) b9)))) (eC (.int 3000)))) sNo E1) (f8 (i9 4 (eCl C4 (a7 (a6 2) (a7 (a6 3) b9)))) (t6 (r9 (iL (a6 4)) [0] pt1 tT (V7 (a7 (a6 0) (a7 (e2 dIx (eCl E7 (a7 (a6 1) (a7 (eC (.int 0)) (a7 (a6 0) b9)))) (eC (.int 0))) b9))))))))))
def a6g:=fnD [.f,.f] 3 b4y
abbrev b4z(B:Bk P w K mg base)(k:Nat):=HB B "book" k ["machine","most"] (spD K 2 a6g .f)
def b7h(B:Bk P w K mg base)(jU:a6c B 6)(jH:a2y B 6)(hU:a1S B 6)(iS:a3N B 6)(iJ:a0l B 6)(jI:a2A B 6):b4z B 7:=
 l8 B.d28 λ_ _ F=>fnF F ["machine","most","small","extra","probes"] λsc _ _ _ _ _ _ hr=>by exact b7 (a5I (k6 jH hr (a8 (b8 1) (a8 (a9y B.MOST_STATES_) c8)))) (b7 (f9 2 (t:=(.l (.l .i))) sc.nd (a9 (k6 jU hr (a8 (b8 0) c8)))) (b7 (f9 3 (t:=.i) sc.nd (a9 (a3g (b3b rfl) B.max_ PyProof.Rows.Boot.«max» (a8 (i8 a0q (b8 1) (m8 B.len_ (r0 2 (u:=(.l (.l .i)))))) (a8 c9 c8))))) (b7 (M7 (M':=[mdF,mdF,X0,mdI,mdD]) (w6 a9v (k6 jI hr (a8 (m8 B.len_ (r0 2 (u:=(.l (.l .i))))) (a8 (k6 hU hr (a8 (b8 0) c8)) (a8 (f6 3) c8)))) (a9y B.MOST_IN_BOOK_)) (f7 (b3g)) B7) (b7 (f9 4 (t:=(.l (.l .i))) sc.nd (a9 (k6 iJ hr (a8 (r0 2 (u:=(.l (.l .i)))) (a8 (f6 3) c8))))) (f7 (PSX.weak (M1:=[mdF,mdF,X0,mdI,mdF]) (k7 (a9 (PX.frz (A5 rfl (tn:=["probe"]) (ys:=["machine"]) (js:=[0]) (m:=.f) (m7 (PX.newf (b8 4))) rfl (λ_ _ _ _ _=>q8 (i:=0) c1S rfl (bY rfl) (.inr rfl)) C7 (.inr rfl) a9C rfl (λ_ _ _ _ _=>A6) (λ_ _ _ _ _=>(b8O (us:=[.f,(.l .i)]) (m6 (u:=.f) (PX.newf (b8 0)) (m6 (u:=(.l .i)) (a0w (us:=[(.l .i),.i]) (j:=0) (k6 iS hr (a8 (b8 1) (a8 c9 (a8 (b8 0) c8))))) l5)))))))) (K1 4) l9))))))
def a3P:EvS:=(t6 (b2V (eCl D0 (a7 (a6 0) b9)) (eCh dLe dLt (eC (.int 0)) (a6 0) (a6 1))))
def T3:=fnD [.f,.i] 0 a3P
abbrev a3Q(B:Bk P w K mg base)(k:Nat):=HB B "is_below" k ["thing","bound"] (spD K 2 T3 .i)
def a7A(B:Bk P w K mg base)(gI:a0D B 1):a3Q B 2:=
 l8 B.d29 λ_ _ F=>fnF F ["thing","bound"] λ_ _ _ _ _ _ _ hr=>by exact f7 (k7 (a9 (b2Y (k6 gI hr (a8 (b8 0) c8)) (a8c (b2X b2Q c0L c9 (b8 0) (f6 1))))))
def a1j:EvS:=(sIf (tNo (tV (eCl T3 (a7 (a6 1) (a7 (eCl s9 (a7 (a6 0) b9)) b9))))) sNo E1)
def E8:=fnN [.f,.f] 0 a1j
abbrev a1k(B:Bk P w K mg base)(k:Nat):=HB B "need_state" k ["machine","thing"] (spD K 2 E8 .i)
def a4w(B:Bk P w K mg base)(ki:a3Q B 2):a1k B 3:=
 l8 B.d30 λ_ _ F=>c1z F ["machine","thing"] [.own .f,.own .f] λ_ _ _ _ _ _ _ hr=>by exact f7 (M7 (M':=[mdF,mdF]) (a5A (a5z (k6 ki hr (a8 (b8 1) (a8 (m8 B.len_ (b8 0)) c8))))) (f7 (b3g)) B7)
def a1l:EvS:=(f8 (sEx (eCl E8 (a7 (a6 0) (a7 (a6 1) b9)))) (f8 (sEx (eCl E8 (a7 (a6 0) (a7 (a6 2) b9)))) (t6 (eCl w8 (a7 (a6 0) (a7 (eCl A0 (a7 (a6 0) b9)) (a7 (a6 1) (a7 (a6 2) b9))))))))
def K9:=fnD [.f,.f,.f] 0 a1l
abbrev a1m(B:Bk P w K mg base)(k:Nat):=HB B "told_apart" k ["machine","one","other"] (spD K 3 K9 (.l .i))
def a4x(B:Bk P w K mg base)(eP:N9 B 3)(fq:N6 B 3)(hJ:a1k B 3):a1m B 4:=
 l8 B.d31 λ_ _ F=>fnF F ["machine","one","other"] λ_ _ _ _ _ _ _ hr=>by exact b7 (a5I (k6 hJ hr (a8 (b8 0) (a8 (b8 1) c8)))) (b7 (a5I (k6 hJ hr (a8 (b8 0) (a8 (b8 2) c8)))) (f7 (k7 (a9 (k6 fq hr (a8 (b8 0) (a8 (k6 eP hr (a8 (b8 0) c8)) (a8 (b8 1) (a8 (b8 2) c8)))))))))
def b_law_walked:EvS:=(f8 (i9 3 (x4 b9)) (f8 (C0 (iI (iL (a6 2))) (t8 4) (f8 (a6K 5 1 (e2 u9 (e2 dIx (a6 0) (a6 1)) (a6 4))) (M8 3 (.l .i) y8 (a6 5)))) (t6 (V7 (a7 (a6 3) (a7 (a6 1) b9))))))
def m_law_walked:=fnD [.f,.i,.f] 3 b_law_walked
abbrev a1n(B:Bk P w K mg base)(k:Nat):=HB B "_law_walked" k ["_law_machine_here","_law_state","_law_probe"] (spD K 3 m_law_walked (.tp [(.l .i),.i]))
def ok_law_walked(B:Bk P w K mg base):a1n B 1:=
 l8 B.d32 λ_ _ F=>fnF F ["_law_machine_here","_law_state","_law_probe","_law_answers","_law_ask","_law_answer"] λsc _ _ _ _ _ _ _=>by exact b7 (f9 3 (t:=(.l .i)) sc.nd (a9 (r8 (n:=0) (u:=.i) l5))) (b7 (B8 (M:=[mdF,mdI,mdF,mdL,mdD,mdD]) (MB:=[mdF,mdI,mdF,mdL,mdI,mdD]) rfl bL (PIX.i (m7 (PX.newf (b8 2)))) (y6 4 sc.nd) W6 b1f (PSsX.weak (M2:=[mdF,mdI,mdF,mdL,mdI,mdI]) (b7 (b5Z 5 1 (t:=.i) (u1:=.i) (u2:=.i) sc.nd rfl (a9 (z8 (D8 (PX.newf (b8 0)) (f6 1)) (f6 4))) (.inr (.inl ⟨rfl,rfl,rfl⟩)) (hg1:=u8 (y6 5 sc.nd) (u8 (y6 1 sc.nd) Q7))) (f7 (a0s 3 (u:=(.l .i)) (t:=.i) (R7 3 (u:=(.l .i))) (a9 (PX.newi (f6 5))) a3j))) l9 ((k9 4).trans (k9 5)))) (f7 (k7 (a9F (a0Q (u:=(.l .i)) (D9 3 (u:=(.l .i))) (a0Q (u:=.i) (a9 (PX.newi (f6 1))) (a9E)))))))
def b_law_told:EvS:=(t6 (a9R true (a6 0) (L9 (a6 1)) (x4 b9)))
def m_law_told:=fnD [.f,.f] 0 b_law_told
abbrev a3R(B:Bk P w K mg base)(k:Nat):=HB B "_law_told" k ["_law_kept","_law_probe"] (spD K 2 m_law_told .f)
def ok_law_told(B:Bk P w K mg base):a3R B 1:=
 l8 B.d33 λ_ _ F=>fnF F ["_law_kept","_law_probe"] λ_ _ _ _ _ _ _ hr=>by exact f7 (b6U (M:=[mdF,mdF]) rfl (b6F (kt:=true) (by exact hr.units) (PX.newf (b8 0)) (W3 B.tuple_ (b8 1)) (r8 (n:=0) (u:=.i) l5)))
def b_law:EvS:=(f8 (i9 1 (eCl m_law_machine (a7 (a6 0) b9))) (f8 (i9 2 (eCl T1 (a7 (a6 1) b9))) (f8 (i9 3 (e2 J0 (eCl m_law_mixed (a7 (a6 0) (a7 (eC (.int 5)) b9))) (eC (.int 3)))) (f8 (sIf (tB (e2 dGt (e2 Z8 (eCl s9 (a7 (a6 1) b9)) (eCl s9 (a7 (e2 a3f (a6 1) (eC (.int 0))) b9))) (eC (.int 8)))) (i9 3 (eC (.int 0))) E1) (f8 (i9 4 (eCl T2 (a7 (a6 2) b9))) (f8 (i9 5 (eCl m_law_head (a7 (a6 0) (a7 (eC (.int 30)) (a7 (a6 2) (a7 (a6 4) (a7 (a6 3) b9))))))) (f8 (i9 6 (eCl m_law_head (a7 (a6 0) (a7 (eC (.int 40)) (a7 (a6 2) (a7 (a6 4) (a7 (a6 3) b9))))))) (f8 (i9 7 (eC (.dict []))) (f8 (C0 (iL (eCl a6g (a7 (a6 1) (a7 (e2 y9 (eCl s9 (a7 (a6 2) b9)) (a6 3)) b9)))) (a1z 8 9) (C1 7 true (L9 (a6 8)) (a6 9))) (f8 (i9 10 (e2 dIx (eCl m_law_walked (a7 (a6 1) (a7 (eC (.int 0)) (a7 (a6 5) b9)))) (eC (.int 1)))) (f8 (i9 11 (e2 dIx (eCl m_law_walked (a7 (a6 1) (a7 (eC (.int 0)) (a7 (a6 6) b9)))) (eC (.int 1)))) (f8 (i9 12 (eCl K9 (a7 (a6 1) (a7 (a6 10) (a7 (a6 11) b9))))) (f8 (sIf (tB (e2 (a6F true) (a6 12) (eC .none))) (f8 (i9 13 (eCl m_law_told (a7 (a6 7) (a7 (eI (J6 (a6 5) (a6 12))) b9)))) (f8 (i9 14 (eCl m_law_told (a7 (a6 7) (a7 (eI (J6 (a6 6) (a6 12))) b9)))) (f8 (sIf (a8a (tB (e2 dNe (eCl s9 (a7 (a6 13) b9)) (e2 y9 (eCl s9 (a7 (a6 5) b9)) (eCl s9 (a7 (a6 12) b9))))) (tB (e2 dNe (eCl s9 (a7 (a6 14) b9)) (e2 y9 (eCl s9 (a7 (a6 6) b9)) (eCl s9 (a7 (a6 12) b9)))))) (t6 (eC (.bool false))) E1) (f8 (sIf (tB (e2 dEq (e2 dIx (eCl m_law_walked (a7 (a6 1) (a7 (a6 10) (a7 (a6 12) b9)))) (eC (.int 0))) (e2 dIx (eCl m_law_walked (a7 (a6 1) (a7 (a6 11) (a7 (a6 12) b9)))) (eC (.int 0))))) (t6 (eC (.bool false))) E1) (t6 (e2 dNe (eI (eSl (a6 13) (oSo (eCl s9 (a7 (a6 5) b9))) oNo)) (eI (eSl (a6 14) (oSo (eCl s9 (a7 (a6 6) b9))) oNo)))))))) E1) (f8 (C0 (iL (e2 dIx (eCl Z5 (a7 (a6 2) b9)) (e2 dIx (eCl m_law_walked (a7 (a6 2) (a7 (eC (.int 0)) (a7 (a6 5) b9)))) (eC (.int 1))))) (t8 12) (f8 (i9 13 (eCl m_law_told (a7 (a6 7) (a7 (eI (J6 (a6 5) (a6 12))) b9)))) (f8 (i9 14 (eCl m_law_told (a7 (a6 7) (a7 (eI (J6 (a6 6) (a6 12))) b9)))) (f8 (sIf (a8a (tB (e2 dNe (eCl s9 (a7 (a6 13) b9)) (e2 y9 (eCl s9 (a7 (a6 5) b9)) (eCl s9 (a7 (a6 12) b9))))) (tB (e2 dNe (eCl s9 (a7 (a6 14) b9)) (e2 y9 (eCl s9 (a7 (a6 6) b9)) (eCl s9 (a7 (a6 12) b9)))))) (t6 (eC (.bool false))) E1) (sIf (tB (e2 dNe (eI (eSl (a6 13) (oSo (eCl s9 (a7 (a6 5) b9))) oNo)) (eI (eSl (a6 14) (oSo (eCl s9 (a7 (a6 6) b9))) oNo)))) (t6 (eC (.bool false))) E1))))) (t6 (eC (.bool true)))))))))))))))))
def m_law:=fnD [.f] 14 b_law
def ok_law(B:Bk P w K mg base)(cP:J9 B 7)(iH:a0f B 7)(jU:a6c B 7)(kL:a8T B 7)(jd:a3L B 7)(jT:a6e B 7)(nY:b4z B 7)(jc:a1m B 7)(fD:a1n B 7)(gH:a3R B 7)(F:Fun K "law" "law" (top 51) f fd):FnOk P w K mg base CX0 8 f fd ["_law_script"] (spD K 1 m_law .i):=
 fnF F ["_law_script","_law_machine_here","_law_small","_law_extra","_law_heads","_law_one","_law_other","_law_kept","_law_probe","_law_answers","_law_here","_law_there","_law_tail","_law_first","_law_second"] λsc _ _ _ _ _ _ hr=>by exact b7 (f9 1 (t:=(.l (.l .i))) sc.nd (a9 (k6 iH hr (a8 (b8 0) c8)))) (b7 (f9 2 (t:=(.l (.l .i))) sc.nd (a9 (k6 jU hr (a8 (r0 1 (u:=(.l (.l .i)))) c8)))) (b7 (f9 3 (t:=.i) sc.nd (a9 (i8 z7 (k6 cP hr (a8 (b8 0) (a8 c9 c8))) c9))) (b7 (M7 (M':=[mdF,X0,X0,mdI,mdD,mdD,mdD,mdD,mdD,mdD,mdD,mdD,mdD,mdD,mdD]) (w6 a9v (i8 R1 (m8 B.len_ (r0 1 (u:=(.l (.l .i))))) (m8 B.len_ (a5F (r0 1 (u:=(.l (.l .i)))) c9))) c9) (f7 (f9 3 (t:=.i) sc.nd (a9 c9))) B7) (b7 (f9 4 (t:=(.l (.l .i))) sc.nd (a9 (k6 kL hr (a8 (r0 2 (u:=(.l (.l .i)))) c8)))) (b7 (f9 5 (t:=(.l .i)) sc.nd (a9 (k6 jd hr (a8 (b8 0) (a8 c9 (a8 (r0 2 (u:=(.l (.l .i)))) (a8 (r0 4 (u:=(.l (.l .i)))) (a8 (f6 3) c8)))))))) (b7 (f9 6 (t:=(.l .i)) sc.nd (a9 (k6 jd hr (a8 (b8 0) (a8 c9 (a8 (r0 2 (u:=(.l (.l .i)))) (a8 (r0 4 (u:=(.l (.l .i)))) (a8 (f6 3) c8)))))))) (b7 (f9 7 (t:=(.d true .f)) sc.nd (a9 (P6 true .f))) (b7 (PSX.weak (M1:=[mdF,mdF,mdF,mdI,mdF,mdF,mdF,.own (.d true .f),mdD,mdD,mdD,mdD,mdD,mdD,mdD]) (B8 (M:=[mdF,mdF,mdF,mdI,mdF,mdF,mdF,.own (.d true .f),mdD,mdD,mdD,mdD,mdD,mdD,mdD]) (MB:=[mdF,mdF,mdF,mdI,mdF,mdF,mdF,.own (.d true .f),mdF,mdF,mdD,mdD,mdD,mdD,mdD]) rfl bL (m7 (by exact W9 (u:=.f) nY hr (C2 (PX.newf (b8 1)) (C2 (i8 q9 (m8 B.len_ (b8 2)) (f6 3)) (a1b))) (hfl:=(j8 (j8 B9))))) (a1w rfl (u8 (y6 8 sc.nd) (u8 (y6 9 sc.nd) Q7))) (a5J (w:=.f) (.inl rfl)) (λ_ _ _ _ _ e=>nomatch e) (PSsX.weak (M2:=[mdF,mdF,mdF,mdI,mdF,mdF,mdF,.own (.d true .f),mdF,mdF,mdD,mdD,mdD,mdD,mdD]) (f7 (a0T 7 (kt:=true) (u:=.f) (by exact hr.units) (W3 B.tuple_ (b8 8)) (a9 (PX.newf (b8 9))))) l9 ((k9 8).trans (k9 9)))) (((((K1 1).trans (K1 2)).trans (K1 4)).trans (K1 5)).trans (K1 6)) l9) (b7 (PSX.weak (M1:=[mdF,mdF,mdF,mdI,mdF,mdF,mdF,mdF,mdD,mdD,mdD,mdD,mdD,mdD,mdD]) (f9 10 (t:=.i) sc.nd (a9 (a0w (us:=[(.l .i),.i]) (j:=1) (k6 fD hr (a8 (b8 1) (a8 c9 (a8 (b8 5) c8))))))) (K1 7) l9) (b7 (f9 11 (t:=.i) sc.nd (a9 (a0w (us:=[(.l .i),.i]) (j:=1) (k6 fD hr (a8 (b8 1) (a8 c9 (a8 (b8 6) c8))))))) (b7 (f9 12 (t:=(.l .i)) sc.nd (a9 (k6 jc hr (a8 (b8 1) (a8 (f6 10) (a8 (f6 11) c8)))))) (b7 (M7 (M':=[mdF,mdF,mdF,mdI,mdF,mdF,mdF,mdF,mdD,mdD,mdI,mdI,mdL,mdD,mdD]) (w6 a9w (U4 12) a8b) (b7 (f9 13 (t:=.f) sc.nd (a9 (by exact W9 (u:=.f) gH hr (C2 (PX.newf (b8 7)) (C2 (PX.frz (MkL.i (R6 (PX.newf (b8 5)) (U4 12)))) (a1b))) (hfl:=(j8 (j8 B9)))))) (b7 (f9 14 (t:=.f) sc.nd (a9 (by exact W9 (u:=.f) gH hr (C2 (PX.newf (b8 7)) (C2 (PX.frz (MkL.i (R6 (PX.newf (b8 6)) (U4 12)))) (a1b))) (hfl:=(j8 (j8 B9)))))) (b7 (M7 (M':=[mdF,mdF,mdF,mdI,mdF,mdF,mdF,mdF,mdD,mdD,mdI,mdI,mdL,mdF,mdF]) (PWX.pt (a8e (w6 a1N (m8 B.len_ (b8 13)) (i8 q9 (m8 B.len_ (b8 5)) (m8 B.len_ (U4 12)))) (a5B (w6 a1N (m8 B.len_ (b8 14)) (i8 q9 (m8 B.len_ (b8 6)) (m8 B.len_ (U4 12))))))) (f7 (k7 (a9 a2f))) B7) (b7 (M7 (M':=[mdF,mdF,mdF,mdI,mdF,mdF,mdF,mdF,mdD,mdD,mdI,mdI,mdL,mdF,mdF]) (w6 a1M (a0w (us:=[(.l .i),.i]) (j:=0) (k6 fD hr (a8 (b8 1) (a8 (f6 10) (a8 (U4 12) c8))))) (a0w (us:=[(.l .i),.i]) (j:=0) (k6 fD hr (a8 (b8 1) (a8 (f6 11) (a8 (U4 12) c8)))))) (f7 (k7 (a9 a2f))) B7) (f7 (k7 (a9 (b2W a1N (MkL.i (W2 (PX.newf (b8 13)) (W1 (m8 B.len_ (b8 5))) V9)) (MkL.i (W2 (PX.newf (b8 14)) (W1 (m8 B.len_ (b8 6))) V9)))))))))) B7) (b7 (PSX.weak (M1:=[mdF,mdF,mdF,mdI,mdF,mdF,mdF,mdF,mdD,mdD,mdI,mdI,mdF,mdD,mdD]) (B8 (M:=[mdF,mdF,mdF,mdI,mdF,mdF,mdF,mdF,mdD,mdD,mdI,mdI,mdF,mdD,mdD]) (MB:=[mdF,mdF,mdF,mdI,mdF,mdF,mdF,mdF,mdD,mdD,mdI,mdI,mdF,mdD,mdD]) rfl bL (m7 (D8 (PX.frz (a2L (u:=(.l (.l (.l .i)))) jT hr (a8 (b8 2) c8) (hfl:=(j8 B9)))) (a0w (us:=[(.l .i),.i]) (j:=1) (k6 fD hr (a8 (b8 2) (a8 c9 (a8 (b8 5) c8))))))) (y6 12 sc.nd) a0r (λ_ _ _ _ _=>trivial) (PSsX.weak (M2:=[mdF,mdF,mdF,mdI,mdF,mdF,mdF,mdF,mdD,mdD,mdI,mdI,mdF,mdF,mdF]) (b7 (f9 13 (t:=.f) sc.nd (a9 (by exact W9 (u:=.f) gH hr (C2 (PX.newf (b8 7)) (C2 (PX.frz (MkL.i (R6 (PX.newf (b8 5)) (PX.newf (b8 12))))) (a1b))) (hfl:=(j8 (j8 B9)))))) (b7 (f9 14 (t:=.f) sc.nd (a9 (by exact W9 (u:=.f) gH hr (C2 (PX.newf (b8 7)) (C2 (PX.frz (MkL.i (R6 (PX.newf (b8 6)) (PX.newf (b8 12))))) (a1b))) (hfl:=(j8 (j8 B9)))))) (b7 (M7 (M':=[mdF,mdF,mdF,mdI,mdF,mdF,mdF,mdF,mdD,mdD,mdI,mdI,mdF,mdF,mdF]) (PWX.pt (a8e (w6 a1N (m8 B.len_ (b8 13)) (i8 q9 (m8 B.len_ (b8 5)) (m8 B.len_ (b8 12)))) (a5B (w6 a1N (m8 B.len_ (b8 14)) (i8 q9 (m8 B.len_ (b8 6)) (m8 B.len_ (b8 12))))))) (f7 (k7 (a9 a2f))) B7) (f7 (M7 (M':=[mdF,mdF,mdF,mdI,mdF,mdF,mdF,mdF,mdD,mdD,mdI,mdI,mdF,mdF,mdF]) (w6 a1N (MkL.i (W2 (PX.newf (b8 13)) (W1 (m8 B.len_ (b8 5))) V9)) (MkL.i (W2 (PX.newf (b8 14)) (W1 (m8 B.len_ (b8 6))) V9))) (f7 (k7 (a9 a2f))) B7))))) l9 ((k9 13).trans (k9 14)))) (K1 12) l9) (f7 (k7 (a9 a2f))))))))))))))))
end Prog
local macro_rules | `(tactic| walk_at "ev")=>`(tactic| simp -implicitDefEqProofs (disch:=first | omega | assumption | decide) only [VS.v_var,VS.v_c,VS.v_1,VS.v_2,VS.c2w,VS.b9k,VS.b7R,VS.c2x,VS.c2y,VS.c1c,VS.c1d,VS.c1e,VS.v_and,VS.v_or,VS.v_not,VS.c2z,VS.b7S,VS.c1f,VS.a6L,VS.b3p,VS.a9I,VS.c2A,VS.b9l,VS.c1g,VS.b3q,VS.b9m,VS.c2s,VS.b8U,VS.c2t,VS.b6e,VS.c2u,VS.c2v,VS.b8V,VS.b8W,VS.b8X,VS.c0X,VS.c0Y,VS.b8Y,VS.b8Z,VS.c0Z,VS.c1a,VS.b9a,VS.b9b,VS.b9c,VS.b3l,VS.b3m,VS.b3n,VS.b9d,VS.b9e,VS.b9f,VS.b3o,VS.b9g,VS.c1b,VS.b6f,VS.b9h,VS.b9i,VS.a9H,VS.b9j,VS.v_add,VS.v_sub,VS.v_lt,VS.c2B,VS.c2C,VS.c2D,VS.c1h,VS.c1i,VS.b9n,VS.b9o,VS.c1j,VS.c1k,VS.c1l,VS.c1m,VS.c1n,VS.c1o,VS.v_mod,VS.v_div,VS.c2O,VS.c1A,VS.c1B,VS.trB,VS.c1C,VS.b9T,VS.b4k,VS.b6W,VS.b4l,VS.b4m,VS.b6X,VS.b1W,VS.a8J,VS.a8K,VS.a8L,VS.b1X,VS.b1Y,VS.a8M,VS.a8N,VS.a7p,VS.a7q,VS.a7r,VS.a8O,VS.a8P,VS.a7s,VS.isList_list,VS.isList_int,VS.a7t,VS.isList_bool,VS.a8Q,VS.isList_str,VS.isList_dict,VS.a7u,VS.isTuple_list,VS.isTuple_int,VS.a7v,VS.b4n,VS.b6Y,VS.c1D,VS.c1E,VS.b4o,VS.c2X,VS.a1c,VS.b9V,VS.b9W,VS.b9X,VS.c1G,VS.c1H,VS.c2Y,VS.at0,VS.at1,VS.c1K,VS.c1L,VS.c0b,VS.b7d,VS.c1M,VS.b7e,ml,eu,mT,fU,jr,gJ,bB,bJ,bg,gf,Bool.not_false,mE,fJ,Bool.false_and,Bool.and_false,VS.c2P,VS.c2Q,VS.c2R,VS.c2S,VS.c2T,VS.c2U,VS.c2V,VS.c2W,decide_true,decide_false,ai,ax,cW])
namespace Prog
open PySem L2 VS
def Q4{ns:List Int}{j:Int}(a:0<=j)(b:j<ns.length):L2.atI (ns.map aO) j=xn (.int (ns.getD j.toNat 0)):=by
 rw[a0u a (by rw[ai];exact b),de];rw[ag,ab (by lia)];rfl
end Prog
local macro_rules | `(tactic| walk_at "evm")=>`(tactic| first | (walk_at "ev";repeat (simp -implicitDefEqProofs (disch:=first | omega | assumption | decide) only [VS.a1B,VS.a5K];try walk_at "ev")) | (simp -implicitDefEqProofs (disch:=first | omega | assumption | decide) only [VS.a1B,VS.a5K];repeat (first | walk_at "ev" | simp -implicitDefEqProofs (disch:=first | omega | assumption | decide) only [VS.a1B,VS.a5K])))
namespace Prog
open PySem L2 VS
def a7B(ns:List Int)(k:Int):Int:=((if 0<ns.length then ns.getD (k % (ns.length:Int)).toNat 0 else 3) % 2147483629+7919*k+1)*48271 % 2147483647
def y7(ns:List Int)(k:Int):Int:=a7B ns k*(a7B ns k % 65521+k+2) % 2147483629
def c0c(ns:List Int)(k:Int):0<=a7B ns k/\a7B ns k<2147483647:=⟨dS _ (by decide),du _ (by decide)⟩
def b7i(ns:List Int)(k:Int):0<=y7 ns k:=dS _ (by decide)
def atI_nums{ns:List Int}{j:Int}(a:0<=j)(b:j<ns.length):L2.atI (ns.map aO) j=xn (.int (ns.getD j.toNat 0)):=by
 rw[a0u a (by rw[ai];exact b),de];rw[ag,ab (by lia)];rfl
def a3S(ns:List Int)(k:Int)(h0:0<=k)(h1:k<=1000):m_law_mixed [.list (ns.map .int),.int k]=xn (.int (y7 ns k)):=by
 unfold m_law_mixed;rw[z9 (by simp[VS.argsOk,imm])];unfold b_law_mixed;walk_at "evm";have hr:=c0c ns k;by_cases c:0<ns.length
 ·rw[aQ (by lia:(0:Int)<ns.length)];walk_at "evm";rw[atI_nums (dS _ (by lia)) (du _ (by lia))];walk_at "evm";have e:a7B ns k=(ns.getD (k % (ns.length:Int)).toNat 0 % 2147483629+7919*k+1)*48271 % 2147483647:=by unfold a7B;rw[aB c]
  rw[<-e]
  try walk_at "evm"
  rfl
 ·rw[ba (by lia:¬ (0:Int)<ns.length)];walk_at "evm";have e:a7B ns k=(3 % 2147483629+7919*k+1)*48271 % 2147483647:=by unfold a7B;rw[aJ c]
  rw[<-e]
  try walk_at "evm"
  rfl
end Prog
namespace VS
open PySem L2
abbrev Ky:=List (Int×Int)
def snoc_ind{P:List α->Prop}(h0:P [])(h1:∀l x,P l->P (l++[x]))(l:List α):P l:=by
 have h:∀r:List α,P r.reverse:=by
  intro r
  induction r with
  |nil=>exact h0
  |cons x r ih=>rw[jX];exact h1 _ _ ih
 have:=h l.reverse
 rwa[List.reverse_reverse]at this
def a4y(seen:List Ky)(x:Ky):List Ky:=if x∈seen then seen else seen++[x]
def ded(ks:List Ky):List Ky:=ks.foldl a4y []
def K0(ks:List Ky)(x:Ky):ded (ks++[x])=a4y (ded ks) x:=by unfold ded;rw[jZ];rfl
def G9(h:x∈s):a4y s x=s:=aB h
def E9(h:x∉s):a4y s x=s++[x]:=aJ h
def b4A:y∈a4y s x↔y∈s∨y=x:=by
 by_cases h:x∈s
 ·rw[G9 h];exact⟨bY,λz=>z.elim id λe=>e▸h⟩
 ·rw[E9 h];simp
def T4:y∈ded ks↔y∈ks:=by
 induction ks using snoc_ind with
 |h0=>simp[ded]
 |h1 l x ih=>rw[K0,b4A,ih];simp
def b0b(ks:List Ky):(ded ks).length<=ks.length:=by
 induction ks using snoc_ind with
 |h0=>simp[ded]
 |h1 l x ih=>
  rw[K0,az,bW];by_cases h:x∈ded l
  ·rw[G9 h];lia
  ·rw[E9 h,az,bW];lia
def b4B(h:y∈s):(a4y s x).idxOf y=s.idxOf y:=by
 by_cases c:x∈s
 ·rw[G9 c]
 ·rw[E9 c,jY,aB h]
def b7j{s:List Ky}{x y:Ky}(hx:x∈s)(h:s.idxOf x=s.idxOf y):x=y:=by
 have h1:=bZ.mpr hx;have e1:s[s.idxOf x]'h1=x:=dW h1;have h2:s.idxOf y<s.length:=by rw[<-h];exact h1
 have e2:s[s.idxOf y]'h2=y:=dW h2;rw[<-e1,<-e2]
 congr 1
def b0c(h:ks≠[]):∃x∈ks,(ded ks).idxOf x+1=(ded ks).length:=by
 induction ks using snoc_ind with
 |h0=>exact absurd rfl h
 |h1 l x ih=>
  rw[K0];by_cases c:x∈ded l
  ·have hl:l≠[]:=λe=>by subst e;simp[ded]at c
   obtain⟨y,hy,e⟩:=ih hl;exact⟨y,ak _ hy,by rw[G9 c];exact e⟩
  ·refine⟨x,by simp,?_⟩;rw[E9 c,jY,aJ c,az];simp
def a1T(ks:List Ky):List Int:=ks.map λx=>(((ded ks).idxOf x:Nat):Int)
def a7C(ks:List Ky):(a1T ks).length=ks.length:=ai ..
def b2b{α:Type}(f g:α->Ky)(ps:List α):(∀p∈ps,∀q∈ps,g p=g q->f p=f q)->(ded (ps.map f)).length<=(ded (ps.map g)).length/\((ded (ps.map g)).length<=(ded (ps.map f)).length->∀p∈ps,∀q∈ps,f p=f q->g p=g q):=by
 induction ps using snoc_ind with
 |h0=>exact λ_=>⟨ay _,λ_ p hp=>nomatch hp⟩
 |h1 l x ih=>
  intro h;obtain⟨i1,i2⟩:=ih λp hp q hq=>h p (ak _ hp) q (ak _ hq)
  rw[aN,aN,cx,cx,K0,K0];have hx:x∈l++[x]:=by simp
  by_cases cg:g x∈ded (l.map g)
  ·obtain⟨q,hq,eq⟩:=aG.mp (T4.mp cg);have Ba:f q=f x:=h q (ak _ hq) x hx eq;have cf:f x∈ded (l.map f):=T4.mpr (aG.mpr ⟨q,hq,Ba⟩);rw[G9 cg,G9 cf];refine⟨i1,λhle p hp r hr e=>?_⟩;have key:∀p∈l,f p=f x->g p=g x:=λp hp e=>(i2 hle p hp q hq (e.trans Ba.symm)).trans eq
   rcases aq.mp hp with z|z<;>rcases aq.mp hr with y|y
   ·exact i2 hle p z r y e
   ·cases ao.mp y;exact key p z e
   ·cases ao.mp z;exact (key r y e.symm).symm
   ·cases ao.mp z;cases ao.mp y;rfl
  ·by_cases cf:f x∈ded (l.map f)
   ·rw[G9 cf,E9 cg,az,bW];exact⟨by lia,λhle=>by lia⟩
   ·rw[E9 cf,E9 cg,az,az,bW,bW];refine⟨by lia,λhle p hp r hr e=>?_⟩;have no:∀p∈l,f p≠f x:=λp hp e=>cf (T4.mpr (aG.mpr ⟨p,hp,e⟩))
    rcases aq.mp hp with z|z<;>rcases aq.mp hr with y|y
    ·exact i2 (by lia) p z r y e
    ·cases ao.mp y;exact absurd e (no p z)
    ·cases ao.mp z;exact absurd e.symm (no r y)
    ·cases ao.mp z;cases ao.mp y;rfl
def rn(r:Ky)(ls:List Int):Ky:=r.map λp=>(p.1,ls.getD p.2.toNat 0)
def a1U(r:Ky)(ls:List Int):(rn r ls).length=r.length:=ai ..
def lvl(m:i6):Nat->List Int
 |0=>m.map λ_=>0
 |d+1=>a1T (m.map λr=>rn r (lvl m d))
def kf(m:i6):Nat->Ky->Ky
 |0,_=>[]
 |d+1,r=>rn r (lvl m d)
def cls(m:i6)(d:Nat):Nat:=(ded (m.map (kf m d))).length
def lv(m:i6)(d:Nat)(s:Int):Int:=(lvl m d).getD s.toNat 0
def T5(m:i6):∀d,(lvl m d).length=m.length
 |0=>ai ..
 |d+1=>by unfold lvl;rw[a7C,ai]
def o9(m:i6)(s:Int):lv m 0 s=0:=by
 unfold lv lvl;rw[ag,aR];cases m[s.toNat]?<;>rfl
def b0d{m:i6}{d:Nat}{s:Int}(h0:0<=s)(h1:s<m.length):lv m (d+1) s=(((ded (m.map (kf m (d+1)))).idxOf (rn (rowAt m s) (lvl m d)):Nat):Int):=by
 have h2:s.toNat<m.length:=by lia
 show (a1T (m.map λr=>rn r (lvl m d))).getD s.toNat 0=_;unfold a1T rowAt;rw[ag,aR,aR,ag,ab h2];rfl
def a6h{m:i6}{d:Nat}{s t:Int}(h0:0<=s)(h1:s<m.length)(h2:0<=t)(h3:t<m.length):lv m (d+1) s=lv m (d+1) t↔rn (rowAt m s) (lvl m d)=rn (rowAt m t) (lvl m d):=by
 rw[b0d h0 h1,b0d h2 h3];refine⟨λh=>?_,λh=>by rw[h]⟩;exact b7j (T4.mpr (aG.mpr ⟨_,G6 h0 h1,rfl⟩)) (Int.ofNat_inj.mp h)
def c1T{r r':Ky}{ls:List Int}(hl:r.length=r'.length):rn r ls=rn r' ls↔∀a:Nat,a<r.length->(r.getD a (0,0)).1=(r'.getD a (0,0)).1/\ls.getD (r.getD a (0,0)).2.toNat 0=ls.getD (r'.getD a (0,0)).2.toNat 0:=by
 unfold rn
 constructor
 ·intro h a ha;have e:(r.map λp=>(p.1,ls.getD p.2.toNat 0))[a]?=(r'.map λp=>(p.1,ls.getD p.2.toNat 0))[a]?:=by rw[h]
  rw[aR,aR,ab ha,ab (by lia)]at e;rw[ag,ag,ab ha,ab (by lia)];simp only[oX,nz,Prod.mk.injEq]at e;exact e
 ·intro h;refine iM (by rw[ai,ai,hl]) λa h1 h2=>?_
  rw[ai]at h1 h2;have:=h a h1;rw[ag,ag,ab h1,ab h2]at this;rw[de,de];exact Prod.ext this.1 this.2
def v6{m:i6}{k d:Nat}(w:WF m k){s t:Int}(h0:0<=s)(h1:s<m.length)(h2:0<=t)(h3:t<m.length) :
  lv m (d+1) s=lv m (d+1) t↔∀a:Int,0<=a->a<k->(stp m s a).1=(stp m t a).1/\lv m d (stp m s a).2=lv m d (stp m t a).2:=by
 rw[a6h h0 h1 h2 h3,c1T (by rw[w.row h0 h1,w.row h2 h3]),w.row h0 h1];refine⟨λh a a0 a1=>h a.toNat (by lia),λh a ha=>?_⟩;have:=h a (by lia) (by lia);unfold stp lv at this
 rwa[bK]at this
theorem a2P{m:i6}{k:Nat}(w:WF m k):∀(d:Nat) {s t:Int},0<=s->s<m.length->0<=t->t<m.length->lv m (d+1) s=lv m (d+1) t->lv m d s=lv m d t
 |0,s,t,_,_,_,_,_=>by rw[o9,o9]
 |d+1,s,t,h0,h1,h2,h3,h=>by
  rw[v6 w h0 h1 h2 h3]at h ⊢;intro a a0 a1;have ha:=h a a0 a1;have n1:=w.nx h0 h1 a0 a1;have n2:=w.nx h2 h3 a0 a1;exact⟨ha.1,a2P w d n1.1 n1.2 n2.1 n2.2 ha.2⟩
def b8b{m:i6}{k:Nat}(w:WF m k){s t:Int}(h0:0<=s)(h1:s<m.length)(h2:0<=t)(h3:t<m.length){d e:Nat}(AE:d<=e)(h:lv m e s=lv m e t):lv m d s=lv m d t:=by
 obtain⟨j,rfl⟩:=Nat.le.dest AE;clear AE
 induction j with
 |zero=>exact h
 |succ j ih=>exact ih (a2P w (d+j) h0 h1 h2 h3 h)
def b4C{m:i6}{r:Ky}(h:r∈m):∃s:Int,0<=s/\s<m.length/\rowAt m s=r:=by
 obtain⟨i,hi,e⟩:=List.getElem_of_mem h;refine⟨i,by lia,by lia,?_⟩;unfold rowAt;rw[bK,ag,ab hi];exact e
def b8c{m:i6}{d:Nat}{s t:Int}(h0:0<=s)(h1:s<m.length)(h2:0<=t)(h3:t<m.length):kf m d (rowAt m s)=kf m d (rowAt m t)↔lv m d s=lv m d t:=by
 cases d with
 |zero=>rw[o9,o9];exact⟨λ_=>rfl,λ_=>rfl⟩
 |succ d=>rw[a6h h0 h1 h2 h3];rfl
def b4D{m:i6}{k:Nat}(w:WF m k)(d:Nat):cls m d<=cls m (d+1)/\(cls m (d+1)<=cls m d->∀s t:Int,0<=s->s<m.length->0<=t->t<m.length->lv m d s=lv m d t->lv m (d+1) s=lv m (d+1) t):=by
 obtain⟨c1,c2⟩:=b2b (kf m d) (kf m (d+1)) m λp hp q hq e=>by
  obtain⟨s,h0,h1,rfl⟩:=b4C hp;obtain⟨t,h2,h3,rfl⟩:=b4C hq;rw[b8c h0 h1 h2 h3]at e ⊢;exact a2P w d h0 h1 h2 h3 e
 refine⟨c1,λhc s t h0 h1 h2 h3 e=>?_⟩;rw[<-b8c h0 h1 h2 h3]at e ⊢;exact c2 hc _ (G6 h0 h1) _ (G6 h2 h3) e
def b0e(m:i6)(d:Nat):cls m d<=m.length:=by
 have:=b0b (m.map (kf m d));rw[ai]at this;exact this
def a1o(w:WF m k)(d:Nat):1<=cls m d:=by
 have hm:m≠[]:=λe=>by have:=w.pos;rw[e]at this;exact absurd this (by decide)
 obtain⟨x,_,e⟩:=b0c (ks:=m.map (kf m d)) (λe=>hm (xr.mp e));unfold cls;lia
theorem b4E{m:i6}{k:Nat}(w:WF m k){D:Nat}(hD:∀s t:Int,0<=s->s<m.length->0<=t->t<m.length->lv m D s=lv m D t->lv m (D+1) s=lv m (D+1) t):∀(d:Nat) (s t:Int),0<=s->s<m.length->0<=t->t<m.length->lv m D s=lv m D t->lv m d s=lv m d t
 |0,s,t,_,_,_,_,_=>by rw[o9,o9]
 |d+1,s,t,h0,h1,h2,h3,h=>by
  rw[v6 w h0 h1 h2 h3];have h':=(v6 w h0 h1 h2 h3).mp (hD s t h0 h1 h2 h3 h);intro a a0 a1;have n1:=w.nx h0 h1 a0 a1;have n2:=w.nx h2 h3 a0 a1;exact⟨(h' a a0 a1).1,b4E w hD d _ _ n1.1 n1.2 n2.1 n2.2 (h' a a0 a1).2⟩
def fp:Ky->Ky->Nat
 |x::xs,y::ys=>if x=y then fp xs ys+1 else 0
 |_,_=>0
theorem a6i:∀{r r':Ky},r.length=r'.length->r≠r'->fp r r'<r.length/\r.getD (fp r r') (0,0)≠r'.getD (fp r r') (0,0)/\∀i<fp r r',r.getD i (0,0)=r'.getD i (0,0)
 |[],[],_,h=>absurd rfl h
 |[],_::_,h,_=>by simp at h
 |_::_,[],h,_=>by simp at h
 |x::xs,y::ys,hl,h=>by
  by_cases c:x=y
  ·subst c;have ih:=a6i (r:=xs) (r':=ys) (by simpa using hl) (λe=>h (by rw[e]));have e:fp (x::xs) (x::ys)=fp xs ys+1:=aB rfl;rw[e];refine⟨by rw[aV];lia,?_,λi hi=>?_⟩
   ·rw[eu,eu];exact ih.2.1
   ·cases i with
    |zero=>rfl
    |succ i=>rw[eu,eu];exact ih.2.2 i (by lia)
  ·have e:fp (x::xs) (y::ys)=0:=aJ c;rw[e];exact⟨by rw[aV];lia,by rw[ml,ml];exact c,λi hi=>absurd hi (by lia)⟩
def fa(m:i6)(d:Nat)(s t:Int):Int:=(fp (rn (rowAt m s) (lvl m d)) (rn (rowAt m t) (lvl m d)):Nat)
def a6j{r:Ky}(h:i<r.length):(rn r ls).getD i (0,0)=((r.getD i (0,0)).1,ls.getD (r.getD i (0,0)).2.toNat 0):=by
 unfold rn;rw[ag,aR,ab h,ag,ab h];rfl
def Z7{m:i6}{k d:Nat}(w:WF m k){s t:Int}(h0:0<=s)(h1:s<m.length)(h2:0<=t)(h3:t<m.length)(h:lv m (d+1) s≠lv m (d+1) t) :
  (0<=fa m d s t/\fa m d s t<k)/\((stp m s (fa m d s t)).1≠(stp m t (fa m d s t)).1∨lv m d (stp m s (fa m d s t)).2≠lv m d (stp m t (fa m d s t)).2)/\
  ∀a:Int,0<=a->a<fa m d s t->(stp m s a).1=(stp m t a).1/\lv m d (stp m s a).2=lv m d (stp m t a).2:=by
 have l1:=w.row h0 h1;have l2:=w.row h2 h3;rw[ne_eq,a6h h0 h1 h2 h3]at h;obtain⟨f1,f2,f3⟩:=a6i (r:=rn (rowAt m s) (lvl m d)) (r':=rn (rowAt m t) (lvl m d)) (by rw[a1U,a1U,l1,l2]) h;rw[a1U,l1]at f1;refine⟨⟨by unfold fa;lia,by unfold fa;lia⟩,?_,λa a0 a1=>?_⟩
 ·rw[a6j (by lia),a6j (by lia)]at f2;unfold stp lv fa;rw[bK];by_cases c:((rowAt m s).getD (fp (rn (rowAt m s) (lvl m d)) (rn (rowAt m t) (lvl m d))) (0,0)).1=((rowAt m t).getD (fp (rn (rowAt m s) (lvl m d)) (rn (rowAt m t) (lvl m d))) (0,0)).1
  ·exact .inr λe=>f2 (Prod.ext c e)
  ·exact .inl c
 ·unfold fa at a1;have:=f3 a.toNat (by lia);rw[a6j (by lia),a6j (by lia)]at this;unfold stp lv;have e1:=dB Prod.fst this;have e2:=dB Prod.snd this;exact⟨e1,e2⟩
def fu(m:i6):Nat->Int->Int->List Int
 |0,_,_=>[]
 |d+1,s,t=>fa m d s t::fu m d (stp m s (fa m d s t)).2 (stp m t (fa m d s t)).2
theorem b4F(m:i6):∀(d:Nat) (s t:Int),(fu m d s t).length=d
 |0,_,_=>rfl
 |d+1,s,t=>by show (fu m d _ _).length+1=_;rw[b4F m d]
theorem a3T(hp:∀d,p (d+1)=true->p d=true):∀N:Nat,∃c,(aA N).countP p=c/\c<=N/\(∀d<c,p d=true)/\∀d,c<=d->d<N->p d=false
 |0=>⟨0,rfl,ay _,λd h=>absurd h (by lia),λd _ h=>absurd h (by lia)⟩
 |N+1=>by
  obtain⟨c,e,hc,h1,h2⟩:=a3T hp N;rw[jg,List.countP_append,e];by_cases cN:p N=true
  ·have DI:c=N:=by
    rcases cI c N with z|z
    ·have down:∀j i,i+j=N->p i=true:=by
      intro j
      induction j with
      |zero=>intro i e;rw[show i=N by lia];exact cN
      |succ j ih=>intro i e;exact hp i (ih (i+1) (by lia))
     have:=h2 c (ay _) z;rw[down (N-c) c (by lia)]at this;cases this
    ·lia
   subst DI;refine⟨c+1,by simp[cN],ay _,λd hd=>?_,λd hd jR=>absurd jR (by lia)⟩;rcases cI d c with z|z
   ·exact h1 d z
   ·rw[show d=c by lia];exact cN
  ·refine⟨c,by simp[cN],by lia,h1,λd hd jR=>?_⟩;rcases cI d N with z|z
   ·exact h2 d hd z
   ·rw[show d=N by lia];simpa using cN
def c0d:a9J [.dict kvs]=xn (.int kvs.length):=rfl
def a1p{Z ds:List D}(h:a Z=xn (.list ds))(hi:e7 ds=true):L9 a Z=xn (.tuple ds):=by
 unfold L9;rw[h];exact b3r (by simp only[imm];exact hi)
def c0e{Z:List D}(hk:fk Z=xn k)(he:fe Z=xn e)(hd:Z.getD i .none=.dict kvs)(hK:o8 kt k=true)(hl:kvs.length<1000000)(hs:scal e=true)(hj:Z.getD j .none=.list ds)(gC:i≠j)(oQ:ds.length<1000000) :
  a6T j (U3 i kt fk fe) Z=xn (.nx ((Z.set i (.dict (C9 kvs k e))).set j (.list (ds++[(p9 kvs k).getD e])))):=by
 have hx:U3 i kt fk fe Z=xn ((p9 kvs k).getD e,Z.set i (.dict (C9 kvs k e))):=by
  unfold U3;rw[hk];show (fe Z).bind _=_;rw[he];show (match Z.getD i .none with|.dict kvs=>_|_=>_)=_;rw[hd];show (if _ then _ else _)=_;rw[aB (by rw[hK,aQ hl,hs];rfl)]
 have Df:(Z.set i (.dict (C9 kvs k e))).getD j .none=.list ds:=by
  rw[<-hj,ag,ag,bF gC]
 unfold a6T;rw[hx];show (match (Z.set i (.dict (C9 kvs k e))).getD j .none with|.list ds=>_|_=>_)=_;rw[Df];show (if _ then _ else _)=_;rw[aB oQ]
theorem a2Q{I:Nat->List D->Prop}{Q:List D->Prop}(B:Nat)(step:∀j Z,I j Z->j<=B/\((c Z=xn false/\Q Z)∨(c Z=xn true/\∃Z',g Z=xn (.nx Z')/\I (j+1) Z'))):∀n j Z,I j Z->B<n+j->∃Z',whL c g n Z=xn (.nx Z')/\Q Z'
 |0,j,Z,h,hn=>absurd (step j Z h).1 (by lia)
 |n+1,j,Z,h,hn=>by
  rcases (step j Z h).2 with⟨e,q⟩|⟨e,Z',e2,h2⟩
  ·refine⟨Z,?_,q⟩;show (c Z).bind _=_;rw[e];rfl
  ·obtain⟨Z2,e3,q⟩:=a2Q B step n (j+1) Z' h2 (by lia);refine⟨Z2,?_,q⟩;show (c Z).bind _=_;rw[e];show (g Z).bind _=_;rw[e2];exact e3
def c0f{Z:List D}:sWh (λ_=>n) c g Z=whL c g n Z:=rfl
def c3h{Z ds:List D}(h:a Z=xn (.list ds)):iRv a Z=xn ds.reverse:=by
 unfold iRv;rw[h];rfl
def b4G(p q:Int×Int):aI (stD p) (stD q)=decide (p=q):=by
 unfold stD;simp only[aI,cu,a2O];rcases p with⟨a,b⟩
 rcases q with⟨c,d⟩
 by_cases h1:a=c<;>by_cases h2:b=d<;>simp[h1,h2]
theorem b0f:∀xs ys:Ky,cu (xs.map stD) (ys.map stD)=decide (xs=ys)
 |[],[]=>by simp[cu]
 |[],_::_=>by simp[cu]
 |_::_,[]=>by simp[cu]
 |x::xs,y::ys=>by
  simp only[ax,cu,b4G,b0f xs ys,gc];by_cases h1:x=y<;>by_cases h2:xs=ys<;>simp[h1,h2]
def c0g:dEq (stD p) (stD q)=xn (.bool (decide (p=q))):=by
 rw[b7W (b4r p) (b4r q) (cC (a7x p) (by decide)),b4G]
def Q5(x:Ky):D:=.tuple (x.map stD)
def a7D(x y:Ky):aI (Q5 x) (Q5 y)=decide (x=y):=by
 unfold Q5;simp only[aI];exact b0f x y
theorem a3U:∀x:Ky,o7 (x.map stD)=true
 |[]=>rfl
 |p::x=>by
  show (B6 (stD p)&&o7 (x.map stD))=true;rw[a3U x];rfl
def b2c(x:Ky):o8 true (Q5 x)=true:=by
 have h1:B6 (Q5 x)=true:=a3U x;have h2:(Q5 x).depth<=7:=by
  unfold Q5;simp only[fB];have:=Z0 stD 1 a7x x;lia
 unfold o8;rw[h1,aQ h2];rfl
def dz:List Ky->Nat->List (D×D)
 |[],_=>[]
 |x::xs,i=>(Q5 x,.int i)::dz xs (i+1)
theorem a8X:∀(s:List Ky) (i:Nat),(dz s i).length=s.length
 |[],_=>rfl
 |x::s,i=>by show (dz s (i+1)).length+1=_;rw[a8X s];rfl
theorem b0g:∀(s:List Ky) (x:Ky) (i:Nat),dz (s++[x]) i=dz s i++[(Q5 x,.int ((i+s.length:Nat):Int))]
 |[],x,i=>rfl
 |y::s,x,i=>by
  show (Q5 y,aO i)::dz (s++[x]) (i+1)=_;rw[b0g s x (i+1)];show _=(Q5 y,aO i)::(dz s (i+1)++_);rw[aV,gd,jA 1]
theorem b0h:∀(s:List Ky) (x:Ky) (i:Nat),F9 (dz s i) (Q5 x)=decide (x∈s)
 |[],x,i=>by simp[F9,dz]
 |y::s,x,i=>by
  have ih:=b0h s x (i+1);unfold F9 at ih ⊢;show (aI (Q5 y) (Q5 x)||(dz s (i+1)).any _)=_;rw[ih,a7D];by_cases h:y=x
  ·simp[h]
  ·have:¬ x=y:=λe=>h e.symm
   simp[h,this]
theorem b0i:∀(s:List Ky) (x:Ky) (i:Nat),p9 (dz s i) (Q5 x)=if x∈s then xn (.int ((i+s.idxOf x:Nat):Int)) else xI
 |[],x,i=>by simp[p9,dz]
 |y::s,x,i=>by
  have ih:=b0i s x (i+1);unfold p9 at ih ⊢;show (List.find? _ ((Q5 y,aO i)::dz s (i+1))).map _=_;rw[fZ,a7D];by_cases h:y=x
  ·subst h;simp
  ·have h':¬ x=y:=λe=>h e.symm
   rw[ba h];show zI _ (List.find? _ (dz s (i+1)))=_;rw[ih];have e:(y::s).idxOf x=s.idxOf x+1:=by
    rw[List.idxOf_cons,beq_false_of_ne h];rfl
   rw[e,gd,jA 1];by_cases c:x∈s
   ·rw[aB c,aB (av _ c)]
   ·rw[aJ c,aJ (by simp[h',c])]
def b7k(s:List Ky)(x:Ky):C9 (dz s 0) (Q5 x) (.int (s.length:Nat))=dz (a4y s x) 0:=by
 unfold C9;rw[b0h];by_cases c:x∈s
 ·rw[aQ c,aB rfl,G9 c]
 ·rw[ba c,aJ (by decide),E9 c,b0g,ig]
def b7l(s:List Ky)(x:Ky):(p9 (dz s 0) (Q5 x)).getD (.int (s.length:Nat))=.int (((a4y s x).idxOf x:Nat):Int):=by
 rw[b0i];by_cases c:x∈s
 ·rw[aB c,G9 c,ig];rfl
 ·rw[aJ c,E9 c,jY,aJ c];simp
theorem a1V:∀(r:List Int) (i:Int),P7 i r∈i::r/\∀x∈i::r,x<=P7 i r
 |[],i=>⟨by simp[P7],λx hx=>by simp at hx;rw[hx];exact wu _⟩
 |y::r,i=>by
  have e:P7 i (y::r)=P7 (if y>i then y else i) r:=rfl;rw[e];by_cases c:y>i
  ·rw[aB c];obtain⟨h1,h2⟩:=a1V r y;refine⟨av _ h1,λx hx=>?_⟩;rcases aH.mp hx with z|z
   ·have:=h2 y (by simp);lia
   ·exact h2 x z
  ·rw[aJ c];obtain⟨h1,h2⟩:=a1V r i;refine⟨?_,λx hx=>?_⟩
   ·rcases aH.mp h1 with z|z
    ·rw[z];simp
    ·exact av _ (av _ z)
   ·rcases aH.mp hx with z|z
    ·rw[z];exact h2 i (by simp)
    ·rcases aH.mp z with y'|y'
     ·have:=h2 i (by simp);lia
     ·exact h2 x (av _ y')
def b4H{ns:List Int}(h1:n∈ns)(h2:∀x∈ns,x<=n):a0d [.list (ns.map .int)]=xn (.int n):=by
 show (intsOf (ns.map aO)).bind _=_;rw[a0x];cases ns with
 |nil=>cases h1
 |cons i r=>
  obtain⟨g1,g2⟩:=a1V r i;have a:=h2 _ g1;have b:=g2 _ h1;show xn (aO (P7 i r))=_;rw[show P7 i r=n by lia]
def b7m(h:ks≠[]):a0d [.list ((a1T ks).map .int)]=xn (.int ((ded ks).length-1)):=by
 obtain⟨x,hx,e⟩:=b0c h;refine b4H ?_ λy hy=>?_
 ·exact aG.mpr ⟨x,hx,by lia⟩
 ·obtain⟨z,hz,rfl⟩:=aG.mp hy;have:=bZ.mpr (T4.mpr hz);lia
def b0j(w:WF m k):∀d,a0d [.list ((lvl m d).map .int)]=xn (.int (cls m d-1))
 |0=>by
  have hm:m≠[]:=λe=>by have:=w.pos;rw[e]at this;exact absurd this (by decide)
  have hc:cls m 0=1:=by
   have h1:=a1o w 0;unfold cls at h1 ⊢;have:∀l:i6,(ded (l.map (kf m 0))).length<=1:=by
    intro l
    induction l using snoc_ind with
    |h0=>simp[ded]
    |h1 l x ih=>
     rw[aN,cx,K0];by_cases c:kf m 0 x∈ded (l.map (kf m 0))
     ·rw[G9 c];exact ih
     ·have:l=[]:=by
       cases l with
       |nil=>rfl
       |cons y l=>exact absurd (T4.mpr (aG.mpr ⟨y,by simp,rfl⟩)) c
      subst this;simp[a4y,ded]
   have:=this m;lia
  rw[hc];refine b4H ?_ λy hy=>?_
  ·cases m with
   |nil=>exact absurd rfl hm
   |cons r m=>exact aG.mpr ⟨r,by simp,rfl⟩
  ·obtain⟨z,_,rfl⟩:=aG.mp hy
   decide
 |d+1=>by
  have hm:m≠[]:=λe=>by have:=w.pos;rw[e]at this;exact absurd this (by decide)
  exact b7m (ks:=m.map λr=>rn r (lvl m d)) λe=>hm (xr.mp e)
def v_count{bs:List Bool}:a3q (.list (bs.map .bool)) (.bool true)=xn (.int (bs.countP id)):=by
 have h1:bb (bs.map cV)=true:=a5Z _ (λx=>by simp only[eQ]) bs;show (if (bb (bs.map cV)&&(cV true).canLay0&&decide ((cV true).depth<=60))=true then xn (aO ((bs.map cV).countP λd=>aI d (.bool true))) else xI)=_;rw[h1,aB (by simp[eQ,fB])];rw[FR]
 congr 3
 congr 1
 funext b
 cases b<;>rfl
def b4I{ns:List Int}:lIs (xn (.list (ns.map .int)))=xn (.list (ns.map .int)):=b4n (n6 _ (λ_=>R9) ns)
theorem a5d(f:α->D):∀{xs:List α},(∀x∈xs,∃bs,pt (enc x)=xn bs/\g (bs++cs)=xn (f x))->U2 pt tT g cs (xs.map enc)=xn (xs.map f)
 |[],_=>rfl
 |x::xs,h=>by
  obtain⟨bs,h1,h2⟩:=h x aK;have ih:=a5d f (xs:=xs) λe he=>h e (av _ he)
  show (pt (enc x)).bind _=_;rw[h1];show (g (bs++cs)).bind _=_;rw[h2];show (U2 pt tT g cs (xs.map enc)).bind _=_;rw[ih];rfl
def O3{js:List Nat}{Z:List D}{xs:List α}(f:α->D)(hf:fi Z=xn (xs.map enc))(hl:xs.length<=1000000)(h:∀x∈xs,∃bs,pt (enc x)=xn bs/\g (bs++js.map λj=>Z.getD j .none)=xn (f x)) :
  r9 fi js pt tT g Z=xn (.list (xs.map f)):=by
 unfold r9;rw[hf];show (if (xs.map enc).length<=1000000 then _ else xI)=_;rw[aB (by rw[ai];exact hl),a5d f h];rfl
theorem a2B:∀(ls:List Int) (k:Nat),G0 (ls.map .int) k=(aA ls.length).map λ(s:Nat)=>dm [.int ((k+s:Nat):Int),.int (ls.getD s 0)]
 |[],_=>rfl
 |n::ls,k=>by
  show dm [.int k,.int n]::G0 (ls.map .int) (k+1)=_;rw[a2B ls (k+1),aV,tE,ax,bC]
  congr 1;refine bG λs _=>?_
  show dm [.int ((k+1+s:Nat):Int),.int (ls.getD s 0)]=.tuple [.int ((k+(s+1):Nat):Int),.int ((n::ls).getD (s+1) 0)];rw[eu,gd,jA 1]
def c0h{Z ds:List D}(h:a Z=xn (.list ds)):iEn a Z=xn (G0 ds 0):=by
 unfold iEn;rw[h];rfl
def c1U{Z:List D}(hk:fk Z=xn k)(he:fe Z=xn e)(hd:Z.getD i .none=.dict kvs)(hK:o8 kt k=true)(hl:kvs.length<1000000)(hs:scal e=true) :
  b3y (U3 i kt fk fe) Z=xn (.nx (Z.set i (.dict (C9 kvs k e)))):=by
 have hx:U3 i kt fk fe Z=xn ((p9 kvs k).getD e,Z.set i (.dict (C9 kvs k e))):=by
  unfold U3;rw[hk];show (fe Z).bind _=_;rw[he];show (match Z.getD i .none with|.dict kvs=>_|_=>_)=_;rw[hd];show (if _ then _ else _)=_;rw[aB (by rw[hK,aQ hl,hs];rfl)]
 unfold b3y;rw[hx];rfl
section
variable {β α:Type}[DecidableEq β]
def dd1(W:List (β×α))(c:β×α):List (β×α):=if c.1∈W.map (·.1) then W else W++[c]
def dd(W C:List (β×α)):List (β×α):=C.foldl dd1 W
variable {W C C':List (β×α)}{c:β×α}{t:β}
def O8(h:c.1∈W.map (·.1)):dd1 W c=W:=aB h
def H9(h:c.1∉W.map (·.1)):dd1 W c=W++[c]:=aJ h
def b4J:dd W (C++C')=dd (dd W C) C':=by unfold dd;rw[jZ]
def O4:dd W (C++[c])=dd1 (dd W C) c:=by rw[b4J];rfl
def a3V(W C:List (β×α)):∃E,dd W C=W++E:=by
 induction C using snoc_ind with
 |h0=>exact⟨[],(bg _).symm⟩
 |h1 C c ih=>
  obtain⟨E,e⟩:=ih;rw[O4];by_cases h:c.1∈(dd W C).map (·.1)
  ·rw[O8 h];exact⟨E,e⟩
  ·rw[H9 h,e];exact⟨E++[c],aS ..⟩
def a3W(h:(W.map (·.1)).Nodup)(C:List (β×α)):((dd W C).map (·.1)).Nodup:=by
 induction C using snoc_ind with
 |h0=>exact h
 |h1 C c ih=>
  rw[O4];by_cases h:c.1∈(dd W C).map (·.1)
  ·rw[O8 h];exact ih
  ·rw[H9 h,aN,bN];refine⟨ih,by simp,λx hx y hy e=>h ?_⟩;rw[cx,ao]at hy;rw[<-hy,<-e];exact hx
def X4(W C:List (β×α)):(dd W C).Sublist (W++C):=by
 induction C using snoc_ind with
 |h0=>rw[bg];exact ik _
 |h1 C c ih=>
  rw[O4,<-aS];by_cases h:c.1∈(dd W C).map (·.1)
  ·rw[O8 h];exact ih.trans (ko _ _)
  ·rw[H9 h];exact ih.append (ik _)
def a8Y(W C:List (β×α)):(dd W C).length<=W.length+C.length:=by
 have:=(X4 W C).length_le
 rwa[az]at this
def b4K{R:α->α->Prop}(hR:(W++C).Pairwise λa b=>R a.2 b.2):∀e∈W++C,∃v,(e.1,v)∈dd W C/\(v=e.2∨R v e.2):=by
 induction C using snoc_ind with
 |h0=>
  intro e he;rw[bg]at he;exact⟨e.2,he,.inl rfl⟩
 |h1 C c ih=>
  intro e he;rw[<-aS]at hR he;obtain⟨h1,h2,h3⟩:=dE.mp hR;rw[O4];rcases aq.mp he with z|z
  ·obtain⟨v,hv,r⟩:=ih h1 e z;refine⟨v,?_,r⟩;by_cases h:c.1∈(dd W C).map (·.1)
   ·rw[O8 h];exact hv
   ·rw[H9 h];exact ak _ hv
  ·rw[ao.mp z];by_cases h:c.1∈(dd W C).map (·.1)
   ·rw[O8 h];obtain⟨x,hx,ex⟩:=aG.mp h;refine⟨x.2,by rw[<-ex];exact hx,.inr (h3 x ((X4 W C).subset hx) c (by simp))⟩
   ·rw[H9 h];exact⟨c.2,by simp,.inl rfl⟩
end
def nodup_range{n:Nat}:∀{l:List Int},l.Nodup->(∀x∈l,0<=x/\x<(n:Int))->l.length<=n:=by
 induction n with
 |zero=>
  intro l _ h;cases l with
  |nil=>exact ay _
  |cons x l=>have:=h x (by simp);lia
 |succ n ih=>
  intro l hd h;have h1:=ih (l:=l.erase (n:Int)) (hd.erase _) λx hx=>by
   have h2:=(List.Nodup.mem_erase_iff hd).mp hx;have:=h x h2.2;have:=h2.1;lia
  have h2:=List.length_erase (a:=(n:Int)) (l:=l);by_cases c:(n:Int)∈l
  ·rw[aB c]at h2;lia
  ·rw[aJ c]at h2;lia
def wl:List Int->List Int->Prop
 |a::p,b::q=>a<b∨(a=b/\wl p q)
 |_,_=>False
def bf(p q:List Int):Prop:=p.length<q.length∨(p.length=q.length/\wl p q)
theorem b4L:∀{p q:List Int} (x y:List Int),wl p q->wl (p++x) (q++y)
 |[],_,_,_,h=>h.elim
 |_::_,[],_,_,h=>h.elim
 |a::p,b::q,x,y,h=>by
  rcases h with h|⟨e,h⟩
  ·exact .inl h
  ·exact .inr ⟨e,b4L x y h⟩
theorem b0k:∀(p:List Int) {x y:List Int},wl x y->wl (p++x) (p++y)
 |[],_,_,h=>h
 |a::p,_,_,h=>.inr ⟨rfl,b0k p h⟩
def b0l(a b:Int)(h:bf p q):bf (p++[a]) (q++[b]):=by
 rcases h with h|⟨e,h⟩
 ·exact .inl (by simp;lia)
 ·exact .inr ⟨by simp[e],b4L _ _ h⟩
def b4M(h:a<b):bf (p++[a]) (p++[b]):=.inr ⟨by simp,b0k p (.inl h)⟩
abbrev V1:=List (Int×List Int)
def a4z(m:i6)(k:Nat)(e:Int×List Int):V1:=(aA k).map λ(a:Nat)=>((stp m e.1 a).2,e.2++[(a:Int)])
abbrev W0:V1:=[(0,[])]
abbrev Sor(W:V1):Prop:=W.Pairwise λa b=>bf a.2 b.2
def b4N(m:i6)(k:Nat)(e:Int×List Int):Sor (a4z m k e):=by
 unfold Sor a4z;rw[Br];exact tF.imp λh=>b4M (by lia)
def b2d(m:i6)(k:Nat){V:V1}(h:Sor V):Sor (V.flatMap (a4z m k)):=by
 induction V with
 |nil=>exact kc
 |cons e V ih=>
  obtain⟨h1,h2⟩:=gW.mp h;rw[fG];refine dE.mpr ⟨b4N m k e,ih h2,λx hx y hy=>?_⟩;obtain⟨f,hf,hy⟩:=cD.mp hy;obtain⟨a,_,rfl⟩:=aG.mp hx;obtain⟨b,_,rfl⟩:=aG.mp hy;exact b0l _ _ (h1 f hf)
def b2e(m:i6)(k:Nat){V:V1}(h:Sor V):Sor (W0++V.flatMap (a4z m k)):=by
 refine dE.mpr ⟨dD ..,b2d m k h,λx hx y hy=>?_⟩;rw[ao.mp hx];obtain⟨f,hf,hy⟩:=cD.mp hy;obtain⟨b,_,rfl⟩:=aG.mp hy;exact .inl (by simp)
structure Met (m:i6) (k:Nat) (dn W:V1):Prop where
 eq:W=dd W0 (dn.flatMap (a4z m k))
 pre:∃nw,W=dn++nw
 sor:Sor W
 ql:∀e∈W,e.2.length<=dn.length
structure AllMet (m:i6) (k:Nat) (W:V1):Prop where
 eq:W=dd W0 (W.flatMap (a4z m k))
 sor:Sor W
 range:∀e∈W,0<=e.1/\e.1<(m.length:Int)
 ql:∀e∈W,e.2.length<=W.length
section
variable {m:i6}{k:Nat}{W:V1}
def AllMet.nodup(h:AllMet m k W):(W.map (·.1)).Nodup:=by rw[h.eq];exact a3W (by simp) _
def AllMet.len(h:AllMet m k W):W.length<=m.length:=by
 have:=nodup_range h.nodup λx hx=>by
  obtain⟨e,he,rfl⟩:=aG.mp hx;exact h.range e he
 rwa[ai]at this
def AllMet.zero(h:AllMet m k W):(0,[])∈W:=by
 obtain⟨E,hE⟩:=a3V W0 (W.flatMap (a4z m k));rw[h.eq,hE];exact aK
def AllMet.next(h:AllMet m k W){s:Int}{p:List Int}(hs:(s,p)∈W){a:Nat}(ha:a<k):∃q,((stp m s a).2,q)∈W/\(q=p++[(a:Int)]∨bf q (p++[(a:Int)])):=by
 have h1:=b4K (R:=bf) (b2e m k h.sor) ((stp m s a).2,p++[(a:Int)]) (ah _ (cD.mpr ⟨_,hs,aG.mpr ⟨a,bI.mpr ha,rfl⟩⟩));rw[<-h.eq]at h1;exact h1
def AllMet.leads(h:AllMet m k W):∀(n:Nat) {s:Int} {p:List Int},p.length<=n->(s,p)∈W->(c6 m 0 p).2=s/\∀a∈p,0<=a/\a<(k:Int):=by
 intro n
 induction n with
 |zero=>
  intro s p hn hs;have hp:p=[]:=fR.mp (by lia);subst hp;rw[h.eq]at hs;rcases aq.mp ((X4 _ _).subset hs) with z|z
  ·have:=ao.mp z;cases this
   exact⟨rfl,λa ha=>nomatch ha⟩
  ·obtain⟨e,_,hc⟩:=cD.mp z;obtain⟨a,_,e2⟩:=aG.mp hc;have:=dB Prod.snd e2;simp at this
 |succ n ih=>
  intro s p hn hs;rw[h.eq]at hs;rcases aq.mp ((X4 _ _).subset hs) with z|z
  ·have:=ao.mp z;cases this
   exact⟨rfl,λa ha=>nomatch ha⟩
  ·obtain⟨⟨t,q⟩,ht,hc⟩:=cD.mp z;obtain⟨a,ha,e2⟩:=aG.mp hc;cases e2
   obtain⟨i1,i2⟩:=ih (s:=t) (p:=q) (by simp at hn;lia) ht;refine⟨by rw[S9,i1],λb hb=>?_⟩;rcases aq.mp hb with z|z
   ·exact i2 b z
   ·rw[ao.mp z];have:=bI.mp ha;lia
end
section
variable {α:Type}
def kvD(enc:α->D)(W:List (Int×α)):List (D×D):=W.map λe=>(aO e.1,enc e.2)
variable {enc:α->D}{W:List (Int×α)}{t:Int}{x:α}
def b0m:(kvD enc W).length=W.length:=ai ..
def b0n{V:List (Int×α)}:kvD enc (W++V)=kvD enc W++kvD enc V:=aN ..
def a6k:F9 (kvD enc W) (.int t)=decide (t∈W.map (·.1)):=by
 induction W with
 |nil=>rfl
 |cons e W ih=>
  show (aI (.int e.1) (.int t)||F9 (kvD enc W) (.int t))=_;rw[a2O,ih];by_cases h1:e.1=t
  ·simp[h1]
  ·have h2:t≠e.1:=λz=>h1 z.symm
   simp[h1,h2]
def b0o(hn:(W.map (·.1)).Nodup)(h:(t,x)∈W):p9 (kvD enc W) (.int t)=xn (enc x):=by
 induction W with
 |nil=>cases h
 |cons e W ih=>
  rw[ax,bV]at hn;unfold p9 kvD;rw[ax,fZ];show zI _ (match aI (.int e.1) (.int t) with|true=>_|false=>_)=_;rw[a2O];rcases aH.mp h with z|z
  ·rw[<-z,aQ rfl];rfl
  ·have h1:e.1≠t:=λq=>hn.1 (by rw[q];exact aG.mpr ⟨_,z,rfl⟩)
   rw[ba h1];exact ih hn.2 z
def a8Z(h:t∉W.map (·.1)):p9 (kvD enc W) (.int t)=xI:=by
 refine P5 ?_;rw[a6k,ba h]
def b4O(h:t∉W.map (·.1)):K4 (kvD enc W) (.int t) (enc x)=kvD enc (W++[(t,x)]):=by
 unfold K4;rw[a6k,ba h,b0n];rfl
def b7n:C9 (kvD enc W) (.int t) (enc x)=kvD enc (dd1 W (t,x)):=by
 unfold C9;rw[a6k];by_cases h:t∈W.map (·.1)
 ·rw[aQ h,O8 (c:=(t,x)) h];rfl
 ·rw[ba h,H9 (c:=(t,x)) h,b0n];rfl
def dKey_i{t:Int}:o8 false (.int t)=true:=rfl
def b0p:(kvD enc W).all (λp=>o8 false p.1)=true:=by
 unfold kvD;rw[List.all_map,dH];exact λe _=>dKey_i
def c0i:(kvD enc W).map (·.1)=(W.map (·.1)).map aO:=by unfold kvD;rw[bC,bC];rfl
def b4P:(kvD enc W).map (·.2)=(W.map (·.2)).map enc:=by unfold kvD;rw[bC,bC];rfl
def b7o(hn:(W.map (·.1)).Nodup)(h:(t,x)∈W):a3o false (.dict (kvD enc W)) (.int t)=xn (enc x):=by
 show (if o8 false (.int t) then xn ((p9 (kvD enc W) (.int t)).getD .none) else xI)=_;rw[dKey_i,b0o hn h];rfl
def a9a(h:t∉W.map (·.1)):a3o false (.dict (kvD enc W)) (.int t)=xn .none:=by
 show (if o8 false (.int t) then xn ((p9 (kvD enc W) (.int t)).getD .none) else xI)=_;rw[dKey_i,a8Z h];rfl
end
def a9b{Z:List D}(hv:fv Z=xn d)(hk:fk Z=xn k)(hd:Z.getD i .none=.dict kvs)(hK:o8 kt k=true)(hl:kvs.length<1000000) :
  C1 i kt fk fv Z=xn (.nx (Z.set i (.dict (K4 kvs k d)))):=by
 unfold C1;rw[hv];show (fk Z).bind _=_;rw[hk];show (match Z.getD i .none with|.dict kvs=>_|_=>_)=_;rw[hd];show (if _ then _ else _)=_;rw[aB (by rw[hK,aQ hl];rfl)]
def c3i{Z:List D}(hk:fk Z=xn k)(hv:fv Z=xn d)(hK:o8 kt k=true):eD1 kt fk fv Z=xn (.dict [(k,d)]):=by
 unfold eD1;rw[hk];show (fv Z).bind _=_;rw[hv];show (if _ then _ else _)=_;rw[hK];rfl
def b7p{α:Type}{enc:α->D}{W:List (Int×α)}{Z:List D}(h:a Z=xn (.dict (kvD enc W))):a5Q a Z=xn (.list ((W.map (·.1)).map .int)):=by
 unfold a5Q;rw[h];show (if _ then _ else _)=_;rw[aB b0p,c0i]
def b7q{Z:List D}(h:a Z=xn (.dict (kvD aO W))):a5R a Z=xn (.list ((W.map (·.2)).map .int)):=by
 unfold a5R;rw[h];show (if _ then _ else _)=_;rw[aB (by rw[b0p,b4P,n6 _ (λ_=>R9)];rfl),b4P]
section
variable {β:Type}[DecidableEq β]
abbrev O5(β:Type):=List (β×List Int)
def N7(nx:β->Nat->β)(k:Nat)(e:β×List Int):O5 β:=(aA k).map λ(a:Nat)=>(nx e.1 a,e.2++[(a:Int)])
abbrev WB(s:β):O5 β:=[(s,[])]
abbrev a6l(W:O5 β):Prop:=W.Pairwise λa b=>bf a.2 b.2
variable {nx:β->Nat->β}{k:Nat}{s:β}
def b2f(e:β×List Int):a6l (N7 nx k e):=by
 unfold a6l N7;rw[Br];exact tF.imp λh=>b4M (by lia)
def a9c{V:O5 β}(h:a6l V):a6l (V.flatMap (N7 nx k)):=by
 induction V with
 |nil=>exact kc
 |cons e V ih=>
  obtain⟨h1,h2⟩:=gW.mp h;rw[fG];refine dE.mpr ⟨b2f e,ih h2,λx hx y hy=>?_⟩;obtain⟨f,hf,hy⟩:=cD.mp hy;obtain⟨a,_,rfl⟩:=aG.mp hx;obtain⟨b,_,rfl⟩:=aG.mp hy;exact b0l _ _ (h1 f hf)
def a9d{V:O5 β}(h:a6l V):a6l (WB s++V.flatMap (N7 nx k)):=by
 refine dE.mpr ⟨dD ..,a9c h,λx hx y hy=>?_⟩;rw[ao.mp hx];obtain⟨f,hf,hy⟩:=cD.mp hy;obtain⟨b,_,rfl⟩:=aG.mp hy;exact .inl (by simp)
structure MetB (nx:β->Nat->β) (k:Nat) (s:β) (P:β->Prop) (dn W:O5 β):Prop where
 eq:W=dd (WB s) (dn.flatMap (N7 nx k))
 pre:∃nw,W=dn++nw
 sor:a6l W
 ql:∀e∈W,e.2.length<=dn.length
 ok:∀e∈W,P e.1
def c1V(h:P s):MetB nx k s P [] (WB s):=⟨rfl,⟨WB s,rfl⟩,dD ..,λe he=>by rw[ao.mp he];exact ay _,λe he=>by rw[ao.mp he];exact h⟩
def MetB.nodup{P:β->Prop}{dn W:O5 β}(h:MetB nx k s P dn W):(W.map (·.1)).Nodup:=by rw[h.eq];exact a3W (by simp) _
def MetB.qlen(h:MetB nx k s P dn W)(he:e∈W):e.2.length<=W.length:=by
 have:=h.ql e he;obtain⟨nw,hn⟩:=h.pre;rw[hn,az];lia
def MetB.step(hP:∀b a,P b->a<k->P (nx b a))(h:MetB nx k s P dn W)(hp:W=dn++e::nw):MetB nx k s P (dn++[e]) (dd W (N7 nx k e)):=by
 have hd:a6l (dn++[e]):=by
  have h1:=h.sor;rw[hp]at h1;exact h1.sublist (xt (ik _) (by simp))
 have he:dd W (N7 nx k e)=dd (WB s) ((dn++[e]).flatMap (N7 nx k)):=by
  rw[eA,fG,iK,bg,b4J,<-h.eq]
 refine⟨he,?_,?_,λf hf=>?_,λf hf=>?_⟩
 ·obtain⟨E,hE⟩:=a3V W (N7 nx k e);exact⟨nw++E,by rw[hE,hp];simp⟩
 ·rw[he];exact (a9d hd).sublist (X4 _ _)
 ·rw[az,bW];rcases aq.mp ((X4 _ _).subset hf) with z|z
  ·have:=h.ql f z;lia
  ·obtain⟨a,_,rfl⟩:=aG.mp z;have:=h.ql e (by rw[hp];simp);simp;lia
 ·rcases aq.mp ((X4 _ _).subset hf) with z|z
  ·exact h.ok f z
  ·obtain⟨a,ha,rfl⟩:=aG.mp z;exact hP e.1 a (h.ok e (by rw[hp];simp)) (bI.mp ha)
structure AllB (nx:β->Nat->β) (k:Nat) (s:β) (P:β->Prop) (W:O5 β):Prop where
 eq:W=dd (WB s) (W.flatMap (N7 nx k))
 sor:a6l W
 ql:∀e∈W,e.2.length<=W.length
 ok:∀e∈W,P e.1
def MetB.all(h:MetB nx k s P W W):AllB nx k s P W:=⟨h.eq,h.sor,λe he=>h.ql e he,h.ok⟩
end
section
variable {β α:Type}[DecidableEq β]
def kvB(key:β->D)(enc:α->D)(W:List (β×α)):List (D×D):=W.map λe=>(key e.1,enc e.2)
structure KeyB (kt:Bool) (key:β->D):Prop where
 eqv:∀a b,aI (key a) (key b)=decide (a=b)
 ok:∀a,o8 kt (key a)=true
 im:∀a,imm (key a)=true
variable {key:β->D}{enc:α->D}{W:List (β×α)}{t:β}{x:α}{kt:Bool}
def b7r:(kvB key enc W).length=W.length:=ai ..
def b7s{V:List (β×α)}:kvB key enc (W++V)=kvB key enc W++kvB key enc V:=aN ..
def a7E(K:KeyB kt key):F9 (kvB key enc W) (key t)=decide (t∈W.map (·.1)):=by
 induction W with
 |nil=>rfl
 |cons e W ih=>
  show (aI (key e.1) (key t)||F9 (kvB key enc W) (key t))=_;rw[K.eqv,ih];by_cases h1:e.1=t
  ·simp[h1]
  ·have h2:t≠e.1:=λz=>h1 z.symm
   simp[h1,h2]
def b4Q(K:KeyB kt key)(hn:(W.map (·.1)).Nodup)(h:(t,x)∈W):p9 (kvB key enc W) (key t)=xn (enc x):=by
 induction W with
 |nil=>cases h
 |cons e W ih=>
  rw[ax,bV]at hn;unfold p9 kvB;rw[ax,fZ];show zI _ (match aI (key e.1) (key t) with|true=>_|false=>_)=_;rw[K.eqv];rcases aH.mp h with z|z
  ·rw[<-z,aQ rfl];rfl
  ·have h1:e.1≠t:=λq=>hn.1 (by rw[q];exact aG.mpr ⟨_,z,rfl⟩)
   rw[ba h1];exact ih hn.2 z
def b2g(K:KeyB kt key)(h:t∉W.map (·.1)):K4 (kvB key enc W) (key t) (enc x)=kvB key enc (W++[(t,x)]):=by
 unfold K4;rw[a7E K,ba h,b7s];rfl
def b4R(K:KeyB kt key):dIn neg kt (key t) (.dict (kvB key enc W))=xn (.bool (neg !=decide (t∈W.map (·.1)))):=by
 show (if o8 kt (key t) then xn (cV (neg !=F9 (kvB key enc W) (key t))) else xI)=_;rw[K.ok,a7E K];rfl
def c0j(K:KeyB kt key)(hn:(W.map (·.1)).Nodup)(h:(t,x)∈W):a5L kt (.dict (kvB key enc W)) (key t)=xn (enc x):=by
 show (if o8 kt (key t) then p9 (kvB key enc W) (key t) else xI)=_;rw[K.ok,b4Q K hn h];rfl
end
def b4S{β α:Type}[DecidableEq β]{W:List (β×α)}{c:β×α}(h:L<=W.length):((dd1 W c).drop L).map (·.1)=if c.1∈W.map (·.1) then (W.drop L).map (·.1) else (W.drop L).map (·.1)++[c.1]:=by
 by_cases hc:c.1∈W.map (·.1)
 ·rw[O8 hc,aB hc]
 ·rw[H9 hc,aJ hc,oG h,aN,cx]
def b4T[DecidableEq β](W C:List (β×α)):W.length<=(dd W C).length:=by
 obtain⟨E,e⟩:=a3V W C;rw[e,az];lia
def b7t[DecidableEq β](C:List (β×α))(h:e∈W):e∈dd W C:=by
 obtain⟨E,q⟩:=a3V W C;rw[q];exact ak _ h
def c1W(h:argsOk us ds=true):fnL us n g gm ds=a0t (g gm (ds++(.none::aT n .none))):=by
 unfold fnL;rw[aB h];cases g gm (ds++(.none::aT n .none)) with
 |none=>rfl
 |some o=>cases o<;>rfl
def c1X{Z ds:List D}(h:f Z=xn ds):b6T m us js fb f Z=m (fnE us (js.map λj=>Z.getD j .none) fb) ds:=by
 unfold b6T;rw[h];rfl
def c1Y(h:argsOk us ds=true):fnE us qB f ds=f (ds++qB):=aB h
abbrev PW:=List ((Int×Int)×List Int)
def atI_nums{ns:List Int}{j:Int}(a:0<=j)(b:j<ns.length):L2.atI (ns.map aO) j=xn (.int (ns.getD j.toNat 0)):=by
 rw[a0u a (by rw[ai];exact b),de];rw[ag,ab (by lia)];rfl
def a1q:Option (List Int)->D
 |none=>.none
 |some q=>.list (q.map .int)
end VS
namespace Prog
open PySem L2 VS
def O9{ls:List Int}(hn:∀p∈r,0<=p.2/\p.2<(ls.length:Int))(hl:r.length<=1000):j7 [rwD r,iD ls]=xn (rwD (rn r ls)):=by
 unfold j7;rw[z9 (by simp[VS.argsOk])];unfold T0;rw[a9I,a5X (ds:=r.map stD) (λd=>match d with|.tuple [.int a,.int b]=>stD (a,ls.getD b.toNat 0)|_=>.none)]
 ·rw[bC];show xn (bD (r.map _))=_;unfold rwD rn;rw[bC];rfl
 ·exact a1c (by unfold rwD;walk_at "ev") (n6 _ (λ_=>a3I) r)
 ·rw[ai];lia
 ·intro d hd;obtain⟨p,hp,rfl⟩:=aG.mp hd;have:=hn p hp;refine⟨[.int p.1,.int p.2],rfl,?_⟩;show V7 _ [.int p.1,.int p.2,.list (ls.map .int)]=xn (stD (p.1,ls.getD p.2.toNat 0));walk_at "ev";rw[Q4 this.1 this.2];walk_at "ev";rfl
def b4U{m:i6}{ls:List Int}(hn:∀r∈m,∀p∈r,0<=p.2/\p.2<(ls.length:Int))(hl:∀r∈m,r.length<=1000)(hm:m.length<=1000):v7 [.list (m.map rwD),iD ls]=xn (iD (a1T (m.map λr=>rn r ls))):=by
 unfold v7;rw[z9 (by simp[VS.argsOk])];unfold a0g;walk_at "ev";refine E5 (λZ=>∃x y z,Z=[.list (m.map rwD),iD ls,x,iD (a1T (m.map λr=>rn r ls)),y,z]) ?_ ?_
 ·obtain⟨Z',h1,x,y,rfl⟩:=t7 (enc:=rwD) (set:=t8 4) (xs:=m) (g:=f8 (i9 5 (L9 (eCl j7 (a7 (a6 4) (a7 (a6 1) b9))))) (a6T 3 (U3 2 true (a6 5) (eCl a9J (a7 (a6 2) b9)))))
   (Z:=[.list (m.map rwD),iD ls,.dict [],.list [],.none,.none])
   (λpre Z=>∃x y,Z=[.list (m.map rwD),iD ls,.dict (dz (ded (pre.map λr=>rn r ls)) 0),iD (a1T (pre.map λr=>rn r ls)),x,y])
   ⟨.none,.none,rfl⟩ (by
    rintro pre r post e Z ⟨x,y,rfl⟩;have hr:r∈m:=by rw[e];simp
    have hlen:pre.length<m.length:=by rw[e];simp
    have hd:=b0b (pre.map λr=>rn r ls);rw[ai]at hd;refine⟨_,[.list (m.map rwD),iD ls,.dict (dz (ded ((pre++[r]).map λr=>rn r ls)) 0),iD (a1T ((pre++[r]).map λr=>rn r ls)),rwD r,Q5 (rn r ls)],rfl,?_,_,_,rfl⟩;walk_at "ev";rw[a1p (ds:=(rn r ls).map stD) (by walk_at "ev";exact O9 (hn r hr) (hl r hr)) (n6 _ (λ_=>a3I) _)];walk_at "ev";rw[c0e (k:=Q5 (rn r ls)) (e:=.int ((ded (pre.map λr=>rn r ls)).length:Nat)) (kvs:=dz (ded (pre.map λr=>rn r ls)) 0) (ds:=(a1T (pre.map λr=>rn r ls)).map .int) (by rfl) (by walk_at "ev";rw[c0d,a8X]) (by rfl) (b2c _) (by rw[a8X];lia) (by rfl) (by rfl) (by decide) (by rw[ai,a7C,ai];lia)];rw[b7k,b7l,aN,cx,K0];have sI:a1T ((pre.map λr=>rn r ls)++[rn r ls])=a1T (pre.map λr=>rn r ls)++[(((a4y (ded (pre.map λr=>rn r ls)) (rn r ls)).idxOf (rn r ls):Nat):Int)]:=by
     unfold a1T;rw[aN,cx,K0]
     congr 1;refine bG λy hy=>?_
     rw[b4B (T4.mpr hy)]
    rw[sI];unfold iD;rw[aN];rfl)
  exact⟨_,h1,_,_,_,rfl⟩
 ·rintro Z ⟨x,y,z,rfl⟩;walk_at "ev"
end Prog
namespace VS
open PySem L2
def b4V{Z ds:List D}(h:Z.getD j .none=.list ds)(hl:ds.length<1000000)(hf:f (Z.set j (.list (ds++[Z.getD i .none])))=xn d):Y7 j i f Z=xn (.nx ((Z.set j (.list (ds++[Z.getD i .none]))).set i d)):=by
 unfold Y7;rw[h];show (if _ then _ else _)=_;rw[aB hl,hf];rfl
def a6m{α:Type}{f:Nat->α}{j:Nat}:L2.atI ((aA (j+1)).map f) (-1)=xn (f j):=by
 unfold L2.atI ixN;rw[ai,bz,aJ (by decide),aB (by lia)];show ((aA (j+1)).map f)[((j+1:Nat)+(-1:Int)).toNat]?=_;rw[show (((j+1:Nat):Int)+(-1:Int)).toNat=j by lia,aR,eR (by lia)];rfl
end VS
namespace Prog
open PySem L2 VS
def a5e{m:i6}{k:Nat}(w:WF m k)(d:Nat):v7 [.list (m.map rwD),iD (lvl m d)]=xn (iD (lvl m (d+1))):=by
 refine b4U (λr hr p hp=>?_) (λr hr=>by rw[w.rows r hr];have:=w.k5;lia) (by have:=w.le;lia);rw[T5];exact w.next r hr p hp
def a1W{m:i6}{k:Nat}(w:WF m k):∃D:Nat,A0 [.list (m.map rwD)]=xn (.list ((aA (D+1)).map λd=>iD (lvl m d)))/\D+1<=m.length/\(∀i<D,cls m i<cls m (i+1))/\
  ∀s t:Int,0<=s->s<m.length->0<=t->t<m.length->lv m D s=lv m D t->lv m (D+1) s=lv m (D+1) t:=by
 unfold A0;rw[z9 (by simp[VS.argsOk])];unfold a2u;have hle:=w.le;have h0:r9 (iL (a6 0)) [] pt1 tT (eC (.int 0)) [.list (m.map rwD),.none,.none]=xn (iD (lvl m 0)):=by
  rw[a5X (ds:=m.map rwD) (λ_=>.int 0)]
  ·rw[bC];show _=xn (bD ((m.map λ_=>(0:Int)).map .int));rw[bC];rfl
  ·walk_at "ev"
  ·rw[ai];lia
  ·exact λd hd=>⟨[d],rfl,rfl⟩
 walk_at "ev";show ∃D,a0t (thn (b6d 1 (listE (b3j (r9 (iL (a6 0)) [] pt1 tT (eC (.int 0)) [.list (m.map rwD),.none,.none]) (xn []))) [.list (m.map rwD),.none,.none]) _)=_/\_;rw[h0];walk_at "ev";rw[show L2.atI [iD (lvl m 0)] (-1)=xn (iD (lvl m 0)) from a6m (f:=λd=>iD (lvl m d)) (j:=0)];walk_at "ev";rw[a5e w 0];walk_at "ev";rw[c0f];obtain⟨Z',h1,D,rfl,q1,q2⟩:=a2Q (c:=tB (e2 dGt (eCl a0d (a7 (a6 2) b9)) (eCl a0d (a7 (e2 a3f (a6 1) (eC (.int (-1)))) b9)))) (g:=f8 (Y7 1 2 (eCl v7 (a7 (a6 0) (a7 (a6 2) b9)))) E1)
  (I:=λj Z=>Z=[.list (m.map rwD),.list ((aA (j+1)).map λd=>iD (lvl m d)),iD (lvl m (j+1))]/\∀i<j,cls m i<cls m (i+1))
  (Q:=λZ=>∃j,Z=[.list (m.map rwD),.list ((aA (j+1)).map λd=>iD (lvl m d)),iD (lvl m (j+1))]/\(∀i<j,cls m i<cls m (i+1))/\cls m (j+1)<=cls m j) 30
  (by
   rintro j Z ⟨rfl,hc⟩;have up:∀i≤j,i+1<=cls m i:=by
    intro i
    induction i with
    |zero=>intro _;exact a1o w 0
    |succ i ih=>intro hi;have:=ih (by lia);have:=hc i (by lia);lia
   have hj:=up j (ay _);have pR:=b0e m j;refine⟨by lia,?_⟩;have iF:tB (e2 dGt (eCl a0d (a7 (a6 2) b9)) (eCl a0d (a7 (e2 a3f (a6 1) (eC (.int (-1)))) b9))) [.list (m.map rwD),.list ((aA (j+1)).map λd=>iD (lvl m d)),iD (lvl m (j+1))]=xn (decide (cls m j<cls m (j+1))):=by
    walk_at "ev";rw[a6m (f:=λd=>iD (lvl m d))];walk_at "ev";unfold iD;rw[b0j w,b0j w];walk_at "ev";have h1:=a1o w j;have h2:=a1o w (j+1)
    congr 1;exact EA.mpr (by lia)
   rw[iF];by_cases c:cls m j<cls m (j+1)
   ·refine .inr ⟨by rw[aQ c],[.list (m.map rwD),.list ((aA (j+2)).map λd=>iD (lvl m d)),iD (lvl m (j+2))],?_,rfl,λi hi=>?_⟩
    ·rw[a6L,b4V (ds:=(aA (j+1)).map λd=>iD (lvl m d)) (d:=iD (lvl m (j+2))) (by rfl) (by rw[ai,bz];lia) (by walk_at "ev";exact a5e w (j+1))];walk_at "ev";rw[jg (n:=j+1),aN];rfl
    ·rcases cI i j with z|z
     ·exact hc i z
     ·rw[show i=j by lia];exact c
   ·exact .inl ⟨by rw[ba c],j,rfl,hc,by lia⟩) 1000000 0 [.list (m.map rwD),.list [iD (lvl m 0)],iD (lvl m 1)] ⟨rfl,λi hi=>absurd hi (by lia)⟩ (by lia)
 rw[h1];walk_at "ev";have up:∀i≤D,i+1<=cls m i:=by
  intro i
  induction i with
  |zero=>intro _;exact a1o w 0
  |succ i ih=>intro hi;have:=ih (by lia);have:=q1 i (by lia);lia
 have hj:=up D (ay _);have pR:=b0e m D;exact⟨D,rfl,by lia,q1,λs t s0 s1 t0 t1 h=>(b4D w D).2 q2 s t s0 s1 t0 t1 h⟩
end Prog
namespace VS
open PySem L2
def dk1(K:List Int)(x:Int):List Int:=if x∈K then K else K++[x]
def dkk(K L:List Int):List Int:=L.foldl dk1 K
section
variable {K L L':List Int}{x:Int}
def T6(h:x∈K):dk1 K x=K:=aB h
def T7(h:x∉K):dk1 K x=K++[x]:=aJ h
def T8:dkk K (L++L')=dkk (dkk K L) L':=by unfold dkk;rw[jZ]
def C5:dkk K (L++[x])=dk1 (dkk K L) x:=by rw[T8];rfl
def L1(K L:List Int):x∈dkk K L↔x∈K∨x∈L:=by
 induction L using snoc_ind with
 |h0=>simp[dkk]
 |h1 L y ih=>
  rw[C5,aq,<-or_assoc,<-ih,ao];by_cases h:y∈dkk K L
  ·rw[T6 h];exact⟨.inl,λz=>z.elim id λz=>z▸h⟩
  ·rw[T7 h,aq,ao]
def a2R(K L:List Int):∃E,dkk K L=K++E:=by
 induction L using snoc_ind with
 |h0=>exact⟨[],(bg _).symm⟩
 |h1 L y ih=>
  obtain⟨E,e⟩:=ih;rw[C5];by_cases h:y∈dkk K L
  ·rw[T6 h];exact⟨E,e⟩
  ·rw[T7 h,e];exact⟨E++[y],aS ..⟩
def b2h(h:K.Nodup)(L:List Int):(dkk K L).Nodup:=by
 induction L using snoc_ind with
 |h0=>exact h
 |h1 L y ih=>
  rw[C5];by_cases hy:y∈dkk K L
  ·rw[T6 hy];exact ih
  ·rw[T7 hy,bN];exact⟨ih,by simp,λa ha b hb e=>hy (by rw[ao.mp hb]at e;exact e▸ha)⟩
def b4W(h:∀x∈L,x∈K):dkk K L=K:=by
 induction L using snoc_ind with
 |h0=>rfl
 |h1 L y ih=>
  have e:=ih λx hx=>h x (ak _ hx)
  rw[C5,e,T6 (h y (by simp))]
def b7u(c:Int->Int)(X K L:List Int):dkk X ((dkk K L).map c)=dkk X ((K++L).map c):=by
 induction L using snoc_ind with
 |h0=>rw[bg];rfl
 |h1 L y ih=>
  rw[C5,<-aS,aN,cx,C5,<-ih];by_cases h:y∈dkk K L
  ·rw[T6 h,T6];exact (L1 _ _).mpr (.inr (cH h))
  ·rw[T7 h,aN,cx,C5]
def b4X(W C:List (Int×α)):(dd W C).map (·.1)=dkk (W.map (·.1)) (C.map (·.1)):=by
 induction C using snoc_ind with
 |h0=>rfl
 |h1 C c ih=>
  rw[O4,aN,cx,C5,<-ih];by_cases h:c.1∈(dd W C).map (·.1)
  ·rw[O8 h,T6 h]
  ·rw[H9 h,T7 h,aN,cx]
def b7v{A B:List Int}(h:x∈A):(A++B).idxOf x=A.idxOf x:=by rw[jY,aB h]
def b4Y{s:List Int}(hx:x∈s)(hy:y∈s)(h:s.idxOf x=s.idxOf y):x=y:=by
 have h1:=dW (bZ.mpr hx);have h2:=dW (bZ.mpr hy);rw[<-h1,<-h2];simp only[h]
end
section
variable {m:i6}{k:Nat}{c:Int->Int}{r:List Int}
def a6n(m:i6)(k:Nat)(c:Int->Int):Prop:=∀s t:Int,0<=s->s<m.length->0<=t->t<m.length->c s=c t->∀a:Int,0<=a->a<k->(stp m s a).1=(stp m t a).1/\c (stp m s a).2=c (stp m t a).2
structure Rch (m:i6) (k:Nat) (r:List Int):Prop where
 eq:r=dkk [0] (r.flatMap λs=>(aA k).map λ(a:Nat)=>(stp m s a).2)
 range:∀s∈r,0<=s/\s<(m.length:Int)
 len:r.length<=m.length
 walks:∀s∈r,∃p:List Int,(c6 m 0 p).2=s/\∀a∈p,0<=a/\a<(k:Int)
def fc(c:Int->Int)(r:List Int):List (Int×Int):=dd [] (r.map λs=>(c s,s))
def cl(c:Int->Int)(r:List Int):List Int:=(fc c r).map (·.1)
def fs(c:Int->Int)(r:List Int):List Int:=(fc c r).map (·.2)
def pls(c:Int->Int)(r:List Int)(s:Int):Nat:=(cl c r).idxOf (c s)
def n8(m:i6)(c:Int->Int)(r:List Int):i6:=(fs c r).map λf=>(rowAt m f).map λp=>(p.1,(pls c r p.2:Int))
def a0F{e:Int×Int}(h:e∈fc c r):e.2∈r/\e.1=c e.2:=by
 have h1:=(X4 _ _).subset h;rw[bJ]at h1;obtain⟨s,hs,rfl⟩:=aG.mp h1;exact⟨hs,rfl⟩
def b0q:cl c r=dkk [] (r.map c):=by
 unfold cl fc;rw[b4X,bC];rfl
def X5:(cl c r).Nodup:=by rw[b0q];exact b2h bA _
def a1X(h:s∈r):c s∈cl c r:=by rw[b0q];exact (L1 _ _).mpr (.inr (cH h))
def a1Y:(cl c r).length=(fs c r).length:=by unfold cl fs;rw[ai,ai]
def a9e:(fs c r).length<=r.length:=by
 have:=a8Y (W:=[]) (r.map λs=>(c s,s));unfold fs fc;rw[ai];simpa using this
def a1r(i:Nat)(h:i<(fs c r).length):∃f,(fs c r)[i]?=xn f/\f∈r/\(cl c r)[i]?=xn (c f):=by
 have h1:i<(fc c r).length:=by unfold fs at h;rwa[ai]at h
 refine⟨((fc c r)[i]).2,?_,?_,?_⟩
 ·unfold fs;rw[aR,ab h1];rfl
 ·exact (a0F (dA h1)).1
 ·unfold cl;rw[aR,ab h1,<-(a0F (dA h1)).2];rfl
def c0k:cl c r=(fs c r).map c:=by
 unfold cl fs;rw[bC];exact bG λe he=>(a0F he).2
def a3X(h:s∈r):pls c r s<(fs c r).length:=by rw[<-a1Y];exact bZ.mpr (a1X h)
def b4Z(h:s∈r):∃f,(fs c r)[pls c r s]?=xn f/\f∈r/\c f=c s:=by
 obtain⟨f,h1,h2,h3⟩:=a1r (c:=c) (r:=r) _ (a3X h);refine⟨f,h1,h2,?_⟩;have h4:=dW (bZ.mpr (a1X (c:=c) h));have h5:=ab (bZ.mpr (a1X (c:=c) h));rw[h4]at h5;unfold pls at h3;rw[h5]at h3;exact (aF h3).symm
def Rch.zero(R:Rch m k r):0∈r:=by rw[R.eq];exact (L1 _ _).mpr (.inl (by simp))
def Rch.next(R:Rch m k r){s:Int}(hs:s∈r){a:Int}(h0:0<=a)(h1:a<k):(stp m s a).2∈r:=by
 rw[R.eq];refine (L1 _ _).mpr (.inr (cD.mpr ⟨s,hs,aG.mpr ⟨a.toNat,bI.mpr (by lia),?_⟩⟩));rw[gK h0]
def a7F(R:Rch m k r):pls c r 0=0:=by
 unfold pls;rw[b0q,R.eq];obtain⟨E,e⟩:=a2R [0] (r.flatMap λs=>(aA k).map λ(a:Nat)=>(stp m s a).2);rw[e,aN,T8];obtain⟨E2,e2⟩:=a2R (dkk [] ([0].map c)) (E.map c);rw[e2];show (([]++[c 0])++E2).idxOf (c 0)=0;simp
def G8:(n8 m c r).length=(fs c r).length:=ai ..
def a9f(h:(fs c r)[i]?=xn f):rowAt (n8 m c r) (i:Nat)=(rowAt m f).map λp=>(p.1,(pls c r p.2:Int)):=by
 unfold rowAt n8;rw[bK,ag,aR,h];rfl
def a3Y(w:WF m k)(i_:∀s:Int,0<=s->s<m.length->(rowAt m s).length=k){i:Nat}{f:Int}(h:(fs c r)[i]?=xn f)(h0:0<=f)(h1:f<m.length){a:Int}(a0:0<=a)(a1:a<k):stp (n8 m c r) (i:Nat) a=((stp m f a).1,(pls c r (stp m f a).2:Int)):=by
 unfold stp;rw[a9f h,ag,aR];have hl:=i_ f h0 h1;rw[ab (by lia),ag,ab (by lia)];rfl
def a1Z(w:WF m k)(R:Rch m k r):WF (n8 m c r) k:=by
 refine⟨?_,?_,w.k1,w.k5,λx hx=>?_,λx hx p hp=>?_⟩
 ·rw[G8];exact gU (cE _) (a3X (c:=c) R.zero)
 ·rw[G8];have:=a9e (c:=c) (r:=r);have:=R.len;have:=w.le;lia
 ·obtain⟨f,hf,rfl⟩:=aG.mp hx;rw[ai];obtain⟨e,he,rfl⟩:=aG.mp hf;have h1:=R.range _ (a0F he).1;exact w.rows _ (by
   unfold rowAt;rw[ag,ab (by lia)];exact dA _)
 ·obtain⟨f,hf,rfl⟩:=aG.mp hx;obtain⟨q,hq,rfl⟩:=aG.mp hp;obtain⟨e,he,rfl⟩:=aG.mp hf;have h1:=(a0F he).1;have hr:=R.range _ h1;have hm:rowAt m e.2∈m:=by
   unfold rowAt;rw[ag,ab (by lia)];exact dA _
  obtain⟨j,hj⟩:=cS.mp hq;have qP:=(aL.mp hj).1;rw[w.rows _ hm]at qP;have hs:stp m e.2 (j:Nat)=q:=by
   unfold stp;rw[bK,ag,hj];rfl
  have h2:=R.next h1 (a:=(j:Nat)) (by lia) (by lia);rw[hs]at h2;have h3:=a3X (c:=c) h2;rw[G8];show (0:Int)<=(pls c r q.2:Int)/\(pls c r q.2:Int)<((fs c r).length:Int);lia
def X6(w:WF m k)(i_:∀s:Int,0<=s->s<m.length->(rowAt m s).length=k)(C:a6n m k c)(R:Rch m k r){s:Int}(hs:s∈r){a:Int}(a0:0<=a)(a1:a<k):stp (n8 m c r) (pls c r s:Int) a=((stp m s a).1,(pls c r (stp m s a).2:Int)):=by
 obtain⟨f,h1,h2,h3⟩:=b4Z (c:=c) hs;have r1:=R.range _ h2;have r2:=R.range _ hs;rw[a3Y w i_ h1 r1.1 r1.2 a0 a1];obtain⟨h4,h5⟩:=C f s r1.1 r1.2 r2.1 r2.2 h3 a a0 a1;rw[h4];unfold pls;rw[h5]
theorem a2C(w:WF m k)(i_:∀s:Int,0<=s->s<m.length->(rowAt m s).length=k)(C:a6n m k c)(R:Rch m k r):∀(p:List Int) {s:Int},s∈r->(∀a∈p,0<=a/\a<(k:Int))->c6 (n8 m c r) (pls c r s:Int) p=((c6 m s p).1,(pls c r (c6 m s p).2:Int))
 |[],s,_,_=>rfl
 |a::p,s,hs,h=>by
  have ha:=h a aK;show ((stp (n8 m c r) (pls c r s:Int) a).1::(c6 (n8 m c r) (stp (n8 m c r) (pls c r s:Int) a).2 p).1,(c6 (n8 m c r) (stp (n8 m c r) (pls c r s:Int) a).2 p).2)=_;rw[X6 w i_ C R hs ha.1 ha.2];show ((stp m s a).1::(c6 (n8 m c r) (pls c r (stp m s a).2:Int) p).1,(c6 (n8 m c r) (pls c r (stp m s a).2:Int) p).2)=_;rw[a2C w i_ C R p (R.next hs ha.1 ha.2) λb hb=>h b (av _ hb)];rfl
end
def AllMet.rch(h:AllMet m k W):Rch m k (W.map (·.1)):=by
 refine⟨?_,λs hs=>?_,by rw[ai];exact h.len,λs hs=>?_⟩
 ·have h1:=b4X W0 (W.flatMap (a4z m k));rw[<-h.eq]at h1;have h2:(W.flatMap (a4z m k)).map (·.1)=(W.map (·.1)).flatMap λs=>(aA k).map λ(a:Nat)=>(stp m s a).2:=by
   rw[EN,List.flatMap_map]
   congr 1
   funext e
   unfold a4z;rw[bC];rfl
  rw[h2]at h1;exact h1
 ·obtain⟨e,he,rfl⟩:=aG.mp hs;exact h.range e he
 ·obtain⟨⟨t,p⟩,he,rfl⟩:=aG.mp hs;exact⟨p,h.leads _ (ay _) he⟩
section
variable {m:i6}{k:Nat}{c:Int->Int}{r:List Int}
def csu(m:i6)(k:Nat)(c:Int->Int)(s:Int):List Int:=(aA k).map λ(a:Nat)=>c (stp m s a).2
def c0l(C:a6n m k c){s t:Int}(s0:0<=s)(s1:s<m.length)(t0:0<=t)(t1:t<m.length)(h:c s=c t):csu m k c s=csu m k c t:=by
 unfold csu;exact bG λa ha=>(C s t s0 s1 t0 t1 h a (by lia) (by have:=bI.mp ha;lia)).2
def a9g(C:a6n m k c)(X:List Int):∀(r:List Int),(∀s∈r,0<=s/\s<(m.length:Int))->dkk X (r.flatMap (csu m k c))=dkk X ((fs c r).flatMap (csu m k c)):=by
 intro r
 induction r using snoc_ind with
 |h0=>intro _;rfl
 |h1 r s ih=>
  intro hr;have ih:=ih λs hs=>hr s (ak _ hs)
  have hs:=hr s (by simp);rw[eA,T8,fG,iK,bg];have e:fc c (r++[s])=dd1 (fc c r) (c s,s):=by unfold fc;rw[aN,cx,O4]
  by_cases h:c s∈(fc c r).map (·.1)
  ·have e2:fs c (r++[s])=fs c r:=by unfold fs;rw[e,O8 (c:=(c s,s)) h]
   rw[e2,<-ih];refine b4W λx hx=>(L1 _ _).mpr (.inr ?_)
   obtain⟨f,hf,ef⟩:=aG.mp h;have qx:=a0F hf;have nH:=hr f.2 (ak _ qx.1);rw[c0l C hs.1 hs.2 nH.1 nH.2 (by rw[<-qx.2];exact ef.symm)]at hx;exact cD.mpr ⟨f.2,qx.1,hx⟩
  ·have e2:fs c (r++[s])=fs c r++[s]:=by unfold fs;rw[e,H9 (c:=(c s,s)) h,aN];rfl
   rw[e2,eA,T8,<-ih,fG,iK,bg]
def a6o(C:a6n m k c)(R:Rch m k r):cl c r=dkk [c 0] ((fs c r).flatMap (csu m k c)):=by
 rw[<-a9g C [c 0] r R.range,b0q];have e:dkk [] (r.map c)=dkk [] ((dkk [0] (r.flatMap λs=>(aA k).map λ(a:Nat)=>(stp m s a).2)).map c):=by rw[<-R.eq]
 rw[e,b7u,aN,T8];have e2:(r.flatMap λs=>(aA k).map λ(a:Nat)=>(stp m s a).2).map c=r.flatMap (csu m k c):=by
  rw[EN]
  congr 1
  funext s
  unfold csu;rw[bC];rfl
 rw[e2];rfl
def b7w(C:a6n m k c)(R:Rch m k r){j:Nat}(hj:j<(fs c r).length):j<(dkk [c 0] (((fs c r).take j).flatMap (csu m k c))).length:=by
 refine Nat.lt_of_not_le λhZ=>?_
 have pR:=a6o C R;rw[<-iC j (fs c r),eA,T8]at pR;obtain⟨E,e⟩:=a2R (dkk [c 0] (((fs c r).take j).flatMap (csu m k c))) (((fs c r).drop j).flatMap (csu m k c));rw[e]at pR;have iQ:∀x,x∈dkk [c 0] (((fs c r).take j).flatMap (csu m k c))↔x=c 0∨x∈((fs c r).take j).flatMap (csu m k c):=λx=>by rw[L1,ao]
 generalize dkk [c 0] (((fs c r).take j).flatMap (csu m k c))=Zq at hZ pR iQ;have vB:∀x∈Zq,(cl c r).idxOf x<j:=λx hx=>by
  rw[pR,b7v hx];have:=bZ.mpr hx;lia
 have uX:∀s∈r,c s∈Zq->∀a:Int,0<=a->a<k->c (stp m s a).2∈Zq:=λs hs hz a a0 a1=>by
  obtain⟨f,h1,h2,h3⟩:=b4Z (c:=c) hs;have r1:=R.range _ h2;have r2:=R.range _ hs;rw[<-(C f s r1.1 r1.2 r2.1 r2.2 h3 a a0 a1).2];refine (iQ _).mpr (.inr (cD.mpr ⟨f,?_,aG.mpr ⟨a.toNat,bI.mpr (by lia),by rw[gK a0]⟩⟩));have hp:pls c r s<j:=vB _ hz;exact br (i:=pls c r s) (by rw[kr hp];exact h1)
 have g_:∀p:List Int,(∀a∈p,0<=a/\a<(k:Int))->(c6 m 0 p).2∈r/\c (c6 m 0 p).2∈Zq:=by
  intro p
  induction p using snoc_ind with
  |h0=>exact λ_=>⟨R.zero,(iQ _).mpr (.inl rfl)⟩
  |h1 p a ih=>
   intro hp;obtain⟨i1,i2⟩:=ih λb hb=>hp b (ak _ hb)
   have ha:=hp a (by simp);rw[S9];exact⟨R.next i1 ha.1 ha.2,uX _ i1 i2 a ha.1 ha.2⟩
 obtain⟨f,f1,f2,f3⟩:=a1r (c:=c) (r:=r) j hj;obtain⟨p,p1,p2⟩:=R.walks f f2;have h1:=(g_ p p2).2;rw[p1]at h1;have h2:=vB _ h1;have hi:(cl c r).idxOf (c f)<(cl c r).length:=bZ.mpr (a1X f2);have h3:(cl c r)[(cl c r).idxOf (c f)]?=xn (c f):=by rw[ab hi,dW hi]
 have:=(ij hi X5).mp (h3.trans f3.symm);lia
def b5a(h:(fs c r)[i]?=xn f):pls c r f=i:=by
 have hi:=(aL.mp h).1;obtain⟨f',f1,f2,f3⟩:=a1r (c:=c) (r:=r) i hi;rw[h]at f1;cases f1
 have hj:(cl c r).idxOf (c f)<(cl c r).length:=bZ.mpr (a1X f2);have h3:(cl c r)[(cl c r).idxOf (c f)]?=xn (c f):=by rw[ab hj,dW hj]
 exact (ij hj X5).mp (h3.trans f3.symm)
end
theorem a3Z:∀(l:List D) (j:Nat),G0 l j=(aA l.length).map λ(s:Nat)=>dm [.int ((j+s:Nat):Int),l.getD s .none]
 |[],_=>rfl
 |n::ls,k=>by
  show dm [.int k,n]::G0 ls (k+1)=_;rw[a3Z ls (k+1),aV,tE,ax,bC]
  congr 1;refine bG λs _=>?_
  show dm [.int ((k+1+s:Nat):Int),ls.getD s .none]=.tuple [.int ((k+(s+1):Nat):Int),(n::ls).getD (s+1) .none];rw[eu,gd,jA 1]
def a1s(f:Nat->D)(k:Nat):G0 ((aA k).map f) 0=(aA k).map λ(a:Nat)=>dm [.int (a:Int),f a]:=by
 rw[a3Z,ai,bz];refine bG λa ha=>?_
 have h:=bI.mp ha;rw[ig,ag,aR,eR h];rfl
end VS
namespace Prog
open PySem L2 VS
abbrev iDl:List Int->D:=λns=>.list (ns.map .int)
abbrev kLs{β:Type}(key:β->D)(l:List β):D:=.list (l.map key)
def b5b[DecidableEq β](K:KeyB false key){gm:List D->Option D}(hk:k<=5){W:O5 β}{q:List Int}(hq:(b,q)∈W)(oP:(W.map (·.1)).Nodup)(hL:L<=W.length)(hW:W.length<=1000)(tX:q.length<=1000)(s0 sg x y:D) :
  ∃x' y',U9 (a1z 6 7) ((sIf (tB (e2 (dIn true false) (a6 7) (a6 2))) (f8 (C1 2 false (a6 7) (eI (J6 (e2 (a5L false) (a6 2) (a6 5)) (x4 (a7 (a6 6) b9))))) (M8 4 (.l .i) y8 (a6 7))) E1)) ((aA k).map λ(a:Nat)=>dm [.int (a:Int),key (nx b a)]) [s0,.none,.dict (kvB key iDl W),sg,kLs key ((W.drop L).map (·.1)),key b,x,y] =
   xn (.nx [s0,.none,.dict (kvB key iDl (dd W (N7 nx k (b,q)))),sg,kLs key (((dd W (N7 nx k (b,q))).drop L).map (·.1)),key b,x',y']):=by
 obtain⟨Z',g1,x',y',rfl⟩:=t7 (enc:=λ(a:Nat)=>dm [.int (a:Int),key (nx b a)]) (set:=a1z 6 7) (xs:=aA k) (g:=(sIf (tB (e2 (dIn true false) (a6 7) (a6 2))) (f8 (C1 2 false (a6 7) (eI (J6 (e2 (a5L false) (a6 2) (a6 5)) (x4 (a7 (a6 6) b9))))) (M8 4 (.l .i) y8 (a6 7))) E1))
  (Z:=[s0,.none,.dict (kvB key iDl W),sg,kLs key ((W.drop L).map (·.1)),key b,x,y])
  (λpre Z=>∃x y,Z=[s0,.none,.dict (kvB key iDl (dd W (pre.map λ(a:Nat)=>(nx b a,q++[(a:Int)])))),sg,kLs key (((dd W (pre.map λ(a:Nat)=>(nx b a,q++[(a:Int)]))).drop L).map (·.1)),key b,x,y]) ⟨x,y,rfl⟩ (by
   rintro pre a post e Z ⟨x,y,rfl⟩;obtain⟨ea,ha,_⟩:=X2 e;have vh:=a3W oP (pre.map λ(a:Nat)=>(nx b a,q++[(a:Int)]));have iQ:=b7t (pre.map λ(a:Nat)=>(nx b a,q++[(a:Int)])) hq;have hlen:=a8Y W (pre.map λ(a:Nat)=>(nx b a,q++[(a:Int)]));have CJ:=b4T W (pre.map λ(a:Nat)=>(nx b a,q++[(a:Int)]));have gE:(pre.map λ(a:Nat)=>(nx b a,q++[(a:Int)])).length<=5:=by rw[ai];lia
   rw[aN,cx,O4];generalize dd W (pre.map λ(a:Nat)=>(nx b a,q++[(a:Int)]))=V at vh iQ hlen CJ;have yH:=c0j (enc:=iDl) K vh iQ;by_cases c:nx b a∈V.map (·.1)
   ·refine⟨_,[s0,.none,.dict (kvB key iDl V),sg,kLs key ((V.drop L).map (·.1)),key b,.int a,key (nx b a)],rfl,?_,_,_,by rw[O8 c]⟩;have lR:dIn true false (key (nx b a)) (.dict (kvB key iDl V))=xn (.bool false):=by rw[b4R K,aQ c];rfl
    walk_at "ev";rw[lR];walk_at "ev"
   ·have lR:dIn true false (key (nx b a)) (.dict (kvB key iDl V))=xn (.bool true):=by rw[b4R K,ba c];rfl
    have AD:=b4S (W:=V) (c:=(nx b a,q++[(a:Int)])) (L:=L) (by lia);rw[aJ c]at AD;refine⟨_,[s0,.none,.dict (kvB key iDl (dd1 V (nx b a,q++[(a:Int)]))),sg,kLs key (((dd1 V (nx b a,q++[(a:Int)])).drop L).map (·.1)),key b,.int a,key (nx b a)],rfl,?_,_,_,rfl⟩;have Fo:(((V.drop L).map (·.1)).map key).length<1000000:=by rw[ai,ai,gA];lia
    have sD:eI (J6 (e2 (a5L false) (a6 2) (a6 5)) (x4 (a7 (a6 6) b9))) [s0,.none,.dict (kvB key iDl V),sg,kLs key ((V.drop L).map (·.1)),key b,.int a,key (nx b a)]=xn (iDl (q++[(a:Int)])):=by
     rw[a7v,a2t];walk_at "ev";rw[yH,b4q (by rw[ai];simp;lia)];show lIs (xn (.list (q.map .int++[.int a])))=_;rw[show q.map aO++[aO a]=(q++[(a:Int)]).map .int by rw[aN];rfl,b4I]
    walk_at "ev";rw[lR];walk_at "ev";rw[a9b (k:=key (nx b a)) (kvs:=kvB key iDl V) sD (by walk_at "ev") (by rfl) (K.ok _) (by rw[b7r];lia),b2g K c,<-H9 (W:=V) (c:=(nx b a,q++[(a:Int)])) c];walk_at "ev";rw[AD];unfold kLs;rw[aN];rfl)
 exact⟨x',y',g1⟩
def b7x[DecidableEq β](K:KeyB false key)(hk:k<=5)(h0:P s)(hP:∀b a,P b->a<k->P (nx b a))(hg:∀b,P b->gm [key b]=xn (.list ((aA k).map λ(a:Nat)=>key (nx b a))))
  (hB:∀l:List β,l.Nodup->(∀b∈l,P b)->l.length<=B) (Fz:B<=900):∃W:O5 β,O0 gm [key s]=xn (.dict (kvB key iDl W))/\AllB nx k s P W:=by
 have len:∀{dn W:O5 β},MetB nx k s P dn W->W.length<=B:=λ{dn W} h=>by
  have:=hB _ h.nodup λb hb=>by
   obtain⟨e,he,rfl⟩:=aG.mp hb;exact h.ok e he
  rwa[ai]at this
 unfold O0;rw[c1W (by simp[VS.argsOk,K.im])];unfold a2v;have CY:=K.ok s;walk_at "ev";rw[c3i (k:=key s) (d:=.list []) (by walk_at "ev") (by walk_at "ev") CY];walk_at "ev";refine a1d (R:=λr=>∃W:O5 β,r=xn (.dict (kvB key iDl W))/\AllB nx k s P W) (λZ=>∃W x y z u v,Z=[key s,.none,.dict (kvB key iDl W),x,y,z,u,v]/\AllB nx k s P W) ?_ ?_
 ·rw[c0f];obtain⟨Z',g1,W,x,y,z,u,v,rfl,hA⟩:=a2Q (c:=(tV (a6 3))) (g:=(f8 (i9 4 (x4 b9)) (f8 (C0 (iI (iL (a6 3))) (t8 5) (C0 (iI (iEn (eCl gm (a7 (a6 5) b9)))) (a1z 6 7) (sIf (tB (e2 (dIn true false) (a6 7) (a6 2))) (f8 (C1 2 false (a6 7) (eI (J6 (e2 (a5L false) (a6 2) (a6 5)) (x4 (a7 (a6 6) b9))))) (M8 4 (.l .i) y8 (a6 7))) E1))) (i9 3 (a6 4)))))
   (I:=λj Z=>∃(dn nw W:O5 β) (y z u v:D),W=dn++nw/\MetB nx k s P dn W/\j<=dn.length/\Z=[key s,.none,.dict (kvB key iDl W),kLs key (nw.map (·.1)),y,z,u,v])
   (Q:=λZ=>∃W x y z u v,Z=[key s,.none,.dict (kvB key iDl W),x,y,z,u,v]/\AllB nx k s P W) 900 (by
    rintro j Z ⟨dn,nw,W,y,z,u,v,hW,hM,hj,rfl⟩;have Fw:=len hM;have DE:dn.length<=W.length:=by rw[hW,az];lia
    refine⟨by lia,?_⟩;cases nw with
    |nil=>
     rw[bg]at hW;rw[<-hW]at hM;exact .inl ⟨by walk_at "ev";rfl,W,_,_,_,_,_,rfl,hM.all⟩
    |cons e0 nw=>
     refine .inr ⟨by walk_at "ev";rfl,?_⟩;obtain⟨Z',g1,V,z',u',v',rfl,hV,uk⟩:=t7 (enc:=λ(e:β×List Int)=>key e.1) (set:=t8 5) (xs:=e0::nw) (g:=(C0 (iI (iEn (eCl gm (a7 (a6 5) b9)))) (a1z 6 7) (sIf (tB (e2 (dIn true false) (a6 7) (a6 2))) (f8 (C1 2 false (a6 7) (eI (J6 (e2 (a5L false) (a6 2) (a6 5)) (x4 (a7 (a6 6) b9))))) (M8 4 (.l .i) y8 (a6 7))) E1)))
      (Z:=[key s,.none,.dict (kvB key iDl W),kLs key ((e0::nw).map (·.1)),.list [],z,u,v])
      (λpre Z=>∃(V:O5 β) (z u v:D),Z=[key s,.none,.dict (kvB key iDl V),kLs key ((e0::nw).map (·.1)),kLs key ((V.drop W.length).map (·.1)),z,u,v]/\(∃E,V=W++E)/\MetB nx k s P (dn++pre) V)
      ⟨W,z,u,v,by rw[iN];rfl,⟨[],by rw[bg]⟩,by rw[bg];exact hM⟩ (by
       rintro pre e post he Z ⟨V,z,u,v,rfl,⟨E,hE⟩,uk⟩;obtain⟨b,q⟩:=e;have Ao:(b,q)∈W:=by rw[hW,he];simp
       have Ap:(b,q)∈V:=by rw[hE];exact ak _ Ao
       have hs:P b:=hM.ok _ Ao;have Fx:=len uk;have tX:q.length<=1000:=by
        have ym:q.length<=V.length:=uk.qlen Ap;lia
       have qo:MetB nx k s P ((dn++pre)++[(b,q)]) (dd V (N7 nx k (b,q))):=uk.step hP (nw:=post++E) (by rw[hE,hW,he];simp);obtain⟨x',y',g⟩:=b5b K (gm:=gm) (nx:=nx) hk Ap uk.nodup (L:=W.length) (by rw[hE,az];lia) (by lia) tX (key s) (kLs key ((e0::nw).map (·.1))) u v;refine⟨_,_,rfl,?_,dd V (N7 nx k (b,q)),key b,x',y',rfl,?_,by rw[<-aS];exact qo⟩
       ·have Du:=hg b hs;walk_at "ev";rw[a1c (ds:=(aA k).map λ(a:Nat)=>dm [.int (a:Int),key (nx b a)]) (by rw[c0h (ds:=(aA k).map λ(a:Nat)=>key (nx b a)) (by walk_at "ev";exact Du),a1s]) (n6 _ (λj=>by simp only[imm,e7,K.im,eG]) _)];walk_at "ev";exact g
       ·obtain⟨E2,Ee⟩:=a3V V (N7 nx k (b,q));exact⟨E++E2,by rw[Ee,hE,aS]⟩)
     obtain⟨E,hE⟩:=hV;refine⟨[key s,.none,.dict (kvB key iDl V),kLs key (E.map (·.1)),kLs key ((V.drop W.length).map (·.1)),z',u',v'],?_,dn++(e0::nw),E,V,_,_,_,_,by rw[hE,hW],uk,?_,rfl⟩
     ·walk_at "ev";rw[a1c (ds:=(e0::nw).map λe=>key e.1) (by walk_at "ev";rw[bC];rfl) (n6 _ (λ_=>K.im _) _)];walk_at "ev";refine b4p (λZ=>Z=[key s,.none,.dict (kvB key iDl V),kLs key ((e0::nw).map (·.1)),kLs key ((V.drop W.length).map (·.1)),z',u',v']) ⟨_,g1,rfl⟩ ?_;rintro Z rfl;walk_at "ev";rw[hE,List.drop_left]
     ·rw[az,aV];lia) 1000000 0 [key s,.none,.dict [(key s,.list [])],.list [key s],.none,.none,.none,.none] ⟨[],WB s,WB s,_,_,_,_,rfl,c1V h0,ay _,rfl⟩ (by lia)
  exact⟨_,g1,W,x,y,z,u,v,rfl,hA⟩
 ·rintro Z ⟨W,x,y,z,u,v,rfl,hA⟩;walk_at "ev";exact⟨W,rfl,hA⟩
def a4a(z:α)(f:α->β)(l:List α):l.map f=(aA l.length).map λ(a:Nat)=>f (l.getD a z):=by
 refine iM (by simp) λi h1 h2=>?_
 have hi:i<l.length:=by simpa using h1
 simp[ag,ab hi]
def b5c:KeyB false (λi:Int=>aO i):=⟨λa b=>a2O,λ_=>dKey_i,λ_=>R9⟩
def AllMet.of(w:WF m k)(h:AllB (λs (a:Nat)=>(stp m s a).2) k 0 (λs=>0<=s/\s<(m.length:Int)) W):AllMet m k W:=⟨h.eq,h.sor,h.ok,h.ql⟩
def b0r(w:WF m k):∃W:V1,u5 [.list (m.map rwD)]=xn (.dict (kvD iDl W))/\AllMet m k W:=by
 have hle:=w.le;have wR:=w.k5;have pK:=w.pos;unfold u5;rw[z9 (by simp[VS.argsOk])];unfold U5;walk_at "ev";rw[c1X (ds:=[.int 0]) (by walk_at "ev")];obtain⟨W,h,hA⟩:=b7x (key:=λi:Int=>aO i) b5c (gm:=fnE [.i] ([0].map λj=>([.list (m.map rwD)]:List D).getD j .none) ((r9 (iI (iL (e2 dIx (a6 1) (a6 0)))) [] pt1 tT (e2 u9 (a6 0) (eC (.int 1)))))) (nx:=λs (a:Nat)=>(stp m s a).2) (k:=k) (by lia) (s:=0) (P:=λs=>0<=s/\s<(m.length:Int)) ⟨wu _,by lia⟩
  (λb a hb ha=>w.nx hb.1 hb.2 (a:=a) (by lia) (by lia))
  (λb hb=>by
   rw[c1Y (by simp[VS.argsOk,imm])];have yg:=w.row hb.1 hb.2;show ((r9 (iI (iL (e2 dIx (a6 1) (a6 0)))) [] pt1 tT (e2 u9 (a6 0) (eC (.int 1))))) [.int b,.list (m.map rwD)]=_;rw[O3 (enc:=stD) (xs:=rowAt m b) (λp=>aO p.2) (a1c (by walk_at "ev";rw[a2I hb.1 hb.2];rfl) (n6 _ (λ_=>a3I) _)) (by lia) (λp _=>⟨[stD p],rfl,by unfold stD;walk_at "ev"⟩),<-yg,a4a (0,0) (λp:Int×Int=>aO p.2) (rowAt m b)];rfl) (B:=m.length) (λl hn hl=>nodup_range hn hl) (by lia)
 refine⟨W,?_,AllMet.of w hA⟩;rw[h];rfl
def a9h(w:WF m k):∃W:V1,Z4 [.list (m.map rwD)]=xn (iD (W.map (·.1)))/\AllMet m k W:=by
 obtain⟨W,h,hA⟩:=b0r w;refine⟨W,?_,hA⟩;unfold Z4;rw[z9 (by simp[VS.argsOk])];unfold a4Z;walk_at "ev";rw[b7p (W:=W) (enc:=iDl) (by walk_at "ev";exact h)];walk_at "ev"
def at_list{ds:List D}{i:Int}{d:D}(h0:0<=i)(h:ds[i.toNat]?=xn d):L2.atI ds i=xn d:=by
 have hl:=(aL.mp h).1;unfold L2.atI;rw[b4s h0 (by lia)];exact h
def b2i{ns:List D}(g:Int->Int)(hn:∀p∈r,0<=p.2/\ns[p.2.toNat]?=xn (.int (g p.2)))(hl:r.length<=1000):j7 [rwD r,.list ns]=xn (rwD (r.map λp=>(p.1,g p.2))):=by
 unfold j7;rw[z9 (by simp[VS.argsOk])];unfold T0;rw[a9I,a5X (ds:=r.map stD) (λd=>match d with|.tuple [.int a,.int b]=>stD (a,g b)|_=>.none)]
 ·rw[bC];show xn (bD (r.map _))=_;unfold rwD;rw[bC];rfl
 ·exact a1c (by unfold rwD;walk_at "ev") (n6 _ (λ_=>a3I) r)
 ·rw[ai];lia
 ·intro d hd;obtain⟨p,hp,rfl⟩:=aG.mp hd;have:=hn p hp;refine⟨[.int p.1,.int p.2],rfl,?_⟩;show V7 _ [.int p.1,.int p.2,.list ns]=xn (stD (p.1,g p.2));walk_at "ev";rw[at_list this.1 this.2];walk_at "ev";rfl
abbrev cN(m:i6)(N:Nat):Int->Int:=λs=>(lvl m N).getD s.toNat 0
def b2j{m:i6}(hr:∀s∈r,0<=s/\s<(m.length:Int))(hl:r.length<=1000):x8 [iD r,iD (lvl m N)]=xn (iD (fs (cN m N) r)):=by
 have CS:=T5 m N;unfold x8;rw[z9 (by simp[VS.argsOk])];unfold N4;walk_at "ev";rw[a1c (ds:=r.map aO) (by walk_at "ev") (n6 _ (λ_=>R9) _)];walk_at "ev";refine E5 (λZ=>∃x,Z=[iD r,iD (lvl m N),.dict (kvD aO (fc (cN m N) r)),x]) ?_ ?_
 ·obtain⟨Z',g1,x,rfl⟩:=t7 (enc:=aO) (set:=t8 3) (xs:=r) (g:=(b3y (U3 2 false (e2 u9 (a6 1) (a6 3)) (a6 3)))) (Z:=[iD r,iD (lvl m N),.dict [],.none])
   (λpre Z=>∃x,Z=[iD r,iD (lvl m N),.dict (kvD aO (dd [] (pre.map λs=>(cN m N s,s)))),x]) ⟨_,rfl⟩ (by
    rintro pre s post e Z ⟨x,rfl⟩;have hs:=hr s (by rw[e];simp);have hlen:=a8Y (W:=[]) (pre.map λs=>(cN m N s,s));have gE:pre.length<=1000:=by have:=dB dY e;simp at this;lia
    rw[ai,gO]at hlen;refine⟨_,[iD r,iD (lvl m N),.dict (kvD aO (dd [] ((pre++[s]).map λs=>(cN m N s,s)))),.int s],rfl,?_,_,rfl⟩;rw[c1U (k:=.int (cN m N s)) (e:=.int s) (kvs:=kvD aO (dd [] (pre.map λs=>(cN m N s,s)))) (by walk_at "ev";rw[Q4 hs.1 (by lia)];walk_at "ev") (by walk_at "ev") (by rfl) dKey_i (by rw[b0m];lia) rfl,b7n (enc:=aO),aN,cx,O4];rfl)
  exact⟨_,g1,x,rfl⟩
 ·rintro Z ⟨x,rfl⟩;walk_at "ev";rw[b7q (W:=fc (cN m N) r) (by walk_at "ev")];walk_at "ev";rfl
def plc(c:Int->Int)(F:List Int)(j:Nat):List (Int×Int):=(aA j).map λ(i:Nat)=>(c (F.getD i 0),(i:Int))
def b5d(c:Int->Int)(F:List Int)(j:Nat):plc c F (j+1)=plc c F j++[(c (F.getD j 0),(j:Int))]:=by
 unfold plc;rw[jg,aN];rfl
def T9{l:List Int}(h:l[i]?=xn x):l.getD i 0=x:=by rw[ag,h];rfl
def b5e:(plc c (fs c r) (fs c r).length).map (·.1)=cl c r:=by
 rw[c0k];unfold plc;rw[bC];refine iM (by simp) λi h1 h2=>?_
 have hi:i<(fs c r).length:=by simpa using h1
 simp only[de,jM,Function.comp];rw[ag,ab hi];rfl
def b5f(w:WF m k):∃(N:Nat) (W:V1),AllMet m k W/\(∀s t:Int,0<=s->s<m.length->0<=t->t<m.length->lv m N s=lv m N t->lv m (N+1) s=lv m (N+1) t)/\
  T1 [.list (m.map rwD)]=xn (.list ((n8 m (cN m N) (W.map (·.1))).map rwD)):=by
 have hle:=w.le;have wR:=w.k5;obtain⟨N,h1,_,_,hN⟩:=a1W w;obtain⟨W,h2,hA⟩:=a9h w;refine⟨N,W,hA,hN,?_⟩;have R:=hA.rch;have h3:=b2j (m:=m) (N:=N) R.range (by have:=R.len;lia);have CS:=T5 m N;generalize W.map (·.1)=r at h2 R h3;have yg:=R.len;have hfl:=a9e (c:=cN m N) (r:=r);unfold T1;rw[z9 (by simp[VS.argsOk])];unfold a9X;walk_at "ev";rw[h1];walk_at "ev";rw[a6m (f:=λd=>iD (lvl m d))];walk_at "ev";rw[h2];walk_at "ev";rw[h3];walk_at "ev";rw[a1c (ds:=(aA (fs (cN m N) r).length).map λ(s:Nat)=>dm [.int ((0+s:Nat):Int),.int ((fs (cN m N) r).getD s 0)]) (by rw[c0h (ds:=(fs (cN m N) r).map .int) (by rfl),a2B]) (n6 _ (λs=>by simp only[imm,e7,eG]) _)];walk_at "ev";have ug:=X5 (c:=cN m N) (r:=r);refine E5 (λZ=>∃x y,Z=[.list (m.map rwD),iD (lvl m N),iD (fs (cN m N) r),.dict (kvD aO (plc (cN m N) (fs (cN m N) r) (fs (cN m N) r).length)),x,y,.none]) ?_ ?_
 ·obtain⟨Z',g1,x,y,rfl⟩:=t7 (enc:=λ(s:Nat)=>dm [.int ((0+s:Nat):Int),.int ((fs (cN m N) r).getD s 0)]) (set:=a1z 4 5) (xs:=aA (fs (cN m N) r).length) (g:=(C1 3 false (e2 u9 (a6 1) (a6 5)) (a6 4)))
   (Z:=[.list (m.map rwD),iD (lvl m N),iD (fs (cN m N) r),.dict [],.none,.none,.none])
   (λpre Z=>∃x y,Z=[.list (m.map rwD),iD (lvl m N),iD (fs (cN m N) r),.dict (kvD aO (plc (cN m N) (fs (cN m N) r) pre.length)),x,y,.none]) ⟨_,_,rfl⟩ (by
    rintro pre j post e Z ⟨x,y,rfl⟩;obtain⟨ej,hj,_⟩:=X2 e;obtain⟨f,f1,f2,f3⟩:=a1r (c:=cN m N) (r:=r) j hj;have nH:=R.range f f2;have wX:=T9 f1;refine⟨_,[.list (m.map rwD),iD (lvl m N),iD (fs (cN m N) r),.dict (kvD aO (plc (cN m N) (fs (cN m N) r) (pre++[j]).length)),.int ((0+j:Nat):Int),.int ((fs (cN m N) r).getD j 0),.none],rfl,?_,_,_,rfl⟩;have yw:cN m N f∉(plc (cN m N) (fs (cN m N) r) pre.length).map (·.1):=by
     intro lR;obtain⟨q,hq,e2⟩:=aG.mp lR;obtain⟨i,hi,rfl⟩:=aG.mp hq;have lH:=bI.mp hi;obtain⟨f',Ek,_,AZ⟩:=a1r (c:=cN m N) (r:=r) i (by lia);rw[T9 Ek]at e2;have e3:cN m N f'=cN m N f:=e2;rw[e3]at AZ;have:i=j:=(ij (by rw[a1Y];lia) ug).mp (AZ.trans f3.symm);lia
    rw[a9b (k:=.int (cN m N f)) (d:=.int ((0+j:Nat):Int)) (kvs:=kvD aO (plc (cN m N) (fs (cN m N) r) pre.length)) (by walk_at "ev") (by walk_at "ev";rw[wX,Q4 nH.1 (by lia)];walk_at "ev") (by rfl) dKey_i (by rw[b0m];unfold plc;rw[ai,bz];lia),b4O (enc:=aO) (x:=((0+j:Nat):Int)) yw,az,bW,b5d,<-ej,wX,ig];rfl)
  rw[bz]at g1;exact⟨_,g1,x,y,rfl⟩
 ·rintro Z ⟨x,y,rfl⟩;walk_at "ev";have Ar:=b5e (c:=cN m N) (r:=r);have sI:(r9 (iI (iL (a6 1))) [3] pt1 tT (e2 (a3o false) (a6 1) (a6 0))) [.list (m.map rwD),iD (lvl m N),iD (fs (cN m N) r),.dict (kvD aO (plc (cN m N) (fs (cN m N) r) (fs (cN m N) r).length)),x,y,.none]=xn (.list ((lvl m N).map λz=>if z∈cl (cN m N) r then .int ((cl (cN m N) r).idxOf z:Nat) else .none)):=by
   refine O3 (enc:=aO) (xs:=lvl m N) (λz=>if z∈cl (cN m N) r then .int ((cl (cN m N) r).idxOf z:Nat) else .none) (a1c (by walk_at "ev") (n6 _ (λ_=>R9) _)) (by lia) λz hz=>⟨[.int z],rfl,?_⟩
   show e2 (a3o false) (a6 1) (a6 0) [.int z,.dict (kvD aO (plc (cN m N) (fs (cN m N) r) (fs (cN m N) r).length))]=_;walk_at "ev";by_cases hc:z∈cl (cN m N) r
   ·rw[aB hc];have hi:=bZ.mpr hc;have lH:(cl (cN m N) r).idxOf z<(fs (cN m N) r).length:=by rw[<-a1Y];exact hi
    obtain⟨f,f1,_,f3⟩:=a1r (c:=cN m N) (r:=r) _ lH;refine b7o (enc:=aO) (x:=((cl (cN m N) r).idxOf z:Nat)) (by rw[Ar];exact ug) (aG.mpr ⟨(cl (cN m N) r).idxOf z,bI.mpr lH,?_⟩);rw[T9 f1];have h5:=ab hi;rw[dW hi,f3]at h5;rw[aF h5]
   ·rw[aJ hc];exact a9a (by rw[Ar];exact hc)
  rw[sI];walk_at "ev";have yM:(r9 (iI (iL (a6 2))) [0,6] pt1 tT (eCl j7 (a7 (e2 dIx (a6 1) (a6 0)) (a7 (a6 2) b9)))) [.list (m.map rwD),iD (lvl m N),iD (fs (cN m N) r),.dict (kvD aO (plc (cN m N) (fs (cN m N) r) (fs (cN m N) r).length)),x,y,.list ((lvl m N).map λz=>if z∈cl (cN m N) r then .int ((cl (cN m N) r).idxOf z:Nat) else .none)]=xn (.list ((fs (cN m N) r).map λf=>rwD ((rowAt m f).map λp=>(p.1,(pls (cN m N) r p.2:Int))))):=by
   refine O3 (Z:=[.list (m.map rwD),iD (lvl m N),iD (fs (cN m N) r),.dict (kvD aO (plc (cN m N) (fs (cN m N) r) (fs (cN m N) r).length)),x,y,.list ((lvl m N).map λz=>if z∈cl (cN m N) r then aO ((cl (cN m N) r).idxOf z:Nat) else .none)]) (fi:=iI (iL (a6 2))) (js:=[0,6]) (pt:=pt1) (g:=(eCl j7 (a7 (e2 dIx (a6 1) (a6 0)) (a7 (a6 2) b9)))) (enc:=aO) (xs:=fs (cN m N) r) (λf=>rwD ((rowAt m f).map λp=>(p.1,(pls (cN m N) r p.2:Int)))) (a1c (by walk_at "ev") (n6 _ (λ_=>R9) _)) (by lia) λf hf=>⟨[.int f],rfl,?_⟩
   have nH:f∈r:=by
    obtain⟨e,he,rfl⟩:=aG.mp hf;exact (a0F he).1
   have qx:=R.range f nH;show eCl j7 _ [.int f,.list (m.map rwD),.list ((lvl m N).map λz=>if z∈cl (cN m N) r then aO ((cl (cN m N) r).idxOf z:Nat) else .none)]=_;walk_at "ev";rw[a2I qx.1 qx.2];walk_at "ev";refine b2i (λs=>(pls (cN m N) r s:Int)) (λp hp=>?_) (by rw[w.row qx.1 qx.2];lia);obtain⟨j,hj⟩:=cS.mp hp;have qP:=(aL.mp hj).1;rw[w.row qx.1 qx.2]at qP;have hs:stp m f (j:Nat)=p:=by
    unfold stp;rw[bK,ag,hj];rfl
   have h6:=R.next nH (a:=(j:Nat)) (by lia) (by lia);rw[hs]at h6;have h7:=R.range _ h6;refine⟨h7.1,?_⟩;rw[aR,ab (by lia)];have h8:(lvl m N)[p.2.toNat]'(by lia)=cN m N p.2:=by
    show _=(lvl m N).getD p.2.toNat 0;rw[ag,ab (by lia)];rfl
   show xn (if (lvl m N)[p.2.toNat]'(by lia)∈cl (cN m N) r then aO ((cl (cN m N) r).idxOf ((lvl m N)[p.2.toNat]'(by lia)):Nat) else .none)=_;rw[h8,aB (a1X h6)];rfl
  rw[yM];walk_at "ev";unfold n8;rw[bC];rfl
end Prog
namespace VS
open PySem L2
def nxs(L:i6)(k:Nat)(i:Nat):List Int:=(aA k).map λ(a:Nat)=>(stp L (i:Nat) a).2
def ofR(c:Nat):List Int:=(aA c).map λ(i:Nat)=>(i:Int)
def Sim(k:Nat)(L M:i6)(i j:Int):Prop:=∀p:List Int,(∀a∈p,0<=a/\a<(k:Int))->(c6 L i p).1=(c6 M j p).1
structure Can (L:i6) (k:Nat):Prop where
 wf:WF L k
 all:dkk [0] ((aA L.length).flatMap (nxs L k))=ofR L.length
 lead:∀j,j<L.length->j<(dkk [0] ((aA j).flatMap (nxs L k))).length
 apart:∀i j:Nat,i<L.length->j<L.length->Sim k L L i j->i=j
theorem Sim.symm{k:Nat}{L M:i6}{i j:Int}(h:Sim k L M i j):Sim k M L j i:=λp hp=>(h p hp).symm
theorem Sim.trans(h:Sim k L M i j)(h':Sim k M N j l):Sim k L N i l:=λp hp=>(h p hp).trans (h' p hp)
def Sim.step{k:Nat}{L M:i6}{i j:Int}(h:Sim k L M i j){a:Int}(h0:0<=a)(h1:a<k):(stp L i a).1=(stp M j a).1/\Sim k L M (stp L i a).2 (stp M j a).2:=by
 constructor
 ·have:=h [a] (λb hb=>by rw[ao.mp hb];exact⟨h0,h1⟩);simpa[c6]using this
 ·intro p hp;have:=h (a::p) (λb hb=>by
   rcases aH.mp hb with z|z
   ·rw[z];exact⟨h0,h1⟩
   ·exact hp b z)
  simp only[c6]at this;exact (rq this).2
def b7y:x∈ofR c↔0<=x/\x<(c:Int):=by
 unfold ofR;rw[aG]
 constructor
 ·rintro⟨i,hi,rfl⟩;have:=bI.mp hi;lia
 ·rintro⟨h0,h1⟩;exact⟨x.toNat,bI.mpr (by lia),by lia⟩
def b0s(c:Nat):(ofR c).length=c:=by unfold ofR;simp
def b5g(c j:Nat)(h:j<=c):(ofR c).take j=ofR j:=by
 unfold ofR;rw[<-List.map_take,oY,jf h]
def b7z(h:j<c):(ofR c)[j]?=xn (j:Int):=by
 unfold ofR;rw[aR,eR h];rfl
def Can.pre(C:Can L k)(h:(aA L.length).flatMap (nxs L k)=Zq++Y):dkk [0] Zq=ofR (dkk [0] Zq).length:=by
 have h1:=C.all;rw[h,T8]at h1;obtain⟨E,e⟩:=a2R (dkk [0] Zq) Y;rw[e]at h1;have h2:=dB dY h1;rw[az,b0s]at h2;have h3:=dB (List.take (dkk [0] Zq).length) h1;rw[List.take_left,b5g _ _ (by lia)]at h3;exact h3
def b2k(h:j<n):aA n=aA j++j::(aA (n-j-1)).map (λi=>j+1+i):=by
 have:n=j+(1+(n-j-1)):=by lia
 conv=>lhs;rw[this]
 rw[List.range_add,List.range_add,aN]
 congr 1;show _=[j]++_
 congr 1;rw[bC];refine bG λi _=>?_
 show j+(1+i)=j+1+i;lia
def b5h(K:List Int):∀(L:List Int),(∀x∈K++L,∀y∈K++L,f x=f y->x=y)->dkk (K.map f) (L.map f)=(dkk K L).map f:=by
 intro L
 induction L using snoc_ind with
 |h0=>intro _;rfl
 |h1 L x ih=>
  intro h;have ih:=ih λa ha b hb=>h a (by rw[<-aS];exact ak _ ha) b (by rw[<-aS];exact ak _ hb)
  rw[aN,cx,C5,C5,ih];by_cases c:x∈dkk K L
  ·rw[T6 c,T6 (cH c)]
  ·have hn:f x∉(dkk K L).map f:=λhm=>by
    obtain⟨y,hy,e⟩:=aG.mp hm;have Cb:y∈K++(L++[x]):=by
     rcases (L1 K L).mp hy with z|z
     ·exact ak _ z
     ·exact ah _ (ak _ z)
    have:=h y Cb x (by simp) e;exact c (this▸hy)
   rw[T7 c,T7 hn,aN];rfl
section
variable {m:i6}{k:Nat}{c:Int->Int}{r:List Int}
def b2l(w:WF m k)(i_:∀s:Int,0<=s->s<m.length->(rowAt m s).length=k)(R:Rch m k r){i:Nat}{f:Int}(h:(fs c r)[i]?=xn f)(hf:f∈r):nxs (n8 m c r) k i=(csu m k c f).map λx=>((cl c r).idxOf x:Int):=by
 unfold nxs csu;rw[bC];refine bG λa ha=>?_
 have hr:=R.range f hf;have:=bI.mp ha;rw[a3Y w i_ h hr.1 hr.2 (by lia) (by lia)];rfl
theorem a4b(w:WF m k)(i_:∀s:Int,0<=s->s<m.length->(rowAt m s).length=k)(R:Rch m k r):∀j,j<=(fs c r).length->(aA j).flatMap (nxs (n8 m c r) k)=(((fs c r).take j).flatMap (csu m k c)).map λx=>((cl c r).idxOf x:Int)
 |0,_=>by simp
 |j+1,h=>by
  obtain⟨f,f1,f2,f3⟩:=a1r (c:=c) (r:=r) j (by lia);rw[jg,eA,a4b w i_ R j (by lia),Bq,f1,eA,aN]
  congr 1;show [j].flatMap _=([f].flatMap _).map _;rw[fG,iK,bg,fG,iK,bg,b2l w i_ R f1 f2]
def b2m(w:WF m k)(i_:∀s:Int,0<=s->s<m.length->(rowAt m s).length=k)(C:a6n m k c)(R:Rch m k r)(qR:∀i j:Nat,i<(n8 m c r).length->j<(n8 m c r).length->Sim k (n8 m c r) (n8 m c r) i j->i=j):Can (n8 m c r) k:=by
 have hL:(n8 m c r).length=(fs c r).length:=G8;have hz:=a7F (c:=c) R;have rD:([0]:List Int)=[c 0].map λx=>((cl c r).idxOf x:Int):=by
  show [(0:Int)]=[((pls c r 0:Nat):Int)];rw[hz];rfl
 have iQ:∀j,∀x∈[c 0]++((fs c r).take j).flatMap (csu m k c),x∈cl c r:=λj x hx=>by
  rw[a6o C R];refine (L1 _ _).mpr ?_;rcases aq.mp hx with z|z
  ·exact .inl z
  ·obtain⟨f,hf,hx⟩:=cD.mp z;exact .inr (cD.mpr ⟨f,List.mem_of_mem_take hf,hx⟩)
 have hd:∀j,j<=(fs c r).length->dkk [0] ((aA j).flatMap (nxs (n8 m c r) k))=(dkk [c 0] (((fs c r).take j).flatMap (csu m k c))).map λx=>((cl c r).idxOf x:Int):=λj hj=>by
  rw[a4b w i_ R j hj,rD];exact b5h _ _ λx hx y hy e=>b4Y (iQ j x hx) (iQ j y hy) (by lia)
 refine⟨a1Z w R,?_,λj hj=>?_,qR⟩
 ·rw[hL,hd _ (ay _),nZ,<-a6o C R];refine iM (by rw[ai,b0s,a1Y]) λi i1 i2=>?_
  have hi:i<(cl c r).length:=by simpa using i1
  rw[de];have h2:=b7z (c:=(fs c r).length) (j:=i) (by rw[<-a1Y];exact hi);rw[ab i2]at h2;rw[aF h2];have hj:(cl c r).idxOf (cl c r)[i]<(cl c r).length:=bZ.mpr (dA hi);have h3:(cl c r)[(cl c r).idxOf (cl c r)[i]]?=(cl c r)[i]?:=by rw[ab hj,dW hj,ab hi]
  have:=(ij hj X5).mp h3;lia
 ·rw[hL]at hj;rw[hd j (by lia),ai];exact b7w C R hj
end
end VS
namespace Prog
open PySem L2 VS
local macro_rules | `(tactic| walk_at "evc")=>`(tactic| first | (walk_at "ev";repeat (simp -implicitDefEqProofs (disch:=first | omega | assumption | decide) only [Prog.cell_eq];try walk_at "ev")) | (simp -implicitDefEqProofs (disch:=first | omega | assumption | decide) only [Prog.cell_eq];repeat (first | walk_at "ev" | simp -implicitDefEqProofs (disch:=first | omega | assumption | decide) only [Prog.cell_eq])))
def b7A(w:WF m k)(hN:∀s t:Int,0<=s->s<m.length->0<=t->t<m.length->lv m N s=lv m N t->lv m (N+1) s=lv m (N+1) t):a6n m k (cN m N):=by
 intro s t s0 s1 t0 t1 e a a0 a1;have h:=(v6 w s0 s1 t0 t1).mp (hN s t s0 s1 t0 t1 e);exact h a a0 a1
theorem b5i{L:i6}{k:Nat}(w:WF L k):∀(d:Nat) {i j:Int},0<=i->i<L.length->0<=j->j<L.length->Sim k L L i j->lv L d i=lv L d j
 |0,i,j,_,_,_,_,_=>by rw[o9,o9]
 |d+1,i,j,i0,i1,j0,j1,h=>by
  refine (v6 w i0 i1 j0 j1).mpr λa a0 a1=>?_
  obtain⟨h1,h2⟩:=h.step a0 a1;have n1:=w.nx i0 i1 a0 a1;have n2:=w.nx j0 j1 a0 a1;exact⟨h1,b5i w d n1.1 n1.2 n2.1 n2.2 h2⟩
theorem a2D{m:i6}{k:Nat}(w:WF m k){c:Int->Int}{r:List Int}(C:a6n m k c)(R:Rch m k r):∀(d:Nat) {s t:Int},s∈r->t∈r->lv (n8 m c r) d (pls c r s:Int)=lv (n8 m c r) d (pls c r t:Int)->lv m d s=lv m d t
 |0,s,t,_,_,_=>by rw[o9,o9]
 |d+1,s,t,hs,ht,h=>by
  have wL:=a1Z (c:=c) w R;have i_:∀s:Int,0<=s->s<m.length->(rowAt m s).length=k:=λs h0 h1=>w.row h0 h1
  have s1:=R.range s hs;have t1:=R.range t ht;have p1:=a3X (c:=c) hs;have p2:=a3X (c:=c) ht;rw[<-G8 (m:=m)]at p1 p2;refine (v6 w s1.1 s1.2 t1.1 t1.2).mpr λa a0 a1=>?_
  obtain⟨h1,h2⟩:=(v6 wL (by lia) (by lia) (by lia) (by lia)).mp h a a0 a1;rw[X6 w i_ C R hs a0 a1,X6 w i_ C R ht a0 a1]at h1 h2;exact⟨h1,a2D w C R d (R.next hs a0 a1) (R.next ht a0 a1) h2⟩
def b2n(w:WF m k):∃L:i6,T1 [.list (m.map rwD)]=xn (.list (L.map rwD))/\Can L k/\Sim k L m 0 0/\L.length<=m.length:=by
 obtain⟨N,W,hA,hN,yB⟩:=b5f w;have R:=hA.rch;have hC:=b7A w hN;have wL:=a1Z (c:=cN m N) w R;have i_:∀s:Int,0<=s->s<m.length->(rowAt m s).length=k:=λs h0 h1=>w.row h0 h1
 have hlen:(n8 m (cN m N) (W.map (·.1))).length=(fs (cN m N) (W.map (·.1))).length:=G8;refine⟨_,yB,b2m w i_ hC R λi j hi hj hs=>?_,λp hp=>?_,?_⟩
 ·obtain⟨f,f1,f2,f3⟩:=a1r (c:=cN m N) (r:=W.map (·.1)) i (by lia);obtain⟨g,g1,g2,g3⟩:=a1r (c:=cN m N) (r:=W.map (·.1)) j (by lia);have e2:lv (n8 m (cN m N) (W.map (·.1))) N (pls (cN m N) (W.map (·.1)) f:Int)=lv (n8 m (cN m N) (W.map (·.1))) N (pls (cN m N) (W.map (·.1)) g:Int):=by
   rw[b5a f1,b5a g1];exact b5i wL N (by lia) (by lia) (by lia) (by lia) hs
  have e4:cN m N f=cN m N g:=a2D w hC R N f2 g2 e2;rw[e4]at f3;exact (ij (by rw[a1Y];lia) X5).mp (f3.trans g3.symm)
 ·have:=a2C w i_ hC R p R.zero hp;rw[a7F R,show ((0:Nat):Int)=0 from rfl]at this;rw[this]
 ·rw[hlen];have h1:(fs (cN m N) (W.map (·.1))).length<=(W.map (·.1)).length:=a9e;have h2:=R.len;lia
end Prog
namespace VS
open PySem L2
def wyD(W:V1)(s:Nat):D:=(p9 (kvD (λns:List Int=>bD (ns.map .int)) W) (.int s)).getD .none
def a6p{W:V1}(hn:(W.map (·.1)).Nodup){s:Nat}{p:List Int}(h:((s:Int),p)∈W):wyD W s=.list (p.map .int):=by
 unfold wyD;rw[b0o hn h];rfl
def a0a(W:V1)(n:Nat):List D:=(aA n).map (wyD W)
def b7B{W:V1}{n:Nat}{s:Int}(h0:0<=s)(h1:s<n):L2.atI (a0a W n) s=xn (wyD W s.toNat):=by
 unfold L2.atI a0a;rw[ai,bz,b4s h0 h1];show ((aA n).map (wyD W))[s.toNat]?=_;rw[aR,eR (by lia)];rfl
def b5j:(a0a W n).length=n:=by unfold a0a;simp
end VS
namespace Prog
open PySem L2 VS
def b5k(w:WF m k)(h:u5 [.list (m.map rwD)]=xn (.dict (kvD iDl W))):T2 [.list (m.map rwD)]=xn (.list (a0a W m.length)):=by
 have hle:=w.le;unfold T2;rw[z9 (by simp[VS.argsOk])];unfold b4u;walk_at "ev";rw[h];walk_at "ev";have hd:a5S 1 (eCl s9 (a7 (a6 0) b9)) [.list (m.map rwD),.dict (kvD iDl W)]=xn (.list (a0a W m.length)):=by
  unfold a5S;have h1:eCl s9 (a7 (a6 0) b9) [.list (m.map rwD),.dict (kvD iDl W)]=xn (.int m.length):=by walk_at "ev"
  rw[h1];show (if 0<=(m.length:Int)/\(m.length:Int)<=1000000 then xn (bD ((l0 0 (m.length:Int).toNat).map λk=>(p9 (kvD iDl W) k).getD .none)) else xI)=_;rw[aB ⟨by lia,by lia⟩,bK,a4Y,bC];rfl
 rw[hd];walk_at "ev"
def b7C(w:WF m k):∃W:V1,AllMet m k W/\T2 [.list (m.map rwD)]=xn (.list (a0a W m.length)):=by
 obtain⟨W,h,hA⟩:=b0r w;exact⟨W,hA,b5k w h⟩
abbrev GA:=List (List Int×List Int)
def A8(a:List Int):D:=.tuple (a.map .int)
def a1t(a b:List Int):aI (A8 a) (A8 b)=decide (a=b):=by
 unfold A8;simp only[aI];exact a1e a b
theorem a2E:∀a:List Int,o7 (a.map aO)=true
 |[]=>by simp only[cW,o7]
 |n::a=>by simp only[ax,o7,B6,a2E a,eG]
def a9i(a:List Int):(A8 a).depth<=7:=by
 unfold A8;simp only[fB];have:=Z0 aO 0 (λ_=>by rw[a1O];exact ay _) a;lia
def b2o(a:List Int):B6 (A8 a)=true:=by
 unfold A8;simp only[B6];exact a2E a
def a2a(a:List Int):o8 true (A8 a)=true:=by
 unfold o8;rw[b2o,aQ (a9i a)];rfl
def dKey_i(e:Int):o8 false (.int e)=true:=by
 unfold o8;rw[show B6 (.int e)=true by simp only[B6],show (aO e).depth=0 from a1O];rfl
structure DdOk (f:Int->List Int×Int) (ss:List Int) (dd:GA):Prop where
 nd:(dd.map (·.1)).Nodup
 keys:∀a,a∈dd.map (·.1)↔∃s∈ss,(f s).1=a
 mem:∀q∈dd,∀e,e∈q.2↔∃s∈ss,f s=(q.1,e)
 nd2:∀q∈dd,q.2.Nodup
 len:dd.length<=ss.length
 b9H:∀q∈dd,q.2.length<=ss.length
theorem a4c:∀as:List (List Int),a9Q true (as.map A8)=xn as
 |[]=>rfl
 |a::as=>by
  have h:intsOf (a.map aO)=xn a:=by
   induction a with
   |nil=>rfl
   |cons n a ih=>rw[ax];show (intsOf (a.map aO)).map (n::·)=_;rw[ih];rfl
  rw[ax];show (intsOf (a.map aO)).bind _=_;rw[h,dG,a4c as];rfl
end Prog
namespace VS
open PySem L2
def c1Z{Z:List D}(hf:f Z=xn (.int n))(h:Z.getD i .none=.int k):b3B i f Z=xn (.nx (Z.set i (.int (k+n)))):=by
 unfold b3B;rw[hf,h];rfl
def mny(m:i6)(D:Nat)(s t:Int):Nat:=(aA (D+1)).countP λd=>decide (lv m d s=lv m d t)
def U8(m:i6)(D:Nat)(s t:Int):bj:=if mny m D s t=D+1 then .none else .list ((fu m (mny m D s t) s t).map .int)
def a4d{m:i6}{k:Nat}(w:WF m k)(D:Nat){s t:Int}(h0:0<=s)(h1:s<m.length)(h2:0<=t)(h3:t<m.length):1<=mny m D s t/\mny m D s t<=D+1/\(∀d<mny m D s t,lv m d s=lv m d t)/\∀d,mny m D s t<=d->d<=D->lv m d s≠lv m d t:=by
 obtain⟨c,e,c1,c2,c3⟩:=a3T (p:=λd=>decide (lv m d s=lv m d t)) (λd hd=>aQ (a2P w d h0 h1 h2 h3 (bx hd))) (D+1);have e':mny m D s t=c:=e;rw[e'];refine⟨?_,c1,λd hd=>bx (c2 d hd),λd hd jR=>jC (c3 d hd (by lia))⟩;rcases cI 0 c with z|z
 ·exact z
 ·have:=jC (c3 0 (by lia) (by lia));exact absurd (by rw[o9,o9]) this
end VS
namespace Prog
open PySem L2 VS
def a9j{r r':Ky}(hl:r.length=r'.length)(gM:r≠r')(h5:r.length<=1000):u6 [rwD r,rwD r']=xn (.int (fp r r':Nat)):=by
 unfold u6;rw[z9 (by simp[VS.argsOk])];unfold U6;walk_at "ev";rw[c0f];obtain⟨f1,f2,f3⟩:=a6i hl gM;obtain⟨Z',h1,rfl⟩:=a2Q (c:=tB (e2 dEq (e2 u9 (a6 0) (a6 2)) (e2 u9 (a6 1) (a6 2)))) (g:=b3B 2 (eC (.int 1)))
  (I:=λj Z=>Z=[rwD r,rwD r',.int (j:Nat)]/\j<=fp r r') (Q:=λZ=>Z=[rwD r,rwD r',.int (fp r r':Nat)]) 1000
  (by
   rintro j Z ⟨rfl,hj⟩;refine⟨by lia,?_⟩;have hc:tB (e2 dEq (e2 u9 (a6 0) (a6 2)) (e2 u9 (a6 1) (a6 2))) [rwD r,rwD r',.int (j:Nat)]=xn (decide (r.getD j (0,0)=r'.getD j (0,0))):=by
    walk_at "ev";rw[b1Z (by lia) (by lia),b1Z (by lia) (by lia)];walk_at "ev";rw[c0g];walk_at "ev";rw[bK]
   rw[hc];rcases cI j (fp r r') with z|z
   ·refine .inr ⟨by rw[aQ (f3 j z)],[rwD r,rwD r',.int ((j+1:Nat):Int)],?_,rfl,z⟩;rw[c1Z (n:=1) (k:=(j:Nat)) rfl rfl];rfl
   ·have e:j=fp r r':=by lia
    subst e;exact .inl ⟨by rw[ba f2],rfl⟩) 1000000 0 [rwD r,rwD r',.int 0] ⟨rfl,cE _⟩ (by lia)
 rw[h1];walk_at "ev"
theorem a2F(w:WF m k)(tN mn:D):∀(c:Nat) (s t:Int) (p:List Int) (x y:D),0<=s->s<m.length->0<=t->t<m.length->(c≠0->lv m c s≠lv m c t)->lv m (c-1) s=lv m (c-1) t->p.length+c<1000000->
  ∃s' t' x' y',U9 (t8 6) (f8 (i9 7 (eCl u6 (a7 (eCl j7 (a7 (e2 dIx (a6 0) (a6 2)) (a7 (a6 6) b9))) (a7 (eCl j7 (a7 (e2 dIx (a6 0) (a6 3)) (a7 (a6 6) b9))) b9)))) (f8 (M8 5 (.l .i) y8 (a6 7)) (f8 (i9 2 (e2 u9 (e2 u9 (e2 dIx (a6 0) (a6 2)) (a6 7)) (eC (.int 1)))) (i9 3 (e2 u9 (e2 u9 (e2 dIx (a6 0) (a6 3)) (a6 7)) (eC (.int 1)))))))
   ((aA c).map λd=>iD (lvl m d)).reverse [.list (m.map rwD),tN,.int s,.int t,mn,iD p,x,y]=xn (.nx [.list (m.map rwD),tN,.int s',.int t',mn,iD (p++fu m c s t),x',y'])
 |0,s,t,p,x,y,_,_,_,_,_,_,_=>by
  refine⟨s,t,x,y,?_⟩;show xn _=xn _;rw[show fu m 0 s t=[] from rfl,bg]
 |c+1,s,t,p,x,y,h0,h1,h2,h3,gM,heq,hlen=>by
  rw[jg,aN,List.reverse_append];have vf:=gM (by lia);obtain⟨⟨a0,a1⟩,f2,_⟩:=Z7 w h0 h1 h2 h3 vf;have n1:=w.nx h0 h1 a0 a1;have n2:=w.nx h2 h3 a0 a1;have l1:=w.row h0 h1;have l2:=w.row h2 h3;have wR:=w.k5;have CB:c≠0->lv m c (stp m s (fa m c s t)).2≠lv m c (stp m t (fa m c s t)).2:=λhc=>by
   obtain⟨c',rfl⟩:∃c',c=c'+1:=⟨c-1,by lia⟩;have:=(v6 w h0 h1 h2 h3).mp heq _ a0 a1;exact f2.resolve_left (λz=>z this.1)
  have CC:lv m (c-1) (stp m s (fa m c s t)).2=lv m (c-1) (stp m t (fa m c s t)).2:=by
   cases c with
   |zero=>rw[o9,o9]
   |succ c'=>exact ((v6 w h0 h1 h2 h3).mp heq _ a0 a1).2
  obtain⟨s',t',x',y',ih⟩:=a2F w tN mn c (stp m s (fa m c s t)).2 (stp m t (fa m c s t)).2 (p++[fa m c s t]) (iD (lvl m c)) (.int (fa m c s t)) n1.1 n1.2 n2.1 n2.2 CB CC (by rw[az];simp only[bW];lia);refine⟨s',t',x',y',?_⟩;show (t8 6 _ (iD (lvl m c))).bind _=_;show Option.bind (f8 _ _ [.list (m.map rwD),tN,.int s,.int t,mn,iD p,iD (lvl m c),y]) _=_;have hb:f8 (i9 7 (eCl u6 (a7 (eCl j7 (a7 (e2 dIx (a6 0) (a6 2)) (a7 (a6 6) b9))) (a7 (eCl j7 (a7 (e2 dIx (a6 0) (a6 3)) (a7 (a6 6) b9))) b9)))) (f8 (M8 5 (.l .i) y8 (a6 7)) (f8 (i9 2 (e2 u9 (e2 u9 (e2 dIx (a6 0) (a6 2)) (a6 7)) (eC (.int 1)))) (i9 3 (e2 u9 (e2 u9 (e2 dIx (a6 0) (a6 3)) (a6 7)) (eC (.int 1)))))) [.list (m.map rwD),tN,.int s,.int t,mn,iD p,iD (lvl m c),y]
    = xn (.nx [.list (m.map rwD),tN,.int (stp m s (fa m c s t)).2,.int (stp m t (fa m c s t)).2,mn,iD (p++[fa m c s t]),iD (lvl m c),.int (fa m c s t)]):=by
   walk_at "ev";rw[a2I h0 h1,a2I h2 h3];walk_at "ev";rw[O9 (λq hq=>by rw[T5];exact w.next _ (G6 h0 h1) q hq) (by lia),O9 (λq hq=>by rw[T5];exact w.next _ (G6 h2 h3) q hq) (by lia)];walk_at "ev";rw[a9j (by rw[a1U,a1U,l1,l2]) (λe=>vf ((a6h h0 h1 h2 h3).mpr e)) (by rw[a1U,l1];lia)];walk_at "ev";unfold iD;rw[a0v (by rw[ai];lia)];walk_at "ev";have wj:fa m c s t<((rowAt m s).length:Int):=by rw[l1];exact a1
   have Bl:fa m c s t<((rowAt m t).length:Int):=by rw[l2];exact a1
   unfold fa at a0 wj Bl;rw[a2I h0 h1];walk_at "ev";rw[b1Z a0 wj];walk_at "ev";rw[a2I h2 h3];walk_at "ev";rw[b1Z a0 Bl];walk_at "ev";rw[aN];rfl
  rw[hb];have Ae:=ih;rw[aS]at Ae;exact Ae
def a5f{m:i6}{k:Nat}(w:WF m k){D:Nat}(hD:D<=1000){s t:Int}(h0:0<=s)(h1:s<m.length)(h2:0<=t)(h3:t<m.length):w8 [.list (m.map rwD),.list ((aA (D+1)).map λd=>iD (lvl m d)),.int s,.int t]=xn (U8 m D s t):=by
 unfold w8;rw[z9 (by simp[VS.argsOk,imm])];unfold X3;obtain⟨c1,c2,c3,c4⟩:=a4d w D h0 h1 h2 h3;have hc:e2 a3q (r9 (iL (a6 1)) [2,3] pt1 tT (e2 dEq (e2 u9 (a6 0) (a6 1)) (e2 u9 (a6 0) (a6 2)))) (eC (.bool true)) [.list (m.map rwD),.list ((aA (D+1)).map λd=>iD (lvl m d)),.int s,.int t,.none,.none,.none,.none]=xn (.int (mny m D s t)):=by
  rw[v_2,O3 (enc:=λd=>iD (lvl m d)) (xs:=aA (D+1)) (λd=>.bool (decide (lv m d s=lv m d t)))]
  ·have e:(aA (D+1)).map (λd=>cV (decide (lv m d s=lv m d t)))=((aA (D+1)).map λd=>decide (lv m d s=lv m d t)).map cV:=by rw[bC];rfl
   rw[e,v_c,b8U,v_count,FR];rfl
  ·walk_at "ev"
  ·rw[bz];lia
  ·intro d hd;refine⟨[iD (lvl m d)],rfl,?_⟩;show e2 dEq _ _ [iD (lvl m d),.int s,.int t]=_;walk_at "ev";rw[Q4 h0 (by rw[T5];exact h1),Q4 h2 (by rw[T5];exact h3)];walk_at "ev";rfl
 rw[bB,bB,bB,bB,bJ,a6L,b3p];show a0t (thn (b6d 4 (e2 a3q (r9 (iL (a6 1)) [2,3] pt1 tT (e2 dEq (e2 u9 (a6 0) (a6 1)) (e2 u9 (a6 0) (a6 2)))) (eC (.bool true)) [.list (m.map rwD),.list ((aA (D+1)).map λd=>iD (lvl m d)),.int s,.int t,.none,.none,.none,.none]) [.list (m.map rwD),.list ((aA (D+1)).map λd=>iD (lvl m d)),.int s,.int t,.none,.none,.none,.none]) _)=_;rw[hc];walk_at "ev";rw[bz];by_cases c:mny m D s t=D+1
 ·rw[aQ (show ((mny m D s t:Nat):Int)=((D+1:Nat):Int) by lia)];walk_at "ev";unfold U8;rw[aB c]
 ·rw[ba (show ¬ ((mny m D s t:Nat):Int)=((D+1:Nat):Int) by lia)];walk_at "ev";rw[c3h (ds:=(aA (mny m D s t)).map λd=>iD (lvl m d))]
  ·obtain⟨s',t',x',y',h⟩:=a2F w (.list ((aA (D+1)).map λd=>iD (lvl m d))) (.int (mny m D s t:Nat)) (mny m D s t) s t [] .none .none h0 h1 h2 h3 (λ_=>c4 _ (ay _) (by lia)) (c3 _ (by lia)) (by simp only[gO];lia);walk_at "ev";have h':=h;unfold iD at h' ⊢;rw[cW]at h';rw[h'];walk_at "ev";unfold U8;rw[aJ c]
  ·rw[b7a];walk_at "ev";rw[a9V,a9W];walk_at "ev";rw[b7b,b7Z,b9Y (by lia) (by rw[ai,bz];lia),<-List.map_take,bK,oY,jf (by lia)]
def c2a(m:i6)(n D:Nat):bj:=.list ((aA n).map λ(s:Nat)=>.list ((aA n).map λ(t:Nat)=>U8 m D s t))
def a4A{m:i6}{k:Nat}(w:WF m k){D:Nat}(hD:D<=1000){s:Int}(h0:0<=s)(h1:s<m.length):E6 [.list (m.map rwD),.list ((aA (D+1)).map λd=>iD (lvl m d)),.int s]=xn (.list ((aA m.length).map λ(t:Nat)=>U8 m D s t)):=by
 unfold E6;rw[z9 (by simp[VS.argsOk,imm])];unfold a1f;have:=w.le;rw[a9I,a5Y (n:=m.length) (λ(t:Nat)=>U8 m D s t) (by walk_at "ev") (by lia) (by lia) (λt ht=>?_)]
 ·rw[bK];rfl
 ·show eCl w8 _ [.int t,.list (m.map rwD),.list ((aA (D+1)).map λd=>iD (lvl m d)),.int s]=_;walk_at "ev";exact a5f w hD h0 h1 (by lia) ht
def b5l{m:i6}{k:Nat}(w:WF m k){D:Nat}(h1:A0 [.list (m.map rwD)]=xn (.list ((aA (D+1)).map λd=>iD (lvl m d))))(hD:D<=1000):a1h [.list (m.map rwD)]=xn (c2a m m.length D):=by
 have:=w.le;unfold a1h;rw[z9 (by simp[VS.argsOk])];unfold a9Y;walk_at "ev";rw[h1];walk_at "ev";rw[a5Y (n:=m.length) (λ(s:Nat)=>.list ((aA m.length).map λ(t:Nat)=>U8 m D s t)) (by walk_at "ev") (by lia) (by lia) (λs hs=>?_)]
 ·rw[bK];rfl
 ·show eCl E6 _ [.int s,.list (m.map rwD),.list ((aA (D+1)).map λd=>iD (lvl m d))]=_;walk_at "ev";exact a4A w hD (by lia) hs
def b5m{m:i6}{k:Nat}(w:WF m k):∃D:Nat,a1h [.list (m.map rwD)]=xn (c2a m m.length D)/\D+1<=m.length/\
  ∀s t:Int,0<=s->s<m.length->0<=t->t<m.length->lv m D s=lv m D t->lv m (D+1) s=lv m (D+1) t:=by
 obtain⟨D,h1,h2,h3,h4⟩:=a1W w;have:=w.le;exact⟨D,b5l w h1 (by lia),h2,h4⟩
end Prog
namespace VS
open PySem L2
theorem b0t(w:WF m k):∀(c:Nat) (s t:Int),0<=s->s<m.length->0<=t->t<m.length->(c≠0->lv m c s≠lv m c t)->lv m (c-1) s=lv m (c-1) t->∀a∈fu m c s t,0<=a/\a<(k:Int)
 |0,s,t,_,_,_,_,_,_,a,ha=>nomatch ha
 |c+1,s,t,h0,h1,h2,h3,gM,heq,a,ha=>by
  obtain⟨⟨a0,a1⟩,f2,_⟩:=Z7 w h0 h1 h2 h3 (gM (by lia));rcases aH.mp ha with e|ha
  ·rw[e];exact⟨a0,a1⟩
  ·have n1:=w.nx h0 h1 a0 a1;have n2:=w.nx h2 h3 a0 a1;refine b0t w c _ _ n1.1 n1.2 n2.1 n2.2 (λhc=>?_) ?_ a ha
   ·obtain⟨c',rfl⟩:∃c',c=c'+1:=⟨c-1,by lia⟩;exact f2.resolve_left λz=>z ((v6 w h0 h1 h2 h3).mp heq _ a0 a1).1
   ·cases c with
    |zero=>rw[o9,o9]
    |succ c'=>exact ((v6 w h0 h1 h2 h3).mp heq _ a0 a1).2
def a7G{m:i6}{k d:Nat}(w:WF m k){s t a:Int}(h0:0<=s)(h1:s<m.length)(h2:0<=t)(h3:t<m.length)(a0:0<=a)(a1:a<k)(h:(stp m s a).1≠(stp m t a).1∨lv m d (stp m s a).2≠lv m d (stp m t a).2):fa m d s t<=a:=by
 have gM:lv m (d+1) s≠lv m (d+1) t:=λe=>by
  have q:=(v6 w h0 h1 h2 h3).mp e a a0 a1;rcases h with z|z
  ·exact z q.1
  ·exact z q.2
 obtain⟨_,_,f3⟩:=Z7 w h0 h1 h2 h3 gM;rcases Int.lt_or_le a (fa m d s t) with z|z
 ·have q:=f3 a a0 z;rcases h with y|y
  ·exact absurd q.1 y
  ·exact absurd q.2 y
 ·exact z
def a9k{m:i6}{k:Nat}(w:WF m k){N:Nat}(hN:∀s t:Int,0<=s->s<m.length->0<=t->t<m.length->lv m N s=lv m N t->lv m (N+1) s=lv m (N+1) t){d:Nat}{s t:Int}(h0:0<=s)(h1:s<m.length)(h2:0<=t)(h3:t<m.length)(h:lv m d s≠lv m d t):lv m N s≠lv m N t:=
 λe=>h (b4E w hN d s t h0 h1 h2 h3 e)
end VS
namespace Prog
open PySem L2 VS
theorem b0u:∀r r':Ky,fp r r'=fp r' r
 |[],[]=>rfl
 |[],_::_=>rfl
 |_::_,[]=>rfl
 |x::xs,y::ys=>by
  show (if x=y then fp xs ys+1 else 0)=if y=x then fp ys xs+1 else 0
  by_cases c:x=y
  ·rw[aB c,aB c.symm,b0u xs ys]
  ·rw[aJ c,aJ λe=>c e.symm]
def b7D(m:i6)(d:Nat)(s t:Int):fa m d s t=fa m d t s:=by unfold fa;rw[b0u]
theorem b0v(m:i6):∀(d:Nat) (s t:Int),fu m d s t=fu m d t s
 |0,_,_=>rfl
 |d+1,s,t=>by
  show fa m d s t::fu m d (stp m s (fa m d s t)).2 (stp m t (fa m d s t)).2=fa m d t s::fu m d (stp m t (fa m d t s)).2 (stp m s (fa m d t s)).2;rw[b7D m d s t,b0v m d]
def b5n(m:i6)(N:Nat)(s t:Int):mny m N s t=mny m N t s:=by
 unfold mny
 congr 1
 funext d
 exact EA.mpr ⟨Eq.symm,Eq.symm⟩
theorem a7H(w:WF m k):∀(c:Nat) (s t:Int),0<=s->s<m.length->0<=t->t<m.length->lv m c s≠lv m c t->(c6 m s (fu m c s t)).1≠(c6 m t (fu m c s t)).1
 |0,s,t,_,_,_,_,h=>by rw[o9,o9]at h;exact absurd rfl h
 |c+1,s,t,s0,s1,t0,t1,h=>by
  obtain⟨f1,f2,_⟩:=Z7 w s0 s1 t0 t1 h;show (stp m s (fa m c s t)).1::_≠(stp m t (fa m c s t)).1::_;intro e
  injection e with e1 e2
  have n1:=w.nx s0 s1 f1.1 f1.2;have n2:=w.nx t0 t1 f1.1 f1.2;exact a7H w c _ _ n1.1 n1.2 n2.1 n2.2 (f2.resolve_left λz=>z e1) e2
def v8(g:List Int->D)(l:List (List Int)):List (D×D):=l.map λp=>(A8 p,g p)
def a1u(p:List Int)(l:List (List Int)):List (List Int):=if p∈l then l else l++[p]
section
variable {g:List Int->D}{l:List (List Int)}{a:List Int}
def b5o:(v8 g l).length=l.length:=ai ..
theorem a5g(a:List Int):∀l:List (List Int),F9 (v8 g l) (A8 a)=decide (a∈l)
 |[]=>rfl
 |q::l=>by
  have ih:=a5g a l;unfold F9 v8 at ih ⊢;rw[ax,List.any_cons,ih,a1t,Bool.eq_iff_iff];simp only[ll,Bg,aH];exact or_congr_left eq_comm
theorem a5h:∀{l:List (List Int)},a∈l->p9 (v8 g l) (A8 a)=xn (g a)
 |[],h=>nomatch h
 |q::l,h=>by
  by_cases c:q=a
  ·unfold p9 v8;rw[ax,fZ,a1t,aQ c];subst c;rfl
  ·have ih:=a5h (l:=l) ((aH.mp h).resolve_left λz=>c z.symm);unfold p9 v8 at ih ⊢;rw[ax,fZ,a1t,ba c];exact ih
def b5p:K4 (v8 g l) (A8 a) (g a)=v8 g (a1u a l):=by
 unfold K4 a1u;rw[a5g];by_cases c:a∈l
 ·rw[aQ c,aB rfl,aB c];unfold v8;rw[bC];refine bG λx _=>?_
  show (if aI (A8 x) (A8 a)=true then (A8 x,g a) else (A8 x,g x))=(A8 x,g x);rw[a1t];by_cases e:x=a
  ·rw[aQ e,aB rfl,e]
  ·rw[ba e,aJ cj]
 ·rw[ba c,aJ c,aJ cj];unfold v8;rw[aN];rfl
def a7I(l:List (List Int)):keysOk true (v8 g l)=true:=by
 unfold keysOk v8;rw[dH];intro p hp;obtain⟨q,_,rfl⟩:=aG.mp hp;exact a2a q
def b2p:(v8 g l).map (·.1)=l.map A8:=by unfold v8;rw[bC];rfl
def a6q{Z:List D}(hv:fv Z=xn (g a))(hk:fk Z=xn (A8 a))(hd:Z.getD i .none=.dict (v8 g l))(hl:l.length<1000000):C1 i true fk fv Z=xn (.nx (Z.set i (.dict (v8 g (a1u a l))))):=by
 rw[a9b hv hk hd (a2a a) (by rw[b5o];exact hl),b5p]
def X7:q∈a1u p l↔q∈l∨q=p:=by
 unfold a1u;by_cases c:p∈l
 ·rw[aB c];exact⟨.inl,λh=>h.elim id λe=>e▸c⟩
 ·rw[aJ c,aq,ao]
def a4e:(a1u p l).length<=l.length+1:=by
 unfold a1u;by_cases c:p∈l
 ·rw[aB c];lia
 ·rw[aJ c,az];exact ay _
end
def c2b(l:List (List Int)):Option (List Int)->List (List Int)
 |none=>l
 |some p=>a1u p l
def ddP(ps:List (Option (List Int))):List (List Int):=ps.foldl c2b []
def a4f(ps:List (Option (List Int)))(o:Option (List Int)):ddP (ps++[o])=c2b (ddP ps) o:=by unfold ddP;rw[jZ];rfl
def b7E(ps:List (Option (List Int))):p∈ddP ps↔xn p∈ps:=by
 induction ps using snoc_ind with
 |h0=>exact⟨λh=>(nomatch h),λh=>(nomatch h)⟩
 |h1 ps o ih=>
  rw[a4f,aq,ao];cases o with
  |none=>exact ih.trans ⟨.inl,λh=>h.elim id λe=>nomatch e⟩
  |some q=>
   show p∈a1u q (ddP ps)↔_;rw[X7,ih];exact or_congr_right ⟨λe=>by rw[e],λe=>aF e⟩
def a6r(ps:List (Option (List Int))):(ddP ps).length<=ps.length:=by
 induction ps using snoc_ind with
 |h0=>exact ay _
 |h1 ps o ih=>
  rw[a4f,az];cases o with
  |none=>exact nD ih
  |some q=>exact cC a4e (Nat.succ_le_succ ih)
def A9(l:List (List Int)):(V0 l).Perm l:=by
 have h:=(a1J (l.map a1K)).map rZ;rw[bC]at h;have e:l.map (rZ ∘ a1K)=l:=List.map_id'' (f:=rZ ∘ a1K) (λ_=>rfl) l;rw[e]at h;exact h
def a7J{Z:List D}(h:a Z=xn (.dict (v8 g l)))(hl:l.length<65536)(hm:∀p∈l,m [A8 p]=xn (kdP p)):a0B m a Z=xn (.list ((V0 l).map A8)):=by
 unfold a0B;rw[h,dG];show (xn ((v8 g l).map (·.1))).bind _=_;rw[dG,b2p,a4c,dG,aB (b6K (l:=false) hl hm)];rfl
def b8d{fa fb:EvE}{Z:List D}{d:D}{k:Bool}(h:fa Z=xn d)(hk:tr d=xn k):b6M fa fb Z=if k then xn d else fb Z:=by
 unfold b6M;rw[h,dG,hk,dG]
def a7K(a:List Int):imm (A8 a)=true:=by unfold A8;simp only[imm];exact p7 a
def b0w(p:List Int):a0E [A8 p]=xn (kdP p):=by
 unfold a0E A8;rw[z9 (by simp[VS.argsOk,imm,p7])];unfold b4v;walk_at "ev";rfl
def mkL(l:List (List Int)):List (List Int):=if l=[] then [[]] else V0 l
def a4g(ps:List (Option (List Int)))(hl:ps.length<64):C3 [.list (ps.map a1q)]=xn (.list ((mkL (ddP ps)).map iD)):=by
 have DE:=a6r ps;unfold C3;rw[z9 (by simp[VS.argsOk])];unfold a0i;walk_at "ev";refine E5 (λZ=>∃x,Z=[.list (ps.map a1q),.dict (v8 (λ_=>cV true) (ddP ps)),x]) ?_ ?_
 ·obtain⟨Z',h1,x,rfl⟩:=t7 (enc:=a1q) (set:=t8 2) (xs:=ps) (g:=(sIf (tB (e2 (a6F true) (a6 2) (eC .none))) (C1 1 true (L9 (a6 2)) (eC (.bool true))) E1)) (Z:=[.list (ps.map a1q),.dict [],.none])
   (λpre Z=>∃x,Z=[.list (ps.map a1q),.dict (v8 (λ_=>cV true) (ddP pre)),x]) ⟨_,rfl⟩ (by
    rintro pre o post e Z ⟨x,rfl⟩;have hlen:pre.length<64:=by have:=dB dY e;simp at this;lia
    have hd2:=a6r pre;refine⟨_,[.list (ps.map a1q),.dict (v8 (λ_=>cV true) (ddP (pre++[o]))),a1q o],rfl,?_,_,rfl⟩;rw[a4f];cases o with
    |none=>
     show (sIf (tB (e2 (a6F true) (a6 2) (eC .none))) (C1 1 true (L9 (a6 2)) (eC (.bool true))) E1) [.list (ps.map a1q),.dict (v8 (λ_=>cV true) (ddP pre)),.none]=_;walk_at "ev";rfl
    |some p=>
     show (sIf (tB (e2 (a6F true) (a6 2) (eC .none))) (C1 1 true (L9 (a6 2)) (eC (.bool true))) E1) [.list (ps.map a1q),.dict (v8 (λ_=>cV true) (ddP pre)),.list (p.map .int)]=_;walk_at "ev";rw[a6q (g:=(λ_=>cV true)) (a:=p) (l:=ddP pre) rfl (a1p (ds:=p.map .int) rfl (p7 p)) rfl (by lia)];rfl)
  exact⟨_,h1,_,rfl⟩
 ·rintro Z ⟨x,rfl⟩;have tU:(V0 (ddP ps)).length<=1000000:=by rw[(A9 _).length_eq];lia
  have hc:(r9 (iI (iL (a0B a0E (a6 1)))) [] pt1 tT (eI (a0P (a6 0)))) [.list (ps.map a1q),.dict (v8 (λ_=>cV true) (ddP ps)),x]=xn (.list ((V0 (ddP ps)).map iD)):=by
   refine O3 (enc:=A8) (xs:=V0 (ddP ps)) iD ?_ tU λp _=>⟨[A8 p],rfl,?_⟩
   ·rw[a1c (ds:=(V0 (ddP ps)).map A8) ?_ (n6 _ a7K _)];rw[b4o,a7J (g:=(λ_=>cV true)) (l:=ddP ps) rfl (by lia) λp _=>b0w p];rfl
   ·have hi:=p7 p;show eI (a0P (a6 0)) [.tuple (p.map .int)]=_;walk_at "ev"
  walk_at "ev";unfold mkL;by_cases c:ddP ps=[]
  ·rw[aB c];rw[c]at hc;rw[c,b8d (k:=false) hc rfl];rfl
  ·rw[aJ c];cases h:V0 (ddP ps) with
   |nil=>
    have:=(A9 (ddP ps)).symm;rw[h]at this;exact absurd this.eq_nil c
   |cons a l=>
    rw[h]at hc;rw[b8d (k:=true) hc rfl];rfl
def K5(m:i6)(D:Nat)(s t:Int):Option (List Int):=if mny m D s t=D+1 then xI else xn (fu m (mny m D s t) s t)
def b0x(m:i6)(D:Nat)(s t:Int):a1q (K5 m D s t)=U8 m D s t:=by
 unfold K5 U8;by_cases c:mny m D s t=D+1
 ·rw[aB c,aB c];rfl
 ·rw[aJ c,aJ c];rfl
def a6s(m:i6)(D:Nat)(s:Int):List (List Int):=ddP ((aA m.length).map λ(t:Nat)=>K5 m D s t)
def mks(m:i6)(D:Nat)(s:Int):List (List Int):=mkL (a6s m D s)
def b5q(w:WF m k):∃D:Nat,Z5 [.list (m.map rwD)]=xn (.list ((aA m.length).map λ(s:Nat)=>bD ((mks m D s).map iD)))/\D+1<=m.length/\
  ∀s t:Int,0<=s->s<m.length->0<=t->t<m.length->lv m D s=lv m D t->lv m (D+1) s=lv m (D+1) t:=by
 have hn:=w.le;obtain⟨D,ha,hD,qo⟩:=b5m w;refine⟨D,?_,hD,qo⟩;unfold Z5;rw[z9 (by simp[VS.argsOk])];unfold b0a;walk_at "ev";rw[O3 (enc:=λ(s:Nat)=>bD ((aA m.length).map λ(t:Nat)=>U8 m D s t)) (xs:=aA m.length) (λ(s:Nat)=>bD ((mks m D s).map iD)) ?_ (by rw[bz];lia) ?_]
 ·rfl
 ·walk_at "ev";rw[ha];rfl
 ·intro s _;refine⟨[_],rfl,?_⟩;show eCl C3 (a7 (a6 0) b9) [bD ((aA m.length).map λ(t:Nat)=>U8 m D s t)]=_;have e:((aA m.length).map λ(t:Nat)=>U8 m D s t)=(((aA m.length).map λ(t:Nat)=>K5 m D s t).map a1q):=by
   rw[bC];exact bG λt _=>(b0x m D s t).symm
  walk_at "ev";rw[e,a4g _ (by rw[ai,bz];lia)];rfl
section
variable {m:i6}{k D:Nat}(w:WF m k)(qo:∀s t:Int,0<=s->s<m.length->0<=t->t<m.length->lv m D s=lv m D t->lv m (D+1) s=lv m (D+1) t)
include w
theorem a4h{s t:Int}(s0:0<=s)(s1:s<m.length)(t0:0<=t)(t1:t<m.length):K5 m D s t=xI↔lv m D s=lv m D t:=by
 obtain⟨c1,c2,c3,c4⟩:=a4d w D s0 s1 t0 t1;unfold K5;by_cases c:mny m D s t=D+1
 ·rw[aB c];exact⟨λ_=>c3 D (by lia),λ_=>rfl⟩
 ·rw[aJ c];exact⟨λh=>(nomatch h),λh=>absurd h (c4 D (by lia) (ay _))⟩
theorem U0{s t:Int}{p:List Int}(s0:0<=s)(s1:s<m.length)(t0:0<=t)(t1:t<m.length)(h:K5 m D s t=xn p):∃c,p=fu m c s t/\1<=c/\c<=D/\lv m c s≠lv m c t/\lv m (c-1) s=lv m (c-1) t:=by
 obtain⟨c1,c2,c3,c4⟩:=a4d w D s0 s1 t0 t1;unfold K5 at h;by_cases c:mny m D s t=D+1
 ·rw[aB c]at h;cases h
 ·rw[aJ c]at h;cases h
  exact⟨mny m D s t,rfl,c1,by lia,c4 _ (ay _) (by lia),c3 _ (by lia)⟩
theorem a7L{s:Int}{p:List Int}:p∈a6s m D s↔∃t:Nat,t<m.length/\K5 m D s t=xn p:=by
 unfold a6s;rw[b7E,aG];exact⟨λ⟨t,ht,e⟩=>⟨t,bI.mp ht,e⟩,λ⟨t,ht,e⟩=>⟨t,bI.mpr ht,e⟩⟩
theorem b0y{s:Int}(s0:0<=s)(s1:s<m.length){p:List Int}(h:p∈a6s m D s):(∀a∈p,0<=a/\a<(k:Int))/\1<=p.length/\p.length<=D:=by
 obtain⟨t,ht,e⟩:=(a7L w).mp h;obtain⟨c,rfl,c1,c2,c3,c4⟩:=U0 w s0 s1 (by lia) (by lia) e;rw[b4F];exact⟨b0t w c s t s0 s1 (by lia) (by lia) (λ_=>c3) c4,c1,c2⟩
theorem b7F(h:p∈mks m D s):p∈a6s m D s∨p=[]/\mks m D s=[[]]:=by
 unfold mks mkL at h ⊢;by_cases c:a6s m D s=[]
 ·rw[aB c]at h ⊢;exact .inr ⟨ao.mp h,rfl⟩
 ·rw[aJ c]at h ⊢;exact .inl ((A9 _).mem_iff.mp h)
theorem c0m(h:p∈a6s m D s):p∈mks m D s:=by
 unfold mks mkL;rw[aJ (λc=>by rw[c]at h;cases h)];exact (A9 _).mem_iff.mpr h
theorem a6t{s:Int}(s0:0<=s)(s1:s<m.length){p:List Int}(h:p∈mks m D s):(∀a∈p,0<=a/\a<(k:Int))/\p.length<=D:=by
 rcases b7F w h with z|⟨rfl,_⟩
 ·exact⟨(b0y w s0 s1 z).1,(b0y w s0 s1 z).2.2⟩
 ·exact⟨λa ha=>(nomatch ha),cE _⟩
theorem b0z(s:Int):(mks m D s).length<=31:=by
 have hn:=w.le;have h:(a6s m D s).length<=m.length:=by
  have:=a6r ((aA m.length).map λ(t:Nat)=>K5 m D s t);rw[ai,bz]at this;exact this
 unfold mks mkL;by_cases c:a6s m D s=[]
 ·rw[aB c];decide
 ·rw[aJ c,(A9 _).length_eq];lia
end
end Prog
namespace VS
open PySem L2
def lng(k:Nat)(L:List (List Int)):List (List Int):=L.flatMap λr=>(aA k).map λ(x:Nat)=>r++[(x:Int)]
def lvR(k:Nat):Nat->List (List Int)
 |0=>[[]]
 |n+1=>lng k (lvR k n)
def F5(k:Nat):Nat->List (List Int)
 |0=>[[]]
 |n+1=>F5 k n++lvR k (n+1)
theorem a6u(k:Nat):∀L:List (List Int),(lng k L).length=L.length*k
 |[]=>by simp[lng]
 |x::L=>by
  have e:lng k (x::L)=((aA k).map λ(y:Nat)=>x++[(y:Int)])++lng k L:=rfl;rw[e,az,ai,bz,a6u k L,aV,Nat.add_mul,Nat.one_mul,jA]
theorem a6v(k:Nat):∀n,(lvR k n).length=k^n
 |0=>rfl
 |n+1=>by
  show (lng k (lvR k n)).length=_;rw[a6u,a6v k n,Nat.pow_succ]
theorem b0A(k:Nat)(hk:1<=k):∀n,(F5 k n).length<=(n+1)*k^n
 |0=>by simp[F5]
 |n+1=>by
  show (F5 k n++lvR k (n+1)).length<=_;rw[az,a6v];have h1:=b0A k hk n;have h2:k^n<=k^(n+1):=wm hk (wo n);have h3:(n+1)*k^n<=(n+1)*k^(n+1):=Nat.mul_le_mul_left _ h2;rw[Nat.add_mul (n+1) 1,Nat.one_mul];lia
def b7G(h:∀r∈L,r.length=n):∀r∈lng k L,r.length=n+1:=by
 intro r hr;obtain⟨q,hq,hr⟩:=cD.mp hr;obtain⟨x,_,rfl⟩:=aG.mp hr;rw[az,h q hq];rfl
theorem a9l(k:Nat):∀n,∀r∈lvR k n,r.length=n
 |0,r,h=>by rw[ao.mp h];rfl
 |n+1,r,h=>b7G (a9l k n) r h
theorem b0B(k:Nat):∀n,∀r∈F5 k n,r.length<=n
 |0,r,h=>by rw[ao.mp h];exact ay _
 |n+1,r,h=>by
  rcases aq.mp h with z|z
  ·exact nD (b0B k n r z)
  ·rw[a9l k (n+1) r z];exact ay _
def lD(r:List Int):D:=.list (r.map .int)
end VS
namespace Prog
open PySem L2 VS
def b2q{k n:Nat}{L:List (List Int)}(hk:k<=5)(hl:L.length<=10000)(hm:∀r∈L,r.length=n)(hn:n<=100):t5 [.list (L.map lD),.int k]=xn (.list ((lng k L).map lD)):=by
 unfold t5;rw[z9 (by simp[VS.argsOk,imm])];unfold Q2;walk_at "ev";refine E5 (λZ=>∃x,Z=[.list (L.map lD),.int k,.list ((lng k L).map lD),x]) ?_ ?_
 ·obtain⟨Z',g1,x,rfl⟩:=t7 (enc:=lD) (set:=t8 3) (xs:=L) (g:=(a7a 2 (r9 (iR (a6 1)) [3] pt1 tT (eI (J6 (a6 1) (x4 (a7 (a6 0) b9))))))) (Z:=[.list (L.map lD),.int k,.list [],.none])
   (λpre Z=>∃x,Z=[.list (L.map lD),.int k,.list ((lng k pre).map lD),x]) ⟨_,rfl⟩ (by
    rintro pre r post e Z ⟨x,rfl⟩;have hr:=hm r (by rw[e];simp);have gE:pre.length<L.length:=by rw[e];simp
    have hc:(r9 (iR (a6 1)) [3] pt1 tT (eI (J6 (a6 1) (x4 (a7 (a6 0) b9))))) [.list (L.map lD),.int k,.list ((lng k pre).map lD),lD r]=xn (.list (((aA k).map λ(x:Nat)=>r++[(x:Int)]).map lD)):=by
     rw[a5Y (n:=k) (λ(x:Nat)=>lD (r++[(x:Int)])) (by walk_at "ev") (by lia) (by lia)]
     ·rw[bK,bC];rfl
     ·intro x hx;show eI (J6 (a6 1) (x4 (a7 (a6 0) b9))) [.int x,.list (r.map .int)]=_;rw[a7v,a2t];walk_at "ev";rw[show a8R (xn (.list (r.map .int))) (xn (.list [.int (x:Int)]))=_ from X1 (xs:=r) (ys:=[(x:Int)]) (by simp;lia)];exact Z3
    refine⟨_,[.list (L.map lD),.int k,.list ((lng k (pre++[r])).map lD),lD r],rfl,?_,_,rfl⟩;show a7a 2 _ [.list (L.map lD),.int k,.list ((lng k pre).map lD),lD r]=_;unfold a7a;rw[hc,dG];show (if ((lng k pre).map lD).length+(((aA k).map λ(x:Nat)=>r++[(x:Int)]).map lD).length<=1000000 then xn (Out.nx [.list (L.map lD),.int k,.list ((lng k pre).map lD++(((aA k).map λ(x:Nat)=>r++[(x:Int)]).map lD)),lD r]) else xI)=_;have h1:pre.length*k<=10000*5:=pZ (by lia) hk;rw[aB (by rw[ai,a6u,ai,ai,bz];lia)];have e2:lng k (pre++[r])=lng k pre++((aA k).map λ(x:Nat)=>r++[(x:Int)]):=by
     unfold lng;rw[eA,List.flatMap_singleton]
    rw[e2,aN])
  exact⟨_,g1,_,rfl⟩
 ·rintro Z ⟨x,rfl⟩;walk_at "ev"
def a9m{k n:Nat}(ni:1<=k)(hk:k<=5)(hn:n<=31)(hp:k^n<=3125):Z6 [.int k,.int n]=xn (.list ((F5 k n).map lD)):=by
 unfold Z6;rw[z9 (by simp[VS.argsOk,imm])];unfold a5b;walk_at "ev";rw[a8m (n:=n) (by walk_at "ev") (by lia) (by lia),bK];walk_at "ev";refine E5 (λZ=>∃x y,Z=[.int k,.int n,.list ((F5 k n).map lD),x,y]) ?_ ?_
 ·obtain⟨Z',g1,x,rfl⟩:=N3 (n:=n) (set:=t8 4) (g:=(f8 (i9 3 (eCl t5 (a7 (a6 3) (a7 (a6 0) b9)))) (a2l 2 3))) (Z:=[.int k,.int n,.list [.list []],.list [.list []],.none])
   (λj Z=>∃x,Z=[.int k,.int n,.list ((F5 k j).map lD),.list ((lvR k j).map lD),x]) ⟨_,rfl⟩ (by
    rintro j hj Z ⟨x,rfl⟩;have yo:∀i,i<=n->k^i<=3125:=λi hi=>cC (wm ni hi) hp
    refine⟨_,[.int k,.int n,.list ((F5 k (j+1)).map lD),.list ((lvR k (j+1)).map lD),.int j],rfl,?_,_,rfl⟩;show (f8 (i9 3 (eCl t5 (a7 (a6 3) (a7 (a6 0) b9)))) (a2l 2 3)) [.int k,.int n,.list ((F5 k j).map lD),.list ((lvR k j).map lD),.int j]=_;walk_at "ev";rw[b2q hk (by rw[a6v];have:=yo j (by lia);lia) (a9l k j) (by lia)];walk_at "ev";show (if ((F5 k j).map lD).length+((lng k (lvR k j)).map lD).length<=1000000 then xn (Out.nx [.int k,.int n,.list ((F5 k j).map lD++(lng k (lvR k j)).map lD),.list ((lng k (lvR k j)).map lD),.int j]) else xI)=_;have h1:=b0A k ni j;have h2:(j+1)*k^j<=32*3125:=pZ (by lia) (yo j (by lia));have h3:(lng k (lvR k j)).length=k^(j+1):=a6v k (j+1);have h4:=yo (j+1) (by lia);rw[aB (by rw[ai,ai,h3];lia),<-aN];rfl)
  exact⟨_,g1,_,_,rfl⟩
 ·rintro Z ⟨x,y,rfl⟩;walk_at "ev"
def rF(a:Int):Nat->Int
 |0=>1
 |n+1=>rF a n*a+1
def szF(s a e:Int):Int:=s*rF a (e+1).toNat*(if 1<s then s-1 else 1)
def b7H(s a e:Int)(s0:1<=s)(s1:s<=30)(a0:1<=a)(a1:a<=5)(e0:0<=e)(e1:e<=30):O2 [.int s,.int a,.int e]=xn (.int (szF s a e)):=by
 unfold O2;rw[z9 (by simp[VS.argsOk,imm])];unfold a2z;walk_at "evm";rw[a8m (n:=e+1) (by walk_at "evm") (by lia) (by lia)];walk_at "evm";refine E5 (λZ=>∃x,Z=[.int s,.int a,.int e,.int (rF a (e+1).toNat),x]) ?_ ?_
 ·exact N3 (n:=(e+1).toNat) (λk Z=>∃x,Z=[.int s,.int a,.int e,.int (rF a k),x]) ⟨_,rfl⟩ λk hk Z ⟨x,hx⟩=>by
   subst hx;refine⟨_,_,rfl,?_,.int k,rfl⟩;walk_at "evm";rfl
 ·rintro Z ⟨x,rfl⟩;walk_at "evm";show a0t (retS (l2 Z8 (xn (.int (s*rF a (e+1).toNat))) (xn (.int (if 1>s-1 then 1 else s-1)))))=_;have e:(if (1:Int)>s-1 then 1 else s-1)=if 1<s then s-1 else 1:=by
   by_cases c:(1:Int)>s-1
   ·rw[aB c];by_cases d:1<s
    ·rw[aB d];lia
    ·rw[aJ d]
   ·rw[aJ c,aB (by lia)]
  rw[e];have hb:((if 1<s then s-1 else 1:Int)).natAbs<2^64:=by
   by_cases d:1<s
   ·rw[aB d];lia
   ·rw[aJ d];decide
  rw[b8U,a5K hb];rfl
section
variable {L m:i6}{k:Nat}(wL:WF L k)(w:WF m k)
include wL w
theorem a1v:∀(d:Nat) {i j s t:Int},0<=i->i<L.length->0<=j->j<L.length->0<=s->s<m.length->0<=t->t<m.length->Sim k L m i s->Sim k L m j t->(lv L d i=lv L d j↔lv m d s=lv m d t)
 |0,_,_,_,_,_,_,_,_,_,_,_,_,_,_=>by simp only[o9]
 |d+1,i,j,s,t,i0,i1,j0,j1,s0,s1,t0,t1,h,g=>by
  rw[v6 wL i0 i1 j0 j1,v6 w s0 s1 t0 t1];refine qY λa=>qY λa0=>qY λa1=>?_
  have ⟨x1,x2⟩:=h.step a0 a1;have ⟨y1,y2⟩:=g.step a0 a1;have n1:=wL.nx i0 i1 a0 a1;have n2:=wL.nx j0 j1 a0 a1;have n3:=w.nx s0 s1 a0 a1;have n4:=w.nx t0 t1 a0 a1;rw[x1,y1,a1v d n1.1 n1.2 n2.1 n2.2 n3.1 n3.2 n4.1 n4.2 x2 y2]
theorem b5r:∀(c:Nat) {i j s t:Int},0<=i->i<L.length->0<=j->j<L.length->0<=s->s<m.length->0<=t->t<m.length->Sim k L m i s->Sim k L m j t->(c≠0->lv m c s≠lv m c t)->lv m (c-1) s=lv m (c-1) t->fu L c i j=fu m c s t
 |0,_,_,_,_,_,_,_,_,_,_,_,_,_,_,_,_=>rfl
 |c+1,i,j,s,t,i0,i1,j0,j1,s0,s1,t0,t1,h,g,gM,heq=>by
  have hd:=gM (by lia);have jR:lv L (c+1) i≠lv L (c+1) j:=λe=>hd ((a1v wL w (c+1) i0 i1 j0 j1 s0 s1 t0 t1 h g).mp e)
  obtain⟨⟨a0,a1⟩,f2,_⟩:=Z7 w s0 s1 t0 t1 hd;obtain⟨⟨b0,b1⟩,g2,_⟩:=Z7 wL i0 i1 j0 j1 jR;have pt:∀a:Int,0<=a->a<k->(((stp L i a).1≠(stp L j a).1∨lv L c (stp L i a).2≠lv L c (stp L j a).2)↔((stp m s a).1≠(stp m t a).1∨lv m c (stp m s a).2≠lv m c (stp m t a).2)):=λa a0 a1=>by
   have ⟨x1,x2⟩:=h.step a0 a1;have ⟨y1,y2⟩:=g.step a0 a1;have n1:=wL.nx i0 i1 a0 a1;have n2:=wL.nx j0 j1 a0 a1;have n3:=w.nx s0 s1 a0 a1;have n4:=w.nx t0 t1 a0 a1;rw[x1,y1,ne_eq (lv L c _),a1v wL w c n1.1 n1.2 n2.1 n2.2 n3.1 n3.2 n4.1 n4.2 x2 y2]
  have e:fa L c i j=fa m c s t:=Int.le_antisymm (a7G wL i0 i1 j0 j1 a0 a1 ((pt _ a0 a1).mpr f2)) (a7G w s0 s1 t0 t1 b0 b1 ((pt _ b0 b1).mp g2));show fa L c i j::_=fa m c s t::_;rw[e]
  congr 1;have n1:=wL.nx i0 i1 a0 a1;have n2:=wL.nx j0 j1 a0 a1;have n3:=w.nx s0 s1 a0 a1;have n4:=w.nx t0 t1 a0 a1;refine b5r c n1.1 n1.2 n2.1 n2.2 n3.1 n3.2 n4.1 n4.2 (h.step a0 a1).2 (g.step a0 a1).2 (λhc=>?_) ?_
  ·obtain⟨c',rfl⟩:∃c',c=c'+1:=⟨c-1,by lia⟩;exact f2.resolve_left λz=>z ((v6 w s0 s1 t0 t1).mp heq _ a0 a1).1
  ·cases c with
   |zero=>rw[o9,o9]
   |succ c'=>exact ((v6 w s0 s1 t0 t1).mp heq _ a0 a1).2
theorem b0C{DL Dm:Nat}(hL:∀s t:Int,0<=s->s<L.length->0<=t->t<L.length->lv L DL s=lv L DL t->lv L (DL+1) s=lv L (DL+1) t){i j s t:Int}(i0:0<=i)(i1:i<L.length)(j0:0<=j)(j1:j<L.length)(s0:0<=s)(s1:s<m.length)(t0:0<=t)(t1:t<m.length)(h:Sim k L m i s)(g:Sim k L m j t){p:List Int}(hp:K5 m Dm s t=xn p):p∈mks L DL i:=by
 obtain⟨c,rfl,c1,c2,c3,c4⟩:=U0 w s0 s1 t0 t1 hp;have d3:lv L c i≠lv L c j:=λe=>c3 ((a1v wL w c i0 i1 j0 j1 s0 s1 t0 t1 h g).mp e)
 have d4:lv L (c-1) i=lv L (c-1) j:=(a1v wL w (c-1) i0 i1 j0 j1 s0 s1 t0 t1 h g).mpr c4;have hD:=a9k wL hL i0 i1 j0 j1 d3;refine c0m wL ((a7L wL).mpr ⟨j.toNat,by lia,?_⟩);rw[show ((j.toNat:Nat):Int)=j by lia];cases e:K5 L DL i j with
 |none=>exact absurd ((a4h wL i0 i1 j0 j1).mp e) hD
 |some q=>
  obtain⟨c',rfl,e1,_,e3,e4⟩:=U0 wL i0 i1 j0 j1 e;have:c'=c:=by
   rcases Nat.lt_trichotomy c' c with z|z|z
   ·exact absurd (b8b wL i0 i1 j0 j1 (show c'<=c-1 by lia) d4) e3
   ·exact z
   ·exact absurd (b8b wL i0 i1 j0 j1 (show c<=c'-1 by lia) e4) d3
  rw[this,b5r wL w c i0 i1 j0 j1 s0 s1 t0 t1 h g (λ_=>c3) c4]
end
def b2r{m:i6}{k D:Nat}(w:WF m k)(hD:∀s t:Int,0<=s->s<m.length->0<=t->t<m.length->lv m D s=lv m D t->lv m (D+1) s=lv m (D+1) t){s t:Int}(s0:0<=s)(s1:s<m.length)(t0:0<=t)(t1:t<m.length)(h:lv m D s=lv m D t):Sim k m m s t:=by
 intro p
 induction p generalizing s t with
 |nil=>intro _;rfl
 |cons a p ih=>
  intro hp;have ha:=hp a (by simp);have e:=(v6 w s0 s1 t0 t1).mp (hD s t s0 s1 t0 t1 h) a ha.1 ha.2;have n1:=w.nx s0 s1 ha.1 ha.2;have n2:=w.nx t0 t1 ha.1 ha.2;show (stp m s a).1::_=(stp m t a).1::_;rw[e.1];exact dB _ (ih n1.1 n1.2 n2.1 n2.2 e.2 λb hb=>hp b (av _ hb))
theorem a4i{L m:i6}{k:Nat}:∀(p:List Int) {i s:Int},Sim k L m i s->(∀a∈p,0<=a/\a<(k:Int))->Sim k L m (c6 L i p).2 (c6 m s p).2
 |[],_,_,h,_=>h
 |a::p,i,s,h,hp=>by
  have ha:=hp a (by simp);exact a4i p (h.step ha.1 ha.2).2 λb hb=>hp b (av _ hb)
theorem X8{k:Nat}:∀(n:Nat) (r:List Int),r.length=n->(∀a∈r,0<=a/\a<(k:Int))->r∈lvR k n
 |0,r,h,_=>by
  have:r=[]:=fR.mp h;rw[this];simp[lvR]
 |n+1,r,h,hr=>by
  have gM:r≠[]:=λe=>by rw[e]at h;simp at h
  have e:=List.dropLast_concat_getLast gM;have hx:=hr _ (List.getLast_mem gM);show r∈lng k (lvR k n);unfold lng;refine cD.mpr ⟨r.dropLast,X8 n _ (by rw[List.length_dropLast];lia) (λa ha=>hr a ((List.dropLast_sublist r).subset ha)),aG.mpr ⟨(r.getLast gM).toNat,bI.mpr (by lia),?_⟩⟩;rw[show (((r.getLast gM).toNat:Nat):Int)=r.getLast gM by lia];exact e
theorem all_rows{k:Nat}:∀(n:Nat) (r:List Int),r.length<=n->(∀a∈r,0<=a/\a<(k:Int))->r∈F5 k n
 |0,r,h,hr=>X8 0 r (by lia) hr
 |n+1,r,h,hr=>by
  show r∈F5 k n++lvR k (n+1);rcases cI n r.length with z|z
  ·exact ah _ (X8 (n+1) r (by lia) hr)
  ·exact ak _ (all_rows n r z hr)
def a5i{m:i6}{k:Nat}(w:WF m k){p:List Int}{s:Int}(h0:0<=s)(h1:s<m.length)(hp:∀x∈p,0<=x/\x<(k:Int))(hl:p.length<=13000) :
  E7 [.list (m.map rwD),.int s,.list (p.map .int)]=xn (.tuple [.list ((c6 m s p).1.map .int),.int (c6 m s p).2]):=by
 unfold E7;rw[z9 (by simp[VS.argsOk,imm])];unfold a7z;walk_at "ev";rw[a1c (ds:=p.map .int) (by walk_at "ev") (p7 p)];walk_at "ev";refine E5 (λZ=>∃x y:D,Z=[.list (m.map rwD),.int (c6 m s p).2,.list (p.map .int),.list ((c6 m s p).1.map .int),x,y]) ?_ ?_
 ·obtain⟨Z',h2,x,y,rfl⟩:=t7 (enc:=aO) (set:=t8 4) (xs:=p) (Z:=[.list (m.map rwD),.int s,.list (p.map .int),.list [],.none,.none])
   (g:=(f8 (i9 5 (e2 u9 (e2 dIx (a6 0) (a6 1)) (a6 4))) (f8 (M8 3 (.l .i) y8 (e2 u9 (a6 5) (eC (.int 0)))) (i9 1 (e2 u9 (a6 5) (eC (.int 1)))))))
   (λpre Z=>∃x y:D,Z=[.list (m.map rwD),.int (c6 m s pre).2,.list (p.map .int),.list ((c6 m s pre).1.map .int),x,y]) ⟨_,_,rfl⟩ (by
    rintro pre a post e Z ⟨x,y,rfl⟩;have nc:∀b∈pre,0<=b/\b<(k:Int):=λb hb=>hp b (by rw[e];exact ak _ hb)
    have ha:=hp a (by rw[e];simp);have hs:=D5 w pre s h0 h1 nc;have hr:=w.row hs.1 hs.2;have hlen:pre.length<13000:=by have:=dB dY e;simp at this;lia
    refine⟨_,[.list (m.map rwD),.int (c6 m s (pre++[a])).2,.list (p.map .int),.list ((c6 m s (pre++[a])).1.map .int),.int a,stD (stp m (c6 m s pre).2 a)],rfl,?_,_,_,rfl⟩;walk_at "ev";rw[a2I hs.1 hs.2];walk_at "ev";rw[b1Z ha.1 (by lia)];walk_at "ev";rw[a0v (by rw[ai,A7];lia)];walk_at "ev";rw[S9,aN];rfl)
  exact⟨_,h2,_,_,rfl⟩
 ·rintro Z ⟨x,y,rfl⟩;walk_at "ev"
def a5j(C:Can L k)(hA:AllMet L k W)(j:Nat):j<L.length->(j:Int)∈W.map (·.1):=by
 induction j using Nat.strongRecOn with
 |_ j ih=>
  intro hj;have h1:=C.lead j hj;have hc:=b2k hj;have hp:=C.pre (Zq:=(aA j).flatMap (nxs L k)) (Y:=(j::(aA (L.length-j-1)).map (λi=>j+1+i)).flatMap (nxs L k)) (by rw[hc,eA]);have hm:(j:Int)∈dkk [0] ((aA j).flatMap (nxs L k)):=by rw[hp];exact b7y.mpr ⟨by lia,by lia⟩
  rcases (L1 _ _).mp hm with z|z
  ·have:(j:Int)=0:=by simpa using z
   rw[this];exact aG.mpr ⟨_,hA.zero,rfl⟩
  ·obtain⟨i,hi,h2⟩:=cD.mp z;obtain⟨a,ha,h3⟩:=aG.mp h2;have gC:=bI.mp hi;obtain⟨⟨t,p⟩,oM,ju⟩:=aG.mp (ih i gC (by lia));have ju:t=(i:Int):=ju;subst ju;obtain⟨q,hq,_⟩:=hA.next oM (bI.mp ha);exact aG.mpr ⟨_,hq,h3⟩
theorem b5s(k:Nat):∀n,∀r∈lvR k n,∀a∈r,0<=a/\a<(k:Int)
 |0,r,hr,a,ha=>by
  have:r=[]:=by simpa[lvR]using hr
  rw[this]at ha;cases ha
 |n+1,r,hr,a,ha=>by
  have qu:r∈lng k (lvR k n):=hr;unfold lng at qu;obtain⟨q,hq,h2⟩:=cD.mp qu;obtain⟨x,hx,rfl⟩:=aG.mp h2;have:=bI.mp hx;rcases aq.mp ha with z|z
  ·exact b5s k n q hq a z
  ·rw[ao.mp z];lia
theorem b5t(k:Nat):∀n,∀r∈F5 k n,∀a∈r,0<=a/\a<(k:Int)
 |0,r,hr=>b5s k 0 r hr
 |n+1,r,hr=>by
  have qu:r∈F5 k n++lvR k (n+1):=hr;rcases aq.mp qu with z|z
  ·exact b5t k n r z
  ·exact b5s k (n+1) r z
def GoodP(k:Nat)(l:List (List Int)):Prop:=∀p∈l,(∀a∈p,0<=a/\a<(k:Int))/\p.length<=100
def GoodP.ins{k:Nat}{l:List (List Int)}(h:GoodP k l){p:List Int}(h1:∀a∈p,0<=a/\a<(k:Int))(h2:p.length<=100):GoodP k (a1u p l):=λq hq=>by
 rcases X7.mp hq with z|z
 ·exact h q z
 ·rw[z];exact⟨h1,h2⟩
abbrev eT(l:List (List Int)):VS.D:=.dict (v8 (λ_=>cV true) l)
noncomputable def q2:EvS:=(C1 4 true (L9 (eI (J6 (eI (J6 (a6 6) (a6 7))) (a6 8)))) (eC (.bool true)))
noncomputable def q1:EvS:=C0 (iL (e2 dIx (a6 2) (e2 dIx (eCl E7 (a7 (a6 0) (a7 (a6 5) (a7 (a6 7) b9)))) (eC (.int 1))))) (t8 8) q2
noncomputable def q0:EvS:=C0 (iL (a6 3)) (t8 7) q1
def InP(L:i6)(k e D:Nat)(s:Int)(p:List Int)(l:List (List Int)):Prop:=∀r∈F5 k (e+1),∀q∈mks L D (c6 L s r).2,p++r++q∈l
def b2s{L:i6}{k:Nat}(C:Can L k){D:Nat}(yx:Z5 [.list (L.map rwD)]=xn (.list ((aA L.length).map λ(s:Nat)=>bD ((mks L D s).map iD))))(hD:D+1<=L.length){W:V1}(hA:AllMet L k W)(hw:T2 [.list (L.map rwD)]=xn (.list (a0a W L.length))){e:Nat}(he:e<=30)(wR:k^(e+1)<=3125)(hR:(F5 k (e+1)).length<=64):∃ps:List (List Int),C4 [.list (L.map rwD),.int (e:Nat)]=xn (.list (ps.map iD))/\GoodP k ps/\ps.length<65536/\∀s p,(s,p)∈W->InP L k e D s p ps:=by
 have w:=C.wf;have hle:=w.le;have pK:=w.pos;have tQ:=hA.len;have e0:(rowAt L 0).length=k:=w.row (by lia) (by lia);unfold C4;rw[z9 (by simp[VS.argsOk,imm])];unfold a0k
 try walk_at "ev"
 rw[yx]
 try walk_at "ev"
 have vP:G7 [.list (L.map rwD)]=xn (.int (k:Nat)):=by
  unfold G7;rw[z9 (by simp[VS.argsOk])];unfold a1R
  try walk_at "ev"
  rw[a2I (by lia) (by lia)]
  try walk_at "ev"
  rw[e0]
  try rfl
 rw[vP]
 try walk_at "ev"
 rw[show ((e:Nat):Int)+1=((e+1:Nat):Int) by lia,a9m w.k1 w.k5 (by lia) wR]
 try walk_at "ev"
 have Cf:eCl T2 (a7 (a6 0) b9) [.list (L.map rwD),.int (e:Nat),.list ((aA L.length).map λ(s:Nat)=>bD ((mks L D s).map iD)),.list ((F5 k (e+1)).map lD),.dict [],.none,.none,.none,.none]=xn (.list (a0a W L.length)):=by
  try walk_at "ev"
  exact hw
 rw[c0h Cf]
 try walk_at "ev"
 unfold a0a;rw[a1s];have Au:∀t:Int,0<=t->t<L.length->dIx (.list ((aA L.length).map λ(s:Nat)=>bD ((mks L D s).map iD))) (.int t)=xn (.list ((mks L D t).map iD)):=λt t0 t1=>by
  show L2.atI ((aA L.length).map λ(s:Nat)=>bD ((mks L D s).map iD)) t=_;rw[a0u t0 (by rw[ai,bz];exact t1),de,jM,show ((t.toNat:Nat):Int)=t by lia]
 have hB:lL (xn (.list ((F5 k (e+1)).map lD)))=xn ((F5 k (e+1)).map lD):=rfl;generalize bD ((aA L.length).map λ(s:Nat)=>bD ((mks L D s).map iD))=A at Au ⊢;generalize bD ((F5 k (e+1)).map lD)=B at hB ⊢;refine a1d (R:=λo=>∃ps:List (List Int),o=xn (.list (ps.map iD))/\GoodP k ps/\ps.length<65536/\∀s p,(s,p)∈W->InP L k e D s p ps) (λZ=>∃(l:List (List Int)) (x y z u:VS.D),(GoodP k l/\∀s p,(s,p)∈W->InP L k e D s p l)/\l.length<65536/\Z=[.list (L.map rwD),.int (e:Nat),A,B,eT l,x,y,z,u]) ?_ ?_
 ·have inner:∀(s:Nat),s<L.length->∀(p r:List Int),(∀a∈p,0<=a/\a<(k:Int))->p.length<=30->r∈F5 k (e+1)->∀(l:List (List Int)),GoodP k l->l.length<70000->∀x:VS.D,∃l' x',q1 [.list (L.map rwD),.int (e:Nat),A,B,eT l,.int s,iD p,lD r,x]=xn (.nx [.list (L.map rwD),.int (e:Nat),A,B,eT l',.int s,iD p,lD r,x'])/\GoodP k l'/\l'.length<=l.length+31/\(∀z∈l,z∈l')/\∀q∈mks L D (c6 L s r).2,p++r++q∈l':=by
   intro s hs p r hp gE hr l g hl x;have yf:=b5t k _ r hr;have yg:=b0B k _ r hr;have pQ:=D5 w r s (by lia) (by lia) yf;generalize ht:(c6 L s r).2=t at pQ;have Cg:e2 dIx (a6 2) (e2 dIx (eCl E7 (a7 (a6 0) (a7 (a6 5) (a7 (a6 7) b9)))) (eC (.int 1))) [.list (L.map rwD),.int (e:Nat),A,B,eT l,.int s,iD p,lD r,x]=xn (.list ((mks L D t).map iD)):=by
    have h2:E7 [.list (L.map rwD),.int s,lD r]=xn (.tuple [.list ((c6 L s r).1.map .int),.int (c6 L s r).2]):=a5i w (by lia) (by lia) yf (by lia)
    try walk_at "ev"
    rw[h2]
    try walk_at "ev"
    rw[ht];exact Au t pQ.1 pQ.2
   unfold q1;rw[b3q,b4o,Cg];show ∃l' x',U9 (t8 8) q2 ((mks L D t).map iD) _=_/\_;have CK:=b0z (D:=D) w t;obtain⟨Z',g1,l',x',q1,q2,i1,i2,rfl⟩:=t7 (enc:=iD) (set:=t8 8) (xs:=mks L D t) (g:=q2) (Z:=[.list (L.map rwD),.int (e:Nat),A,B,eT l,.int s,iD p,lD r,x])
    (λpre Z=>∃(l':List (List Int)) (x':VS.D),GoodP k l'/\l'.length<=l.length+pre.length/\(∀z∈l,z∈l')/\(∀q∈pre,p++r++q∈l')/\Z=[.list (L.map rwD),.int (e:Nat),A,B,eT l',.int s,iD p,lD r,x']) ⟨l,x,g,ay _,λ_ h=>h,λ_ h=>(nomatch h),rfl⟩ (by
     rintro pre q post e1 Z ⟨l',x',q1,q2,i1,i2,rfl⟩;have hq:q∈mks L D t:=by rw[e1];simp
     obtain⟨ym,Cr⟩:=a6t w pQ.1 pQ.2 hq;have vb:pre.length<(mks L D t).length:=by rw[e1];simp
     have yW:eI (J6 (eI (J6 (a6 6) (a6 7))) (a6 8)) [.list (L.map rwD),.int (e:Nat),A,B,eT l',.int s,iD p,lD r,iD q]=xn (.list ((p++r++q).map .int)):=by
      rw[a7v,a2t,a7v,a2t];show lIs (a8R (lIs (a8R (xn (.list (p.map .int))) (xn (.list (r.map .int))))) (xn (.list (q.map .int))))=_;rw[X1 (by lia),Z3,X1 (by rw[az];lia),Z3]
     have mB:=a4e (p:=p++r++q) (l:=l');refine⟨_,[.list (L.map rwD),.int (e:Nat),A,B,eT (a1u (p++r++q) l'),.int s,iD p,lD r,iD q],rfl,?_,a1u (p++r++q) l',iD q,q1.ins (λa ha=>?_) (by rw[az,az];lia),by rw[az,bW];lia,λz hz=>X7.mpr (.inl (i1 z hz)),λz hz=>X7.mpr ((aq.mp hz).elim (λh=>.inl (i2 z h)) λh=>.inr (by rw[ao.mp h])),rfl⟩
     ·show C1 4 true _ _ [.list (L.map rwD),.int (e:Nat),A,B,eT l',.int s,iD p,lD r,iD q]=_;rw[a6q (g:=(λ_=>cV true)) (a:=p++r++q) (l:=l') rfl (a1p (ds:=(p++r++q).map .int) yW (p7 _)) rfl (by lia)];rfl
     ·rcases aq.mp ha with z|z
      ·rcases aq.mp z with z|z
       ·exact hp a z
       ·exact yf a z
      ·exact ym a z)
   exact⟨l',x',g1,q1,by lia,i1,i2⟩
  have middle:∀(s:Nat),s<L.length->∀(p:List Int),(∀a∈p,0<=a/\a<(k:Int))->p.length<=30->∀(l:List (List Int)),GoodP k l->l.length<60000->∀y x:VS.D,∃l' y' x',q0 [.list (L.map rwD),.int (e:Nat),A,B,eT l,.int s,iD p,y,x]=xn (.nx [.list (L.map rwD),.int (e:Nat),A,B,eT l',.int s,iD p,y',x'])/\GoodP k l'/\l'.length<=l.length+2000/\(∀z∈l,z∈l')/\InP L k e D s p l':=by
   intro s hs p hp gE l g hl y x;unfold q0;rw[b3q,b4o,show a6 3 [.list (L.map rwD),.int (e:Nat),A,B,eT l,.int s,iD p,y,x]=xn B from rfl,hB];show ∃l' y' x',U9 (t8 7) q1 ((F5 k (e+1)).map lD) _=_/\_;obtain⟨Z',g1,l',y',x',q1,q2,j1,j2,rfl⟩:=t7 (enc:=lD) (set:=t8 7) (xs:=F5 k (e+1)) (g:=q1) (Z:=[.list (L.map rwD),.int (e:Nat),A,B,eT l,.int s,iD p,y,x])
    (λpre Z=>∃(l':List (List Int)) (y' x':VS.D),GoodP k l'/\l'.length<=l.length+31*pre.length/\(∀z∈l,z∈l')/\(∀r∈pre,∀q∈mks L D (c6 L s r).2,p++r++q∈l')/\Z=[.list (L.map rwD),.int (e:Nat),A,B,eT l',.int s,iD p,y',x']) ⟨l,y,x,g,ay _,λ_ h=>h,λ_ h=>(nomatch h),rfl⟩ (by
     rintro pre r post e1 Z ⟨l',y',x',q1,q2,j1,j2,rfl⟩;have hr:r∈F5 k (e+1):=by rw[e1];simp
     have vb:pre.length<(F5 k (e+1)).length:=by rw[e1];simp
     obtain⟨l2,x2,i1,i2,i3,i4,i5⟩:=inner s hs p r hp gE hr l' q1 (by lia) x';refine⟨_,_,rfl,i1,l2,lD r,x2,i2,by rw[az,bW];lia,λz hz=>i4 z (j1 z hz),λr' qu=>?_,rfl⟩;rcases aq.mp qu with h|h
     ·exact λq hq=>i4 _ (j2 r' h q hq)
     ·rw[ao.mp h];exact i5)
   exact⟨l',y',x',g1,q1,by lia,j1,j2⟩
  obtain⟨Z',g1,l',x',y',z',u',q1,q2,j2,rfl⟩:=t7 (enc:=λ(a:Nat)=>dm [.int (a:Int),wyD W a]) (set:=a1z 5 6) (xs:=aA L.length) (g:=q0) (Z:=[.list (L.map rwD),.int (e:Nat),A,B,.dict [],.none,.none,.none,.none])
   (λpre Z=>∃(l':List (List Int)) (x y z u:VS.D),GoodP k l'/\l'.length<=2000*pre.length/\(∀s∈pre,∀p,((s:Int),p)∈W->InP L k e D s p l')/\Z=[.list (L.map rwD),.int (e:Nat),A,B,eT l',x,y,z,u]) ⟨[],.none,.none,.none,.none,λp hp=>(nomatch hp),cE _,λ_ h=>(nomatch h),rfl⟩ (by
    rintro pre s post e1 Z ⟨l',x,y,z,u,q1,q2,j2,rfl⟩;have hs:s<L.length:=bI.mp (by rw[e1];simp);have vb:pre.length<L.length:=by have:=dB dY e1;simp at this;lia
    obtain⟨⟨t,p⟩,oM,ju⟩:=aG.mp (a5j C hA s hs);have ju:t=(s:Int):=ju;subst ju;have CV:=hA.leads p.length (ay _) oM;have tX:=hA.ql _ oM;obtain⟨l2,y2,x2,i1,i2,i3,i4,i5⟩:=middle s hs p CV.2 (by have:p.length<=W.length:=tX;lia) l' q1 (by lia) z u;have De:∀s'∈pre++[s],∀p',((s':Int),p')∈W->InP L k e D s' p' l2:=λs' iO p' wK=>by
     rcases aq.mp iO with h|h
     ·exact λr hr q hq=>i4 _ (j2 s' h p' wK r hr q hq)
     ·have e2:=ao.mp h;subst e2;have e3:p'=p:=(zJ λx y e=>by cases e;rfl).mp (bD.inj ((a6p hA.nodup wK).symm.trans (a6p hA.nodup oM)));rw[e3];exact i5
    refine⟨[.list (L.map rwD),.int (e:Nat),A,B,eT l',.int s,iD p,z,u],_,?_,i1,l2,_,_,_,_,i2,by rw[az,bW];lia,De,rfl⟩;rw[a6p hA.nodup oM];rfl)
  rw[bz]at q2;have hq:∀s p,(s,p)∈W->InP L k e D s p l':=λs p h=>by
   have hr:=hA.rch.range s (cH (f:=(·.1)) h);have:=j2 s.toNat (bI.mpr (by lia)) p;rw[show ((s.toNat:Nat):Int)=s by lia]at this;exact this h
  exact⟨_,g1,l',x',y',z',u',⟨q1,hq⟩,by lia,rfl⟩
 ·rintro Z ⟨l,x,y,z,u,⟨g,g2⟩,hl,rfl⟩;refine⟨V0 l,?_,λp hp=>g p ((A9 l).mem_iff.mp hp),by rw[(A9 l).length_eq];exact hl,λs p h r hr q hq=>(A9 l).mem_iff.mpr (g2 s p h r hr q hq)⟩;have hc:(r9 (iI (iL (a0B a0E (a6 4)))) [] pt1 tT (eI (a0P (a6 0)))) [.list (L.map rwD),.int (e:Nat),A,B,eT l,x,y,z,u]=xn (.list ((V0 l).map iD)):=by
   refine O3 (enc:=A8) (xs:=V0 l) iD ?_ (by rw[(A9 l).length_eq];lia) λp _=>⟨[A8 p],rfl,?_⟩
   ·rw[a1c (ds:=(V0 l).map A8) ?_ (n6 _ a7K _)];rw[b4o,a7J (g:=(λ_=>cV true)) (l:=l) rfl (by lia) λp _=>b0w p];rfl
   ·have hi:=p7 p;show eI (a0P (a6 0)) [.tuple (p.map .int)]=_;walk_at "ev"
  try walk_at "ev"
  rw[hc]
  try rfl
end Prog
namespace VS
open PySem L2
def c0n:a0O true [.int i,.int j]=xn (.int (max i j)):=by
 show xn (aO (if j>i then j else i))=_
 congr 2;by_cases c:j>i
 ·rw[aB c];lia
 ·rw[aJ c];lia
end VS
namespace Prog
open PySem L2 VS
def b2t(w:WF m k):G7 [.list (m.map rwD)]=xn (.int (k:Nat)):=by
 have pK:=w.pos;have e0:(rowAt m 0).length=k:=w.row (by lia) (by lia);unfold G7;rw[z9 (by simp[VS.argsOk])];unfold a1R
 try walk_at "ev"
 rw[a2I (by lia) (by lia)]
 try walk_at "ev"
 rw[e0]
 try rfl
def b2u(h1:1<=M)(Eg:M<=30):O1 [.int M,.int 30]=xn .none:=by
 unfold O1;rw[b8a (by simp[VS.argsOk,imm])];unfold a2x
 try walk_at "ev"
 rw[show D0 [.int M]=xn (.bool true) by unfold D0;rw[z9 (by simp[VS.argsOk])];unfold a0C;walk_at "ev"]
 try walk_at "ev"
 rw[aQ h1]
 try walk_at "ev"
 rw[aQ Eg]
 try walk_at "ev"
 try rfl
def b2v{m:i6}{k:Nat}(w:WF m k){L:i6}(hL:T1 [.list (m.map rwD)]=xn (.list (L.map rwD)))(C:Can L k){M:Int}{e:Nat}(M1:1<=M)(EM:M<=30)(he:(e:Int)=max (M-(L.length:Int)) 0)(ku:szF L.length k e<=3000)
  {ps:List (List Int)} (tY:C4 [.list (L.map rwD),.int (e:Nat)]=xn (.list (ps.map iD))) (g:GoodP k ps) (hl:ps.length<65536) :
  a6g [.list (m.map rwD),.int M]=xn (.list (ps.map λp=>dm [iD p,iD (c6 m 0 p).1])):=by
 have Ec:=C.wf.le;have Eb:=C.wf.pos;have pK:=w.pos;have k1:=w.k1;have k5:=w.k5;unfold a6g;rw[z9 (by simp[VS.argsOk])];unfold b4y
 try walk_at "ev"
 rw[b2u M1 EM]
 try walk_at "ev"
 rw[hL]
 try walk_at "ev"
 rw[c0n,<-he]
 try walk_at "ev"
 rw[b2t w]
 try walk_at "ev"
 rw[b7H _ _ _ (by lia) (by lia) (by lia) (by lia) (by lia) (by lia)]
 try walk_at "ev"
 rw[ba (by lia)]
 try walk_at "ev"
 rw[tY]
 try walk_at "ev"
 rw[O3 (enc:=iD) (xs:=ps) (λp=>dm [iD p,iD (c6 m 0 p).1]) (by try walk_at "ev") (by lia) λp hp=>⟨[iD p],rfl,?_⟩]
 ·try rfl
 ·show V7 (a7 (a6 0) (a7 (e2 dIx (eCl E7 (a7 (a6 1) (a7 (eC (.int 0)) (a7 (a6 0) b9)))) (eC (.int 0))) b9)) [iD p,.list (m.map rwD)]=_
  try walk_at "ev"
  rw[a5i w (by lia) (by lia) (g p hp).1 (by have:=(g p hp).2;lia)]
  try walk_at "ev"
  try rfl
end Prog
local macro_rules | `(tactic| walk_at "evc")=>`(tactic| first | (walk_at "ev";repeat (simp -implicitDefEqProofs (disch:=first | omega | assumption | decide) only [Prog.a3S];try walk_at "ev")) | (simp -implicitDefEqProofs (disch:=first | omega | assumption | decide) only [Prog.a3S];repeat (first | walk_at "ev" | simp -implicitDefEqProofs (disch:=first | omega | assumption | decide) only [Prog.a3S])))
namespace Prog
open PySem L2 VS
def b2w(ns:List Int):∃mn:List Int,m_law_pool [.list (ns.map .int),.int 2]=xn (.list (mn.map .int))/\mn.length=2:=by
 unfold m_law_pool;rw[z9 (by simp[VS.argsOk,imm])];unfold b_law_pool;walk_at "evc";by_cases c:y7 ns 2 % 3=0
 ·rw[aQ c];walk_at "evc";exact⟨[_,_],rfl,rfl⟩
 ·rw[ba c];walk_at "evc";by_cases c2:y7 ns 2 % 3=1
  ·rw[aQ c2];walk_at "evc";exact⟨[_,_],rfl,rfl⟩
  ·rw[ba c2];walk_at "evc";have x0:=b7i ns (2+1);have x1:y7 ns (2+1)<2147483629:=du _ (by decide);have hp:b0U (y7 ns (2+1)) 7=true:=by
    unfold b0U;simp only[aD,Bg];exact⟨⟨by decide,by decide⟩,by lia⟩
   rw[v_pow (i:=10) (j:=60) (by decide),v_pow hp];have Es:(10^(60:Int).toNat:Int)=big:=by decide
   rw[Es];have BP:=c0a;generalize big=T at BP;walk_at "evc";rw[a1B (i:=2) (by decide)];walk_at "evc"
   try rw[v_mod (by lia)]
   try walk_at "evc"
   exact⟨[_,_],rfl,rfl⟩
local macro_rules | `(tactic| walk_at "ev1")=>`(tactic| simp -implicitDefEqProofs only [VS.b3p,VS.b7S,VS.b7R,VS.a9H,VS.b3o,VS.b3n,mT,fU])
def a6w(ns:List Int):∃(m:i6) (k:Nat),m_law_machine [.list (ns.map .int)]=xn (.list (m.map rwD))/\WF m k/\m.length<=5/\k<=3:=by
 unfold m_law_machine;rw[z9 (by simp[VS.argsOk])];unfold b_law_machine;walk_at "evc";have a0:=dS (y7 ns 0) (show (5:Int)≠0 by decide);have a1:=du (y7 ns 0) (show (0:Int)<5 by decide);have b0:=dS (y7 ns 1) (show (3:Int)≠0 by decide);have b1:=du (y7 ns 1) (show (0:Int)<3 by decide);obtain⟨n,hn⟩:∃n:Nat,1+y7 ns 0 % 5=n:=⟨(1+y7 ns 0 % 5).toNat,by lia⟩;obtain⟨k,hk⟩:∃k:Nat,1+y7 ns 1 % 3=k:=⟨(1+y7 ns 1 % 3).toNat,by lia⟩;rw[hn,hk];have n1:1<=n:=by lia
 have n5:n<=5:=by lia
 have k1:1<=k:=by lia
 have k3:k<=3:=by lia
 obtain⟨mn,hm,sM⟩:=b2w ns;rw[hm];walk_at "evc";rw[a8m (n:=n) (by walk_at "evc") (by lia) (by lia),bK];walk_at "evc";have row:∀s:Nat,s<n->∀(rows:D) (y z:D),∃(r:List (Int×Int)) (x' y':D),r.length=k/\(∀p∈r,0<=p.2/\p.2<(n:Int))/\
   (C0 (iR (a6 2)) (t8 7) (f8 (i9 8 (eCl m_law_mixed (a7 (a6 0) (a7 (e2 y9 (e2 y9 (eC (.int 10)) (e2 Z8 (a6 5) (a6 2))) (a6 7)) b9)))) (M8 6 (.l .i) y8 (V7 (a7 (e2 a3f (a6 3) (e2 J0 (a6 8) (eC (.int 2)))) (a7 (e2 J0 (e2 b0T (a6 8) (eC (.int 6))) (a6 1)) b9))))))
    [.list (ns.map .int),.int n,.int k,.list (mn.map .int),rows,.int s,.list [],y,z]=xn (.nx [.list (ns.map .int),.int n,.int k,.list (mn.map .int),rows,.int s,rwD r,x',y']):=by
  intro s hs rows y z;walk_at "evc";rw[a8m (n:=k) (by walk_at "evc") (by lia) (by lia),bK];walk_at "evc";obtain⟨Z',h1,r,x',y',h2,h3,rfl⟩:=N3 (n:=k) (set:=t8 7) (g:=(f8 (i9 8 (eCl m_law_mixed (a7 (a6 0) (a7 (e2 y9 (e2 y9 (eC (.int 10)) (e2 Z8 (a6 5) (a6 2))) (a6 7)) b9)))) (M8 6 (.l .i) y8 (V7 (a7 (e2 a3f (a6 3) (e2 J0 (a6 8) (eC (.int 2)))) (a7 (e2 J0 (e2 b0T (a6 8) (eC (.int 6))) (a6 1)) b9))))))
   (Z:=[.list (ns.map .int),.int n,.int k,.list (mn.map .int),rows,.int s,.list [],y,z])
   (λj Z=>∃(r:List (Int×Int)) (x' y':D),r.length=j/\(∀p∈r,0<=p.2/\p.2<(n:Int))/\Z=[.list (ns.map .int),.int n,.int k,.list (mn.map .int),rows,.int s,rwD r,x',y'])
   ⟨[],y,z,rfl,λp hp=>(nomatch hp),rfl⟩ (by
    rintro j hj Z ⟨r,x',y',hr,hp,rfl⟩;have Fl:(s:Int)*(k:Int)<=30*5:=by
     have:s*k<=30*5:=pZ (by lia) (by lia)
     exact_mod_cast this
    have Cm:0<=(s:Int)*(k:Int):=Int.mul_nonneg (by lia) (by lia);have c0:=dS (y7 ns (10+(s:Int)*k+j)) (show (2:Int)≠0 by decide);have c1:=du (y7 ns (10+(s:Int)*k+j)) (show (0:Int)<2 by decide);have d0:=dS (y7 ns (10+(s:Int)*k+j) / 6) (show ((n:Int))≠0 by lia);have d1:=du (y7 ns (10+(s:Int)*k+j) / 6) (show (0:Int)<(n:Int) by lia);refine⟨_,[.list (ns.map .int),.int n,.int k,.list (mn.map .int),rows,.int s,rwD (r++[(mn.getD (y7 ns (10+(s:Int)*k+j) % 2).toNat 0,y7 ns (10+(s:Int)*k+j) / 6 % n)]),.int j,.int (y7 ns (10+(s:Int)*k+j))],rfl,?_,_,_,_,by simp[hr],?_,rfl⟩
    ·walk_at "evc";rw[a1B (i:=s) (by lia)];walk_at "evc";rw[Q4 c0 (by rw[sM];exact c1)];walk_at "evc";unfold rwD;rw[a0v (by simp;lia),aN];rfl
    ·intro p wK;rcases aq.mp wK with z|z
     ·exact hp p z
     ·rw[ao.mp z];exact⟨d0,d1⟩)
  exact⟨r,x',y',h2,h3,h1⟩
 refine a1d (R:=λo=>∃(m:i6) (k:Nat),o=xn (.list (m.map rwD))/\WF m k/\m.length<=5/\k<=3) (λZ=>∃(m:i6) (x y z w:D),m.length=n/\(∀r∈m,r.length=k/\∀p∈r,0<=p.2/\p.2<(n:Int))/\Z=[.list (ns.map .int),.int n,.int k,.list (mn.map .int),.list (m.map rwD),x,y,z,w]) ?_ ?_
 ·obtain⟨Z',h1,h2⟩:=N3 (n:=n) (set:=t8 5) (Z:=[.list (ns.map .int),.int n,.int k,.list (mn.map .int),.list [],.none,.none,.none,.none])
   (g:=(f8 (i9 6 (x4 b9)) (f8 (C0 (iR (a6 2)) (t8 7) (f8 (i9 8 (eCl m_law_mixed (a7 (a6 0) (a7 (e2 y9 (e2 y9 (eC (.int 10)) (e2 Z8 (a6 5) (a6 2))) (a6 7)) b9)))) (M8 6 (.l .i) y8 (V7 (a7 (e2 a3f (a6 3) (e2 J0 (a6 8) (eC (.int 2)))) (a7 (e2 J0 (e2 b0T (a6 8) (eC (.int 6))) (a6 1)) b9)))))) (M8 4 (.l (.l .i)) y8 (a6 6)))))
   (λj Z=>∃(m:i6) (x y z w:D),m.length=j/\(∀r∈m,r.length=k/\∀p∈r,0<=p.2/\p.2<(n:Int))/\Z=[.list (ns.map .int),.int n,.int k,.list (mn.map .int),.list (m.map rwD),x,y,z,w])
   ⟨[],.none,.none,.none,.none,rfl,λr hr=>(nomatch hr),rfl⟩ (by
    rintro j hj Z ⟨m,x,y,z,w,sN,sM,rfl⟩;obtain⟨r,x',y',yl,yk,Cp⟩:=row j hj (.list (m.map rwD)) z w;refine⟨_,[.list (ns.map .int),.int n,.int k,.list (mn.map .int),.list ((m++[r]).map rwD),.int j,rwD r,x',y'],rfl,?_,m++[r],_,_,_,_,by simp[sN],?_,rfl⟩
    ·rw[a6L];walk_at "ev1";rw[a6L,Cp];walk_at "evc";rw[a0v (by simp;lia),aN];rfl
    ·intro q hq;rcases aq.mp hq with c|c
     ·exact sM q c
     ·rw[ao.mp c];exact⟨yl,yk⟩)
  exact⟨Z',h1,h2⟩
 ·rintro Z ⟨m,x,y,z,w,h1,h2,rfl⟩;walk_at "evc";exact⟨m,k,rfl,⟨by lia,by lia,k1,by lia,λr hr=>(h2 r hr).1,λr hr p hp=>by rw[h1];exact (h2 r hr).2 p hp⟩,by lia,k3⟩
def X9{m:i6}{k:Nat}(w:WF m k){p:List Int}{s:Int}(h0:0<=s)(h1:s<m.length)(hp:∀x∈p,0<=x/\x<(k:Int))(hl:p.length<=13000) :
  m_law_walked [.list (m.map rwD),.int s,.list (p.map .int)]=xn (.tuple [.list ((c6 m s p).1.map .int),.int (c6 m s p).2]):=by
 unfold m_law_walked;rw[z9 (by simp[VS.argsOk,imm])];unfold b_law_walked;walk_at "ev";rw[a1c (ds:=p.map .int) (by walk_at "ev") (p7 p)];walk_at "ev";refine E5 (λZ=>∃x y:D,Z=[.list (m.map rwD),.int (c6 m s p).2,.list (p.map .int),.list ((c6 m s p).1.map .int),x,y]) ?_ ?_
 ·obtain⟨Z',h2,x,y,rfl⟩:=t7 (enc:=aO) (set:=t8 4) (xs:=p) (Z:=[.list (m.map rwD),.int s,.list (p.map .int),.list [],.none,.none])
   (g:=f8 (a6K 5 1 (e2 u9 (e2 dIx (a6 0) (a6 1)) (a6 4))) (M8 3 (.l .i) y8 (a6 5)))
   (λpre Z=>∃x y:D,Z=[.list (m.map rwD),.int (c6 m s pre).2,.list (p.map .int),.list ((c6 m s pre).1.map .int),x,y]) ⟨_,_,rfl⟩ (by
    rintro pre a post e Z ⟨x,y,rfl⟩;have nc:∀b∈pre,0<=b/\b<(k:Int):=λb hb=>hp b (by rw[e];exact ak _ hb)
    have ha:=hp a (by rw[e];simp);have hs:=D5 w pre s h0 h1 nc;have hr:=w.row hs.1 hs.2;have hlen:pre.length<13000:=by have:=dB dY e;simp at this;lia
    refine⟨_,[.list (m.map rwD),.int (c6 m s (pre++[a])).2,.list (p.map .int),.list ((c6 m s (pre++[a])).1.map .int),.int a,.int (stp m (c6 m s pre).2 a).1],rfl,?_,_,_,rfl⟩;walk_at "ev";rw[a2I hs.1 hs.2];walk_at "ev";rw[b1Z ha.1 (by lia)];walk_at "ev";rw[a0v (by rw[ai,A7];lia),S9,aN];rfl)
  exact⟨_,h2,_,_,rfl⟩
 ·rintro Z ⟨x,y,rfl⟩;walk_at "ev"
def b0D(ns:List Int){q:Int}(q0:0<=q)(q1:q<=40){L:i6}{k:Nat}(w:WF L k){W:V1}(hA:AllMet L k W)(g_:∀j:Nat,j<L.length->(j:Int)∈W.map (·.1)){e:Nat}(he:e<=2) :
  ∃(i:Int) (p r:List Int),(i,p)∈W/\r.length<=e+1/\(∀a∈r,0<=a/\a<(k:Int))/\m_law_head [.list (ns.map .int),.int q,.list (L.map rwD),.list (a0a W L.length),.int (e:Nat)]=xn (.list ((p++r).map .int)):=by
 have pK:=w.pos;have hle:=w.le;have k1:=w.k1;have e0:(rowAt L 0).length=k:=w.row (by lia) (by lia);have a0:=dS (y7 ns q) (show ((e:Nat):Int)+2≠0 by lia);have a1:=du (y7 ns q) (show (0:Int)<((e:Nat):Int)+2 by lia);obtain⟨n,hn⟩:∃n:Nat,y7 ns q % (((e:Nat):Int)+2)=n:=⟨(y7 ns q % (((e:Nat):Int)+2)).toNat,by lia⟩;have b0:=dS (y7 ns (q+5)) (show ((L.length:Nat):Int)≠0 by lia);have b1:=du (y7 ns (q+5)) (show (0:Int)<((L.length:Nat):Int) by lia);obtain⟨j,hj⟩:∃j:Nat,y7 ns (q+5) % ((L.length:Nat):Int)=j:=⟨(y7 ns (q+5) % ((L.length:Nat):Int)).toNat,by lia⟩;obtain⟨⟨i,p⟩,oM,ju⟩:=aG.mp (g_ j (by lia));have ju:i=(j:Int):=ju;subst ju;have tQ:=hA.len;have tX:p.length<=W.length:=hA.ql _ oM;refine⟨(j:Int),p,?_⟩;unfold m_law_head;rw[z9 (by simp[VS.argsOk,imm])];unfold b_law_head
 try walk_at "evc"
 rw[a8m (n:=n) (by try walk_at "evc";rw[hn]) (by lia) (by lia),bK]
 try walk_at "evc"
 refine a1d (R:=λo=>∃r:List Int,((j:Int),p)∈W/\r.length<=e+1/\(∀a∈r,0<=a/\a<(k:Int))/\o=xn (.list ((p++r).map .int))) (λZ=>∃(r:List Int) (x:VS.D),r.length=n/\(∀a∈r,0<=a/\a<(k:Int))/\Z=[.list (ns.map .int),.int q,.list (L.map rwD),.list (a0a W L.length),.int (e:Nat),.list (r.map .int),x]) ?_ ?_
 ·obtain⟨Z',h1,h2⟩:=N3 (n:=n) (set:=t8 6) (Z:=[.list (ns.map .int),.int q,.list (L.map rwD),.list (a0a W L.length),.int (e:Nat),.list [],.none]) (g:=(M8 5 (.l .i) y8 (e2 J0 (eCl m_law_mixed (a7 (a6 0) (a7 (e2 y9 (e2 y9 (a6 1) (eC (.int 1))) (a6 6)) b9))) (eCl s9 (a7 (e2 dIx (a6 2) (eC (.int 0))) b9)))))
   (λj Z=>∃(r:List Int) (x:VS.D),r.length=j/\(∀a∈r,0<=a/\a<(k:Int))/\Z=[.list (ns.map .int),.int q,.list (L.map rwD),.list (a0a W L.length),.int (e:Nat),.list (r.map .int),x]) ⟨[],.none,rfl,λ_ h=>(nomatch h),rfl⟩ (by
    rintro l hl Z ⟨r,x,hr,ha,rfl⟩;have c0:=dS (y7 ns (q+1+l)) (show ((k:Nat):Int)≠0 by lia);have c1:=du (y7 ns (q+1+l)) (show (0:Int)<((k:Nat):Int) by lia);refine⟨_,[.list (ns.map .int),.int q,.list (L.map rwD),.list (a0a W L.length),.int (e:Nat),.list ((r++[y7 ns (q+1+l) % k]).map .int),.int l],rfl,?_,_,_,by simp[hr],?_,rfl⟩
    ·try walk_at "evc"
     rw[a2I (by lia) (by lia)]
     try walk_at "evc"
     rw[e0]
     try walk_at "evc"
     rw[a0v (by simp;lia),aN];rfl
    ·intro a h;rcases aq.mp h with z|z
     ·exact ha a z
     ·rw[ao.mp z];exact⟨c0,c1⟩)
  exact⟨Z',h1,h2⟩
 ·rintro Z ⟨r,x,h1,h2,rfl⟩;refine⟨r,oM,by lia,h2,?_⟩
  try walk_at "evc"
  rw[a2t]
  try walk_at "evc"
  rw[b5j,v_mod (by lia),hj]
  try walk_at "evc"
  rw[b7B (by lia) (by lia),bK,a6p hA.nodup oM]
  try walk_at "evc"
  rw[X1 (by lia),Z3]
  try rfl
def b7I{g:List Int->VS.D}{l:List (List Int)}{p:List Int}(h:p∈l):m_law_told [.dict (v8 g l),.list (p.map .int)]=xn (g p):=by
 unfold m_law_told;rw[z9 (by simp[VS.argsOk])];unfold b_law_told;have e:a9R true (a6 0) (L9 (a6 1)) (x4 b9) [.dict (v8 g l),.list (p.map .int)]=xn (g p):=by
  unfold a9R;rw[show a6 0 [.dict (v8 g l),.list (p.map .int)]=xn (.dict (v8 g l)) from rfl,dG,a1p (a:=a6 1) (ds:=p.map .int) rfl (p7 p),dG,show x4 b9 [.dict (v8 g l),.list (p.map .int)]=xn (.list []) from rfl,dG];show (if (o8 true (A8 p)&&keysOk true (v8 g l))=true then _ else _)=_;rw[aB (by rw[a7I,fJ];exact a2a p)];show xn ((p9 (v8 g l) (A8 p)).getD _)=_;rw[a5h h];rfl
 try walk_at "ev"
 rw[e]
 try rfl
end Prog
local macro_rules | `(tactic| walk_at "evd")=>`(tactic| first | (walk_at "ev";repeat (simp -implicitDefEqProofs (disch:=first | omega | assumption | decide) only [VS.a2t,VS.b7a,VS.a9V,VS.a9W,VS.b7b];try walk_at "ev")) | (simp -implicitDefEqProofs (disch:=first | omega | assumption | decide) only [VS.a2t,VS.b7a,VS.a9V,VS.a9W,VS.b7b];repeat (first | walk_at "ev" | simp -implicitDefEqProofs (disch:=first | omega | assumption | decide) only [VS.a2t,VS.b7a,VS.a9V,VS.a9W,VS.b7b])))
namespace Prog
open PySem L2 VS
def a0m{m:i6}{s:Int}(h0:0<=s)(h1:s<m.length):E8 [.list (m.map rwD),.int s]=xn .none:=by
 unfold E8;rw[b8a (by simp[VS.argsOk,imm])];unfold a1j;walk_at "ev";have hb:T3 [.int s,.int m.length]=xn (.bool true):=by
  unfold T3;rw[z9 (by simp[VS.argsOk,imm])];unfold a3P;walk_at "ev";rw[show D0 [.int s]=xn (.bool true) by unfold D0;rw[z9 (by simp[VS.argsOk])];unfold a0C;walk_at "ev"];walk_at "ev";rw[aQ h0];walk_at "ev";rw[aQ h1]
 rw[hb];walk_at "ev"
 try rfl
def a9n{m:i6}{k:Nat}(w:WF m k):∃D:Nat,(∀s t:Int,0<=s->s<m.length->0<=t->t<m.length->lv m D s=lv m D t->lv m (D+1) s=lv m (D+1) t)/\D+1<=m.length/\
  ∀s t:Int,0<=s->s<m.length->0<=t->t<m.length->K9 [.list (m.map rwD),.int s,.int t]=xn (a1q (K5 m D s t)):=by
 obtain⟨D,h1,h2,_,h3⟩:=a1W w;have hle:=w.le;refine⟨D,h3,h2,λs t s0 s1 t0 t1=>?_⟩;unfold K9;rw[z9 (by simp[VS.argsOk])];unfold a1l;walk_at "ev";rw[a0m s0 s1];walk_at "ev";rw[a0m t0 t1];walk_at "ev";rw[h1];walk_at "ev";rw[a5f w (by lia) s0 s1 t0 t1,<-b0x]
 try walk_at "ev"
 try rfl
def c0o{n k e:Nat}(n5:n<=5)(k1:1<=k)(k3:k<=3)(e2:e<=2)(h:n*k<=8∨e=0):szF (n:Nat) (k:Nat) (e:Nat)<=3000/\k^(e+1)<=3125/\(F5 k (e+1)).length<=64/\e<=30:=by
 have h1:∀n,n<6->∀k,k<4->∀e,e<3->(8<n*k/\0<e)∨(szF (n:Nat) (k:Nat) (e:Nat)<=3000/\k^(e+1)<=27/\(F5 k (e+1)).length<=64):=by decide
 obtain⟨a,b,c⟩:=(h1 n (by lia) k (by lia) e (by lia)).resolve_left λz=>by lia
 exact⟨a,by lia,c,by lia⟩
def law_true(ns:List Int)(sJ:ns.length<=63):m_law [.list (ns.map .int)]=xn (.bool true):=by
 obtain⟨m,k,yx,w,m5,k3⟩:=a6w ns;obtain⟨L,hL,C,SL,Lm⟩:=b2n w;have hle:=w.le;have pK:=w.pos;have k1:=w.k1;have Eb:=C.wf.pos;have Ec:=C.wf.le;have e0:(rowAt m 0).length=k:=w.row (by lia) (by lia);obtain⟨Dm,Ey,FH,Ex⟩:=a9n w;obtain⟨DL,pN,Ez,Be⟩:=b5q C.wf;obtain⟨W,hA,hw⟩:=b7C C.wf;have g_:∀j:Nat,j<L.length->(j:Int)∈W.map (·.1):=a5j C hA;have c0:=dS (y7 ns 5) (show (3:Int)≠0 by decide);have c1:=du (y7 ns 5) (show (0:Int)<3 by decide);unfold m_law;rw[z9 (by simp[VS.argsOk])];unfold b_law
 try walk_at "evc"
 rw[yx]
 try walk_at "evc"
 rw[hL]
 try walk_at "evc"
 rw[a2I (by lia) (by lia)]
 try walk_at "evc"
 rw[e0]
 try walk_at "evc"
 rw[a1B (i:=(m.length:Nat)) (by lia)]
 try walk_at "evc"
 have key:∀R:EvS,(∀e:Nat,e<=2->(m.length*k<=8∨e=0)->a0t (R [.list (ns.map .int),.list (m.map rwD),.list (L.map rwD),.int (e:Nat),.none,.none,.none,.none,.none,.none,.none,.none,.none,.none,.none])=xn (.bool true))->
   a0t (thn (b1h (xn (decide (8<(m.length:Int)*(k:Int)))) (i9 3 (eC (.int 0))) E1 [.list (ns.map .int),.list (m.map rwD),.list (L.map rwD),.int (y7 ns 5 % 3),.none,.none,.none,.none,.none,.none,.none,.none,.none,.none,.none]) R)=xn (.bool true):=λR hR=>by
  by_cases c:8<(m.length:Int)*(k:Int)
  ·rw[aQ c];exact hR 0 (by lia) (.inr rfl)
  ·rw[ba c];have:=hR (y7 ns 5 % 3).toNat (by lia) (.inl (by
    have:((m.length*k:Nat):Int)=(m.length:Int)*(k:Int):=Int.natCast_mul _ _;lia))
   rw[show (((y7 ns 5 % 3).toNat:Nat):Int)=y7 ns 5 % 3 by lia]at this;exact this
 refine key _ λe nU ku=>?_
 clear key;obtain⟨i1,p1,r1,zc,yl,w_,Dk⟩:=b0D ns (q:=30) (by lia) (by lia) C.wf hA g_ nU;obtain⟨i2,p2,r2,zb,yk,wZ,Dj⟩:=b0D ns (q:=40) (by lia) (by lia) C.wf hA g_ nU;have Ed:L.length*k<=8∨e=0:=ku.imp_left λh=>cC (Nat.mul_le_mul_right k Lm) h
 obtain⟨f1,f2,f3,f4⟩:=c0o (n:=L.length) (by lia) k1 k3 nU Ed;obtain⟨ps,g1,g2,g3,g4⟩:=b2s C pN Ez hA hw f4 f2 f3;have vN:=b2v w hL C (M:=(L.length:Int)+(e:Int)) (e:=e) (by lia) (by lia) (by lia) f1 g1 g2 g3
 try walk_at "evc"
 rw[hw]
 try walk_at "evc"
 rw[Dk]
 try walk_at "evc"
 rw[Dj]
 try walk_at "evc"
 rw[vN]
 try walk_at "evc"
 have rM:=hA.leads p1.length (ay _) zc;have hd2:=hA.leads p2.length (ay _) zb;have ym:p1.length<=W.length:=hA.ql _ zc;have Cr:p2.length<=W.length:=hA.ql _ zb;have tQ:=hA.len;have in1:∀q∈mks L DL (c6 L 0 (p1++r1)).2,p1++r1++q∈ps:=by
  rw[Q1,rM.1];exact g4 i1 p1 zc r1 (all_rows _ r1 yl w_)
 have wG:∀q∈mks L DL (c6 L 0 (p2++r2)).2,p2++r2++q∈ps:=by
  rw[Q1,hd2.1];exact g4 i2 p2 zb r2 (all_rows _ r2 yk wZ)
 have rG:∀a∈p1++r1,0<=a/\a<(k:Int):=λa h=>(aq.mp h).elim (rM.2 a) (w_ a)
 have qw:∀a∈p2++r2,0<=a/\a<(k:Int):=λa h=>(aq.mp h).elim (hd2.2 a) (wZ a)
 have wO:(p1++r1).length<=40:=by rw[az];lia
 have oQ:(p2++r2).length<=40:=by rw[az];lia
 generalize p1++r1=o1 at in1 rG wO ⊢;generalize p2++r2=o2 at wG qw oQ ⊢;generalize bD (a0a W L.length)=Wd;refine E5 (λZ=>∃(l:List (List Int)) (x y:VS.D),(∀p∈ps,p∈l)/\Z=[.list (ns.map .int),.list (m.map rwD),.list (L.map rwD),.int (e:Nat),Wd,.list (o1.map .int),.list (o2.map .int),.dict (v8 (λp=>bD ((c6 m 0 p).1.map .int)) l),x,y,.none,.none,.none,.none,.none]) ?_ ?_
 ·obtain⟨Z',h1,l,x,y,h2,_,rfl⟩:=t7 (enc:=λp=>dm [iD p,iD (c6 m 0 p).1]) (set:=a1z 8 9) (xs:=ps) (g:=(C1 7 true (L9 (a6 8)) (a6 9))) (Z:=[.list (ns.map .int),.list (m.map rwD),.list (L.map rwD),.int (e:Nat),Wd,.list (o1.map .int),.list (o2.map .int),.dict [],.none,.none,.none,.none,.none,.none,.none])
   (λpre Z=>∃(l:List (List Int)) (x y:VS.D),(∀p∈pre,p∈l)/\l.length<=pre.length/\Z=[.list (ns.map .int),.list (m.map rwD),.list (L.map rwD),.int (e:Nat),Wd,.list (o1.map .int),.list (o2.map .int),.dict (v8 (λp=>bD ((c6 m 0 p).1.map .int)) l),x,y,.none,.none,.none,.none,.none]) ⟨[],.none,.none,λ_ h=>(nomatch h),ay _,rfl⟩ (by
    rintro pre p post e1 Z ⟨l,x,y,h1,h2,rfl⟩;have gE:pre.length<ps.length:=by rw[e1];simp
    have mB:=a4e (p:=p) (l:=l);refine⟨_,[.list (ns.map .int),.list (m.map rwD),.list (L.map rwD),.int (e:Nat),Wd,.list (o1.map .int),.list (o2.map .int),.dict (v8 (λp=>bD ((c6 m 0 p).1.map .int)) (a1u p l)),iD p,iD (c6 m 0 p).1,.none,.none,.none,.none,.none],rfl,?_,a1u p l,_,_,λq hq=>?_,by rw[az,bW];lia,rfl⟩
    ·show C1 7 true _ _ [.list (ns.map .int),.list (m.map rwD),.list (L.map rwD),.int (e:Nat),Wd,.list (o1.map .int),.list (o2.map .int),.dict (v8 (λp=>bD ((c6 m 0 p).1.map .int)) l),iD p,iD (c6 m 0 p).1,.none,.none,.none,.none,.none]=_;rw[a6q (g:=(λp=>bD ((c6 m 0 p).1.map .int))) (a:=p) (l:=l) rfl (a1p (ds:=p.map .int) rfl (p7 _)) rfl (by lia)];rfl
    ·exact X7.mpr ((aq.mp hq).elim (λh=>.inl (h1 q h)) λh=>.inr (ao.mp h)))
  exact⟨_,h1,l,x,y,h2,rfl⟩
 ·rintro Z ⟨l,x,y,tY,rfl⟩;have s1:=D5 w o1 0 (by lia) (by lia) rG;have s2:=D5 w o2 0 (by lia) (by lia) qw;have t1:=D5 C.wf o1 0 (by lia) (by lia) rG;have t2:=D5 C.wf o2 0 (by lia) (by lia) qw;have S1:=a4i o1 SL rG;have S2:=a4i o2 SL qw;have qG:∀(o:List Int) (q:List Int),(∀a∈o,0<=a/\a<(k:Int))->o++q∈ps->m_law_told [.dict (v8 (λp=>bD ((c6 m 0 p).1.map .int)) l),.list ((o++q).map .int)]=xn (.list (((c6 m 0 o).1++(c6 m (c6 m 0 o).2 q).1).map .int)):=λo q _ h=>by
   rw[b7I (tY _ h),Q1]
  try walk_at "evc"
  rw[X9 w (by lia) (by lia) rG (by lia)]
  try walk_at "evc"
  rw[X9 w (by lia) (by lia) qw (by lia)]
  try walk_at "evc"
  rw[Ex _ _ s1.1 s1.2 s2.1 s2.2]
  try walk_at "evc"
  have cat:∀(o q:List Int),o.length<=40->q.length<=40->lIs (a8R (xn (.list (o.map .int))) (xn (.list (q.map .int))))=xn (.list ((o++q).map .int)):=λo q h1 h2=>by rw[X1 (by lia),Z3]
  have cut:∀(xs ys:List Int) (n:Nat),xs.length=n->lIs (lSl (xn (.list ((xs++ys).map .int))) (xn (xn (n:Int))) (xn xI))=xn (.list (ys.map .int)):=λxs ys n h=>by
   rw[c1J (by lia) (by rw[az];lia),Z3,bK,<-h,List.drop_left]
  have len:∀(o q:List Int),((((c6 m 0 o).1++(c6 m (c6 m 0 o).2 q).1).length:Nat):Int)=(o.length:Int)+(q.length:Int):=λo q=>by rw[az,A7,A7];lia
  cases ht:K5 m Dm (c6 m 0 o1).2 (c6 m 0 o2).2 with
  |some q=>
   have ni:=b0C C.wf w Be t1.1 t1.2 t2.1 t2.2 s1.1 s1.2 s2.1 s2.2 S1 S2 ht;have uW:K5 m Dm (c6 m 0 o2).2 (c6 m 0 o1).2=xn q:=by
    unfold K5 at ht ⊢;rw[b5n,b0v];exact ht
   have sO:=b0C C.wf w Be t2.1 t2.2 t1.1 t1.2 s2.1 s2.2 s1.1 s1.2 S2 S1 uW;obtain⟨c,Cq,_,Ft,ug,Fs⟩:=U0 w s1.1 s1.2 s2.1 s2.2 ht;have wJ:∀a∈q,0<=a/\a<(k:Int):=(a6t C.wf t1.1 t1.2 ni).1;have tX:=(a6t C.wf t1.1 t1.2 ni).2;have gM:(c6 m (c6 m 0 o1).2 q).1≠(c6 m (c6 m 0 o2).2 q).1:=by rw[Cq];exact a7H w c _ _ s1.1 s1.2 s2.1 s2.2 ug
   show a0t (thn (b1h (xn true) _ _ _) _)=_;rw[b3l];show a0t (thn (f8 _ _ [.list (ns.map .int),.list (m.map rwD),.list (L.map rwD),.int (e:Nat),Wd,.list (o1.map .int),.list (o2.map .int),.dict (v8 (λp=>bD ((c6 m 0 p).1.map .int)) l),x,y,.int (c6 m 0 o1).2,.int (c6 m 0 o2).2,.list (q.map .int),.none,.none]) _)=_
   try walk_at "evc"
   try walk_at "evd"
   rw[cat o1 q wO (by lia)]
   try walk_at "evc"
   rw[qG o1 q rG (in1 q ni)]
   try walk_at "evc"
   try walk_at "evd"
   rw[cat o2 q oQ (by lia)]
   try walk_at "evc"
   rw[qG o2 q qw (wG q sO)]
   try walk_at "evc"
   rw[aQ (len o1 q)]
   try walk_at "evc"
   rw[aQ (len o2 q)]
   try walk_at "evc"
   rw[X9 w s1.1 s1.2 wJ (by lia)]
   try walk_at "evc"
   rw[X9 w s2.1 s2.2 wJ (by lia)]
   try walk_at "evc"
   rw[b7X,ba gM]
   try walk_at "evc"
   try walk_at "evd"
   rw[cut _ _ _ (A7 m o1 0),cut _ _ _ (A7 m o2 0)]
   try walk_at "evc"
   rw[b7Y,ba gM]
   try walk_at "evc"
   try rfl
  |none=>
   have CO:=(a4h w s1.1 s1.2 s2.1 s2.2).mp ht;have uZ:=b2r w Ey s1.1 s1.2 s2.1 s2.2 CO;have uh:(c6 L 0 o1).2=(c6 L 0 o2).2:=by
    have hs:Sim k L L (c6 L 0 o1).2 (c6 L 0 o2).2:=(S1.trans uZ).trans S2.symm;have:=C.apart (c6 L 0 o1).2.toNat (c6 L 0 o2).2.toNat (by lia) (by lia) (by rw[gK t1.1,gK t2.1];exact hs);lia
   rw[<-uh]at wG;show a0t (thn (b1h (xn false) _ _ _) _)=_;rw[b3m]
   try walk_at "evc"
   rw[pN]
   try walk_at "evc"
   rw[X9 C.wf (by lia) (by lia) rG (by lia)]
   try walk_at "evc"
   rw[a0u t1.1 (by rw[ai,bz];exact t1.2),de,jM,gK t1.1]
   try walk_at "evc"
   generalize a1q xI=z;have CK:=b0z (D:=DL) C.wf (c6 L 0 o1).2;refine E5 (λZ=>∃a b c:VS.D,Z=[.list (ns.map .int),.list (m.map rwD),.list (L.map rwD),.int (e:Nat),Wd,.list (o1.map .int),.list (o2.map .int),.dict (v8 (λp=>bD ((c6 m 0 p).1.map .int)) l),x,y,.int (c6 m 0 o1).2,.int (c6 m 0 o2).2,a,b,c]) ?_ ?_
   ·obtain⟨Z',h1,h2⟩:=t7 (enc:=iD) (set:=t8 12) (xs:=mks L DL (c6 L 0 o1).2) (g:=(f8 (i9 13 (eCl m_law_told (a7 (a6 7) (a7 (eI (J6 (a6 5) (a6 12))) b9)))) (f8 (i9 14 (eCl m_law_told (a7 (a6 7) (a7 (eI (J6 (a6 6) (a6 12))) b9)))) (f8 (sIf (a8a (tB (e2 dNe (eCl s9 (a7 (a6 13) b9)) (e2 y9 (eCl s9 (a7 (a6 5) b9)) (eCl s9 (a7 (a6 12) b9))))) (tB (e2 dNe (eCl s9 (a7 (a6 14) b9)) (e2 y9 (eCl s9 (a7 (a6 6) b9)) (eCl s9 (a7 (a6 12) b9)))))) (t6 (eC (.bool false))) E1) (sIf (tB (e2 dNe (eI (eSl (a6 13) (oSo (eCl s9 (a7 (a6 5) b9))) oNo)) (eI (eSl (a6 14) (oSo (eCl s9 (a7 (a6 6) b9))) oNo)))) (t6 (eC (.bool false))) E1))))) (Z:=[.list (ns.map .int),.list (m.map rwD),.list (L.map rwD),.int (e:Nat),Wd,.list (o1.map .int),.list (o2.map .int),.dict (v8 (λp=>bD ((c6 m 0 p).1.map .int)) l),x,y,.int (c6 m 0 o1).2,.int (c6 m 0 o2).2,z,.none,.none])
     (λ_ Z=>∃a b c:VS.D,Z=[.list (ns.map .int),.list (m.map rwD),.list (L.map rwD),.int (e:Nat),Wd,.list (o1.map .int),.list (o2.map .int),.dict (v8 (λp=>bD ((c6 m 0 p).1.map .int)) l),x,y,.int (c6 m 0 o1).2,.int (c6 m 0 o2).2,a,b,c]) ⟨_,_,_,rfl⟩ (by
      rintro pre q post e1 Z ⟨a,b,c,rfl⟩;have ni:q∈mks L DL (c6 L 0 o1).2:=by rw[e1];simp
      have wJ:=a6t C.wf t1.1 t1.2 ni;have heq:=uZ q wJ.1;refine⟨[.list (ns.map .int),.list (m.map rwD),.list (L.map rwD),.int (e:Nat),Wd,.list (o1.map .int),.list (o2.map .int),.dict (v8 (λp=>bD ((c6 m 0 p).1.map .int)) l),x,y,.int (c6 m 0 o1).2,.int (c6 m 0 o2).2,.list (q.map .int),b,c],[.list (ns.map .int),.list (m.map rwD),.list (L.map rwD),.int (e:Nat),Wd,.list (o1.map .int),.list (o2.map .int),.dict (v8 (λp=>bD ((c6 m 0 p).1.map .int)) l),x,y,.int (c6 m 0 o1).2,.int (c6 m 0 o2).2,.list (q.map .int),.list (((c6 m 0 o1).1++(c6 m (c6 m 0 o1).2 q).1).map .int),.list (((c6 m 0 o2).1++(c6 m (c6 m 0 o2).2 q).1).map .int)],rfl,?_,_,_,_,rfl⟩
      try walk_at "evd"
      rw[cat o1 q wO (by lia)]
      try walk_at "evc"
      rw[qG o1 q rG (in1 q ni)]
      try walk_at "evd"
      rw[cat o2 q oQ (by lia)]
      try walk_at "evc"
      rw[qG o2 q qw (wG q ni)]
      try walk_at "evc"
      rw[aQ (len o1 q)]
      try walk_at "evc"
      rw[aQ (len o2 q)]
      try walk_at "evd"
      rw[cut _ _ _ (A7 m o1 0),cut _ _ _ (A7 m o2 0)]
      try walk_at "evc"
      rw[b7Y,aQ heq]
      try walk_at "evc"
      try rfl)
    exact⟨_,h1,h2⟩
   ·rintro Z ⟨a,b,c,rfl⟩
    try walk_at "evc"
    try rfl
def c0p{l:W.OpenLaw}{w:b_}{K:W.Frag}{mg:bE->Option aj}{fa:aw}(yN:mg "law"=xn (.ref fa))(b:Bn K mg)(kI:(B0 K "ways_by_state").isSome=true)
  : ∃fd:dR,(∀(s:au) (v:aj),nK s fd ⟨[v],[]⟩ [("_law_script",v)])/\∀base:cR,K.In base->base.Ns bS mg->FnOk l.prog w K mg base CX0 8 fa fd ["_law_script"] (spD K 1 m_law .i):=b9S yN b.d34 λbase KB GB fd F=>by
 have B:Bk l.prog w K mg base:=⟨b⟩;have cP:=ok_law_mixed B;have kh:=ok_law_pool B cP.u;have iH:=ok_law_machine B cP.u kh.u;have gg:=Z9 B;have eh:=a4u B;have gL:=a3K B eh.u;have eP:=a6a B gL.u;have jG:=a6b B;have eO:=a1P B jG.u kI KB GB;have kN:=a8S B eO.u;have jU:=b4t B gg.u eh.u eP.u kN.u;have kL:=b7f B eO.u;have jd:=ok_law_head B cP.u;have gI:=a7y B;have jH:=a6d B gI.u;have kO:=b7g B;have iG:=a3M B kO.u;have gT:=a1Q B;have fq:=a2J B eh.u gT.u;have je:=a4v B fq.u;have mR:=b4w B eP.u je.u;have jT:=b4x B iG.u mR.u;have gG:=a1i B;have kM:=a8V B gG.u;have hU:=a8W B;have iS:=b2a B;have iJ:=a3O B kL.u kO.u jT.u kM.u hU.u iS.u;have jI:=a6f B;have nY:=b7h B jU.u jH.u hU.u iS.u iJ.u jI.u;have ki:=a7A B gI.u;have hJ:=a4w B ki.u;have jc:=a4x B eP.u fq.u hJ.u;have fD:=ok_law_walked B;have gH:=ok_law_told B;exact ok_law B cP.u iH.u jU.u kL.u jd.u jT.u nY.u jc.u fD.u gH.u F
end Prog
namespace PySem.W.Fast
def tw3649817766732050400:=0
def tw2787904991804453817:=0
def tw17328684798705223911:=0
def tw6162466667996503542:=0
def tw9831614809783889910:=0
def tw9189886924603717096:=0
def tw4454454637589509920:=0
def tw15479444827472118426:=0
def tw4241974504834130298:=0
def tw10869163299237043713:=0
def tw14328522299469395163:=0
def tw11757725476638334160:=0
def tw13519179214195806243:=0
def tw2683686362377602712:=0
def tw67792434099658889:=0
def tw5732428622777893065:=0
def tw1123664883203543519:=0
def tw12499817318880124589:=0
def tw17392925715186047402:=0
def tw3485007819826361125:=0
def tw9644863022807891849:=0
def tw4994721395663846750:=0
def tw3703510725930130388:=0
def tw10854231062794987079:=0
def tw16939905441352555913:=0
def tw2024431744394766038:=0
def tw5747113166261566157:=0
def tw12295831272920825186:=0
def tw8492243952871060132:=0
def tw10628372550741053311:=0
def tw10848485267997835459:=0
def tw7501340258190022915:=0
def tw6393995376573114548:=0
def tw1887517030235988244:=0
def tw11157557398421191308:=0
def tw5344053174292170174:=0
def tw17488940390748394784:=0
def tw12642052697275331009:=0
def tw579336773769036693:=0
def tw5699630372939228523:=0
def tw6674375574152572331:=0
def tw11260032213279783855:=0
def tw9599339979711860597:=0
def tw5000799383572801501:=0
def tw14074543148381824524:=0
def tw12975693825754116184:=0
def tw4005023458850657518:=0
def tw8759543696289552870:=0
def tw12216973949231544969:=0
def tw7414582061072988687:=0
def tw9409028421834749946:=0
def tw13380807596096246116:=0
def tw1267466675780928458:=0
def tw17791655505817451938:=0
def tw7874261482190603723:=0
def tw7317490732870702997:=0
def tw10722737106667787115:=0
def tw936788838712807169:=0
def tw1396661284524844430:=0
def tw9245387733827141248:=0
def tw40680769465227828:=0
def tw14922012998148966601:=0
def tw3271800619121307235:=0
def tw8497739823189736260:=0
def tw14352145069905132355:=0
def tw13816880664826564617:=0
def tw9735554349023068252:=0
def tw3828405697078099811:=0
def tw5826429516562844095:=0
def tw12517239120597646805:=0
def tw2092430284381078460:=0
def tw7537539862364811991:=0
def tw13427096648990651772:=0
def tw6692302271755295434:=0
def tw10968666901484687380:=0
def tw7922864743353038444:=0
def tw12349876618143961306:=0
def tw16696257797037611703:=0
def tw10159946370185297350:=0
def tw9886801876921977845:=0
def tw2355305018831177706:=0
def tw16585110271461184118:=0
def tw17821852266430933333:=0
def tw331411519709249054:=0
def tw12131160543050169170:=0
def tw18097418490638261109:=0
def tw18334286646108304611:=0
def tw18122185726909051093:=0
def tw10350312544568198120:=0
def tw16510551774841592990:=0
def tw8255599391387776854:=0
def tw1470154316764164108:=0
def tw8712581969238605562:=0
def tw2556661295052909173:=0
def tw13801006473537463202:=0
def tw9393677000072349308:=0
def tw1003497324607659500:=0
def tw2093768216535967252:=0
def tw8606183463027063767:=0
end PySem.W.Fast
end
open PySem PySem.W PyProof.Rows
set_option maxRecDepth 100000 in
set_option maxHeartbeats 0 in
theorem PySem.Challenge.cw_probewell_k57_common_marks_holds : PySem.Challenge.rw_probewell_k57_common_marks.Holds := by
 w_on;o_law;k_head;(case hw=>w_witness2)
 k_fill
 refine VS.b1e (k:=8) (x:="_law_script") (m:=Prog.m_law) (l:=PySem.Challenge.rw_probewell_k57_common_marks) rfl rfl ⟨rfl,by decide,by decide⟩ (fun w h Y=>by first|exact PySem.W.kIn_of Y|exact PySem.W.km_in_of Y) (fun w=>by kernel_rfl) ?F Prog.law_true
 case F=>
  intro w mg fa h KX G hmg
  refine' Prog.c0p hmg ?b ?_
  case b=>
   constructor
   iterate 35 (refine' VS.c1y KX G ?a ?l ?c ?k;(case a=>k_is);(case l=>k_is);(case c=>k_is);(case k=>k_is))
   iterate 11 (refine' PySem.W.mg_none_of KX G ?_;k_is)
   iterate 2 (refine' VS.c2L KX G ?a;(case a=>k_is))
  kernel_rfl
