import PyProof.Rows.All
import Wide.All
import OpenK.AllK
import Wide.FinOn
import Lean
import PyProof.EqAt
import PyProof.EqKinds
import PyProof.TupleCall
import KE.KLam
import PyProof.WalksEnum
import PyProof.EnumMake
import PyProof.Rows.SortWalk
import PyProof.Rows.SetFrom
import PyProof.SetRoads
import PyProof.DictTable
import PyProof.ListRange
import PyProof.DictWalks
import PyProof.DictUpdate
import KE.KSortTup
import KE.KDictSum
import KE.KSortKey
import PyProof.ZipIter
import PyProof.Draws
import PyProof.StationsW
import OpenK.KRaise
import KE.KTryMore
import PyProof.ExcClass2
import PyProof.ExcBaseAll.ValueError
import OpenK.KOwn
import PyProof.ExcAttrAll.ValueError
import PySem.Challenge.RW_probewell_k20_whole_compare
set_option Elab.async false
set_option linter.all false
set_option maxRecDepth 100000
set_option compiler.extract_closed false
set_option bootstrap.genMatcherCode false
noncomputable section
open Option renaming some→cz,none→pz
open PySem.W renaming Frag→ae,nsIn→bO,kia_one→cA,kitOne→cV,kla_obj→dB,keepIn→dU,findIn→eM,fnOf→eR,hideAll→eZ,CodeHd→fF,mg_of→fR,envX→gS,codeIn→jO,kas_item→ke,callWith_K→kT,methodObj→lA,kitx_list→lC,kitx_dict→lD,instObj→nj,lookIn→oi,excIn→oY,cellsFrom_some→rq,hideAll_get→u_,of_hideAll→xq,kitx_tuple→xr,specialIn→yU,plainGet→Cb,OpenLaw→Dn
open PySem renaming wpAny_bind→af,Value→ag,Shared→aj,Addr→au,starEach→ax,wpAny_pure→aE,model→aV,mainGlobals→aY,PyData→a_,wpAny→be,sizeLine→bh,Program→bo,Str→br,Around→bH,World→bJ,mem_of_lookup→bV,Heap→b_,compareOp→cD,wpAny_holding→cK,wpAny_mono→cM,eval→cU,FuncData→c_,backTo→dj,sizeLine_eq→dD,foldedSetIterable→dM,cLine→eh,wpAny_call_entry→et,sysModules→eB,Pos→eH,wpAny_truthy_bool→eJ,bootBuiltins→eK,Obj→eW,binaryOp→eX,wpAny_typeNameOfWhole_keyiter→fm,Scope→fw,wpAny_Call_Name_kw→fA,assignEach→fC,wpAny_passesOwn→fD,Stmt→fH,Paired→fI,DictEntry→fX,wpAny_typeNameOf_keyiter→gc,behindInMarks→gf,wpAny_callSpecial?_slot→gk,swapsWith→gn,wpAny_newObj_type→gz,codeAny_mono→gB,NameKind→gD,rawInt→gQ,sliceBounds→gT,wpAny_specialOf→ij,wpAny_execs_nil→ik,TriplesOk→iG,builtinsNs→iK,assign→iM,wpAny_dictEntries→jc,codeAny→jk,wpAny_attempt→jr,codeAmong→jL,ReadsAll→jN,relabel→kc,letOwnedTupleGo→kz,Env→kZ,intKind→lQ,holding→lR,callerA→lV,BindsTo→lW,Arguments→lX,wpAny_standAt→mo,swapsWithSole→mq,swappedStores→mr,wpAny_call→mR,closureFor→nh,getItem→oe,bindArgs→oh,PassesOwn→oZ,subscripted→pC,wpAny_dictEpoch→pX,codeAny_builtin→rl,wpAny_rule→sf,pyNext→si,wpAny_comprehension_free→vh,Sem→xo,call→xp,bindL→yR,bindC→yS,setItem→zv,isTrue→zP,Keyword→Ck,wpAny_notOrdered_dict→Co,wpAny_isOneOf_keyiter→Cp
open List renaming getElem?_eq_getElem→ah,getD_eq_getElem?_getD→ai,length_map→ao,mem_append_right→aq,mem_append→ar,mem_cons_of_mem→av,mem_append_left→aw,mem_singleton→ay,length_append→az,map_cons→aA,replicate→aB,mem_cons_self→aD,mem_cons→aF,append_assoc→aI,length_cons→aO,getElem?_eq_some_iff→aT,range→aW,append_nil→bg,mem_map→bj,map_append→bu,size_toArray→bw,length_singleton→bx,mem_of_getElem?→bA,getElem?_map→bE,getElem?_append_right→bI,getElem?_append_left→bK,nodup_nil→bW,mem_range→bX,nodup_cons→cf,length_take→cu,cons_append→cw,nil_append→cx,nodup_append→cB,count_append→cC,getElem_mem→cF,drop_eq_getElem_cons→cI,mem_iff_getElem?→cO,length_range→cQ,map_nil→cY,all_eq_true→cZ,mem_filterMap→df,pairwise_singleton→dg,mem_map_of_mem→di,pairwise_append→du,getElem?_set_ne→dw,mem_filter→dC,map_congr_left→dE,map_map→dI,getElem_map→dO,zip_cons_cons→dX,set_cons_succ→dY,length_replicate→d_,lookup_cons→eN,pairwise_cons→eU,find?_eq_none→eV,take_append_drop→fg,any_eq_false→fy,mem_flatMap→fJ,length_drop→fK,mem_of_find?_eq_some→fL,replicate_zero→fN,replicate_succ→fO,set_cons_zero→fW,getElem?_set_self→gi,drop_length→gx,nodup_iff_count→gE,drop_append_of_le_length→gF,of_mem_zip→gJ,getElem_of_mem→gN,filterMap_cons→gO,count_pos_iff→h_,mem_or_eq_of_mem_set→il,extract_eq_take_drop→ip,length→ir,foldl_append→iu,ext_getElem?→iw,not_mem_nil→iO,take_of_length_le→i_,length_set→jl,find?_cons→jm,count_cons→jn,getElem?_eq_none→ju,mem_of_mem_take→jP,mem_iff_getElem→jQ,getElem?_range→km,set_comm→kF,map_singleton→kU,pairwise_iff_forall_sublist→lH,take_length→mh,any_eq_true→mi,length_zip→nr,forIn_cons→nu,perm_append_singleton→oj,forIn_nil→om,pairwise_iff_getElem→oD,getElem?_zip_eq_some→oE,sublist_append_left→pd,getElem?_take_of_lt→pf,length_eq_zero_iff→pS,getElem?_replicate→pU,pairwise_lt_range→rB,map_id'→rC,length_pos_of_mem→rD,drop_of_length_le→rE,pairwise_reverse→r_,contains_iff_mem→sd,count_cons_self→uq,getD_cons_succ→va,flatMap_append→vb,getElem_range→xt,count_eq_zero→xu,zip_nil_left→yZ,reverse_cons→y_,getElem_drop→za,flatMap_cons→zb,ext_getElem→Ci,foldl_cons→Dq,find?_some→Dr
open Bool renaming and_eq_true→aC,false_eq_true→bR,false_ne_true→bU,eq_false_iff→dA,and_self→eG,not_true→e_,and_true→fU,beq_eq_decide_eq→gs,or_eq_true→nv,not_eq_false'→xx,not_eq_true'→ze
open Nat renaming le_refl→aG,lt_of_lt_of_le→aZ,ne_of_lt→bP,le_trans→bZ,zero_le→cW,lt_or_ge→dG,le_of_lt→dH,lt_irrefl→dN,mul_le_mul→dW,sub_self→eS,lt_of_le_of_lt→hU,add_assoc→iA,ne_of_gt→lG,min_le_left→nk,min_eq_left→nq,lt_trans→rA,le_succ→um,le_succ_of_le→yW,zero_lt_succ→Cf,lt_succ_self→Cg
open Array renaming length_toList→aH,getElem?_eq_getElem→bp,getElem_toList→bL,toList_push→bS,getElem?_toList→bT,getElem_extract→de,getElem?_eq_none→dh,getD_eq_getD_getElem?→dJ,perm_iff_toList_perm→dZ,toList_extract→fG,ext'→fY,append_empty→fZ,append_assoc→ie,getElem_mem_toList→iC,toList_reverse→jU,mem_toList_iff→jV,toList_append→ku,size_extract→kW,push_eq_append_singleton→ml,getElem?_eq_some_iff→ou,getD→xy,forIn_toList→xA
open PyProof.Rows renaming wpS_bind→aJ,wpS_pure→aQ,arrOf→aR,Keyed→bC,pendingOf→bY,SortSt→cG,wpS_forRange→cS,SortKind→dz,callWith_type1→dF,wpS_mono→eD,failedOf→eO,envOfC→gL,AllBare→ig,wpS_modify→jW,seqObj→jX,wpS_get→kJ,mirror→kX,wpS→pW,IntsAre→uk
open Option.some renaming inj→aK,injEq→yV
open PySem.PyData renaming eqv→aM,int→aX,canLayAll0→bM,canLay0→cH,eqvAll→cL,depthAll→cP,tuple→ee,depth→ef,bool→fS,list→lE,none→pR
open PySem.Heap renaming lt_size→aN,get?_push_of_some→aP,get?_push_size→bz,get?_update_self→eE,SameBut→iB,get?_update_other→kn,FlyingW→ko,size_update→pq
open PySem.Value renaming none→ba,ref→bG,type→fQ,int→jM,isInt→lx,bool→ni,str→oX
open Int renaming toNat_of_nonneg→bD,toNat_natCast→bF,emod_lt_of_pos→bQ,emod_nonneg→cy,mul_nonneg→oq,ediv_eq_zero_of_lt→rF,add_mul_ediv_right→rG
open PySem.PassesOwn renaming never→cg
open PyProof.Rows.KeyOrd renaming kle_of_klt→cq,kle_trans→cE,kle_refl→dm,klt_of_klt_of_kle→dR
open False renaming elim→cJ
open Or renaming inr→cR,inl→cX
open PySem.Builtin.Tuple renaming tupleHashOf→dt
open PySem.F renaming slot_dict_keyiterator_next→dP,slot_tuple_hash→jo,slot_dict_getitem→oB,args_dict_keyiterator_next_1→pA,plain_list_iadd→pP,attr_ValueError→pQ,entry_dict_keyiterator_next→pV,typeOf_object_class→Ds
open PySem.NameKind renaming free→ek
open ForInStep renaming yield→eA
open Option renaming isSome_iff_exists→eF,bind_some→iN,map_eq_some_iff→rz,getD_some→Cd,getD_none→Ce,map_some→Dp
open Ne renaming symm→fx
open PySem.Obj renaming mapSeq→fT,isFreed_of_dict→iq,data_mapDictKeys→lF,data_mapDict→o_
open List.cons renaming injEq→fV
open PySem.Paired renaming length→gh
open List.Sublist renaming refl→gj,append→vc
open True renaming intro→hJ
open List.Perm renaming refl→ic,append_left→jv
open PySem.Heap.SameBut renaming update→iy
open PySem.Str renaming ofString→kl
open Sum renaming inr→ly,inl→lz
open List.Pairwise renaming nil→lI,map→zc
open PySem.Calls renaming evalArgs_plain→lN,Name_function_global→ur
open PySem.SeqAt.ReadsAll renaming length→mQ
open PySem.Builtin.Dict_items renaming ownsTuple→rH
open PySem.W.Looks renaming ld→Cc
open PySem.Builtin.Dict renaming showsAll→Dt
open Array.Perm renaming refl→Du
def aL:=@if_pos
def aS:=@if_neg
def aU:=@decide_eq_true
def bt:=@decide_eq_false
def bN:=@of_decide_eq_true
def dq:=@if_false
def fE:=@congrArg
def iY:=@beq_iff_eq
def ki:=@beq_eq_false_iff_ne
def nz:=@if_true
def sj:=@or_false
def vt:=@of_decide_eq_false
def yQ:=@bne_self_eq_false
namespace L2
open PySem PySem.Spec PyProof.Rows
abbrev Key:=Sum Int br
def b1J:Key→ag→Bool
  |.inl k,v=>lx k v
  |.inr x,v=>ag.isStrOf x v
def b6j(w:bJ):Key→Int
  |.inl k=>hashInt k
  |.inr x=>hashStr w x
def u5:∀{k:Key} {v:ag},b1J k v=true→(∃i t,k=lz i∧v=jM i t)∨(∃x t,k=ly x∧v=oX x t)
  |.inl i,v,h=>by
    obtain⟨t,e⟩:=ag.isInt_shape (k:=i) (v:=v) h;exact .inl ⟨i,t,rfl,e⟩
  |.inr x,v,h=>by
    obtain⟨t,e⟩:=ag.isStrOf_shape (x:=x) (v:=v) h;exact .inr ⟨x,t,rfl,e⟩
def b1Z(a b:Int):decide ((lz a:Key)=lz b)=(a==b):=by
  by_cases e:a=b
  · subst e;simp
  · have h:¬ (lz a:Key)=lz b:=λq=>e (lz.inj q)
    rw[bt h];exact (ki.mpr e).symm
def b2a(a b:br):decide ((ly a:Key)=ly b)=decide (a=b):=by
  by_cases e:a=b
  · subst e;simp
  · have h:¬ (ly a:Key)=ly b:=λq=>e (ly.inj q)
    rw[bt h,bt e]
def b2b(a:Int)(b:br):decide ((lz a:Key)=ly b)=false:=bt (λq=>nomatch q)
def b2c(a:br)(b:Int):decide ((ly a:Key)=lz b)=false:=bt (λq=>nomatch q)
def a2L(prog:bo)(w:bJ):PySem.KeyKind prog w Key where
  is:=b1J
  hash:=b6j w
  inj:=λv a b ha hb=>by
    rcases u5 ha with⟨i,t,rfl,rfl⟩|⟨x,t,rfl,rfl⟩
    · rcases u5 hb with⟨j,u,rfl,e⟩|⟨y,u,rfl,e⟩
      · injection e with e1 _;rw[e1]
      · exact nomatch e
    · rcases u5 hb with⟨j,u,rfl,e⟩|⟨y,u,rfl,e⟩
      · exact nomatch e
      · injection e with e1 _;rw[e1]
  byValue:=λk v h=>by
    rcases u5 h with⟨i,t,rfl,rfl⟩|⟨x,t,rfl,rfl⟩<;>rfl
  pyHash:=λhv h=>by
    rcases u5 hv with⟨i,t,rfl,rfl⟩|⟨x,t,rfl,rfl⟩
    · exact wpAny_pyHash_int h
    · exact wpAny_pyHash_str h
  eqBool:=λhu hv h=>by
    rcases u5 hu with⟨i,t,rfl,rfl⟩|⟨x,t,rfl,rfl⟩
    · rcases u5 hv with⟨j,u,rfl,rfl⟩|⟨y,u,rfl,rfl⟩
      · rw[b1Z]at h;exact wpAny_eqBool_int h
      · rw[b2b]at h;exact SeqAt.EqAt.int_str i t y u _ _ _ _ h
    · rcases u5 hv with⟨j,u,rfl,rfl⟩|⟨y,u,rfl,rfl⟩
      · rw[b2c]at h;exact SeqAt.EqAt.str_int x t j u _ _ _ _ h
      · rw[b2a]at h;exact wpAny_eqBool_str h
  «strs»:=λk x t v h=>by
    rcases u5 h with⟨i,u,rfl,e⟩|⟨y,u,rfl,e⟩
    · exact nomatch e
    · injection e with e1 _
      subst e1;cases v<;>rfl
inductive V where
  |non|bl (b:Bool)|int (i:Int)|str (x:br)|byt (b:Array UInt8)|flt (b:UInt64)|ref (a:au)|ty (n:String)
  deriving DecidableEq
def RelV:V→ag→Prop
  |.non,u=>u=ba
  |.bl b,u=>u=ni b
  |.int i,u=>∃t,u=jM i t
  |.str x,u=>∃t,u=oX x t
  |.byt b,u=>∃t,u=ag.bytes b t
  |.flt b,u=>∃t,u=ag.float b t
  |.ref a,u=>u=bG a
  |.ty n,u=>u=fQ n
abbrev Vals:List V→List ag→Prop:=fI RelV
theorem Vals.length{xs:List V}{us:List ag}(r:Vals xs us):xs.length=us.length:=gh r
theorem Vals.get:∀{xs:List V} {us:List ag} {i:Nat} {x:V},Vals xs us→xs[i]?=cz x→∃u,us[i]?=cz u∧RelV x u
  |_,_,_,_,.nil,e=>by simp at e
  |_,_,0,_,.cons r _,e=>by simp at e;subst e;exact⟨_,rfl,r⟩
  |_,_,i+1,x,.cons _ t,e=>by
    obtain⟨u,h1,h2⟩:=Vals.get (i:=i) (x:=x) t (by simpa using e);exact⟨u,by simpa using h1,h2⟩
theorem Vals.set(r:RelV x u):∀{xs:List V} {us:List ag} (i:Nat),Vals xs us→Vals (xs.set i x) (us.set i u)
  |_,_,_,.nil=>.nil
  |_,_,0,.cons _ t=>.cons r t
  |_,_,i+1,.cons q t=>.cons q (Vals.set r i t)
theorem Vals.append:∀{xs ys:List V} {us ws:List ag},Vals xs us→Vals ys ws→Vals (xs++ys) (us++ws)
  |_,_,_,_,.nil,s=>s
  |_,_,_,_,.cons r t,s=>.cons r (Vals.append t s)
theorem Vals.take:∀{xs:List V} {us:List ag} (n:Nat),Vals xs us→Vals (xs.take n) (us.take n)
  |_,_,0,_=>.nil
  |_,_,_+1,.nil=>.nil
  |_,_,n+1,.cons r t=>.cons r (Vals.take n t)
theorem Vals.drop:∀{xs:List V} {us:List ag} (n:Nat),Vals xs us→Vals (xs.drop n) (us.drop n)
  |_,_,0,r=>r
  |_,_,_+1,.nil=>.nil
  |_,_,n+1,.cons _ t=>Vals.drop n t
def b2d:Option V→Option ag→Prop
  |some v,cz u=>RelV v u
  |none,pz=>True
  |_,_=>False
def KV{κ:Type}:List (κ×V)→List (κ×ag)→Prop:=fI λ(p:κ×V) (q:κ×ag)=>p.1=q.1∧RelV p.2 q.2
def kV:Key→V
  |.inl i=>.int i
  |.inr x=>.str x
inductive HO where
  |lst (xs:List V)
  |tup (xs:List V)
  |dK (kvs:List (Key×V))|dT (kvs:List (List Key×V))
  |set (S:Int→Bool) (n:Nat)
  |ins (C dx:au) (fs:List (br×V))
  |own (x:au)
  |xd (fs:List (br×V))
  |met (f x:au)
  |rng (lo hi:Int)
  |frz (o:eW) (u:HO)
  |tbl (ps:Array ag)
  |ext (φ:b_→Prop)
abbrev Hp:=au→Option HO
def upd(H:Hp)(a:au)(o:HO):Hp:=λb=>if b=a then cz o else H b
def j8{H:Hp}{a:au}{o:HO}:upd H a o a=cz o:=by unfold upd;rw[aL rfl]
def g7{H:Hp}{a b:au}{o:HO}(h:b≠a):upd H a o b=H b:=by unfold upd;rw[aS h]
def n5{H:Hp}{a b:au}{o:HO}(h:H a=cz o)(h':H b=pz):a≠b:=by
  intro e;subst e;rw[h]at h';cases h'
def Pin(a:au):HO→Prop
  |.tup _=>True
  |.frz _ (.own b)=>b=a
  |_=>False
abbrev b4o(a:au):={u:HO // Pin a u}
def a2c(H:Hp)(h:b_)(a:au)(qs:Array ag):Prop:=
  ∃ps:Array ag,h.get? a=cz {cls:=.none,data:=.fields ps}∧iG ps.toList∧∀(pos:eH) (cv:ag),jL pos ps.toList=cz cv→
    ∃c' oc vs q t t',cv=.ref c'∧H c'=cz (.frz oc (.own a))∧oc.data=.fields vs∧vs[1]?=cz (.str q t)∧qs[0]?=cz (.str q t')
section
variable (P:bo)(w:bJ)
def ObjOk(H:Hp)(h:b_)(a:au):HO→Prop
  |.lst xs=>xs.length≤bh∧∃(cN:List ag) (n:Nat),Vals xs cN∧h.get? a=cz {cls:=.type "list",data:=.seq cN.toArray n}
  |.tup xs=>xs.length≤bh∧∃cN:List ag,Vals xs cN∧IsTup h a cN.toArray
  |.dK kvs=>kvs.length≤bh∧(a==eB)=false∧∃vs,KV kvs vs∧h.DictOf (a2L P w) a vs
  |.dT kvs=>kvs.length≤bh∧(a==eB)=false∧∃xs:List (List Key×au×ag),
      fI (λ(p:List Key×V) (q:List Key×au×ag)=>p.1=q.1∧H q.2.1=cz (.tup (p.1.map kV))∧RelV p.2 q.2.2) kvs xs∧
      ∃o es ep,h.get? a=cz o∧o.ExactDict∧o.data=.dict es ep∧es.toList=xs.map (entryOfKey (tupleKind (a2L P w)))∧(xs.map (·.1)).Nodup
  |.set S n=>h.SetOf (lQ P w) a S n
  |.ins C dx fs=>H dx=cz (.own a)∧fs.length≤1000∧dx≠a∧h.get? a=cz (nj C dx)∧
      ∃mA,h.Ns1 dx mA∧(∀f,b2d (fs.lookup f) (mA f))∧PySem.Within mA (fs.map (·.1))
  |.own _=>∃o,h.get? a=cz o
  |.xd fs=>∃mA,h.Ns1 a mA∧∀f,b2d (fs.lookup f) (mA f)
  |.rng lo hi=>∃t u v,h.get? a=cz {cls:=.type "range",data:=.fields #[.int lo t,.int hi u,.int 1 v]}
  |.frz o u=>h.get? a=cz o∧ObjOk H h a u
  |.tbl ps=>a2c H h a ps
  |.met f x=>h.get? a=cz (lA (.ref f) (.ref x))
  |.ext φ=>φ h∧(∃o,h.get? a=cz o)∧∀h1 h2:b_,φ h1→(∀o,h1.get? a=cz o→h2.get? a=cz o)→φ h2
def HOk(H:Hp)(h:b_):Prop:=∀a o,H a=cz o→ObjOk P w H h a o
end
section
variable {P:bo}{w:bJ}{H H':Hp}{h h':b_}{a:au}{o:HO}
theorem ObjOk.lt(x:ObjOk P w H h a o):a<h.objs.size:=by
  cases o with
  |lst xs=>obtain⟨_,_,_,_,e⟩:=x;exact aN e
  |tup xs=>obtain⟨_,_,_,p⟩:=x;exact p.lt
  |dK kvs=>obtain⟨_,_,_,_,o,_,_,e,_⟩:=x;exact aN e
  |dT kvs=>obtain⟨_,_,_,_,o,_,_,e,_⟩:=x;exact aN e
  |set S n=>obtain⟨o,_,_,_,e,_⟩:=x;exact aN e
  |ins C dx fs=>obtain⟨_,_,_,e,_⟩:=x;exact aN e
  |own y=>obtain⟨_,e⟩:=x;exact aN e
  |xd fs=>obtain⟨_,⟨_,_,_,e,_⟩,_⟩:=x;exact aN e
  |rng lo hi=>obtain⟨_,_,_,e⟩:=x;exact aN e
  |frz ob u=>obtain⟨e,_⟩:=x;exact aN e
  |tbl ps=>obtain⟨_,e,_⟩:=(show a2c H h a ps from x);exact aN e
  |met f y=>exact aN (show h.get? a=cz _ from x)
  |ext φ=>obtain⟨_,⟨_,e⟩,_⟩:=x;exact aN e
theorem Paired.mapP:∀{l₁:List α} {l₂:List β},fI F l₁ l₂→(∀a b,F a b→G a b)→fI G l₁ l₂
  |_,_,.nil,_=>.nil
  |_,_,.cons r t,f=>.cons (f _ _ r) (Paired.mapP t f)
def ObjOk.stay(x:ObjOk P w H h a o)(k:∀b u,(b=a∨H b=cz (.own a))→h.get? b=cz u→h'.get? b=cz u)
    (ho:∀b,H b=cz (.own a)→H' b=cz (.own a)) (ht:∀b (u:b4o a),H b=cz u.1→H' b=cz u.1):ObjOk P w H' h' a o:=by
  induction o with
  |lst xs=>obtain⟨z,cN,n,r,e⟩:=x;exact⟨z,cN,n,r,k _ _ (.inl rfl) e⟩
  |tup xs=>obtain⟨z,cN,r,ob,e,c⟩:=x;exact⟨z,cN,r,ob,k _ _ (.inl rfl) e,c⟩
  |dK kvs=>obtain⟨z,y,vs,r,ob,es,ep,e,c⟩:=x;exact⟨z,y,vs,r,ob,es,ep,k _ _ (.inl rfl) e,c⟩
  |dT kvs=>
    obtain⟨z,y,xs,r,ob,es,ep,e,c⟩:=x;exact⟨z,y,xs,Paired.mapP r λp q z=>⟨z.1,ht _ ⟨.tup _,trivial⟩ z.2.1,z.2.2⟩,ob,es,ep,k _ _ (.inl rfl) e,c⟩
  |set S n=>obtain⟨ob,es,ep,t,e,c⟩:=x;exact⟨ob,es,ep,t,k _ _ (.inl rfl) e,c⟩
  |ins C dx fs=>
    obtain⟨d,z,ne,e,mA,⟨od,es,ep,e2,c⟩,r⟩:=x;exact⟨ho _ d,z,ne,k _ _ (.inl rfl) e,mA,⟨od,es,ep,k _ _ (.inr d) e2,c⟩,r⟩
  |own y=>obtain⟨ob,e⟩:=x;exact⟨ob,k _ _ (.inl rfl) e⟩
  |xd fs=>obtain⟨mA,⟨od,es,ep,e,c⟩,r⟩:=x;exact⟨mA,⟨od,es,ep,k _ _ (.inl rfl) e,c⟩,r⟩
  |rng lo hi=>obtain⟨t,u,v,e⟩:=x;exact⟨t,u,v,k _ _ (.inl rfl) e⟩
  |frz ob u ih=>obtain⟨e,q⟩:=x;exact⟨k _ _ (.inl rfl) e,ih q⟩
  |tbl ps=>
    obtain⟨qs,e,t,f⟩:=(show a2c H h a ps from x);refine⟨qs,k a _ (.inl rfl) e,t,λpos cv z=>?_⟩;obtain⟨c,oc,vs,q,t1,t2,z1,z2,z3,z4,z5⟩:=f pos cv z;exact⟨c,oc,vs,q,t1,t2,z1,ht c ⟨.frz _ (.own a),rfl⟩ z2,z3,z4,z5⟩
  |met f y=>
    have e:h.get? a=cz (lA (.ref f) (.ref y)):=x;show h'.get? a=cz (lA (.ref f) (.ref y));exact k a _ (.inl rfl) e
  |ext φ=>obtain⟨p,⟨o,e⟩,st⟩:=x;exact⟨st _ _ p λo q=>k _ _ (.inl rfl) q,⟨o,k _ _ (.inl rfl) e⟩,st⟩
theorem HOk.lt(x:HOk P w H h)(e:H a=cz o):a<h.objs.size:=(x a o e).lt
def HOk.fresh(x:HOk P w H h)(e:h.objs.size≤a):H a=pz:=by
  cases q:H a with
  |none=>rfl
  |some u=>exact absurd (aZ (x.lt q) e) (dN _)
def HOk.kept(x:HOk P w H h)(k:∀b u,h.get? b=cz u→h'.get? b=cz u):HOk P w H h':=λa o e=>
  (x a o e).stay (λb u _ q=>k b u q) (λ_ q=>q) λ_ _ q=>q
def HOk.laid(x:HOk P w H h)(k:∀b u,h.get? b=cz u→h'.get? b=cz u)(hp:h.objs.size≤a)(new:ObjOk P w (upd H a o) h' a o):HOk P w (upd H a o) h':=λb u e=>by
  have hn:=x.fresh hp;by_cases hb:b=a
  · subst hb;rw[j8]at e;cases e;exact new
  · rw[g7 hb]at e
    exact (x b u e).stay (λc v _ q=>k c v q) (λc q=>by rw[g7 (n5 q hn)];exact q) λc xs q=>by rw[g7 (n5 q hn)];exact q
end
def Rd(H:Hp)(a:au)(u:HO):Prop:=H a=cz u∨∃o,H a=cz (.frz o u)
def Rd.ok{P:bo}{w:bJ}{H:Hp}{h:b_}{a:au}{u:HO}(r:Rd H a u)(x:HOk P w H h):ObjOk P w H h a u:=by
  rcases r with r|⟨o,r⟩
  · exact x a u r
  · obtain⟨_,q⟩:=x a _ r
    exact q
def Mut:Option HO→Prop
  |some (.lst _)=>True
  |some (.dK _)=>True
  |some (.dT _)=>True
  |some (.set _ _)=>True
  |some (.ins _ _ _)=>True
  |some (.ext _)=>True
  |_=>False
section
variable {P:bo}{w:bJ}{H:Hp}{h h':b_}{x e:au}{o':HO}
def HOk.write(ok:HOk P w H h)(mu:Mut (H x))(he:e=x∨H e=cz (.own x))(k:∀b u,b≠e→h.get? b=cz u→h'.get? b=cz u)(rT:∃u,h'.get? e=cz u)
    (new:ObjOk P w (upd H x o') h' x o'):HOk P w (upd H x o') h':=λb u q=>by
  have so:∀c y,H c=cz (.own y)→c≠x:=λc y r z=>by subst z;rw[r]at mu;exact mu
  have vw:∀{bq:au} c (u:b4o bq),H c=cz u.1→c≠x:=λ{bq} c u r z=>by subst z;rw[r]at mu;obtain⟨u,hu⟩:=u;cases u<;>first|exact hu|exact mu
  by_cases hb:b=x
  · subst hb;rw[j8]at q;cases q;exact new
  · rw[g7 hb]at q
    by_cases qZ:b=e
    · have q':H b=cz (.own x):=by
        rcases he with z|z
        · exact absurd (qZ.trans z) hb
        · rw[qZ];exact z
      rw[q]at q';cases q';obtain⟨v,hv⟩:=rT;exact⟨v,by rw[qZ];exact hv⟩
    · refine (ok b u q).stay (λc v hc r=>k c v ?_ r) (λc r=>by rw[g7 (so c b r)];exact r) λc xs r=>by rw[g7 (vw c xs r)];exact r
      rcases hc with rfl|hc
      · exact qZ
      · rintro rfl
        rcases he with z|z
        · exact so c b hc z
        · rw[hc]at z;cases z;exact hb rfl
end
structure Un (fs ex:List au) (H H':Hp) (h h':b_):Prop where
  keep:∀b o,h.get? b=cz o→H b=pz→b∉fs→b∉ex→h'.get? b=cz o
  slot:∀b o,h.get? b=cz o→H b=pz→b∈fs→b∉ex→∃sl,h'.get? b=cz {o with slots:=sl}
  free:∀b o,h.get? b=cz o→H b=pz→b∉ex→H' b=pz
  there:∀b o,h.get? b=cz o→b∉ex→∃o',h'.get? b=cz o'
  tups:∀b xs,H b=cz (.tup xs)→H' b=cz (.tup xs)
  frzs:∀b o u,H b=cz (.frz o u)→H' b=cz (.frz o u)
  tbls:∀b ps,H b=cz (.tbl ps)→∃more,H' b=cz (.tbl (ps++more))
section
variable {fs jZ ex Dg:List au}{H H1 H2:Hp}{h h1 h2 h':b_}{a x e:au}{o:HO}
def Un.any(u:Un fs ex H H1 h h1)(q:h.get? b=cz ob)(n:H b=pz)(hx:b∉ex):∃sl,h1.get? b=cz {ob with slots:=sl}:=by
  by_cases hb:b∈fs
  · exact u.slot b ob q n hb hx
  · exact⟨ob.slots,u.keep b ob q n hb hx⟩
def Un.kept(k:∀b u,h.get? b=cz u→h'.get? b=cz u):Un fs ex H H h h':=
  ⟨λb ob q _ _ _=>k b ob q,λb ob q _ _ _=>⟨ob.slots,k b ob q⟩,λ_ _ _ n _=>n,λb ob q _=>⟨ob,k b ob q⟩,λ_ _ q=>q,λ_ _ _ q=>q,λ_ ps q=>⟨#[],by rw[q];simp⟩⟩
def Un.refl:Un fs ex H H h h:=Un.kept λ_ _ q=>q
def Un.laid(k:∀b u,h.get? b=cz u→h'.get? b=cz u)(hp:h.objs.size≤a)(hn:H a=pz):Un fs ex H (upd H a o) h h' where
  keep:=λb u q _ _ _=>k b u q
  slot:=λb u q _ _ _=>⟨u.slots,k b u q⟩
  free:=λb u q n _=>by rw[g7 (bP (aZ (aN q) hp))];exact n
  there:=λb u q _=>⟨u,k b u q⟩
  tups:=λb xs q=>by rw[g7 (n5 q hn)];exact q
  frzs:=λb u xs q=>by rw[g7 (n5 q hn)];exact q
  tbls:=λb ps q=>⟨#[],by rw[g7 (n5 q hn),q];simp⟩
def Un.write(mu:Mut (H x))(he:e=x∨H e=cz (.own x))(k:∀b u,b≠e→h.get? b=cz u→h'.get? b=cz u)(rT:∃u,h'.get? e=cz u):Un fs ex H (upd H x o) h h':=by
  have hx:∀b,H b=pz→b≠x:=λb n z=>by subst z;rw[n]at mu;exact mu
  have hb:∀b,H b=pz→b≠e:=λb n z=>by
    subst z;rcases he with r|r
    · exact hx b n r
    · rw[n]at r;cases r
  have hm:∀b u,H b=cz u→¬ Mut (cz u)→b≠x:=λb u q nm z=>by subst z;rw[q]at mu;exact nm mu
  refine⟨λb u q n _ _=>k b u (hb b n) q,λb u q n _ _=>⟨u.slots,k b u (hb b n) q⟩,λb u q n _=>by rw[g7 (hx b n)];exact n,λb u q _=>?_,
    λb xs q=>by rw[g7 (hm b _ q λz=>z)];exact q,λb u xs q=>by rw[g7 (hm b _ q λz=>z)];exact q,λb ps q=>⟨#[],by rw[g7 (hm b _ q λz=>z),q];simp⟩⟩
  by_cases qZ:b=e
  · subst qZ;exact rT
  · exact⟨u,k b u qZ q⟩
end
def trk(h:b_)(H:Hp):List au:=(aW h.objs.size).filter λa=>(H a).isSome
def a2M(h:b_)(H:Hp):b_:=eZ h (trk h H)
def a6F(h:b_)(H:Hp):(a2M h H).objs.size=h.objs.size:=PySem.W.hideAll_size _ _
def a7T{h:b_}(e:h.get? b=cz o)(n:H b=pz):(a2M h H).get? b=cz o:=
  u_ _ e λhm=>by
    have q:(H b).isSome=true:=(dC.mp hm).2;rw[n]at q;simp at q
def a9Z(e:(a2M h H).get? b=cz o):h.get? b=cz o∧H b=pz:=by
  have e':h.get? b=cz o:=xq (trk h H) e;refine⟨e',?_⟩;cases q:H b with
  |none=>rfl
  |some x=>
    have hm:b∈trk h H:=dC.mpr ⟨bX.mpr (aN e'),by simp[q]⟩;have z:(a2M h H).get? b=pz:=PySem.W.hideAll_none (trk h H) hm;rw[z]at e;cases e
def b0a(g h:b_)(L:au):List (au×eW):=(aW h.objs.size).filterMap λa=>if a=L∨(g.get? a).isSome=true then pz else (h.get? a).map λo=>(a,o)
def rest(g h:b_)(L d:au):List (au×eW):=(b0a g h L).filter λp=>decide (p.1≠d)
def G9:List br:=["ways_by_state","joins_by_pair","compare","first_gathering","least_asks"]
def P5(x:br):br:=x++".<locals>." ++ "<lambda>"
def a2N(K:ae)(cd:ag):Option au:=match cd with
  |.ref c=>(match K.lookup c with
    |some ⟨.type n,_,.fields vs,_⟩=>if n=="code" then
        (match (vs[11]?:Option ag),(vs[18]?:Option ag),(vs[7]?:Option ag),(vs[9]?:Option ag),(vs[10]?:Option ag) with
        |some (.ref P),cz (.str _ _),cz (.int _ _),cz (.bool _),cz (.int _ _)=>if c !=P then cz P else pz
        |_,_,_,_,_=>pz) else pz
    |_=>pz)
  |_=>pz
def w9(K:ae)(x:br):Option au:=match bO K aY x with
  |some (cz (.ref f))=>(match K.lookup f with
    |some ⟨_,_,.func fd,_⟩=>a2N K fd.code
    |_=>pz)
  |_=>pz
def TabsIn(K:ae)(H:Hp):Prop:=∀x∈G9,∀p,w9 K x=cz p→∃qs t,H p=cz (.tbl qs)∧qs[0]?=cz (.str (P5 x) t)
def TabsIn.un{K:ae}{fs ex:List au}{H H':Hp}{h h':b_}(a:TabsIn K H)(u:Un fs ex H H' h h'):TabsIn K H':=λx hx p e=>by
  obtain⟨qs,t,e1,e2⟩:=a x hx p e;obtain⟨more,e3⟩:=u.tbls p qs e1;refine⟨_,t,e3,?_⟩;have hz:0<qs.size:=by
    rcases dG 0 qs.size with z|z
    · exact z
    · rw[dh (by omega)]at e2;cases e2
  rw[Array.getElem?_append_left hz];exact e2
structure Mod (K:ae) (mg:br→Option ag) (base:b_):Prop where
  kin:K.In base
  glob:base.Ns aY mg
  blt:∃mb,base.Ns iK mb∧∀x:br,x≠"__name__"→mb x=eK x
  nolimit:base.NoLimit
  bmain:∃bm ob,mg "__builtins__"=cz (.ref bm)∧bm≠iK∧base.get? bm=cz ob∧ob.cls=.type "module"∧ob.dict=cz iK∧ob.data=.plain
/-- ny context: a uh body (or a gM block) running. base: fixed through ny whole law; s₀, H₀: ny entry; outer: ny frames sg slots others may change (a uh uY); stack: all frames oF run;
   ex: rL oF vk made ahead of ny entry and are walked here (a gM);fn: ny names sg cells vk made at ny entry (a def: all;a gM block: cN own);calm: not within an except xC;pn: pins oF yK state bears;xe: zj is wanted of an exception oF vD ny code -/
structure Cx where
  prog:bo
  w:bJ
  K:ae
  mg:br→Option ag
  base:b_
  A:bH
  N:List br
  s₀:aj
  H₀:Hp
  env:kZ
  outer:List kZ
  stack:List kZ
  ex:List au
  fn:br→Bool
  calm:Bool
  pn:List (au×eW)
  xe:ag→aj→Prop
def frs(l:List kZ):List au:=l.filterMap (·.frame)
abbrev Cx.fs(X:Cx):List au:=frs X.outer
def Vis(sc:fw)(x:br):Prop:=sc.names.lookup x=cz .local∨sc.names.lookup x=cz .cell∨sc.names.lookup x=cz .free
def Loc(sc:fw)(x:br):Prop:=sc.names.lookup x=cz .local∨sc.names.lookup x=cz .cell
def Look(env:kZ)(h:b_)(m:br→Option ag)(x:br)(u:ag):Prop:=
  (env.kindOf x=cz .local∧m x=cz u)∨((env.kindOf x=cz .cell∨env.kindOf x=cz .free)∧∃c,env.cells.lookup x=cz c∧h.IsCell c (cz u))
structure Cx.Ok (X:Cx):Prop where
  mod:Mod X.K X.mg X.base
  kind:X.env.scope.kind=.function
  glob:X.env.globals=aY
  blt:X.env.builtins=iK
  above:X.s₀.heap.objs.size≤X.env.locals
  inj:∀x y c,X.env.cells.lookup x=cz c→X.env.cells.lookup y=cz c→x=y
  has:∀x,(X.env.kindOf x=cz .cell∨X.env.kindOf x=cz .free)→∃c,X.env.cells.lookup x=cz c
  cab:∀x c,X.fn x=true→X.env.cells.lookup x=cz c→X.s₀.heap.objs.size≤c
  hd:X.calm=true→X.A.handled=pz
  frames:X.A.frames=cz X.stack
  stk:X.stack=X.outer∨(X.stack=X.env::X.outer∧X.env.frame=cz X.env.locals)
  exf:∀b∈X.ex,b≠X.env.locals∧∀x c,X.env.cells.lookup x=cz c→c≠b
  bs:∀b o,X.base.get? b=cz o→X.s₀.heap.get? b=cz o∧X.H₀ b=pz
  bsz:X.base.objs.size≤X.s₀.heap.objs.size
  noex:∀b o,X.base.get? b=cz o→b∉X.ex
  exfs:∀b∈X.ex,b∉X.fs
  funs:X.s₀.heap.FunFrames X.base X.outer
  frf:∀b∈X.fs,X.H₀ b=pz
  tabs:TabsIn X.K X.H₀
structure Inv (X:Cx) (pins:List (au×eW)) (σ:List (Option V)) (H:Hp) (s:aj):Prop where
  ok:X.Ok
  os:s.os=X.s₀.os
  bare:ig s.gens
  base:Un X.fs X.ex X.H₀ H X.s₀.heap s.heap
  loc:∃m,s.heap.Ns X.env.locals m∧∀(i:Nat) (x:br) (v:V),X.N[i]?=cz x→σ[i]?=cz (cz v)→Vis X.env.scope x→∃u,RelV v u∧Look X.env s.heap m x u
  cell:∀x c,X.env.cells.lookup x=cz c→∃v,s.heap.IsCell c v
  free:H X.env.locals=pz
  freeC:∀x c,X.env.cells.lookup x=cz c→H c=pz
  pin:∀p∈X.pn++pins,s.heap.get? p.1=cz p.2∧H p.1=pz∧p.1≠X.env.locals∧p.1∉X.fs∧∀v,p.2.data≠.cell v
  hok:HOk X.prog X.w H s.heap
  len:σ.length=X.N.length
section
variable {X:Cx}{pins:List (au×eW)}{σ:List (Option V)}{H H':Hp}{s:aj}{h':b_}
def Cx.Ok.nofr(ok:X.Ok)(e:X.base.get? b=cz o):b∉X.fs:=λhb=>by
  have:=(ok.funs.mem hb).1;rw[e]at this;cases this
theorem Inv.bs(I:Inv X pins σ H s):∀b o,X.base.get? b=cz o→s.heap.get? b=cz o∧H b=pz:=λb o e=>
  ⟨I.base.keep b o (I.ok.bs b o e).1 (I.ok.bs b o e).2 (I.ok.nofr e) (I.ok.noex b o e),I.base.free b o (I.ok.bs b o e).1 (I.ok.bs b o e).2 (I.ok.noex b o e)⟩
theorem Inv.tabs(I:Inv X pins σ H s):TabsIn X.K H:=I.ok.tabs.un I.base
def Inv.bk(I:Inv X pins σ H s):∀b o,X.base.get? b=cz o→s.heap.get? b=cz o:=λb o e=>(I.bs b o e).1
theorem Inv.mod(I:Inv X pins σ H s):Mod X.K X.mg X.base:=I.ok.mod
def Inv.kIn(I:Inv X pins σ H s):X.K.In s.heap:=I.ok.mod.kin.keeps I.bk
theorem Inv.lt(I:Inv X pins σ H s):X.env.locals<s.heap.objs.size:=let⟨_,hn,_⟩:=I.loc;hn.lt
def Inv.sz(I:Inv X pins σ H s):X.s₀.heap.objs.size≤s.heap.objs.size:=bZ I.ok.above (dH I.lt)
def Inv.nofs(I:Inv X pins σ H s)(h:s.heap.objs.size≤a):a∉X.fs:=λhb=>by
  obtain⟨_,o,ho,_⟩:=I.ok.funs.mem hb;exact absurd (aZ (aN ho) (bZ I.sz h)) (dN _)
def Inv.cne(I:Inv X pins σ H s):∀x c,X.env.cells.lookup x=cz c→c≠X.env.locals:=λx c e z=>by
  obtain⟨v,o,ho,hd⟩:=I.cell x c e;obtain⟨m,⟨o',es,ep,lS,gR,_⟩,_⟩:=I.loc;rw[z,lS]at ho;cases ho;rw[gR]at hd;cases hd
theorem Inv.funs(I:Inv X pins σ H s):s.heap.FunFrames X.base X.outer:=by
  have all:∀(l:List kZ),(∀b∈frs l,b∈X.fs)→X.s₀.heap.FunFrames X.base l→s.heap.FunFrames X.base l:=by
    intro l
    induction l with
    |nil=>intro _ _;trivial
    |cons env r ih=>
      intro hs hl;obtain⟨hk,⟨L,o,hf,hn,ho,hd⟩,hr⟩:=hl;have hL:L∈X.fs:=hs L (by unfold frs;rw[gO,hf];exact aD);obtain⟨sl,e⟩:=I.base.slot L o ho (I.ok.frf L hL) hL λz=>I.ok.exfs L z hL
      exact⟨hk,⟨L,_,hf,hn,e,hd⟩,ih (λb hb=>hs b (by unfold frs;rw[gO,hf];exact av _ hb)) hr⟩
  exact all X.outer (λ_ hb=>hb) I.ok.funs
theorem Inv.stack(I:Inv X pins σ H s):s.heap.FunFrames X.base X.stack:=by
  rcases I.ok.stk with e|⟨e,hf⟩
  · rw[e];exact I.funs
  · rw[e]
    obtain⟨m,hn,_⟩:=I.loc;refine .cons (by rw[I.ok.kind];decide) hf hn ?_ I.funs;exact b_.get?_none_of_le (bZ I.ok.bsz I.ok.above)
def Inv.stkSub(I:Inv X pins σ H s):∀b∈frs X.stack,b∈X.env.locals::X.fs:=λb hb=>by
  rcases I.ok.stk with e|⟨e,hf⟩
  · rw[e]at hb;exact av _ hb
  · rw[e]at hb
    unfold frs at hb;rw[gO,hf]at hb;exact hb
def Inv.stkFree(I:Inv X pins σ H s):∀b∈frs X.stack,H b=pz:=λb hb=>by
  rcases aF.mp (I.stkSub b hb) with e|hb
  · rw[e];exact I.free
  · obtain⟨_,o,ho,_⟩:=I.ok.funs.mem hb
    exact I.base.free b o ho (I.ok.frf b hb) λz=>I.ok.exfs b z hb
def Inv.step{g':Array GenState}{t':Nat}{d':Drawn}{ch:List au}(I:Inv X pins σ H s)
    (nE:∀b∈ch,(b∈X.ex∨X.s₀.heap.objs.size≤b)∧b≠X.env.locals∧(∀x c,X.env.cells.lookup x=cz c→c≠b)∧∀p∈X.pn++pins,p.1≠b)
    (keep:∀b o,b≠X.env.locals→b∉X.fs→b∉ch→s.heap.get? b=cz o→H b=pz→h'.get? b=cz o)
    (slot:∀b o,b≠X.env.locals→b∈X.fs→b∉ch→s.heap.get? b=cz o→H b=pz→∃sl,h'.get? b=cz {o with slots:=sl}) (free:∀b o,b∉ch→s.heap.get? b=cz o→H b=pz→H' b=pz)
    (there:∀b o,b∉ch→s.heap.get? b=cz o→∃o',h'.get? b=cz o')
    (tups:∀b xs,H b=cz (.tup xs)→H' b=cz (.tup xs)) (frzs:∀b o u,H b=cz (.frz o u)→H' b=cz (.frz o u)) (tbls:∀b ps,H b=cz (.tbl ps)→∃more,H' b=cz (.tbl (ps++more)))
    (ns:∀m,s.heap.Ns X.env.locals m→h'.Ns X.env.locals m) (hok:HOk X.prog X.w H' h') (hg:ig g') :
    Inv X pins σ H' {s with heap:=h',gens:=g',drawn:=d',toks:=t'}:=by
  have xN:∀b o,X.s₀.heap.get? b=cz o→b≠X.env.locals:=λb o e=>bP (aZ (aN e) I.ok.above)
  have uA:∀b o,X.s₀.heap.get? b=cz o→b∉X.ex→b∉ch:=λb o e hx hb=>by
    rcases (nE b hb).1 with z|z
    · exact hx z
    · exact absurd (aZ (aN e) z) (dN _)
  have cellK:∀x c,X.env.cells.lookup x=cz c→∀v,s.heap.IsCell c v→h'.IsCell c v:=λx c e v ⟨o,ho,hd⟩=>by
    have nL:c∉ch:=λz=>(nE c z).2.2.1 x c e rfl
    by_cases hc:c∈X.fs
    · obtain⟨sl,q⟩:=slot c o (I.cne x c e) hc nL ho (I.freeC x c e)
      exact⟨_,q,hd⟩
    · exact⟨o,keep c o (I.cne x c e) hc nL ho (I.freeC x c e),hd⟩
  refine⟨I.ok,I.os,hg,⟨λb o e n hb hx=>?_,λb o e n hb hx=>?_,λb o e n hx=>?_,λb o e hx=>?_,λb xs e=>tups b xs (I.base.tups b xs e),λb o xs e=>frzs b o xs (I.base.frzs b o xs e),λb ps e=>?_⟩,?_,λx c e=>?_,?_,λx c e=>?_,λp hp=>?_,hok,I.len⟩
  · exact keep b o (xN b o e) hb (uA b o e hx) (I.base.keep b o e n hb hx) (I.base.free b o e n hx)
  · obtain⟨sl,e1⟩:=I.base.slot b o e n hb hx
    obtain⟨rJ,e2⟩:=slot b _ (xN b o e) hb (uA b o e hx) e1 (I.base.free b o e n hx);exact⟨rJ,e2⟩
  · obtain⟨o',e1⟩:=I.base.there b o e hx
    exact free b o' (uA b o e hx) e1 (I.base.free b o e n hx)
  · obtain⟨o',e1⟩:=I.base.there b o e hx
    exact there b o' (uA b o e hx) e1
  · obtain⟨m1,e1⟩:=I.base.tbls b ps e
    obtain⟨m2,e2⟩:=tbls b _ e1;exact⟨m1++m2,by rw[e2,ie]⟩
  · obtain⟨m,hn,hl⟩:=I.loc
    refine⟨m,ns m hn,λi x v e1 e2 e3=>?_⟩;obtain⟨u,r,l⟩:=hl i x v e1 e2 e3;refine⟨u,r,?_⟩;rcases l with l|⟨k,c,e,z⟩
    · exact .inl l
    · exact .inr ⟨k,c,e,cellK x c e _ z⟩
  · obtain⟨v,z⟩:=I.cell x c e
    exact⟨v,cellK x c e v z⟩
  · obtain⟨m,⟨o,_,_,ho,_⟩,_⟩:=I.loc
    exact free _ o (λz=>(nE _ z).2.1 rfl) ho I.free
  · obtain⟨v,o,ho,hd⟩:=I.cell x c e
    exact free c o (λz=>(nE c z).2.2.1 x c e rfl) ho (I.freeC x c e)
  · obtain⟨e,n,ne,nf,d⟩:=I.pin p hp
    have nL:p.1∉ch:=λz=>(nE p.1 z).2.2.2 p hp rfl
    exact⟨keep p.1 p.2 ne nf nL e n,free p.1 p.2 nL e n,ne,nf,d⟩
def Inv.un(I:Inv X pins σ H s)(u:Un X.fs [] H H' s.heap h')(hok:HOk X.prog X.w H' h'):Inv X pins σ H' {s with heap:=h',toks:=t'}:=by
  obtain⟨m,⟨o,es,ep,ho,r⟩,_⟩:=id I.loc;obtain⟨sl,hL⟩:=u.any ho I.free (by simp);exact I.step (g':=s.gens) (d':=s.drawn) (ch:=[]) (λ_ z=>nomatch z) (λb o _ hb _ e n=>u.keep b o e n hb (by simp)) (λb o _ hb _ e n=>u.slot b o e n hb (by simp)) (λb o _ e n=>u.free b o e n (by simp)) (λb o _ e=>u.there b o e (by simp)) u.tups u.frzs u.tbls (λm' hm=>by
    obtain⟨o',iW,oV,lS,r'⟩:=hm;rw[ho]at lS;cases lS;exact⟨_,iW,oV,hL,r'⟩) hok I.bare
def Inv.call(I:Inv X pins σ H s)(u:Un (frs X.stack) ch H H' s.heap h')(hok:HOk X.prog X.w H' h')(hg:ig g')
    (nE:∀b∈ch,(b∈X.ex∨X.s₀.heap.objs.size≤b)∧b≠X.env.locals∧(∀x c,X.env.cells.lookup x=cz c→c≠b)∧∀p∈X.pn++pins,p.1≠b) :
    Inv X pins σ H' {s with heap:=h',gens:=g',drawn:=d',toks:=t'}:=by
  obtain⟨m,⟨o,es,ep,ho,r⟩,_⟩:=id I.loc;obtain⟨sl,hL⟩:=u.any ho I.free λz=>(nE _ z).2.1 rfl
  exact I.step (ch:=ch) nE (λb o hL hb hc e n=>u.keep b o e n (λz=>(aF.mp (I.stkSub b z)).elim hL hb) hc) (λb o _ _ hc e n=>u.any e n hc) (λb o hc e n=>u.free b o e n hc) (λb o hc e=>u.there b o e hc) u.tups u.frzs u.tbls (λm' hm=>by
    obtain⟨o',iW,oV,lS,r'⟩:=hm;rw[ho]at lS;cases lS;exact⟨_,iW,oV,hL,r'⟩) hok hg
def Inv.turned(I:Inv X pins σ H s)(k:∀b o,b≠it→s.heap.get? b=cz o→h'.get? b=cz o)(hn:H it=pz)(hL:it≠X.env.locals)
    (h1:it∈X.ex∨X.s₀.heap.objs.size≤it) (h2:∀x c,X.env.cells.lookup x=cz c→c≠it) (h3:∀p∈X.pn++pins,p.1≠it):Inv X pins σ H {s with heap:=h',toks:=t'}:=by
  have xJ:∀b u,H b=cz u→b≠it:=λb u e z=>by rw[z,hn]at e;cases e
  refine I.step (g':=s.gens) (d':=s.drawn) (ch:=[it]) (λb hb=>?_) (λb o _ _ hc e _=>k b o (λz=>hc (by simp[z])) e) (λb o _ _ hc e _=>⟨o.slots,k b o (λz=>hc (by simp[z])) e⟩) (λ_ _ _ _ n=>n)
    (λb o hc e=>⟨o,k b o (λz=>hc (by simp[z])) e⟩) (λ_ _ e=>e) (λ_ _ _ e=>e) (λb ps e=>⟨#[],by rw[e];simp⟩) (λm hm=>?_) (λb u e=>?_) I.bare
  · have e:b=it:=by simpa using hb
    subst e;exact⟨h1,hL,h2,h3⟩
  · obtain⟨o,es,ep,ho,r⟩:=hm
    exact⟨o,es,ep,k _ o (fx hL) ho,r⟩
  · refine (I.hok b u e).stay (λc v hc q=>k c v ?_ q) (λ_ q=>q) λ_ _ q=>q
    rcases hc with z|z
    · rw[z];exact xJ b u e
    · exact xJ c _ z
def Inv.tok(I:Inv X pins σ H s)(t:Nat):Inv X pins σ H {s with toks:=t}:=I.un (h':=s.heap) (t':=t) Un.refl I.hok
theorem Inv.kept(I:Inv X pins σ H s)(k:∀b u,s.heap.get? b=cz u→h'.get? b=cz u):Inv X pins σ H {s with heap:=h',toks:=t'}:=I.un (Un.kept k) (I.hok.kept k)
theorem Inv.laid{a:au}{o:HO}{t':Nat}(I:Inv X pins σ H s)(k:∀b u,s.heap.get? b=cz u→h'.get? b=cz u)(hp:s.heap.objs.size≤a)(new:ObjOk X.prog X.w (upd H a o) h' a o) :
    Inv X pins σ (upd H a o) {s with heap:=h',toks:=t'}:=I.un (Un.laid k hp (I.hok.fresh hp)) (I.hok.laid k hp new)
theorem Inv.write(I:Inv X pins σ H s)(mu:Mut (H x))(he:e=x∨H e=cz (.own x))(k:∀b u,b≠e→s.heap.get? b=cz u→h'.get? b=cz u)(rT:∃u,h'.get? e=cz u)
    (new:ObjOk X.prog X.w (upd H x o) h' x o):Inv X pins σ (upd H x o) {s with heap:=h',toks:=t'}:=I.un (Un.write mu he k rT) (I.hok.write mu he k rT new)
def Inv.pins_of(I:Inv X pins σ H s)(h:∀p∈nK,s.heap.get? p.1=cz p.2∧H p.1=pz∧p.1≠X.env.locals∧p.1∉X.fs∧∀v,p.2.data≠.cell v):Inv X nK σ H s:=
  ⟨I.ok,I.os,I.bare,I.base,I.loc,I.cell,I.free,I.freeC,λp hp=>(ar.mp hp).elim (λz=>I.pin p (aw _ z)) (h p),I.hok,I.len⟩
def a0N{N:List br}(hN:N.Nodup){i j:Nat}{x:br}(a:N[i]?=cz x)(b:N[j]?=cz x):i=j:=by
  obtain⟨h1,e1⟩:=aT.mp a;obtain⟨h2,e2⟩:=aT.mp b;exact (List.getElem_inj hN).mp (e1.trans e2.symm)
def a6G{M:Model}{A:bH}{E:ag→aj→Prop}{i:Nat}{x:br}{v:V}{u:ag}{Q:Unit→aj→Prop}(I:Inv X pins σ H s)(hN:X.N.Nodup)(hi:X.N[i]?=cz x)(hx:Loc X.env.scope x)(r:RelV v u)
    (h:∀s',Inv X pins (σ.set i (cz v)) H s'→(∃a,iB a s.heap s'.heap∧(a=X.env.locals∨X.env.cells.lookup x=cz a))→Q () s') (hf:X.fn x=true∨X.env.scope.names.lookup x=cz .local:=by first|exact .inl rfl|exact .inr rfl|assumption):be M A (storeName X.env x u) Q E s:=by
  obtain⟨m,hn,hl⟩:=id I.loc;have qV:(X.env.scope.kind==.class||(X.env.scope.kind==.module&&X.env.locals !=X.env.globals))=false:=by rw[I.ok.kind];rfl
  have oR:i<σ.length:=by rw[I.len];exact (aT.mp hi).1
  have cne:=I.cne;have tracked:∀{a:au} {h':b_},(∃o,s.heap.get? a=cz o∧H a=pz)→iB a s.heap h'→HOk X.prog X.w H h':=λ{a h'} ha hs b ob e=>by
    obtain⟨_,_,ji⟩:=ha;refine (I.hok b ob e).stay (λc w' hc q=>(hs.2 c ?_).trans q) (λ_ q=>q) λ_ _ q=>q
    rintro rfl;rcases hc with rfl|hc
    · rw[ji]at e;cases e
    · rw[ji]at hc;cases hc
  rcases hx with hk|hk
  · refine wpAny_storeName_local hk hn (λh' qJ hs=>?_) qV
    obtain⟨oL,_,_,Av,_⟩:=id hn;refine h _ ⟨I.ok,I.os,I.bare,⟨λb o e n hb hx=>?_,λb o e n hb hx=>?_,I.base.free,λb o e hx=>?_,I.base.tups,I.base.frzs,I.base.tbls⟩,⟨_,qJ,λj y v' e1 e2 e3=>?_⟩,λy c e=>?_,I.free,I.freeC,λp hp=>?_,tracked ⟨oL,Av,I.free⟩ hs,by simpa using I.len⟩ ⟨_,hs,.inl rfl⟩
    · exact (hs.2 b (bP (aZ (aN e) I.ok.above))).trans (I.base.keep b o e n hb hx)
    · obtain⟨sl,e1⟩:=I.base.slot b o e n hb hx
      exact⟨sl,(hs.2 b (bP (aZ (aN e) I.ok.above))).trans e1⟩
    · obtain⟨o',e1⟩:=I.base.there b o e hx
      exact⟨o',(hs.2 b (bP (aZ (aN e) I.ok.above))).trans e1⟩
    · by_cases hj:j=i
      · subst hj
        rw[hi]at e1;cases e1;rw[gi oR]at e2;cases e2
        exact⟨u,r,.inl ⟨hk,by simp⟩⟩
      · rw[dw (fx hj)]at e2
        obtain⟨u',r',q⟩:=hl j y v' e1 e2 e3;refine⟨u',r',?_⟩;rcases q with⟨k,e⟩|⟨k,c,e,z⟩
        · refine .inl ⟨k,?_⟩
          have:y≠x:=λe=>hj (a0N hN e1 (e▸hi))
          simp[this,e]
        · exact .inr ⟨k,c,e,z.sameBut hs (cne y c e)⟩
    · obtain⟨w',z⟩:=I.cell y c e
      exact⟨w',z.sameBut hs (cne y c e)⟩
    · obtain⟨e,n,ne,nf,d⟩:=I.pin p hp
      exact⟨(hs.2 p.1 ne).trans e,n,ne,nf,d⟩
  · have kQ:X.fn x=true:=by
      rcases hf with z|z
      · exact z
      · rw[z]at hk;cases hk
    obtain⟨c,hc⟩:=I.ok.has x (.inl hk);obtain⟨w',z⟩:=I.cell x c hc;refine wpAny_storeName_cell I.ok.kind hk hc z (λh' ox hs=>?_);obtain⟨oc,sV,vY⟩:=id z;refine h {s with heap:=h'} ⟨I.ok,I.os,I.bare,⟨λb o e n hb hx=>?_,λb o e n hb hx=>?_,I.base.free,λb o e hx=>?_,I.base.tups,I.base.frzs,I.base.tbls⟩,⟨m,hn.sameBut hs (fx (cne x c hc)),λj y v' e1 e2 e3=>?_⟩,λy c' e=>?_,I.free,I.freeC,λp hp=>?_,tracked ⟨oc,sV,I.freeC x c hc⟩ hs,by simpa using I.len⟩ ⟨c,hs,.inr hc⟩
    · exact (hs.2 b (bP (aZ (aN e) (I.ok.cab x c kQ hc)))).trans (I.base.keep b o e n hb hx)
    · obtain⟨sl,e1⟩:=I.base.slot b o e n hb hx
      exact⟨sl,(hs.2 b (bP (aZ (aN e) (I.ok.cab x c kQ hc)))).trans e1⟩
    · obtain⟨o',e1⟩:=I.base.there b o e hx
      exact⟨o',(hs.2 b (bP (aZ (aN e) (I.ok.cab x c kQ hc)))).trans e1⟩
    · by_cases hj:j=i
      · subst hj
        rw[hi]at e1;cases e1;rw[gi oR]at e2;cases e2
        exact⟨u,r,.inr ⟨.inl hk,c,hc,ox⟩⟩
      · rw[dw (fx hj)]at e2
        obtain⟨u',r',q⟩:=hl j y v' e1 e2 e3;refine⟨u',r',?_⟩;rcases q with q|⟨k,c',e,z'⟩
        · exact .inl q
        · refine .inr ⟨k,c',e,z'.sameBut hs ?_⟩
          rintro rfl;exact hj (a0N hN e1 (I.ok.inj _ _ _ e hc▸hi))
    · by_cases rV:c'=c
      · subst rV;exact⟨_,ox⟩
      · obtain⟨w2,z2⟩:=I.cell y c' e
        exact⟨w2,z2.sameBut hs rV⟩
    · obtain⟨e,n,ne,nf,d⟩:=I.pin p hp
      refine⟨(hs.2 p.1 ?_).trans e,n,ne,nf,d⟩;intro q;rw[q,sV]at e;have q':oc=p.2:=aK e;exact d w' (by rw[←q'];exact vY)
def V9(I:Inv X pins σ H s)(hN:X.N.Nodup)(hi:X.N[i]?=cz x)(hx:Loc X.env.scope x)(r:RelV v u)
    (h:∀s',Inv X pins (σ.set i (cz v)) H s'→Q () s') (hf:X.fn x=true∨X.env.scope.names.lookup x=cz .local:=by first|exact .inl rfl|exact .inr rfl|assumption):be M A (storeName X.env x u) Q E s:=
  a6G I hN hi hx r (λs' I' _=>h s' I') hf
def Inv.call'{s':aj}(I:Inv X pins σ H s)(ho:s'.os=s.os)(u:Un (frs X.stack) ch H H' s.heap s'.heap)(hok:HOk X.prog X.w H' s'.heap)(hg:ig s'.gens)
    (nE:∀b∈ch,(b∈X.ex∨X.s₀.heap.objs.size≤b)∧b≠X.env.locals∧(∀x c,X.env.cells.lookup x=cz c→c≠b)∧∀p∈X.pn++pins,p.1≠b):Inv X pins σ H' s':=by
  obtain⟨h',g',d',t',o'⟩:=s';have e:o'=s.os:=ho;subst e;exact I.call (g':=g') (t':=t') (d':=d') u hok hg nE
end
abbrev XK:=ag→Option au→Hp→Prop
abbrev St:=List (Option V)
abbrev VK:=V→Hp→Prop
abbrev TE:=St→Hp→VK→Prop
abbrev TT:=St→Hp→(Bool→Hp→Prop)→Prop
abbrev TA:=St→Hp→(List V→Hp→Prop)→Prop
structure Ends where
  nx:St→Hp→Prop
  rt:VK
  bk:St→Hp→Prop:=λ_ _=>False
  ct:St→Hp→Prop:=λ_ _=>False
abbrev TS:=Ends→St→Hp→Prop
def EP(X:Cx)(pins:List (au×eW))(σ:St)(Q:VK)(u:ag)(s':aj):Prop:=∃v H',Inv X pins σ H' s'∧RelV v u∧Q v H'
def TP(X:Cx)(pins:List (au×eW))(σ:St)(Q:Bool→Hp→Prop)(b:Bool)(s':aj):Prop:=∃H',Inv X pins σ H' s'∧Q b H'
def AP(X:Cx)(pins:List (au×eW))(σ:St)(Q:List V→Hp→Prop)(us:List ag)(s':aj):Prop:=∃vs H',Inv X pins σ H' s'∧Vals vs us∧Q vs H'
def SP(X:Cx)(pins:List (au×eW))(D:Ends)(f:Flow)(s':aj):Prop:=
  match f with
  |.next=>∃σ' H',Inv X pins σ' H' s'∧D.nx σ' H'
  |.brk=>∃σ' H',Inv X pins σ' H' s'∧D.bk σ' H'
  |.cont=>∃σ' H',Inv X pins σ' H' s'∧D.ct σ' H'
  |.ret u=>∃v σ' H',Inv X pins σ' H' s'∧RelV v u∧D.rt v H'
def PE(X:Cx)(e:Expr)(t:TE):Prop:=
  ∀(pins:List (au×eW)) (s:aj) (σ:St) (H:Hp) (Q:VK),Inv X pins σ H s→t σ H Q→be (aV X.prog X.w) X.A (cU e X.env) (EP X pins σ Q) X.xe s
def PT(X:Cx)(e:Expr)(t:TT):Prop:=
  ∀(pins:List (au×eW)) (s:aj) (σ:St) (H:Hp) (Q:Bool→Hp→Prop),Inv X pins σ H s→t σ H Q→be (aV X.prog X.w) X.A (zP e X.env (cU e X.env)) (TP X pins σ Q) X.xe s
def PW(X:Cx)(e:Expr)(t:TT):Prop:=
  ∀(whole:xo ag) (pins:List (au×eW)) (s:aj) (σ:St) (H:Hp) (Q:Bool→Hp→Prop),Inv X pins σ H s→t σ H Q→be (aV X.prog X.w) X.A (zP e X.env whole) (TP X pins σ Q) X.xe s
def PW.pt(h:PW X e t):PT X e t:=h _
def PA(X:Cx)(es:List Expr)(t:TA):Prop:=
  ∀(pos:eH) (pins:List (au×eW)) (s:aj) (σ:St) (H:Hp) (Q:List V→Hp→Prop),Inv X pins σ H s→t σ H Q→be (aV X.prog X.w) X.A (spliced (dj pos (ax es X.env))) (AP X pins σ Q) X.xe s
def PS(X:Cx)(st:fH)(t:TS):Prop:=
  ∀(pins:List (au×eW)) (s:aj) (σ:St) (H:Hp) (D:Ends),Inv X pins σ H s→t D σ H→be (aV X.prog X.w) X.A (exec st X.env) (SP X pins D) X.xe s
def PSs(X:Cx)(st:List fH)(t:TS):Prop:=
  ∀(pins:List (au×eW)) (s:aj) (σ:St) (H:Hp) (D:Ends),Inv X pins σ H s→t D σ H→be (aV X.prog X.w) X.A (execs st X.env) (SP X pins D) X.xe s
def thn{α:Type}{t:xo α}{Q Q':α→aj→Prop}{M:Model}{A:bH}{E:ag→aj→Prop}{s:aj}(h:be M A t Q E s)(hQ:∀a s,Q a s→Q' a s):be M A t Q' E s:=cM h hQ λ_ _ x=>x
section
variable {X:Cx}
def b4p(i:Nat):TE:=λσ H Q=>∃v,σ[i]?=cz (cz v)∧Q v H
def tC(v:V):TE:=λ_ H Q=>Q v H
def P6(hN:X.N[i]?=cz x)(hv:Vis X.env.scope x)(hd:(x==("__debug__":br))=false:=by decide)(gu:(x==("__classdict__":br))=false:=by decide):PE X (.Name x pos) (b4p i):=by
  intro pins s σ H Q I h;obtain⟨v,e,h⟩:=h;obtain⟨m,hn,hl⟩:=I.loc;obtain⟨u,r,l⟩:=hl i x v hN e hv;have fin:EP X pins σ Q u s:=⟨v,H,I,r,h⟩;rcases l with⟨hk,hm⟩|⟨hk,c,hc,mJ⟩
  · exact wpAny_Name (wpAny_loadName_local I.ok.kind hk hn hm fin) hd
  · rcases hk with hk|hk
    · exact wpAny_Name (wpAny_loadName_cell I.ok.kind hk hc mJ fin) hd
    · exact wpAny_Name (wpAny_loadName_free I.ok.kind hk hc mJ fin gu) hd
def a7U{i j pos}:PE X (.Constant (.int i) j pos) (tC (.int i)):=λ_ _ _ H _ I h=>wpAny_Constant_int ⟨.int i,H,I.tok _,⟨_,rfl⟩,h⟩
def b4q{b j pos}:PE X (.Constant (.bool b) j pos) (tC (.bl b)):=λ_ _ _ H _ I h=>Constant_bool ⟨.bl b,H,I,rfl,h⟩
def b2e{j pos}:PE X (.Constant .none j pos) (tC .non):=λ_ _ _ H _ I h=>Constant_none ⟨.non,H,I,rfl,h⟩
def a7V{x j pos}:PE X (.Constant (.str x) j pos) (tC (.str x)):=λ_ _ _ H _ I h=>Calls.Constant_str ⟨.str x,H,I.tok _,⟨_,rfl⟩,h⟩
def Gl(X:Cx)(x:br):Prop:=X.env.kindOf x=cz .globalImplicit
def S8(I:Inv X pins σ H s)(hg:Gl X x)(hm:X.mg x=cz u)(h:Q u s)
    (hd:(x==("__debug__":br))=false:=by decide):be (aV X.prog X.w) X.A (cU (.Name x pos) X.env) Q E s:=
  ur I.ok.kind hg (Calls.loadGlobal_global (by rw[I.ok.glob];exact I.mod.glob.keeps I.bk) hm h) hd
def U3(I:Inv X pins σ H s)(hg:Gl X x)(hm:X.mg x=pz)(hv:eK x=cz u)(h:Q u s)
    (hn:x≠"__name__":=by decide) (hd:(x==("__debug__":br))=false:=by decide):be (aV X.prog X.w) X.A (cU (.Name x pos) X.env) Q E s:=by
  obtain⟨mb,h1,h2⟩:=I.mod.blt;exact ur I.ok.kind hg (Calls.loadGlobal_builtin (by rw[I.ok.glob];exact I.mod.glob.keeps I.bk) hm (by rw[I.ok.blt];exact h1.keeps I.bk) ((h2 x hn).trans hv) h) hd
def b0b(hg:Gl X x)(hm:X.mg x=cz u)(r:RelV v u)(hd:(x==("__debug__":br))=false:=by decide):PE X (.Name x pos) (tC v):=
  λ_ _ _ H _ I h=>S8 I hg hm ⟨v,H,I,r,h⟩ hd
def a5Q(hg:Gl X x)(hm:X.mg x=pz)(hv:eK x=cz u)(r:RelV v u)(hn:x≠"__name__":=by decide)(hd:(x==("__debug__":br))=false:=by decide):PE X (.Name x pos) (tC v):=
  λ_ _ _ H _ I h=>U3 I hg hm hv ⟨v,H,I,r,h⟩ hn hd
variable {a b:Expr}{ta tb:TE}{pos:eH}
def tB(t:TE):TT:=λσ H Q=>t σ H λx H1=>∃c,x=.bl c∧Q c H1
variable {tA uu:TT}{rest:List Expr}
def b6k(t u:TT):TT:=λσ H Q=>t σ H λc H1=>if c=true then u σ H1 Q else Q false H1
def tOr(t u:TT):TT:=λσ H Q=>t σ H λc H1=>if c=true then Q true H1 else u σ H1 Q
def b6l(t:TT):TT:=λσ H Q=>t σ H λc H1=>Q (!c) H1
def b0c(ha:PT X a tA):PW X (.BoolOp .And [a] pos) tA:=by
  intro wh pins s σ H Q I h;refine isTrue_and (thn (ha pins s σ H Q I h) λc s1 e=>?_);cases c with
  |true=>exact isTrue_and_nil e
  |false=>exact e
def b2f(ha:PT X a tA):PW X (.BoolOp .Or [a] pos) tA:=by
  intro wh pins s σ H Q I h;refine isTrue_or (thn (ha pins s σ H Q I h) λc s1 e=>?_);cases c with
  |false=>exact isTrue_or_nil e
  |true=>exact e
def b2g(ha:PT X a tA)(hb:PW X (.BoolOp .And (b::rest) pos) uu):PW X (.BoolOp .And (a::b::rest) pos) (b6k tA uu):=by
  intro wh pins s σ H Q I h;refine isTrue_and (thn (ha pins s σ H _ I h) λc s1 ⟨H1,I1,q1⟩=>?_);cases c with
  |true=>exact hb wh pins s1 σ H1 Q I1 q1
  |false=>exact⟨H1,I1,q1⟩
def b4r(ha:PT X a tA)(hb:PW X (.BoolOp .Or (b::rest) pos) uu):PW X (.BoolOp .Or (a::b::rest) pos) (tOr tA uu):=by
  intro wh pins s σ H Q I h;refine isTrue_or (thn (ha pins s σ H _ I h) λc s1 ⟨H1,I1,q1⟩=>?_);cases c with
  |true=>exact⟨H1,I1,q1⟩
  |false=>exact hb wh pins s1 σ H1 Q I1 q1
def b2h(ha:PT X a tA):PT X (.UnaryOp .Not a pos) (b6l tA):=by
  intro pins s σ H Q I h;exact isTrue_not (ha pins s σ H (λc H1=>Q (!c) H1) I h)
def b4s(ta tb:TE):TE:=λσ H Q=>ta σ H λx H1=>∃c,x=.bl c∧if c=true then tb σ H1 Q else Q (.bl false) H1
def b2i{op}(h:PE X a t):PE X (.BoolOp op [a] pos) t:=λpins s σ H Q I hw=>BoolOp_one (h pins s σ H Q I hw)
def b2j(ha:PE X a ta)(hb:PE X (.BoolOp .And (b::rest) pos) tb):PE X (.BoolOp .And (a::b::rest) pos) (b4s ta tb):=by
  intro pins s σ H Q I h;refine BoolOp_and (thn (ha pins s σ H _ I h) λv s1 ⟨x,H1,I1,r1,q1⟩=>?_);obtain⟨c,rfl,q1⟩:=q1;cases r1
  refine eJ ?_;cases c with
  |true=>exact hb pins s1 σ H1 Q I1 q1
  |false=>exact⟨.bl false,H1,I1,rfl,q1⟩
end
def SqL(K:ae)(H:Hp)(a:au)(xs:List V):Prop:=
  Rd H a (.lst xs)∨
    ∃(o:eW) (cN:Array ag) (n:Nat),K.lookup a=cz o∧o.cls=.type "list"∧o.dict=pz∧o.data=.seq cN n∧cN.size≤bh∧Vals xs cN.toList
def SqT(K:ae)(H:Hp)(a:au)(xs:List V):Prop:=
  Rd H a (.tup xs)∨
    ∃(o:eW) (cN:Array ag) (n:Nat),K.lookup a=cz o∧o.cls=.type "tuple"∧o.data=.seq cN n∧cN.size≤bh∧Vals xs cN.toList
def b6m:ag→Option V
  |.none=>cz .non
  |.bool b=>cz (.bl b)
  |.int i _=>cz (.int i)
  |.str x _=>cz (.str x)
  |.bytes b _=>cz (.byt b)
  |.float b _=>cz (.flt b)
  |.ref a=>cz (.ref a)
  |.type n=>cz (.ty n)
  |_=>pz
def RelV.abs(r:RelV x u):b6m u=cz x:=by
  cases x with
  |non=>cases r;rfl
  |bl _=>cases r;rfl
  |int _=>obtain⟨t,rfl⟩:=r;rfl
  |str _=>obtain⟨t,rfl⟩:=r;rfl
  |byt _=>obtain⟨t,rfl⟩:=r;rfl
  |flt _=>obtain⟨t,rfl⟩:=r;rfl
  |ref _=>cases r;rfl
  |ty _=>cases r;rfl
def RelV.inj(r:RelV x u)(q:RelV y u):x=y:=aK (r.abs.symm.trans q.abs)
theorem Vals.inj:∀{xs ys:List V} {us:List ag},Vals xs us→Vals ys us→xs=ys
  |_,_,_,.nil,.nil=>rfl
  |_,_,_,.cons r t,.cons r' t'=>by rw[r.inj r',Vals.inj t t']
section
variable {X:Cx}{pins:List (au×eW)}{σ:St}{H:Hp}{s:aj}{a:au}{xs ys:List V}
def SqL.of{K:ae}(h:H a=cz (.lst xs)):SqL K H a xs:=.inl (.inl h)
def SqT.of{K:ae}(h:H a=cz (.tup xs)):SqT K H a xs:=.inl (.inl h)
def Inv.list(I:Inv X pins σ H s)(h:SqL X.K H a xs):∃cN:List ag,Vals xs cN∧PlainL s.heap a cN.toArray∧xs.length≤bh:=by
  rcases h with h|⟨o,cN,n,hk,hc,hd,hs,hz,r⟩
  · obtain⟨z,cN,n,r,e⟩:=h.ok I.hok
    exact⟨cN,r,⟨_,n,e,rfl,rfl,rfl⟩,z⟩
  · refine⟨cN.toList,r,⟨o,n,I.kIn a o hk,hc,hd,by simpa using hs⟩,?_⟩
    have e:=r.length;simp only[aH]at e;omega
def Inv.tuple(I:Inv X pins σ H s)(h:SqT X.K H a xs):∃cN:List ag,Vals xs cN∧IsTup s.heap a cN.toArray∧xs.length≤bh:=by
  rcases h with h|⟨o,cN,n,hk,hc,hs,hz,r⟩
  · obtain⟨z,cN,r,p⟩:=h.ok I.hok
    exact⟨cN,r,p,z⟩
  · refine⟨cN.toList,r,⟨o,I.kIn a o hk,hc,n,by simpa using hs⟩,?_⟩
    have e:=r.length;simp only[aH]at e;omega
def Inv.list_inj(I:Inv X pins σ H s)(h:SqL X.K H a xs)(h':SqL X.K H a ys):xs=ys:=by
  obtain⟨cN,r,⟨o,n,e,_,_,d⟩,_⟩:=I.list h;obtain⟨its',r',⟨o',n',e',_,_,d'⟩,_⟩:=I.list h';rw[e]at e';cases e';rw[d]at d'
  injection d' with d1 _
  have:cN=its':=by simpa using fE Array.toList d1
  subst this;exact r.inj r'
end
abbrev Cx.wish(X:Cx)(E:ag→aj→Prop):Cx:={X with xe:=E}
abbrev Cx.nox(X:Cx):Cx:=X.wish λ_ _=>False
theorem Cx.Ok.wish{X:Cx}(ok:X.Ok)(E:ag→aj→Prop):(X.wish E).Ok:=
  ⟨ok.mod,ok.kind,ok.glob,ok.blt,ok.above,ok.inj,ok.has,ok.cab,ok.hd,ok.frames,ok.stk,ok.exf,ok.bs,ok.bsz,ok.noex,ok.exfs,ok.funs,ok.frf,ok.tabs⟩
def Cx.Ok.unwish{X:Cx}(ok:(X.wish E).Ok):X.Ok:=
  ⟨ok.mod,ok.kind,ok.glob,ok.blt,ok.above,ok.inj,ok.has,ok.cab,ok.hd,ok.frames,ok.stk,ok.exf,ok.bs,ok.bsz,ok.noex,ok.exfs,ok.funs,ok.frf,ok.tabs⟩
section
variable {X:Cx}{pins:List (au×eW)}{σ:St}{H:Hp}{s:aj}{E:ag→aj→Prop}
theorem Inv.wish(I:Inv X pins σ H s)(E:ag→aj→Prop):Inv (X.wish E) pins σ H s:=⟨I.ok.wish E,I.os,I.bare,I.base,I.loc,I.cell,I.free,I.freeC,I.pin,I.hok,I.len⟩
theorem Inv.unwish(I:Inv (X.wish E) pins σ H s):Inv X pins σ H s:=⟨I.ok.unwish,I.os,I.bare,I.base,I.loc,I.cell,I.free,I.freeC,I.pin,I.hok,I.len⟩
theorem SP.unwish(h:SP (X.wish E) pins D f s'):SP X pins D f s':=by
  cases f with
  |next=>obtain⟨σ',H',I,q⟩:=h;exact⟨σ',H',I.unwish,q⟩
  |brk=>obtain⟨σ',H',I,q⟩:=h;exact⟨σ',H',I.unwish,q⟩
  |cont=>obtain⟨σ',H',I,q⟩:=h;exact⟨σ',H',I.unwish,q⟩
  |ret u=>obtain⟨v,σ',H',I,r,q⟩:=h;exact⟨v,σ',H',I.unwish,r,q⟩
theorem PSs.nox{st:List fH}{t:TS}(h:PSs X.nox st t):PSs X st t:=λpins s σ H D I hw=>
  cM (h pins s σ H D (I.wish _) hw) (λ_ _ q=>q.unwish) λ_ _ z=>cJ z
end
section
variable {X:Cx}{st:fH}{rest:List fH}{t u:TS}{e:Expr}{te:TE}{pos:eH}
def b4t:TS:=λD σ H=>D.nx σ H
def b6n(t u:TS):TS:=λD σ H=>t {D with nx:=u D} σ H
def b0d:PSs X [] b4t:=λ_ _ σ H _ I h=>ik ⟨σ,H,I,h⟩
def a3A(h1:PS X st t)(h2:PSs X rest u):PSs X (st::rest) (b6n t u):=by
  intro pins s σ H D I h;refine wpAny_execs_cons (thn (h1 pins s σ H {D with nx:=u D} I h) λf s1 q=>?_);cases f with
  |next=>
    obtain⟨σ',H',I',q⟩:=q;exact h2 pins s1 σ' H' D I' q
  |ret v=>exact q
  |brk=>exact q
  |cont=>exact q
def a5R(h1:PS X st t):PSs X [st] t:=by
  intro pins s σ H D I h;refine wpAny_execs_cons (thn (h1 pins s σ H D I h) λf s1 q=>?_);cases f with
  |next=>exact ik q
  |ret v=>exact q
  |brk=>exact q
  |cont=>exact q
def Inv.quiet{pins:List (au×eW)}{σ:St}{H:Hp}{s:aj}(I:Inv X pins σ H s):interactive X.env=false:=by simp[interactive,I.ok.kind]
def b4u(te:TE):TS:=λD σ H=>te σ H λ_ H1=>D.nx σ H1
def a2O(he:PE X e te)(hs:gn e pz pos.line X.env=pure false:=by rfl):PS X (.Expr e pos) (b4u te):=by
  intro pins s σ H D I h;exact wpAny_Expr_any (thn (he pins s σ H _ I h) λv s1 ⟨x,H1,I1,r1,q1⟩=>⟨σ,H1,I1,q1⟩) I.quiet hs
def b6o(te:TE):TS:=λD σ H=>te σ H D.rt
def b2k(he:PE X e te):PS X (.Return (cz e) pos) (b6o te):=by
  intro pins s σ H D I h;exact wpAny_Return_some (thn (he pins s σ H _ I h) λv s1 ⟨x,H1,I1,r1,q1⟩=>⟨x,σ,H1,I1,r1,q1⟩)
def b6p(c:TT)(t u:TS):TS:=λD σ H=>c σ H λb H1=>if b=true then t D σ H1 else u D σ H1
def b1K{c:Expr}{a b:List fH}{tc:TT}(hc:PT X c tc)(ha:PSs X a t)(hb:PSs X b u):PS X (.If c a b pos) (b6p tc t u):=by
  intro pins s σ H D I h;refine wpAny_If (thn (hc pins s σ H _ I h) λd s1 ⟨H1,I1,q1⟩=>?_);cases d with
  |true=>exact ha pins s1 σ H1 D I1 q1
  |false=>exact hb pins s1 σ H1 D I1 q1
def b2l:TS:=λ_ _ _=>False
def a7W:PS X st b2l:=λ_ _ _ _ _ _ h=>h.elim
end
abbrev TG:=V→St→Hp→(St→Hp→Prop)→Prop
abbrev TGs:=List V→St→Hp→(St→Hp→Prop)→Prop
def PG(X:Cx)(target:Expr)(t:TG):Prop:=
  ∀(pins:List (au×eW)) (s:aj) (σ:St) (H:Hp) (v:V) (u:ag) (Q:St→Hp→Prop),Inv X pins σ H s→RelV v u→t v σ H Q→
    be (aV X.prog X.w) X.A (iM target X.env u) (λ_ s'=>∃σ' H',Inv X pins σ' H' s'∧Q σ' H') X.xe s
def PGs(X:Cx)(ts:List Expr)(t:TGs):Prop:=
  ∀(pins:List (au×eW)) (s:aj) (σ:St) (H:Hp) (vs:List V) (us:List ag) (Q:St→Hp→Prop),Inv X pins σ H s→Vals vs us→t vs σ H Q→
    be (aV X.prog X.w) X.A (assignInOrder ((fC ts X.env).map (·.2)) us) (λ_ s'=>∃σ' H',Inv X pins σ' H' s'∧Q σ' H') X.xe s
abbrev b2m:=V→V→V→Hp→(Hp→Prop)→Prop
def b4v(X:Cx)(t:b2m):Prop:=
  ∀(pins:List (au×eW)) (s:aj) (σ:St) (H:Hp) (o i v:V) (ov iv u:ag) (Q:Hp→Prop),Inv X pins σ H s→RelV o ov→RelV i iv→RelV v u→t o i v H Q→
    be (aV X.prog X.w) X.A (zv ov iv u) (λ_ s'=>∃H',Inv X pins σ H' s'∧Q H') X.xe s
section
variable {X:Cx}{pos:eH}
def M7(i:Nat):TG:=λv σ H Q=>Q (σ.set i (cz v)) H
def y9(hN:X.N.Nodup)(hi:X.N[i]?=cz x)(hx:Loc X.env.scope x)(hf:X.fn x=true∨X.env.scope.names.lookup x=cz .local:=by first|exact .inl rfl|exact .inr rfl|assumption):PG X (.Name x pos) (M7 i):=by
  intro pins s σ H v u Q I r h;exact wpAny_assign_Name (V9 I hN hi hx r (λs' I'=>⟨_,H,I',h⟩) hf)
def b0e:TGs:=λvs σ H Q=>vs=[]∧Q σ H
def a0O(t:TG)(u:TGs):TGs:=λvs σ H Q=>∃v r,vs=v::r∧t v σ H λσ' H'=>u r σ' H' Q
def N9:PGs X [] b0e:=by
  intro pins s σ H vs us Q I r h;obtain⟨e,h⟩:=h;subst e;cases r
  exact assignInOrder_nil ⟨σ,H,I,h⟩
def u6{e:Expr}{es:List Expr}{t:TG}{u:TGs}(h1:PG X e t)(h2:PGs X es u)
    (hs:(fC (e::es) X.env).map (·.2)=iM e X.env::(fC es X.env).map (·.2):=by rfl):PGs X (e::es) (a0O t u):=by
  intro pins s σ H vs us Q I r h;obtain⟨v,vr,e1,h⟩:=h;subst e1;cases r with
  |cons r rr=>
    rw[hs];refine assignInOrder_cons (thn (h1 pins s σ H _ _ _ I r h) λ_ s1 ⟨σ1,H1,I1,q1⟩=>?_);exact h2 pins s1 σ1 H1 _ _ Q I1 rr q1
def b2n(K:ae)(n:Nat)(t:TGs):TG:=λv σ H Q=>∃a xs,v=.ref a∧SqT K H a xs∧xs.length=n∧t xs σ H Q
def a2P(hc:X.calm=true)(h:PGs X es t)
    (hn:(fC es X.env).length=n:=by rfl) (jf:(fC es X.env).findIdx? (·.1)=pz:=by rfl):PG X (.Tuple es k pos) (b2n X.K n t):=by
  intro pins s σ H v u Q I r hw;obtain⟨a,xs,e1,hq,hl,hw⟩:=hw;subst e1;cases r
  obtain⟨cN,rv,ht,hz⟩:=I.tuple hq;refine assign_Tuple_tuple (I.ok.hd hc) ht (by simp[hn,←hl,rv.length]) jf λh' hx=>?_
  have I1:Inv X pins σ H {s with heap:=h'}:=I.kept (t':=s.toks) λb o e=>hx b o (bP (aN e)) e
  exact h pins _ σ H xs _ Q I1 (by simpa using rv) hw
def b6q(to ti:TE)(t:b2m):TG:=λv σ H Q=>to σ H λo H1=>ti σ H1 λi H2=>t o i v H2 λH3=>Q σ H3
def b2o{o i:Expr}{to ti:TE}{t:b2m}(ho:PE X o to)(hi:PE X i ti)(hs:b4v X t)
    (ha:∀v,iM (.Subscript o i pos) X.env v=(do
      let ov ←lR [v] (cU o X.env)
      let iv ←lR [v,ov] (cU i X.env)
      standAt pos
      lR [v,ov,iv] (zv ov iv v)
      release [v,ov,iv] []):=by intro _;rfl):PG X (.Subscript o i pos) (b6q to ti t):=by
  intro pins s σ H v u Q I r h;rw[ha];refine af (cK (thn (ho pins s σ H _ I h) λov s1 ⟨x,H1,I1,r1,q1⟩=>?_));refine af (cK (thn (hi pins s1 σ H1 _ I1 q1) λiv s2 ⟨y,H2,I2,r2,q2⟩=>?_));refine af (mo (af (cK (thn (hs pins s2 σ H2 x y v ov iv u _ I2 r1 r2 r q2) λ_ s3 ⟨H3,I3,q3⟩=>?_))));exact wpAny_release ⟨σ,H3,I3,q3⟩
def b2p(te:TE)(g:TG):TS:=λD σ H=>te σ H λx H1=>g x σ H1 D.nx
def a4M{tg e:Expr}{te:TE}{g:TG}(he:PE X e te)(hg:PG X tg g)(hs:mq [tg] e pos.line X.env=pure false:=by rfl)(hw:mr [tg] e X.env=pure pz:=by rfl)
    (h1:(fC [tg] X.env).map (·.2)=[iM tg X.env]:=by rfl):PS X (.Assign [tg] e pos) (b2p te g):=by
  intro pins s σ H D I h;refine wpAny_Assign_stores (thn (he pins s σ H _ I h) λv s1 ⟨x,H1,I1,r1,q1⟩=>?_) hs hw;rw[h1];exact thn (hg pins s1 σ H1 x v _ I1 r1 q1) λ_ s2 q=>q
def b2q{i:Nat}{x:br}{e:Expr}{te:TE}{pos':eH}(hN:X.N.Nodup)(hi:X.N[i]?=cz x)(hx:Loc X.env.scope x)(he:PE X e te)(hs:gn e (cz (.Name x pos')) pos.line X.env=pure false:=by rfl)(hf:X.fn x=true∨X.env.scope.names.lookup x=cz .local:=by first|exact .inl rfl|exact .inr rfl|assumption) :
    PS X (.Assign [.Name x pos'] e pos) (b2p te (M7 i)):=by
  intro pins s σ H D I h;refine wpAny_Assign_Name (thn (he pins s σ H _ I h) λv s1 ⟨y,H1,I1,r1,q1⟩=>?_) hs;exact V9 I1 hN hi hx r1 (λs2 I2=>⟨_,H1,I2,q1⟩) hf
end
section
variable {X:Cx}{pos:eH}
def b2r(c:TT)(tb:TS):TS:=λD σ H=>∃W:Nat→St→Hp→Prop,(∃m,W m σ H)∧∀m σ H,W m σ H→
  c σ H λb H1=>if b=true then ∃N:St→Hp→Prop,(∀σ' H',N σ' H'→∃m',m'<m∧W m' σ' H')∧tb {D with nx:=N,ct:=N,bk:=D.nx} σ H1 else D.nx σ H1
def a7X{c:Expr}{body:List fH}{tc:TT}{tb:TS}(hp:oZ (aV X.prog X.w) X.A X.env X.xe)(hc:PT X c tc)(hb:PSs X body tb):PS X (.While c body [] pos) (b2r tc tb):=by
  intro pins s σ H D I h;obtain⟨W,⟨m0,w0⟩,turn⟩:=h;refine wpAny_While (codeAny_whileLoop (λn s'=>∃σ' H',Inv X pins σ' H' s'∧W n σ' H') ?_ m0 ⟨σ,H,I,w0⟩);rintro n s1 ⟨σ1,H1,I1,w1⟩;refine fD hp (thn (hc pins s1 σ1 H1 _ I1 (turn n σ1 H1 w1)) λb s2 ⟨H2,I2,q2⟩=>?_);cases b with
  |true=>
    obtain⟨N,hN,q2⟩:=q2;rw[aL rfl];refine fD hp (thn (hb pins s2 σ1 H2 _ I2 q2) λf s3 q3=>?_);cases f with
    |next=>
      obtain⟨σ3,H3,I3,n3⟩:=q3;obtain⟨m',hm,w3⟩:=hN σ3 H3 n3;exact⟨m',hm,σ3,H3,I3,w3⟩
    |cont=>
      obtain⟨σ3,H3,I3,n3⟩:=q3;obtain⟨m',hm,w3⟩:=hN σ3 H3 n3;exact⟨m',hm,σ3,H3,I3,w3⟩
    |brk=>exact q3
    |ret v=>exact q3
  |false=>
    rw[aS bU];exact ik ⟨σ1,H2,I2,q2⟩
end
structure It where
  go:Nat→Hp→Prop
  yld:Nat→Hp→V→Hp→Prop
  stop:Nat→Hp→Prop
def a1R(X:Cx)(pins:List (au×eW))(H:Hp)(b:au):Prop:=
  H b=pz∧b≠X.env.locals∧b∉X.fs∧(b∈X.ex∨X.s₀.heap.objs.size≤b)∧(∀x c,X.env.cells.lookup x=cz c→c≠b)∧∀p∈X.pn++pins,p.1≠b
def Inv.fpOk(I:Inv X pins σ H s)(hb:s.heap.objs.size≤b)(hn:H' b=pz):a1R X pins H' b:=by
  refine⟨hn,lG (aZ I.lt hb),I.nofs hb,.inr (bZ I.sz hb),λx c e z=>?_,λp hp z=>?_⟩
  · obtain⟨v,q⟩:=I.cell x c e
    exact absurd (aZ q.lt (by rw[z];exact hb)) (dN _)
  · exact absurd (aZ (aN (I.pin p hp).1) (by rw[z];exact hb)) (dN _)
structure Turn (P:bo) (w:bJ) (K:ae) (tg:Expr) (J:It) (fp:List au) (it:au) (tn:Nat→b_→Prop):Prop where
  mem:it∈fp
  obj:∀i h,tn i h→∀b∈fp,∃o,h.get? b=cz o∧∀v,o.data≠.cell v
  keep:∀i h h',tn i h→(∀b∈fp,∀o,h.get? b=cz o→h'.get? b=cz o)→tn i h'
  item:∀(X:Cx),X.prog=P→X.w=w→X.K=K→X.calm=true→∀(i:Nat) (pins:List (au×eW)) (s:aj) (σ:St) (H:Hp) (E:ag→aj→Prop),Inv X pins σ H s→(∀b∈fp,a1R X pins H b)→tn i s.heap→J.go i H→
    be (aV P w) X.A (si (.ref it)) (λr s1=>∃u,r=cz u∧
      be (aV P w) X.A (kz tg (.ref it) u) (λ_ s2=>∃x H',Inv X pins σ H' s2∧RelV x u∧J.yld i H x H'∧tn (i+1) s2.heap∧∀b∈fp,H' b=pz) E s1) E s
  done:∀(X:Cx),X.prog=P→X.w=w→X.K=K→X.calm=true→∀(i:Nat) (pins:List (au×eW)) (s:aj) (σ:St) (H:Hp) (E:ag→aj→Prop),Inv X pins σ H s→(∀b∈fp,a1R X pins H b)→tn i s.heap→J.stop i H→
    be (aV P w) X.A (si (.ref it)) (λr s1=>r=pz∧Inv X pins σ H s1) E s
  self:∀(A:bH) (i:Nat) (s:aj) (Q:ag→aj→Prop) (E:ag→aj→Prop),tn i s.heap→Q (.ref it) s→be (aV P w) A (pyIter (.ref it)) Q E s
abbrev TI:=St→Hp→(It→Hp→Prop)→Prop
def PIE(X:Cx)(pins:List (au×eW))(σ:St)(tg:Expr)(R:It→Hp→Prop)(vF:ag)(s2:aj):Prop:=
  ∃(it:au) (fp:List au) (tn:Nat→b_→Prop) (J:It) (H':Hp),vF=.ref it∧Inv X pins σ H' s2∧Turn X.prog X.w X.K tg J fp it tn∧tn 0 s2.heap∧(∀b∈fp,a1R X pins H' b)∧R J H'
def PI(X:Cx)(tg iter:Expr)(wi:TI):Prop:=
  ∀(pins:List (au×eW)) (s:aj) (σ:St) (H:Hp) (R:It→Hp→Prop),Inv X pins σ H s→wi σ H R→
    be (aV X.prog X.w) X.A (cU iter X.env) (λv s1=>be (aV X.prog X.w) X.A (pyIter v) (PIE X pins σ tg R) X.xe s1) X.xe s
def a7Y{s:aj}(ho:s.heap.get? it=cz o)(hc:o.cls=.type n)(hd:o.data=.fields vs)
    (hn:["enumerate","zip","dict_itemiterator","dict_reverseitemiterator","odict_iterator","itertools.zip_longest","itertools.pairwise"].contains n=false) (hQ:Q () s):be M A (kz tg (.ref it) u) Q E s:=by
  unfold kz;cases tg<;>first
    |exact aE hQ
    | (cases u<;>first
        |exact aE hQ
        | (refine af (wpAny_load ho ?_)
           rw[hc,hd];show be M A (if (["enumerate","zip","dict_itemiterator","dict_reverseitemiterator","odict_iterator","itertools.zip_longest","itertools.pairwise"].contains n&&vs[0]?==cz (gQ _))=true then _ else _) Q E s;rw[aS (by intro h;rw[hn,Bool.false_and]at h;cases h)];exact aE hQ))
def Itl(K:ae)(a:au):It:=
  ⟨λi H=>∃xs x,SqL K H a xs∧xs[i]?=cz x,λi H x H'=>H'=H∧∀xs,SqL K H a xs→xs[i]?=cz x,λi H=>∃xs,SqL K H a xs∧xs.length≤i⟩
def Itr(lo:Int)(n:Nat):It:=⟨λi _=>i<n,λi H x H'=>H'=H∧x=.int (lo+i),λi _=>n≤i⟩
def a6H{P:bo}{w:bJ}{K:ae}{tg:Expr}(a it:au):Turn P w K tg (Itl K a) [it] it (λi h=>h.IsListIter it a i) where
  mem:=by simp
  obj:=λi h st b hb=>by
    have e:b=it:=by simpa using hb
    subst e;obtain⟨o,e,c,d⟩:=st;exact⟨o,e,λv z=>by rw[d]at z;cases z⟩
  keep:=λi h h' st k=>st.at λo e=>k it (by simp) o e
  item:=by
    intro X hP hw hK hc i pins s σ H E I hf st hg;subst hP hw hK;obtain⟨xs,x,hq,hx⟩:=hg;obtain⟨cN,rv,p,hz⟩:=I.list hq;obtain⟨u,hu,ru⟩:=rv.get hx;obtain⟨f0,f1,f2,f3,f4,f5⟩:=hf it (by simp);refine wpAny_pyNext_list_item st p.isList (x:=u) (by simpa using hu) λh' cm sb=>?_
    have I1:Inv X pins σ H {s with heap:=h'}:=I.turned (t':=s.toks) (λb o hb e=>(sb.2 b hb).trans e) f0 f1 f3 f4 f5;obtain⟨o,e,c,d⟩:=id cm;exact⟨u,rfl,a7Y (s:={s with heap:=h'}) e c d (by decide) ⟨x,H,I1,ru,⟨rfl,λys hy=>by rw[I.list_inj hy hq];exact hx⟩,cm,λb hb=>(hf b hb).1⟩⟩
  done:=by
    intro X hP hw hK hc i pins s σ H E I hf st hg;subst hP hw hK;obtain⟨xs,hq,hx⟩:=hg;obtain⟨cN,rv,p,hz⟩:=I.list hq;obtain⟨f0,f1,f2,f3,f4,f5⟩:=hf it (by simp);have hl:=rv.length;exact wpAny_pyNext_list_end (I.ok.hd hc) st p.isList (by simp;omega) λh' eb=>⟨rfl,I.turned (t':=s.toks) (λb o hb e=>eb b o hb e) f0 f1 f3 f4 f5⟩
  self:=λ_ _ _ _ _ st h=>wpAny_pyIter_listiter st h
def a4N{P:bo}{w:bJ}{K:ae}{tg:Expr}(it:au)(lo:Int)(n:Nat):Turn P w K tg (Itr lo n) [it] it (λi h=>IsRangeIter h it (lo+(i:Nat)*1) ((n:Int)-(i:Nat)) 1) where
  mem:=by simp
  obj:=λi h st b hb=>by
    have e:b=it:=by simpa using hb
    subst e;exact⟨_,st,λv z=>by
      have z':Data.fields _=Data.cell v:=z;cases z'⟩
  keep:=λi h h' st k=>k it (by simp) _ st
  item:=by
    intro X hP hw hK hc i pins s σ H E I hf st hg;subst hP hw hK;obtain⟨f0,f1,f2,f3,f4,f5⟩:=hf it (by simp);have W:=Walks.range (prog:=X.prog) (w:=X.w) (I.ok.hd hc) it lo 1 n;refine W.item i s _ _ hg st λv h' tk hv cm kk=>?_
    obtain⟨t,rfl⟩:=hv;have I1:Inv X pins σ H {s with heap:=h',toks:=tk}:=I.turned (λb o hb e=>kk b o (by simpa using hb) e) f0 f1 f3 f4 f5;refine⟨_,rfl,a7Y (s:={s with heap:=h',toks:=tk}) (n:="range_iterator") cm rfl rfl (by decide) ⟨.int (lo+i),H,I1,⟨t,?_⟩,⟨rfl,rfl⟩,cm,λb hb=>(hf b hb).1⟩⟩;rw[Int.mul_one]
  done:=by
    intro X hP hw hK hc i pins s σ H E I hf st hg;subst hP hw hK;obtain⟨f0,f1,f2,f3,f4,f5⟩:=hf it (by simp);exact wpAny_pyNext_range_end (I.ok.hd hc) st (by have:n≤i:=hg;omega) λh' eb=>⟨rfl,I.turned (t':=s.toks) (λb o hb e=>eb b o hb e) f0 f1 f3 f4 f5⟩
  self:=λ_ _ _ _ _ st h=>wpAny_pyIter_rangeiter st h
section
variable {X:Cx}{tg:Expr}
def b4w(K:ae)(tl:TE):TI:=λσ H R=>tl σ H λx H1=>∃a,x=.ref a∧(∃xs,SqL K H1 a xs)∧R (Itl K a) H1
def b0f{l:Expr}{tl:TE}(hl:PE X l tl):PI X tg l (b4w X.K tl):=by
  intro pins s σ H R I h;refine thn (hl pins s σ H _ I h) λv s1 ⟨x,H1,I1,r1,q1⟩=>?_
  obtain⟨a,e,⟨xs,hq⟩,q⟩:=q1;subst e;cases r1
  obtain⟨cN,rv,p,hz⟩:=I1.list hq;refine wpAny_pyIter_list p.isList ?_;refine⟨s1.heap.objs.size,[s1.heap.objs.size],_,_,H1,rfl,I1.kept (t':=s1.toks) λb o e=>aP _ e,a6H a _,⟨_,bz _ rfl,rfl,rfl⟩,λb hb=>?_,q⟩;have e:b=s1.heap.objs.size:=by simpa using hb
  subst e;exact I1.fpOk (aG _) (I1.hok.fresh (aG _))
def a3B{pins:List (au×eW)}{σ:St}{H:Hp}{s:aj}{R:It→Hp→Prop}{E:ag→aj→Prop}{lo hi:Int}{t u v:Tok}{tk:Nat}(I:Inv X pins σ H s)(h1:-(2^62)≤lo)(h2:lo<2^62)(h3:-(2^62)≤hi)(h4:hi<2^62)
    (q:R (Itr lo (hi-lo).toNat) H):be (aV X.prog X.w) X.A (pyIter (.ref s.heap.objs.size)) (PIE X pins σ tg R) E {s with heap:=s.heap.push {cls:=.type "range",data:=.fields #[.int lo t,.int hi u,.int 1 v]},toks:=tk}:=by
  refine wpAny_pyIter_range (IsRange.new ..) (small_one h1 h2 h3 h4) ?_;have I1:Inv X pins σ H {s with heap:=s.heap.push {cls:=.type "range",data:=.fields #[.int lo t,.int hi u,.int 1 v]},toks:=tk}:=I.kept λb o e=>aP _ e
  refine⟨(s.heap.push {cls:=.type "range",data:=.fields #[.int lo t,.int hi u,.int 1 v]}).objs.size,[(s.heap.push {cls:=.type "range",data:=.fields #[.int lo t,.int hi u,.int 1 v]}).objs.size],_,_,H,rfl,
    I1.kept (t':=tk) λb o e=>aP _ e,a4N _ lo (hi-lo).toNat,?_,λb hb=>?_,q⟩
  · have e1:lo+((0:Nat):Int)*1=lo:=by simp
    have e2:(((hi-lo).toNat:Nat):Int)-((0:Nat):Int)=Builtin.Range.rangeSize lo hi 1:=by rw[rangeSize_one];split<;>omega
    show IsRangeIter _ _ (lo+((0:Nat):Int)*1) ((((hi-lo).toNat:Nat):Int)-((0:Nat):Int)) 1;rw[e1,e2];exact bz _ rfl
  · have e:b=(s.heap.push {cls:=.type "range",data:=.fields #[.int lo t,.int hi u,.int 1 v]}).objs.size:=by simpa using hb
    subst e;exact I1.fpOk (aG _) (I1.hok.fresh (aG _))
def b4x(ta:TA):TI:=λσ H R=>ta σ H λvs H1=>∃j:Int,vs=[.int j]∧-(2^62)≤j∧j<2^62∧R (Itr 0 j.toNat) H1
def b4y(ta:TA):TI:=λσ H R=>ta σ H λvs H1=>∃i j:Int,vs=[.int i,.int j]∧(-(2^62)≤i∧i<2^62∧-(2^62)≤j∧j<2^62)∧R (Itr i (j-i).toNat) H1
def a6I{a:Expr}{ta:TA}{p pos:eH}(hg:Gl X "range")(hm:X.mg "range"=pz)(ha:PA X [a] ta)(hs:ax [a] X.env=[(false,cU a X.env)]:=by rfl):PI X tg (.Call (.Name "range" p) [a] [] pos) (b4x ta):=by
  intro pins s σ H R I h;refine Call_ (U3 I hg hm boot_range (dF (thn (ha pos pins s σ H _ I h) λus s1 ⟨vs,H1,I1,r1,q1⟩=>?_) hs rfl));obtain⟨j,e,q1,q2,q⟩:=q1;subst e;cases r1 with
  |cons r rr=>
    cases rr
    obtain⟨t,rfl⟩:=r;exact call_range_1 (a3B I1 (by omega) (by omega) q1 q2 (by simpa using q))
def a6J(hg:Gl X "range")(hm:X.mg "range"=pz)(ha:PA X [a,b] ta)(hs:ax [a,b] X.env=[(false,cU a X.env),(false,cU b X.env)]:=by rfl)(jY:ax [b] X.env=[(false,cU b X.env)]:=by rfl) :
    PI X tg (.Call (.Name "range" p) [a,b] [] pos) (b4y ta):=by
  intro pins s σ H R I h;refine Call_ (U3 I hg hm boot_range (dF (thn (ha pos pins s σ H _ I h) λus s1 ⟨vs,H1,I1,r1,q1⟩=>?_) (by rw[hs,jY]) (by rw[jY];rfl)));obtain⟨i,j,e,⟨q1,q2,q3,q4⟩,q⟩:=q1;subst e;cases r1 with
  |cons r rr=>
    cases rr with
    |cons r' rr=>
      cases rr
      obtain⟨t,rfl⟩:=r;obtain⟨t',rfl⟩:=r';exact call_range_2 (a3B I1 q1 q2 q3 q4 q)
def b6r(wi:TI)(g:TG)(tb:TS):TS:=λD σ H=>wi σ H λJ H1=>∃W:Nat→Nat→St→Hp→Prop,(∃m,W 0 m σ H1)∧∀i m σ H,W i m σ H→
  (J.stop i H∧D.nx σ H)∨(J.go i H∧∃N:St→Hp→Prop,(∀σ' H',N σ' H'→∃m',m'<m∧W (i+1) m' σ' H')∧∀x H',J.yld i H x H'→g x σ H' λσ2 H2=>tb {D with nx:=N,ct:=N,bk:=D.nx} σ2 H2)
def a2Q(fp:List au)(h:b_):List (au×eW):=fp.filterMap λb=>(h.get? b).map λo=>(b,o)
def A5{h:b_}(hb:b∈fp)(e:h.get? b=cz o):(b,o)∈a2Q fp h:=df.mpr ⟨b,hb,by rw[e];rfl⟩
def a6K(hp:p∈a2Q fp h):p.1∈fp∧h.get? p.1=cz p.2:=by
  obtain⟨b,hb,e⟩:=df.mp hp;cases q:h.get? b with
  |none=>rw[q]at e;cases e
  |some o=>
    rw[q]at e;have e':(b,o)=p:=aK e;subst e';exact⟨hb,q⟩
def Inv.pinned(I:Inv X pins σ H s)(hf:∀b∈fp,a1R X pins H b)(ho:∀b∈fp,∃o,s.heap.get? b=cz o∧∀v,o.data≠.cell v):Inv X (pins++a2Q fp s.heap) σ H s:=
  I.pins_of λp hp=>(ar.mp hp).elim (λz=>I.pin p (aq _ z)) λz=>by
    obtain⟨hb,e⟩:=a6K z;obtain⟨f0,f1,f2,_⟩:=hf p.1 hb;obtain⟨o,e',d⟩:=ho p.1 hb;rw[e]at e';cases e';exact⟨e,f0,f1,f2,d⟩
def Inv.unpinned(I:Inv X (pins++pl) σ H s):Inv X pins σ H s:=I.pins_of λp hp=>I.pin p (aq _ (aw _ hp))
def a7Z(hp:oZ (aV X.prog X.w) X.A X.env X.xe)(hc:X.calm=true)(hi:PI X tg iter wi)(hg:PG X tg g)(hb:PSs X body tb)
    (hs:∀x,dM iter X.env x=pure x:=by intro _;rfl):PS X (.For tg iter body [] pos) (b6r wi g tb):=by
  intro pins s σ H D I h;refine wpAny_For (thn (hi pins s σ H _ I h) λv s1 h1=>thn h1 λvF s2 h2=>?_) hs;obtain⟨it,fp,tn,J,H2,e,I2,T,iE,f2,W,⟨m0,w0⟩,turn⟩:=h2;subst e;have lY:∀{H':Hp},(∀b∈fp,H' b=pz)→∀b∈fp,a1R X pins H' b:=λhn b hb=>⟨hn b hb,(f2 b hb).2⟩
  refine codeAny_forLoop_any (λn s'=>∃i σ' H',Inv X pins σ' H' s'∧tn i s'.heap∧(∀b∈fp,H' b=pz)∧W i n σ' H') ?_ m0 ⟨0,σ,H2,I2,iE,λb hb=>(f2 b hb).1,w0⟩;rintro n s3 ⟨i,σ3,H3,I3,gP,ug,w3⟩;rcases turn i n σ3 H3 w3 with⟨stop,qn⟩|⟨go,N,hN,step⟩
  · refine fD hp (thn (T.done X rfl rfl rfl hc i pins s3 σ3 H3 X.xe I3 (lY ug) gP stop) λr s4 ⟨hr,I4⟩=>?_)
    subst hr;exact ik ⟨σ3,H3,I4,qn⟩
  · refine fD hp (thn (T.item X rfl rfl rfl hc i pins s3 σ3 H3 X.xe I3 (lY ug) gP go) λr s4 ⟨u,hr,h4⟩=>?_)
    subst hr;refine fD hp (thn h4 λ_ s5 ⟨x,H5,I5,r5,y5,nI,wW⟩=>?_);have xw:=I5.pinned (lY wW) (T.obj _ _ nI);refine fD hp (thn (hg _ s5 σ3 H5 x u _ xw r5 (step x H5 y5)) λ_ s6 ⟨σ6,H6,I6,q6⟩=>?_);refine fD hp (thn (hb _ s6 σ6 H6 _ I6 q6) λf s7 q7=>?_);have again:∀{σ7:St} {H7:Hp},Inv X (pins++a2Q fp s5.heap) σ7 H7 s7→N σ7 H7→∃m,m<n∧∃i σ' H',Inv X pins σ' H' s7∧tn i s7.heap∧(∀b∈fp,H' b=pz)∧W i m σ' H':=λ{σ7 H7} I7 n7=>by
      obtain⟨m',hm,w7⟩:=hN σ7 H7 n7;refine⟨m',hm,i+1,σ7,H7,I7.unpinned,T.keep _ _ _ nI λb hb o e=>(I7.pin (b,o) (aq _ (aq _ (A5 hb e)))).1,λb hb=>?_,w7⟩;obtain⟨o,e,d⟩:=T.obj _ _ nI b hb;exact (I7.pin (b,o) (aq _ (aq _ (A5 hb e)))).2.1
    cases f with
    |next=>obtain⟨σ7,H7,I7,n7⟩:=q7;exact again I7 n7
    |cont=>obtain⟨σ7,H7,I7,n7⟩:=q7;exact again I7 n7
    |brk=>obtain⟨σ7,H7,I7,q7⟩:=q7;exact⟨σ7,H7,I7.unpinned,q7⟩
    |ret v=>obtain⟨x7,σ7,H7,I7,r7,q7⟩:=q7;exact⟨x7,σ7,H7,I7.unpinned,r7,q7⟩
end
abbrev R2:=V→V→Hp→VK→Prop
def OpR(X:Cx)(f:ag→ag→xo ag)(r:R2):Prop:=
  ∀(pins:List (au×eW)) (s:aj) (σ:St) (H:Hp) (x y:V) (v u:ag) (Q:VK),Inv X pins σ H s→RelV x v→RelV y u→r x y H Q→
    be (aV X.prog X.w) X.A (f v u) (EP X pins σ Q) X.xe s
def UnR(X:Cx)(f:ag→xo ag)(r:V→Hp→VK→Prop):Prop:=
  ∀(pins:List (au×eW)) (s:aj) (σ:St) (H:Hp) (x:V) (v:ag) (Q:VK),Inv X pins σ H s→RelV x v→r x H Q→
    be (aV X.prog X.w) X.A (f v) (EP X pins σ Q) X.xe s
def CallR(X:Cx)(f:ag)(r:List V→Hp→VK→Prop):Prop:=
  ∀(pins:List (au×eW)) (s:aj) (σ:St) (H:Hp) (xs:List V) (us:List ag) (Q:VK),Inv X pins σ H s→Vals xs us→r xs H Q→
    be (aV X.prog X.w) X.A (call f us) (EP X pins σ Q) X.xe s
def b6s(X:Cx)(r:V→Hp→(Bool→Hp→Prop)→Prop):Prop:=
  ∀(pins:List (au×eW)) (s:aj) (σ:St) (H:Hp) (x:V) (v:ag) (Q:Bool→Hp→Prop),Inv X pins σ H s→RelV x v→r x H Q→
    be (aV X.prog X.w) X.A (truthy v) (TP X pins σ Q) X.xe s
def tOp(r:R2)(ta tb:TE):TE:=λσ H Q=>ta σ H λx H1=>tb σ H1 λy H2=>r x y H2 Q
def tUn(r:V→Hp→VK→Prop)(ta:TE):TE:=λσ H Q=>ta σ H λx H1=>r x H1 Q
def rI(C:Int→Int→Prop)(g:Int→Int→V):R2:=λx y H Q=>∃i j,x=.int i∧y=.int j∧C i j∧Q (g i j) H
def rI0(g:Int→Int→V):R2:=λx y H Q=>∃i j,x=.int i∧y=.int j∧Q (g i j) H
def rU(g:Int→V):V→Hp→VK→Prop:=λx H Q=>∃i,x=.int i∧Q (g i) H
section
variable {X:Cx}{a b c:Expr}{ta tb tc:TE}{pos:eH}
def b2s(ha:PE X a ta)(hb:PE X b tb){pins:List (au×eW)}{s:aj}{σ:St}{H:Hp}{R:V→V→Hp→Prop}(I:Inv X pins σ H s)
    (h:ta σ H λx H1=>tb σ H1 λy H2=>R x y H2) {Q:ag→aj→Prop} {f:ag→ag→xo ag}
    (hf:∀v u s2 x y H2,Inv X pins σ H2 s2→RelV x v→RelV y u→R x y H2→be (aV X.prog X.w) X.A (f v u) Q X.xe s2) :
    be (aV X.prog X.w) X.A (cU a X.env) (λv s₁=>be (aV X.prog X.w) X.A (cU b X.env) (λu s₂=>be (aV X.prog X.w) X.A (f v u) Q X.xe s₂) X.xe s₁) X.xe s:=by
  refine thn (ha pins s σ H _ I h) λv s1 ⟨x,H1,I1,r1,q1⟩=>?_
  refine thn (hb pins s1 σ H1 _ I1 q1) λu s2 ⟨y,H2,I2,r2,q2⟩=>?_
  exact hf v u s2 x y H2 I2 r1 r2 q2
def b1L{op:Operator}{r:R2}(ho:OpR X (eX op) r)(ha:PE X a ta)(hb:PE X b tb):PE X (.BinOp a op b pos) (tOp r ta tb):=by
  intro pins s σ H Q I h;exact wpAny_BinOp (b2s ha hb I h λv u s2 x y H2 I2 rx ry q=>ho pins s2 σ H2 x y v u Q I2 rx ry q)
def b4z(ho:UnR X (unaryOp op) r)(ha:PE X a ta):PE X (.UnaryOp op a pos) (tUn r ta):=by
  intro pins s σ H Q I h;exact UnaryOp_ (thn (ha pins s σ H _ I h) λv s1 ⟨x,H1,I1,r1,q1⟩=>ho pins s1 σ H1 x v Q I1 r1 q1)
def opI{f:ag→ag→xo ag}{C:Int→Int→Prop}{g:Int→Int→Int}
    (rule:∀(i j:Int) (t u:Tok) (s:aj) (Q:ag→aj→Prop) (E:ag→aj→Prop),C i j→Q (.int (g i j) s.toks) {s with toks:=s.toks+1}→be (aV X.prog X.w) X.A (f (.int i t) (.int j u)) Q E s) :
    OpR X f (rI C λi j=>.int (g i j)):=by
  intro pins s σ H x y v u Q I rx ry h;obtain⟨i,j,rfl,rfl,hc,q⟩:=h;obtain⟨t,rfl⟩:=rx;obtain⟨t',rfl⟩:=ry;exact rule i j t t' s _ _ hc ⟨.int (g i j),H,I.tok _,⟨_,rfl⟩,q⟩
def b4A{f:ag→ag→xo ag}{g:Int→Int→Int}
    (rule:∀(i j:Int) (t u:Tok) (s:aj) (Q:ag→aj→Prop) (E:ag→aj→Prop),Q (.int (g i j) s.toks) {s with toks:=s.toks+1}→be (aV X.prog X.w) X.A (f (.int i t) (.int j u)) Q E s) :
    OpR X f (rI0 λi j=>.int (g i j)):=by
  intro pins s σ H x y v u Q I rx ry h;obtain⟨i,j,rfl,rfl,q⟩:=h;obtain⟨t,rfl⟩:=rx;obtain⟨t',rfl⟩:=ry;exact rule i j t t' s _ _ ⟨.int (g i j),H,I.tok _,⟨_,rfl⟩,q⟩
def b2t{f:ag→ag→xo ag}{g:Int→Int→Bool}
    (rule:∀(i j:Int) (t u:Tok) (s:aj) (Q:ag→aj→Prop) (E:ag→aj→Prop),Q (.bool (g i j)) s→be (aV X.prog X.w) X.A (f (.int i t) (.int j u)) Q E s) :
    OpR X f (rI0 λi j=>.bl (g i j)):=by
  intro pins s σ H x y v u Q I rx ry h;obtain⟨i,j,rfl,rfl,q⟩:=h;obtain⟨t,rfl⟩:=rx;obtain⟨t',rfl⟩:=ry;exact rule i j t t' s _ _ ⟨.bl (g i j),H,I,rfl,q⟩
def b6t(i j:Int):Prop:=0<j∧j<1073741824
def b6u(i j:Int):Prop:=0≤j∧j≤1000000∧i.natAbs<2^64
def CMul(i j:Int):Prop:=(-(2^64)<i∧i<2^64)∨(-(2^64)<j∧j<2^64)
def CMul.ok{i j:Int}(h:CMul i j):IntMulOk i j:=by
  rcases h with⟨h1,h2⟩|⟨h1,h2⟩
  · exact .of_left (intBits_le_64 h1 h2)
  · exact .of_right (intBits_le_64 h1 h2)
def b2u:OpR X (eX .Add) (rI0 λi j=>.int (i+j)):=b4A λ_ _ _ _ _ _ _ q=>add_int q
def b2v:OpR X (eX .Sub) (rI0 λi j=>.int (i-j)):=b4A λ_ _ _ _ _ _ _ q=>sub_int q
def b2w:OpR X (eX .Mult) (rI CMul λi j=>.int (i*j)):=opI λ_ _ _ _ _ _ _ hc q=>mul_int q hc.ok
def b0g:OpR X (eX .FloorDiv) (rI b6t λi j=>.int (i / j)):=opI λi j _ _ _ _ _ hc q=>by
  have h1:(0:Int)<j:=hc.1;have h2:j<1073741824:=hc.2;exact floordiv_int (by omega) (by rw[Int.fdiv_eq_ediv_of_nonneg i (by omega)];exact q) (.inl (PyProof.noPylong_small (by omega)))
def b2x:OpR X (eX .Mod) (rI (λ_ j=>0<j) λi j=>.int (i % j)):=opI λi j _ _ _ _ _ hc q=>by
  have h1:(0:Int)<j:=hc;exact mod_int' (by omega) (by rw[Int.fmod_eq_emod_of_nonneg i (by omega)];exact q)
def b2y:OpR X (eX .Pow) (rI b6u λi j=>.int (i^j.toNat)):=opI λ_ _ _ _ _ _ _ hc q=>pow_int_small hc.1 hc.2.1 hc.2.2 q
def unI{f:ag→xo ag}{g:Int→Int}
    (rule:∀(i:Int) (t:Tok) (s:aj) (Q:ag→aj→Prop) (E:ag→aj→Prop),Q (.int (g i) s.toks) {s with toks:=s.toks+1}→be (aV X.prog X.w) X.A (f (.int i t)) Q E s) :
    UnR X f (rU λi=>.int (g i)):=by
  intro pins s σ H x v Q I rx h;obtain⟨i,rfl,q⟩:=h;obtain⟨t,rfl⟩:=rx;exact rule i t s _ _ ⟨.int (g i),H,I.tok _,⟨_,rfl⟩,q⟩
def b2z:UnR X (unaryOp .USub) (rU λi=>.int (-i)):=unI λ_ _ _ _ _ q=>neg_int q
end
section
variable {X:Cx}{a b c:Expr}{ta tb tc:TE}{pos:eH}
def b2A(I:Inv X pins σ H s)(q:Q (.bl k) H)(e:k=k'):EP X pins σ Q (.bool k') s:=by
  subst e;exact⟨.bl k,H,I,rfl,q⟩
def b4B:OpR X (cD .Lt) (rI0 λi j=>.bl (decide (i<j))):=b2t λ_ _ _ _ _ _ _ q=>lt_int q
def b4C:OpR X (cD .LtE) (rI0 λi j=>.bl (decide (i≤j))):=b2t λ_ _ _ _ _ _ _ q=>le_int q
def b4D:OpR X (cD .Gt) (rI0 λi j=>.bl (decide (j<i))):=b2t λ_ _ _ _ _ _ _ q=>gt_int q
def b2B:OpR X (cD .Is) (λx y H Q=>y=.non∧Q (.bl (decide (x=.non))) H):=by
  intro pins s σ H x y v u Q I rx ry h;obtain⟨rfl,q⟩:=h;cases ry
  refine is_none_gen (b2A I q ?_);cases x<;>first
    | (cases rx;rfl)
    | (obtain⟨t,rfl⟩:=rx;rfl)
def a4O(b:Expr)(h:op≠.In:=by decide)(h2:op≠.NotIn:=by decide):gf op b=false:=by
  have e1:(op==CmpOp.In)=false:=by cases op<;>first|rfl|exact absurd rfl h
  have e2:(op==CmpOp.NotIn)=false:=by cases op<;>first|rfl|exact absurd rfl h2
  cases b<;>simp[gf,e1,e2]
def b0h{op:CmpOp}{r:R2}(ho:OpR X (cD op) r)(ha:PE X a ta)(hb:PE X b tb)(hm:gf op b=false):PE X (.Compare a [op] [b] pos) (tOp r ta tb):=by
  intro pins s σ H Q I h;exact wpAny_Compare1 (b2s ha hb I h λv u s2 x y H2 I2 rx ry q=>ho pins s2 σ H2 x y v u Q I2 rx ry q) hm
def b1M(t:TE):TT:=λσ H Q=>t σ H λx H'=>∃k,x=.bl k∧Q k H'
def a5S(ho:OpR X (cD op) r)(ha:PE X a ta)(hb:PE X b tb)(hm:gf op b=false):PT X (.Compare a [op] [b] pos) (b1M (tOp r ta tb)):=by
  intro pins s σ H Q I h;refine wpAny_isTrue_Compare1 (thn (ha pins s σ H _ I h) λv s1 ⟨x,H1,I1,r1,q1⟩=>thn (hb pins s1 σ H1 _ I1 q1) λu s2 ⟨y,H2,I2,r2,q2⟩=>
    thn (ho pins s2 σ H2 x y v u _ I2 r1 r2 q2) λc s3 ⟨z,H3,I3,r3,k,e,q3⟩=>?_) hm
  subst e;cases r3
  exact eJ ⟨H3,I3,q3⟩
def b2C(r r':R2)(ta tb tc:TE):TE:=λσ H Q=>ta σ H λx H1=>tb σ H1 λy H2=>r x y H2 λz H3=>∃k,z=.bl k∧
  (if k=true then tc σ H3 λw' H4=>r' y w' H4 Q else Q (.bl false) H3)
def a8a(ho:OpR X (cD op) r)(lS:OpR X (cD rK) r')(ha:PE X a ta)(hb:PE X b tb)(hc:PE X c tc)
    (hm:lastMarks [op,rK] [b,c]=false:=by with_unfolding_all rfl):PT X (.Compare a [op,rK] [b,c] pos) (b1M (b2C r r' ta tb tc)):=by
  intro pins s σ H Q I h;refine isTrue_chain (thn (ha pins s σ H _ I h) λv s1 ⟨x,H1,I1,r1,q1⟩=>test_link (thn (hb pins s1 σ H1 _ I1 q1) λu s2 ⟨y,H2,I2,r2,q2⟩=>
    thn (ho pins s2 σ H2 x y v u _ I2 r1 r2 q2) λd s3 ⟨z,H3,I3,r3,k,e,q3⟩=>?_)) hm
  subst e;cases r3
  refine eJ ?_;cases k with
  |false=>
    obtain⟨k',e',q'⟩:=q3;cases e'
    exact ite_ff ⟨H3,I3,q'⟩
  |true=>
    refine ite_tt (test_last (thn (hc pins s3 σ H3 _ I3 q3) λw' s4 ⟨z',H4,I4,r4,q4⟩=>thn (lS pins s4 σ H4 y z' u w' _ I4 r2 r4 q4) λd' s5 ⟨z2,H5,I5,r5,k2,e2,q5⟩=>?_));subst e2;cases r5
    exact eJ ⟨H5,I5,q5⟩
def b2D(K:ae)(x:V)(H:Hp)(k:Bool):Prop:=
  match x with
  |.non=>k=false
  |.bl b=>k=b
  |.int i=>k=(i !=0)
  |.str y=>y.length≤bh∧k=((y.length:Int)!=0)
  |.byt y=>y.size≤bh∧k=((y.size:Int)!=0)
  |.ref p=>(∃xs,SqL K H p xs∧k=!xs.isEmpty)∨(∃xs,SqT K H p xs∧k=!xs.isEmpty)∨∃kvs,H p=cz (.dK kvs)∧k=!kvs.isEmpty
  |_=>False
def a4P{κ:Type}{kvs:List (κ×V)}{vs:List (κ×ag)}(r:KV kvs vs):(!vs.isEmpty)=!kvs.isEmpty:=by
  cases r<;>rfl
def a0P{xs:List V}{cN:List ag}(r:Vals xs cN):(!cN.toArray.isEmpty)=!xs.isEmpty:=by
  cases r<;>simp
def Y1:(bh:Nat)<2^63:=by rw[dD];decide
def b2E:b6s X (λx H Q=>∃k,b2D X.K x H k∧Q k H):=by
  intro pins s σ H x v Q I rx h;obtain⟨k,e,q⟩:=h;have hl:=Y1;have hs:bh=16777216:=dD;cases x with
  |non=>
    cases rx
    have e':k=false:=e;subst e';exact truthy_none ⟨H,I,q⟩
  |bl b=>
    cases rx
    have e':k=b:=e;subst e';exact eJ ⟨H,I,q⟩
  |int i=>
    obtain⟨t,rfl⟩:=rx;have e':k=(i !=0):=e;subst e';exact PySem.P.truthy_int ⟨H,I,q⟩
  |str y=>
    obtain⟨t,rfl⟩:=rx;obtain⟨hy,e'⟩:y.length≤bh∧k=((y.length:Int)!=0):=e;subst e';exact PySem.P.truthy_str (by omega) ⟨H,I.tok _,q⟩
  |byt y=>
    obtain⟨t,rfl⟩:=rx;obtain⟨hy,e'⟩:y.size≤bh∧k=((y.size:Int)!=0):=e;subst e';exact PySem.W.truthy_bytes (by omega) ⟨H,I.tok _,q⟩
  |ref p=>
    cases rx
    have e':(∃xs,SqL X.K H p xs∧k=!xs.isEmpty)∨(∃xs,SqT X.K H p xs∧k=!xs.isEmpty)∨∃kvs,H p=cz (.dK kvs)∧k=!kvs.isEmpty:=e;rcases e' with⟨xs,hx,e'⟩|⟨xs,hx,e'⟩|⟨kvs,hx,e'⟩
    · subst e'
      obtain⟨cN,r,pl,hz⟩:=I.list hx;have hlen:=r.length;exact wpAny_truthy_list pl.isList (by simp only[bw];omega) ⟨H,I.tok _,by rw[a0P r];exact q⟩
    · subst e'
      obtain⟨cN,r,pl,hz⟩:=I.tuple hx;have hlen:=r.length;exact truthy_tuple pl (by simp only[bw];omega) ⟨H,I.tok _,by rw[a0P r];exact q⟩
    · subst e'
      obtain⟨hz,hS,vs,r,m⟩:kvs.length≤bh∧(p==eB)=false∧∃vs,KV kvs vs∧s.heap.DictOf (a2L X.prog X.w) p vs:=I.hok p _ hx;have hlen:kvs.length=vs.length:=gh r;exact wpAny_truthy_dict hS m (by omega) ⟨H,I.tok _,by rw[a4P r];exact q⟩
  |_=>exact (show False from e).elim
def a8b(ha:PE X a ta)(he:∀whole,zP a X.env whole=(do let v ←whole;standAt a.pos;lR [v] (truthy v))) :
    PT X a (λσ H Q=>ta σ H λx H'=>∃k,b2D X.K x H' k∧Q k H'):=by
  intro pins s σ H Q I h;exact isTrue_plain (thn (ha pins s σ H _ I h) λv s1 ⟨x,H1,I1,r1,q1⟩=>b2E pins s1 σ H1 x v Q I1 r1 q1) (he _)
def vals1(r:Vals [x] us):∃u,us=[u]∧RelV x u:=by
  cases r with
  |cons r1 r2=>cases r2;exact⟨_,rfl,r1⟩
def vals2(r:Vals [x,y] us):∃u w',us=[u,w']∧RelV x u∧RelV y w':=by
  cases r with
  |cons r1 r2=>
    cases r2 with
    |cons r3 r4=>cases r4;exact⟨_,_,rfl,r1,r3⟩
def a6L(hc:X.calm=true):CallR X (.builtin "min") (λxs H Q=>∃i j,xs=[.int i,.int j]∧Q (.int (if j<i then j else i)) H):=by
  intro pins s σ H xs us Q I r h;obtain⟨i,j,rfl,q⟩:=h;obtain⟨u,w',rfl,⟨t,rfl⟩,⟨t',rfl⟩⟩:=vals2 r;refine min_two_ints (I.ok.hd hc) λh' tk k=>⟨_,H,I.kept k,?_,q⟩
  by_cases hj:j<i
  · rw[aL hj,aL hj];exact⟨_,rfl⟩
  · rw[aS hj,aS hj];exact⟨_,rfl⟩
def a6M:CallR X (.type "int") (λxs H Q=>(∃i,xs=[.int i]∧Q (.int i) H)∨∃k,xs=[.bl k]∧Q (.int (if k then 1 else 0)) H):=by
  intro pins s σ H xs us Q I r h;rcases h with⟨i,rfl,q⟩|⟨k,rfl,q⟩
  · obtain⟨u,rfl,t,rfl⟩:=vals1 r
    exact call_int_int ⟨.int i,H,I,⟨_,rfl⟩,q⟩
  · obtain⟨u,rfl,r1⟩:=vals1 r
    cases r1
    exact call_int_bool ⟨.int (if k then 1 else 0),H,I.tok _,⟨_,rfl⟩,q⟩
end
structure ObjM (h:b_) (x dx C:au) (mA:br→Option ag):Prop where
  obj:h.get? x=cz (nj C dx)
  ns:h.Ns1 dx mA
  ne:dx≠x
def a6N{h:b_}(n:h.Ns1 dx mA):∃od,h.get? dx=cz od∧∀name,oi name od=cz (mA name):=by
  obtain⟨o,es,ep,ho,hd,hk,_,hm⟩:=n;refine⟨o,ho,λname=>?_⟩;have e:=hm name;unfold nsFind findBy at e;rw[←Array.find?_toList]at e;unfold oi;rw[hd]
  dsimp only
  split
  · rename_i y q
    rw[q]at e;exact fE cz e
  · rename_i q
    rw[q]at e;have a:es.toList.any (·.refKey)=false:=by
      rw[fy];intro y hy;obtain⟨z,t,wj⟩:=hk y (jV.mp hy);simp[fX.refKey,wj]
    have a':¬ es.toList.any (·.refKey)=true:=by rw[a];exact bU
    rw[aS a'];exact fE cz e
def ObjM.look(I:ObjM h x dx C mA):∃od,PySem.W.InstAt h x (nj C dx) C (cz od)∧∀name,oi name od=cz (mA name):=
  let⟨od,ho,hl⟩:=a6N I.ns
  ⟨od,⟨I.obj,rfl,rfl,ho⟩,hl⟩
section
variable {P:bo}{w:bJ}{H H':Hp}{h h':b_}{a C dx:au}{fs jZ:List (br×V)}
def b0i(hok:HOk P w H h)(e:H a=cz (.ins C dx fs)):∃mA,ObjM h a dx C mA∧(∀f,b2d (fs.lookup f) (mA f))∧PySem.Within mA (fs.map (·.1))∧fs.length≤1000∧H dx=cz (.own a):=by
  obtain⟨d,z,ne,ob,mA,n,r,q⟩:=(show ObjOk P w H h a (.ins C dx fs) from hok a _ e);exact⟨mA,⟨ob,n,ne⟩,r,q,z,d⟩
end
structure Cls (K:ae) (C:au):Prop where
  pg:Cb K C br.empty=true
  hd:PySem.W.hasDictIn K C=true
  po:PySem.W.plainOver K C=true
  sa:eM K (.ref C) "__setattr__"=cz (cz (.builtin "object.__setattr__"))
def Cls.get{K:ae}{C:au}(c:Cls K C)(f:br):Cb K C f=true:=c.pg
structure Con (K:ae) (C:au) (f:br) (v:V) (u:ag):Prop where
  at_:eM K (.ref C) f=cz (cz u)
  rel:RelV v u
  get:yU K u "__get__"=cz pz
  cp:PySem.W.copiedNames.contains f=false
structure Meth (K:ae) (C:au) (m:br) (f:au):Prop where
  at_:eM K (.ref C) m=cz (cz (.ref f))
  fn:PySem.W.isFn K (.ref f)=true
  kp:dU K (.ref f)=true
section
variable {X:Cx}{pins:List (au×eW)}{σ:St}{H:Hp}{s:aj}{A:bH}{E:ag→aj→Prop}{Q:ag→aj→Prop}{c:ag}{b:Bool}
inductive TyOf (K:ae) (H:Hp):V→ag→Prop where
  |non:TyOf K H .non (.type "NoneType")
  |bl (x:Bool):TyOf K H (.bl x) (.type "bool")
  |int (i:Int):TyOf K H (.int i) (.type "int")
  |str (x:br):TyOf K H (.str x) (.type "str")
  |flt (x:UInt64):TyOf K H (.flt x) (.type "float")
  |lst {a:au} {xs:List V} (e:H a=cz (.lst xs)):TyOf K H (.ref a) (.type "list")
  |frz {a:au} {o:eW} {xs:List V} (e:H a=cz (.frz o (.lst xs))):TyOf K H (.ref a) (.type "list")
  |tup {a:au} {xs:List V} (e:H a=cz (.tup xs)):TyOf K H (.ref a) (.type "tuple")
  |dK {a:au} {kvs:List (Key×V)} (e:H a=cz (.dK kvs)):TyOf K H (.ref a) (.type "dict")
  |dT {a:au} {kvs:List (List Key×V)} (e:H a=cz (.dT kvs)):TyOf K H (.ref a) (.type "dict")
  |ins {a C dx:au} {fs:List (br×V)} (e:H a=cz (.ins C dx fs)) (cl:Cls K C) (ha:eM K (.ref C) "__class__"=cz (cz (.builtin "object.__class__")))
      (hn:yU K (.builtin "object.__class__") "__get__"=cz (cz (.builtin "getset_descriptor.__get__"))) (uE:PySem.W.takesIn K (.builtin "object.__class__")=cz true)
      (hm:PySem.W.mroIn K C (.type "object")=cz true):TyOf K H (.ref a) (.ref C)
def a2d(I:Inv X pins σ H s)(rx:RelV x u)(ty:TyOf X.K H x t)(e:cV X.K t c=cz b)(h:∀tk,Q (.bool b) {s with toks:=tk}) :
    be (aV X.prog X.w) A (call (.builtin "isinstance") [u,c]) Q E s:=by
  cases ty with
  |non=>cases (show u=ba from rx);exact cA PySem.W.kitx_none I.kIn hJ e (λz=>nomatch z) h
  |bl y=>cases (show u=ni y from rx);exact cA PySem.W.kitx_bool I.kIn hJ e (λz=>nomatch z) h
  |int i=>obtain⟨t,q⟩:=(show ∃t,u=jM i t from rx);cases q;exact cA PySem.W.kitx_int I.kIn hJ e (λz=>nomatch z) h
  |str y=>obtain⟨t,q⟩:=(show ∃t,u=oX y t from rx);cases q;exact cA PySem.W.kitx_str I.kIn hJ e (λz=>nomatch z) h
  |flt y=>obtain⟨t,q⟩:=(show ∃t,u=ag.float y t from rx);cases q;exact cA PySem.W.kitx_float I.kIn hJ e (λz=>nomatch z) h
  |@lst a xs ea=>
    cases (show u=bG a from rx)
    obtain⟨_,_,n,_,h1⟩:=(show ObjOk X.prog X.w H s.heap a (.lst xs) from I.hok a _ ea);exact cA lC I.kIn ⟨_,h1,rfl⟩ e (λz=>nomatch z) h
  |@frz a ob xs ea=>
    cases (show u=bG a from rx)
    obtain⟨_,_,_,n,_,h1⟩:=(show ObjOk X.prog X.w H s.heap a (.frz ob (.lst xs)) from I.hok a _ ea);exact cA lC I.kIn ⟨_,h1,rfl⟩ e (λz=>nomatch z) h
  |@tup a xs ea=>
    cases (show u=bG a from rx)
    obtain⟨_,_,_,p⟩:=(show ObjOk X.prog X.w H s.heap a (.tup xs) from I.hok a _ ea);obtain⟨o,h1,h2,_⟩:=p;exact cA xr I.kIn ⟨o,h1,h2⟩ e (λz=>nomatch z) h
  |@dK a kvs ea=>
    cases (show u=bG a from rx)
    obtain⟨_,_,vs,_,p⟩:=(show ObjOk X.prog X.w H s.heap a (.dK kvs) from I.hok a _ ea);obtain⟨o,es,ep,h1,h2,_⟩:=p;exact cA lD I.kIn ⟨o,h1,h2.1⟩ e (λz=>nomatch z) h
  |@dT a kvs ea=>
    cases (show u=bG a from rx)
    obtain⟨_,_,xs,_,o,es,ep,h1,h2,_⟩:=(show ObjOk X.prog X.w H s.heap a (.dT kvs) from I.hok a _ ea);exact cA lD I.kIn ⟨o,h1,h2.1⟩ e (λz=>nomatch z) h
  |@ins a C dx fs ea cl ha hn uE hm=>
    cases (show u=bG a from rx)
    obtain⟨mA,O,_⟩:=b0i I.hok ea;obtain⟨od,J,_⟩:=O.look;exact cA (PySem.W.kitx_own (cl.get _) cl.hd ha hn uE hm) I.kIn J e (λz=>nomatch z) h
end
structure Room (k:Nat) (A:bH):Prop where
  hd:A.handled=pz
  dp:A.depth+3*k+5<recursionLimit
  un:A.units+16*k+200<eh
def Room.mono(r:Room k A)(h:j≤k):Room j A:=⟨r.hd,by have:=r.dp;omega,by have:=r.un;omega⟩
theorem Room.deeper(r:Room (k+1) A)(env:kZ):Room k (A.deeper env):=
  ⟨r.hd,by have:=r.dp;show A.depth+1+3*k+5<_;omega,by have:=r.un;show A.units+3+16*k+200<_;omega⟩
theorem Room.depth(r:Room k A):A.depth<recursionLimit:=by have:=r.dp;omega
theorem Room.units(r:Room k A):A.units+64<eh:=by have:=r.un;omega
def b6v:TA:=λ_ H Q=>Q [] H
def b4E(ta:TE)(tr:TA):TA:=λσ H Q=>ta σ H λx H1=>tr σ H1 λxs H2=>Q (x::xs) H2
section
variable {X:Cx}{e:Expr}{es:List Expr}{te:TE}{t:TA}{pos:eH}
def A6:PA X [] b6v:=λ_ _ _ _ H Q I h=>Calls.spliced_nil ⟨[],H,I,.nil,h⟩
def p6(ha:PE X e te)(hr:PA X es t)(hs:ax (e::es) X.env=(false,cU e X.env)::ax es X.env:=by rfl):PA X (e::es) (b4E te t):=by
  intro pos pins s σ H Q I h;rw[hs];show be _ _ (spliced ((false,cU e X.env)::dj pos (ax es X.env))) _ _ s;refine Calls.spliced_cons (thn (ha pins s σ H _ I h) λu s1 ⟨x,H1,I1,r1,q1⟩=>?_);exact thn (hr pos pins s1 σ H1 _ I1 q1) λus s2 ⟨xs,H2,I2,r2,q2⟩=>⟨x::xs,H2,I2,.cons r1 r2,q2⟩
def b6w(t:TA):TE:=λσ H Q=>t σ H λxs H1=>xs.length≤bh∧∀p,H1 p=pz→Q (.ref p) (upd H1 p (.tup xs))
def b6x(t:TA):TE:=λσ H Q=>t σ H λxs H1=>xs.length≤bh∧∀p,H1 p=pz→Q (.ref p) (upd H1 p (.lst xs))
def a8c{x1}(h:PA X es t):PE X (.Tuple es x1 pos) (b6w t):=by
  intro pins s σ H Q I hq;refine wpAny_Tuple_spliced (thn (h pos pins s σ H _ I hq) λus s1 ⟨xs,H1,I1,r,z,q⟩=>⟨by rw[←r.length];exact z,?_⟩);have hf:H1 s1.heap.objs.size=pz:=I1.hok.fresh (aG _);refine⟨.ref s1.heap.objs.size,upd H1 s1.heap.objs.size (.tup xs),I1.laid (t':=s1.toks) (λb u e=>aP _ e) (aG _) ?_,rfl,q _ hf⟩;exact⟨z,us,r,⟨_,bz _ rfl,rfl,_,rfl⟩⟩
def b2F(h:PA X es t):PE X (.List es pos) (b6x t):=by
  intro pins s σ H Q I hq;refine wpAny_List_spliced (thn (h pos pins s σ H _ I hq) λus s1 ⟨xs,H1,I1,r,z,q⟩=>⟨by rw[←r.length];exact z,?_⟩);have hf:H1 s1.heap.objs.size=pz:=I1.hok.fresh (aG _);refine⟨.ref s1.heap.objs.size,upd H1 s1.heap.objs.size (.lst xs),I1.laid (t':=s1.toks) (λb u e=>aP _ e) (aG _) ?_,rfl,q _ hf⟩;exact⟨z,us,0,r,bz _ rfl⟩
end
abbrev Sp:=List V→Hp→VK→XK→Prop
abbrev CXT:=List kZ→Hp→aj→XK→ag→aj→Prop
structure Env0 (P:bo) (w:bJ) (K:ae) (mg:br→Option ag) (base:b_) (A:bH) (outer:List kZ) (s:aj) (H:Hp):Prop where
  frames:A.frames=cz outer
  mod:Mod K mg base
  bs:∀b o,base.get? b=cz o→s.heap.get? b=cz o∧H b=pz
  bsz:base.objs.size≤s.heap.objs.size
  funs:s.heap.FunFrames base outer
  frf:∀b∈frs outer,H b=pz
  hok:HOk P w H s.heap
  bare:ig s.gens
  tabs:TabsIn K H
def CE(outer:List kZ)(P:bo)(w:bJ)(H:Hp)(s:aj)(Q:VK)(u:ag)(s':aj):Prop:=
  ∃v H',s'.os=s.os∧ig s'.gens∧Un (frs outer) [] H H' s.heap s'.heap∧HOk P w H' s'.heap∧RelV v u∧Q v H'
def CR(CX:CXT)(outer:List kZ)(P:bo)(w:bJ)(H:Hp)(s:aj)(Q:VK)(E:XK)(r:Result)(s':aj):Prop:=
  match r with
  |.ok (.ret u)=>CE outer P w H s Q u s'
  |.ok _=>False
  |.error e=>CX outer H s E e s'
structure FnOk (P:bo) (w:bJ) (K:ae) (mg:br→Option ag) (base:b_) (CX:CXT) (k:Nat) (f:au) (fd:c_) (ps:List br) (sp:Sp):Prop where
  len:∀vs H Q E,sp vs H Q E→vs.length=ps.length
  run:∀(A:bH) (outer:List kZ) (s:aj) (H:Hp) (args:Args) (us:List ag) (vs:List V) (Q:VK) (E:XK),Room k A→Env0 P w K mg base A outer s H→lW s fd args (ps.zip us)→Vals vs us→sp vs H Q E→
    jk (aV P w) A (.call (.ref f) args) (CR CX outer P w H s Q E) s
theorem FnOk.mono{P:bo}{w:bJ}{K:ae}{mg:br→Option ag}{base:b_}{CX:CXT}{j k:Nat}{f:au}{fd:c_}{ps:List br}{sp:Sp}(F:FnOk P w K mg base CX j f fd ps sp)(h:j≤k) :
    FnOk P w K mg base CX k f fd ps sp:=⟨F.len,λA outer s H args us vs Q E hr=>F.run A outer s H args us vs Q E (hr.mono h)⟩
section
variable {X:Cx}{pins:List (au×eW)}{σ:St}{H:Hp}{s s':aj}
def Inv.env0(I:Inv X pins σ H s):Env0 X.prog X.w X.K X.mg X.base X.A X.stack s H:=
  ⟨I.ok.frames,I.ok.mod,I.bs,bZ I.ok.bsz I.sz,I.stack,I.stkFree,I.hok,I.bare,I.tabs⟩
def Inv.after(I:Inv X pins σ H s)(h:CE X.stack X.prog X.w H s Q u s'):EP X pins σ Q u s':=by
  obtain⟨v,H',os,bare,un,hok,r,q⟩:=h;obtain⟨hh,g,d,t,zG⟩:=s';obtain rfl:zG=s.os:=os;exact⟨v,H',I.call (h':=hh) (g':=g) (d':=d) (t':=t) (ch:=[]) un hok bare (λb z=>absurd z (by simp)),r,q⟩
end
def b1N(sp:Sp)(pN:List V)(E:XK)(t:TA):TE:=λσ H Q=>t σ H λvs H1=>sp (vs++pN) H1 Q E
def Binds(K:ae)(fd:c_)(ps:List br)(ds:List ag):Prop:=
  ∀(s:aj) (us:List ag),K.In s.heap→(us++ds).length=ps.length→lW s fd ⟨us,[]⟩ (ps.zip (us++ds))
def Binds.all{K:ae}{fd:c_}{ps:List br}(h:∀us:List ag,us.length=ps.length→oh fd ⟨us,[]⟩=pure (ps.zip us)):Binds K fd ps []:=λs us _ hl=>by
  rw[bg]at hl ⊢;exact .of_eq (h us hl)
def a4Q(CX:CXT)(X:Cx)(E:XK):Prop:=∀(pins:List (au×eW)) (σ:St) (H:Hp) (s:aj) (e:ag) (s':aj),Inv X pins σ H s→CX X.stack H s E e s'→X.xe e s'
section
variable {X:Cx}{CX:CXT}{k:Nat}{f C:au}{fd:c_}{ps:List br}{sp:Sp}{pN:List V}{ds:List ag}{E:XK}{x m:br}{p pos apos:eH}{e o:Expr}{es:List Expr}{ta:TE}{t:TA}
def b2G(F:FnOk X.prog X.w X.K X.mg X.base CX k f fd ps sp)(hr:Room k X.A)(hb:Binds X.K fd ps ds)(hd:Vals pN ds)(hx:a4Q CX X E)
    (I:Inv X pins σ H s) (r:Vals vs us) (h:sp (vs++pN) H Q E):be (aV X.prog X.w) X.A (call (.ref f) us) (EP X pins σ Q) X.xe s:=by
  have r2:Vals (vs++pN) (us++ds):=r.append hd;have hl:(us++ds).length=ps.length:=by rw[←r2.length];exact F.len _ _ _ _ h
  refine mR (gB (F.run X.A X.stack s H ⟨us,[]⟩ (us++ds) (vs++pN) Q E hr I.env0 (hb s us I.kIn hl) r2 h) λr s' hq=>?_);cases r with
  |error e=>exact hx pins σ H s e s' I hq
  |ok fl=>
    cases fl with
    |ret u=>exact I.after hq
    |next=>exact cJ hq
    |brk=>exact cJ hq
    |cont=>exact cJ hq
def b0j(F:FnOk X.prog X.w X.K X.mg X.base CX k f fd ps sp)(hr:Room k X.A)(hg:Gl X x)(hm:X.mg x=cz (.ref f))(hk:dU X.K (.ref f)=true)(hb:Binds X.K fd ps ds)(hd:Vals pN ds)(hx:a4Q CX X E)
    (ha:PA X (e::es) t) (jt:(x==("__debug__":br))=false:=by decide) (he:ax (e::es) X.env=(false,cU e X.env)::ax es X.env:=by rfl) (fB:(dj pos (ax es X.env)).any (·.1)=false:=by rfl) :
    PE X (.Call (.Name x p) (e::es) [] pos) (b1N sp pN E t):=by
  intro pins s σ H Q I h;refine fA (S8 I hg hm ?_ jt);refine kT (h₀:=X.base) I.ok.mod.kin hk (thn (ha pos pins s σ H _ I h) λus s1 ⟨vs,H1,I1,r,q⟩=>⟨I1.kIn,?_⟩) he fB;exact b2G F hr hb hd hx I1 r q
structure Mk (K:ae) (C f:au):Prop where
  makes:PySem.W.makesIn K C=true
  init:eM K (.ref C) "__init__"=cz (cz (.ref f))
  fn:PySem.W.isFn K (.ref f)=true
  kp:dU K (.ref C)=true
end
section
variable {X:Cx}{CX:CXT}{k:Nat}{f C:au}{fd:c_}{ps ks:List br}{sp:Sp}{E:XK}{x m:br}{p pos apos sv:eH}{e o:Expr}{es:List Expr}{CG:List Ck}{te ta:TE}{t tk:TA}{nm:Option br}
structure KBinds (K:ae) (fd:c_) (ps ks:List br) (g:List ag→List ag→List ag) (gV:List V→List V→List V):Prop where
  to:∀(s:aj) (us ws:List ag),K.In s.heap→(g us ws).length=ps.length→lW s fd ⟨us,ks.zip ws⟩ (ps.zip (g us ws))
  rel:∀{vs:List V} {us:List ag} {zs:List V} {ws:List ag},Vals vs us→Vals zs ws→Vals (gV vs zs) (g us ws)
variable {g:List ag→List ag→List ag}{gV:List V→List V→List V}
end
structure FnScope (N P:List br) (sc:fw):Prop where
  kind:sc.kind=.function
  co:sc.isCoroutine=false
  gen:sc.isGenerator=false
  nd:N.Nodup
  pre:N.take P.length=P
  par:∀x∈P,sc.names.lookup x=cz .local∨sc.names.lookup x=cz .cell
  nofree:∀y∈sc.names,y.2≠.free
theorem a2e{kindOf:br→Option gD}{x:br}:∀{binds:List (br×ag)} {m:br→Option ag},(∀v,(x,v)∉binds)→yR kindOf binds m x=m x
  |[],_,_=>rfl
  | (n,v)::r,m,h=>by
    unfold yR;rw[a2e λw hw=>h w (av _ hw)]
    split
    · have:x≠n:=by rintro rfl;exact h v aD
      simp[this]
    · rfl
theorem a2f{kindOf:br→Option gD}{x:br}:∀{binds:List (br×ag)} {m:br→Option ag},(∀v,(x,v)∉binds)→yS kindOf binds m x=m x
  |[],_,_=>rfl
  | (n,v)::r,m,h=>by
    unfold yS;rw[a2f λw hw=>h w (av _ hw)]
    split
    · rfl
    · have:x≠n:=by rintro rfl;exact h v aD
      simp[this]
theorem a2g{kindOf:br→Option gD}{x:br}{v:ag}:∀{P:List br} {vs:List ag} {i:Nat} {m:br→Option ag},P.Nodup→P[i]?=cz x→vs[i]?=cz v→kindOf x=cz .local→
    yR kindOf (P.zip vs) m x=cz v
  |[],_,_,_,_,h,_,_=>by simp at h
  |_::_,[],_,_,_,_,h,_=>by simp at h
  |p::P,w::vs,0,m,nd,h1,h2,hk=>by
    simp at h1 h2;subst h1;subst h2
    show yR kindOf ((p,w)::P.zip vs) m p=_;unfold yR;rw[a2e λv hv=>(cf.mp nd).1 (gJ hv).1,aL hk];simp
  |p::P,w::vs,i+1,m,nd,h1,h2,hk=>by
    show yR kindOf ((p,w)::P.zip vs) m x=_;unfold yR;exact a2g (i:=i) (cf.mp nd).2 (by simpa using h1) (by simpa using h2) hk
theorem a2h{kindOf:br→Option gD}{x:br}{v:ag}:∀{P:List br} {vs:List ag} {i:Nat} {m:br→Option ag},P.Nodup→P[i]?=cz x→vs[i]?=cz v→kindOf x≠cz .local→
    yS kindOf (P.zip vs) m x=cz v
  |[],_,_,_,_,h,_,_=>by simp at h
  |_::_,[],_,_,_,_,h,_=>by simp at h
  |p::P,w::vs,0,m,nd,h1,h2,hk=>by
    simp at h1 h2;subst h1;subst h2
    show yS kindOf ((p,w)::P.zip vs) m p=_;unfold yS;rw[a2f λv hv=>(cf.mp nd).1 (gJ hv).1,aS hk];simp
  |p::P,w::vs,i+1,m,nd,h1,h2,hk=>by
    show yS kindOf ((p,w)::P.zip vs) m x=_;unfold yS;exact a2h (i:=i) (cf.mp nd).2 (by simpa using h1) (by simpa using h2) hk
def start(N:List br)(vs:List V):St:=vs.map cz++aB (N.length-vs.length) pz
def P7(CX:CXT)(P:bo)(w:bJ)(K:ae)(mg:br→Option ag)(base:b_)(N:List br)(qual:br)(scope:fw)(f:au)(cd:ag)(A:bH)(outer:List kZ)(s:aj)(H:Hp)(E:XK):Cx where
  prog:=P
  w:=w
  K:=K
  mg:=mg
  base:=base
  A:=A.deeper (gL qual scope s.heap.objs.size f cd)
  N:=N
  s₀:=s
  H₀:=H
  env:=gL qual scope s.heap.objs.size f cd
  outer:=outer
  stack:=gL qual scope s.heap.objs.size f cd::outer
  ex:=[]
  calm:=true
  fn:=λ_=>true
  pn:=[]
  xe:=λe s'=>be (aV P w) (A.deeper (gL qual scope s.heap.objs.size f cd)) (leaving (gL qual scope s.heap.objs.size f cd) e) (λ_ pZ=>CX outer H s E e pZ) (λe' pZ=>CX outer H s E e' pZ) s'
def a3C{sc:fw}(h:sc.names.lookup x=cz .cell):∃c,(cellsFrom n sc.names []).lookup x=cz c:=by
  have q:=rq sc.names n [] (.inl h);exact eF.mp q
def a6O{CX:CXT}{P:bo}{w:bJ}{K:ae}{mg:br→Option ag}{base:b_}{N ps:List br}{qual:br}{scope:fw}{f:au}{cd:ag}{A:bH}{outer:List kZ}{s s1:aj}{H:Hp}{E:XK}{us:List ag}{vs:List V}
    (S:FnScope N ps scope) (hd:A.handled=pz) (e0:Env0 P w K mg base A outer s H) (hl:vs.length=ps.length) (r:Vals vs us)
    (x:InCallC s s.heap.objs.size (yR (gL qual scope s.heap.objs.size f cd).kindOf (ps.zip us) λ_=>pz) (cellsFrom (s.heap.objs.size+1) scope.names []) (yS (gL qual scope s.heap.objs.size f cd).kindOf (ps.zip us) λ_=>pz) s1) :
    Inv (P7 CX P w K mg base N qual scope f cd A outer s H E) [] (start N vs) H s1:=by
  have fB:ps.length≤N.length:=by have:=fE ir S.pre;rw[cu]at this;omega
  obtain⟨h1,tk,rfl,hk⟩:=x.done;have qg:∀b:au,b∉(P7 CX P w K mg base N qual scope f cd A outer s H E).ex:=λb z=>absurd (show b∈([]:List au) from z) (by simp)
  refine⟨⟨e0.mod,S.kind,rfl,rfl,aG _,λy z c h1 h2=>?_,λy hy=>?_,λy c _ h=>?_,λ_=>hd,bH.frames_deeper e0.frames,.inr ⟨rfl,rfl⟩,λb z=>absurd z (qg b),e0.bs,e0.bsz,λb _ _=>qg b,λb z=>absurd z (qg b),e0.funs,e0.frf,e0.tabs⟩,
    rfl,e0.bare,Un.kept hk,⟨_,x.toInCall.ns,λi y v h1 h2 h3=>?_⟩,λy c h=>⟨_,x.cell y c h⟩,e0.hok.fresh (aG _),λy c h=>?_,λp hp=>absurd (show p∈([]:List (au×eW)) from hp) (by simp),e0.hok.kept hk,?_⟩
  · exact name_of_addr x.apart (bV h1) (bV h2)
  · have hy:scope.names.lookup y=cz .cell∨scope.names.lookup y=cz .free:=hy
    rcases hy with hy|hy
    · exact a3C hy
    · exact absurd rfl (S.nofree _ (bV hy))
  · exact dH (x.above y c (bV h))
  · have hi:i<vs.length:=by
      unfold start at h2;by_cases hi:i<vs.length
      · exact hi
      · rw[bI (by simpa using hi)]at h2
        rw[pU]at h2
        split at h2<;>cases h2
    have ha:vs[i]?=cz v:=by
      unfold start at h2;rw[bK (by simpa using hi),bE]at h2;cases e:vs[i]? with
      |none=>rw[e]at h2;cases h2
      |some a=>rw[e]at h2;cases h2;rfl
    obtain⟨u,hu,rv⟩:=r.get ha;have hp:ps[i]?=cz y:=by
      rw[←S.pre,pf (by omega)];exact h1
    have xO:ps.Nodup:=by rw[←S.pre];exact S.nd.sublist (List.take_sublist _ _)
    refine⟨u,rv,?_⟩;rcases S.par y (bA hp) with k|k
    · exact .inl ⟨k,a2g xO hp hu k⟩
    · obtain⟨c,e⟩:=a3C (n:=s.heap.objs.size+1) k
      refine .inr ⟨.inl k,c,e,?_⟩;have q:=x.cell y c e;rw[a2h xO hp hu (by show scope.names.lookup y≠_;rw[k];decide)]at q;exact q
  · exact e0.hok.fresh (dH (x.above y c (bV h)))
  · unfold start
    show _=N.length;rw[az,ao,d_];omega
def a8d{CX:CXT}{P:bo}{w:bJ}{K:ae}{mg:br→Option ag}{base:b_}{k:Nat}{f:au}{name qual:br}{params:lX}{body:List fH}{scope:fw}{dV kV doc pm eP ct oc:ag}{an od:Option au}
    {mv:Array (Option ag)} {N ps:List br} {sp:Sp} (lk:K.lookup f=cz ⟨oc,od,.func (eR name qual params body scope dV kV doc pm an eP ct),mv⟩) (gu:jO K eP qual=true) (S:FnScope N ps scope)
    (len:∀vs H Q E,sp vs H Q E→vs.length=ps.length)
    (nX:∀(A:bH) (outer:List kZ) (s:aj) (H:Hp) (vs:List V) (Q:VK) (E:XK),Room k (A.deeper (gL qual scope s.heap.objs.size f eP))→sp vs H Q E→
      ∃t,PSs (P7 CX P w K mg base N qual scope f eP A outer s H E) body t∧t {nx:=λ_ H'=>Q .non H',rt:=Q} (start N vs) H) :
    FnOk P w K mg base CX (k+1) f (eR name qual params body scope dV kV doc pm an eP ct) ps sp:=by
  refine⟨len,λA outer s H args us vs Q E hr e0 hb r mT=>?_⟩;have hl:=len _ _ _ _ mT;have KX:K.In s.heap:=e0.mod.kin.keeps λb o e=>(e0.bs b o e).1
  have lim:s.heap.NoLimit:=e0.mod.nolimit.keeps λb o e=>(e0.bs b o e).1
  have sY:∀y∈ps.zip us,scope.names.lookup y.1=cz .local∨(scope.names.lookup y.1=cz .cell∧((cellsFrom (s.heap.objs.size+1) scope.names []).lookup y.1).isSome=true):=λ⟨n,v⟩ hy=>by
    rcases S.par n (gJ hy).1 with q|q
    · exact .inl q
    · exact .inr ⟨q,rq _ _ _ (.inl q)⟩
  refine codeAny_call_function hr.depth (KX _ _ lk) rfl S.co S.gen rfl (PySem.W.codeRec_of KX gu) (hb _ _ _ _ ?_);refine wpAny_newFunctionEnv_cells S.kind sY λenv he s1 x=>?_
  subst he;refine⟨lim.keeps x.toInCall.keep,codeAny_func ?_⟩;obtain⟨t,ht,hq⟩:=nX A outer s H vs Q E (hr.deeper _) mT;have I:Inv (P7 CX P w K mg base N qual scope f eP A outer s H E) [] (start N vs) H s1:=a6O S hr.hd e0 hl r x;refine cM (ht [] s1 (start N vs) H _ I hq) (λfl s' hs=>?_) λe s' hs=>hs
  have fin:∀{σ':St} {H':Hp} {v:V} {u:ag},Inv (P7 CX P w K mg base N qual scope f eP A outer s H E) [] σ' H' s'→RelV v u→Q v H'→CE outer P w H s Q u s':=
    λ{σ' H' v u} J rv q=>⟨v,H',J.os,J.bare,J.base,J.hok,rv,q⟩
  cases fl with
  |ret u=>
    obtain⟨v,σ',H',J,rv,q⟩:=hs;exact fin J rv q
  |next=>
    obtain⟨σ',H',J,q⟩:=hs;exact fin (v:=V.non) (u:=ba) J rfl q
  |brk=>
    obtain⟨_,_,_,q⟩:=hs;exact cJ q
  |cont=>
    obtain⟨_,_,_,q⟩:=hs;exact cJ q
section
variable {X:Cx}{x:br}{p pos:eH}{e:Expr}{es:List Expr}{t:TA}{id T:String}{r:List V→Hp→VK→Prop}
def tCB(r:List V→Hp→VK→Prop)(t:TA):TE:=λσ H Q=>t σ H λvs H1=>r vs H1 Q
def P8(hc:CallR X (.builtin id) r)(hg:Gl X x)(hm:X.mg x=pz)(hv:eK x=cz (.builtin id))(ha:PA X (e::es) t)(hn:x≠"__name__":=by decide)(jt:(x==("__debug__":br))=false:=by decide)
    (he:ax (e::es) X.env=(false,cU e X.env)::ax es X.env:=by rfl) (fB:(dj pos (ax es X.env)).any (·.1)=false:=by rfl):PE X (.Call (.Name x p) (e::es) [] pos) (tCB r t):=by
  intro pins s σ H Q I h;refine fA (U3 I hg hm hv ?_ hn jt);exact PyProof.Rows.callWith_builtin1 (thn (ha pos pins s σ H _ I h) λus s1 ⟨vs,H1,I1,r1,q1⟩=>hc pins s1 σ H1 vs us Q I1 r1 q1) he fB
def a2i(hc:CallR X (.type T) r)(hg:Gl X x)(hm:X.mg x=pz)(hv:eK x=cz (.type T))(ha:PA X (e::es) t)(hn:x≠"__name__":=by decide)(jt:(x==("__debug__":br))=false:=by decide)
    (he:ax (e::es) X.env=(false,cU e X.env)::ax es X.env:=by rfl) (fB:(dj pos (ax es X.env)).any (·.1)=false:=by rfl):PE X (.Call (.Name x p) (e::es) [] pos) (tCB r t):=by
  intro pins s σ H Q I h;refine fA (U3 I hg hm hv ?_ hn jt);exact dF (thn (ha pos pins s σ H _ I h) λus s1 ⟨vs,H1,I1,r1,q1⟩=>hc pins s1 σ H1 vs us Q I1 r1 q1) he fB
end
end L2
namespace HT
open PySem PyProof.Rows
section
variable {prog:bo}{w:bJ}{A:bH}{E:ag→aj→Prop}{s:aj}
def sIx(n d:Nat):Option Int→Nat
  |none=>d
  |some v=>if v<0 then (v+(n:Int)).toNat else min v.toNat n
end
end HT
namespace L2
open PySem PySem.Spec PyProof.Rows
abbrev TO:=St→Hp→(Option Int→Hp→Prop)→Prop
def PO(X:Cx)(e:Option Expr)(t:TO):Prop:=
  ∀(pins:List (au×eW)) (s:aj) (σ:St) (H:Hp) (Q:Option Int→Hp→Prop),Inv X pins σ H s→t σ H Q→
    be (aV X.prog X.w) X.A (evalPart e X.env) (λu s'=>∃o H',Inv X pins σ H' s'∧IsPart u o∧Q o H') X.xe s
def b0k:TO:=λ_ H Q=>Q pz H
def b4F(t:TE):TO:=λσ H Q=>t σ H λx H1=>∃i,x=.int i∧Q (cz i) H1
section
variable {X:Cx}{e:Expr}{te:TE}{lo hi:Option Expr}{tl th:TO}{pos p2:eH}
def b0l:PO X pz b0k:=by
  intro pins s σ H Q I h;rw[evalPart_none];exact aE ⟨pz,H,I,.none,h⟩
def b0m(h:PE X e te):PO X (cz e) (b4F te):=by
  intro pins s σ H Q I hw;rw[evalPart_some];refine thn (h pins s σ H _ I hw) λu s1 ⟨x,H1,I1,r1,q1⟩=>?_
  obtain⟨i,rfl,q⟩:=q1;obtain⟨t,rfl⟩:=r1;exact⟨cz i,H1,I1,.int i t,q⟩
def SlR(X:Cx)(r:V→Option Int→Option Int→Hp→VK→Prop):Prop:=
  ∀(pins:List (au×eW)) (s:aj) (σ:St) (H:Hp) (x:V) (v vl vu:ag) (lo hi:Option Int) (sl:au) (Q:VK),Inv X pins σ H s→RelV x v→s.heap.IsSliceOf sl vl vu .none→IsPart vl lo→IsPart vu hi→r x lo hi H Q→
    ∃T id,typeLookup (.type T) "__getitem__"=pure (cz (.builtin id))∧s.TypeIs v T∧be (aV X.prog X.w) X.A (oe v (.ref sl)) (EP X pins σ Q) X.xe s
def tSl(r:V→Option Int→Option Int→Hp→VK→Prop)(te:TE)(tl th:TO):TE:=λσ H Q=>te σ H λx H1=>tl σ H1 λl H2=>th σ H2 λu H3=>r x l u H3 Q
def a8e(hr:SlR X r)(he:PE X e te)(hl:PO X lo tl)(hu:PO X hi th):PE X (.Subscript e (.Slice lo hi pz p2) pos) (tSl r te tl th):=by
  intro pins s σ H Q I h;refine Subscript_ (thn (he pins s σ H _ I h) λv s1 ⟨x,H1,I1,r1,q1⟩=>?_);refine wpAny_Slice (thn (hl pins s1 σ H1 _ I1 q1) λvl s2 ⟨l,H2,I2,pl,q2⟩=>thn (hu pins s2 σ H2 _ I2 q2) λvu s3 ⟨u,H3,I3,pu,q3⟩=>?_);rw[evalPart_none];refine aE ?_;have I4:Inv X pins σ H3 {s3 with heap:=s3.heap.push {cls:=.type "slice",data:=.fields #[vl,vu,.none]}}:=I3.kept (t':=s3.toks) λb ob q=>aP _ q
  obtain⟨T,id,hT,ht,hg⟩:=hr pins {s3 with heap:=s3.heap.push {cls:=.type "slice",data:=.fields #[vl,vu,.none]}} σ H3 x v vl vu l u s3.heap.objs.size Q I4 r1 (b_.IsSliceOf.new ..) pl pu q3;show be (aV X.prog X.w) X.A (subscriptTail e (.Slice lo hi pz p2) v (.ref s3.heap.objs.size)) (EP X pins σ Q) X.xe {s3 with heap:=s3.heap.push {cls:=.type "slice",data:=.fields #[vl,vu,.none]}};exact tail_any (ops:=[.ref s3.heap.objs.size,v]) ht hT hg (by with_unfolding_all rfl)
def a4R(xs:List V)(lo hi:Option Int):List V:=(xs.drop (HT.sIx xs.length 0 lo)).take (HT.sIx xs.length xs.length hi-HT.sIx xs.length 0 lo)
def a3D(xs:List V)(lo hi:Option Int):(a4R xs lo hi).length≤xs.length:=by
  unfold a4R;rw[cu,fK];omega
end
def ixN(n:Nat)(i:Int):Option Nat:=if 0≤i then (if i<n then cz i.toNat else pz) else if -(n:Int)≤i then cz (i+n).toNat else pz
def atI{α:Type}(xs:List α)(i:Int):Option α:=(ixN xs.length i).bind λj=>xs[j]?
def a0G(h:ixN n i=cz j):seqIndex? i n=cz j∧j<n∧-(n:Int)≤i∧i<n:=by
  unfold ixN at h;by_cases h0:0≤i
  · rw[aL h0]at h
    by_cases h1:i<n
    · rw[aL h1]at h
      have e:i.toNat=j:=aK h;exact⟨by rw[seqIndex_of h0 h1,e],by omega,by omega,h1⟩
    · rw[aS h1]at h;cases h
  · rw[aS h0]at h
    by_cases h1:-(n:Int)≤i
    · rw[aL h1]at h
      have e:(i+n).toNat=j:=aK h;exact⟨by rw[seqIndex_neg (by omega) h1,e],by omega,h1,by omega⟩
    · rw[aS h1]at h;cases h
def a5T{α:Type}{xs:List α}{i:Int}{v:α}(h:atI xs i=cz v):∃j,seqIndex? i xs.length=cz j∧xs[j]?=cz v∧j<xs.length∧-(xs.length:Int)≤i∧i<xs.length:=by
  unfold atI at h;cases e:ixN xs.length i with
  |none=>rw[e]at h;cases h
  |some j=>
    rw[e]at h;obtain⟨h1,h2,h3,h4⟩:=a0G e;exact⟨j,h1,h,h2,h3,h4⟩
def W1(b:Expr):Prop:=∀o i,pC b false o i=operate [o,i] (oe o i)
def IxR(X:Cx)(r:R2):Prop:=
  ∀(value slice:Expr) (pins:List (au×eW)) (s:aj) (σ:St) (H:Hp) (x y:V) (v u:ag) (Q:VK),Inv X pins σ H s→RelV x v→RelV y u→r x y H Q→
    pC slice false v u=operate [v,u] (oe v u)→be (aV X.prog X.w) X.A (subscriptTail value slice v u) (EP X pins σ Q) X.xe s
def MtR(X:Cx)(id:String)(r:V→List V→Hp→VK→Prop):Prop:=
  ∀(pins:List (au×eW)) (s:aj) (σ:St) (H:Hp) (x:V) (xs:List V) (v:ag) (us:List ag) (Q:VK),Inv X pins σ H s→RelV x v→Vals xs us→r x xs H Q→
    be (aV X.prog X.w) X.A (call (.builtin id) (v::us)) (EP X pins σ Q) X.xe s
section
variable {X:Cx}{a b:Expr}{ta tb:TE}{pos:eH}
def IxR.or(h:IxR X r)(h':IxR X r'):IxR X (λx y H Q=>r x y H Q∨r' x y H Q):=by
  intro value slice pins s σ H x y v u Q I rx ry q hs;rcases q with q|q
  · exact h value slice pins s σ H x y v u Q I rx ry q hs
  · exact h' value slice pins s σ H x y v u Q I rx ry q hs
def a5U(hr:IxR X r)(ha:PE X a ta)(hb:PE X b tb)(hs:W1 b):PE X (.Subscript a b pos) (tOp r ta tb):=by
  intro pins s σ H Q I h;exact Subscript_ (b2s ha hb I h λv u s2 x y H2 I2 rx ry q=>hr a b pins s2 σ H2 x y v u Q I2 rx ry q (hs _ _))
def b4G(K:ae):R2:=λx y H Q=>∃p xs i v,x=.ref p∧y=.int i∧SqL K H p xs∧atI xs i=cz v∧Q v H
def b4H(K:ae):R2:=λx y H Q=>∃p xs i v,x=.ref p∧y=.int i∧SqT K H p xs∧atI xs i=cz v∧Q v H
def b0n:IxR X (b4G X.K):=by
  intro value slice pins s σ H x y v u Q I rx ry h hs;obtain⟨p,xs,i,z,rfl,rfl,hq,he,q⟩:=h;cases rx
  obtain⟨t,rfl⟩:=ry;obtain⟨cN,r,pl,hz⟩:=I.list hq;obtain⟨j,h1,h2,h3,h4,h5⟩:=a5T he;obtain⟨w,ew,p_⟩:=r.get h2;have hl:=r.length;have hn:=Y1;have fin:EP X pins σ Q w s:=⟨z,H,I,p_,q⟩;by_cases h0:0≤i
  · have hj:i.toNat=j:=by
      rw[seqIndex_of h0 h5]at h1;exact aK h1
    exact item_listR pl.isList h0 (by omega) (by rw[hj];simpa using ew) fin hs
  · have hj:(i+(cN.toArray.size:Int)).toNat=j:=by
      rw[seqIndex_neg (by omega) h4]at h1;rw[bw,←hl];exact aK h1
    exact subscriptTail_builtinR (x:=w) pl.isList.typeIs slot_list_getitem.lookup
      (wpAny_getItem_list_neg (Q:=λr s'=>r=w∧EP X pins σ Q r s') pl.isList (by omega) (by rw[bw]<;>omega) (by omega) (by rw[hj];simpa using ew) ⟨rfl,fin⟩) hs
def b2H:IxR X (b4H X.K):=by
  intro value slice pins s σ H x y v u Q I rx ry h hs;obtain⟨p,xs,i,z,rfl,rfl,hq,he,q⟩:=h;cases rx
  obtain⟨t,rfl⟩:=ry;obtain⟨cN,r,pl,hz⟩:=I.tuple hq;obtain⟨j,h1,h2,h3,h4,h5⟩:=a5T he;obtain⟨w,ew,p_⟩:=r.get h2;have hl:=r.length;have hn:=Y1;have fin:EP X pins σ Q w s:=⟨z,H,I,p_,q⟩;exact subscriptTail_builtinR (x:=w) pl.typeIs slot_tuple_getitem.lookup
    (getItem_tuple (j:=j) (Q:=λr s'=>r=w∧EP X pins σ Q r s') pl (by omega) (by omega) (by rw[bw,←hl];exact h1) (by simpa using ew) ⟨rfl,fin⟩) hs
def a4S(cN:List ag)(n j:Nat)(u:ag):fT (·.setIfInBounds j u) {cls:=.type "list",data:=.seq cN.toArray n}={cls:=.type "list",data:=.seq (cN.set j u).toArray n}:=by
  simp[fT]
theorem Inv.lst{pins:List (au×eW)}{σ:St}{H:Hp}{s:aj}{p:au}{xs:List V}(I:Inv X pins σ H s)(h:H p=cz (.lst xs)) :
    ∃(cN:List ag) (n:Nat),Vals xs cN∧s.heap.get? p=cz {cls:=.type "list",data:=.seq cN.toArray n}∧xs.length≤bh:=by
  obtain⟨z,cN,n,r,e⟩:=I.hok p _ h;exact⟨cN,n,r,e,z⟩
def Inv.lstUpd{cN its':List ag}(I:Inv X pins σ H s)(h:H p=cz (.lst xs))
    (ho:s.heap.get? p=cz {cls:=.type "list",data:=.seq cN.toArray n}) (hf:f {cls:=.type "list",data:=.seq cN.toArray n}={cls:=.type "list",data:=.seq its'.toArray n'}) (r:Vals ys its') (hz:ys.length≤bh) (t:Nat) :
    Inv X pins σ (upd H p (.lst ys)) {s with heap:=s.heap.update p f,toks:=t}:=by
  have e:(s.heap.update p f).get? p=cz {cls:=.type "list",data:=.seq its'.toArray n'}:=by
    rw[eE f ho (by rw[hf]<;>rfl),hf]
  refine I.write (x:=p) (e:=p) (by rw[h];trivial) (.inl rfl) (λb u hb q=>(kn _ _ (fx hb)).trans q) ⟨_,e⟩ ?_;exact⟨hz,its',n',r,e⟩
def b4I:V→V→V→Hp→(Hp→Prop)→Prop:=λo i v H Q=>∃p xs k j,o=.ref p∧i=.int k∧H p=cz (.lst xs)∧ixN xs.length k=cz j∧Q (upd H p (.lst (xs.set j v)))
def set_list:b4v X b4I:=by
  intro pins s σ H o i v ov iv u Q I ro ri rv h;obtain⟨p,xs,k,j,rfl,rfl,hp,hj,q⟩:=h;cases ro
  obtain⟨t,rfl⟩:=ri;obtain⟨cN,n,r,ho,hz⟩:=I.lst hp;obtain⟨h1,h2,h3,h4⟩:=a0G hj;have hl:=r.length;have hn:=Y1;have I':Inv X pins σ (upd H p (.lst (xs.set j v))) {s with heap:=s.heap.update p (fT (·.setIfInBounds j u))}:=
    I.lstUpd hp ho (a4S cN n j u) (r.set rv j) (by rw[jl];exact hz) s.toks
  by_cases h0:0≤k
  · have hk:k.toNat=j:=by
      rw[seqIndex_of h0 h4]at h1;exact aK h1
    exact PySem.W.ki_setAt ho h0 (by omega) (by rw[bw,←hl];exact h4) (by rw[hk];exact⟨_,I',q⟩)
  · have hk:(k+(cN.toArray.size:Int)).toNat=j:=by
      rw[seqIndex_neg (by omega) h3]at h1;rw[bw,←hl];exact aK h1
    exact PySem.W.ki_setBack ho (by omega) (by rw[bw,←hl];exact h3) (by omega) (by rw[hk];exact⟨_,I',q⟩)
def a2R(lo hi:Option Int)(n:Nat):(gT lo hi pz n).1=((HT.sIx n 0 lo:Nat):Int)∧(gT lo hi pz n).2.1=((HT.sIx n n hi:Nat):Int)∧(gT lo hi pz n).2.2=1:=by
  refine⟨?_,?_,rfl⟩
  · cases lo with
    |none=>simp[gT,HT.sIx]
    |some i=>
      simp only[gT,HT.sIx,Ce,show (1:Int)>0 by decide,nz];by_cases h:i<0
      · simp only[h,nz]<;>omega
      · simp only[h,dq]<;>omega
  · cases hi with
    |none=>simp[gT,HT.sIx]
    |some i=>
      simp only[gT,HT.sIx,Ce,show (1:Int)>0 by decide,nz];by_cases h:i<0
      · simp only[h,nz]<;>omega
      · simp only[h,dq]<;>omega
def a1S(cN:List ag)(lo hi:Option Int):slicePick cN.toArray lo hi pz=((cN.drop (HT.sIx cN.length 0 lo)).take (HT.sIx cN.length cN.length hi-HT.sIx cN.length 0 lo)).toArray:=by
  obtain⟨h1,h2,h3⟩:=a2R lo hi cN.toArray.size;unfold slicePick;rw[h1,h2,h3];simp only[sliceRange_one,pick_run,bw]<;>rfl
def b6y(K:ae):V→Option Int→Option Int→Hp→VK→Prop:=λx lo hi H Q=>∃a xs,x=.ref a∧SqL K H a xs∧∀p,H p=pz→Q (.ref p) (upd H p (.lst (a4R xs lo hi)))
def b0o:SlR X (b6y X.K):=by
  intro pins s σ H x v vl vu lo hi sl Q I rx hs pl pu h;obtain⟨a,xs,rfl,hx,q⟩:=h;cases rx
  obtain⟨cN,r,ht,hz⟩:=I.list hx;have hlen:=r.length;refine⟨"list",_,slot_list_getitem.lookup,ht.isList.typeIs,?_⟩;refine wpAny_getItem_list_slice ht.isList hs pl pu .none (by simp) ?_ (by rw[bw]<;>omega);rw[a1S,←hlen];refine⟨.ref s.heap.objs.size,_,I.laid (t':=s.toks) (o:=.lst (a4R xs lo hi)) (λb ob q=>aP _ q) (aG _) ?_,rfl,q _ (I.hok.fresh (aG _))⟩;exact⟨bZ (a3D xs lo hi) hz,_,0,(r.drop (HT.sIx xs.length 0 lo)).take (HT.sIx xs.length xs.length hi-HT.sIx xs.length 0 lo),bz _ rfl⟩
def a2S:CallR X (.builtin "len") (λxs H Q=>∃p ys,xs=[.ref p]∧(SqL X.K H p ys∨SqT X.K H p ys)∧Q (.int ys.length) H):=by
  intro pins s σ H xs us Q I r h;obtain⟨p,ys,rfl,hq,q⟩:=h;obtain⟨u,rfl,rx⟩:=vals1 r;cases rx
  have hn:=Y1;rcases hq with hq|hq
  · obtain⟨cN,r',pl,hz⟩:=I.list hq
    have hlen:=r'.length;exact Calls.call_len_list pl.isList (by simp only[bw]<;>omega) ⟨.int ys.length,H,I.tok _,⟨s.toks+1,by rw[bw,hlen]⟩,q⟩
  · obtain⟨cN,r',pl,hz⟩:=I.tuple hq
    have hlen:=r'.length;exact len_tuple pl (by simp only[bw]<;>omega) ⟨.int ys.length,H,I.tok _,⟨s.toks+1,by rw[bw,hlen]⟩,q⟩
def a2T:CallR X (.builtin "len") (λxs H Q=>∃z,xs=[.str z]∧z.length≤bh∧Q (.int z.length) H):=by
  intro pins s σ H xs us Q I r h;obtain⟨z,rfl,hz,q⟩:=h;obtain⟨u,rfl,t,rfl⟩:=vals1 r;have hn:=Y1;exact len_str (by omega) ⟨.int z.length,H,I.tok _,⟨_,rfl⟩,q⟩
def CallR.or(h:CallR X f r)(h':CallR X f r'):CallR X f (λxs H Q=>r xs H Q∨r' xs H Q):=by
  intro pins s σ H xs us Q I rs q;rcases q with q|q
  · exact h pins s σ H xs us Q I rs q
  · exact h' pins s σ H xs us Q I rs q
def a2U:CallR X (.type "list") (λxs H Q=>∃p ys,xs=[.ref p]∧(SqL X.K H p ys∨SqT X.K H p ys)∧∀l,H l=pz→Q (.ref l) (upd H l (.lst ys))):=by
  intro pins s σ H xs us Q I r h;obtain⟨p,ys,rfl,hq,q⟩:=h;obtain⟨u,rfl,rx⟩:=vals1 r;cases rx
  have fin:∀(cN:List ag),Vals ys cN→ys.length≤bh→∀(h':b_) (c':Nat),(∀b o',s.heap.get? b=cz o'→h'.get? b=cz o')→
      h'.get? s.heap.objs.size=cz {cls:=.type "list",dict:=pz,data:=.seq cN.toArray c',slots:=#[]}→EP X pins σ Q (.ref s.heap.objs.size) {s with heap:=h'}:=λcN r' hz h' c' kp e=>
    ⟨.ref s.heap.objs.size,_,I.laid (t':=s.toks) kp (aG _) (show ObjOk X.prog X.w _ h' _ (.lst ys) from⟨hz,cN,c',r',e⟩),rfl,q _ (I.hok.fresh (aG _))⟩
  rcases hq with hq|hq
  · obtain⟨cN,r',pl,hz⟩:=I.list hq
    have hlen:=r'.length;obtain⟨o,ho,hc,n,hd⟩:=pl.isList;exact call_list_seq p (.inl rfl) ho hc hd (λh' c' kp e=>fin cN r' hz h' c' kp e) (by simp only[bw]<;>omega)
  · obtain⟨cN,r',pl,hz⟩:=I.tuple hq
    have hlen:=r'.length;obtain⟨o,ho,hc,n,hd⟩:=pl;exact call_list_seq p (.inr rfl) ho hc hd (λh' c' kp e=>fin cN r' hz h' c' kp e) (by simp only[bw]<;>omega)
def tyV(K:ae)(T:String)(x:V)(H:Hp):Prop:=match x with
  |.str _=>T="str"
  |.int _=>T="int"
  |.ref p=>(T="list"∧∃xs,SqL K H p xs)∨(T="tuple"∧∃o,K.lookup p=cz o∧o.cls=.type "tuple"∧o.dict=pz)∨
      (T="dict"∧((∃kvs,H p=cz (.dK kvs))∨∃kvs,H p=cz (.dT kvs)))∨(T="set"∧∃S n,H p=cz (.set S n))
  |_=>False
def b2I(I:Inv X pins σ H s)(r:RelV x v)(ty:tyV X.K T x H) :
    s.TypeIs v T∧∀a,v=.ref a→∃ob,s.heap.get? a=cz ob∧ob.dict=pz:=by
  cases x with
  |str z=>
    obtain⟨t,rfl⟩:=r;cases (show T="str" from ty)
    exact⟨typeIs_str s z t,λ_ e=>nomatch e⟩
  |int i=>
    obtain⟨t,rfl⟩:=r;cases (show T="int" from ty)
    exact⟨typeIs_int s i t,λ_ e=>nomatch e⟩
  |ref p=>
    cases r
    rcases ty with⟨rfl,xs,hq⟩|⟨rfl,o,hk,hc,hd⟩|⟨rfl,hk⟩|⟨rfl,S,n,hk⟩
    · obtain⟨cN,_,pl,_⟩:=I.list hq
      refine⟨pl.isList.typeIs,λa e=>?_⟩;cases e
      obtain⟨o,n,e,c,hd,_⟩:=pl;exact⟨o,e,hd⟩
    · refine⟨⟨o,I.kIn p o hk,hc⟩,λa e=>?_⟩
      cases e
      exact⟨o,I.kIn _ o hk,hd⟩
    · have z:∃o,s.heap.get? p=cz o∧o.ExactDict:=by
        rcases hk with⟨kvs,hk⟩|⟨kvs,hk⟩
        · obtain⟨_,_,_,_,o,_,_,e,ex,_⟩:=I.hok p _ hk
          exact⟨o,e,ex⟩
        · obtain⟨_,_,_,_,o,_,_,e,ex,_⟩:=I.hok p _ hk
          exact⟨o,e,ex⟩
      obtain⟨o,e,ex⟩:=z;refine⟨⟨o,e,ex.1⟩,λa e2=>?_⟩;cases e2
      exact⟨o,e,ex.2.1⟩
    · obtain⟨o,_,_,_,e,ex,_⟩:=I.hok p _ hk
      refine⟨⟨o,e,ex.1⟩,λa e2=>?_⟩;cases e2
      exact⟨o,e,ex.2.1⟩
  |_=>exact cJ ty
def tBM(K:ae)(T:String)(r:V→List V→Hp→VK→Prop)(to:TE)(t:TA):TE:=λσ H Q=>to σ H λx H1=>tyV K T x H1∧t σ H1 λxs H2=>r x xs H2 Q
variable {o e:Expr}{es:List Expr}{to:TE}{t:TA}{name:br}{apos eQ:eH}{T id:String}{r:V→List V→Hp→VK→Prop}
def b4J(pa:PlainAttrs T)(slot:Slot T name id)(Ae:typeOf (.builtin id)=pure (.type "method_descriptor"))(hm:MtR X id r)(ho:PE X o to)(ha:PA X (e::es) t)
    (nY:attributeBase o name X.env (cU o X.env)=cU o X.env:=by rfl)
    (qS:((dj eQ (ax (e::es) X.env)).all (λx=>!x.1)&&(backToKw eQ (keywordEach [] X.env)).all (λx=>x.1.isSome)
      && decide ((e::es).length+([]:List Ck).length+(if ([]:List Ck).isEmpty then 0 else 1)<30))=true:=by rfl)
    (nR:(apos.endLine==eQ.line)=true:=by rfl) (hs:ax (e::es) X.env=(false,cU e X.env)::ax es X.env:=by rfl) (lZ:(dj eQ (ax es X.env)).any (·.1)=false:=by rfl) :
    PE X (.Call (.Attribute o name apos) (e::es) [] eQ) (tBM X.K T r to t):=by
  intro pins s σ H Q I h;refine wpAny_Call_method_late nY qS nR rfl (thn (ho pins s σ H _ I h) λv s1 ⟨x,H1,I1,r1,ty,q1⟩=>?_);obtain⟨h1,h2⟩:=b2I I1 r1 ty;refine⟨T,id,pa,slot,Ae,h1,h2,?_⟩;have hA:=ha eQ pins s1 σ H1 _ I1 q1;rw[hs]at hA ⊢;refine Calls.callWith_builtin (by show (false||(dj eQ (ax es X.env)).any (·.1))=false;rw[lZ]<;>rfl) (lN ?_);exact thn hA λus s2 ⟨vs,H2,I2,r2,q2⟩=>hm pins s2 σ H2 x vs v us Q I2 r1 r2 q2
/- xs.append(e), list.index on a su tuple .. are MtR facts of 06m -/
end
def MtM(X:Cx)(id:String)(r:V→List V→Hp→VK→Prop):Prop:=
  ∀(pins:List (au×eW)) (s:aj) (σ:St) (H:Hp) (x:V) (xs:List V) (v:ag) (us:List ag) (Q:VK),Inv X pins σ H s→RelV x v→Vals xs us→r x xs H Q→
    be (aV X.prog X.w) X.A (call (.builtin id) (v::us)) (EP X pins σ Q) X.xe s
def Vals.one:∀{x:V} {us:List ag},Vals [x] us→∃u,us=[u]∧RelV x u
  |_,_,.cons r .nil=>⟨_,rfl,r⟩
section
variable {X:Cx}{pins:List (au×eW)}{σ:St}{H:Hp}{s:aj}{l b:au}{xs ys zs:List V}
def Inv.lset{cN its':List ag}(I:Inv X pins σ H s)(hH:H l=cz (.lst xs))
    (e:s.heap.get? l=cz {cls:=.type "list",data:=.seq cN.toArray n}) (hf:f cN.toArray=its'.toArray) (hv:Vals ys its') (hz:ys.length≤bh) :
    Inv X pins σ (upd H l (.lst ys)) {s with heap:=s.heap.update l (fT f),toks:=t'}:=by
  have q:=PySem.IsL.update e f;rw[hf]at q;refine I.write (x:=l) (e:=l) (by rw[hH];exact trivial) (.inl rfl) (λb' u hb hu=>(kn s.heap (fT f) (fx hb)).trans hu) ⟨_,q⟩ ?_;exact⟨hz,its',_,hv,q⟩
def Inv.lnew(I:Inv X pins σ H s)(hv:Vals ys cN)(hz:ys.length≤bh) :
    Inv X pins σ (upd H s.heap.objs.size (.lst ys)) {s with heap:=s.heap.push {cls:=.type "list",data:=.seq cN.toArray},toks:=t'}:=
  I.laid (λ_ _ q=>aP _ q) (aG _) ⟨hz,cN,0,hv,bz _ rfl⟩
theorem Inv.fresh(I:Inv X pins σ H s):H s.heap.objs.size=pz:=I.hok.fresh (aG _)
def Inv.lstM(I:Inv X pins σ H s)(hH:H l=cz (.lst xs)):xs.length≤bh∧∃(cN:List ag) (n:Nat),Vals xs cN∧xs.length=cN.length∧s.heap.get? l=cz {cls:=.type "list",data:=.seq cN.toArray n}:=by
  obtain⟨z,cN,n,r,e⟩:=I.hok l _ hH;exact⟨z,cN,n,r,r.length,e⟩
end
section
variable {X:Cx}
def b0p:V→List V→Hp→VK→Prop:=λx vs H Q=>∃l xs y,x=.ref l∧vs=[y]∧H l=cz (.lst xs)∧xs.length<bh∧Q .non (upd H l (.lst (xs++[y])))
def a2j:MtM X "list.append" b0p:=by
  intro pins s σ H x vs v us Q I rx rv h;obtain⟨l,xs,y,rfl,rfl,hH,hz,q⟩:=h;cases rx
  obtain⟨u,rfl,ru⟩:=rv.one;obtain⟨z,cN,n,r,hl,e⟩:=I.lstM hH;refine call_meets F.slot_list_append ⟨_,e,rfl⟩ F.entry_list_append (F.args_list_append_2 _ _) (PySem.list_append l cN.toArray n u (by rw[bw];omega)) ⟨e,?_⟩;refine⟨.non,_,I.lset (its':=cN++[u]) hH e (by simp) (r.append (.cons ru .nil)) ?_,rfl,q⟩;rw[az,bx];omega
end
end L2
namespace Att
open PySem PySem.W PySem.Calls PyProof.Rows
def a0y:∀(ns:List Int) (vs:List ag),WellAll P h vs (ns.map WData.int)→IntsAre vs ns:=by
  intro ns
  induction ns with
  |nil=>
    intro vs w;rw[cY]at w;cases w
    exact .nil
  |cons n ns ih=>
    intro vs w;rw[aA]at w;cases w with
    |cons a b=>
      cases a
      exact .cons _ _ (ih _ b)
def a6P{l:OpenLaw}(hn:l.most=cz n) 
    (jH:l.row.toRowW.claim.pre args=true) (uD:WellAll P h vals args) :
    ∃a vs ns,vals=[bG a]∧args=[WData.list (ns.map WData.int)]∧h.get? a=cz {cls:=.type "list",data:=.seq vs.toArray}∧IntsAre vs ns∧ns.length≤n:=by
  have Aj:WShape.hasAll [] args [.list .int]=true:=(pre_splitW jH).1;have hc:l.pre.holds [] {args:=args}=true:=(pre_splitW jH).2;obtain⟨d,r,rfl,h1,h2⟩:=hasAllW_cons Aj;obtain rfl:=hasAllW_nil h2;obtain⟨xs,rfl,h3⟩:=hasW_list h1;obtain⟨ns,rfl⟩:=items_int h3;have hlen:ns.length≤n:=by
    unfold OpenLaw.pre at hc;have h4:(WTm.not (.lt (.lit (.int (n:Int))) (.len (.arg 0)))).holds [] {args:=[.list (ns.map .int)]}=true:=by
      have h4:=(holds_andW hc).1;rw[hn]at h4;exact h4
    have h5:=condW_of h4 (w_not (w_lt w_lit (w_len_list (w_arg rfl))));rw[ao]at h5;refine Nat.le_of_not_lt λq=>?_
    have q':(n:Int)<((ns.length:Nat):Int):=by omega
    first
      | (rw[aU q']at h5;exact absurd h5 (by decide))
      | (simp at h5;omega)
  cases uD with
  |cons w1 w2=>
    cases w2
    cases w1 with
    |list ho gI=>exact⟨_,_,ns,rfl,rfl,ho,a0y ns _ gI,hlen⟩
def a6Q(l:OpenLaw)(args:List WData):l.row.toRowW.claim.post args (.bool true) args=true:=
  postW_of (r:=l.row.toRowW) (X:=(true==true))
    (show WShape.has [] (.bool true) .bool=true by first|rfl|decide|simp[WShape.has,WShape.arms,WShape.armsAll])
    (show (WTm.eq .res (.lit (.bool true))).value [] {args:=args,res:=cz (.bool true),after:=args}=cz (.bool (true==true)) from w_eq_bool (w_res rfl) w_lit) rfl
def attach_call{l:OpenLaw}{d:DefRec}
    (hn:l.most=cz n) (tL:d.params.defaults=[])
    (call:∀(w:bJ) (s₀ s₁:aj) (mg mb:br→Option ag) (fa:au) (o:eW) (pm cd doc:ag) (a:au) (vs:List ag) (ns:List Int),
      Ground q loose [] XP w s₀ mg mb s₁.heap→YP w s₁.heap→
      s₁.heap.get? fa=cz o→o.data=.func (docDef d.name d.params d.body d.scope pm cd doc)→s₁.heap.CodeRec cd d.name→mg d.name=cz (.ref fa)→
      s₁.heap.get? a=cz {cls:=.type "list",data:=.seq vs.toArray}→IntsAre vs ns→ns.length≤n→s₁.gens=#[]→
      jk (aV l.prog w) lV (.call (.ref fa) ⟨[.ref a],[]⟩) (λr s'=>r=.ok (.ret (.bool true))∧OldK s₁.heap s'.heap∧s'.os=s₁.os∧ig s'.gens) s₁) :
    WalkO q loose XP YP l.row.toRowW d [] (λf vs=>xp f vs):=by
  intro w s₀ s₁ mg mb G Y fa o pm cd doc dV kV ho hd gu hD sW hg args vals as jH AE CK uD hlo;obtain rfl:dV=.none:=Dflts.none hD tL;obtain rfl:kV=.none:=Dflts.noKw hD;obtain⟨a,vs,ns,rfl,rfl,qG,hints,hlen⟩:=a6P hn jH uD;refine enter_call (gB (call w s₀ s₁ mg mb fa o pm cd doc a vs ns G Y ho (fd_plain hd) gu sW qG hints hlen hg) λr s' hq=>?_);obtain⟨rfl,h2,h3,h4⟩:=hq;exact⟨.inl ⟨.bool true,.bool true,[],rfl,λ_=>rfl,.bool true,a6Q l _,λ_=>⟨lI,λ_ hm=>(nomatch hm)⟩⟩,h2,h3,h4⟩
section
variable {prog:bo}{w:bJ}{A:bH}{E:ag→aj→Prop}{s:aj}{K:Frag}
def ledger(h:b_)(L d:au):List (au×eW):=(aW h.objs.size).filterMap λa=>if a=L∨a=d then pz else (h.get? a).map λo=>(a,o)
end
end Att
namespace L2
open PySem PySem.Spec PyProof.Rows
theorem vals_ints:∀{vs:List ag} {ns:List Int},IntsAre vs ns→Vals (ns.map V.int) vs
  |_,_,.nil=>.nil
  |_,_,.cons n t h=>.cons ⟨t,rfl⟩ (vals_ints h)
abbrev KOf{K:ae}{h:b_}(_:K.In h):ae:=K
end L2
/- Dm Cj uZ (shape; LID, My.* are xB):
   My.Adr: a structure of ny addresses oF zi xP names (classes,rZ);My.Txt K t: a structure (Prop) of ny equations over K;
   My.txt_mk:{K} {implicit addresses ..} (e1:nsIn K aY "law"=cz (cz (.ref f))) (e2:K.lookup f=cz ⟨oc,od,.func (fnOf "law" "law" params body scope dV kV doc pm an eP ct),sl⟩) (e3:codeIn K eP "law"=true) ..:∃t,My.Txt K t
set_option maxRecDepth 100000 in
set_option maxHeartbeats 0 in
def PySem.Challenge.cw_LID_holds : PySem.Challenge.rw_LID.Holds := by
  w_on;o_law;k_head;(case hw=>w_witness2)
  k_fill
  refine L2.walk_of (l:=PySem.Challenge.rw_LID) (n:=63) (k:=40) (x:="script") (CX:=λw=>..) (sp:=λ_=>My.sp_law) rfl (by decide) rfl ⟨rfl,by decide,by decide⟩ (λw h Y=>PySem.W.kIn_of Y) ?F ?S ?C
  case F=>
    intro w mg fa h KX G sW;have T:∃t,My.Txt (L2.KOf KX) t:=by
      dsimp only[L2.KOf]                          -- K zN xE as «<heap const> w.params» De k_is
      refine' My.txt_mk ?e1 ?e2 ?e3 ..
      (case e1=>PySem.W.k_is)                    -- in ny order: a name -> cN address -> cN object -> cN parts
      (case e2=>PySem.W.k_is)
      ..
    obtain⟨t,T⟩:=T;have e0:=sW.symm.trans (fR KX G T.law);cases e0                                       -- fa is ny xQ own address
    exact⟨_,λs u=>.of_eq rfl,λbase kb nb=>My.law_fn T kb nb⟩     -- if «.of_eq xH comes Cs early: refine' ⟨_,?b,λbase kb nb=>My.law_fn T kb nb⟩;exact λs u=>.of_eq rfl
  case S=>exact λw H a ns hl hO hS=>..
  case C=>exact ..
(ny tactic k_is has no namespace: write k_is) -/
namespace L2
open PySem PySem.Spec PyProof.Rows
def O0(s:fH):lX:=match s with
  |.FunctionDef _ a _ _ _ _ _ _ _ _=>a
  |_=>{posonlyargs:=[],args:=[],vararg:=pz,kwonlyargs:=[],kw_defaults:=[],kwarg:=pz,defaults:=[]}
def t7(s:fH):List fH:=match s with
  |.FunctionDef _ _ b _ _ _ _ _ _ _=>b
  |_=>[]
def g8(s:fH):fw:=match s with
  |.FunctionDef _ _ _ _ _ _ sc _ _ _=>sc
  |_=>{kind:=.function,names:=[],isGenerator:=false,isCoroutine:=false}
abbrev CX0:CXT:=λ_ _ _ _ _ _=>False
abbrev E0:XK:=λ_ _ _=>False
def b4K:a4Q CX0 X E0:=λ_ _ _ _ _ _ _ h=>h.elim
structure Fun (K:ae) (x qual:br) (st:fH) (f:au) (fd:c_):Prop where
  ex:∃(oc:ag) (od:Option au) (kV doc pm:ag) (an:Option au) (eP ct:ag) (mv:Array (Option ag)),
    fd=eR x qual (O0 st) (t7 st) (g8 st) .none kV doc pm an eP ct∧K.lookup f=cz ⟨oc,od,.func fd,mv⟩∧jO K eP qual=true
  kp:dU K (.ref f)=true
section
variable {P:bo}{w:bJ}{K:ae}{mg:br→Option ag}{base:b_}
def Fun.ok{x qual:br}{st:fH}{f:au}{fd:c_}{N ps:List br}{k:Nat}{sp:Sp}(F:Fun K x qual st f fd)(S:FnScope N ps (g8 st))(len:∀vs H Q E,sp vs H Q E→vs.length=ps.length)
    (nX:∀(eP:ag) (A:bH) (outer:List kZ) (s:aj) (H:Hp) (vs:List V) (Q:VK) (E:XK),Room k (A.deeper (gL qual (g8 st) s.heap.objs.size f eP))→sp vs H Q E→
      ∃t,PSs (P7 CX0 P w K mg base N qual (g8 st) f eP A outer s H E).nox (t7 st) t∧t {nx:=λ_ H'=>Q .non H',rt:=Q} (start N vs) H):FnOk P w K mg base CX0 (k+1) f fd ps sp:=by
  obtain⟨oc,od,kV,doc,pm,an,eP,ct,mv,rfl,lk,gu⟩:=F.ex;refine a8d lk gu S len λA outer s H vs Q E hr mT=>?_
  obtain⟨t,h,q⟩:=nX eP A outer s H vs Q E hr mT;exact⟨t,h.nox,q⟩
def Fun.binds{x qual:br}{st:fH}{f:au}{fd:c_}{ps:List br}(F:Fun K x qual st f fd)
    (h:∀(kV doc pm:ag) (an:Option au) (eP ct:ag) (us:List ag),us.length=ps.length→oh (eR x qual (O0 st) (t7 st) (g8 st) .none kV doc pm an eP ct) ⟨us,[]⟩=pure (ps.zip us)):Binds K fd ps []:=by
  obtain⟨oc,od,kV,doc,pm,an,eP,ct,mv,rfl,lk,gu⟩:=F.ex;exact .all (h kV doc pm an eP ct)
def b2J{x qual:br}{st:fH}{f:au}{oc:ag}{od an:Option au}{mv:Array (Option ag)}{kV doc pm eP ct:ag}(l:K.lookup f=cz ⟨oc,od,.func (eR x qual (O0 st) (t7 st) (g8 st) .none kV doc pm an eP ct),mv⟩)
    (c:jO K eP qual=true) (k:dU K (.ref f)=true):Fun K x qual st f (eR x qual (O0 st) (t7 st) (g8 st) .none kV doc pm an eP ct):=⟨⟨oc,od,kV,doc,pm,an,eP,ct,mv,rfl,l,c⟩,k⟩
end
def Y2(h:n≤1000):n<bh:=hU h (by decide)
section
variable {X:Cx}
def pv(i:Nat)(hN:X.N[i]?=cz x:=by rfl)(hv:Vis X.env.scope x:=by first|exact cX rfl|exact cR (cX rfl)|exact cR (cR rfl))(hd:(x==("__debug__":br))=false:=by decide)
    (gu:(x==("__classdict__":br))=false:=by decide):PE X (.Name x pos) (b4p i):=P6 hN hv hd gu
end
def a2V{A B:Prop}(h:B):if false=true then A else B:=by
  rw[aS bU];exact h
def a2W{A B:Prop}(h:A):if true=true then A else B:=by
  rw[aL rfl];exact h
def Same(H H':Hp):Prop:=∀b o,H b=cz o→H' b=cz o
def Same.refl(H:Hp):Same H H:=λ_ _ h=>h
def Same.trans(a:Same H H1)(b:Same H1 H2):Same H H2:=λc o h=>b c o (a c o h)
def Same.free{H H':Hp}(e:Same H H'){l:au}(h:H' l=Option.none):H l=Option.none:=by
  cases q:H l with
  |none=>rfl
  |some o=>
    rw[e l o q]at h;cases h
end L2
set_option Elab.async false
set_option linter.all false
set_option maxRecDepth 100000
set_option maxHeartbeats 4000000
namespace L2
open PySem PySem.Spec PyProof.Rows
def E6(X:Cx)(N:List br)(scope:fw)(cl:List (br×au))(C:au)(s:aj)(H:Hp)(fp:List au):Cx:=
 {X with N:=N,s₀:=s,H₀:=H,env:=compEnvC scope cl C X.env,outer:=X.stack,ex:=fp,fn:=λ_=>false,xe:=λ_ _=>False}
structure CompIn (X:Cx) (N:List br) (scope:fw) (cl:List (br×au)) (τ:St->St):Prop where
 clos:nh scope X.env=pure cl
 kind:scope.kind=.function
 ncell:∀y∈scope.names,y.2≠.cell
 names:∀y∈scope.names,y.2=.local->scope.names.lookup y.1=cz .local
 sub:∀x c,cl.lookup x=cz c->X.env.cells.lookup x=cz c
 has:∀y∈scope.names,y.2=.free->∃c,cl.lookup y.1=cz c
 tlen:∀σ,(τ σ).length=N.length
 tval:∀(σ:St) (i:Nat) (x:br) (v:V),N[i]?=cz x->(τ σ)[i]?=cz (cz v)->∃j:Nat,X.N[j]?=cz x/\σ[j]?=cz (cz v)/\scope.names.lookup x=cz .free/\(X.env.kindOf x=cz .cell∨X.env.kindOf x=cz .free)
def W3{scope:fw}(hn:∀y∈scope.names,y.2≠.cell)(h:(kc scope env).names.lookup x=cz .cell∨(kc scope env).names.lookup x=cz .free):∃y∈scope.names,y.1=x/\y.2=.free:=by
 have key:∀k,(kc scope env).names.lookup x=cz k->k=.cell∨k=.free->∃y∈scope.names,y.1=x/\y.2=.free:=λk e hk=>by
  have hm:=bV e;unfold kc at hm;obtain⟨⟨n,k'⟩,hy,e2⟩:=bj.mp hm
  dsimp only at e2
  by_cases hc:(k'==ek&&env.scope.kind==.function&&env.kindOf n==cz .cell)=true
  ·rw[aL hc]at e2;cases e2
   rw[aC,aC]at hc;exact⟨_,hy,rfl,by simpa using hc.1.1⟩
  ·rw[aS hc]at e2;cases e2
   rcases hk with rfl|rfl
   ·exact absurd rfl (hn _ hy)
   ·exact⟨_,hy,rfl,rfl⟩
 rcases h with h|h
 ·exact key _ h (.inl rfl)
 ·exact key _ h (.inr rfl)
def a2X{scope:fw}(h:scope.names.lookup x=cz .free):(kc scope env).names.lookup x=cz .cell∨(kc scope env).names.lookup x=cz .free:=by
 have key:∀names:List (br×gD),names.lookup x=cz .free->
   (names.map λ(n,k)=>if (k==ek&&env.scope.kind==.function&&env.kindOf n==cz .cell) then (n,gD.cell) else (n,k)).lookup x=cz .cell∨
   (names.map λ(n,k)=>if (k==ek&&env.scope.kind==.function&&env.kindOf n==cz .cell) then (n,gD.cell) else (n,k)).lookup x=cz .free:=by
  intro names
  induction names with
  |nil=>intro h;cases h
  |cons z r ih=>
   obtain⟨n,k⟩:=z;intro h;rw[aA]
   dsimp only
   rw[eN]at h;cases hx:x==n with
   |true=>
    rw[hx]at h;have hk:k=.free:=by simpa using h
    subst hk;by_cases hc:(ek==ek&&env.scope.kind==.function&&env.kindOf n==cz .cell)=true
    ·rw[aL hc,eN,hx];exact .inl rfl
    ·rw[aS hc,eN,hx];exact .inr rfl
   |false=>
    rw[hx]at h;by_cases hc:(k==ek&&env.scope.kind==.function&&env.kindOf n==cz .cell)=true
    ·rw[aL hc,eN,hx];exact ih h
    ·rw[aS hc,eN,hx];exact ih h
 exact key _ h
structure Has (P:bo) (w:bJ) (K:ae) (mg:br->Option ag) (base:b_) (x:br) (k:Nat) (ps:List br) (sp:Sp):Prop where
 ex:∃f fd,FnOk P w K mg base CX0 k f fd ps sp/\Binds K fd ps []/\dU K (.ref f)=true/\mg x=cz (.ref f)
def Has.up{P:bo}{w:bJ}{K:ae}{mg:br->Option ag}{base:b_}{x:br}{j k:Nat}{ps:List br}{sp:Sp}(h:Has P w K mg base x j ps sp)(l:j<=k):Has P w K mg base x k ps sp:=by
 obtain⟨f,fd,a,b⟩:=h.ex;exact⟨f,fd,a.mono l,b⟩
section
variable {X:Cx}{k:Nat}{ps:List br}{sp:Sp}{x:br}{p pos:eH}{e:Expr}{es:List Expr}{t:TA}
def a8f(h:Has X.prog X.w X.K X.mg X.base x k ps sp)(hr:Room k X.A)(ha:PA X (e::es) t)(hg:Gl X x:=by rfl)(jt:(x==("__debug__":br))=false:=by decide)
  (he:ax (e::es) X.env=(false,cU e X.env)::ax es X.env:=by rfl) (fB:(dj pos (ax es X.env)).any (·.1)=false:=by rfl):PE X (.Call (.Name x p) (e::es) [] pos) (b1N sp [] E0 t):=by
 obtain⟨f,fd,F,b,kp,m⟩:=h.ex;exact b0j F hr hg m kp b .nil b4K ha jt he fB
end
mutual
def Den(H:Hp):V->a_->Prop
 |v,.none=>v=.non
 |v,.bool b=>v=.bl b
 |v,.int i=>v=.int i
 |v,.str x=>v=.str x
 |v,.list ds=>∃a xs,v=.ref a/\H a=cz (.lst xs)/\DenAll H xs ds
 |v,.tuple ds=>∃a xs,v=.ref a/\H a=cz (.tup xs)/\DenAll H xs ds
 |v,.dict kvs=>kvs=[]/\∃a,v=.ref a/\H a=cz (.dK [])
def DenAll(H:Hp):List V->List a_->Prop
 |xs,[]=>xs=[]
 |xs,d::ds=>∃v r,xs=v::r/\Den H v d/\DenAll H r ds
end
mutual
theorem Den.mono{H H':Hp}(e:Same H H'):∀(d:a_) {v:V},Den H v d->Den H' v d
 |.none,_,h=>by simpa only [Den]using h
 |.bool _,_,h=>by simpa only [Den]using h
 |.int _,_,h=>by simpa only [Den]using h
 |.str _,_,h=>by simpa only [Den]using h
 |.list ds,_,h=>by
  simp only[Den]at h ⊢;obtain⟨a,xs,h1,h2,h3⟩:=h;exact⟨a,xs,h1,e _ _ h2,DenAll.mono e ds h3⟩
 |.tuple ds,_,h=>by
  simp only[Den]at h ⊢;obtain⟨a,xs,h1,h2,h3⟩:=h;exact⟨a,xs,h1,e _ _ h2,DenAll.mono e ds h3⟩
 |.dict _,_,h=>by
  simp only[Den]at h ⊢;obtain⟨h0,a,h1,h2⟩:=h;exact⟨h0,a,h1,e _ _ h2⟩
theorem DenAll.mono{H H':Hp}(e:Same H H'):∀(ds:List a_) {xs:List V},DenAll H xs ds->DenAll H' xs ds
 |[],_,h=>by simpa only [DenAll]using h
 |d::ds,_,h=>by
  simp only[DenAll]at h ⊢;obtain⟨v,r,h1,h2,h3⟩:=h;exact⟨v,r,h1,Den.mono e d h2,DenAll.mono e ds h3⟩
end
def Den.up{H H':Hp}{d:a_}{v:V}(h:Den H v d)(e:Same H H'):Den H' v d:=Den.mono e d h
def DenAll.up{H H':Hp}{ds:List a_}{xs:List V}(h:DenAll H xs ds)(e:Same H H'):DenAll H' xs ds:=DenAll.mono e ds h
section
variable {H:Hp}
def den_none:Den H .non .none:=by simp only[Den]
def den_bool{b:Bool}:Den H (.bl b) (.bool b):=by simp only[Den]
def den_int{i:Int}:Den H (.int i) (.int i):=by simp only[Den]
def den_str{x:br}:Den H (.str x) (.str x):=by simp only[Den]
def den_list{a:au}{xs:List V}{ds:List a_}(h:H a=cz (.lst xs))(q:DenAll H xs ds):Den H (.ref a) (.list ds):=by
 simp only[Den];exact⟨a,xs,rfl,h,q⟩
def den_tup{a:au}{xs:List V}{ds:List a_}(h:H a=cz (.tup xs))(q:DenAll H xs ds):Den H (.ref a) (.tuple ds):=by
 simp only[Den];exact⟨a,xs,rfl,h,q⟩
def denAll_nil:DenAll H [] []:=by simp only[DenAll]
def denAll_cons{v:V}{d:a_}{xs:List V}{ds:List a_}(h:Den H v d)(q:DenAll H xs ds):DenAll H (v::xs) (d::ds):=by
 simp only[DenAll];exact⟨v,xs,rfl,h,q⟩
def Den.list_inv{v:V}{ds:List a_}(h:Den H v (.list ds)):∃a xs,v=.ref a/\H a=cz (.lst xs)/\DenAll H xs ds:=by simpa only [Den]using h
def Den.tup_inv{v:V}{ds:List a_}(h:Den H v (.tuple ds)):∃a xs,v=.ref a/\H a=cz (.tup xs)/\DenAll H xs ds:=by simpa only [Den]using h
def Den.int_inv{v:V}{i:Int}(h:Den H v (.int i)):v=.int i:=by simpa only [Den]using h
def DenAll.cons_inv{xs:List V}{d:a_}{ds:List a_}(h:DenAll H xs (d::ds)):∃v r,xs=v::r/\Den H v d/\DenAll H r ds:=by simpa only [DenAll]using h
def DenAll.nil_inv{xs:List V}(h:DenAll H xs []):xs=[]:=by simpa only [DenAll]using h
theorem DenAll.length:∀{ds:List a_} {xs:List V},DenAll H xs ds->xs.length=ds.length
 |[],_,h=>by rw[h.nil_inv];rfl
 |d::ds,_,h=>by
  obtain⟨v,r,rfl,_,h⟩:=h.cons_inv;rw[aO,aO,DenAll.length h]
theorem DenAll.get:∀{ds:List a_} {xs:List V} {i:Nat} {d:a_},DenAll H xs ds->ds[i]?=cz d->∃v,xs[i]?=cz v/\Den H v d
 |[],_,i,d,_,e=>by simp at e
 |d0::ds,_,0,d,h,e=>by
  obtain⟨v,r,rfl,h1,_⟩:=h.cons_inv;have:d0=d:=by simpa using e
  subst this;exact⟨v,rfl,h1⟩
 |d0::ds,_,i+1,d,h,e=>by
  obtain⟨v,r,rfl,_,h1⟩:=h.cons_inv;obtain⟨u,h2,h3⟩:=DenAll.get (i:=i) h1 (by simpa using e);exact⟨u,by simpa using h2,h3⟩
def DenAll.getV{ds:List a_}{xs:List V}{i:Nat}{v:V}(h:DenAll H xs ds)(e:xs[i]?=cz v):∃d,ds[i]?=cz d/\Den H v d:=by
 have hi:=(aT.mp e).1;rw[h.length]at hi;obtain⟨u,h1,h2⟩:=h.get (ah hi);rw[e]at h1;cases h1
 exact⟨_,ah hi,h2⟩
theorem DenAll.append:∀{ds:List a_} {xs:List V} {es:List a_} {ys:List V},DenAll H xs ds->DenAll H ys es->DenAll H (xs++ys) (ds++es)
 |[],_,_,_,h,q=>by rw[h.nil_inv];exact q
 |d::ds,_,_,_,h,q=>by
  obtain⟨v,r,rfl,h1,h2⟩:=h.cons_inv;exact denAll_cons h1 (DenAll.append h2 q)
end
mutual
theorem Den.reads{P:bo}{w:bJ}{H:Hp}{h:b_}(ok:HOk P w H h):∀(d:a_) {v:V} {u:ag},d.canLay0=true->Den H v d->RelV v u->∃as,Reads h u d as
 |.none,v,u,_,q,r=>by
  simp only[Den]at q;subst q;cases (show u=ba from r)
  exact⟨_,.none⟩
 |.bool b,v,u,_,q,r=>by
  simp only[Den]at q;subst q;cases (show u=ni b from r)
  exact⟨_,.bool b⟩
 |.int i,v,u,_,q,r=>by
  simp only[Den]at q;subst q;obtain⟨t,rfl⟩:=r;exact⟨_,.int i t⟩
 |.str x,v,u,_,q,r=>by
  simp only[Den]at q;subst q;obtain⟨t,rfl⟩:=r;exact⟨_,.str x t⟩
 |.list ds,v,u,hl,q,r=>by
  simp only[Den]at q;obtain⟨a,xs,rfl,h1,h2⟩:=q;cases (show u=bG a from r)
  obtain⟨z,cN,n,rv,e⟩:=ok a _ h1;obtain⟨as,ra⟩:=DenAll.reads ok ds hl h2 rv;exact⟨_,.list e rfl rfl (by simpa using ra)⟩
 |.tuple ds,v,u,hl,q,r=>by
  simp only[Den]at q;obtain⟨a,xs,rfl,h1,h2⟩:=q;cases (show u=bG a from r)
  obtain⟨z,cN,rv,o,e,c,n,d⟩:=ok a _ h1;obtain⟨as,ra⟩:=DenAll.reads ok ds hl h2 rv;exact⟨_,.tuple e c d (by simpa using ra)⟩
 |.dict _,_,_,hl,_,_=>nomatch hl
theorem DenAll.reads{P:bo}{w:bJ}{H:Hp}{h:b_}(ok:HOk P w H h):∀(ds:List a_) {xs:List V} {us:List ag},bM ds=true->DenAll H xs ds->Vals xs us->∃as,jN h us ds as
 |[],xs,us,_,q,r=>by
  simp only[DenAll]at q;subst q;cases r
  exact⟨_,.nil⟩
 |d::ds,xs,us,hl,q,r=>by
  have qL:d.canLay0=true/\bM ds=true:=by simpa[bM]using hl
  simp only[DenAll]at q;obtain⟨v,rs,rfl,h1,h2⟩:=q;cases r with
  |cons r1 r2=>
   obtain⟨as,ra⟩:=Den.reads ok d qL.1 h1 r1;obtain⟨bs,rb⟩:=DenAll.reads ok ds qL.2 h2 r2;exact⟨_,.cons ra rb⟩
end
section
variable {X:Cx}
def tyD:a_->String
 |.int _=>"int"
 |.bool _=>"bool"
 |.list _=>"list"
 |.tuple _=>"tuple"
 |.none=>"NoneType"
 |.str _=>"str"
 |.dict _=>"dict"
def Den.ty{K:ae}{H:Hp}{v:V}:∀{d:a_},Den H v d->TyOf K H v (.type (tyD d))
 |.none,h=>by simp only[Den]at h;subst h;exact .non
 |.bool _,h=>by simp only[Den]at h;subst h;exact .bl _
 |.int _,h=>by simp only[Den]at h;subst h;exact .int _
 |.str _,h=>by simp only[Den]at h;subst h;exact .str _
 |.list _,h=>by simp only[Den]at h;obtain⟨a,xs,rfl,h1,_⟩:=h;exact .lst h1
 |.tuple _,h=>by simp only[Den]at h;obtain⟨a,xs,rfl,h1,_⟩:=h;exact .tup h1
 |.dict _,h=>by simp only[Den]at h;obtain⟨_,a,rfl,h1⟩:=h;exact .dK h1
def Inv.sysBelow(I:Inv X pins σ H s):eB<s.heap.objs.size:=by
 have h:aY<s.heap.objs.size:=(I.mod.glob.keeps I.bk).lt;exact rA (by decide) h
end
def q9(h:H p=pz)(o:HO):Same H (upd H p o):=λb u q=>by rw[g7 (n5 q h)];exact q
def a3E(e:Same H H')(h:H p=pz)(o:HO):Same H (upd H' p o):=λb u q=>by rw[g7 (n5 q h)];exact e b u q
def PTs(X:Cx)(ifs:List Expr)(tt:TT):Prop:=
 ∀(pins:List (au×eW)) (s:aj) (σ:St) (H:Hp) (Q:Bool->Hp->Prop),Inv X pins σ H s->tt σ H Q->
  be (aV X.prog X.w) X.A (forIn ifs true λc r=>if r=true then do let ok <-zP c X.env (cU c X.env);pure (eA ok) else pure (eA r)) (TP X pins σ Q) X.xe s
def b6z:TT:=λ_ H Q=>Q true H
def b0q:PTs X [] b6z:=λ_ _ σ H _ I h=>wpAny_tests_nil ⟨H,I,h⟩
def b0r(h:PT X c tt):PTs X [c] tt:=λpins s σ H Q I q=>wpAny_tests_one (h pins s σ H Q I q)
section
variable {prog:bo}{w:bJ}{A:bH}{R:Result->aj->Prop}{s:aj}
def a1T(I:Nat->aj->Prop)
  (turn:∀n s,I n s->be (aV prog w) A (si it) (λr s₁=>match r with
   |none=>R (.ok .next) s₁
   |some v=>be (aV prog w) A (kz target it v) (λ_ s₂=>be (aV prog w) A (iM target env v) (λ_ s₃=>
     be (aV prog w) A (forIn ifs true λc r=>if r=true then do let ok <-zP c env (cU c env);pure (eA ok) else pure (eA r)) (λok nH=>
     if ok=true then be (aV prog w) A (cU elt env) (λx s₄=>
      be (aV prog w) A (call (.builtin "list.append") [acc,x]) (λ_ s₅=>∃m,m<n/\I m s₅) (λ_ _=>False) s₄) (λ_ _=>False) nH
     else ∃m,m<n/\I m nH)
     (λ_ _=>False) s₃) (λ_ _=>False) s₂) (λ_ _=>False) s₁) (λ_ _=>False) s)
  (n:Nat) (h:I n s) :
  jk (aV prog w) A (.compLoop (.ListComp elt [⟨target,iter,ifs,0⟩] scope pos) 0 it acc env) R s:=by
 refine codeAny_loop rfl I (λn s hI=>?_) n h;show be _ _ ((compTurn (.ListComp elt [⟨target,iter,ifs,0⟩] scope pos) 0 it acc env).onRaise (λx=>do noteFrame x env;theTreesLotGoes x)) _ _ s;refine wpAny_noted ?_;rw[compTurn_list];refine af (mo (af (cM (turn n s hI) (λr s₁ h₁=>?_) λ_ _ h'=>h'.elim)));cases r with
 |none=>exact aE h₁
 |some v=>
  refine af (cM h₁ (λ_ s₂ h₂=>?_) λ_ _ h'=>h'.elim);refine af (cM h₂ (λ_ s₃ h₃=>af (cM h₃ (λok nH mw=>?_) λ_ _ h'=>h'.elim)) λ_ _ h'=>h'.elim);cases ok with
  |false=>
   rw[aS bU]at mw;exact af (aE (aE ⟨rfl,mw⟩))
  |true=>
   rw[aL rfl]at mw;exact af (af (cM mw (λx s₄ h₄=>af (cM h₄ (λ_ s₅ h₅=>aE (aE ⟨rfl,h₅⟩)) λ_ _ h'=>h'.elim)) λ_ _ h'=>h'.elim))
end
def a0Q(wi:TI)(g:TG)(tt:TT)(te:TE)(τ:St->St):TE:=λσ H Q=>wi σ H λJ H1=>∀D,H1 D=pz->∃W:Nat->Nat->List V->St->Hp->Prop,(∃m,W 0 m [] (τ σ) (upd H1 D (.lst [])))/\
 ∀i m ys σ' H',W i m ys σ' H'->(J.stop i H'/\Q (.ref D) H')∨
  (J.go i H'/\∃(N:V->St->Hp->Prop) (NO:St->Hp->Prop),(∀y σ3 H4,N y σ3 H4->H4 D=cz (.lst ys)/\ys.length<bh/\∃m',m'<m/\W (i+1) m' (ys++[y]) σ3 (upd H4 D (.lst (ys++[y]))))/\
   (∀σ3 H4,NO σ3 H4->∃m',m'<m/\W (i+1) m' ys σ3 H4)/\∀x H2,J.yld i H' x H2->g x σ' H2 λσ3 H3=>tt σ3 H3 λb H4=>if b=true then te σ3 H4 λy H5=>N y σ3 H5 else NO σ3 H4)
section
variable {X:Cx}{N:List br}{scope:fw}{cl:List (br×au)}{τ:St->St}{elt tg iter:Expr}{ifs:List Expr}{pos:eH}{wi:TI}{g:TG}{tt:TT}{te:TE}
def a2k(hc:X.calm=true)(hi:PI X tg iter wi)(C:CompIn X N scope cl τ)(hg:∀Cl s H fp,PG (E6 X N scope cl Cl s H fp) tg g)(ht:∀Cl s H fp,PTs (E6 X N scope cl Cl s H fp) ifs tt)(he:∀Cl s H fp,PE (E6 X N scope cl Cl s H fp) elt te)
  (I:Inv X pins σ H s) (h:a0Q wi g tt te τ σ H R) {PP:ag->au->Result->aj->Prop}
  (BA:∀D Cl Hn s' o m,Inv X pins σ Hn s'->R (.ref D) Hn->a1R X pins Hn Cl->s'.heap.get? Cl=cz o->(∀v,o.data≠.cell v)->(∀h':b_,h'.get? Cl=cz o->h'.Ns Cl m)->PP (.ref D) Cl (.ok .next) s') :
  be (aV X.prog X.w) X.A (cU iter X.env) (λx s₁=>be (aV X.prog X.w) X.A (pyIter x) (λit s₂=>be (aV X.prog X.w) X.A (newList []) (λacc s₃=>
   be (aV X.prog X.w) X.A (newFunctionEnv scope X.env.globals cl [] X.env.qual pz .none (cz X.env)) (λui s₄=>
    jk (aV X.prog X.w) X.A (.compStart (.ListComp elt [⟨tg,iter,ifs,0⟩] scope pos) 0 it acc {ui with scope:=kc scope X.env}) (PP acc ui.locals) s₄) X.xe s₃) X.xe s₂) X.xe s₁) X.xe s:=by
 refine thn (hi pins s σ H _ I h) λx s1 h1=>thn h1 λvF s2 h2=>?_
 obtain⟨it,fp,tn,J,H2,rfl,I2,T,iE,f2,q⟩:=h2;refine gz (wpAny_newFunctionEnv C.ncell (by intro y hy;simp at hy) (λh₁ ma kO=>?_) C.kind)
 dsimp only at ma kO ⊢
 generalize wN:s2.heap.push {cls:=.type "list",dict:=pz,data:=.seq ([]:List ag).toArray}=G2 at ma kO ⊢;have hC:G2.objs.size=s2.heap.objs.size+1:=by rw[<-wN,b_.size_push]
 have yG:s2.heap.objs.size≠G2.objs.size:=by rw[hC];exact bP (Cg _)
 have rg:s2.heap.objs.size<=G2.objs.size:=by rw[hC];exact um _
 have below:∀b,b<s2.heap.objs.size->b≠G2.objs.size:=λb hb=>by rw[hC];exact bP (Nat.lt_succ_of_lt hb)
 have old:∀b o,s2.heap.get? b=cz o->h₁.get? b=cz o:=λb o e=>kO.extBut b o (below b (aN e)) (aP _ (wN▸aP _ e))
 have mf:h₁.get? s2.heap.objs.size=cz {cls:=.type "list",dict:=pz,data:=.seq ([]:List ag).toArray}:=kO.extBut _ _ yG (aP _ (wN▸bz _ rfl));have wY:∀b∈fp,b<s2.heap.objs.size:=λb hb=>by
  obtain⟨o,e,_⟩:=T.obj 0 _ iE b hb;exact aN e
 have yF:H2 s2.heap.objs.size=pz:=I2.hok.fresh (aG _);have BF:H2 G2.objs.size=pz:=I2.hok.fresh rg;generalize uV:G2.objs.size=Cl at *;have zt:∀b∈frs X.stack,b<s2.heap.objs.size:=λb hb=>by
  rcases aF.mp (I2.stkSub b hb) with e|hb
  ·rw[e];exact I2.lt
  ·obtain⟨_,o,ho,_⟩:=I2.funs.mem hb;exact aN ho
 have vq:(E6 X N scope cl Cl s2 H2 fp).Ok:=by
  refine⟨I2.ok.mod,C.kind,I2.ok.glob,I2.ok.blt,rg,λx y c e1 e2=>I2.ok.inj x y c (C.sub x c e1) (C.sub y c e2),λx hx=>?_,λx c hx _=>(nomatch hx),λz=>I2.ok.hd z,I2.ok.frames,.inl rfl,λb hb=>⟨below b (wY b hb),λx c e=>(f2 b hb).2.2.2.2.1 x c (C.sub x c e)⟩,
   I2.bs,bZ I2.ok.bsz I2.sz,λb o e hb=>?_,λb hb z=>?_,I2.stack,I2.stkFree,I2.tabs⟩
  ·obtain⟨y,hy,rfl,ey⟩:=W3 C.ncell hx;exact C.has y hy ey
  ·rcases (f2 b hb).2.2.2.1 with z|z
   ·exact I2.ok.noex b o e z
   ·exact absurd (aZ (aN e) (bZ I2.ok.bsz z)) (dN _)
  ·rcases aF.mp (I2.stkSub b z) with e|e
   ·exact (f2 b hb).2.1 e
   ·exact (f2 b hb).2.2.1 e
 have I4:Inv (E6 X N scope cl Cl s2 H2 fp) pins (τ σ) (upd H2 s2.heap.objs.size (.lst [])) {s2 with heap:=h₁,toks:=s2.toks+([]:List (br×ag)).length}:=by
  have lc:=I2.loc;obtain⟨m,hn,hl⟩:=lc;refine⟨vq,rfl,I2.bare,Un.laid old (aG _) yF,⟨_,ma,λi x v e1 e2 e3=>?_⟩,λx c e=>?_,?_,λx c e=>?_,λp hp=>?_,I2.hok.laid old (aG _) ⟨cW _,[],_,.nil,mf⟩,C.tlen σ⟩
  ·obtain⟨j,j1,j2,j3,j4⟩:=C.tval σ i x v e1 e2;have kx:(kc scope X.env).names.lookup x=cz .cell∨(kc scope X.env).names.lookup x=cz .free:=a2X j3;obtain⟨y,hy,BM,ey⟩:=W3 C.ncell kx;obtain⟨c,ox⟩:=C.has y hy ey;rw[BM]at ox;have wF:=C.sub x c ox;have hv:Vis X.env.scope x:=.inr j4;obtain⟨u,ru,lk⟩:=hl j x v j1 j2 hv;refine⟨u,ru,?_⟩;rcases lk with⟨k,_⟩|⟨k,c',e',z⟩
   ·rcases j4 with j4|j4
    ·rw[j4]at k;cases k
    ·rw[j4]at k;cases k
   ·rw[wF]at e';cases e'
    obtain⟨o,ho,hd⟩:=z;exact .inr ⟨kx,c,ox,⟨o,old c o ho,hd⟩⟩
  ·obtain⟨v,o,ho,hd⟩:=I2.cell x c (C.sub x c e);exact⟨v,o,old c o ho,hd⟩
  ·show upd H2 s2.heap.objs.size (.lst []) Cl=pz;rw[g7 (fx yG)];exact BF
  ·have n:=I2.freeC x c (C.sub x c e);obtain⟨v,o,ho,hd⟩:=I2.cell x c (C.sub x c e);rw[g7 (bP (aN ho))];exact n
  ·obtain⟨e,n,ne,nf,d⟩:=I2.pin p hp;refine⟨old _ _ e,by rw[g7 (bP (aN e))];exact n,below _ (aN e),λz=>?_,d⟩;rcases aF.mp (I2.stkSub p.1 z) with e'|e'
   ·exact ne e'
   ·exact nf e'
 have lY:∀{H':Hp},(∀b∈fp,H' b=pz)->∀b∈fp,a1R (E6 X N scope cl Cl s2 H2 fp) pins H' b:=λhn b hb=>
  ⟨hn b hb,below b (wY b hb),vq.exfs b hb,.inl hb,(vq.exf b hb).2,(f2 b hb).2.2.2.2.2⟩
 obtain⟨W,⟨m0,w0⟩,turn⟩:=q s2.heap.objs.size yF;have loop:∀s₃:aj,s₃={s2 with heap:=h₁,toks:=s2.toks+([]:List (br×ag)).length}->
   jk (aV X.prog X.w) X.A (.compLoop (.ListComp elt [⟨tg,iter,ifs,0⟩] scope pos) 0 (.ref it) (.ref s2.heap.objs.size) (compEnvC scope cl Cl X.env)) (PP (.ref s2.heap.objs.size) Cl) s₃:=by
  rintro s₃ rfl;refine a1T (λn s'=>∃i ys σ' H',Inv (E6 X N scope cl Cl s2 H2 fp) pins σ' H' s'/\tn i s'.heap/\(∀b∈fp,H' b=pz)/\W i n ys σ' H') ?_ m0
   ⟨0,[],τ σ,_,I4,T.keep _ _ _ iE λb hb o e=>old b o e,λb hb=>by rw[g7 (bP (wY b hb))];exact (f2 b hb).1,w0⟩
  rintro n s3 ⟨i,ys,σ3,H3,I3,gP,ug,w3⟩;rcases turn i n ys σ3 H3 w3 with⟨stop,qn⟩|⟨go,NN,NO,hN,hO,step⟩
  ·refine thn (T.done (E6 X N scope cl Cl s2 H2 fp) rfl rfl rfl hc i pins s3 σ3 H3 _ I3 (lY ug) gP stop) λr s4 ⟨hr,I5⟩=>?_
   subst hr;have lc:=I5.loc;obtain⟨m,hn,_⟩:=lc;obtain⟨o,es,ep,ho,hd,jF⟩:=hn;have J5:Inv X pins σ H3 s4:=I2.call' (ch:=fp) I5.os I5.base I5.hok I5.bare λb hb=>⟨(f2 b hb).2.2.2.1,(f2 b hb).2.1,(f2 b hb).2.2.2.2.1,(f2 b hb).2.2.2.2.2⟩
   refine BA _ Cl H3 s4 o m J5 qn (I2.fpOk rg I5.free) ho (λv z=>by rw[hd]at z;cases z) λh' e=>⟨o,es,ep,e,hd,jF⟩
  ·refine thn (T.item (E6 X N scope cl Cl s2 H2 fp) rfl rfl rfl hc i pins s3 σ3 H3 _ I3 (lY ug) gP go) λr s4 ⟨u,hr,h4⟩=>?_
   subst hr;refine thn h4 λ_ s5 ⟨x,H5,I5,r5,y5,nI,wW⟩=>?_
   have xw:=I5.pinned (lY wW) (T.obj _ _ nI);refine thn (hg Cl s2 H2 fp _ s5 σ3 H5 x u _ xw r5 (step x H5 y5)) λ_ s6 ⟨σ6,H6,I6,q6⟩=>?_
   refine thn (ht Cl s2 H2 fp _ s6 σ6 H6 _ I6 q6) λok zw ⟨Cn,ve,uw⟩=>?_
   cases ok with
   |false=>
    rw[aS bU]at uw ⊢;obtain⟨m',hm,w7⟩:=hO _ _ uw;refine⟨m',hm,i+1,ys,σ6,_,ve.unpinned,T.keep _ _ _ nI λb hb o e=>(ve.pin (b,o) (aq _ (aq _ (A5 hb e)))).1,λb hb=>?_,w7⟩;obtain⟨o,e,d⟩:=T.obj _ _ nI b hb;exact (ve.pin (b,o) (aq _ (aq _ (A5 hb e)))).2.1
   |true=>
    rw[aL rfl]at uw ⊢;refine thn (he Cl s2 H2 fp _ zw σ6 Cn _ ve uw) λyv s7 ⟨y,H7,I7,r7,q7⟩=>?_
    obtain⟨zC,zB,m',hm,w7⟩:=hN _ _ _ q7;refine thn (a2j (X:=E6 X N scope cl Cl s2 H2 fp) _ s7 σ6 H7 (.ref s2.heap.objs.size) [y] (.ref s2.heap.objs.size) [yv] (λ_ H8=>H8=upd H7 s2.heap.objs.size (.lst (ys++[y]))) I7 rfl (.cons r7 .nil)
     ⟨_,ys,y,rfl,rfl,zC,zB,rfl⟩) λ_ s8 ⟨_,H8,I8,_,e8⟩=>?_
    subst e8;refine⟨m',hm,i+1,ys++[y],σ6,_,I8.unpinned,T.keep _ _ _ nI λb hb o e=>(I8.pin (b,o) (aq _ (aq _ (A5 hb e)))).1,λb hb=>?_,w7⟩;obtain⟨o,e,d⟩:=T.obj _ _ nI b hb;exact (I8.pin (b,o) (aq _ (aq _ (A5 hb e)))).2.1
 have iU:tn 0 h₁:=T.keep _ _ _ iE λb hb o e=>old b o e
 exact codeAny_compStart_list (loop _ rfl) (T.self X.A 0 {s2 with heap:=h₁,toks:=s2.toks+([]:List (br×ag)).length} _ _ iU (loop _ rfl))
end
def v7(env:kZ):List (br×gD)->List (br×au)->List (br×au)
 |[],cs=>cs
 | (n,k)::r,cs=>v7 env r (if k==.free then (n,(env.cells.lookup n).getD 0)::cs else cs)
theorem P9{env:kZ}:∀(names:List (br×gD)) (cs:List (br×au)),(∀y∈names,y.2=.free->∃c,env.cells.lookup y.1=cz c)->
  (forIn names cs λ(x:br×gD) (cs:List (br×au))=>(if x.2==.free then do let a <-cellOf env x.1;pure (eA ((x.1,a)::cs)) else pure (eA cs):xo (ForInStep (List (br×au)))))=pure (v7 env names cs)
 |[],cs,_=>by rw[om];rfl
 | (n,k)::r,cs,h=>by
  rw[nu]
  dsimp only
  by_cases hk:(k==ek)=true
  ·obtain⟨c,hc⟩:=h (n,k) aD (by simpa using hk);rw[aL hk];have e:cellOf env n=pure c:=by unfold cellOf;rw[hc]
   rw[e];have:=P9 r ((n,c)::cs) λy hy=>h y (av _ hy)
   have e2:v7 env ((n,k)::r) cs=v7 env r ((n,c)::cs):=by
    show v7 env r (if k==.free then (n,(env.cells.lookup n).getD 0)::cs else cs)=_;rw[aL hk,hc];rfl
   rw[e2,<-this];simp only[pure_bind]
  ·rw[aS hk];have:=P9 r cs λy hy=>h y (av _ hy)
   have e2:v7 env ((n,k)::r) cs=v7 env r cs:=by
    show v7 env r (if k==.free then (n,(env.cells.lookup n).getD 0)::cs else cs)=_;rw[aS hk]
   rw[e2,<-this];simp only[pure_bind]
def a4T{scope:fw}{env:kZ}(h:∀y∈scope.names,y.2=.free->∃c,env.cells.lookup y.1=cz c):nh scope env=pure (v7 env scope.names []):=by
 have:=P9 scope.names [] h;rw[<-this];unfold nh;simp
theorem U4{env:kZ}:∀(names:List (br×gD)) (cs:List (br×au)),(∀y∈names,y.2=.free->∃c,env.cells.lookup y.1=cz c)->(∀p∈cs,env.cells.lookup p.1=cz p.2)->
  (∀p∈v7 env names cs,env.cells.lookup p.1=cz p.2)/\(∀p∈cs,p∈v7 env names cs)/\∀y∈names,y.2=.free->∃c,(y.1,c)∈v7 env names cs
 |[],cs,_,hc=>⟨hc,λ_ h=>h,λy hy=>(nomatch hy)⟩
 | (n,k)::r,cs,h,hc=>by
  by_cases hk:(k==ek)=true
  ·obtain⟨c,e⟩:=h (n,k) aD (by simpa using hk);have e2:v7 env ((n,k)::r) cs=v7 env r ((n,c)::cs):=by
    show v7 env r (if k==.free then (n,(env.cells.lookup n).getD 0)::cs else cs)=_;rw[aL hk,e];rfl
   rw[e2];obtain⟨a,b,d⟩:=U4 r ((n,c)::cs) (λy hy=>h y (av _ hy)) λp hp=>by
    rcases aF.mp hp with z|z
    ·rw[z];exact e
    ·exact hc p z
   refine⟨a,λp hp=>b p (av _ hp),λy hy hf=>?_⟩;rcases aF.mp hy with z|z
   ·rw[z];exact⟨c,b _ aD⟩
   ·exact d y z hf
  ·have e2:v7 env ((n,k)::r) cs=v7 env r cs:=by
    show v7 env r (if k==.free then (n,(env.cells.lookup n).getD 0)::cs else cs)=_;rw[aS hk]
   rw[e2];obtain⟨a,b,d⟩:=U4 r cs (λy hy=>h y (av _ hy)) hc;refine⟨a,b,λy hy hf=>?_⟩;rcases aF.mp hy with z|z
   ·rw[z]at hf;exact absurd (by simpa using hf) hk
   ·exact d y z hf
theorem T8:∀{l:List (br×au)},(x,c)∈l->∃c',l.lookup x=cz c'
 |[],h=>nomatch h
 | (y,d)::l,h=>by
  rw[eN];cases e:x==y with
  |true=>exact⟨d,rfl⟩
  |false=>
   rcases aF.mp h with z|z
   ·cases z;simp at e
   ·exact T8 z
def O1(scope:fw)(okind:br->Option gD)(ys:List br)(js:List Nat)(XN:List br):Bool:=
 scope.kind==.function&&scope.names.all (λy=>y.2 !=.cell&&(y.2 !=.local||scope.names.lookup y.1==cz .local)&&(y.2 !=.free||(okind y.1==cz .cell||okind y.1==cz .free))) &&
 ys.length==js.length&&(ys.zip js).all λp=>XN[p.2]?==cz p.1&&scope.names.lookup p.1==cz .free&&(okind p.1==cz .cell||okind p.1==cz .free)
def U5(tn:List br)(js:List Nat):St->St:=λσ=>aB tn.length pz++js.map λj=>(σ[j]?).getD pz
def a2l{X:Cx}{scope:fw}(ok:X.Ok)(h:O1 scope X.env.kindOf ys js X.N=true):CompIn X (tn++ys) scope (v7 X.env scope.names []) (U5 tn js):=by
 unfold O1 at h;rw[aC,aC,aC,cZ,cZ]at h;obtain⟨⟨⟨hk,ha⟩,hl⟩,hz⟩:=h;have mJ:∀y∈scope.names,y.2≠.cell:=λy hy e=>by
  have:=ha y hy;rw[e]at this;simp at this
 have wc:∀y∈scope.names,y.2=.local->scope.names.lookup y.1=cz .local:=λy hy e=>by
  have:=ha y hy;rw[e]at this;simpa using this
 have ji:∀y∈scope.names,y.2=.free->∃c,X.env.cells.lookup y.1=cz c:=λy hy e=>by
  have:=ha y hy;rw[e]at this;refine ok.has y.1 ?_;simpa using this
 obtain⟨a,_,d⟩:=U4 scope.names [] ji λp hp=>(nomatch hp)
 refine⟨a4T ji,by simpa using hk,mJ,wc,λx c e=>a _ (bV e),λy hy e=>?_,λσ=>?_,λσ i x v h1 h2=>?_⟩
 ·obtain⟨c,hc⟩:=d y hy e;exact T8 hc
 ·have:ys.length=js.length:=by simpa using hl
  unfold U5;simp[this]
 ·unfold U5 at h2;by_cases hi:i<tn.length
  ·rw[bK (by simpa using hi),pU]at h2
   split at h2<;>cases h2
  ·rw[bI (by simpa using hi),d_,bE]at h2;rw[bI (by lia)]at h1;cases hj:js[i-tn.length]? with
   |none=>rw[hj]at h2;cases h2
   |some j=>
    rw[hj]at h2;have h3:(σ[j]?).getD pz=cz v:=by simpa using h2
    have jI:(x,j)∈ys.zip js:=by
     have hlen:=(aT.mp h1).1;have yj:=(aT.mp hj).1;rw[cO];refine⟨i-tn.length,?_⟩;rw[oE];exact⟨h1,hj⟩
    have:=hz _ jI;rw[aC,aC,nv]at this;obtain⟨⟨e1,e2⟩,e3⟩:=this;refine⟨j,by simpa using e1,?_,by simpa using e2,by simpa using e3⟩;cases q:σ[j]? with
    |none=>rw[q]at h3;cases h3
    |some o=>rw[q]at h3;have:o=cz v:=h3;rw[this]
section
variable {X:Cx}{tn ys:List br}{js:List Nat}{scope:fw}{elt tg iter:Expr}{ifs:List Expr}{pos:eH}{wi:TI}{g:TG}{tt:TT}{te:TE}
def a3F(hc:X.calm=true)(hi:PI X tg iter wi)(C:O1 scope X.env.kindOf ys js X.N=true)(hg:∀cl Cl s H fp,PG (E6 X (tn++ys) scope cl Cl s H fp) tg g)(ht:∀cl Cl s H fp,PTs (E6 X (tn++ys) scope cl Cl s H fp) ifs tt)(he:∀cl Cl s H fp,PE (E6 X (tn++ys) scope cl Cl s H fp) elt te)
  (hs:∀x,dM iter X.env x=pure x:=by intro _;rfl):PE X (.ListComp elt [⟨tg,iter,ifs,0⟩] scope pos) (a0Q wi g tt te (U5 tn js)):=by
 intro pins s σ H Q I h;have C:=a2l (tn:=tn) I.ok C;rw[eval_ListComp];refine vh (use:=pz) rfl hs C.clos C.kind C.names (a2k hc hi C (hg _) (ht _) (he _) I h (PP:=λacc Cl=>compPost (aV X.prog X.w) X.A X.xe pz (EP X pins σ Q) acc Cl) ?_);intro D Cl Hn s' o m I' hq F ho hd mD;refine⟨m,mD _ ho,λh' gG=>⟨.ref D,Hn,?_,rfl,hq⟩⟩;exact I'.turned (t':=s'.toks) (λb ob hb e=>(gG.2 b hb).trans e) F.1 F.2.1 F.2.2.2.1 F.2.2.2.2.1 F.2.2.2.2.2
def a3G{py pY:eH}(hc:X.calm=true)(hN:X.N.Nodup)(hy:X.N[i]?=cz y)(hx:Loc X.env.scope y)(hi:PI X tg iter wi)(C:O1 scope X.env.kindOf ys js X.N=true)
  (hg:∀cl Cl s H fp,PG (E6 X (tn++ys) scope cl Cl s H fp) tg g) (ht:∀cl Cl s H fp,PTs (E6 X (tn++ys) scope cl Cl s H fp) ifs tt) (he:∀cl Cl s H fp,PE (E6 X (tn++ys) scope cl Cl s H fp) elt te)
  (sN:gn (.ListComp elt [⟨tg,iter,ifs,0⟩] scope pos) (cz (.Name y py)) pY.line X.env=pure true:=by rfl) (hs:∀x,dM iter X.env x=pure x:=by intro _;rfl)
  (hf:X.fn y=true∨X.env.scope.names.lookup y=cz .local:=by first|exact .inl rfl|exact .inr rfl|assumption) :
  PS X (.Assign [.Name y py] (.ListComp elt [⟨tg,iter,ifs,0⟩] scope pos) pY) (b2p (a0Q wi g tt te (U5 tn js)) (M7 i)):=by
 intro pins s σ H D I h;have C:=a2l (tn:=tn) I.ok C;rw[exec_Assign_Name_used _ _ _ _ sN];refine af (mo (af ?_));show be _ X.A (do let _ <-comprehension (.ListComp elt [⟨tg,iter,ifs,0⟩] scope pos) scope X.env _ (newList []) false (cU iter X.env) (cz (iM (.Name y py) X.env))) _ _ s;refine af (cM (vh (use:=cz (iM (.Name y py) X.env)) (Q:=λ_ s'=>SP X pins D .next s') rfl hs C.clos C.kind C.names
  (a2k hc hi C (hg _) (ht _) (he _) I h (PP:=λacc Cl=>compPost (aV X.prog X.w) X.A X.xe (cz (iM (.Name y py) X.env)) (λ_ s'=>SP X pins D .next s') acc Cl) ?_)) (λ_ s' hq=>aE (aE hq)) λ_ _ e=>e)
 intro Dl Cl Hn s' o m I' hq F ho hd mD;have I1:=I'.pinned (fp:=[Cl]) (λb hb=>by rw[ay.mp hb];exact F) (λb hb=>by rw[ay.mp hb];exact⟨o,ho,hd⟩);show be _ X.A (iM (.Name y py) X.env (.ref Dl)) _ _ _;refine wpAny_assign_Name (V9 I1 hN hy hx (v:=.ref Dl) rfl (λs2 I2=>?_) hf);have e2:=(I2.pin (Cl,o) (aq _ (aq _ (A5 (ay.mpr rfl) ho)))).1;refine⟨m,mD _ e2,λh' gG=>⟨σ.set i (cz (.ref Dl)),Hn,?_,hq⟩⟩;exact I2.unpinned.turned (t':=s2.toks) (λb ob hb e=>(gG.2 b hb).trans e) F.1 F.2.1 F.2.2.2.1 F.2.2.2.2.1 F.2.2.2.2.2
end
end L2
namespace VS
open PySem PySem.Spec L2
abbrev D:=a_
mutual
def B9:D->Bool
 |.int _=>true
 |.tuple ds=>p9 ds
 |.none|.bool _|.str _|.list _|.dict _=>false
def p9:List D->Bool
 |[]=>true
 |d::ds=>B9 d&&p9 ds
end
mutual
def hashD:D->Int
 |.int i=>hashInt i
 |.tuple ds=>reduceHash (dt (x8 ds))
 |.none|.bool _|.str _|.list _|.dict _=>0
def x8:List D->List Int
 |[]=>[]
 |d::ds=>hashD d::x8 ds
end
mutual
def A0:D->Nat
 |.int _=>1
 |.tuple ds=>M8 ds+1
 |.none|.bool _|.str _|.list _|.dict _=>0
def M8:List D->Nat
 |[]=>0
 |d::ds=>A0 d+M8 ds
end
mutual
theorem Q0:∀d:D,B9 d=true->d.canLay0=true
 |.int _,_=>by simp only[cH]
 |.tuple ds,h=>by
  simp only[B9]at h;simp only[cH];exact a0e ds h
 |.none,h|.bool _,h|.str _,h|.list _,h|.dict _,h=>by simp only[B9]at h;cases h
theorem a0e:∀ds:List D,p9 ds=true->bM ds=true
 |[],_=>by simp only[bM]
 |d::ds,h=>by
  simp only[p9,aC]at h;simp only[bM,aC];exact⟨Q0 d h.1,a0e ds h.2⟩
end
mutual
theorem Q1:∀a b:D,B9 a=true->B9 b=true->(aM a b=true↔a=b)
 |.int i,b,_,hb=>by
  cases b with
  |int j=>
   show (i==j)=true↔_;rw[iY];exact⟨λe=>by rw[e],λe=>by injection e⟩
  |tuple ds=>simp[aM]
  |_=>simp only[B9]at hb;cases hb
 |.tuple xs,b,ha,hb=>by
  cases b with
  |int j=>simp[aM]
  |tuple ys=>
   simp only[B9]at ha hb;simp only[aM];rw[a0f xs ys ha hb];exact⟨λe=>by rw[e],λe=>by injection e⟩
  |_=>simp only[B9]at hb;cases hb
 |.none,b,h,_|.bool _,b,h,_|.str _,b,h,_|.list _,b,h,_|.dict _,b,h,_=>by simp only[B9]at h;cases h
theorem a0f:∀a b:List D,p9 a=true->p9 b=true->(cL a b=true↔a=b)
 |[],[],_,_=>by simp[cL]
 |[],_::_,_,_=>by simp[cL]
 |_::_,[],_,_=>by simp[cL]
 |x::xs,y::ys,ha,hb=>by
  simp only[p9,aC]at ha hb;simp only[cL,aC];rw[Q1 x y ha.1 hb.1,a0f xs ys ha.2 hb.2]
  constructor
  ·rintro⟨rfl,rfl⟩;rfl
  ·intro e;injection e with e1 e2;exact⟨e1,e2⟩
end
mutual
theorem a0R{h h':b_}{es ep}(ho:h.get? d=cz o)(hd:o.data=.dict es ep)(hs:iB d h h'):∀(k:D) {v:ag} {as:List au},B9 k=true->Reads h v k as->Reads h' v k as
 |.int _,_,_,_,r=>by cases r;exact .int _ _
 |.tuple ds,_,_,hk,r=>by
  simp only[B9]at hk;cases r with
  |@tuple a oo vs n _ as c1 c2 c3 c4=>
   have gU:a≠d:=by
    rintro rfl;obtain rfl:oo=o:=aK (c1.symm.trans ho);rw[hd]at c3;exact nomatch c3
   exact .tuple ((hs.2 a gU).trans c1) c2 c3 (T9 ho hd hs ds hk c4)
 |.none,_,_,h,_|.bool _,_,_,h,_|.str _,_,_,h,_|.list _,_,_,h,_|.dict _,_,_,h,_=>by simp only[B9]at h;cases h
theorem T9{h h':b_}{es ep}(ho:h.get? d=cz o)(hd:o.data=.dict es ep)(hs:iB d h h'):∀(ks:List D) {vs:List ag} {as:List au},p9 ks=true->jN h vs ks as->jN h' vs ks as
 |[],_,_,_,r=>by cases r;exact .nil
 |k::ks,_,_,hk,r=>by
  simp only[p9,aC]at hk;cases r with
  |cons r1 r2=>exact .cons (a0R ho hd hs k hk.1 r1) (T9 ho hd hs ks hk.2 r2)
end
section
variable {prog:bo}{w:bJ}{E:ag->aj->Prop}
mutual
theorem a0S:∀(k:D) {A:bH} {s:aj} {v:ag} {as:List au} {Q:Int->aj->Prop},B9 k=true->A.units+k.depth<eh->Reads s.heap v k as->Q (hashD k) {s with toks:=s.toks+A0 k}->be (aV prog w) A (pyHash v) Q E s
 |.int i,A,s,v,as,Q,_,_,r,h=>by
  cases r
  simp only[hashD,A0]at h;exact wpAny_pyHash_int h
 |.tuple ds,A,s,v,as,Q,hk,hu,r,h=>by
  simp only[B9]at hk;simp only[ef]at hu;simp only[hashD,A0]at h;cases r with
  |@tuple a o items n _ as ho hc hd hi=>
   have hT:s.TypeIs (.ref a) "tuple":=⟨o,ho,hc⟩;unfold pyHash
   first|unfold pyHashByItsType|skip
   first|refine af (wpAny_cRoomFor_or (.inr (by lia)) ?_)|skip
   refine af (ij hT jo.lookup ?_);show be _ _ (if (cz (ag.builtin "tuple.__hash__")==cz ba)=true then _ else _) Q E s;rw[aS (by rw[beq_builtin_none];exact bU)];refine af (ij hT jo.lookup ?_);show be _ _ (callSpecialIfBoundUnlessNone? (.ref a) "__hash__" _ >>= _) Q E s;refine af (wpAny_callSpecialIfBoundUnlessNone?_slot hT jo (et jo hT F.entry_tuple_hash ?_ (F.args_tuple_hash_1 _)));show be _ _ (Builtin.Tuple.tupleItemsOf (.ref a) >>= _) _ _ s;refine af (wpAny_tupleItemsOf ho hd ?_);refine af ?_;rw[<-xA];refine a2m ds (A:=A.in1) (acc:=#[]) hk (by show A.units+1+_<_;lia) hi ?_;show be _ _ (retInt (dt _)) _ _ _;simp only[ku,cx];refine wpAny_ret_mkInt ?_;show be _ _ (if (decide (-(2:Int)^63<=dt (x8 ds))&&decide (dt (x8 ds)<2^63))=true then _ else _) Q E _;unfold reduceHash at h;by_cases hr:(decide (-(2:Int)^63<=dt (x8 ds))&&decide (dt (x8 ds)<2^63))=true
   ·rw[aL hr];rw[aL hr]at h;exact aE (by simpa[iA]using h)
   ·rw[aS hr];rw[aS hr]at h;exact af (sf (aE (by simpa[iA]using h)))
 |.none,_,_,_,_,_,h,_,_,_|.bool _,_,_,_,_,_,h,_,_,_|.str _,_,_,_,_,_,h,_,_,_|.list _,_,_,_,_,_,h,_,_,_|.dict _,_,_,_,_,_,h,_,_,_=>by simp only[B9]at h;cases h
theorem a2m:∀(ks:List D) {A:bH} {s:aj} {vs:List ag} {as:List au} {acc:Array Int} {Q:Array Int->aj->Prop},p9 ks=true->A.units+cP ks<eh->jN s.heap vs ks as->Q (acc++(x8 ks).toArray) {s with toks:=s.toks+M8 ks}->
  be (aV prog w) A (forIn vs acc λx r=>do let r1 <-pyHash x;pure PUnit.unit;pure (eA (r.push r1))) Q E s
 |[],A,s,vs,as,acc,Q,_,_,r,h=>by
  cases r
  rw[om];exact aE (by simpa[x8,M8]using h)
 |k::ks,A,s,vs,as,acc,Q,hk,hu,r,h=>by
  simp only[p9,aC]at hk;simp only[cP]at hu;cases r with
  |cons r1 r2=>
   rw[nu];refine af (af (a0S k hk.1 (by lia) r1 ?_));refine af (aE (aE ?_));refine a2m ks (s:={s with toks:=s.toks+A0 k}) hk.2 (by lia) r2 ?_;simp only[x8,M8]at h;have e:(acc.push (hashD k))++(x8 ks).toArray=acc++(hashD k::x8 ks).toArray:=by simp
   rw[e];simpa[iA]using h
end
end
section
variable {prog:bo}{w:bJ}{A:bH}{E:ag->aj->Prop}
mutual
theorem a2n:∀(k:D) (n:Nat) {s:aj} {v:ag} {as:List au} {Q:Bool->aj->Prop},B9 k=true->k.depth<=n->Reads s.heap v k as->Q true s->be (aV prog w) A (eqIsQuiet n v) Q E s
 |.int i,n,s,v,as,Q,_,_,r,h=>by
  cases r
  rw[eqIsQuiet_byValue n (v:=.int i _) rfl];exact aE h
 |.tuple ds,0,s,v,as,Q,_,hn,_,_=>by simp only[ef]at hn;lia
 |.tuple ds,n+1,s,v,as,Q,hk,hn,r,h=>by
  simp only[B9]at hk;simp only[ef]at hn;cases r with
  |@tuple a o items m _ as ho hc hd hi=>
   have hT:s.TypeIs (.ref a) "tuple":=⟨o,ho,hc⟩;unfold eqIsQuiet;refine af (ij hT F.slot_tuple_eq.lookup ?_);show be _ _ (isInstance (.ref a) (.type "tuple") >>= _) _ _ s;refine af (wpAny_isInstance hT isSubtype_tuple_tuple ?_);simp only[e_,bR,dq];refine af (wpAny_seqItems ho hd ?_);refine af ?_;show be _ _ (forIn items _ _) _ _ s;rw[<-xA];refine wpAny_forIn_list _ (λrest r s'=>r.1=pz/\s'=s/\∃ks bs,p9 ks=true/\cP ks<=n/\(∀k∈ks,k∈ds)/\jN s.heap rest ks bs) _ ?_ ?_ _ _ ⟨rfl,rfl,ds,as,hk,by lia,λk hk=>hk,hi⟩
   ·rintro v rest r s' ⟨hr,rfl,ks,bs,k1,k2,k3,k4⟩;cases k4 with
    |@cons _ _ d' iF _ _ r1 r2=>
     simp only[p9,aC]at k1;simp only[cP]at k2;refine af (a2o ds n hk (by lia) d' (k3 d' aD) r1 ?_);simp only[e_,bR,dq];exact aE ⟨rfl,rfl,_,_,k1.2,by lia,λk hk=>k3 k (av _ hk),r2⟩
   ·rintro⟨r1,r2⟩ s' ⟨hr,rfl,_⟩;simp only at hr;subst hr;exact aE h
 |.none,_,_,_,_,_,h,_,_,_|.bool _,_,_,_,_,_,h,_,_,_|.str _,_,_,_,_,_,h,_,_,_|.list _,_,_,_,_,_,h,_,_,_|.dict _,_,_,_,_,_,h,_,_,_=>by simp only[B9]at h;cases h
theorem a2o:∀(ds:List D) (n:Nat),p9 ds=true->cP ds<=n->∀k∈ds,∀{s:aj} {v:ag} {as:List au} {Q:Bool->aj->Prop},Reads s.heap v k as->Q true s->be (aV prog w) A (eqIsQuiet n v) Q E s
 |[],n,_,_,k,hk,s,v,as,Q,r,h=>nomatch hk
 |d::ds,n,mH,hn,k,hk,s,v,as,Q,r,h=>by
  simp only[p9,aC]at mH;simp only[cP]at hn;rcases aF.mp hk with e|hk
  ·rw[e]at r;exact a2n d n mH.1 (by lia) r h
  ·exact a2o ds n mH.2 (by lia) k hk r h
end
end
noncomputable def a6R:DecidableEq D:=λa b=>Classical.propDecidable (a=b)
noncomputable def a8g(prog:bo)(w:bJ):@HeapKind prog w D a6R:=
 letI:DecidableEq D:=a6R
 {
  is:=λh k a=>B9 k=true/\k.depth<=7/\∃as,Reads h (.ref a) k as
  hash:=hashD
  draws:=A0
  room:=λA=>A.units+8<eh
  inj:=λ⟨hx,_,_,r⟩ ⟨_,_,_,r'⟩=>SeqAt.Reads.unique _ _ _ _ _ (Q0 _ hx) r r'
  keeps:=λ⟨hx,hd,_,r⟩ ho gR hs=>⟨hx,hd,_,a0R ho gR hs _ hx r⟩
  pyHash:=λhu ⟨hx,hd,_,r⟩ h=>a0S _ hx (by lia) r h
  eqBool:=λ{A E s x y a b Q} hu ⟨hx,hd,_,r⟩ ⟨hy,gR,_,r'⟩ h=>by
   refine SeqAt.eqAt_reads x y A s _ _ _ _ r r' (Q0 _ hx) (Q0 _ hy) (by have:=nk x.depth y.depth;lia) _ _ _ _ ?_;have e:aM x y=@decide (x=y) (a6R x y):=by
    by_cases c:x=y
    ·rw[@aU _ (a6R x y) c];exact (Q1 x y hx hy).mpr c
    ·rw[@bt _ (a6R x y) c];cases q:aM x y with
     |false=>rfl
     |true=>exact absurd ((Q1 x y hx hy).mp q) c
   rw[e];exact h
  quiet:=λ⟨hx,hd,_,r⟩ h=>a2n _ 8 hx (by lia) r h
 }
def Q2(e:D×V×V)(x:fX):Prop:=x.hash=hashD e.1/\RelV e.2.1 x.key/\RelV e.2.2 x.val
def H9:List D->Bool
 |.tuple [.int 0]::_=>true
 |_=>false
abbrev E7(es:List (D×V×V)):Bool:=H9 (es.map (·.1))
def j0(a:au)(es:List (D×V×V)):HO:=.ext λh=>(a==eB)=false/\es.length<=bh/\(es.map (·.1)).Nodup/\∃o ents ep,h.get? a=cz o/\o.ExactDict/\o.data=.dict ents ep/\fI Q2 es ents.toList/\(E7 es=false->ep=es.length)
def Mu:HO->Prop
 |.lst _=>True
 |.dK _=>True
 |.ext _=>True
 |_=>False
abbrev MuO:={o:HO // Mu o}
def keyOk(kt:Bool)(k:D):Prop:=B9 k=true/\k.depth<=7/\(kt=true->∃ds,k=.tuple ds)/\(kt=false->∃i,k=.int i)
end VS
namespace VS
open PySem L2
mutual
def imm:a_->Bool
 |.none=>true
 |.bool _=>true
 |.int _=>true
 |.str _=>true
 |.list _=>false
 |.tuple ds=>f8 ds
 |.dict _=>false
def f8:List a_->Bool
 |[]=>true
 |d::ds=>imm d&&f8 ds
end
def SqX(K:ae)(H:Hp)(a:au)(xs:List V):Prop:=
 Rd H a (.lst xs)∨∃(cN:List ag) (n:Nat),K.lookup a=cz {cls:=.type "list",data:=.seq cN.toArray n}/\cN.length<=bh/\Vals xs cN
def SqX.l(h:SqX K H a xs):SqL K H a xs:=by
 rcases h with h|⟨cN,n,h1,h2,h3⟩
 ·exact .inl h
 ·exact .inr ⟨_,cN.toArray,n,h1,rfl,rfl,rfl,by simpa using h2,by simpa using h3⟩
theorem SqX.ok{X:Cx}(h:SqX X.K H a xs)(I:Inv X pins σ H s):xs.length<=bh/\∃(cN:List ag) (n:Nat),Vals xs cN/\s.heap.get? a=cz {cls:=.type "list",data:=.seq cN.toArray n}:=by
 rcases h with h|⟨cN,n,h1,h2,h3⟩
 ·exact h.ok I.hok
 ·exact⟨by rw[h3.length];exact h2,cN,n,h3,I.kIn _ _ h1⟩
mutual
theorem Q3:∀d:a_,B9 d=true->imm d=true
 |.int _,_=>by simp only[imm]
 |.tuple ds,h=>by
  simp only[B9]at h;simp only[imm];exact a0g ds h
 |.none,h|.bool _,h|.str _,h|.list _,h|.dict _,h=>by simp only[B9]at h;cases h
theorem a0g:∀ds:List a_,p9 ds=true->f8 ds=true
 |[],_=>by simp only[f8]
 |d::ds,h=>by
  simp only[p9,aC]at h;simp only[f8,aC];exact⟨Q3 d h.1,a0g ds h.2⟩
end
mutual
def Den(K:ae)(H:Hp):V->a_->Prop
 |v,.none=>v=.non
 |v,.bool b=>v=.bl b
 |v,.int i=>v=.int i
 |v,.str x=>v=.str x
 |v,.list ds=>∃a xs,v=.ref a/\SqX K H a xs/\DenAll K H xs ds
 |v,.tuple ds=>∃a xs,v=.ref a/\SqT K H a xs/\DenAll K H xs ds
 |v,.dict kvs=>∃a es,v=.ref a/\H a=cz (j0 a es)/\DenKV K H es kvs
def DenAll(K:ae)(H:Hp):List V->List a_->Prop
 |xs,[]=>xs=[]
 |xs,d::ds=>∃v r,xs=v::r/\Den K H v d/\DenAll K H r ds
def DenKV(K:ae)(H:Hp):List (a_×V×V)->List (a_×a_)->Prop
 |es,[]=>es=[]
 |es,(k,d)::r=>∃e q,es=e::q/\e.1=k/\Den K H e.2.1 k/\Den K H e.2.2 d/\DenKV K H q r
end
def Rd.up(h:Rd H a u)(e:Same H H'):Rd H' a u:=by
 rcases h with h|⟨o,h⟩
 ·exact .inl (e _ _ h)
 ·exact .inr ⟨o,e _ _ h⟩
def I9(h:SqX K H a xs)(e:Same H H'):SqX K H' a xs:=h.imp (λq=>Rd.up q e) id
def U6(h:SqT K H a xs)(e:Same H H'):SqT K H' a xs:=h.imp (λq=>Rd.up q e) id
mutual
theorem Den.mono{K:ae}{H H':Hp}(e:Same H H'):∀(d:a_) {v:V},Den K H v d->Den K H' v d
 |.none,_,h=>by simpa only [Den]using h
 |.bool _,_,h=>by simpa only [Den]using h
 |.int _,_,h=>by simpa only [Den]using h
 |.str _,_,h=>by simpa only [Den]using h
 |.list ds,_,h=>by
  simp only[Den]at h ⊢;obtain⟨a,xs,h1,h2,h3⟩:=h;exact⟨a,xs,h1,I9 h2 e,DenAll.mono e ds h3⟩
 |.tuple ds,_,h=>by
  simp only[Den]at h ⊢;obtain⟨a,xs,h1,h2,h3⟩:=h;exact⟨a,xs,h1,U6 h2 e,DenAll.mono e ds h3⟩
 |.dict kvs,_,h=>by
  simp only[Den]at h ⊢;obtain⟨a,es,h1,h2,h3⟩:=h;exact⟨a,es,h1,e _ _ h2,DenKV.mono e kvs h3⟩
theorem DenAll.mono{K:ae}{H H':Hp}(e:Same H H'):∀(ds:List a_) {xs:List V},DenAll K H xs ds->DenAll K H' xs ds
 |[],_,h=>by simpa only [DenAll]using h
 |d::ds,_,h=>by
  simp only[DenAll]at h ⊢;obtain⟨v,r,h1,h2,h3⟩:=h;exact⟨v,r,h1,Den.mono e d h2,DenAll.mono e ds h3⟩
theorem DenKV.mono(e:Same H H'):∀(kvs:List (a_×a_)) {es:List (a_×V×V)},DenKV K H es kvs->DenKV K H' es kvs
 |[],_,h=>by simpa only [DenKV]using h
 | (k,d)::r,_,h=>by
  simp only[DenKV]at h ⊢;obtain⟨x,q,h1,h2,h3,h4,h5⟩:=h;exact⟨x,q,h1,h2,Den.mono e k h3,Den.mono e d h4,DenKV.mono e r h5⟩
end
section
variable {K:ae}{H H':Hp}
def Den.up{d:a_}{v:V}(h:Den K H v d)(e:Same H H'):Den K H' v d:=Den.mono e d h
def DenAll.up{ds:List a_}{xs:List V}(h:DenAll K H xs ds)(e:Same H H'):DenAll K H' xs ds:=DenAll.mono e ds h
def den_none:Den K H .non .none:=by simp only[Den]
def den_bool{b:Bool}:Den K H (.bl b) (.bool b):=by simp only[Den]
def den_int{i:Int}:Den K H (.int i) (.int i):=by simp only[Den]
def den_str{x:br}:Den K H (.str x) (.str x):=by simp only[Den]
def den_list{a:au}{xs:List V}{ds:List a_}(h:SqX K H a xs)(q:DenAll K H xs ds):Den K H (.ref a) (.list ds):=by
 simp only[Den];exact⟨a,xs,rfl,h,q⟩
def den_tup{a:au}{xs:List V}{ds:List a_}(h:SqT K H a xs)(q:DenAll K H xs ds):Den K H (.ref a) (.tuple ds):=by
 simp only[Den];exact⟨a,xs,rfl,h,q⟩
theorem a3H:∀{es:List (a_×V×V)} {ds:List a_},(∀e∈es,Den K H e.2.1 e.1)->DenAll K H (es.map (·.2.2)) ds->DenKV K H es ((es.map (·.1)).zip ds)
 |[],ds,_,h=>by
  cases ds with
  |nil=>simp only[cY,yZ,DenKV]
  |cons d ds=>simp only[DenAll]at h;obtain⟨v,r,h1,_⟩:=h;cases h1
 |e::es,ds,hk,h=>by
  cases ds with
  |nil=>simp only[DenAll]at h;cases h
  |cons d ds=>
   simp only[DenAll]at h;obtain⟨v,r,h1,h2,h3⟩:=h;cases h1
   simp only[aA,dX,DenKV];exact⟨e,es,rfl,rfl,hk e aD,h2,a3H (λe he=>hk e (av _ he)) h3⟩
def a2p(h:H a=cz (j0 a es))(hk:∀e∈es,Den K H e.2.1 e.1)(hv:DenAll K H (es.map (·.2.2)) ds):Den K H (.ref a) (.dict ((es.map (·.1)).zip ds)):=by
 simp only[Den];exact⟨a,es,rfl,h,a3H hk hv⟩
def denAll_nil:DenAll K H [] []:=by simp only[DenAll]
def denAll_cons{v:V}{d:a_}{xs:List V}{ds:List a_}(h:Den K H v d)(q:DenAll K H xs ds):DenAll K H (v::xs) (d::ds):=by
 simp only[DenAll];exact⟨v,xs,rfl,h,q⟩
def Den.list_inv{v:V}{ds:List a_}(h:Den K H v (.list ds)):∃a xs,v=.ref a/\SqX K H a xs/\DenAll K H xs ds:=by simpa only [Den]using h
def Den.tup_inv{v:V}{ds:List a_}(h:Den K H v (.tuple ds)):∃a xs,v=.ref a/\SqT K H a xs/\DenAll K H xs ds:=by simpa only [Den]using h
def Den.dict_inv(h:Den K H v (.dict kvs)):∃a es,v=.ref a/\H a=cz (j0 a es)/\DenKV K H es kvs:=by simpa only [Den]using h
theorem DenKV.keys:∀{kvs:List (a_×a_)} {es:List (a_×V×V)},DenKV K H es kvs->es.map (·.1)=kvs.map (·.1)
 |[],_,h=>by simp only[DenKV]at h;rw[h];rfl
 | (k,d)::r,_,h=>by
  simp only[DenKV]at h;obtain⟨e,q,rfl,h1,_,_,h2⟩:=h;rw[aA,aA,DenKV.keys h2,h1]
theorem DenKV.vals:∀{kvs:List (a_×a_)} {es:List (a_×V×V)},DenKV K H es kvs->DenAll K H (es.map (·.2.2)) (kvs.map (·.2))
 |[],_,h=>by simp only[DenKV]at h;rw[h];simp only[cY,DenAll]
 | (k,d)::r,_,h=>by
  simp only[DenKV]at h;obtain⟨e,q,rfl,_,_,h1,h2⟩:=h;simp only[aA,DenAll];exact⟨_,_,rfl,h1,DenKV.vals h2⟩
theorem DenKV.kden:∀{kvs:List (a_×a_)} {es:List (a_×V×V)},DenKV K H es kvs->∀e∈es,Den K H e.2.1 e.1
 |[],_,h,e,he=>by simp only[DenKV]at h;rw[h]at he;cases he
 | (k,d)::r,_,h,e,he=>by
  simp only[DenKV]at h;obtain⟨e0,q,rfl,h0,h1,_,h2⟩:=h;rcases aF.mp he with z|z
  ·subst z;rw[h0];exact h1
  ·exact DenKV.kden h2 e z
def Den.int_inv{v:V}{i:Int}(h:Den K H v (.int i)):v=.int i:=by simpa only [Den]using h
def Den.bool_inv(h:Den K H v (.bool b)):v=.bl b:=by simpa only [Den]using h
def Den.none_inv(h:Den K H v .none):v=.non:=by simpa only [Den]using h
def Den.str_inv(h:Den K H v (.str x)):v=.str x:=by simpa only [Den]using h
def DenAll.cons_inv{xs:List V}{d:a_}{ds:List a_}(h:DenAll K H xs (d::ds)):∃v r,xs=v::r/\Den K H v d/\DenAll K H r ds:=by simpa only [DenAll]using h
def DenAll.nil_inv{xs:List V}(h:DenAll K H xs []):xs=[]:=by simpa only [DenAll]using h
theorem DenAll.length:∀{ds:List a_} {xs:List V},DenAll K H xs ds->xs.length=ds.length
 |[],_,h=>by rw[h.nil_inv];rfl
 |d::ds,_,h=>by
  obtain⟨v,r,rfl,_,h⟩:=h.cons_inv;rw[aO,aO,DenAll.length h]
theorem DenAll.get:∀{ds:List a_} {xs:List V} {i:Nat} {d:a_},DenAll K H xs ds->ds[i]?=cz d->∃v,xs[i]?=cz v/\Den K H v d
 |[],_,i,d,_,e=>by simp at e
 |d0::ds,_,0,d,h,e=>by
  obtain⟨v,r,rfl,h1,_⟩:=h.cons_inv;have:d0=d:=by simpa using e
  subst this;exact⟨v,rfl,h1⟩
 |d0::ds,_,i+1,d,h,e=>by
  obtain⟨v,r,rfl,_,h1⟩:=h.cons_inv;obtain⟨u,h2,h3⟩:=DenAll.get (i:=i) h1 (by simpa using e);exact⟨u,by simpa using h2,h3⟩
def DenAll.getV{ds:List a_}{xs:List V}{i:Nat}{v:V}(h:DenAll K H xs ds)(e:xs[i]?=cz v):∃d,ds[i]?=cz d/\Den K H v d:=by
 have hi:=(aT.mp e).1;rw[h.length]at hi;obtain⟨u,h1,h2⟩:=h.get (ah hi);rw[e]at h1;cases h1
 exact⟨_,ah hi,h2⟩
theorem DenAll.append:∀{ds:List a_} {xs:List V} {es:List a_} {ys:List V},DenAll K H xs ds->DenAll K H ys es->DenAll K H (xs++ys) (ds++es)
 |[],_,_,_,h,q=>by rw[h.nil_inv];exact q
 |d::ds,_,_,_,h,q=>by
  obtain⟨v,r,rfl,h1,h2⟩:=h.cons_inv;exact denAll_cons h1 (DenAll.append h2 q)
theorem DenAll.take:∀{ds:List a_} {xs:List V} (n:Nat),DenAll K H xs ds->DenAll K H (xs.take n) (ds.take n)
 |_,_,0,_=>by rw[List.take_zero,List.take_zero];exact denAll_nil
 |[],_,n+1,h=>by rw[h.nil_inv];exact denAll_nil
 |d::ds,_,n+1,h=>by
  obtain⟨v,r,rfl,h1,h2⟩:=h.cons_inv;exact denAll_cons h1 (DenAll.take n h2)
theorem DenAll.drop:∀{ds:List a_} {xs:List V} (n:Nat),DenAll K H xs ds->DenAll K H (xs.drop n) (ds.drop n)
 |_,_,0,h=>h
 |[],_,n+1,h=>by rw[h.nil_inv];exact denAll_nil
 |d::ds,_,n+1,h=>by
  obtain⟨v,r,rfl,_,h2⟩:=h.cons_inv;exact DenAll.drop n h2
theorem DenAll.ints:∀(ns:List Int),DenAll K H (ns.map V.int) (ns.map aX)
 |[]=>denAll_nil
 |n::ns=>denAll_cons den_int (DenAll.ints ns)
end
def cut(H:Hp)(F:List au):Hp:=λa=>if a∈F then pz else H a
section
variable {H H':Hp}{F F':List au}{a:au}{o:HO}
def S9(h:a∉F):cut H F a=H a:=by unfold cut;rw[aS h]
def Y3(h:a∈F):cut H F a=pz:=by unfold cut;rw[aL h]
def t5(h:cut H F a=cz o):a∉F/\H a=cz o:=by
 by_cases q:a∈F
 ·rw[Y3 q]at h;cases h
 ·rw[S9 q]at h;exact⟨q,h⟩
def l0(h1:a∉F)(h2:H a=cz o):cut H F a=cz o:=by rw[S9 h1];exact h2
def j5:Same (cut H F) H:=λ_ _ h=>(t5 h).2
def J0(e:Same H H')(hF:∀a o,H a=cz o->a∈F'->a∈F):Same (cut H F) (cut H' F'):=λa o h=>by
 obtain⟨h1,h2⟩:=t5 h;exact l0 (λq=>h1 (hF a o h2 q)) (e _ _ h2)
def D7(e:Same H H'):Same (cut H F) (cut H' F):=J0 e λ_ _ _ q=>q
def J1(hF:∀a,a∈F'->a∈F):Same (cut H F) (cut H F'):=J0 (Same.refl H) λa _ _ q=>hF a q
def F6:cut H []=H:=by
 funext a
 exact S9 (by simp)
end
inductive Ty where
 |i|f|l (t:Ty)|tp (ts:List Ty)|d (kt:Bool) (t:Ty)
mutual
def Ty.shut:Ty->Bool
 |.i=>true
 |.f=>false
 |.l u=>u.shut
 |.tp us=>Ty.shutAll us
 |.d _ u=>u.shut
def Ty.shutAll:List Ty->Bool
 |[]=>true
 |u::us=>u.shut&&Ty.shutAll us
end
def ListAll(R:V->a_->List au->Prop):List V->List a_->List au->Prop
 |xs,[],fp=>xs=[]/\fp=[]
 |xs,d::ds,fp=>∃v r f g,xs=v::r/\fp=f++g/\R v d f/\ListAll R r ds g
mutual
def Own(K:ae)(H:Hp)(F:List au):Ty->V->a_->List au->Prop
 |.i,v,d,fp=>fp=[]/\imm d=true/\Den K (cut H F) v d
 |.f,v,d,fp=>fp=[]/\Den K (cut H F) v d
 |.l u,v,d,fp=>(fp=[]/\imm d=true/\Den K (cut H F) v d)∨∃a xs ds fs,v=.ref a/\H a=cz (.lst xs)/\d=.list ds/\fp=a::fs/\ListAll (Own K H F u) xs ds fs
 |.tp us,v,d,fp=>∃a xs ds,v=.ref a/\H a=cz (.tup xs)/\a∉F/\d=.tuple ds/\OwnTs K H F us xs ds fp
 |.d kt u,v,d,fp=>∃a es ds fs,v=.ref a/\H a=cz (j0 a es)/\d=.dict ((es.map (·.1)).zip ds)/\fp=a::fs/\((es.map (·.1)).Nodup/\∀e∈es,keyOk kt e.1/\Den K (cut H F) e.2.1 e.1)/\ListAll (Own K H F u) (es.map (·.2.2)) ds fs
def OwnTs(K:ae)(H:Hp)(F:List au):List Ty->List V->List a_->List au->Prop
 |[],xs,ds,fp=>xs=[]/\ds=[]/\fp=[]
 |u::us,xs,ds,fp=>∃v r d e f g,xs=v::r/\ds=d::e/\fp=f++g/\Own K H F u v d f/\OwnTs K H F us r e g
end
section
variable {R R':V->a_->List au->Prop}
def p7:ListAll R [] [] []:=by simp only[ListAll];exact⟨trivial,trivial⟩
def n4(h:R v d f)(q:ListAll R xs ds g):ListAll R (v::xs) (d::ds) (f++g):=by
 simp only[ListAll];exact⟨v,xs,f,g,rfl,rfl,h,q⟩
def ListAll.nil_inv(h:ListAll R xs [] fp):xs=[]/\fp=[]:=by simpa only [ListAll]using h
def ListAll.cons_inv(h:ListAll R xs (d::ds) fp):∃v r f g,xs=v::r/\fp=f++g/\R v d f/\ListAll R r ds g:=by simpa only [ListAll]using h
theorem ListAll.length:∀{ds:List a_} {xs:List V} {fp:List au},ListAll R xs ds fp->xs.length=ds.length
 |[],_,_,h=>by rw[h.nil_inv.1];rfl
 |d::ds,_,_,h=>by
  obtain⟨v,r,f,g,rfl,_,_,h⟩:=h.cons_inv;rw[aO,aO,ListAll.length h]
theorem ListAll.imp:∀{ds:List a_} {xs:List V} {fp:List au},ListAll R xs ds fp->(∀v d f,(∀a∈f,a∈fp)->d∈ds->R v d f->R' v d f)->ListAll R' xs ds fp
 |[],_,_,h,_=>by obtain⟨rfl,rfl⟩:=h.nil_inv;exact p7
 |d::ds,_,_,h,q=>by
  obtain⟨v,r,f,g,rfl,rfl,h1,h2⟩:=h.cons_inv;exact n4 (q v d f (λa ha=>aw _ ha) aD h1) (ListAll.imp h2 λv d f' hf hd hR=>q v d f' (λa ha=>aq _ (hf a ha)) (av _ hd) hR)
theorem ListAll.append:∀{ds es:List a_} {xs ys:List V} {fp gp:List au},ListAll R xs ds fp->ListAll R ys es gp->ListAll R (xs++ys) (ds++es) (fp++gp)
 |[],_,_,_,_,_,h,q=>by obtain⟨rfl,rfl⟩:=h.nil_inv;exact q
 |d::ds,_,_,_,_,_,h,q=>by
  obtain⟨v,r,f,g,rfl,rfl,h1,h2⟩:=h.cons_inv;rw[aI];exact n4 h1 (ListAll.append h2 q)
theorem ListAll.at_:∀{ds:List a_} {xs:List V} {fp:List au} {k:Nat} {d:a_},ListAll R xs ds fp->ds[k]?=cz d->
  ∃v f pre post,xs[k]?=cz v/\R v d f/\fp=pre++(f++post)/\ListAll R (xs.take k) (ds.take k) pre/\ListAll R (xs.drop (k+1)) (ds.drop (k+1)) post
 |[],_,_,k,d,_,e=>by simp at e
 |d0::ds,_,_,0,d,h,e=>by
  obtain⟨v,r,f,g,rfl,rfl,h1,h2⟩:=h.cons_inv;have:d0=d:=by simpa using e
  subst this;exact⟨v,f,[],g,rfl,h1,rfl,p7,h2⟩
 |d0::ds,_,_,k+1,d,h,e=>by
  obtain⟨v,r,f,g,rfl,rfl,h1,h2⟩:=h.cons_inv;obtain⟨u,f',pre,post,e1,e2,e3,e4,e5⟩:=ListAll.at_ (k:=k) h2 (by simpa using e);subst e3;exact⟨u,f',f++pre,post,by simpa using e1,e2,by rw[aI],n4 h1 e4,e5⟩
end
section
variable {K:ae}{H H':Hp}{F F':List au}
theorem ListAll.den(hR:∀v d f,R v d f->Den K H v d):∀{ds:List a_} {xs:List V} {fp:List au},ListAll R xs ds fp->DenAll K H xs ds
 |[],_,_,h=>by rw[h.nil_inv.1];exact denAll_nil
 |d::ds,_,_,h=>by
  obtain⟨v,r,f,g,rfl,_,h1,h2⟩:=h.cons_inv;exact denAll_cons (hR _ _ _ h1) (ListAll.den hR h2)
mutual
theorem Own.den:∀(u:Ty) {v:V} {d:a_} {fp:List au},Own K H F u v d fp->Den K H v d
 |.i,_,_,_,h=>by simp only[Own]at h;exact h.2.2.up j5
 |.f,_,_,_,h=>by simp only[Own]at h;exact h.2.up j5
 |.l u,_,_,_,h=>by
  simp only[Own]at h;rcases h with⟨_,_,h⟩|⟨a,xs,ds,fs,rfl,h1,rfl,_,h2⟩
  ·exact h.up j5
  ·exact den_list (.inl (.inl h1)) (ListAll.den (λv d f q=>Own.den u q) h2)
 |.tp us,_,_,_,h=>by
  simp only[Own]at h;obtain⟨a,xs,ds,rfl,h1,_,rfl,h2⟩:=h;exact den_tup (SqT.of h1) (OwnTs.den us h2)
 |.d kt u,_,_,_,h=>by
  simp only[Own]at h;obtain⟨a,es,ds,fs,rfl,h1,rfl,_,h3,h2⟩:=h;exact a2p h1 (λe he=>(h3.2 e he).2.up j5) (ListAll.den (λv d f q=>Own.den u q) h2)
theorem OwnTs.den:∀(us:List Ty) {xs:List V} {ds:List a_} {fp:List au},OwnTs K H F us xs ds fp->DenAll K H xs ds
 |[],_,_,_,h=>by simp only[OwnTs]at h;obtain⟨rfl,rfl,_⟩:=h;exact denAll_nil
 |u::us,_,_,_,h=>by
  simp only[OwnTs]at h;obtain⟨v,r,d,e,f,g,rfl,rfl,_,h1,h2⟩:=h;exact denAll_cons (Own.den u h1) (OwnTs.den us h2)
end
mutual
theorem Own.frame(e:Same (cut H F) (cut H' F')):∀(u:Ty) {v:V} {d:a_} {fp:List au},Own K H F u v d fp->(∀a∈fp,H' a=H a)->Own K H' F' u v d fp
 |.i,_,_,_,h,_=>by simp only[Own]at h ⊢;exact⟨h.1,h.2.1,h.2.2.up e⟩
 |.f,_,_,_,h,_=>by simp only[Own]at h ⊢;exact⟨h.1,h.2.up e⟩
 |.l u,_,_,_,h,k=>by
  simp only[Own]at h ⊢;rcases h with⟨h1,h2,h⟩|⟨a,xs,ds,fs,rfl,h1,rfl,rfl,h2⟩
  ·exact .inl ⟨h1,h2,h.up e⟩
  ·exact .inr ⟨a,xs,ds,fs,rfl,(k a aD).trans h1,rfl,rfl,h2.imp λv d f hf _ q=>Own.frame e u q λb hb=>k b (av _ (hf b hb))⟩
 |.tp us,_,_,_,h,k=>by
  simp only[Own]at h ⊢;obtain⟨a,xs,ds,rfl,h1,h0,rfl,h2⟩:=h;obtain⟨h3,h4⟩:=t5 (e a _ (l0 h0 h1));exact⟨a,xs,ds,rfl,h4,h3,rfl,OwnTs.frame e us h2 k⟩
 |.d kt u,_,_,_,h,k=>by
  simp only[Own]at h ⊢;obtain⟨a,es,ds,fs,rfl,h1,rfl,rfl,h3,h2⟩:=h;exact⟨a,es,ds,fs,rfl,(k a aD).trans h1,rfl,rfl,⟨h3.1,λx hx=>⟨(h3.2 x hx).1,(h3.2 x hx).2.up e⟩⟩,h2.imp λv d f hf _ q=>Own.frame e u q λb hb=>k b (av _ (hf b hb))⟩
theorem OwnTs.frame(e:Same (cut H F) (cut H' F')):∀(us:List Ty) {xs:List V} {ds:List a_} {fp:List au},OwnTs K H F us xs ds fp->(∀a∈fp,H' a=H a)->OwnTs K H' F' us xs ds fp
 |[],_,_,_,h,_=>by simpa only [OwnTs]using h
 |u::us,_,_,_,h,k=>by
  simp only[OwnTs]at h ⊢;obtain⟨v,r,d,e',f,g,rfl,rfl,rfl,h1,h2⟩:=h;exact⟨v,r,d,e',f,g,rfl,rfl,rfl,Own.frame e u h1 λa ha=>k a (aw _ ha),OwnTs.frame e us h2 λa ha=>k a (aq _ ha)⟩
end
theorem ListAll.lst{u:Ty}{R:V->a_->List au->Prop}(hR:∀v d f,R v d f->∀a∈f,∃ys:MuO,H a=cz ys.1):∀{ds:List a_} {xs:List V} {fp:List au},ListAll R xs ds fp->∀a∈fp,∃ys:MuO,H a=cz ys.1
 |[],_,_,h,a,ha=>by rw[h.nil_inv.2]at ha;cases ha
 |d::ds,_,_,h,a,ha=>by
  obtain⟨v,r,f,g,rfl,rfl,h1,h2⟩:=h.cons_inv;rcases ar.mp ha with z|z
  ·exact hR _ _ _ h1 a z
  ·exact ListAll.lst (u:=u) hR h2 a z
mutual
theorem Own.lst:∀(u:Ty) {v:V} {d:a_} {fp:List au},Own K H F u v d fp->∀a∈fp,∃ys:MuO,H a=cz ys.1
 |.i,_,_,_,h,a,ha=>by simp only[Own]at h;rw[h.1]at ha;cases ha
 |.f,_,_,_,h,a,ha=>by simp only[Own]at h;rw[h.1]at ha;cases ha
 |.l u,_,_,_,h,b,hb=>by
  simp only[Own]at h;rcases h with⟨h1,_⟩|⟨a,xs,ds,fs,rfl,h1,rfl,rfl,h2⟩
  ·rw[h1]at hb;cases hb
  ·rcases aF.mp hb with z|z
   ·subst z;exact⟨⟨.lst xs,trivial⟩,h1⟩
   ·exact ListAll.lst (u:=u) (λv d f q=>Own.lst u q) h2 b z
 |.tp us,_,_,_,h,b,hb=>by
  simp only[Own]at h;obtain⟨a,xs,ds,rfl,h1,_,rfl,h2⟩:=h;exact OwnTs.lst us h2 b hb
 |.d kt u,_,_,_,h,b,hb=>by
  simp only[Own]at h;obtain⟨a,es,ds,fs,rfl,h1,rfl,rfl,h3,h2⟩:=h;rcases aF.mp hb with z|z
  ·subst z;exact⟨⟨j0 b es,trivial⟩,h1⟩
  ·exact ListAll.lst (u:=u) (λv d f q=>Own.lst u q) h2 b z
theorem OwnTs.lst:∀(us:List Ty) {xs:List V} {ds:List a_} {fp:List au},OwnTs K H F us xs ds fp->∀a∈fp,∃ys:MuO,H a=cz ys.1
 |[],_,_,_,h,a,ha=>by simp only[OwnTs]at h;rw[h.2.2]at ha;cases ha
 |u::us,_,_,_,h,b,hb=>by
  simp only[OwnTs]at h;obtain⟨v,r,d,e,f,g,rfl,rfl,rfl,h1,h2⟩:=h;rcases ar.mp hb with z|z
  ·exact Own.lst u h1 b z
  ·exact OwnTs.lst us h2 b z
end
def b0s(h:SqT K H a xs)(hF:∀a∈F,∃ys:MuO,H a=cz ys.1):SqT K (cut H F) a xs:=by
 rcases h with (h|⟨o,h⟩)|h
 ·refine .inl (.inl (l0 (λq=>?_) h));obtain⟨⟨ys,my⟩,e⟩:=hF a q;rw[h]at e;have e':=aK e;rw[show ys=_ from e'.symm]at my;exact my
 ·refine .inl (.inr ⟨o,l0 (λq=>?_) h⟩);obtain⟨⟨ys,my⟩,e⟩:=hF a q;rw[h]at e;have e':=aK e;rw[show ys=_ from e'.symm]at my;exact my
 ·exact .inr h
mutual
theorem Den.imm_out(hF:∀a∈F,∃ys:MuO,H a=cz ys.1):∀(d:a_) {v:V},imm d=true->Den K H v d->Den K (cut H F) v d
 |.none,_,_,h=>by simpa only [Den]using h
 |.bool _,_,_,h=>by simpa only [Den]using h
 |.int _,_,_,h=>by simpa only [Den]using h
 |.str _,_,_,h=>by simpa only [Den]using h
 |.list ds,_,q,_=>by simp only[imm]at q;cases q
 |.tuple ds,_,q,h=>by
  simp only[imm]at q;obtain⟨a,xs,rfl,h1,h2⟩:=h.tup_inv;exact den_tup (b0s h1 hF) (DenAll.imm_out hF ds q h2)
 |.dict _,_,q,_=>by simp only[imm]at q;cases q
theorem DenAll.imm_out(hF:∀a∈F,∃ys:MuO,H a=cz ys.1):∀(ds:List a_) {xs:List V},f8 ds=true->DenAll K H xs ds->DenAll K (cut H F) xs ds
 |[],_,_,h=>by simpa only [DenAll]using h
 |d::ds,_,q,h=>by
  simp only[f8,aC]at q;obtain⟨v,r,rfl,h1,h2⟩:=h.cons_inv;exact denAll_cons (Den.imm_out hF d q.1 h1) (DenAll.imm_out hF ds q.2 h2)
end
mutual
theorem Own.shut_out(hF:∀a∈F',∃ys:MuO,H a=cz ys.1):∀(u:Ty) {v:V} {d:a_} {fp:List au},u.shut=true->Own K H F u v d fp->Own K H F' u v d fp
 |.i,_,_,_,_,h=>by simp only[Own]at h ⊢;exact⟨h.1,h.2.1,(h.2.2.up j5).imm_out hF _ h.2.1⟩
 |.f,_,_,_,q,h=>by simp only[Ty.shut]at q;cases q
 |.l u,_,_,_,q,h=>by
  simp only[Ty.shut]at q;simp only[Own]at h ⊢;rcases h with⟨h1,h2,h⟩|⟨a,xs,ds,fs,rfl,h1,rfl,rfl,h2⟩
  ·exact .inl ⟨h1,h2,(h.up j5).imm_out hF _ h2⟩
  ·exact .inr ⟨a,xs,ds,fs,rfl,h1,rfl,rfl,h2.imp λv d f _ _ z=>Own.shut_out hF u q z⟩
 |.tp us,_,_,_,q,h=>by
  simp only[Ty.shut]at q;simp only[Own]at h ⊢;obtain⟨a,xs,ds,rfl,h1,h0,rfl,h2⟩:=h;refine⟨a,xs,ds,rfl,h1,λz=>?_,rfl,OwnTs.shut_out hF us q h2⟩;obtain⟨⟨ys,my⟩,e⟩:=hF a z;rw[h1]at e;have e':=aK e;rw[show ys=_ from e'.symm]at my;exact my
 |.d kt u,_,_,_,q,h=>by
  simp only[Ty.shut]at q;simp only[Own]at h ⊢;obtain⟨a,es,ds,fs,rfl,h1,rfl,rfl,h3,h2⟩:=h;exact⟨a,es,ds,fs,rfl,h1,rfl,rfl,⟨h3.1,λx hx=>⟨(h3.2 x hx).1,((h3.2 x hx).2.up j5).imm_out hF _ (Q3 _ (h3.2 x hx).1.1)⟩⟩,h2.imp λv d f _ _ z=>Own.shut_out hF u q z⟩
theorem OwnTs.shut_out(hF:∀a∈F',∃ys:MuO,H a=cz ys.1):∀(us:List Ty) {xs:List V} {ds:List a_} {fp:List au},Ty.shutAll us=true->OwnTs K H F us xs ds fp->OwnTs K H F' us xs ds fp
 |[],_,_,_,_,h=>by simpa only [OwnTs]using h
 |u::us,_,_,_,q,h=>by
  simp only[Ty.shutAll,aC]at q;simp only[OwnTs]at h ⊢;obtain⟨v,r,d,e,f,g,rfl,rfl,rfl,h1,h2⟩:=h;exact⟨v,r,d,e,f,g,rfl,rfl,rfl,Own.shut_out hF u q.1 h1,OwnTs.shut_out hF us q.2 h2⟩
end
end
end VS
namespace VS
open PySem PySem.Spec L2
open SeqAt in
def items_eqAt{A:bH}{s:aj}{us ws:Array ag}(ra:jN s.heap us.toList xs as)(rb:jN s.heap ws.toList ys bs)(ha:bM xs=true)(hb:bM ys=true)
  (hu:A.in1.units+min (cP xs) (cP ys)<eh):∀(k:Nat) (k1:k<us.size) (k2:k<ws.size),EqAt A.in1 s us[k] ws[k] (pairEq xs ys k):=λk k1 k2=>
 eqAt_readsAll xs ys A.in1 s us.toList ws.toList as bs ra rb ha hb hu k k1 k2
open SeqAt in
def a4U{A:bH}{s:aj}(ra:Reads s.heap a da as)(rb:Reads s.heap b db bs)(ha:da.canLay0=true)(hb:db.canLay0=true)
  (hu:A.units+min da.depth db.depth<eh):RcNeAt A s a b (!aM da db):=by
 have u0:=room_here hu;cases ra with
 |dict=>exact nomatch ha
 |none=>cases rb with
  |dict=>exact nomatch hb
  |none=>exact RcNeAt.none_none
  |bool y=>exact RcNeAt.none_bool y
  |int y v=>exact RcNeAt.none_int y v
  |str y v=>exact RcNeAt.none_str y v
  |list c1 c2 c3 c4=>exact RcNeAt.none_list ⟨_,c1,c2,_,c3⟩ u0
  |tuple c1 c2 c3 c4=>exact RcNeAt.none_tuple ⟨_,c1,c2,_,c3⟩ u0
 |bool x=>cases rb with
  |dict=>exact nomatch hb
  |none=>exact RcNeAt.bool_none x
  |bool y=>exact RcNeAt.bool_bool x y
  |int y v=>exact RcNeAt.bool_int x y v
  |str y v=>exact RcNeAt.bool_str x y v
  |list c1 c2 c3 c4=>exact RcNeAt.bool_list x ⟨_,c1,c2,_,c3⟩ u0
  |tuple c1 c2 c3 c4=>exact RcNeAt.bool_tuple x ⟨_,c1,c2,_,c3⟩ u0
 |int x t=>cases rb with
  |dict=>exact nomatch hb
  |none=>exact RcNeAt.int_none x t
  |bool y=>exact RcNeAt.int_bool x t y
  |int y v=>exact RcNeAt.int_int x t y v
  |str y v=>exact RcNeAt.int_str x t y v
  |list c1 c2 c3 c4=>exact RcNeAt.int_list x t ⟨_,c1,c2,_,c3⟩ u0
  |tuple c1 c2 c3 c4=>exact RcNeAt.int_tuple x t ⟨_,c1,c2,_,c3⟩ u0
 |str x t=>cases rb with
  |dict=>exact nomatch hb
  |none=>exact RcNeAt.str_none x t
  |bool y=>exact RcNeAt.str_bool x t y
  |int y v=>exact RcNeAt.str_int x t y v
  |str y v=>exact RcNeAt.str_str x t y v
  |list c1 c2 c3 c4=>exact RcNeAt.str_list x t ⟨_,c1,c2,_,c3⟩ u0
  |tuple c1 c2 c3 c4=>exact RcNeAt.str_tuple x t ⟨_,c1,c2,_,c3⟩ u0
 |@list la oa us na xs fa c1 c2 c3 c4=>
  have sa:s.heap.IsList la us:=⟨oa,c1,c2,na,c3⟩;cases rb with
  |dict=>exact nomatch hb
  |none=>exact RcNeAt.list_none sa u0
  |bool y=>exact RcNeAt.list_bool y sa u0
  |int y v=>exact RcNeAt.list_int y v sa u0
  |str y v=>exact RcNeAt.list_str y v sa u0
  |tuple e1 e2 e3 e4=>exact RcNeAt.list_tuple sa ⟨_,e1,e2,_,e3⟩ u0
  |@list lb ob ws nb ys fb e1 e2 e3 e4=>
   have sb:s.heap.IsList lb ws:=⟨ob,e1,e2,nb,e3⟩;have z1:us.size=xs.length:=by simpa using mQ xs _ _ c4
   have z2:ws.size=ys.length:=by simpa using mQ ys _ _ e4
   have pr:=items_eqAt c4 e4 ha hb (room_in hu);show RcNeAt A s (.ref la) (.ref lb) (!cL xs ys);by_cases z:us.size=ws.size
   ·rw[<-eqvAll_same_length (show xs.length=ys.length by lia),<-z1];exact RcNeAt.lists sa sb z u0 pr
   ·rw[eqvAll_other_length (show xs.length≠ys.length by lia)];exact RcNeAt.lists_lengths sa sb (bne_iff_ne.mpr z) u0
 |@tuple la oa us na xs fa c1 c2 c3 c4=>
  have sa:s.heap.IsTuple la us:=⟨oa,c1,c2,na,c3⟩;cases rb with
  |dict=>exact nomatch hb
  |none=>exact RcNeAt.tuple_none sa u0
  |bool y=>exact RcNeAt.tuple_bool y sa u0
  |int y v=>exact RcNeAt.tuple_int y v sa u0
  |str y v=>exact RcNeAt.tuple_str y v sa u0
  |list e1 e2 e3 e4=>exact RcNeAt.tuple_list sa ⟨_,e1,e2,_,e3⟩ u0
  |@tuple lb ob ws nb ys fb e1 e2 e3 e4=>
   have sb:s.heap.IsTuple lb ws:=⟨ob,e1,e2,nb,e3⟩;have z1:us.size=xs.length:=by simpa using mQ xs _ _ c4
   have z2:ws.size=ys.length:=by simpa using mQ ys _ _ e4
   have pr:=items_eqAt c4 e4 ha hb (room_in hu);show RcNeAt A s (.ref la) (.ref lb) (!cL xs ys);rw[<-eqvAll_eq xs ys,<-z1,<-z2];exact RcNeAt.tuples sa sb u0 pr
mutual
theorem Den.reads{X:Cx}{pins:List (au×eW)}{σ:St}{H:Hp}{s:aj}(I:Inv X pins σ H s):∀(d:a_) {v:V} {u:ag},d.canLay0=true->Den X.K H v d->RelV v u->∃as,Reads s.heap u d as
 |.none,v,u,_,q,r=>by
  cases q.none_inv
  cases (show u=ba from r)
  exact⟨_,.none⟩
 |.bool b,v,u,_,q,r=>by
  cases q.bool_inv
  cases (show u=ni b from r)
  exact⟨_,.bool b⟩
 |.int i,v,u,_,q,r=>by
  cases q.int_inv
  obtain⟨t,rfl⟩:=r;exact⟨_,.int i t⟩
 |.str x,v,u,_,q,r=>by
  cases q.str_inv
  obtain⟨t,rfl⟩:=r;exact⟨_,.str x t⟩
 |.list ds,v,u,hl,q,r=>by
  obtain⟨a,xs,rfl,h1,h2⟩:=q.list_inv;cases (show u=bG a from r)
  obtain⟨z,cN,n,rv,e⟩:=h1.ok I;obtain⟨as,ra⟩:=DenAll.reads I ds hl h2 rv;exact⟨_,.list e rfl rfl (by simpa using ra)⟩
 |.tuple ds,v,u,hl,q,r=>by
  obtain⟨a,xs,rfl,h1,h2⟩:=q.tup_inv;cases (show u=bG a from r)
  obtain⟨cN,rv,⟨o,e,c,n,d⟩,_⟩:=I.tuple h1;obtain⟨as,ra⟩:=DenAll.reads I ds hl h2 rv;exact⟨_,.tuple e c d (by simpa using ra)⟩
 |.dict _,_,_,hl,_,_=>nomatch hl
theorem DenAll.reads{X:Cx}{pins:List (au×eW)}{σ:St}{H:Hp}{s:aj}(I:Inv X pins σ H s):∀(ds:List a_) {xs:List V} {us:List ag},bM ds=true->DenAll X.K H xs ds->Vals xs us->∃as,jN s.heap us ds as
 |[],xs,us,_,q,r=>by
  cases q.nil_inv
  cases r
  exact⟨_,.nil⟩
 |d::ds,xs,us,hl,q,r=>by
  have qL:d.canLay0=true/\bM ds=true:=by simpa[bM]using hl
  obtain⟨v,rs,rfl,h1,h2⟩:=q.cons_inv;cases r with
  |cons r1 r2=>
   obtain⟨as,ra⟩:=Den.reads I d qL.1 h1 r1;obtain⟨bs,rb⟩:=DenAll.reads I ds qL.2 h2 r2;exact⟨_,.cons ra rb⟩
end
def OpS(X:Cx)(f:ag->ag->xo ag)(g:D->D->Option D):Prop:=
 ∃r,OpR X f r/\∀(x y:V) (H:Hp) (a b d:D) (Q:VK),Den X.K H x a->Den X.K H y b->g a b=cz d->(∀v,imm d=true->(∀H',Den X.K H' v d)->Q v H)->r x y H Q
noncomputable def a3I(X:Cx)(f:ag)(g:List D->Option D):Prop:=
 ∃r,CallR X f r/\∀(xs:List V) (H:Hp) (ds:List D) (d:D) (Q:VK),DenAll X.K H xs ds->g ds=cz d->(∀v,imm d=true->(∀H',Den X.K H' v d)->Q v H)->r xs H Q
def d2I(p:Int->Int->Bool)(g:Int->Int->D):D->D->Option D
 |.int a,.int b=>if p a b then cz (g a b) else pz
 |_,_=>pz
def a0T(h:d2I p g a b=cz d):∃i j,a=.int i/\b=.int j/\p i j=true/\d=g i j:=by
 cases a with
 |int i=>
  cases b with
  |int j=>
   have h':(if p i j=true then cz (g i j) else pz)=cz d:=h;by_cases c:p i j=true
   ·rw[aL c]at h';exact⟨i,j,rfl,rfl,c,(aK h').symm⟩
   ·rw[aS c]at h';cases h'
  |_=>cases h
 |_=>cases h
def pT:Int->Int->Bool:=λ_ _=>true
abbrev r9:D->D->Option D:=d2I pT λa b=>.int (a+b)
abbrev A7:D->D->Option D:=d2I pT λa b=>.int (a-b)
def a6S(a b:Int):Bool:=decide (a.natAbs<2^64)||decide (b.natAbs<2^64)
abbrev M9:D->D->Option D:=d2I a6S λa b=>.int (a*b)
def b2K(_ b:Int):Bool:=decide (0<b)
abbrev p8:D->D->Option D:=d2I b2K λa b=>.int (a % b)
def b0t(_ b:Int):Bool:=decide (0<b)&&decide (b<1073741824)
abbrev U7:D->D->Option D:=d2I b0t λa b=>.int (a / b)
def b0u(a b:Int):Bool:=decide (0<=b)&&decide (b<=1000000)&&decide (a.natAbs<2^64)
abbrev a8h:D->D->Option D:=d2I b0u λa b=>.int (a^b.toNat)
abbrev dLt:D->D->Option D:=d2I pT λa b=>.bool (decide (a<b))
abbrev dLe:D->D->Option D:=d2I pT λa b=>.bool (decide (a<=b))
abbrev dGt:D->D->Option D:=d2I pT λa b=>.bool (decide (b<a))
abbrev dGe:D->D->Option D:=d2I pT λa b=>.bool (decide (b<=a))
def a6T(neg:Bool)(a b:D):Option D:=if a.canLay0&&b.canLay0&&decide (a.depth<=60) then cz (.bool (neg !=aM a b)) else pz
abbrev dEq:D->D->Option D:=a6T false
abbrev dNe:D->D->Option D:=a6T true
def isN:D->Bool
 |.none=>true
 |_=>false
def b0v(neg:Bool)(a b:D):Option D:=if isN b then cz (.bool (neg !=isN a)) else pz
def b6A(neg:Bool):D->D->Option D
 |.bool a,.bool b=>cz (.bool (neg !=(a==b)))
 |_,_=>pz
section
variable {X:Cx}
def b0w{f:ag->ag->xo ag}{C:Int->Int->Prop}{p:Int->Int->Bool}{g:Int->Int->Int}(ho:OpR X f (rI C λi j=>.int (g i j)))(hp:∀i j,p i j=true->C i j):OpS X f (d2I p λa b=>.int (g a b)):=by
 refine⟨_,ho,λx y H a b d Q ha hb hg q=>?_⟩;obtain⟨i,j,rfl,rfl,c,rfl⟩:=a0T hg;exact⟨i,j,ha.int_inv,hb.int_inv,hp i j c,q _ (by simp only[imm]) λ_=>den_int⟩
def b1O{f:ag->ag->xo ag}{g:Int->Int->Int}(ho:OpR X f (rI0 λi j=>.int (g i j))):OpS X f (d2I pT λa b=>.int (g a b)):=by
 refine⟨_,ho,λx y H a b d Q ha hb hg q=>?_⟩;obtain⟨i,j,rfl,rfl,c,rfl⟩:=a0T hg;exact⟨i,j,ha.int_inv,hb.int_inv,q _ (by simp only[imm]) λ_=>den_int⟩
def a8i{f:ag->ag->xo ag}{g:Int->Int->Bool}(ho:OpR X f (rI0 λi j=>.bl (g i j))):OpS X f (d2I pT λa b=>.bool (g a b)):=by
 refine⟨_,ho,λx y H a b d Q ha hb hg q=>?_⟩;obtain⟨i,j,rfl,rfl,c,rfl⟩:=a0T hg;exact⟨i,j,ha.int_inv,hb.int_inv,q _ (by simp only[imm]) λ_=>den_bool⟩
def v9:OpS X (eX .Add) r9:=b1O b2u
def C1:OpS X (eX .Sub) A7:=b1O b2v
def Q4:OpS X (eX .Mult) M9:=b0w b2w λi j h=>by
 unfold a6S at h;rw[nv]at h;rcases h with h|h
 ·have:=bN h;exact .inl ⟨by lia,by lia⟩
 ·have:=bN h;exact .inr ⟨by lia,by lia⟩
def o6:OpS X (eX .Mod) p8:=b0w b2x λi j h=>bN h
def a0U:OpS X (eX .FloorDiv) U7:=b0w b0g λi j h=>by
 unfold b0t at h;rw[aC]at h;exact⟨bN h.1,bN h.2⟩
def a8j:OpS X (eX .Pow) a8h:=b0w b2y λi j h=>by
 unfold b0u at h;rw[aC,aC]at h;exact⟨bN h.1.1,bN h.1.2,bN h.2⟩
def a8k:OpS X (cD .Lt) dLt:=a8i b4B
def b4L:OpS X (cD .LtE) dLe:=a8i b4C
def b1P:OpS X (cD .Gt) dGt:=a8i b4D
def b2L(K:ae)(neg:Bool):R2:=λx y H Q=>∃d e,Den K H x d/\Den K H y e/\d.canLay0=true/\e.canLay0=true/\d.depth<=60/\Q (.bl (neg !=aM d e)) H
def a8l(hu:X.A.units+64<eh):OpR X (cD .Eq) (b2L X.K false):=by
 intro pins s σ H x y v u Q I rx ry h;obtain⟨d,e,h1,h2,c1,c2,hd,q⟩:=h;obtain⟨as,ra⟩:=Den.reads I d c1 h1 rx;obtain⟨bs,rb⟩:=Den.reads I e c2 h2 ry;refine SeqAt.compareEq_reads ra rb c1 c2 (by have:=nk d.depth e.depth;lia) ?_;exact⟨.bl _,H,I,rfl,by simpa using q⟩
def a8m(hu:X.A.units+64<eh):OpR X (cD .NotEq) (b2L X.K true):=by
 intro pins s σ H x y v u Q I rx ry h;obtain⟨d,e,h1,h2,c1,c2,hd,q⟩:=h;obtain⟨as,ra⟩:=Den.reads I d c1 h1 rx;obtain⟨bs,rb⟩:=Den.reads I e c2 h2 ry;refine a4U ra rb c1 c2 (by have:=nk d.depth e.depth;lia) _ _ _ _ ?_;exact⟨.bl _,H,I,rfl,by simpa using q⟩
def a8n(ho:OpR X f (b2L X.K neg)):OpS X f (a6T neg):=by
 refine⟨_,ho,λx y H a b d Q ha hb hg q=>?_⟩;unfold a6T at hg;by_cases c:(a.canLay0&&b.canLay0&&decide (a.depth<=60))=true
 ·rw[aL c]at hg;cases hg
  rw[aC,aC]at c;exact⟨a,b,ha,hb,c.1.1,c.1.2,bN c.2,q _ (by simp only[imm]) λ_=>den_bool⟩
 ·rw[aS c]at hg;cases hg
def os_eq(hu:X.A.units+64<eh):OpS X (cD .Eq) dEq:=a8n (a8l hu)
def b4M(hu:X.A.units+64<eh):OpS X (cD .NotEq) dNe:=a8n (a8m hu)
def a8o(h:Den K H x a):decide (x=V.non)=isN a:=by
 cases a with
 |none=>rw[h.none_inv];rfl
 |bool b=>rw[h.bool_inv];rfl
 |int b=>rw[h.int_inv];rfl
 |str b=>rw[h.str_inv];rfl
 |list ds=>obtain⟨a,xs,rfl,_⟩:=h.list_inv;rfl
 |tuple ds=>obtain⟨a,xs,rfl,_⟩:=h.tup_inv;rfl
 |dict kvs=>
  obtain⟨a,es,rfl,_⟩:=h.dict_inv;rfl
def b2M:OpS X (cD .Is) (b0v false):=by
 refine⟨_,b2B,λx y H a b d Q ha hb hg q=>?_⟩;unfold b0v at hg;by_cases c:isN b=true
 ·rw[aL c]at hg;cases hg
  have e:=a8o hb;rw[c]at e;refine⟨bN e,?_⟩;rw[a8o ha];have:=q (.bl (false !=isN a)) (by simp only[imm]) λ_=>den_bool
  simpa using this
 ·rw[aS c]at hg;cases hg
end
inductive Md where
 |dead|own (u:Ty)|exc|keys (kt:Bool)|pin (v:V)|fn (Φ:Hp->V->Prop)
def ExcAt(a C:au):HO:=.ext λh=>∃o,h.get? a=cz o/\o.cls=.ref C
def SlotR(K:ae)(H:Hp)(F:List au)(m:Md)(o:Option V)(d:D)(f:List au):Prop:=
 match m with
 |.dead=>f=[]
 |.own u=>∃v,o=cz v/\Own K H F u v d f
 |.exc=>f=[]/\∃v,o=cz v/\((v=.non/\d=.none)∨∃a C n,v=.ref a/\d=.str n/\cut H F a=cz (ExcAt a C)/\bO K aY n=cz (cz (.ref C)))
 |.keys kt=>f=[]/\∃a es kvs,o=cz (.ref a)/\d=.dict kvs/\cut H F a=cz (j0 a es)/\es.map (·.1)=kvs.map (·.1)/\∀e∈es,keyOk kt e.1/\Den K (cut H F) e.2.1 e.1
 |.pin v=>f=[]/\o=cz v
 |.fn Φ=>f=[]/\∃v,o=cz v/\∀H',Same (cut H F) H'->Φ H' v
def StAll(K:ae)(H:Hp)(F:List au):List Md->List D->L2.St->List au->Prop
 |[],Z,σ,fp=>Z=[]/\σ=[]/\fp=[]
 |m::M,Z,σ,fp=>∃d Z' o σ' f g,Z=d::Z'/\σ=o::σ'/\fp=f++g/\SlotR K H F m o d f/\StAll K H F M Z' σ' g
section
variable {K:ae}{H H':Hp}{F F':List au}
theorem SlotR.frame(h:SlotR K H F m o d f)(e:Same (cut H F) (cut H' F'))(k:∀a∈f,H' a=H a):SlotR K H' F' m o d f:=by
 cases m with
 |dead=>exact h
 |own u=>
  obtain⟨v,rfl,h⟩:=h;exact⟨v,rfl,h.frame e u k⟩
 |exc=>
  obtain⟨h0,v,h1,h2⟩:=h;refine⟨h0,v,h1,h2.imp (λz=>z) λ⟨a,C,n,z1,z2,z3,z4⟩=>⟨a,C,n,z1,z2,e _ _ z3,z4⟩⟩
 |keys kt=>
  obtain⟨h0,a,es,kvs,h1,h2,h3,h4,h5⟩:=h;exact⟨h0,a,es,kvs,h1,h2,e _ _ h3,h4,λx hx=>⟨(h5 x hx).1,(h5 x hx).2.up e⟩⟩
 |pin v=>exact h
 |fn Φ=>obtain⟨h0,v,h1,h2⟩:=h;exact⟨h0,v,h1,λH2 e2=>h2 H2 (e.trans e2)⟩
def j7{Z:List D}(h:SlotR K H F m o d f)(q:StAll K H F M Z σ g):StAll K H F (m::M) (d::Z) (o::σ) (f++g):=by
 simp only[StAll];exact⟨d,Z,o,σ,f,g,rfl,rfl,rfl,h,q⟩
def G0:StAll K H F [] [] [] []:=by simp only[StAll];exact⟨trivial,trivial,trivial⟩
theorem StAll.frame:∀{M:List Md} {Z:List D} {σ:L2.St} {fp:List au},StAll K H F M Z σ fp->Same (cut H F) (cut H' F')->(∀a∈fp,H' a=H a)->StAll K H' F' M Z σ fp
 |[],_,_,_,h,_,_=>by simpa only [StAll]using h
 |m::M,_,_,_,h,e,k=>by
  simp only[StAll]at h;obtain⟨d,Z,o,σ,f,g,rfl,rfl,rfl,h1,h2⟩:=h;exact j7 (h1.frame e λa ha=>k a (aw _ ha)) (StAll.frame h2 e λa ha=>k a (aq _ ha))
theorem StAll.len:∀{M:List Md} {Z:List D} {σ:L2.St} {fp:List au},StAll K H F M Z σ fp->Z.length=M.length/\σ.length=M.length
 |[],_,_,_,h=>by simp only[StAll]at h;obtain⟨rfl,rfl,_⟩:=h;exact⟨rfl,rfl⟩
 |m::M,_,_,_,h=>by
  simp only[StAll]at h;obtain⟨d,Z,o,σ,f,g,rfl,rfl,rfl,_,h2⟩:=h;obtain⟨a,b⟩:=StAll.len h2;exact⟨by rw[aO,aO,a],by rw[aO,aO,b]⟩
theorem StAll.at_:∀{M:List Md} {Z:List D} {σ:L2.St} {fp:List au} {i:Nat} {m:Md},StAll K H F M Z σ fp->M[i]?=cz m->
  ∃d o f pre post,Z[i]?=cz d/\σ[i]?=cz o/\SlotR K H F m o d f/\fp=pre++(f++post)/\
   ∀(H':Hp) (F':List au) (m':Md) (d':D) (o':Option V) (f':List au),(∀a∈pre++post,H' a=H a)->Same (cut H F) (cut H' F')->SlotR K H' F' m' o' d' f'->
    StAll K H' F' (M.set i m') (Z.set i d') (σ.set i o') (pre++(f'++post))
 |[],_,_,_,i,m,_,e=>by simp at e
 |m0::M,_,_,_,0,m,h,e=>by
  simp only[StAll]at h;obtain⟨d,Z,o,σ,f,g,rfl,rfl,rfl,h1,h2⟩:=h;have:m0=m:=by simpa using e
  subst this;refine⟨d,o,f,[],g,rfl,rfl,h1,rfl,λH' F' m' d' o' f' k e' s=>?_⟩;show StAll K H' F' (m'::M) (d'::Z) (o'::σ) (f'++g);exact j7 s (h2.frame e' k)
 |m0::M,_,_,_,i+1,m,h,e=>by
  simp only[StAll]at h;obtain⟨d,Z,o,σ,f,g,rfl,rfl,rfl,h1,h2⟩:=h;obtain⟨d1,o1,f1,pre,post,e1,e2,e3,e4,e5⟩:=StAll.at_ (i:=i) h2 (by simpa using e);subst e4;refine⟨d1,o1,f1,f++pre,post,by simpa using e1,by simpa using e2,e3,by rw[aI],λH' F' m' d' o' f' k e' s=>?_⟩;rw[aI];refine j7 (h1.frame e' λa ha=>k a ?_) (e5 H' F' m' d' o' f' (λa ha=>k a ?_) e' s)
  ·rw[aI];exact aw _ ha
  ·rw[aI];exact aq _ ha
end
structure StE (K:ae) (M:List Md) (Z:List D) (σ:L2.St) (H P:Hp) (F:List au):Prop where
 all:∃G,StAll K H F M Z σ G/\∀a∈G,a∈F
 lst:∀a∈F,∃ys:MuO,H a=cz ys.1
 prot:Same P (cut H F)
structure StR (K:ae) (M:List Md) (Z:List D) (σ:L2.St) (H P:Hp) (F:List au):Prop where
 all:∃G,StAll K H F M Z σ G/\G.Nodup/\∀a∈G,a∈F
 lst:∀a∈F,∃ys:MuO,H a=cz ys.1
 prot:Same P (cut H F)
section
variable {K:ae}{M:List Md}{Z:List D}{σ:L2.St}{H H' P:Hp}{F:List au}
def StR.toE(h:StR K M Z σ H P F):StE K M Z σ H P F:=⟨let⟨G,a,_,b⟩:=h.all;⟨G,a,b⟩,h.lst,h.prot⟩
def StE.keep(h:StE K M Z σ H P F)(e:Same H H'):∀a∈F,H' a=H a:=λa ha=>by
 obtain⟨ys,q⟩:=h.lst a ha;rw[q,e _ _ q]
def StE.lst'(h:StE K M Z σ H P F)(e:Same H H'):∀a∈F,∃ys:MuO,H' a=cz ys.1:=λa ha=>by
 obtain⟨ys,q⟩:=h.lst a ha;exact⟨ys,e _ _ q⟩
def N0(e:Same H H')(hf:∀a∈fp,H a=pz):Same (cut H F) (cut H' (fp++F)):=J0 e λa o ha jh=>by
 rcases ar.mp jh with z|z
 ·rw[hf a z]at ha;cases ha
 ·exact z
def StE.more(h:StE K M Z σ H P F)(e:Same H H')(hf:∀a∈fp,H a=pz)(hl:∀a∈fp,∃ys:MuO,H' a=cz ys.1):StE K M Z σ H' P (fp++F):=by
 obtain⟨G,h1,h3⟩:=h.all;have hc:Same (cut H F) (cut H' (fp++F)):=N0 e hf;refine⟨⟨G,h1.frame hc λa ha=>h.keep e a (h3 a ha),λa ha=>aq _ (h3 a ha)⟩,λa ha=>?_,h.prot.trans hc⟩;rcases ar.mp ha with z|z
 ·exact hl a z
 ·exact h.lst' e a z
def StE.grow(h:StE K M Z σ H P F)(e:Same H H'):StE K M Z σ H' P F:=h.more (fp:=[]) e (λa ha=>(nomatch ha)) λa ha=>(nomatch ha)
theorem StR.more(h:StR K M Z σ H P F)(e:Same H H')(hf:∀a∈fp,H a=pz)(hl:∀a∈fp,∃ys:MuO,H' a=cz ys.1):StR K M Z σ H' P (fp++F):=by
 obtain⟨G,h1,h2,h3⟩:=h.all;have S:=h.toE.more e hf hl;exact⟨⟨G,h1.frame (N0 e hf) λa ha=>h.toE.keep e a (h3 a ha),h2,λa ha=>aq _ (h3 a ha)⟩,S.lst,S.prot⟩
def StR.grow(h:StR K M Z σ H P F)(e:Same H H'):StR K M Z σ H' P F:=h.more (fp:=[]) e (λa ha=>(nomatch ha)) λa ha=>(nomatch ha)
def D5(h:Z[i]?=cz d):Z.getD i x=d:=by rw[ai,h];rfl
def StE.get(h:StE K M Z σ H P F)(hm:M[i]?=cz (.own u)):∃v f,σ[i]?=cz (cz v)/\Own K H F u v (Z.getD i .none) f/\∀a∈f,a∈F:=by
 obtain⟨G,h1,h3⟩:=h.all;obtain⟨d,o,f,pre,post,e1,e2,⟨v,rfl,q⟩,e4,_⟩:=h1.at_ hm;refine⟨v,f,e2,by rw[D5 e1];exact q,λa ha=>h3 a ?_⟩;rw[e4];exact aq _ (aw _ ha)
theorem StAll.pick(h:StAll K H F M Z σ G)(hG:∀a∈G,a∈F):∀js:List Nat,∃G',StAll K H F (js.map λj=>M.getD j .dead) (js.map λj=>Z.getD j .none) (js.map λj=>(σ[j]?).getD pz) G'/\∀a∈G',a∈F
 |[]=>⟨[],G0,λa ha=>(nomatch ha)⟩
 |j::js=>by
  obtain⟨G',q,hq⟩:=StAll.pick h hG js;cases e:M[j]? with
  |none=>
   refine⟨[]++G',?_,λa ha=>hq a (by simpa using ha)⟩;have:M.getD j .dead=.dead:=by rw[ai,e];rfl
   rw[aA,aA,aA,this];exact j7 rfl q
  |some m=>
   obtain⟨d,o,f,pre,post,e1,e2,e3,e4,_⟩:=h.at_ e;refine⟨f++G',?_,λa ha=>?_⟩
   ·rw[aA,aA,aA,show M.getD j .dead=m by rw[ai,e];rfl,D5 e1,e2];exact j7 e3 q
   ·rcases ar.mp ha with z|z
    ·exact hG a (by rw[e4];exact aq _ (aw _ z))
    ·exact hq a z
def T0{pre f post:List au}(h:(pre++(f++post)).Nodup):(pre++post).Nodup:=
 h.sublist (vc (gj _) (List.sublist_append_right _ _))
def mem_mid{pre f post:List au}{a:au}(h:a∈pre++post):a∈pre++(f++post):=by
 rcases ar.mp h with h|h
 ·exact aw _ h
 ·exact aq _ (aq _ h)
def a2q{pre f post:List au}(h:(pre++post).Nodup)(hf:f.Nodup)(d:∀a∈f,a∉pre++post):(pre++(f++post)).Nodup:=by
 rw[cB]at h ⊢;obtain⟨h1,h2,h3⟩:=h;refine⟨h1,?_,λa ha b hb=>?_⟩
 ·rw[cB];exact⟨hf,h2,λa ha b hb e=>d a ha (e▸aq _ hb)⟩
 ·rcases ar.mp hb with z|z
  ·intro e;exact d b z (e▸aw _ ha)
  ·exact h3 a ha b z
def a5V{pre f post:List au}{a:au}(h:a∈pre++(f++post)):a∈f∨a∈pre++post:=by
 rcases ar.mp h with h|h
 ·exact .inr (aw _ h)
 ·rcases ar.mp h with h|h
  ·exact .inl h
  ·exact .inr (aq _ h)
def a6U{pre f post:List au}(h:(pre++(f++post)).Nodup):∀a∈f,a∉pre++post:=λa ha z=>by
 rw[cB,cB]at h;rcases ar.mp z with z|z
 ·exact h.2.2 a z a (aw _ ha) rfl
 ·exact h.2.1.2.2 a ha a z rfl
theorem StR.set{H1:Hp}{i:Nat}{m:Md}{u:Ty}{v:V}{d:D}{fp:List au}(h:StR K M Z σ H P F)(hm:M[i]?=cz m)(e:Same H H1)(hv:Own K H1 (fp++F) u v d fp)(hn:fp.Nodup)(hf:∀a∈fp,H a=pz) :
  StR K (M.set i (.own u)) (Z.set i d) (σ.set i (cz v)) H1 P (fp++F):=by
 obtain⟨G,h1,h2,h3⟩:=h.all;have S:=h.more e hf (hv.lst u);obtain⟨d0,o,f,pre,post,e1,e2,e3,e4,e5⟩:=h1.at_ hm;have kA:=h2;rw[e4]at kA;have hG:∀a∈pre++post,a∈F:=λa ha=>h3 a (by rw[e4];exact mem_mid ha)
 have hc:Same (cut H F) (cut H1 (fp++F)):=J0 e λa o ha jh=>by
  rcases ar.mp jh with z|z
  ·rw[hf a z]at ha;cases ha
  ·exact z
 refine⟨⟨pre++(fp++post),e5 H1 _ (.own u) d (cz v) fp (λa ha=>h.toE.keep e a (hG a ha)) hc ⟨v,rfl,hv⟩,a2q (T0 kA) hn λa ha z=>?_,λa ha=>?_⟩,S.lst,S.prot⟩
 ·obtain⟨ys,q⟩:=h.lst a (hG a z);rw[hf a ha]at q;cases q
 ·rcases a5V ha with z|z
  ·exact aw _ z
  ·exact aq _ (hG a z)
def StR.kill{i:Nat}{m:Md}(h:StR K M Z σ H P F)(hm:M[i]?=cz m)(d:D)(o:Option V):StR K (M.set i .dead) (Z.set i d) (σ.set i o) H P F:=by
 obtain⟨G,h1,h2,h3⟩:=h.all;obtain⟨d0,o0,f,pre,post,e1,e2,e3,e4,e5⟩:=h1.at_ hm;rw[e4]at h2;exact⟨⟨pre++([]++post),e5 H F .dead d o [] (λ_ _=>rfl) (Same.refl _) rfl,T0 h2,λa ha=>h3 a (by rw[e4];exact mem_mid ha)⟩,h.lst,h.prot⟩
def set_same{α:Type}{l:List α}{i:Nat}{x:α}(h:l[i]?=cz x):l.set i x=l:=iw λj=>by
 rw[List.getElem?_set]
 split
 ·next hj=>
  subst hj
  split
  ·exact h.symm
  ·next hh=>exact (ju (by lia)).symm
 ·rfl
theorem StR.dead{i:Nat}{m:Md}(h:StR K M Z σ H P F)(hm:M[i]?=cz m):StR K (M.set i .dead) Z σ H P F:=by
 obtain⟨G,h1,_⟩:=h.all;obtain⟨d0,o0,f,pre,post,e1,e2,_⟩:=h1.at_ hm;have:=h.kill hm d0 o0
 rwa[set_same e1,set_same e2]at this
def Own.freeze(h:Own K H F u v d fp)(hs:∀a∈F',a∈F)(hd:∀a∈fp,a∉F'):Own K H F' .f v d []:=by
 have key:∀(u:Ty) {v:V} {d:D} {fp:List au},Own K H F u v d fp->(∀a∈fp,a∉F')->Den K (cut H F') v d:=by
  intro u;refine Ty.rec (motive_1:=λu=>∀{v:V} {d:D} {fp:List au},Own K H F u v d fp->(∀a∈fp,a∉F')->Den K (cut H F') v d)
   (motive_2:=λus=>∀{xs:List V} {ds:List D} {fp:List au},OwnTs K H F us xs ds fp->(∀a∈fp,a∉F')->DenAll K (cut H F') xs ds) ?_ ?_ ?_ ?_ ?_ ?_ ?_ u
  ·intro v d fp h _;simp only[Own]at h;exact h.2.2.up (J1 hs)
  ·intro v d fp h _;simp only[Own]at h;exact h.2.up (J1 hs)
  ·intro u ih v d fp h hd;simp only[Own]at h;rcases h with⟨_,_,h⟩|⟨a,xs,ds,fs,rfl,h1,rfl,rfl,h2⟩
   ·exact h.up (J1 hs)
   ·refine den_list (.inl (.inl (l0 (hd a aD) h1))) (ListAll.den (R:=λv d f=>Own K H F u v d f/\∀a∈f,a∉F') (λv d f q=>ih q.1 q.2) (h2.imp λv d f hf _ q=>⟨q,λb hb=>hd b (av _ (hf b hb))⟩))
  ·intro us ih v d fp h hd;simp only[Own]at h;obtain⟨a,xs,ds,rfl,h1,h0,rfl,h2⟩:=h;exact den_tup (SqT.of (l0 (λz=>h0 (hs a z)) h1)) (ih h2 hd)
  ·intro kt u ih v d fp h hd;simp only[Own]at h;obtain⟨a,es,ds,fs,rfl,h1,rfl,rfl,h3,h2⟩:=h;exact a2p (l0 (hd a aD) h1) (λe he=>(h3.2 e he).2.up (J1 hs)) (ListAll.den (R:=λv d f=>Own K H F u v d f/\∀a∈f,a∉F') (λv d f q=>ih q.1 q.2) (h2.imp λv d f hf _ q=>⟨q,λb hb=>hd b (av _ (hf b hb))⟩))
  ·intro xs ds fp h _;simp only[OwnTs]at h;obtain⟨rfl,rfl,_⟩:=h;exact denAll_nil
  ·intro u us vI vH xs ds fp h hd;simp only[OwnTs]at h;obtain⟨v,r,d,e,f,g,rfl,rfl,rfl,h1,h2⟩:=h;exact denAll_cons (vI h1 λa ha=>hd a (aw _ ha)) (vH h2 λa ha=>hd a (aq _ ha))
 simp only[Own];exact⟨trivial,key u h hd⟩
theorem StR.freeze{i:Nat}{u:Ty}(h:StR K M Z σ H P F)(hm:M[i]?=cz (.own u)):∃F',StR K (M.set i (.own .f)) Z σ H P F':=by
 obtain⟨G,h1,h2,h3⟩:=h.all;obtain⟨d,o,f,pre,post,e1,e2,⟨v,rfl,e3⟩,e4,e5⟩:=h1.at_ hm;rw[e4]at h2;have iV:∀a∈F.filter (λa=>decide (a∉f)),a∈F:=λa ha=>(dC.mp ha).1
 have vX:∀a∈f,a∉F.filter (λa=>decide (a∉f)):=λa ha z=>absurd ha (bN (dC.mp z).2)
 have hc:Same (cut H F) (cut H (F.filter (λa=>decide (a∉f)))):=J1 iV;have q:=e5 H _ (.own .f) d (cz v) [] (λ_ _=>rfl) hc ⟨v,rfl,e3.freeze iV vX⟩;rw[set_same e1,set_same e2]at q;refine⟨_,⟨_,q,T0 h2,λa ha=>dC.mpr ⟨h3 a (by rw[e4];exact mem_mid ha),aU λz=>a6U h2 a z ha⟩⟩,λa ha=>h.lst a (iV a ha),h.prot.trans hc⟩
end
inductive Cat where
 |new (u:Ty)|bor (u:Ty)|tmp
def ResR(K:ae)(c:Cat)(H H':Hp)(F:List au)(v:V)(d:D):Prop:=
 match c with
 |.new u=>∃fp,Own K H' (fp++F) u v d fp/\fp.Nodup/\∀a∈fp,H a=pz
 |.bor u=>∃fp,Own K H' F u v d fp/\∀a∈fp,a∈F
 |.tmp=>Den K H' v d
section
variable {K:ae}{c:Cat}{H H0 H' H1 H2:Hp}{F:List au}{v:V}{d:D}
theorem ResR.den(r:ResR K c H H' F v d):Den K H' v d:=by
 cases c with
 |new u=>obtain⟨fp,h,_⟩:=r;exact h.den u
 |bor u=>obtain⟨fp,h,_⟩:=r;exact h.den u
 |tmp=>exact r
def Own.grow(h:Own K H1 F u v d fp)(e:Same H1 H2):Own K H2 F u v d fp:=
 h.frame (D7 e) u λa ha=>by obtain⟨ys,q⟩:=h.lst u a ha;rw[q,e _ _ q]
theorem ResR.up(r:ResR K c H H1 F v d)(e:Same H1 H2):ResR K c H H2 F v d:=by
 cases c with
 |new u=>obtain⟨fp,h,q⟩:=r;exact⟨fp,h.grow e,q⟩
 |bor u=>obtain⟨fp,h,q⟩:=r;exact⟨fp,h.grow e,q⟩
 |tmp=>exact Den.up r e
def ResR.early(r:ResR K c H H1 F v d)(e:Same H0 H):ResR K c H0 H1 F v d:=by
 cases c with
 |new u=>obtain⟨fp,h,n,q⟩:=r;exact⟨fp,h,n,λa ha=>e.free (q a ha)⟩
 |bor u=>exact r
 |tmp=>exact r
def Q5(hi:imm d=true)(hd:Den K H' v d)(hF:∀a∈F,∃ys:MuO,H' a=cz ys.1):ResR K (.new .i) H H' F v d:=by
 refine⟨[],?_,bW,λa ha=>(nomatch ha)⟩;simp only[Own,cx];exact⟨trivial,hi,hd.imm_out hF d hi⟩
def a0V(h:Own K H F .i v d fp):fp=[]/\imm d=true/\Den K (cut H F) v d:=by simpa only [Own]using h
def a5W(h:Own K H F .f v d fp):fp=[]/\Den K (cut H F) v d:=by simpa only [Own]using h
end
abbrev EvE:=List D->Option D
abbrev EvT:=List D->Option Bool
noncomputable def spE(K:ae)(M:List Md)(f:EvE)(c:Cat):TE:=λσ H Q=>∃(Z:List D) (P:Hp) (F:List au) (d:D),StE K M Z σ H P F/\f Z=cz d/\∀v H',Same H H'->ResR K c H H' F v d->Q v H'
noncomputable def PX(X:Cx)(M:List Md)(e:Expr)(f:EvE)(c:Cat):Prop:=PE X e (spE X.K M f c)
def PX.out{X:Cx}{M:List Md}{e:Expr}{f:EvE}{c:Cat}(h:PX X M e f c) :
  ∃t,PE X e t/\∀(Z:List D) (σ:L2.St) (H P:Hp) (F:List au) (d:D) (Q:VK),StE X.K M Z σ H P F->f Z=cz d->(∀v H',Same H H'->ResR X.K c H H' F v d->Q v H')->t σ H Q:=
 ⟨_,h,λZ _ _ P F d _ S hf q=>⟨Z,P,F,d,S,hf,q⟩⟩
def PX.mk{X:Cx}{M:List Md}{e:Expr}{f:EvE}{c:Cat}
  (h:∃t,PE X e t/\∀(Z:List D) (σ:L2.St) (H P:Hp) (F:List au) (d:D) (Q:VK),StE X.K M Z σ H P F->f Z=cz d->(∀v H',Same H H'->ResR X.K c H H' F v d->Q v H')->t σ H Q):PX X M e f c:=by
 obtain⟨t,p,q⟩:=h;exact λpins s σ H Q I ⟨Z,P,F,d,S,hf,z⟩=>p pins s σ H Q I (q Z σ H P F d Q S hf z)
noncomputable def spT(K:ae)(M:List Md)(g:EvT):TT:=λσ H Q=>∃(Z:List D) (P:Hp) (F:List au) (b:Bool),StE K M Z σ H P F/\g Z=cz b/\∀H',Same H H'->Q b H'
noncomputable def PTX(X:Cx)(M:List Md)(e:Expr)(g:EvT):Prop:=PT X e (spT X.K M g)
def PTX.out{X:Cx}{M:List Md}{e:Expr}{g:EvT}(h:PTX X M e g) :
  ∃t,PT X e t/\∀(Z:List D) (σ:L2.St) (H P:Hp) (F:List au) (b:Bool) (Q:Bool->Hp->Prop),StE X.K M Z σ H P F->g Z=cz b->(∀H',Same H H'->Q b H')->t σ H Q:=
 ⟨_,h,λZ _ _ P F b _ S hf q=>⟨Z,P,F,b,S,hf,q⟩⟩
def PTX.mk{X:Cx}{M:List Md}{e:Expr}{g:EvT}
  (h:∃t,PT X e t/\∀(Z:List D) (σ:L2.St) (H P:Hp) (F:List au) (b:Bool) (Q:Bool->Hp->Prop),StE X.K M Z σ H P F->g Z=cz b->(∀H',Same H H'->Q b H')->t σ H Q):PTX X M e g:=by
 obtain⟨t,p,q⟩:=h;exact λpins s σ H Q I ⟨Z,P,F,d,S,hf,z⟩=>p pins s σ H Q I (q Z σ H P F d Q S hf z)
noncomputable def PWX(X:Cx)(M:List Md)(e:Expr)(g:EvT):Prop:=PW X e (spT X.K M g)
def PWX.out{X:Cx}{M:List Md}{e:Expr}{g:EvT}(h:PWX X M e g) :
  ∃t,PW X e t/\∀(Z:List D) (σ:L2.St) (H P:Hp) (F:List au) (b:Bool) (Q:Bool->Hp->Prop),StE X.K M Z σ H P F->g Z=cz b->(∀H',Same H H'->Q b H')->t σ H Q:=
 ⟨_,h,λZ _ _ P F b _ S hf q=>⟨Z,P,F,b,S,hf,q⟩⟩
def PWX.mk{X:Cx}{M:List Md}{e:Expr}{g:EvT}
  (h:∃t,PW X e t/\∀(Z:List D) (σ:L2.St) (H P:Hp) (F:List au) (b:Bool) (Q:Bool->Hp->Prop),StE X.K M Z σ H P F->g Z=cz b->(∀H',Same H H'->Q b H')->t σ H Q):PWX X M e g:=by
 obtain⟨t,p,q⟩:=h;exact λwhole pins s σ H Q I ⟨Z,P,F,d,S,hf,z⟩=>p whole pins s σ H Q I (q Z σ H P F d Q S hf z)
abbrev EvA:=List D->Option (List D)
noncomputable def PAX(X:Cx)(M:List Md)(es:List Expr)(f:EvA):Prop:=
 ∃t,PA X es t/\∀(Z:List D) (σ:L2.St) (H P:Hp) (F:List au) (ds:List D) (Q:List V->Hp->Prop),StE X.K M Z σ H P F->f Z=cz ds->(∀vs H',Same H H'->DenAll X.K H' vs ds->Q vs H')->t σ H Q
noncomputable def PAN(X:Cx)(M:List Md)(es:List Expr)(f:EvA)(us:List Ty):Prop:=
 ∃t,PA X es t/\∀(Z:List D) (σ:L2.St) (H P:Hp) (F:List au) (ds:List D) (Q:List V->Hp->Prop),StE X.K M Z σ H P F->f Z=cz ds->
  (∀vs H' fp,Same H H'->OwnTs X.K H' (fp++F) us vs ds fp->fp.Nodup->(∀a∈fp,H a=pz)->Q vs H')->t σ H Q
noncomputable def a5(i:Nat):EvE:=λZ=>cz (Z.getD i .none)
noncomputable def eC(d:D):EvE:=λ_=>cz d
noncomputable def e1(g:D->Option D)(a:EvE):EvE:=λZ=>(a Z).bind g
noncomputable def e2(g:D->D->Option D)(a b:EvE):EvE:=λZ=>(a Z).bind λx=>(b Z).bind λy=>g x y
def asB:D->Option Bool
 |.bool b=>cz b
 |_=>pz
noncomputable def a0z(a b:EvE):EvE:=λZ=>(a Z).bind λx=>(asB x).bind λk=>if k then b Z else cz (.bool false)
noncomputable def eOr(a b:EvE):EvE:=λZ=>(a Z).bind λx=>(asB x).bind λk=>if k then cz (.bool true) else b Z
noncomputable def b4N(a:EvE):EvE:=λZ=>(a Z).bind λx=>(asB x).bind λk=>cz (.bool !k)
noncomputable def eIf(c:EvT)(a b:EvE):EvE:=λZ=>(c Z).bind λk=>if k then a Z else b Z
noncomputable def eCh(g g':D->D->Option D)(a b c:EvE):EvE:=λZ=>(a Z).bind λx=>(b Z).bind λy=>(g x y).bind λz=>(asB z).bind λk=>if k then (c Z).bind λw=>g' y w else cz (.bool false)
def tr:D->Option Bool
 |.none=>cz false
 |.bool b=>cz b
 |.int i=>cz (i !=0)
 |.str x=>if x.length<=bh then cz ((x.length:Int)!=0) else pz
 |.list ds=>cz !ds.isEmpty
 |.tuple ds=>cz !ds.isEmpty
 |.dict _=>pz
noncomputable def tV(a:EvE):EvT:=λZ=>(a Z).bind tr
noncomputable def tB(a:EvE):EvT:=λZ=>(a Z).bind asB
noncomputable def tNo(a:EvT):EvT:=λZ=>(a Z).bind λk=>cz !k
noncomputable def tAn(a b:EvT):EvT:=λZ=>(a Z).bind λk=>if k then b Z else cz false
noncomputable def K5(a b:EvT):EvT:=λZ=>(a Z).bind λk=>if k then cz true else b Z
def b9:List D->Option (List D):=λ_=>cz []
noncomputable def a6(a:EvE)(r:List D->Option (List D)):List D->Option (List D):=λZ=>(a Z).bind λx=>(r Z).bind λxs=>cz (x::xs)
def Q6(h:asB d=cz k):d=.bool k:=by
 cases d with
 |bool b=>cases h;rfl
 |_=>cases h
def bnd{α β:Type}{o:Option α}{f:α->Option β}{b:β}(h:o.bind f=cz b):∃a,o=cz a/\f a=cz b:=Option.bind_eq_some_iff.mp h
section
variable {X:Cx}{M:List Md}{a b e e':Expr}{es rest:List Expr}{f g fa fb fc:EvE}{ga gb:EvT}{c ca cb cc:Cat}{u:Ty}{us:List Ty}{pos:eH}
def PX.imp(h:PX X M e f c)(k:∀(K:ae) (H H':Hp) (F:List au) (v:V) (d:D),(∀a∈F,∃ys:MuO,H a=cz ys.1)->Same H H'->ResR K c H H' F v d->ResR K c' H H' F v d):PX X M e f c':=by
 obtain⟨t,p,q⟩:=h.out;exact .mk ⟨t,p,λZ σ H P F d Q S hf z=>q Z σ H P F d Q S hf λv H' e r=>z v H' e (k _ _ _ _ _ _ S.lst e r)⟩
def PX.newf(h:PX X M e f (.bor .f)):PX X M e f (.new .f):=h.imp λK H H' F v d _ _ ⟨fp,o,_⟩=>by
 obtain⟨rfl,_⟩:=a5W o;exact⟨[],o,bW,λa ha=>(nomatch ha)⟩
def PX.newi(h:PX X M e f (.bor .i)):PX X M e f (.new .i):=h.imp λK H H' F v d _ _ ⟨fp,o,_⟩=>by
 obtain⟨rfl,_⟩:=a0V o;exact⟨[],o,bW,λa ha=>(nomatch ha)⟩
def PX.itol(h:PX X M e f (.new .i)):PX X M e f (.new (.l u)):=h.imp λK H H' F v d _ _ ⟨fp,o,n,z⟩=>by
 obtain⟨rfl,w,q⟩:=a0V o;refine⟨[],?_,n,z⟩;simp only[Own];exact .inl ⟨trivial,w,q⟩
def PX.frz(h:PX X M e f (.new u)):PX X M e f (.new .f):=h.imp λK H H' F v d hF _ ⟨fp,o,n,z⟩=>by
 refine⟨[],o.freeze (λa ha=>aq _ (by simpa using ha)) (λa ha BC=>?_),bW,λa ha=>(nomatch ha)⟩;obtain⟨ys,q⟩:=hF a (by simpa using BC);rw[z a ha]at q;cases q
def o9(i:Nat)(hN:X.N[i]?=cz x:=by rfl)(hv:Vis X.env.scope x:=by first|exact cX rfl|exact cR (cX rfl)|exact cR (cR rfl))(hd:(x==("__debug__":br))=false:=by decide)
  (gu:(x==("__classdict__":br))=false:=by decide) (hm:M[i]?=cz (.own u):=by rfl):PX X M (.Name x pos) (a5 i) (.bor u):=by
 refine .mk ⟨_,P6 hN hv hd gu,λZ σ H P F d Q S hf q=>?_⟩;cases hf
 obtain⟨v,fp,e,o,sub⟩:=S.get hm;exact⟨v,e,q v H (Same.refl _) ⟨fp,o,sub⟩⟩
def W4(h:PE X e (tC v))(hi:imm d=true)(hd:∀H,Den X.K H v d):PX X M e (eC d) (.new .i):=by
 refine .mk ⟨_,h,λZ σ H P F d' Q S hf q=>?_⟩;cases hf
 exact q v H (Same.refl _) (Q5 hi (hd H) S.lst)
def a7{i j}:PX X M (.Constant (.int i) j pos) (eC (.int i)) (.new .i):=W4 a7U (by simp only[imm]) λ_=>den_int
def C2{k j}:PX X M (.Constant (.bool k) j pos) (eC (.bool k)) (.new .i):=W4 b4q (by simp only[imm]) λ_=>den_bool
def a4V{j}:PX X M (.Constant .none j pos) (eC .none) (.new .i):=W4 b2e (by simp only[imm]) λ_=>den_none
def a2Y{x j}:PX X M (.Constant (.str x) j pos) (eC (.str x)) (.new .i):=W4 a7V (by simp only[imm]) λ_=>den_str
def F7{g:D->D->Option D}{Z:List D}{d:D}(h:e2 g fa fb Z=cz d):∃x y,fa Z=cz x/\fb Z=cz y/\g x y=cz d:=by
 obtain⟨x,h1,h⟩:=bnd h;obtain⟨y,h2,h⟩:=bnd h;exact⟨x,y,h1,h2,h⟩
def i4{g:D->D->Option D}(ho:OpS X (eX op) g)(ha:PX X M a fa ca)(hb:PX X M b fb cb):PX X M (.BinOp a op b pos) (e2 g fa fb) (.new .i):=by
 obtain⟨r,hr,hs⟩:=ho;obtain⟨ta,pa,qa⟩:=ha.out;obtain⟨tb,pb,qb⟩:=hb.out;refine .mk ⟨_,b1L hr pa pb,λZ σ H P F d Q S hf q=>?_⟩;obtain⟨x,y,h1,h2,h3⟩:=F7 hf;exact qa Z σ H P F x _ S h1 λv H1 e1 r1=>qb Z σ H1 P F y _ (S.grow e1) h2 λw H2 e2 r2=>hs v w H2 x y d Q (r1.den.up e2) r2.den h3 λz hi hd=>q z H2 (e1.trans e2) (Q5 hi (hd H2) (S.lst' (e1.trans e2)))
def U8{g:D->D->Option D}(ho:OpS X (cD op) g)(ha:PX X M a fa ca)(hb:PX X M b fb cb)(hm:gf op b=false:=by first|exact a4O _|with_unfolding_all rfl):PX X M (.Compare a [op] [b] pos) (e2 g fa fb) (.new .i):=by
 obtain⟨r,hr,hs⟩:=ho;obtain⟨ta,pa,qa⟩:=ha.out;obtain⟨tb,pb,qb⟩:=hb.out;refine .mk ⟨_,b0h hr pa pb hm,λZ σ H P F d Q S hf q=>?_⟩;obtain⟨x,y,h1,h2,h3⟩:=F7 hf;exact qa Z σ H P F x _ S h1 λv H1 e1 r1=>qb Z σ H1 P F y _ (S.grow e1) h2 λw H2 e2 r2=>hs v w H2 x y d Q (r1.den.up e2) r2.den h3 λz hi hd=>q z H2 (e1.trans e2) (Q5 hi (hd H2) (S.lst' (e1.trans e2)))
def m7{op:CmpOp}{g:D->D->Option D}(ho:OpS X (cD op) g)(ha:PX X M a fa ca)(hb:PX X M b fb cb)(hm:gf op b=false:=by first|exact a4O _|with_unfolding_all rfl):PTX X M (.Compare a [op] [b] pos) (tB (e2 g fa fb)):=by
 obtain⟨r,hr,hs⟩:=ho;obtain⟨ta,pa,qa⟩:=ha.out;obtain⟨tb,pb,qb⟩:=hb.out;refine .mk ⟨_,a5S hr pa pb hm,λZ σ H P F k Q S hf q=>?_⟩;obtain⟨d,hf,hk⟩:=bnd hf;cases Q6 hk
 obtain⟨x,y,h1,h2,h3⟩:=F7 hf;exact qa Z σ H P F x _ S h1 λv H1 e1 r1=>qb Z σ H1 P F y _ (S.grow e1) h2 λw H2 e2 r2=>hs v w H2 x y _ _ (r1.den.up e2) r2.den h3 λz hi hd=>⟨k,(hd H2).bool_inv,q H2 (e1.trans e2)⟩
def a6V{op rK:CmpOp}{g g':D->D->Option D}{c0:Expr}(ho:OpS X (cD op) g)(lS:OpS X (cD rK) g')(ha:PX X M a fa ca)(hb:PX X M b fb cb)(hc:PX X M c0 fc cc)(hm:lastMarks [op,rK] [b,c0]=false:=by with_unfolding_all rfl) :
  PTX X M (.Compare a [op,rK] [b,c0] pos) (tB (eCh g g' fa fb fc)):=by
 obtain⟨r,hr,hs⟩:=ho;obtain⟨r',Ao,gG⟩:=lS;obtain⟨ta,pa,qa⟩:=ha.out;obtain⟨tb,pb,qb⟩:=hb.out;obtain⟨tc,pc,qc⟩:=hc.out;refine .mk ⟨_,a8a hr Ao pa pb pc hm,λZ σ H P F k0 Q S hf q=>?_⟩;obtain⟨d,hf,hk⟩:=bnd hf;cases Q6 hk
 obtain⟨x,h1,hf⟩:=bnd hf;obtain⟨y,h2,hf⟩:=bnd hf;obtain⟨z,h3,hf⟩:=bnd hf;obtain⟨k,h4,hf⟩:=bnd hf;cases Q6 h4
 refine qa Z σ H P F x _ S h1 λv H1 e1 r1=>qb Z σ H1 P F y _ (S.grow e1) h2 λw H2 e2 r2=>hs v w H2 x y _ _ (r1.den.up e2) r2.den h3 λz hi hd=>⟨k,(hd H2).bool_inv,?_⟩
 cases k with
 |false=>
  have lU:k0=false:=by injection (aK hf).symm
  subst lU;exact a2V ⟨false,rfl,q H2 (e1.trans e2)⟩
 |true=>
  obtain⟨w',h5,hf⟩:=bnd (show (fc Z).bind (λw=>g' y w)=cz (.bool k0) from hf);exact a2W (qc Z σ H2 P F w' _ (S.grow (e1.trans e2)) h5 λw3 H3 e3 r3=>gG w w3 H3 y w' _ _ (r2.den.up e3) r3.den hf λz hi hd=>⟨k0,(hd H3).bool_inv,q H3 ((e1.trans e2).trans e3)⟩)
def a0W(h:PX X M a f c):PX X M (.BoolOp op [a] pos) f c:=by
 obtain⟨t,p,q⟩:=h.out;exact .mk ⟨t,b2i p,q⟩
def a0X(ha:PX X M a fa ca)(hb:PX X M (.BoolOp .And (b::rest) pos) fb (.new .i)):PX X M (.BoolOp .And (a::b::rest) pos) (a0z fa fb) (.new .i):=by
 obtain⟨ta,pa,qa⟩:=ha.out;obtain⟨tb,pb,qb⟩:=hb.out;refine .mk ⟨_,b2j pa pb,λZ σ H P F d Q S hf q=>?_⟩;obtain⟨x,h1,hf⟩:=bnd hf;obtain⟨k,h2,hf⟩:=bnd hf;cases Q6 h2
 refine qa Z σ H P F _ _ S h1 λv H1 e1 r1=>⟨k,r1.den.bool_inv,?_⟩
 cases k with
 |false=>
  have lU:d=.bool false:=(aK hf).symm;subst lU;exact a2V (q _ H1 e1 (Q5 (by simp only[imm]) den_bool (S.lst' e1)))
 |true=>exact a2W (qb Z σ H1 P F d Q (S.grow e1) hf λw H2 e2 r2=>q w H2 (e1.trans e2) (r2.early e1))
def b2N:PX X M (.UnaryOp .USub (.Constant (.int i) j p) pos) (eC (.int (-i))) (.new .i):=by
 refine .mk ⟨_,b4z b2z a7U,λZ σ H P F d Q S hf q=>?_⟩;cases hf
 exact⟨i,rfl,q _ H (Same.refl _) (Q5 (by simp only[imm]) den_int S.lst)⟩
def b2O(h:Den K H v d)(ht:tr d=cz k):b2D K v H k:=by
 cases d with
 |none=>cases h.none_inv;cases ht;exact rfl
 |bool b=>cases h.bool_inv;cases ht;exact rfl
 |int i=>cases h.int_inv;cases ht;exact rfl
 |str x=>
  cases h.str_inv
  replace ht:(if x.length<=bh then cz ((x.length:Int)!=0) else pz)=cz k:=ht
  by_cases z:x.length<=bh
  ·rw[aL z]at ht;cases ht
   exact⟨z,rfl⟩
  ·rw[aS z]at ht;cases ht
 |list ds=>
  obtain⟨a,xs,rfl,h1,h2⟩:=h.list_inv;cases ht
  refine .inl ⟨xs,h1.l,?_⟩;have:=h2.length;cases xs<;>cases ds<;>simp_all
 |tuple ds=>
  obtain⟨a,xs,rfl,h1,h2⟩:=h.tup_inv;cases ht
  refine .inr (.inl ⟨xs,h1,?_⟩);have:=h2.length;cases xs<;>cases ds<;>simp_all
 |dict kvs=>cases ht
def m8(ha:PX X M a fa ca)(he:∀whole,zP a X.env whole=(do let v <-whole;standAt a.pos;lR [v] (truthy v)):=by intro _;rfl):PTX X M a (tV fa):=by
 obtain⟨ta,pa,qa⟩:=ha.out;refine .mk ⟨_,a8b pa he,λZ σ H P F k Q S hf q=>?_⟩;obtain⟨x,h1,hf⟩:=bnd hf;exact qa Z σ H P F _ _ S h1 λv H1 e1 r1=>⟨k,b2O r1.den hf,q H1 e1⟩
def O2(h:PTX X M a ga):PTX X M (.UnaryOp .Not a pos) (tNo ga):=by
 obtain⟨ta,pa,qa⟩:=h.out;refine .mk ⟨_,b2h pa,λZ σ H P F k Q S hf q=>?_⟩;obtain⟨x,h1,hf⟩:=bnd hf;cases hf
 exact qa Z σ H P F _ _ S h1 λH1 e1=>q H1 e1
theorem PWX.pt(h:PWX X M e ga):PTX X M e ga:=by
 obtain⟨t,p,q⟩:=h.out;exact .mk ⟨t,p.pt,q⟩
def a3J(h:PTX X M a ga):PWX X M (.BoolOp .And [a] pos) ga:=by
 obtain⟨t,p,q⟩:=h.out;exact .mk ⟨t,b0c p,q⟩
def D6(h:PTX X M a ga):PWX X M (.BoolOp .Or [a] pos) ga:=by
 obtain⟨t,p,q⟩:=h.out;exact .mk ⟨t,b2f p,q⟩
def a5X(ha:PTX X M a ga)(hb:PWX X M (.BoolOp .And (b::rest) pos) gb):PWX X M (.BoolOp .And (a::b::rest) pos) (tAn ga gb):=by
 obtain⟨ta,pa,qa⟩:=ha.out;obtain⟨tb,pb,qb⟩:=hb.out;refine .mk ⟨_,b2g pa pb,λZ σ H P F k Q S hf q=>?_⟩;obtain⟨x,h1,hf⟩:=bnd hf;refine qa Z σ H P F _ _ S h1 λH1 e1=>?_
 cases x with
 |false=>cases hf;exact a2V (q H1 e1)
 |true=>exact a2W (qb Z σ H1 P F k Q (S.grow e1) hf λH2 e2=>q H2 (e1.trans e2))
def A8(ha:PTX X M a ga)(hb:PWX X M (.BoolOp .Or (b::rest) pos) gb):PWX X M (.BoolOp .Or (a::b::rest) pos) (K5 ga gb):=by
 obtain⟨ta,pa,qa⟩:=ha.out;obtain⟨tb,pb,qb⟩:=hb.out;refine .mk ⟨_,b4r pa pb,λZ σ H P F k Q S hf q=>?_⟩;obtain⟨x,h1,hf⟩:=bnd hf;refine qa Z σ H P F _ _ S h1 λH1 e1=>?_
 cases x with
 |true=>cases hf;exact a2W (q H1 e1)
 |false=>exact a2V (qb Z σ H1 P F k Q (S.grow e1) hf λH2 e2=>q H2 (e1.trans e2))
def g9:PAX X M [] b9:=⟨_,A6,λZ σ H P F ds Q S hf q=>by cases hf;exact q [] H (Same.refl _) denAll_nil⟩
def a9{fr:List D->Option (List D)}(ha:PX X M a fa ca)(hr:PAX X M es fr)(hs:ax (a::es) X.env=(false,cU a X.env)::ax es X.env:=by rfl):PAX X M (a::es) (a6 fa fr):=by
 obtain⟨ta,pa,qa⟩:=ha.out;obtain⟨tr,pr,qr⟩:=hr;refine⟨_,p6 pa pr hs,λZ σ H P F ds Q S hf q=>?_⟩;obtain⟨x,h1,hf⟩:=bnd hf;obtain⟨xs,h2,hf⟩:=bnd hf;cases hf
 exact qa Z σ H P F _ _ S h1 λv H1 e1 r1=>qr Z σ H1 P F _ _ (S.grow e1) h2 λvs H2 e2 r2=>q (v::vs) H2 (e1.trans e2) (denAll_cons (r1.den.up e2) r2)
def j6:PAN X M [] b9 []:=⟨_,A6,λZ σ H P F ds Q S hf q=>by
 cases hf
 refine q [] H [] (Same.refl _) ?_ bW λa ha=>(nomatch ha)
 simp only[OwnTs];exact⟨trivial,trivial,trivial⟩⟩
def c9{fr:List D->Option (List D)}(ha:PX X M a fa (.new u))(hr:PAN X M es fr us)(hs:ax (a::es) X.env=(false,cU a X.env)::ax es X.env:=by rfl):PAN X M (a::es) (a6 fa fr) (u::us):=by
 obtain⟨ta,pa,qa⟩:=ha.out;obtain⟨tr,pr,qr⟩:=hr;refine⟨_,p6 pa pr hs,λZ σ H P F ds Q S hf q=>?_⟩;obtain⟨x,h1,hf⟩:=bnd hf;obtain⟨xs,h2,hf⟩:=bnd hf;cases hf
 refine qa Z σ H P F _ _ S h1 λv H1 e1 ⟨fp,o,n,fr⟩=>qr Z σ H1 P (fp++F) _ _ (S.more e1 fr (o.lst u)) h2 λvs H2 gp e2 o2 n2 wX=>?_
 have hl:=o.lst u;have hc:Same (cut H1 (fp++F)) (cut H2 (fp++gp++F)):=J0 e2 λa o' ha jh=>by
  rw[aI]at jh;rcases ar.mp jh with z|z
  ·exact aw _ z
  ·rcases ar.mp z with z|z
   ·rw[wX a z]at ha;cases ha
   ·exact aq _ z
 have hd:∀a∈gp,a∉fp:=λa ha z=>by
  obtain⟨ys,q⟩:=hl a z;rw[wX a ha]at q;cases q
 refine q (v::vs) H2 (fp++gp) (e1.trans e2) ?_ ?_ λa ha=>?_
 ·simp only[OwnTs];refine⟨v,vs,x,xs,fp,gp,rfl,rfl,rfl,o.frame hc u λa ha=>?_,o2.frame (H:=H2) (J1 λa ha=>?_) us λ_ _=>rfl⟩
  ·obtain⟨ys,q⟩:=hl a ha;rw[q,e2 _ _ q]
  ·simp only[ar]at ha ⊢;rcases ha with (z|z)|z
   ·exact .inr (.inl z)
   ·exact .inl z
   ·exact .inr (.inr z)
 ·rw[cB];exact⟨n,n2,λa ha b hb e=>hd b hb (e▸ha)⟩
 ·rcases ar.mp ha with z|z
  ·exact fr a z
  ·exact e1.free (wX a z)
end
section
variable {K:ae}{H H0 H1:Hp}{F fp:List au}{vs:List V}{ds:List D}{p:au}{u:Ty}{us:List Ty}
def b0x(hp:H p=pz):Same (cut H (fp++F)) (cut (upd H p o) (p::fp++F)):=J0 (q9 hp o) λa u ha jh=>by
 rw[cw]at jh;rcases aF.mp jh with z|z
 ·subst z;rw[hp]at ha;cases ha
 ·exact z
theorem a2r:∀{n:Nat} {vs:List V} {ds:List D} {fp:List au},OwnTs K H F (aB n u) vs ds fp->ListAll (Own K H F u) vs ds fp
 |0,_,_,_,h=>by
  simp only[fN,OwnTs]at h;obtain⟨rfl,rfl,rfl⟩:=h;exact p7
 |n+1,_,_,_,h=>by
  simp only[fO,OwnTs]at h;obtain⟨v,r,d,e,f,g,rfl,rfl,rfl,h1,h2⟩:=h;exact n4 h1 (a2r h2)
theorem OwnTs.len:∀{us:List Ty} {vs:List V} {ds:List D} {fp:List au},OwnTs K H F us vs ds fp->vs.length=us.length/\ds.length=us.length
 |[],_,_,_,h=>by simp only[OwnTs]at h;obtain⟨rfl,rfl,_⟩:=h;exact⟨rfl,rfl⟩
 |u::us,_,_,_,h=>by
  simp only[OwnTs]at h;obtain⟨v,r,d,e,f,g,rfl,rfl,rfl,_,h2⟩:=h;obtain⟨a,b⟩:=OwnTs.len h2;exact⟨by rw[aO,aO,a],by rw[aO,aO,b]⟩
def l6(e:Same (cut H F) (cut H1 F'))(h:ListAll (Own K H F u) vs ds fp)(k:∀a∈fp,H1 a=H a):ListAll (Own K H1 F' u) vs ds fp:=
 h.imp λv d f hf _ q=>q.frame e u λa ha=>k a (hf a ha)
def a3K(h:ListAll (Own K H1 (fp++F) u) vs ds fp)(hn:fp.Nodup)(hf:∀a∈fp,H a=pz)(e:Same H H1)(hp:H1 p=pz)(hl:∀a∈fp,∃ys:MuO,H1 a=cz ys.1):ResR K (.new (.l u)) H (upd H1 p (.lst vs)) F (.ref p) (.list ds):=by
 have sR:p∉fp:=λz=>by obtain⟨ys,q⟩:=hl p z;rw[hp]at q;cases q
 refine⟨p::fp,?_,cf.mpr ⟨sR,hn⟩,λa ha=>?_⟩
 ·simp only[Own];refine .inr ⟨p,vs,ds,fp,rfl,j8,rfl,rfl,l6 (b0x hp) h λa ha=>?_⟩;exact g7 λz=>sR (z▸ha)
 ·rcases aF.mp ha with z|z
  ·subst z;exact e.free hp
  ·exact hf a z
theorem ListAll.of_den:∀{vs:List V} {ds:List D},DenAll K H vs ds->(∀v d,d∈ds->Den K H v d->R v d [])->ListAll R vs ds []
 |_,[],h,_=>by rw[h.nil_inv];exact p7
 |_,d::ds,h,k=>by
  obtain⟨v,r,rfl,h1,h2⟩:=h.cons_inv;have:=n4 (f:=[]) (k v d aD h1) (ListAll.of_den h2 λv d hd=>k v d (av _ hd));exact this
theorem A9:∀{ds:List D} {d:D},f8 ds=true->d∈ds->imm d=true
 |[],d,_,h=>nomatch h
 |d0::ds,d,q,h=>by
  simp only[f8,aC]at q;rcases aF.mp h with z|z
  ·rw[z];exact q.1
  ·exact A9 q.2 z
def Y4(h:DenAll K H1 vs ds)(hi:f8 ds=true)(e:Same H H1)(hp:H1 p=pz)(hF:∀a∈F,∃ys:MuO,H1 a=cz ys.1):ResR K (.new (.l .i)) H (upd H1 p (.lst vs)) F (.ref p) (.list ds):=
 a3K (fp:=[]) (ListAll.of_den h λv d hd q=>by
  simp only[Own,cx];exact⟨trivial,A9 hi hd,q.imm_out hF d (A9 hi hd)⟩) bW (λa ha=>(nomatch ha)) e hp λa ha=>(nomatch ha)
def a8p(h:DenAll K H1 vs ds)(hp:H1 p=pz):Den K (upd H1 p (.tup vs)) (.ref p) (.tuple ds):=den_tup (SqT.of j8) (h.up (q9 hp _))
def b0y(h:f8 ds=true):imm (.tuple ds)=true:=by simpa only [imm]using h
end
noncomputable def u7(f:EvA):EvE:=λZ=>(f Z).bind λds=>cz (.list ds)
noncomputable def n8(f:EvA):EvE:=λZ=>(f Z).bind λds=>cz (.tuple ds)
def a2Z(d:D):Option D:=if imm d then cz d else pz
def a6W(h:a2Z d=cz e):e=d/\imm d=true:=by
 unfold a2Z at h;by_cases c:imm d=true
 ·rw[aL c]at h;exact⟨(aK h).symm,c⟩
 ·rw[aS c]at h;cases h
def a8q(d:D):Option D:=match d with
 |.list ds=>if f8 ds then cz d else pz
 |_=>pz
def a4W(h:a8q d=cz e):∃ds,d=.list ds/\e=.list ds/\f8 ds=true:=by
 cases d with
 |list ds=>
  have h':(if f8 ds=true then cz (lE ds) else pz)=cz e:=h;by_cases c:f8 ds=true
  ·rw[aL c]at h';exact⟨ds,rfl,(aK h').symm,c⟩
  ·rw[aS c]at h';cases h'
 |_=>cases h
section
variable {X:Cx}{M:List Md}{a b e:Expr}{es:List Expr}{fa fb:EvE}{f:EvA}{c ca cb:Cat}{u:Ty}{us:List Ty}{pos:eH}
def u9(h:PAN X M es f (aB n u))(hn:n<=1000:=by decide):PX X M (.List es pos) (u7 f) (.new (.l u)):=by
 obtain⟨t,p,q⟩:=h;refine .mk ⟨_,b2F p,λZ σ H P F d Q S hf k=>?_⟩;obtain⟨ds,h1,hf⟩:=bnd hf;cases hf
 refine q Z σ H P F ds _ S h1 λvs H1 fp e o nd fr=>⟨?_,λx hx=>k (.ref x) _ (e.trans (q9 hx _)) (a3K (a2r o) nd fr e hx (o.lst _))⟩
 rw[o.len.1,d_];exact dH (Y2 hn)
def a8r(h:PAN X M es f us)(hn:us.length<=1000:=by decide):PX X M (.Tuple es j pos) (n8 f) (.new (.tp us)):=by
 obtain⟨t,p,q⟩:=h;refine .mk ⟨_,a8c p,λZ σ H P F d Q S hf k=>?_⟩;obtain⟨ds,h1,hf⟩:=bnd hf;cases hf
 refine q Z σ H P F ds _ S h1 λvs H1 fp e o nd fr=>⟨?_,λx hx=>k (.ref x) _ (e.trans (q9 hx _)) ⟨fp,?_,nd,fr⟩⟩
 ·rw[o.len.1];exact dH (Y2 hn)
 ·have xU:x∉fp++F:=λz=>by
   rcases ar.mp z with z|z
   ·obtain⟨ys,q⟩:=o.lst _ x z;rw[hx]at q;cases q
   ·obtain⟨ys,q⟩:=S.lst' e x z;rw[hx]at q;cases q
  simp only[Own];refine⟨x,vs,ds,rfl,j8,xU,rfl,o.frame (D7 (q9 hx _)) us λa ha=>?_⟩;exact g7 λz=>xU (z▸aw _ ha)
theorem a3L:∀{n:Nat} {vs:List V} {ds:List D} {fp:List au},OwnTs K H F (aB n .i) vs ds fp->f8 ds=true
 |0,_,_,_,h=>by
  simp only[fN,OwnTs]at h;obtain⟨rfl,rfl,rfl⟩:=h;simp only[f8]
 |n+1,_,_,_,h=>by
  simp only[fO,OwnTs]at h;obtain⟨v,r,d,e,f,g,rfl,rfl,rfl,h1,h2⟩:=h;simp only[f8,aC];exact⟨(a0V h1).2.1,a3L h2⟩
def z7{j}(h:PAN X M es f (aB n .i))(hn:n<=1000:=by decide):PX X M (.Tuple es j pos) (n8 f) (.new .i):=by
 obtain⟨t,p,q⟩:=h;refine .mk ⟨_,a8c p,λZ σ H P F d Q S hf k=>?_⟩;obtain⟨ds,h1,hf⟩:=bnd hf;cases hf
 refine q Z σ H P F ds _ S h1 λvs H1 fp e o nd fr=>⟨?_,λx hx=>k (.ref x) _ (e.trans (q9 hx _)) (Q5 (b0y (a3L o)) (a8p (o.den _) hx) (S.lst' (e.trans (q9 hx _))))⟩
 rw[o.len.1,d_];exact dH (Y2 hn)
def a6X{Z:List D}(hr:∀Z ds,r Z=cz ds->ds.length=n)(h:a6 fa r Z=cz ds):ds.length=n+1:=by
 obtain⟨x,_,h⟩:=bnd h;obtain⟨xs,h2,h⟩:=bnd h;cases h
 rw[aO,hr Z xs h2]
def dIx:D->D->Option D
 |.list ds,.int k=>atI ds k
 |.tuple ds,.int k=>atI ds k
 |_,_=>pz
def s9:D->D->Option D
 |.list ds,.int k=>atI ds k
 |_,_=>pz
def a8(a b:D):Option D:=(dIx a b).bind a2Z
theorem DenAll.atI(h:DenAll K H vs ds)(e:L2.atI ds k=cz d):∃v j,L2.atI vs k=cz v/\ixN ds.length k=cz j/\vs[j]?=cz v/\ds[j]?=cz d/\Den K H v d:=by
 unfold L2.atI at e ⊢;obtain⟨j,e1,e2⟩:=bnd e;obtain⟨v,h1,h2⟩:=h.get e2;exact⟨v,j,by rw[h.length,e1];exact h1,e1,h1,e2,h2⟩
def b4O(K:ae):R2:=λx y H Q=>b4G K x y H Q∨b4H K x y H Q
def a3a:IxR X (b4O X.K):=b0n.or b2H
def a5Y(h:dIx x y=cz d):∃ds k,(x=.list ds∨x=.tuple ds)/\y=.int k/\L2.atI ds k=cz d:=by
 cases x with
 |list ds=>cases y with
  |int k=>exact⟨ds,k,.inl rfl,rfl,h⟩
  |_=>cases h
 |tuple ds=>cases y with
  |int k=>exact⟨ds,k,.inr rfl,rfl,h⟩
  |_=>cases h
 |_=>cases h
def b4P(hx:Den K H v x)(hy:Den K H w y)(h:dIx x y=cz d)(q:∀z,Den K H z d->Q z H):b4O K v w H Q:=by
 obtain⟨ds,k,e,rfl,h⟩:=a5Y h;cases hy.int_inv
 rcases e with rfl|rfl
 ·obtain⟨a,xs,rfl,h1,h2⟩:=hx.list_inv;obtain⟨z,j,z1,z2,z3,z4,z5⟩:=h2.atI h;exact .inl ⟨a,xs,k,z,rfl,rfl,h1.l,z1,q z z5⟩
 ·obtain⟨a,xs,rfl,h1,h2⟩:=hx.tup_inv;obtain⟨z,j,z1,z2,z3,z4,z5⟩:=h2.atI h;exact .inr ⟨a,xs,k,z,rfl,rfl,h1,z1,q z z5⟩
def i9(ha:PX X M a fa ca)(hb:PX X M b fb cb)(hs:W1 b:=by exact λ_ _=>rfl):PX X M (.Subscript a b pos) (e2 a8 fa fb) (.new .i):=by
 obtain⟨ta,pa,qa⟩:=ha.out;obtain⟨tb,pb,qb⟩:=hb.out;refine .mk ⟨_,a5U a3a pa pb hs,λZ σ H P F d Q S hf q=>?_⟩;obtain⟨x,y,h1,h2,h3⟩:=F7 hf;obtain⟨d',h3,h4⟩:=bnd h3;obtain⟨rfl,hi⟩:=a6W h4;exact qa Z σ H P F x _ S h1 λv H1 e1 r1=>qb Z σ H1 P F y _ (S.grow e1) h2 λw H2 e2 r2=>b4P (r1.den.up e2) r2.den h3 λz hz=>q z H2 (e1.trans e2) (Q5 hi hz (S.lst' (e1.trans e2)))
def l9(ha:PX X M a fa (.new .f))(hb:PX X M b fb cb)(hs:W1 b:=by exact λ_ _=>rfl):PX X M (.Subscript a b pos) (e2 dIx fa fb) (.new .f):=by
 obtain⟨ta,pa,qa⟩:=ha.out;obtain⟨tb,pb,qb⟩:=hb.out;refine .mk ⟨_,a5U a3a pa pb hs,λZ σ H P F d Q S hf q=>?_⟩;obtain⟨x,y,h1,h2,h3⟩:=F7 hf;refine qa Z σ H P F x _ S h1 λv H1 e1 ⟨fp,o,_,_⟩=>qb Z σ H1 P F y _ (S.grow e1) h2 λw H2 e2 r2=>?_
 obtain⟨rfl,o⟩:=a5W o;have o2:Den X.K (cut H2 F) v x:=o.up (D7 e2);obtain⟨ds,k,e,rfl,h⟩:=a5Y h3;have fin:∀z,Den X.K (cut H2 F) z d->Q z H2:=λz hz=>q z H2 (e1.trans e2) ⟨[],by simp only[Own,cx];exact⟨trivial,hz⟩,bW,λa ha=>(nomatch ha)⟩
 have ey:=r2.den.int_inv;rcases e with rfl|rfl
 ·obtain⟨a,xs,rfl,h1,h2⟩:=o2.list_inv;obtain⟨z,j,z1,z2,z3,z4,z5⟩:=h2.atI h;exact .inl ⟨a,xs,k,z,rfl,ey,(I9 h1 j5).l,z1,fin z z5⟩
 ·obtain⟨a,xs,rfl,h1,h2⟩:=o2.tup_inv;obtain⟨z,j,z1,z2,z3,z4,z5⟩:=h2.atI h;exact .inr ⟨a,xs,k,z,rfl,ey,U6 h1 j5,z1,fin z z5⟩
def x9(ha:PX X M a fa (.bor (.l u)))(hb:PX X M b fb cb)(hs:W1 b:=by exact λ_ _=>rfl):PX X M (.Subscript a b pos) (e2 s9 fa fb) (.bor u):=by
 obtain⟨ta,pa,qa⟩:=ha.out;obtain⟨tb,pb,qb⟩:=hb.out;refine .mk ⟨_,a5U a3a pa pb hs,λZ σ H P F d Q S hf q=>?_⟩;obtain⟨x,y,h1,h2,h3⟩:=F7 hf;refine qa Z σ H P F x _ S h1 λv H1 e1 ⟨fp,o,sub⟩=>qb Z σ H1 P F y _ (S.grow e1) h2 λw H2 e2 r2=>?_
 have o2:=o.grow e2;cases x with
 |list ds=>
  cases y with
  |int k=>
   simp only[Own]at o2;rcases o2 with⟨_,hi,_⟩|⟨p,xs,iF,fs,rfl,p1,p2,rfl,p3⟩
   ·simp only[imm]at hi;cases hi
   ·cases p2
    have ue:(ixN ds.length k).bind (λj=>ds[j]?)=cz d:=h3;obtain⟨j,j1,j2⟩:=bnd ue;obtain⟨z,f,pre,post,z1,z2,z3,_,_⟩:=p3.at_ j2;refine .inl ⟨p,xs,k,z,rfl,r2.den.int_inv,.inl (.inl p1),?_,q z H2 (e1.trans e2) ⟨f,z2,λa ha=>sub a ?_⟩⟩
    ·unfold L2.atI;rw[p3.length,j1];exact z1
    ·rw[z3];exact av _ (aq _ (aw _ ha))
  |_=>cases h3
 |_=>cases h3
end
noncomputable def eCl(g:List D->Option D)(f:EvA):EvE:=λZ=>(f Z).bind g
section
variable {X:Cx}{M:List Md}{a b e e0:Expr}{es:List Expr}{fa fb:EvE}{f:EvA}{c ca cb:Cat}{u:Ty}{us:List Ty}{pos p:eH}{x:br}
def a8s{id:String}{g:List D->Option D}(hc:a3I X (.builtin id) g)(hm:X.mg x=pz)(hv:eK x=cz (.builtin id))(h:PAX X M (e0::es) f)(hg:Gl X x:=by rfl)(hn:x≠"__name__":=by decide)(jt:(x==("__debug__":br))=false:=by decide)
  (he:ax (e0::es) X.env=(false,cU e0 X.env)::ax es X.env:=by rfl) (fB:(dj pos (ax es X.env)).any (·.1)=false:=by rfl):PX X M (.Call (.Name x p) (e0::es) [] pos) (eCl g f) (.new .i):=by
 obtain⟨r,hr,hs⟩:=hc;obtain⟨t,pa,qa⟩:=h;refine .mk ⟨_,P8 hr hg hm hv pa hn jt he fB,λZ σ H P F d Q S hf q=>?_⟩;obtain⟨ds,h1,hf⟩:=bnd hf;exact qa Z σ H P F ds _ S h1 λvs H1 e1 r1=>hs vs H1 ds d Q r1 hf λz hi hd=>q z H1 e1 (Q5 hi (hd H1) (S.lst' e1))
def a8t(hc:a3I X (.type T) g)(hm:X.mg x=pz)(hv:eK x=cz (.type T))(h:PAX X M (e0::es) f)(hg:Gl X x:=by rfl)(hn:x≠"__name__":=by decide)(jt:(x==("__debug__":br))=false:=by decide)
  (he:ax (e0::es) X.env=(false,cU e0 X.env)::ax es X.env:=by rfl) (fB:(dj pos (ax es X.env)).any (·.1)=false:=by rfl):PX X M (.Call (.Name x p) (e0::es) [] pos) (eCl g f) (.new .i):=by
 obtain⟨r,hr,hs⟩:=hc;obtain⟨t,pa,qa⟩:=h;refine .mk ⟨_,a2i hr hg hm hv pa hn jt he fB,λZ σ H P F d Q S hf q=>?_⟩;obtain⟨ds,h1,hf⟩:=bnd hf;exact qa Z σ H P F ds _ S h1 λvs H1 e1 r1=>hs vs H1 ds d Q r1 hf λz hi hd=>q z H1 e1 (Q5 hi (hd H1) (S.lst' e1))
def T1(h:DenAll K H xs [d]):∃v,xs=[v]/\Den K H v d:=by
 obtain⟨v,r,rfl,h1,h2⟩:=h.cons_inv;cases h2.nil_inv
 exact⟨v,rfl,h1⟩
def W5{K:ae}{H:Hp}{xs:List V}{d e:D}(h:DenAll K H xs [d,e]):∃v w,xs=[v,w]/\Den K H v d/\Den K H w e:=by
 obtain⟨v,r,rfl,h1,h2⟩:=h.cons_inv;obtain⟨w,rfl,h3⟩:=T1 h2;exact⟨v,w,rfl,h1,h3⟩
noncomputable def l8:List D->Option D
 |[.list ds]=>cz (.int ds.length)
 |[.tuple ds]=>cz (.int ds.length)
 |[.str x]=>if x.length<=bh then cz (.int x.length) else pz
 |_=>pz
def b2P:a3I X (.builtin "len") l8:=by
 refine⟨_,a2S.or a2T,λxs H ds d Q hd hg q=>?_⟩
 match ds,hg with
 |[.list es],hg=>
  cases hg
  obtain⟨v,rfl,h⟩:=T1 hd;obtain⟨a,ys,rfl,h1,h2⟩:=h.list_inv;refine .inl ⟨a,ys,rfl,.inl h1.l,?_⟩;rw[h2.length];exact q _ (by simp only[imm]) λ_=>den_int
 |[.tuple es],hg=>
  cases hg
  obtain⟨v,rfl,h⟩:=T1 hd;obtain⟨a,ys,rfl,h1,h2⟩:=h.tup_inv;refine .inl ⟨a,ys,rfl,.inr h1,?_⟩;rw[h2.length];exact q _ (by simp only[imm]) λ_=>den_int
 |[.str x],hg=>
  have rS:(if x.length<=bh then cz (aX x.length) else pz)=cz d:=hg;by_cases z:x.length<=bh
  ·rw[aL z]at rS;cases rS
   obtain⟨v,rfl,h⟩:=T1 hd;cases h.str_inv
   exact .inr ⟨x,rfl,z,q _ (by simp only[imm]) λ_=>den_int⟩
  ·rw[aS z]at rS;cases rS
 |[.none],hg|[.bool _],hg|[.int _],hg|[.dict _],hg=>cases hg
 |[],hg=>cases hg
 |d1::_::_,hg=>cases d1<;>cases hg
noncomputable def a0H(mx:Bool):List D->Option D
 |[.int i,.int j]=>cz (.int (if mx then (if j>i then j else i) else (if j<i then j else i)))
 |_=>pz
def b2Q(h:a0H mx ds=cz d):∃i j,ds=[.int i,.int j]/\d=.int (if mx then (if j>i then j else i) else (if j<i then j else i)):=by
 match ds,h with
 |[.int i,.int j],h=>cases h;exact⟨i,j,rfl,rfl⟩
def b2R(hc:X.calm=true):a3I X (.builtin "min") (a0H false):=by
 refine⟨_,a6L hc,λxs H ds d Q hd hg q=>?_⟩;obtain⟨i,j,rfl,rfl⟩:=b2Q hg;obtain⟨v,w,rfl,h1,h2⟩:=W5 hd;cases h1.int_inv
 cases h2.int_inv
 exact⟨i,j,rfl,q _ (by simp only[imm]) λ_=>den_int⟩
noncomputable def L4:List D->Option D
 |[.int i]=>cz (.int i)
 |[.bool k]=>cz (.int (if k then 1 else 0))
 |_=>pz
def a8u:a3I X (.type "int") L4:=by
 refine⟨_,a6M,λxs H ds d Q hd hg q=>?_⟩
 match ds,hg with
 |[.int i],hg=>
  cases hg
  obtain⟨v,rfl,h⟩:=T1 hd;cases h.int_inv
  exact .inl ⟨i,rfl,q _ (by simp only[imm]) λ_=>den_int⟩
 |[.bool i],hg=>
  cases hg
  obtain⟨v,rfl,h⟩:=T1 hd;cases h.bool_inv
  exact .inr ⟨i,rfl,q _ (by simp only[imm]) λ_=>den_int⟩
 |[.none],hg|[.str _],hg|[.dict _],hg|[.list _],hg|[.tuple _],hg=>cases hg
 |[],hg=>cases hg
 |d1::_::_,hg=>cases d1<;>cases hg
def b4Q:List D->Option (List Bool)
 |[]=>cz []
 |.bool b::r=>(b4Q r).map (b::·)
 |_=>pz
def tyD:D->String
 |.int _=>"int"
 |.bool _=>"bool"
 |.list _=>"list"
 |.tuple _=>"tuple"
 |.none=>"NoneType"
 |.str _=>"str"
 |.dict _=>"dict"
def Den.ty{K:ae}{H:Hp}{v:V}:∀{d:D},Den K H v d->(∀ds,d≠.tuple ds)->(∀ds,d≠.list ds)->(∀ds,d≠.dict ds)->TyOf K H v (.type (tyD d))
 |.none,h,_,_,_=>by cases h.none_inv;exact .non
 |.bool _,h,_,_,_=>by cases h.bool_inv;exact .bl _
 |.int _,h,_,_,_=>by cases h.int_inv;exact .int _
 |.str _,h,_,_,_=>by cases h.str_inv;exact .str _
 |.list ds,h,_,q,_=>absurd rfl (q ds)
 |.tuple ds,h,q,_,_=>absurd rfl (q ds)
 |.dict ds,h,_,_,q=>absurd rfl (q ds)
def b4R(K:ae)(T:String)(g:D->Bool):List V->Hp->VK->Prop:=λxs H Q=>∃x d,xs=[x,.ty T]/\Den K H x d/\Q (.bl (g d)) H
def a4X{pins:List (au×eW)}{σ:L2.St}{H:Hp}{s:aj}{A:bH}{E:ag->aj->Prop}{Q:ag->aj->Prop}{cv:ag}{k:Bool}{a:au}{xs:List V}(I:Inv X pins σ H s)(h:SqT X.K H a xs)(e:cV X.K (.type "tuple") cv=cz k)(hq:∀tk,Q (.bool k) {s with toks:=tk}) :
  be (aV X.prog X.w) A (call (.builtin "isinstance") [.ref a,cv]) Q E s:=by
 obtain⟨cN,_,⟨o,h1,h2,_⟩,_⟩:=I.tuple h;exact cA xr I.kIn ⟨o,h1,h2⟩ e (λz=>nomatch z) hq
def a4Y{pins:List (au×eW)}{σ:L2.St}{H:Hp}{s:aj}{A:bH}{E:ag->aj->Prop}{Q:ag->aj->Prop}{cv:ag}{k:Bool}{a:au}{xs:List V}(I:Inv X pins σ H s)(h:SqX X.K H a xs)(e:cV X.K (.type "list") cv=cz k)(hq:∀tk,Q (.bool k) {s with toks:=tk}) :
  be (aV X.prog X.w) A (call (.builtin "isinstance") [.ref a,cv]) Q E s:=by
 obtain⟨_,cN,n,_,h1⟩:=h.ok I;exact cA lC I.kIn ⟨_,h1,rfl⟩ e (λz=>nomatch z) hq
def a4Z{pins:List (au×eW)}{σ:L2.St}{H:Hp}{s:aj}{A:bH}{E:ag->aj->Prop}{Q:ag->aj->Prop}{cv:ag}{k:Bool}{a:au}{es:List (D×V×V)}(I:Inv X pins σ H s)(h:H a=cz (j0 a es))(e:cV X.K (.type "dict") cv=cz k)(hq:∀tk,Q (.bool k) {s with toks:=tk}) :
  be (aV X.prog X.w) A (call (.builtin "isinstance") [.ref a,cv]) Q E s:=by
 obtain⟨⟨_,_,_,o,ents,_,h1,h2,_⟩,_⟩:=(show ObjOk X.prog X.w H s.heap a (j0 a es) from I.hok a _ h);exact cA lD I.kIn ⟨o,h1,h2.1⟩ e (λz=>nomatch z) hq
def a6Y{T:String}{g:D->Bool}(hf:∀(K:ae) (d:D),cV K (.type (tyD d)) (.type T)=cz (g d)):CallR X (.builtin "isinstance") (b4R X.K T g):=by
 intro pins s σ H xs us Q I r h;obtain⟨x,d,rfl,hd,q⟩:=h;obtain⟨u,w',rfl,rx,ry⟩:=vals2 r;cases (show w'=fQ T from ry)
 by_cases ht:(∀ds,d≠.tuple ds)/\(∀ds,d≠.list ds)/\(∀ds,d≠.dict ds)
 ·exact a2d I rx (hd.ty ht.1 ht.2.1 ht.2.2) (hf X.K d) λtk=>⟨.bl _,H,I.tok tk,rfl,q⟩
 ·cases d with
  |list ds=>
   obtain⟨a,ys,rfl,h1,_⟩:=hd.list_inv;cases (show u=bG a from rx)
   exact a4Y I h1 (hf X.K (.list ds)) λtk=>⟨.bl _,H,I.tok tk,rfl,q⟩
  |tuple ds=>
   obtain⟨a,ys,rfl,h1,_⟩:=hd.tup_inv;cases (show u=bG a from rx)
   exact a4X I h1 (hf X.K (.tuple ds)) λtk=>⟨.bl _,H,I.tok tk,rfl,q⟩
  |dict ds=>
   simp only[Den]at hd;obtain⟨a,es,rfl,h1,_⟩:=hd;cases (show u=bG a from rx)
   exact a4Z I h1 (hf X.K (.dict ds)) λtk=>⟨.bl _,H,I.tok tk,rfl,q⟩
  |_=>exact absurd ⟨(λds z=>by cases z),(λds z=>by cases z),(λds z=>by cases z)⟩ ht
def isInt:D->Bool
 |.int _=>true
 |.bool _=>true
 |_=>false
def isBool:D->Bool
 |.bool _=>true
 |_=>false
def isList:D->Bool
 |.list _=>true
 |_=>false
def O3:D->Bool
 |.tuple _=>true
 |_=>false
def Q7{g:D->Bool}(hf:∀(K:ae) (d:D),cV K (.type (tyD d)) (.type T)=cz (g d))(hm:X.mg "isinstance"=pz)(hy:X.mg y=pz)(hb:eK y=cz (.type T))(h:PX X M a fa ca)
  (hg:Gl X "isinstance":=by rfl) (tm:Gl X y:=by rfl) (v_:y≠"__name__":=by decide) (tJ:(y==("__debug__":br))=false:=by decide)
  (he:ax [a,.Name y py] X.env=(false,cU a X.env)::ax [.Name y py] X.env:=by rfl) (mZ:ax [.Name y py] X.env=(false,cU (.Name y py) X.env)::ax [] X.env:=by rfl) (fB:(dj pos (ax [.Name y py] X.env)).any (·.1)=false:=by rfl) :
  PX X M (.Call (.Name "isinstance" p) [a,.Name y py] [] pos) (e1 (λd=>cz (.bool (g d))) fa) (.new .i):=by
 obtain⟨ta,pa,qa⟩:=h.out;refine .mk ⟨_,P8 (a6Y hf) hg hm PyProof.Rows.Boot.«isinstance» (p6 pa (p6 (a5Q (v:=.ty T) tm hy hb rfl v_ tJ) A6 mZ) he) (by decide) (by decide) he fB,λZ σ H P F d Q S lU q=>?_⟩;obtain⟨x,h1,lU⟩:=bnd lU;cases lU
 exact qa Z σ H P F x _ S h1 λv H1 e1 r1=>⟨v,x,rfl,r1.den,q _ H1 e1 (Q5 (by simp only[imm]) den_bool (S.lst' e1))⟩
def b0z(K:ae)(d:D):cV K (.type (tyD d)) (.type "int")=cz (isInt d):=by cases d<;>rfl
def a0Y(K:ae)(d:D):cV K (.type (tyD d)) (.type "bool")=cz (isBool d):=by cases d<;>rfl
def a3M(K:ae)(d:D):cV K (.type (tyD d)) (.type "list")=cz (isList d):=by cases d<;>rfl
def a2s(K:ae)(d:D):cV K (.type (tyD d)) (.type "tuple")=cz (O3 d):=by cases d<;>rfl
end
def cutD(ds:List D)(lo hi:Option Int):List D:=(ds.drop (HT.sIx ds.length 0 lo)).take (HT.sIx ds.length ds.length hi-HT.sIx ds.length 0 lo)
abbrev EvO:=List D->Option (Option Int)
noncomputable def oNo:EvO:=λ_=>cz pz
def asI:D->Option Int
 |.int i=>cz i
 |_=>pz
noncomputable def oSo(a:EvE):EvO:=λZ=>(a Z).bind λd=>(asI d).bind λi=>cz (cz i)
def N1(h:asI d=cz i):d=.int i:=by
 cases d with
 |int j=>cases h;rfl
 |_=>cases h
def asL:D->Option (List D)
 |.list ds=>cz ds
 |_=>pz
def N2(h:asL d=cz ds):d=.list ds:=by
 cases d with
 |list j=>cases h;rfl
 |_=>cases h
def asS:D->Option (List D)
 |.list ds=>cz ds
 |.tuple ds=>cz ds
 |_=>pz
noncomputable def POX(X:Cx)(M:List Md)(e:Option Expr)(f:EvO):Prop:=
 ∃t,PO X e t/\∀(Z:List D) (σ:L2.St) (H P:Hp) (F:List au) (o:Option Int) (Q:Option Int->Hp->Prop),StE X.K M Z σ H P F->f Z=cz o->(∀H',Same H H'->Q o H')->t σ H Q
noncomputable def eSl(a:EvE)(lo hi:EvO):EvE:=λZ=>(a Z).bind λx=>(asL x).bind λds=>(lo Z).bind λl=>(hi Z).bind λh=>cz (.list (cutD ds l h))
noncomputable def eI(a:EvE):EvE:=λZ=>(a Z).bind a8q
section
variable {X:Cx}{M:List Md}{a b e e0:Expr}{lo hi:Option Expr}{es:List Expr}{fa fb:EvE}{fl fh:EvO}{f:EvA}{c ca cb:Cat}{u:Ty}{us:List Ty}{pos p p2:eH}{x:br}
def a0Z:POX X M pz oNo:=⟨_,b0l,λZ σ H P F o Q S hf q=>by cases hf;exact q H (Same.refl _)⟩
def a1a(h:PX X M a fa ca):POX X M (cz a) (oSo fa):=by
 obtain⟨t,p,q⟩:=h.out;refine⟨_,b0m p,λZ σ H P F o Q S hf k=>?_⟩;obtain⟨d,h1,rj⟩:=bnd hf;obtain⟨i,h2,rh⟩:=bnd rj;cases N1 h2
 cases rh
 exact q Z σ H P F _ _ S h1 λv H1 e1 r1=>⟨i,r1.den.int_inv,k H1 e1⟩
structure MkL (X:Cx) (M:List Md) (e:Expr) (f:EvE) (A:Prop):Prop where
 run:∃t,PE X e t/\∀(Z:List D) (σ:L2.St) (H P:Hp) (F:List au) (d:D) (Q:VK),StE X.K M Z σ H P F->f Z=cz d->
  (∀vs ds H1 l,Same H H1->d=.list ds->DenAll X.K H1 vs ds->(A->DenAll X.K (cut H1 F) vs ds)->H1 l=pz->Q (.ref l) (upd H1 l (.lst vs)))->t σ H Q
theorem MkL.i{f:EvE}{A:Prop}(h:MkL X M e f A):PX X M e (eI f) (.new (.l .i)):=by
 obtain⟨t,p,q⟩:=h.run;refine .mk ⟨t,p,λZ σ H P F d Q S hf k=>?_⟩;obtain⟨d',g1,hc⟩:=bnd hf;clear hf;obtain⟨es,rfl,rfl,hi⟩:=a4W hc;refine q Z σ H P F _ Q S g1 λvs ds H1 l e1 ed h1 _ hl=>?_
 cases ed
 exact k _ _ (e1.trans (q9 hl _)) (Y4 h1 hi e1 hl (S.lst' e1))
def frozen:Cat->Prop
 |.new .f=>True
 |.new .i=>True
 |_=>False
def O4(hc:frozen c)(r:ResR K c H H1 F v d):Den K (cut H1 F) v d:=by
 match c,hc with
 |.new .f,_=>
  obtain⟨fp,o,_⟩:=r;obtain⟨rfl,o⟩:=a5W o;exact o
 |.new .i,_=>
  obtain⟨fp,o,_⟩:=r;obtain⟨rfl,_,o⟩:=a0V o;exact o
def F8(r:ResR K c H H1 F v (.list ds)):∃a xs,v=.ref a/\SqX K H1 a xs/\DenAll K H1 xs ds/\(frozen c->DenAll K (cut H1 F) xs ds):=by
 by_cases hc:frozen c
 ·obtain⟨a,xs,rfl,k1,k2⟩:=(O4 hc r).list_inv;exact⟨a,xs,rfl,I9 k1 j5,k2.up j5,λ_=>k2⟩
 ·obtain⟨a,xs,rfl,k1,k2⟩:=r.den.list_inv;exact⟨a,xs,rfl,k1,k2,λh=>absurd h hc⟩
def a8v:SlR X (λx lo hi H Q=>∃a xs,x=.ref a/\SqX X.K H a xs/\∀p,H p=pz->Q (.ref p) (upd H p (.lst (a4R xs lo hi)))):=by
 intro pins s σ H x v vl vu lo hi sl Q I rx hs pl pu ⟨a,xs,e,h,q⟩;exact b0o pins s σ H x v vl vu lo hi sl Q I rx hs pl pu ⟨a,xs,e,h.l,q⟩
def a5Z(h:DenAll K H vs ds)(lo hi:Option Int):DenAll K H (a4R vs lo hi) (cutD ds lo hi):=by
 unfold a4R cutD;rw[h.length];exact (h.drop _).take _
def a1b(ha:PX X M a fa ca)(hl:POX X M lo fl)(hh:POX X M hi fh):MkL X M (.Subscript a (.Slice lo hi pz p2) pos) (eSl fa fl fh) (frozen ca):=by
 obtain⟨ta,pa,qa⟩:=ha.out;obtain⟨tl,pl,ql⟩:=hl;obtain⟨th,ph,qh⟩:=hh;refine⟨_,a8e a8v pa pl ph,λZ σ H P F d Q S hf q=>?_⟩;obtain⟨x,h1,rj⟩:=bnd hf;obtain⟨ds,h2,rh⟩:=bnd rj;cases N2 h2
 obtain⟨l,h3,wU⟩:=bnd rh;obtain⟨h,h4,rX⟩:=bnd wU;cases rX
 refine qa Z σ H P F _ _ S h1 λv H1 e1 r1=>ql Z σ H1 P F l _ (S.grow e1) h3 λH2 e2=>qh Z σ H2 P F h _ (S.grow (e1.trans e2)) h4 λH3 e3=>?_
 obtain⟨pp,xs,rfl,k1,k2,k3⟩:=F8 (r1.up (e2.trans e3));exact⟨pp,xs,rfl,k1,λz hz=>q _ _ H3 z ((e1.trans e2).trans e3) rfl (a5Z k2 l h) (λhc=>a5Z (k3 hc) l h) hz⟩
noncomputable def a1c(a:EvE):EvE:=λZ=>(a Z).bind λd=>(asS d).bind λds=>cz (.list ds)
def a6a(hm:X.mg "list"=pz)(ha:PX X M a fa ca)(hg:Gl X "list":=by rfl)(he:ax [a] X.env=(false,cU a X.env)::ax [] X.env:=by rfl)(fB:(dj pos (ax [] X.env)).any (·.1)=false:=by rfl) :
  MkL X M (.Call (.Name "list" p) [a] [] pos) (a1c fa) (frozen ca):=by
 obtain⟨ta,pa,qa⟩:=ha.out;refine⟨_,a2i a2U hg hm PyProof.Rows.Boot.«list» (p6 pa A6 he) (by decide) (by decide) he fB,λZ σ H P F d Q S hf q=>?_⟩;obtain⟨x,h1,rj⟩:=bnd hf;obtain⟨ds,h2,rh⟩:=bnd rj;cases rh
 refine qa Z σ H P F _ _ S h1 λv H1 e1 r1=>?_
 cases x with
 |list es=>
  cases h2
  obtain⟨pp,xs,rfl,k1,k2,k3⟩:=F8 r1;exact⟨pp,xs,rfl,.inl k1.l,λz hz=>q _ _ H1 z e1 rfl k2 k3 hz⟩
 |tuple es=>
  cases h2
  by_cases hc:frozen ca
  ·obtain⟨pp,xs,rfl,k1,k2⟩:=(O4 hc r1).tup_inv;exact⟨pp,xs,rfl,.inr (U6 k1 j5),λz hz=>q _ _ H1 z e1 rfl (k2.up j5) (λ_=>k2) hz⟩
  ·obtain⟨pp,xs,rfl,k1,k2⟩:=r1.den.tup_inv;exact⟨pp,xs,rfl,.inr k1,λz hz=>q _ _ H1 z e1 rfl k2 (λh=>absurd h hc) hz⟩
 |_=>cases h2
def b0A:OpR X (eX .Add) (λx y H Q=>∃l b xs zs,x=.ref l/\y=.ref b/\SqX X.K H l xs/\SqX X.K H b zs/\xs.length+zs.length<=bh/\∀p,H p=pz->Q (.ref p) (upd H p (.lst (xs++zs)))):=by
 intro pins s σ H x y v u Q I rx ry h;obtain⟨l,b,xs,zs,rfl,rfl,hH,hB,hz,q⟩:=h;cases rx
 cases ry
 obtain⟨z,cN,n,r,e⟩:=hH.ok I;obtain⟨z2,sD,n2,r2,e2⟩:=hB.ok I;have hl:=r.length;have sX:=r2.length;refine PySem.P.add_list e e2 ?_ (by rw[bw,bw];lia);have ea:cN.toArray++sD.toArray=(cN++sD).toArray:=by simp
 rw[ea];exact⟨.ref _,_,I.lnew (t':=s.toks) (r.append r2) (by rw[az];lia),rfl,q _ I.fresh⟩
noncomputable def O5(a b:EvE):EvE:=λZ=>(a Z).bind λx=>(asL x).bind λds=>(b Z).bind λy=>(asL y).bind λes=>if ds.length+es.length<=bh then cz (.list (ds++es)) else pz
def a1d(ha:PX X M a fa ca)(hb:PX X M b fb cb):MkL X M (.BinOp a .Add b pos) (O5 fa fb) (frozen ca/\frozen cb):=by
 obtain⟨ta,pa,qa⟩:=ha.out;obtain⟨tb,pb,qb⟩:=hb.out;refine⟨_,b1L b0A pa pb,λZ σ H P F d Q S hf q=>?_⟩;obtain⟨x,h1,rj⟩:=bnd hf;obtain⟨ds,h2,rh⟩:=bnd rj;cases N2 h2
 obtain⟨y,h3,wU⟩:=bnd rh;obtain⟨es,h4,rX⟩:=bnd wU;cases N2 h4
 by_cases hz:ds.length+es.length<=bh
 ·rw[aL hz]at rX;cases rX
  refine qa Z σ H P F _ _ S h1 λv H1 e1 r1=>qb Z σ H1 P F _ _ (S.grow e1) h3 λw H2 e2 r2=>?_
  obtain⟨pp,xs,rfl,k1,k2,k3⟩:=F8 (r1.up e2);obtain⟨qq,ys,rfl,j1,j2,j3⟩:=F8 r2;exact⟨pp,qq,xs,ys,rfl,rfl,k1,j1,by rw[k2.length,j2.length];exact hz,λz hz=>q _ _ H2 z (e1.trans e2) rfl (k2.append j2) (λhc=>(k3 hc.1).append (j3 hc.2)) hz⟩
 ·rw[aS hz]at rX;cases rX
noncomputable def spD(K:ae)(n:Nat)(m:List D->Option D)(u:Ty):Sp:=λvs H Q _=>∃ds d,vs.length=n/\DenAll K H vs ds/\m ds=cz d/\∀v H' fp,Same H H'->Own K H' fp u v d fp->fp.Nodup->(∀a∈fp,H a=pz)->Q v H'
def b0B(W:Has X.prog X.w X.K X.mg X.base x k ps (spD X.K n m u))(hr:Room k X.A)(h:PAX X M (e0::es) f)(hu:u.shut=true:=by rfl)(hl:(e0::es).length=n:=by rfl)(hfl:∀Z ds,f Z=cz ds->ds.length=(e0::es).length)
  (hg:Gl X x:=by rfl) (jt:(x==("__debug__":br))=false:=by decide) (he:ax (e0::es) X.env=(false,cU e0 X.env)::ax es X.env:=by rfl) (fB:(dj pos (ax es X.env)).any (·.1)=false:=by rfl) :
  PX X M (.Call (.Name x p) (e0::es) [] pos) (eCl m f) (.new u):=by
 obtain⟨t,pa,qa⟩:=h;refine .mk ⟨_,a8f W hr pa hg jt he fB,λZ σ H P F d Q S hf q=>?_⟩;obtain⟨ds,h1,hf⟩:=bnd hf;refine qa Z σ H P F ds _ S h1 λvs H1 e1 r1=>?_
 show spD X.K n m u (vs++[]) H1 Q E0;rw[bg];refine⟨ds,d,by rw[r1.length,hfl Z ds h1,hl],r1,hf,λv H' fp e o nd fr=>q v H' (e1.trans e) ⟨fp,o.shut_out (λa ha=>?_) u hu,nd,λa ha=>e1.free (fr a ha)⟩⟩;rcases ar.mp ha with z|z
 ·exact o.lst u a z
 ·exact S.lst' (e1.trans e) a z
end
structure Walks (J:It) (Pr:Hp->Prop) (xs:List V):Prop where
 go:∀i H,Pr H->i<xs.length->J.go i H
 stop:∀i H,Pr H->xs.length<=i->J.stop i H
 yld:∀i H x H',Pr H->i<xs.length->J.yld i H x H'->H'=H/\xs[i]?=cz x
def a5a:Walks (Itl K a) (λH=>SqL K H a xs) xs where
 go:=λi H h hi=>⟨xs,xs[i],h,by simp[hi]⟩
 stop:=λi H h hi=>⟨xs,h,hi⟩
 yld:=λi H x H' h _ y=>⟨y.1,y.2 xs h⟩
def a0h:Walks (Itr lo n) (λ_=>True) ((aW n).map λ(k:Nat)=>V.int (lo+k)) where
 go:=λi H h hi=>by show i<n;simpa using hi
 stop:=λi H h hi=>by show n<=i;simpa using hi
 yld:=λi H x H' h hi y=>by
  obtain⟨e,y⟩:=y;refine⟨e,?_⟩;have iT:i<n:=by simpa using hi
  rw[y];simp[iT]
noncomputable def PIX(X:Cx)(M:List Md)(tg iter:Expr)(f:EvA):Prop:=
 ∃wi,PI X tg iter wi/\∀(Z:List D) (σ:L2.St) (H P:Hp) (F:List au) (ds:List D) (R:It->Hp->Prop),StE X.K M Z σ H P F->f Z=cz ds->
  (∀J xs Pr H1,Same H H1->Walks J Pr xs->(∀H2,Same (cut H1 F) H2->Pr H2)->DenAll X.K (cut H1 F) xs ds->R J H1)->wi σ H R
noncomputable def iL(a:EvE):EvA:=λZ=>(a Z).bind asL
def B0(lo:Int)(n:Nat):List D:=(aW n).map λ(k:Nat)=>.int (lo+k)
noncomputable def iR(a:EvE):EvA:=λZ=>(a Z).bind λd=>(asI d).bind λn=>if -(2^62)<=n/\n<2^62 then cz (B0 0 n.toNat) else pz
noncomputable def iR2(a b:EvE):EvA:=λZ=>(a Z).bind λd=>(asI d).bind λm=>(b Z).bind λe=>(asI e).bind λn=>if (-(2^62)<=m/\m<2^62)/\-(2^62)<=n/\n<2^62 then cz (B0 m (n-m).toNat) else pz
noncomputable def iI(f:EvA):EvA:=λZ=>(f Z).bind λds=>if f8 ds then cz ds else pz
section
variable {X:Cx}{M:List Md}{a b e tg iter:Expr}{fa fb:EvE}{f:EvA}{ca cb:Cat}{pos p:eH}
def J3(h:PX X M a fa ca)(hc:frozen ca:=by trivial):PIX X M tg a (iL fa):=by
 obtain⟨t,p,q⟩:=h.out;refine⟨_,b0f p,λZ σ H P F ds R S hf k=>?_⟩;obtain⟨d,h1,h2⟩:=bnd hf;cases N2 h2
 refine q Z σ H P F _ _ S h1 λv H1 e1 r1=>?_
 obtain⟨aa,xs,rfl,k1,k2⟩:=(O4 hc r1).list_inv;exact⟨aa,rfl,⟨xs,(I9 k1 j5).l⟩,k _ xs _ H1 e1 a5a (λH2 e2=>(I9 k1 e2).l) k2⟩
def a2t:DenAll K H ((aW n).map λ(k:Nat)=>V.int (lo+k)) (B0 lo n):=by
 have:∀l:List Nat,DenAll K H (l.map λ(k:Nat)=>V.int (lo+k)) (l.map λ(k:Nat)=>aX (lo+k)):=by
  intro l
  induction l with
  |nil=>exact denAll_nil
  |cons x l ih=>exact denAll_cons den_int ih
 exact this _
def t9(hm:X.mg "range"=pz)(h:PX X M a fa ca)(hg:Gl X "range":=by rfl)(he:ax [a] X.env=[(false,cU a X.env)]:=by rfl)(mZ:ax [a] X.env=(false,cU a X.env)::ax [] X.env:=by rfl) :
  PIX X M tg (.Call (.Name "range" p) [a] [] pos) (iR fa):=by
 obtain⟨t,p,q⟩:=h.out;refine⟨_,a6I hg hm (p6 p A6 mZ) he,λZ σ H P F ds R S hf k=>?_⟩;obtain⟨d,h1,g1⟩:=bnd hf;obtain⟨n,h2,g2⟩:=bnd g1;cases N1 h2
 by_cases c:-(2^62)<=n/\n<2^62
 ·rw[aL c]at g2;cases g2
  exact q Z σ H P F _ _ S h1 λv H1 e1 r1=>⟨n,by rw[r1.den.int_inv],c.1,c.2,k _ _ _ H1 e1 a0h (λ_ _=>trivial) a2t⟩
 ·rw[aS c]at g2;cases g2
def a5b(hm:X.mg "range"=pz)(ha:PX X M a fa ca)(hb:PX X M b fb cb)(hg:Gl X "range":=by rfl)(he:ax [a,b] X.env=[(false,cU a X.env),(false,cU b X.env)]:=by rfl)(jY:ax [b] X.env=[(false,cU b X.env)]:=by rfl)
  (tH:ax [a,b] X.env=(false,cU a X.env)::ax [b] X.env:=by rfl) (mZ:ax [b] X.env=(false,cU b X.env)::ax [] X.env:=by rfl) :
  PIX X M tg (.Call (.Name "range" p) [a,b] [] pos) (iR2 fa fb):=by
 obtain⟨ta,pa,qa⟩:=ha.out;obtain⟨tb,pb,qb⟩:=hb.out;refine⟨_,a6J hg hm (p6 pa (p6 pb A6 mZ) tH) he jY,λZ σ H P F ds R S hf k=>?_⟩;obtain⟨d,h1,g1⟩:=bnd hf;obtain⟨m,h2,g2⟩:=bnd g1;cases N1 h2
 obtain⟨e,h3,g3⟩:=bnd g2;obtain⟨n,h4,g4⟩:=bnd g3;cases N1 h4
 by_cases c:(-(2^62)<=m/\m<2^62)/\-(2^62)<=n/\n<2^62
 ·rw[aL c]at g4;cases g4
  exact qa Z σ H P F _ _ S h1 λv H1 e1 r1=>qb Z σ H1 P F _ _ (S.grow e1) h3 λw H2 e2 r2=>⟨m,n,by rw[r1.den.int_inv,r2.den.int_inv],⟨c.1.1,c.1.2,c.2.1,c.2.2⟩,k _ _ _ H2 (e1.trans e2) a0h (λ_ _=>trivial) a2t⟩
 ·rw[aS c]at g4;cases g4
def PIX.i(h:PIX X M tg iter f):PIX X M tg iter (iI f):=by
 obtain⟨wi,p,q⟩:=h;refine⟨wi,p,λZ σ H P F ds R S hf k=>?_⟩;obtain⟨es,h1,g1⟩:=bnd hf;by_cases c:f8 es=true
 ·rw[aL c]at g1;cases g1
  exact q Z σ H P F _ R S h1 k
 ·rw[aS c]at g1;cases g1
end
def TgR(K:ae)(g:TG)(n:Nat)(pt:D->Option (List D)):Prop:=
 ∀(H Hc:Hp) (x:V) (d:D) (ds:List D) (σ:L2.St) (Q:L2.St->Hp->Prop),Same Hc H->Den K Hc x d->pt d=cz ds->n<=σ.length->(∀vs,DenAll K Hc vs ds->vs.length=n->Q (vs.map cz++σ.drop n) H)->g x σ H Q
def pt1(d:D):Option (List D):=cz [d]
def pt2:D->Option (List D)
 |.tuple [a,b]=>cz [a,b]
 |_=>pz
def O6:TgR K (M7 0) 1 pt1:=by
 intro H Hc x d ds σ Q e hd hp hn k;cases hp
 cases σ with
 |nil=>simp at hn
 |cons o σ=>exact k [x] (denAll_cons hd denAll_nil) rfl
def b0C:TgR K (b2n K 2 (a0O (M7 0) (a0O (M7 1) b0e))) 2 pt2:=by
 intro H Hc x d ds σ Q e hd hp hn k
 match d,hp with
 |.tuple [a,b],hp=>
  cases hp
  obtain⟨aa,xs,rfl,h1,h2⟩:=hd.tup_inv;obtain⟨v,w,rfl,h3,h4⟩:=W5 h2
  match σ,hn with
  |o::o'::σ,_=>
   exact⟨aa,_,rfl,U6 h1 e,rfl,v,[w],rfl,w,[],rfl,rfl,k [v,w] (denAll_cons h3 (denAll_cons h4 denAll_nil)) rfl⟩
noncomputable def J4(pt:D->Option (List D))(t:EvT)(g:EvE)(cs:List D):List D->Option (List D)
 |[]=>cz []
 |d::ds=>(pt d).bind λbs=>(t (bs++cs)).bind λk=>if k then (g (bs++cs)).bind λy=>(J4 pt t g cs ds).bind λys=>cz (y::ys) else J4 pt t g cs ds
noncomputable def u8(fi:EvA)(js:List Nat)(pt:D->Option (List D))(t:EvT)(g:EvE):EvE:=λZ=>(fi Z).bind λds=>if ds.length<=1000000 then (J4 pt t g (js.map λj=>Z.getD j .none) ds).bind λys=>cz (.list ys) else pz
noncomputable def tT:EvT:=λ_=>cz true
def D8(m:Md)(n:Nat)(M:List Md)(js:List Nat):List Md:=aB n m++js.map λj=>M.getD j .dead
section
variable {K:ae}{J:It}{Pr:Hp->Prop}{xs:List V}{Dl:au}{g:TG}{tt:TT}{te:TE}{σ:L2.St}{H:Hp}{R:Hp->Prop}
def a6Z(hw:Walks J Pr xs)(Pv:Nat->List V->L2.St->Hp->Prop)(h0:Pv 0 [] σ (upd H Dl (.lst [])))(hp:∀i ys σ H,Pv i ys σ H->Pr H)
  (hs:∀i x ys σ H,xs[i]?=cz x->Pv i ys σ H->g x σ H λσ3 H3=>tt σ3 H3 λb H4=>if b=true then te σ3 H4 λy H5=>H5 Dl=cz (.lst ys)/\ys.length<bh/\Pv (i+1) (ys++[y]) σ3 (upd H5 Dl (.lst (ys++[y]))) else Pv (i+1) ys σ3 H4)
  (hd:∀ys σ H,Pv xs.length ys σ H->R H) :
  ∃W:Nat->Nat->List V->L2.St->Hp->Prop,(∃m,W 0 m [] σ (upd H Dl (.lst [])))/\∀i m ys σ' H',W i m ys σ' H'->(J.stop i H'/\R H')∨
   (J.go i H'/\∃(N:V->L2.St->Hp->Prop) (NO:L2.St->Hp->Prop),(∀y σ3 H4,N y σ3 H4->H4 Dl=cz (.lst ys)/\ys.length<bh/\∃m',m'<m/\W (i+1) m' (ys++[y]) σ3 (upd H4 Dl (.lst (ys++[y]))))/\
    (∀σ3 H4,NO σ3 H4->∃m',m'<m/\W (i+1) m' ys σ3 H4)/\∀x H2,J.yld i H' x H2->g x σ' H2 λσ3 H3=>tt σ3 H3 λb H4=>if b=true then te σ3 H4 λy H5=>N y σ3 H5 else NO σ3 H4):=by
 refine⟨λi m ys σ H=>m=xs.length-i/\i<=xs.length/\Pv i ys σ H,⟨xs.length,by simp,cW _,h0⟩,?_⟩;rintro i m ys σ H ⟨rfl,hi,p⟩;have q:=hp i ys σ H p;by_cases gK:i<xs.length
 ·refine .inr ⟨hw.go i H q gK,λy σ3 H4=>H4 Dl=cz (.lst ys)/\ys.length<bh/\Pv (i+1) (ys++[y]) σ3 (upd H4 Dl (.lst (ys++[y]))),λσ3 H4=>Pv (i+1) ys σ3 H4,λy σ3 H4 ⟨r1,r2,r3⟩=>⟨r1,r2,xs.length-(i+1),by lia,rfl,gK,r3⟩,λσ3 H4 r3=>⟨xs.length-(i+1),by lia,rfl,gK,r3⟩,λx H' y=>?_⟩;obtain⟨e,yy⟩:=hw.yld i H x H' q gK y;subst e;exact hs i x ys σ _ yy p
 ·have e:i=xs.length:=by lia
  subst e;exact .inl ⟨hw.stop _ H q (aG _),hd ys σ H p⟩
end
def a3N{Z:List D}{js:List Nat}(S:StE K M Z σ H P F)(hm:m=.i∨m=.f)(hv:DenAll K (cut H F) vs bs)(hi:m=.i->f8 bs=true)(hn:vs.length=n)
  (hσ:σb=vs.map cz++js.map λj=>(σ[j]?).getD pz):StE K (D8 (.own m) n M js) (bs++js.map λj=>Z.getD j .none) σb H P F:=by
 obtain⟨G,h1,h3⟩:=S.all;obtain⟨G',q,hq⟩:=h1.pick h3 js;refine⟨⟨G',?_,hq⟩,S.lst,S.prot⟩;subst hσ hn;unfold D8;have key:∀{vs:List V} {bs:List D},DenAll K (cut H F) vs bs->(m=.i->f8 bs=true)->StAll K H F (aB vs.length (.own m)++js.map λj=>M.getD j .dead) (bs++js.map λj=>Z.getD j .none) (vs.map cz++js.map λj=>(σ[j]?).getD pz) G':=by
  intro vs
  induction vs with
  |nil=>
   intro bs h _;have hl:=h.length;have:bs=[]:=pS.mp (by simpa using hl.symm);subst this;exact q
  |cons v vs ih=>
   intro bs h hi;cases bs with
   |nil=>have:=h.length;simp at this
   |cons b bs=>
    obtain⟨v',r,e,h4,h5⟩:=h.cons_inv;cases e
    have:=j7 (K:=K) (H:=H) (F:=F) (m:=.own m) (d:=b) (o:=cz v) (f:=[]) ⟨v,rfl,by
     rcases hm with rfl|rfl
     ·have:=hi rfl;simp only[f8,aC]at this;simp only[Own];exact⟨trivial,this.1,h4⟩
     ·simp only[Own];exact⟨trivial,h4⟩⟩ (ih h5 λe=>by have:=hi e;simp only[f8,aC]at this;exact this.2)
    simpa[fO]using this
 exact key hv hi
def a1e(h:J4 pt t g cs (d::ds)=cz rs) :
  ∃bs k,pt d=cz bs/\t (bs++cs)=cz k/\((k=true/\∃y ys,g (bs++cs)=cz y/\J4 pt t g cs ds=cz ys/\rs=y::ys)∨(k=false/\J4 pt t g cs ds=cz rs)):=by
 simp only[J4]at h;obtain⟨bs,h1,g1⟩:=bnd h;obtain⟨k,h2,g2⟩:=bnd g1;refine⟨bs,k,h1,h2,?_⟩;cases k with
 |true=>
  rw[aL rfl]at g2;obtain⟨y,h3,g3⟩:=bnd g2;obtain⟨ys,h4,g4⟩:=bnd g3;cases g4
  exact .inl ⟨rfl,y,ys,h3,h4,rfl⟩
 |false=>
  rw[aS bU]at g2;exact .inr ⟨rfl,g2⟩
section
variable {X:Cx}{M:List Md}{tn ys:List br}{js:List Nat}{scope:fw}{elt tg iter:Expr}{ifs:List Expr}{pos:eH}{g:TG}{n:Nat}{pt:D->Option (List D)}{fi:EvA}{ft:EvT}{fe:EvE}{u m:Ty}
def a2u(hi:∀(Z:List D) (σ:L2.St) (H P:Hp) (F:List au) (ds:List D) (R:It->Hp->Prop),StE X.K M Z σ H P F->fi Z=cz ds->
   (∀J xs Pr H1,Same H H1->Walks J Pr xs->(∀H2,Same (cut H1 F) H2->Pr H2)->DenAll X.K (cut H1 F) xs ds->R J H1)->wi σ H R)
  (hg:TgR X.K g n pt) (hm:m=.i∨m=.f) (nB:m=.i->∀Z ds,fi Z=cz ds->∀d∈ds,∀bs,pt d=cz bs->f8 bs=true) (oH:tn.length=n)
  {Z:List D} (S:StE X.K M Z σ H P F) (hf:u8 fi js pt ft fe Z=cz d) (q:∀v H',Same H H'->ResR X.K (.new (.l u)) H H' F v d->Q v H') :
  a0Q wi g (spT X.K (D8 (.own m) n M js) ft) (spE X.K (D8 (.own m) n M js) fe (.new u)) (U5 tn js) σ H Q:=by
 obtain⟨ds,h1,g1⟩:=bnd hf;by_cases hz:ds.length<=1000000
 ·rw[aL hz]at g1;obtain⟨res,h2,g2⟩:=bnd g1;cases g2
  refine hi Z σ H P F ds _ S h1 λJ xs Pr H1 e1 hw oN hx Dl hD=>?_
  have rN:=hx.length;have BE:Dl∉F:=λz=>by obtain⟨zs,w⟩:=S.lst' e1 Dl z;rw[hD]at w;cases w
  refine a6Z hw (λi ys σ' H'=>(∃os:L2.St,os.length=n/\σ'=os++js.map λj=>(σ[j]?).getD pz)/\H' Dl=cz (.lst ys)/\Same H1 H'/\∃(fp:List au) (zs rs:List D),ListAll (Own X.K H' (Dl::fp++F) u) ys zs fp/\fp.Nodup/\(∀a∈fp,H1 a=pz)/\Dl∉fp/\
    J4 pt ft fe (js.map λj=>Z.getD j .none) (ds.drop i)=cz rs/\res=zs++rs/\ys.length<=i) ?_ ?_ ?_ ?_
  ·exact⟨⟨_,by rw[d_];exact oH,rfl⟩,j8,q9 hD _,[],[],res,p7,bW,λa ha=>(nomatch ha),λh=>(nomatch h),h2,rfl,aG _⟩
  ·rintro i ys σ' H' ⟨_,_,e,_⟩;exact oN H' (j5.trans e)
  ·rintro i x ys σ' H' nM ⟨⟨os,ho,rfl⟩,nc,e2,fp,zs,rs,gI,kA,kB,jK,hc,jG,vJ⟩;obtain⟨d,m_,_⟩:=hx.getV nM;have kY:i<ds.length:=(aT.mp m_).1;have jJ:ds.drop i=d::ds.drop (i+1):=by
    rw[cI kY]
    congr 1;exact (aT.mp m_).2
   rw[jJ]at hc;obtain⟨bs,k,sT,l_,vW⟩:=a1e hc;have hfl:∀a∈Dl::fp,∃zs:MuO,H' a=cz zs.1:=λa ha=>by
    rcases aF.mp ha with z|z
    ·subst z;exact⟨⟨.lst ys,trivial⟩,nc⟩
    ·exact gI.lst (u:=u) (λv d f q=>q.lst u) a z
   have kQ:∀a∈Dl::fp,H1 a=pz:=λa ha=>by
    rcases aF.mp ha with z|z
    ·subst z;exact hD
    ·exact kB a z
   have S1:StE X.K M Z σ H' P (Dl::fp++F):=(S.grow e1).more (fp:=Dl::fp) e2 kQ hfl;have wF:DenAll X.K (cut H' (Dl::fp++F)) xs ds:=hx.up (N0 (fp:=Dl::fp) e2 kQ);obtain⟨d',lh,qT⟩:=wF.getV nM;rw[m_]at lh;cases lh
   refine hg H' _ x d bs _ _ j5 qT sT (by rw[az,ho];lia) λvs pE qw=>?_
   rw[gF (by lia),rE (by lia),cx];have SB:StE X.K (D8 (.own m) n M js) (bs++js.map λj=>Z.getD j .none) (vs.map cz++js.map λj=>(σ[j]?).getD pz) H' P (Dl::fp++F):=
    a3N S1 hm pE (λe=>nB e Z ds h1 d (bA m_) bs sT) qw rfl
   refine⟨_,P,_,k,SB,l_,λH3 e3=>?_⟩;rcases vW with⟨rfl,y,rest,vV,qF,rfl⟩|⟨rfl,qF⟩
   ·refine a2W ⟨_,P,_,y,SB.grow e3,vV,λv H4 e4 ⟨gp,o,nd,fr⟩=>?_⟩;have oW:=e3.trans e4;have tw:Dl∉gp:=λz=>by have w:=fr Dl z;rw[e3 _ _ nc]at w;cases w
    have wx:∀a∈gp,a∉fp:=λa ha z=>by
     obtain⟨zs,w⟩:=hfl a (av _ z);have w2:=fr a ha;rw[e3 _ _ w]at w2;cases w2
    have iV:∀a,a∈Dl::(fp++gp)++F->a∈gp++(Dl::fp++F):=λa ha=>by
     simp only[cw,aF,ar]at ha ⊢;rcases ha with z|(z|z)|z
     ·exact .inr (.inl z)
     ·exact .inr (.inr (.inl z))
     ·exact .inl z
     ·exact .inr (.inr (.inr z))
    have qY:Same (cut H' (Dl::fp++F)) (cut (upd H4 Dl (.lst (ys++[v]))) (Dl::(fp++gp)++F)):=λa o' ha=>by
     obtain⟨n1,n2⟩:=t5 ha;have gU:a≠Dl:=λz=>n1 (by rw[z];exact aw _ aD)
     refine l0 (λz=>?_) (by rw[g7 gU];exact oW _ _ n2);rcases ar.mp (iV a z) with w|w
     ·have:=fr a w;rw[e3 _ _ n2]at this;cases this
     ·exact n1 w
    have wJ:Same (cut H4 (gp++(Dl::fp++F))) (cut (upd H4 Dl (.lst (ys++[v]))) (Dl::(fp++gp)++F)):=λa o' ha=>by
     obtain⟨n1,n2⟩:=t5 ha;have gU:a≠Dl:=λz=>n1 (by rw[z];exact aq _ (aw _ aD))
     exact l0 (λz=>n1 (iV a z)) (by rw[g7 gU];exact n2)
    refine⟨oW _ _ nc,?_,⟨_,by rw[ao];exact qw,rfl⟩,j8,?_,fp++gp,zs++[y],rest,?_,?_,?_,?_,qF,by rw[jG,aI];rfl,by rw[az];simp;lia⟩
    ·exact hU (bZ vJ (bZ (dH kY) hz)) (by rw[dD];decide)
    ·exact a3E (e2.trans oW) hD _
    ·refine (l6 qY gI λa ha=>?_).append ?_
     ·rw[g7 (show a≠Dl from λz=>jK (z▸ha))];obtain⟨zs,w⟩:=hfl a (av _ ha);rw[w,oW _ _ w]
     ·have:=n4 (R:=Own X.K (upd H4 Dl (.lst (ys++[v]))) (Dl::(fp++gp)++F) u) (o.frame wJ u λa ha=>g7 (λz=>tw (z▸ha))) p7
      rwa[bg]at this
    ·rw[cB];exact⟨kA,nd,λa ha b hb e=>wx b hb (e▸ha)⟩
    ·intro a ha;rcases ar.mp ha with z|z
     ·exact kB a z
     ·exact (e2.trans e3).free (fr a z)
    ·intro z;rcases ar.mp z with w|w
     ·exact jK w
     ·exact tw w
   ·refine a2V ?_;have qY:Same (cut H' (Dl::fp++F)) (cut H3 (Dl::fp++F)):=D7 e3;refine⟨⟨_,by rw[ao];exact qw,rfl⟩,e3 _ _ nc,e2.trans e3,fp,zs,rs,l6 qY gI λa ha=>?_,kA,kB,jK,qF,jG,by lia⟩;obtain⟨zs,w⟩:=hfl a (av _ ha);rw[w,e3 _ _ w]
  ·rintro ys σ' H' ⟨_,nc,e2,fp,zs,rs,gI,kA,kB,jK,hc,jG,_⟩;rw[rN,gx]at hc;cases hc
   rw[bg]at jG;subst jG;refine q (.ref Dl) H' (e1.trans e2) ⟨Dl::fp,?_,cf.mpr ⟨jK,kA⟩,λa ha=>?_⟩
   ·simp only[Own];exact .inr ⟨Dl,ys,res,fp,rfl,nc,rfl,rfl,gI⟩
   ·rcases aF.mp ha with z|z
    ·subst z;exact e1.free hD
    ·exact e1.free (kB a z)
 ·rw[aS hz]at g1;cases g1
def a0I(hc:X.calm=true)(hi:PIX X M tg iter fi)(C:O1 scope X.env.kindOf ys js X.N=true)(hg:∀cl Cl s H fp,PG (E6 X (tn++ys) scope cl Cl s H fp) tg g)(tu:TgR X.K g n pt)(hm:m=.i∨m=.f)
  (nB:m=.i->∀Z ds,fi Z=cz ds->∀d∈ds,∀bs,pt d=cz bs->f8 bs=true) (oH:tn.length=n)
  (ht:∀cl Cl s H fp,PTs (E6 X (tn++ys) scope cl Cl s H fp) ifs (spT X.K (D8 (.own m) n M js) ft)) (he:∀cl Cl s H fp,PX (E6 X (tn++ys) scope cl Cl s H fp) (D8 (.own m) n M js) elt fe (.new u))
  (hs:∀x,dM iter X.env x=pure x:=by intro _;rfl):PX X M (.ListComp elt [⟨tg,iter,ifs,0⟩] scope pos) (u8 fi js pt ft fe) (.new (.l u)):=by
 obtain⟨wi,pi,qi⟩:=hi;exact .mk ⟨_,a3F (te:=spE X.K (D8 (.own m) n M js) fe (.new u)) hc pi C hg ht he hs,λZ σ H P F d Q S hf q=>a2u qi tu hm nB oH S hf q⟩
def T2:∀{X':Cx} {M':List Md},PTs X' [] (spT X'.K M' tT):=λ{X' M'} pins s σ H Q I ⟨Z,P,F,b,S,hb,q⟩=>by
 cases hb
 exact b0q pins s σ H Q I (q H (Same.refl _))
def a8w(h:PTX X' M' c f):PTs X' [c] (spT X'.K M' f):=b0r h
def a6b:(Ty.f=Ty.i)->∀(Z ds:List D),fi Z=cz ds->∀d∈ds,∀bs,pt d=cz bs->f8 bs=true:=λh=>nomatch h
def b4S:(Ty.i=Ty.i)->∀(Z ds:List D),iI fi Z=cz ds->∀d∈ds,∀bs,pt1 d=cz bs->f8 bs=true:=λ_ Z ds h d hd bs hb=>by
 obtain⟨es,_,g1⟩:=bnd h;by_cases c:f8 es=true
 ·rw[aL c]at g1;cases g1
  cases hb
  simp only[f8,fU];exact A9 c hd
 ·rw[aS c]at g1;cases g1
def b4T:(Ty.i=Ty.i)->∀(Z ds:List D),iI fi Z=cz ds->∀d∈ds,∀bs,pt2 d=cz bs->f8 bs=true:=λ_ Z ds h d hd bs hb=>by
 obtain⟨es,_,g1⟩:=bnd h;by_cases c:f8 es=true
 ·rw[aL c]at g1;cases g1
  have:=A9 c hd
  match d,hb with
  |.tuple [a,b],hb=>
   cases hb
   simpa only [imm]using this
 ·rw[aS c]at g1;cases g1
def W6(lo:Int)(n:Nat):f8 (B0 lo n)=true:=by
 have:∀l:List Nat,f8 (l.map λ(k:Nat)=>aX (lo+k))=true:=by
  intro l
  induction l with
  |nil=>simp only[cY,f8]
  |cons x l ih=>simp only[aA,f8,imm,ih,eG]
 exact this _
def a8x:(Ty.i=Ty.i)->∀(Z ds:List D),iR fa Z=cz ds->∀d∈ds,∀bs,pt1 d=cz bs->f8 bs=true:=λ_ Z ds h d hd bs hb=>by
 obtain⟨x,h1,g1⟩:=bnd h;obtain⟨k,h2,g2⟩:=bnd g1
 split at g2
 ·cases g2
  cases hb
  simp only[f8,fU];exact A9 (W6 _ _) hd
 ·cases g2
def b2S:(Ty.i=Ty.i)->∀(Z ds:List D),iR2 fa fb Z=cz ds->∀d∈ds,∀bs,pt1 d=cz bs->f8 bs=true:=λ_ Z ds h d hd bs hb=>by
 obtain⟨x,h1,g1⟩:=bnd h;obtain⟨k,h2,g2⟩:=bnd g1;obtain⟨y,h3,g3⟩:=bnd g2;obtain⟨k',h4,g4⟩:=bnd g3
 split at g4
 ·cases g4
  cases hb
  simp only[f8,fU];exact A9 (W6 _ _) hd
 ·cases g4
end
section
variable {K:ae}{H H' P:Hp}{F F':List au}
theorem StAll.split:∀{A B:List Md} {Z:List D} {σ:L2.St} {G:List au},StAll K H F (A++B) Z σ G->∃Z1 Z2 σ1 σ2 G1 G2,Z=Z1++Z2/\σ=σ1++σ2/\G=G1++G2/\StAll K H F A Z1 σ1 G1/\StAll K H F B Z2 σ2 G2
 |[],B,Z,σ,G,h=>⟨[],Z,[],σ,[],G,rfl,rfl,rfl,G0,h⟩
 |m::A,B,_,_,_,h=>by
  simp only[cw,StAll]at h;obtain⟨d,Z,o,σ,f,g,rfl,rfl,rfl,h1,h2⟩:=h;obtain⟨Z1,Z2,σ1,σ2,G1,G2,rfl,rfl,rfl,h3,h4⟩:=StAll.split h2;exact⟨d::Z1,Z2,o::σ1,σ2,f++G1,G2,rfl,rfl,by rw[aI],j7 h1 h3,h4⟩
theorem StAll.join:∀{A B:List Md} {Z1 Z2:List D} {σ1 σ2:L2.St} {G1 G2:List au},StAll K H F A Z1 σ1 G1->StAll K H F B Z2 σ2 G2->StAll K H F (A++B) (Z1++Z2) (σ1++σ2) (G1++G2)
 |[],B,_,_,_,_,_,_,h,q=>by
  simp only[StAll]at h;obtain⟨rfl,rfl,rfl⟩:=h;exact q
 |m::A,B,_,_,_,_,_,_,h,q=>by
  simp only[StAll]at h;obtain⟨d,Z,o,σ,f,g,rfl,rfl,rfl,h1,h2⟩:=h;rw[aI];exact j7 h1 (StAll.join h2 q)
def a3O{α:Type}{a b c d:List α}(h:a++b=c++d)(hl:a.length=c.length):a=c/\b=d:=List.append_inj h hl
def StAll.splitAt{A B:List Md}{Z1 Z2:List D}{σ1 σ2:L2.St}(h:StAll K H F (A++B) (Z1++Z2) (σ1++σ2) G)(hZ:Z1.length=A.length)(hσ:σ1.length=A.length):∃G1 G2,G=G1++G2/\StAll K H F A Z1 σ1 G1/\StAll K H F B Z2 σ2 G2:=by
 obtain⟨r1,r2,s1,s2,G1,G2,e1,e2,e3,h1,h2⟩:=h.split;obtain⟨l1,l2⟩:=h1.len;obtain⟨rfl,rfl⟩:=a3O e1 (by lia);obtain⟨rfl,rfl⟩:=a3O e2 (by lia);exact⟨G1,G2,e3,h1,h2⟩
theorem W7:∀{us:List Ty} {vs:List V} {ds:List D} {G:List au},StAll K H F (us.map Md.own) ds (vs.map cz) G->OwnTs K H F us vs ds G
 |[],vs,ds,G,h=>by
  simp only[cY,StAll]at h;obtain⟨rfl,e,rfl⟩:=h;have:vs=[]:=by simpa using e
  subst this;simp only[OwnTs];exact⟨trivial,trivial,trivial⟩
 |u::us,vs,ds,G,h=>by
  simp only[aA,StAll]at h;obtain⟨d,Z,o,σ,f,g,rfl,e,rfl,⟨v,rfl,h1⟩,h2⟩:=h;cases vs with
  |nil=>simp at e
  |cons v' vs=>
   simp only[aA,fV,yV]at e;obtain⟨rfl,rfl⟩:=e;simp only[OwnTs];exact⟨v',vs,d,Z,f,g,rfl,rfl,rfl,h1,W7 h2⟩
end
def Pend(K:ae)(Mp:List Md)(Zp:List D)(σp:L2.St)(M:List Md)(Z:List D)(σ:L2.St)(H P:Hp)(F:List au):Prop:=
 Zp.length=Mp.length/\σp.length=Mp.length/\StR K (Mp++M) (Zp++Z) (σp++σ) H P F
section
variable {K:ae}{Mp M:List Md}{Zp Z:List D}{σp σ:L2.St}{H H' P:Hp}{F:List au}
def Pend.e(h:Pend K Mp Zp σp M Z σ H P F):StE K M Z σ H P F:=by
 obtain⟨l1,l2,S⟩:=h;obtain⟨G,h1,h2,h3⟩:=S.all;obtain⟨G1,G2,rfl,_,h4⟩:=h1.splitAt l1 l2;exact⟨⟨G2,h4,λa ha=>h3 a (aq _ ha)⟩,S.lst,S.prot⟩
theorem Pend.grow(h:Pend K Mp Zp σp M Z σ H P F)(e:Same H H'):Pend K Mp Zp σp M Z σ H' P F:=⟨h.1,h.2.1,h.2.2.grow e⟩
def Pend.new(h:Pend K Mp Zp σp M Z σ H P F)(e:Same H H')(o:Own K H' (fp++F) u v d fp)(nd:fp.Nodup)(fr:∀a∈fp,H a=pz):Pend K (Mp++[.own u]) (Zp++[d]) (σp++[cz v]) M Z σ H' P (fp++F):=by
 obtain⟨l1,l2,S⟩:=h;refine⟨by simp[l1],by simp[l2],?_⟩;have S1:=S.more e fr (o.lst u);obtain⟨G,h1,h2,h3⟩:=S.all;obtain⟨G1,G2,rfl,h4,h5⟩:=h1.splitAt l1 l2;have hc:Same (cut H F) (cut H' (fp++F)):=N0 e fr;have k:∀a∈G1++G2,H' a=H a:=λa ha=>S.toE.keep e a (h3 a ha)
 have q:=(h4.frame hc λa ha=>k a (aw _ ha)).join ((j7 (m:=.own u) (d:=d) (o:=cz v) (f:=fp) ⟨v,rfl,o⟩ (h5.frame hc λa ha=>k a (aq _ ha))));refine⟨⟨G1++(fp++G2),by simpa using q,a2q h2 nd λa ha z=>?_,λa ha=>?_⟩,S1.lst,S1.prot⟩
 ·obtain⟨ys,w⟩:=S.lst a (h3 a z);rw[fr a ha]at w;cases w
 ·rcases a5V ha with z|z
  ·exact aw _ z
  ·exact aq _ (h3 a z)
def Pend.move(h:Pend K Mp Zp σp M Z σ H P F)(hm:M[i]?=cz (.own u)):∃v,σ[i]?=cz (cz v)/\Pend K (Mp++[.own u]) (Zp++[Z.getD i .none]) (σp++[cz v]) (M.set i .dead) Z σ H P F:=by
 obtain⟨l1,l2,S⟩:=h;obtain⟨G,h1,h2,h3⟩:=S.all;obtain⟨G1,G2,rfl,h4,h5⟩:=h1.splitAt l1 l2;obtain⟨d,o,f,pre,post,e1,e2,⟨v,rfl,e3⟩,rfl,e5⟩:=h5.at_ hm;have q:=e5 H F .dead d (cz v) [] (λ_ _=>rfl) (Same.refl _) rfl;rw[set_same e1,set_same e2]at q;refine⟨v,e2,by simp[l1],by simp[l2],⟨⟨G1++(f++(pre++([]++post))),?_,?_,λa ha=>h3 a ?_⟩,S.lst,S.prot⟩⟩
 ·have:=h4.join (j7 (m:=.own u) (d:=d) (o:=cz v) (f:=f) ⟨v,rfl,e3⟩ q);rw[D5 e1];simpa using this
 ·rw[cx];refine (List.Perm.nodup_iff ?_).mp h2;refine jv G1 ?_;exact List.perm_append_comm_assoc pre f post
 ·simp only[ar,cx]at ha ⊢;rcases ha with z|z|z|z
  ·exact .inl z
  ·exact .inr (.inr (.inl z))
  ·exact .inr (.inl z)
  ·exact .inr (.inr (.inr z))
end
noncomputable def PMX(X:Cx)(M:List Md)(e:Expr)(f:EvE)(u:Ty)(M1:List Md):Prop:=
 ∃t,PE X e t/\∀(Mp:List Md) (Zp:List D) (σp:L2.St) (Z:List D) (σ:L2.St) (H P:Hp) (F:List au) (d:D) (Q:VK),Pend X.K Mp Zp σp M Z σ H P F->f Z=cz d->
  (∀v H' F',Same H H'->Pend X.K (Mp++[.own u]) (Zp++[d]) (σp++[cz v]) M1 Z σ H' P F'->Q v H')->t σ H Q
section
variable {X:Cx}{M M1 M2:List Md}{e:Expr}{es:List Expr}{f:EvE}{fa:EvA}{u:Ty}{us:List Ty}{pos:eH}
def b7(h:PX X M e f (.new u)):PMX X M e f u M:=by
 obtain⟨t,p,q⟩:=h.out;refine⟨t,p,λMp Zp σp Z σ H P F d Q S hf k=>q Z σ H P F d Q S.e hf λv H' e ⟨fp,o,nd,fr⟩=>k v H' _ e (S.new e o nd fr)⟩
def K8(i:Nat)(hN:X.N[i]?=cz x:=by rfl)(hv:Vis X.env.scope x:=by first|exact cX rfl|exact cR (cX rfl)|exact cR (cR rfl))(hd:(x==("__debug__":br))=false:=by decide)
  (gu:(x==("__classdict__":br))=false:=by decide) (hm:M[i]?=cz (.own u):=by rfl):PMX X M (.Name x pos) (a5 i) u (M.set i .dead):=by
 refine⟨_,P6 hN hv hd gu,λMp Zp σp Z σ H P F d Q S hf k=>?_⟩;cases hf
 obtain⟨v,e,S'⟩:=S.move hm;exact⟨v,e,k v H F (Same.refl _) S'⟩
end
def dAt:Ty->D->List Nat->Option (Ty×D)
 |u,d,[]=>cz (u,d)
 |.l u,.list ds,j::p=>(ds[j]?).bind λd=>dAt u d p
 |.tp us,.tuple ds,j::p=>(us[j]?).bind λu=>(ds[j]?).bind λd=>dAt u d p
 |_,_,_=>pz
def Y5:D->List Nat->D->D
 |_,[],e=>e
 |.list ds,j::p,e=>.list (ds.set j (Y5 (ds.getD j .none) p e))
 |.tuple ds,j::p,e=>.tuple (ds.set j (Y5 (ds.getD j .none) p e))
 |d,_,_=>d
def wk(H:Hp):V->List Nat->V->Prop
 |v,[],w=>w=v
 |v,j::p,w=>∃a xs v1,v=.ref a/\(H a=cz (.lst xs)∨H a=cz (.tup xs))/\xs[j]?=cz v1/\wk H v1 p w
theorem a6c(e:Same H H'):∀{p:List Nat} {v w:V},wk H v p w->wk H' v p w
 |[],_,_,h=>h
 |j::p,_,_,h=>by
  obtain⟨a,xs,v1,h1,h2,h3,h4⟩:=h;exact⟨a,xs,v1,h1,h2.imp (e _ _) (e _ _),h3,a6c e h4⟩
theorem a6d:∀{p:List Nat} {v w:V},wk H v p w->w=.ref a->(H a=cz (.lst xs)∨H a=cz (.tup xs))->xs[j]?=cz w'->wk H v (p++[j]) w'
 |[],v,w,h,e,h1,h2=>by
  have h':w=v:=h;subst h';exact⟨a,xs,w',e,h1,h2,rfl⟩
 |k::p,v,w,h,e,h1,h2=>by
  obtain⟨a',j_,v1,q1,q2,q3,q4⟩:=h;exact⟨a',j_,v1,q1,q2,q3,a6d q4 e h1 h2⟩
section
variable {K:ae}{H H':Hp}{F F':List au}
theorem ListAll.zip:∀{ds:List D} {xs:List V} {fp:List au} {j:Nat} {d:D},ListAll (Own K H F u) xs ds fp->ds[j]?=cz d->
  ∃v f pre post,xs[j]?=cz v/\Own K H F u v d f/\fp=pre++(f++post)/\
   ∀(H':Hp) (F':List au) (v':V) (d':D) (f':List au),(∀a∈pre++post,H' a=H a)->Same (cut H F) (cut H' F')->Own K H' F' u v' d' f'->ListAll (Own K H' F' u) (xs.set j v') (ds.set j d') (pre++(f'++post))
 |[],_,_,j,d,_,e=>by simp at e
 |d0::ds,_,_,0,d,h,e=>by
  obtain⟨v,r,f,g,rfl,rfl,h1,h2⟩:=h.cons_inv;have:d0=d:=by simpa using e
  subst this;refine⟨v,f,[],g,rfl,h1,rfl,λH' F' v' d' f' k e' o=>?_⟩;show ListAll (Own K H' F' u) (v'::r) (d'::ds) (f'++g);exact n4 o (l6 e' h2 k)
 |d0::ds,_,_,j+1,d,h,e=>by
  obtain⟨v,r,f,g,rfl,rfl,h1,h2⟩:=h.cons_inv;obtain⟨w,f',pre,post,e1,e2,e3,e4⟩:=ListAll.zip (j:=j) h2 (by simpa using e);subst e3;refine⟨w,f',f++pre,post,by simpa using e1,e2,by rw[aI],λH' F' v' d' g' k e' o=>?_⟩;rw[aI];refine n4 (h1.frame e' u λa ha=>k a ?_) (e4 H' F' v' d' g' (λa ha=>k a ?_) e' o)
  ·rw[aI];exact aw _ ha
  ·rw[aI];exact aq _ ha
theorem OwnTs.zip:∀{us:List Ty} {ds:List D} {xs:List V} {fp:List au} {j:Nat} {u:Ty} {d:D},OwnTs K H F us xs ds fp->us[j]?=cz u->ds[j]?=cz d->
  ∃v f pre post,xs[j]?=cz v/\Own K H F u v d f/\fp=pre++(f++post)/\
   ∀(H':Hp) (F':List au) (d':D) (f':List au),(∀a∈pre++post,H' a=H a)->Same (cut H F) (cut H' F')->Own K H' F' u v d' f'->OwnTs K H' F' us xs (ds.set j d') (pre++(f'++post))
 |[],_,_,_,j,u,d,_,e,_=>by simp at e
 |u0::us,_,_,_,0,u,d,h,e,e'=>by
  simp only[OwnTs]at h;obtain⟨v,r,d0,ds,f,g,rfl,rfl,rfl,h1,h2⟩:=h;have:u0=u:=by simpa using e
  subst this;have:d0=d:=by simpa using e'
  subst this;refine⟨v,f,[],g,rfl,h1,rfl,λH' F' d' f' k e' o=>?_⟩;show OwnTs K H' F' (u0::us) (v::r) (d'::ds) (f'++g);simp only[OwnTs];exact⟨v,r,d',ds,f',g,rfl,rfl,rfl,o,h2.frame e' us k⟩
 |u0::us,_,_,_,j+1,u,d,h,e,e'=>by
  simp only[OwnTs]at h;obtain⟨v,r,d0,ds,f,g,rfl,rfl,rfl,h1,h2⟩:=h;obtain⟨w,f',pre,post,e1,e2,e3,e4⟩:=OwnTs.zip (j:=j) h2 (by simpa using e) (by simpa using e');subst e3;refine⟨w,f',f++pre,post,by simpa using e1,e2,by rw[aI],λH' F' d' g' k e' o=>?_⟩;rw[aI];show OwnTs K H' F' (u0::us) (v::r) (d0::ds.set j d') (f++(pre++(g'++post)));simp only[OwnTs];refine⟨v,r,d0,_,f,_,rfl,rfl,rfl,h1.frame e' u0 λa ha=>k a ?_,e4 H' F' d' g' (λa ha=>k a ?_) e' o⟩
  ·rw[aI];exact aw _ ha
  ·rw[aI];exact aq _ ha
theorem Own.path:∀(p:List Nat) {u t:Ty} {v w:V} {d:D} {fp:List au} {ds:List D},Own K H F u v d fp->dAt u d p=cz (.l t,.list ds)->wk H v p w->
  ∃b xs fs pre post,w=.ref b/\H b=cz (.lst xs)/\fp=pre++((b::fs)++post)/\ListAll (Own K H F t) xs ds fs/\
   ∀(H':Hp) (F':List au) (j_:List V) (iF:List D) (jZ:List au),(∀a∈pre++post,H' a=H a)->Same (cut H F) (cut H' F')->H' b=cz (.lst j_)->ListAll (Own K H' F' t) j_ iF jZ->
    Own K H' F' u v (Y5 d p (.list iF)) (pre++((b::jZ)++post))
 |[],u,t,v,w,d,fp,ds,h,hd,hw=>by
  have gR:cz (u,d)=cz (.l t,.list ds):=hd;cases gR
  have vL:w=v:=hw;subst vL;simp only[Own]at h;rcases h with⟨_,hi,_⟩|⟨a,xs,iF,fs,rfl,h1,h2,rfl,h3⟩
  ·simp only[imm]at hi;cases hi
  ·cases h2
   refine⟨a,xs,fs,[],[],rfl,h1,by simp,h3,λH' F' j_ iF jZ _ _ k o=>?_⟩;simp only[Own,Y5,cx,bg];exact .inr ⟨a,j_,iF,jZ,rfl,k,rfl,rfl,o⟩
 |j::p,u,t,v,w,d,fp,ds,h,hd,hw=>by
  obtain⟨a0,pB,v1,rfl,oG,rP,hw⟩:=hw;cases u with
  |l u=>
   cases d with
   |list es=>
    have gR:(es[j]?).bind (λd=>dAt u d p)=cz (.l t,.list ds):=hd;obtain⟨d1,g1,g2⟩:=bnd gR;simp only[Own]at h;rcases h with⟨_,hi,_⟩|⟨a,xs,iW,fs,e0,h1,h2,rfl,h3⟩
    ·simp only[imm]at hi;cases hi
    ·cases h2
     cases e0
     have qo:pB=xs:=by rcases oG with z|z<;>rw[h1]at z<;>cases z;rfl
     subst qo;obtain⟨v2,f,pre,post,z1,z2,rfl,z4⟩:=h3.zip g1;rw[rP]at z1;cases z1
     obtain⟨b,ys,jZ,kL,iH,rfl,q2,rfl,q4,q5⟩:=Own.path p z2 g2 hw;refine⟨b,ys,jZ,a0::(pre++kL),iH++post,rfl,q2,by simp,q4,λH' F' j_ iF wR k e' hb o=>?_⟩;have k1:∀a∈pre++post,H' a=H a:=λa ha=>k a (by simp only[ar,aF]at ha ⊢;rcases ha with z|z;exact .inl (.inr (.inl z));exact .inr (.inr z))
     have k2:∀a∈kL++iH,H' a=H a:=λa ha=>k a (by simp only[ar,aF]at ha ⊢;rcases ha with z|z;exact .inl (.inr (.inr z));exact .inr (.inl z))
     have o1:=q5 H' F' j_ iF wR k2 e' hb o;have o2:=z4 H' F' _ _ _ k1 e' o1;rw[set_same rP]at o2;show Own K H' F' (.l u) (.ref a0) (.list (es.set j (Y5 (es.getD j .none) p (.list iF)))) _;rw[D5 g1];simp only[Own];refine .inr ⟨a0,pB,_,_,rfl,(k a0 (by simp)).trans h1,rfl,?_,o2⟩;simp
   |_=>cases hd
  |tp us=>
   cases d with
   |tuple es=>
    have gR:(us[j]?).bind (λu=>(es[j]?).bind λd=>dAt u d p)=cz (.l t,.list ds):=hd;obtain⟨u1,g0,wV⟩:=bnd gR;obtain⟨d1,g1,g2⟩:=bnd wV;simp only[Own]at h;obtain⟨a,xs,iW,e0,h1,h0,h2,h3⟩:=h;cases h2
    cases e0
    have qo:pB=xs:=by rcases oG with z|z<;>rw[h1]at z<;>cases z;rfl
    subst qo;obtain⟨v2,f,pre,post,z1,z2,rfl,z4⟩:=h3.zip g0 g1;rw[rP]at z1;cases z1
    obtain⟨b,ys,jZ,kL,iH,rfl,q2,rfl,q4,q5⟩:=Own.path p z2 g2 hw;refine⟨b,ys,jZ,pre++kL,iH++post,rfl,q2,by simp,q4,λH' F' j_ iF wR k e' hb o=>?_⟩;have k1:∀a∈pre++post,H' a=H a:=λa ha=>k a (by simp only[ar]at ha ⊢;rcases ha with z|z;exact .inl (.inl z);exact .inr (.inr z))
    have k2:∀a∈kL++iH,H' a=H a:=λa ha=>k a (by simp only[ar]at ha ⊢;rcases ha with z|z;exact .inl (.inr z);exact .inr (.inl z))
    have o1:=q5 H' F' j_ iF wR k2 e' hb o;have o2:=z4 H' F' _ _ k1 e' o1;show Own K H' F' (.tp us) (.ref a0) (.tuple (es.set j (Y5 (es.getD j .none) p (.list iF)))) _;rw[D5 g1];obtain⟨n1,n2⟩:=t5 (e' a0 _ (l0 h0 h1));simp only[Own];refine⟨a0,pB,_,rfl,n2,n1,rfl,?_⟩;simpa using o2
   |_=>cases hd
  |i=>cases hd
  |f=>cases hd
  |d kt u=>cases hd
def a1f{N O:List au}(h:O.Nodup)(k:∀a,N.count a<=O.count a):N.Nodup:=gE.mpr λa=>bZ (k a) (gE.mp h a)
def Pend.put{Z:List D}(h:Pend K ([]++[.own t]) ([]++[d]) ([]++[cz v]) M Z σ H P F)(hm:M[i]?=cz (.own u))(h0:σ[i]?=cz (cz v0))(hd:dAt u (Z.getD i .none) p=cz (.l t,.list ds))(hw:wk H v0 p w) :
  ∃b xs,w=.ref b/\H b=cz (.lst xs)/\xs.length=ds.length/\StR K M (Z.set i (Y5 (Z.getD i .none) p (.list (ds++[d])))) σ (upd H b (.lst (xs++[v]))) P F/\
   ∀j,j<ds.length->StR K M (Z.set i (Y5 (Z.getD i .none) p (.list (ds.set j d)))) σ (upd H b (.lst (xs.set j v))) P F:=by
 obtain⟨_,_,S⟩:=h;obtain⟨G,h1,h2,h3⟩:=S.all;have ng:StAll K H F (.own t::M) (d::Z) (cz v::σ) G:=by simpa using h1
 simp only[StAll]at ng;obtain⟨d',Z',o',σ',fv,G2,e1,e2,rfl,⟨v',e3,ov⟩,h5⟩:=ng;cases e1
 cases e2
 cases e3
 obtain⟨dd,oo,f,pre,post,q1,q2,⟨v2,rfl,q3⟩,rfl,q5⟩:=h5.at_ hm;rw[h0]at q2;cases q2
 rw[D5 q1]at hd;obtain⟨b,xs,fs,kL,iH,rfl,r2,rfl,r4,r5⟩:=q3.path p hd hw;have Bq:b∈F:=h3 b (by simp);have gA:∀o,Same (cut H F) (cut (upd H b o) F):=λo a o' ha=>by
  obtain⟨n1,n2⟩:=t5 ha;exact l0 n1 (by rw[g7 (show a≠b from λz=>n1 (z▸Bq))];exact n2)
 have gq:∀a,a≠b∨(pre++post).count a=0/\(kL++iH).count a=0/\fs.count a=0/\fv.count a=0:=λa=>by
  by_cases e:a=b
  ·subst e;have:=gE.mp h2 a;simp only[cC,cw,uq]at this ⊢;exact .inr ⟨by lia,by lia,by lia,by lia⟩
  ·exact .inl e
 have kk:∀(l:List au) (o:HO),(∀a,a=b->l.count a=0)->∀a∈l,upd H b o a=H a:=λl o hc a ha=>g7 λz=>by
  have:=hc a z;rw[xu]at this;exact this ha
 have c1:∀a,a=b->(pre++post).count a=0:=λa e=>((gq a).resolve_left (λn=>n e)).1
 have c2:∀a,a=b->(kL++iH).count a=0:=λa e=>((gq a).resolve_left (λn=>n e)).2.1
 have c3:∀a,a=b->fs.count a=0:=λa e=>((gq a).resolve_left (λn=>n e)).2.2.1
 have c4:∀a,a=b->fv.count a=0:=λa e=>((gq a).resolve_left (λn=>n e)).2.2.2
 have fin:∀(j_:List V) (iF:List D) (jZ:List au),ListAll (Own K (upd H b (.lst j_)) F t) j_ iF jZ->(∀a,jZ.count a<=fs.count a+fv.count a)->StR K M (Z.set i (Y5 dd p (.list iF))) σ (upd H b (.lst j_)) P F:=λj_ iF jZ ha nV=>by
  have o1:=r5 (upd H b (.lst j_)) F j_ iF jZ (kk _ _ c2) (gA _) j8 ha;have q:=q5 (upd H b (.lst j_)) F (.own u) (Y5 dd p (.list iF)) (cz v0) _ (kk _ _ c1) (gA _) ⟨v0,rfl,o1⟩;rw[set_same (l:=σ) h0,set_same (l:=M) hm]at q;refine⟨⟨_,q,a1f h2 λa=>?_,λa ha=>?_⟩,λa ha=>?_,S.prot.trans (gA _)⟩
  ·have:=nV a;simp only[cC,cw,jn];lia
  ·have hc:0<(fv++(pre++(kL++(b::fs++iH)++post))).count a:=by
    have h0:=h_.mpr ha;have:=nV a;simp only[cC,cw,jn]at h0 ⊢;lia
   exact h3 a (h_.mp hc)
  ·by_cases e:a=b
   ·subst e;exact⟨⟨.lst j_,trivial⟩,j8⟩
   ·obtain⟨ys,y⟩:=S.lst a ha;exact⟨ys,by rw[g7 e];exact y⟩
 rw[D5 q1];refine⟨b,xs,rfl,r2,r4.length,fin (xs++[v]) (ds++[d]) (fs++fv) ?_ λa=>by rw[cC];exact aG _,λj hj=>?_⟩
 ·refine (l6 (gA _) r4 (kk _ _ c3)).append ?_;have:=n4 (R:=Own K (upd H b (.lst (xs++[v]))) F t) (ov.frame (gA _) t (kk _ _ c4)) p7
  rwa[bg]at this
 ·obtain⟨v3,f3,a1,a2,s1,s2,rfl,s4⟩:=r4.zip (ah hj);have c5:∀a,a=b->(a1++a2).count a=0:=λa e=>by have:=c3 a e;simp only[cC]at this ⊢;lia
  refine fin (xs.set j v) (ds.set j d) (a1++(fv++a2)) (s4 _ F v d fv (kk _ _ c5) (gA _) (ov.frame (gA _) t (kk _ _ c4))) λa=>?_
  simp only[cC];lia
end
inductive Out where
 |nx (Z:List D)|rt (d:D)|bk (Z:List D)|ct (Z:List D)
abbrev EvS:=List D->Option Out
def EndsOk(K:ae)(P:Hp)(u:Ty)(ML M:List Md)(D:Ends)(o:Out):Prop:=
 match o with
 |.nx Z=>∀σ H F,StR K M Z σ H P F->D.nx σ H
 |.rt d=>∀v H fp,Own K H fp u v d fp->fp.Nodup->(∀a∈fp,P a=pz)->Same P H->D.rt v H
 |.bk Z=>∀σ H F,StR K ML Z σ H P F->D.bk σ H
 |.ct Z=>∀σ H F,StR K ML Z σ H P F->D.ct σ H
noncomputable def spS(K:ae)(u:Ty)(ML M:List Md)(g:EvS)(M':List Md):TS:=λD σ H=>∃(Z:List VS.D) (P:Hp) (F:List au) (o:Out),StR K M Z σ H P F/\g Z=cz o/\EndsOk K P u ML M' D o
noncomputable def PSX(X:Cx)(u:Ty)(ML M:List Md)(st:fH)(g:EvS)(M':List Md):Prop:=PS X st (spS X.K u ML M g M')
noncomputable def PSsX(X:Cx)(u:Ty)(ML M:List Md)(lP:List fH)(g:EvS)(M':List Md):Prop:=PSs X lP (spS X.K u ML M g M')
section
variable {X:Cx}{u:Ty}{ML M M':List Md}{st:fH}{lP:List fH}{g:EvS}
def PSX.mk(h:∃t,PS X st t/\∀(D:Ends) (Z:List VS.D) (σ:L2.St) (H P:Hp) (F:List au) (o:Out),StR X.K M Z σ H P F->g Z=cz o->EndsOk X.K P u ML M' D o->t D σ H):PSX X u ML M st g M':=by
 obtain⟨t,p,q⟩:=h;exact λpins s σ H D I ⟨Z,P,F,o,S,hg,k⟩=>p pins s σ H D I (q D Z σ H P F o S hg k)
def PSX.out(h:PSX X u ML M st g M'):∃t,PS X st t/\∀(D:Ends) (Z:List VS.D) (σ:L2.St) (H P:Hp) (F:List au) (o:Out),StR X.K M Z σ H P F->g Z=cz o->EndsOk X.K P u ML M' D o->t D σ H:=
 ⟨_,h,λ_ Z _ _ P F o S hg k=>⟨Z,P,F,o,S,hg,k⟩⟩
def PSsX.mk(h:∃t,PSs X lP t/\∀(D:Ends) (Z:List VS.D) (σ:L2.St) (H P:Hp) (F:List au) (o:Out),StR X.K M Z σ H P F->g Z=cz o->EndsOk X.K P u ML M' D o->t D σ H):PSsX X u ML M lP g M':=by
 obtain⟨t,p,q⟩:=h;exact λpins s σ H D I ⟨Z,P,F,o,S,hg,k⟩=>p pins s σ H D I (q D Z σ H P F o S hg k)
def PSsX.out(h:PSsX X u ML M lP g M'):∃t,PSs X lP t/\∀(D:Ends) (Z:List VS.D) (σ:L2.St) (H P:Hp) (F:List au) (o:Out),StR X.K M Z σ H P F->g Z=cz o->EndsOk X.K P u ML M' D o->t D σ H:=
 ⟨_,h,λ_ Z _ _ P F o S hg k=>⟨Z,P,F,o,S,hg,k⟩⟩
end
def Wk(M M1:List Md):Prop:=∀(K:ae) (Z:List D) (σ:L2.St) (H P:Hp) (F:List au),StR K M Z σ H P F->∃F',StR K M1 Z σ H P F'
def o8:Wk M M:=λ_ _ _ _ _ F S=>⟨F,S⟩
def Wk.trans(a:Wk M M1)(b:Wk M1 M2):Wk M M2:=λK Z σ H P F S=>by
 obtain⟨F1,S1⟩:=a K Z σ H P F S;exact b K Z σ H P F1 S1
def l7{M:List Md}(i:Nat)(h:M[i]?=cz m:=by rfl):Wk M (M.set i .dead):=λK Z σ H P F S=>⟨F,S.dead h⟩
def U9{M:List Md}(i:Nat)(h:M[i]?=cz (.own u):=by rfl):Wk M (M.set i (.own .f)):=λK Z σ H P F S=>S.freeze h
noncomputable def i6:EvS:=λZ=>cz (.nx Z)
noncomputable def c6(a b:EvS):EvS:=λZ=>(a Z).bind λo=>match o with
 |.nx Z'=>b Z'
 |o=>cz o
noncomputable def e7(i:Nat)(f:EvE):EvS:=λZ=>(f Z).bind λd=>cz (.nx (Z.set i d))
def asP:D->Option (D×D)
 |.tuple [a,b]=>cz (a,b)
 |_=>pz
noncomputable def J6(i j:Nat)(f:EvE):EvS:=λZ=>(f Z).bind λd=>(asP d).bind λp=>cz (.nx ((Z.set i p.1).set j p.2))
noncomputable def k7(f:EvE):EvS:=λZ=>(f Z).bind λd=>cz (.rt d)
noncomputable def sEx(f:EvE):EvS:=λZ=>(f Z).bind λ_=>cz (.nx Z)
noncomputable def sIf(c:EvT)(a b:EvS):EvS:=λZ=>(c Z).bind λk=>if k then a Z else b Z
noncomputable def sNo:EvS:=λ_=>pz
noncomputable def D9(set:List D->D->Option (List D))(g:EvS):List D->List D->Option Out
 |[],Z=>cz (.nx Z)
 |d::ds,Z=>(set Z d).bind λZ1=>(g Z1).bind λo=>match o with
  |.nx Z'=>D9 set g ds Z'
  |.ct Z'=>D9 set g ds Z'
  |.bk Z'=>cz (.nx Z')
  |.rt d=>cz (.rt d)
def n9(i:Nat):List D->D->Option (List D):=λZ d=>cz (Z.set i d)
def T6(i j:Nat):List D->D->Option (List D):=λZ d=>(asP d).bind λp=>cz ((Z.set i p.1).set j p.2)
noncomputable def r8(fi:EvA)(set:List D->D->Option (List D))(g:EvS):EvS:=λZ=>(fi Z).bind λds=>D9 set g ds Z
noncomputable def whL(c:EvT)(g:EvS):Nat->List D->Option Out
 |0,_=>pz
 |n+1,Z=>(c Z).bind λk=>if k then (g Z).bind λo=>match o with
  |.nx Z'=>whL c g n Z'
  |.ct Z'=>whL c g n Z'
  |.bk Z'=>cz (.nx Z')
  |.rt d=>cz (.rt d)
  else cz (.nx Z)
noncomputable def sWh(n:List D->Nat)(c:EvT)(g:EvS):EvS:=λZ=>whL c g (n Z) Z
section
variable {K:ae}{M M1:List Md}{Z:List D}{σ:L2.St}{H P:Hp}{F:List au}
def StR.pend(S:StR K M Z σ H P F):Pend K [] [] [] M Z σ H P F:=⟨rfl,rfl,S⟩
def Pend.store{Zp:List D}(h:Pend K (Mp++[.own u]) (Zp++[d]) (σp++[cz v]) M Z σ H P F)(lp:Zp.length=Mp.length)(lq:σp.length=Mp.length)(hm:M[i]?=cz m) :
  Pend K Mp Zp σp (M.set i (.own u)) (Z.set i d) (σ.set i (cz v)) H P F:=by
 obtain⟨_,_,S⟩:=h;obtain⟨G,h1,h2,h3⟩:=S.all;obtain⟨G1,G2,rfl,h4,h5⟩:=h1.splitAt (by simp[lp]) (by simp[lq]);obtain⟨G3,G4,rfl,h6,h7⟩:=h4.splitAt lp lq;have h8:OwnTs K H F [u] [v] [d] G4:=W7 (us:=[u]) (vs:=[v]) h7;simp only[OwnTs]at h8;obtain⟨v',r,d',e,f,g,e1,e2,rfl,o,rfl,rfl,rfl⟩:=h8;cases e1
 cases e2
 obtain⟨d0,o0,f0,pre,post,q1,q2,q3,rfl,q5⟩:=h5.at_ hm;have q:=h6.join (q5 H F (.own u) d (cz v) f (λ_ _=>rfl) (Same.refl _) ⟨v,rfl,o⟩);refine⟨lp,lq,⟨⟨_,q,a1f h2 λa=>?_,λa ha=>h3 a ?_⟩,S.lst,S.prot⟩⟩
 ·simp only[cC];lia
 ·simp only[ar,bg]at ha ⊢;rcases ha with z|z|z|z
  ·exact .inl (.inl z)
  ·exact .inr (.inl z)
  ·exact .inl (.inr z)
  ·exact .inr (.inr (.inr z))
def Pend.st(h:Pend K [] [] [] M Z σ H P F):StR K M Z σ H P F:=h.2.2
def Pend.one(h:Pend K ([]++[.own u]) ([]++[d]) ([]++[cz v]) M Z σ H P F):∃fp,Own K H F u v d fp/\fp.Nodup/\∀a∈fp,a∈F:=by
 obtain⟨_,_,S⟩:=h;obtain⟨G,h1,h2,h3⟩:=S.all;obtain⟨G1,G2,rfl,h4,h5⟩:=h1.splitAt (A:=[]++[.own u]) (Z1:=[]++[d]) (σ1:=[]++[cz v]) rfl rfl;have h8:OwnTs K H F [u] [v] [d] G1:=W7 (us:=[u]) (vs:=[v]) h4;simp only[OwnTs]at h8;obtain⟨v',r,d',e,f,g,e1,e2,rfl,o,rfl,rfl,rfl⟩:=h8;cases e1
 cases e2
 rw[bg]at h2 h3;exact⟨f,o,(cB.mp h2).1,λa ha=>h3 a (aw _ ha)⟩
def b1Q(u u1 u2:Ty):Prop:=(u=.f/\u1=.f/\u2=.f)∨(u=.i/\u1=.i/\u2=.i)∨u=.tp [u1,u2]
def Pend.untup(h:Pend K ([]++[.own u]) ([]++[.tuple [d1,d2]]) ([]++[cz v]) M Z σ H P F)(hp:b1Q u u1 u2) :
  ∃a v1 v2,v=.ref a/\SqT K H a [v1,v2]/\Pend K ([.own u1]++[.own u2]) ([d1]++[d2]) ([cz v1]++[cz v2]) M Z σ H P F:=by
 obtain⟨_,_,S⟩:=h;obtain⟨G,h1,h2,h3⟩:=S.all;obtain⟨G1,G2,rfl,h4,h5⟩:=h1.splitAt (A:=[]++[.own u]) (Z1:=[]++[.tuple [d1,d2]]) (σ1:=[]++[cz v]) rfl rfl;have h8:OwnTs K H F [u] [v] [.tuple [d1,d2]] G1:=W7 (us:=[u]) (vs:=[v]) h4;simp only[OwnTs]at h8;obtain⟨v',r,d',e,f,g,e1,e2,rfl,o,rfl,rfl,rfl⟩:=h8;cases e1
 cases e2
 have key:∃a v1 v2 f1 f2,v=.ref a/\SqT K H a [v1,v2]/\f=f1++f2/\Own K H F u1 v1 d1 f1/\Own K H F u2 v2 d2 f2:=by
  rcases hp with⟨rfl,rfl,rfl⟩|⟨rfl,rfl,rfl⟩|rfl
  ·obtain⟨rfl,o'⟩:=a5W o;obtain⟨a,xs,rfl,k1,k2⟩:=o'.tup_inv;obtain⟨v1,v2,rfl,k3,k4⟩:=W5 k2;refine⟨a,v1,v2,[],[],rfl,U6 k1 j5,rfl,?_,?_⟩<;>simp only[Own]
   ·exact⟨trivial,k3⟩
   ·exact⟨trivial,k4⟩
  ·obtain⟨rfl,hi,o'⟩:=a0V o;obtain⟨a,xs,rfl,k1,k2⟩:=o'.tup_inv;obtain⟨v1,v2,rfl,k3,k4⟩:=W5 k2;simp only[imm,f8,aC]at hi;refine⟨a,v1,v2,[],[],rfl,U6 k1 j5,rfl,?_,?_⟩<;>simp only[Own]
   ·exact⟨trivial,hi.1,k3⟩
   ·exact⟨trivial,hi.2.1,k4⟩
  ·simp only[Own,OwnTs]at o;obtain⟨a,xs,ds,rfl,k1,_,e0,v1,r,Dj,e',f1,g1,rfl,e2,rfl,o1,v2,r2,Di,Dh,f2,g2,rfl,e3,rfl,o2,rfl,rfl,rfl⟩:=o;cases e0
   cases e2
   cases e3
   exact⟨a,v1,v2,f1,f2,rfl,SqT.of k1,by simp,o1,o2⟩
 obtain⟨a,v1,v2,f1,f2,rfl,k1,rfl,o1,o2⟩:=key;refine⟨a,v1,v2,rfl,k1,rfl,rfl,⟨⟨f1++(f2++G2),?_,by simpa using h2,λa ha=>h3 a (by simpa using ha)⟩,S.lst,S.prot⟩⟩;exact j7 (m:=.own u1) ⟨v1,rfl,o1⟩ (j7 (m:=.own u2) ⟨v2,rfl,o2⟩ h5)
end
section
variable {X:Cx}{u t:Ty}{ML M M1 M2 M':List Md}{st:fH}{lP body yL:List fH}{g g1 g2:EvS}{e tg iter:Expr}{f:EvE}{fc:EvT}{fi:EvA}{c:Cat}{pos:eH}
def EndsOk.pre{K:ae}{P:Hp}{D:Ends}{o:Out}(h:EndsOk K P u ML M' D o)(hw:Wk M M'):EndsOk K P u ML M D o:=by
 cases o with
 |nx Z=>exact λσ H F S=>by obtain⟨F',S'⟩:=hw K Z σ H P F S;exact h σ H F' S'
 |rt d=>exact h
 |bk Z=>exact h
 |ct Z=>exact h
def PSsX.weak(h:PSsX X u ML M1 lP g M2)(a:Wk M M1)(b:Wk M2 M'):PSsX X u ML M lP g M':=by
 obtain⟨t,p,q⟩:=h.out;refine .mk ⟨t,p,λD Z σ H P F o S hg k=>?_⟩;obtain⟨F1,S1⟩:=a _ Z σ H P F S;exact q D Z σ H P F1 o S1 hg (k.pre b)
def PSX.weak(h:PSX X u ML M1 st g M2)(a:Wk M M1)(b:Wk M2 M'):PSX X u ML M st g M':=by
 obtain⟨t,p,q⟩:=h.out;refine .mk ⟨t,p,λD Z σ H P F o S hg k=>?_⟩;obtain⟨F1,S1⟩:=a _ Z σ H P F S;exact q D Z σ H P F1 o S1 hg (k.pre b)
def m6:PSsX X u ML M [] i6 M:=.mk ⟨_,b0d,λD Z σ H P F o S hg k=>by cases hg;exact k σ H F S⟩
def b8(h1:PSX X u ML M st g1 M1)(h2:PSsX X u ML M1 lP g2 M'):PSsX X u ML M (st::lP) (c6 g1 g2) M':=by
 obtain⟨t1,p1,q1⟩:=h1.out;obtain⟨t2,p2,q2⟩:=h2.out;refine .mk ⟨_,a3A p1 p2,λD Z σ H P F o S hg k=>?_⟩;obtain⟨o1,h1,g1⟩:=bnd hg;refine q1 {D with nx:=t2 D} Z σ H P F o1 S h1 ?_;cases o1 with
 |nx Z'=>exact λσ' H' F' S'=>q2 D Z' σ' H' P F' o S' g1 k
 |rt d=>cases g1;exact k
 |bk Z'=>cases g1;exact k
 |ct Z'=>cases g1;exact k
def f9(h1:PSX X u ML M st g M1):PSsX X u ML M [st] g M1:=by
 obtain⟨t1,p1,q1⟩:=h1.out;exact .mk ⟨_,a5R p1,q1⟩
def i5(i:Nat)(hN:X.N.Nodup)(he:PMX X M e f t M1)(hi:X.N[i]?=cz x:=by rfl)(hx:Loc X.env.scope x:=by first|exact cX rfl|exact cR rfl)(hm:M1[i]?=cz m:=by rfl)
  (hs:gn e (cz (.Name x px)) pos.line X.env=pure false:=by rfl) (hf:X.fn x=true∨X.env.scope.names.lookup x=cz .local:=by first|exact .inl rfl|exact .inr rfl):PSX X u ML M (.Assign [.Name x px] e pos) (e7 i f) (M1.set i (.own t)):=by
 obtain⟨te,pe,qe⟩:=he;refine .mk ⟨_,b2q hN hi hx pe hs hf,λD Z σ H P F o S hg k=>?_⟩;obtain⟨d,h1,g1⟩:=bnd hg;cases g1
 exact qe [] [] [] Z σ H P F d _ S.pend h1 λv H' F' e S'=>k _ _ F' (S'.store rfl rfl hm).st
def a3b(i j:Nat){pt pk}(hN:X.N.Nodup)(hc:X.calm=true)(he:PMX X M e f t M1)(hp:b1Q t u1 u2)(hi:X.N[i]?=cz x:=by rfl)(hj:X.N[j]?=cz y:=by rfl)(hx:Loc X.env.scope x:=by first|exact cX rfl|exact cR rfl)
  (hy:Loc X.env.scope y:=by first|exact cX rfl|exact cR rfl) (gy:i≠j:=by decide) (mX:M1[i]?=cz m1:=by rfl) (qK:M1[j]?=cz m2:=by rfl)
  (AW:X.fn x=true∨X.env.scope.names.lookup x=cz .local:=by first|exact .inl rfl|exact .inr rfl) (AV:X.fn y=true∨X.env.scope.names.lookup y=cz .local:=by first|exact .inl rfl|exact .inr rfl)
  (hl:(fC [.Name x px,.Name y py] X.env).length=2:=by rfl) (jf:(fC [.Name x px,.Name y py] X.env).findIdx? (·.1)=pz:=by rfl)
  (hg1:PGs X [.Name x px,.Name y py] (a0O (M7 i) (a0O (M7 j) b0e)):=by exact u6 (y9 hN hi hx AW) (u6 (y9 hN hj hy AV) N9))
  (hs:mq [.Tuple [.Name x px,.Name y py] pk pt] e pos.line X.env=pure false:=by rfl) (hw:mr [.Tuple [.Name x px,.Name y py] pk pt] e X.env=pure pz:=by rfl)
  (h1:(fC [.Tuple [.Name x px,.Name y py] pk pt] X.env).map (·.2)=[iM (.Tuple [.Name x px,.Name y py] pk pt) X.env]:=by rfl) :
  PSX X u ML M (.Assign [.Tuple [.Name x px,.Name y py] pk pt] e pos) (J6 i j f) ((M1.set i (.own u1)).set j (.own u2)):=by
 obtain⟨te,pe,qe⟩:=he;refine .mk ⟨_,a4M pe (a2P hc hg1 hl jf) hs hw h1,λD Z σ H P F o S hg k=>?_⟩;obtain⟨d,h1,g1⟩:=bnd hg;obtain⟨⟨d1,d2⟩,h2,g2⟩:=bnd g1;cases g2
 have hd:d=.tuple [d1,d2]:=by
  match d,h2 with
  |.tuple [a,b],h2=>cases h2;rfl
 subst hd;refine qe [] [] [] Z σ H P F _ _ S.pend h1 λv H' F' e S'=>?_
 obtain⟨a,v1,v2,rfl,k1,S2⟩:=S'.untup hp;refine⟨a,_,rfl,k1,rfl,v1,[v2],rfl,v2,[],rfl,rfl,?_⟩;have S3:=S2.store (i:=j) rfl rfl qK;have wb:(M1.set j (.own u2))[i]?=cz m1:=by rw[dw (fx gy)];exact mX
 have S4:=(Pend.store (Mp:=[]) (Zp:=[]) (σp:=[]) (i:=i) S3 rfl rfl wb).st;rw[kF _ _ (fx gy),kF _ _ (fx gy),kF _ _ (fx gy)]at S4;exact k _ _ F' S4
def l5(he:PMX X M e f u M1):PSX X u ML M (.Return (cz e) pos) (k7 f) M':=by
 obtain⟨te,pe,qe⟩:=he;refine .mk ⟨_,b2k pe,λD Z σ H P F o S hg k=>?_⟩;obtain⟨d,h1,g1⟩:=bnd hg;cases g1
 refine qe [] [] [] Z σ H P F d _ S.pend h1 λv H' F' e S'=>?_
 obtain⟨fp,o,nd,sub⟩:=S'.one;refine k v H' fp (o.frame (J1 sub) u λ_ _=>rfl) nd (λa ha=>?_) (S'.2.2.prot.trans j5);cases hP:P a with
 |none=>rfl
 |some o'=>
  have:=S'.2.2.prot _ _ hP;rw[Y3 (sub a ha)]at this;cases this
def b0D(he:PX X M e f c)(hs:gn e pz pos.line X.env=pure false:=by rfl):PSX X u ML M (.Expr e pos) (sEx f) M:=by
 obtain⟨te,pe,qe⟩:=he.out;refine .mk ⟨_,a2O pe hs,λD Z σ H P F o S hg k=>?_⟩;obtain⟨d,h1,g1⟩:=bnd hg;cases g1
 exact qe Z σ H P F d _ S.toE h1 λv H' e _=>k σ H' F (S.grow e)
def q8(hc:PTX X M c0 fc)(ha:PSsX X u ML M body g1 M')(hb:PSsX X u ML M yL g2 M'):PSX X u ML M (.If c0 body yL pos) (sIf fc g1 g2) M':=by
 obtain⟨tc,pc,qc⟩:=hc.out;obtain⟨ta,pa,qa⟩:=ha.out;obtain⟨tb,pb,qb⟩:=hb.out;refine .mk ⟨_,b1K pc pa pb,λD Z σ H P F o S hg k=>?_⟩;obtain⟨b,h1,g1⟩:=bnd hg;refine qc Z σ H P F b _ S.toE h1 λH1 e1=>?_
 cases b with
 |true=>exact a2W (qa D Z σ H1 P F o (S.grow e1) g1 k)
 |false=>exact a2V (qb D Z σ H1 P F o (S.grow e1) g1 k)
def b4U:PSX X u ML M st sNo M':=.mk ⟨_,a7W,λD Z σ H P F o S hg k=>by cases hg⟩
def a8y(K:ae)(M MB:List Md)(g:TG)(set:List D->D->Option (List D))(m:D->Prop):Prop:=
 ∀(Z:List D) (σ:L2.St) (H P:Hp) (F:List au) (x:V) (d:D) (Z':List D) (Q:L2.St->Hp->Prop),StR K M Z σ H P F->Den K (cut H F) x d->m d->set Z d=cz Z'->(∀σ' F',StR K MB Z' σ' H P F'->Q σ' H)->g x σ H Q
def mI(d:D):Prop:=imm d=true
def mF(_:D):Prop:=True
def b2T(hm:M[i]?=cz m:=by rfl):a8y K M (M.set i (.own .f)) (M7 i) (n9 i) mF:=by
 intro Z σ H P F x d Z' Q S hd _ hs q;cases hs
 exact q _ _ (S.set (u:=.f) (fp:=[]) hm (Same.refl _) (by simp only[Own,cx];exact⟨trivial,hd⟩) bW λa ha=>(nomatch ha))
def E8(hm:M[i]?=cz m:=by rfl):a8y K M (M.set i (.own .i)) (M7 i) (n9 i) mI:=by
 intro Z σ H P F x d Z' Q S hd hi hs q;cases hs
 exact q _ _ (S.set (u:=.i) (fp:=[]) hm (Same.refl _) (by simp only[Own,cx];exact⟨trivial,hi,hd⟩) bW λa ha=>(nomatch ha))
def a8z(hw:w=.f∨w=.i)(gy:i≠j:=by decide)(mX:M[i]?=cz m1:=by rfl)(qK:M[j]?=cz m2:=by rfl):a8y K M ((M.set i (.own w)).set j (.own w)) (b2n K 2 (a0O (M7 i) (a0O (M7 j) b0e))) (T6 i j) (λd=>w=.i->imm d=true):=by
 intro Z σ H P F x d Z' Q S hd hi hs q;obtain⟨⟨d1,d2⟩,h2,g2⟩:=bnd hs;cases g2
 have Bc:d=.tuple [d1,d2]:=by
  match d,h2 with
  |.tuple [a,b],h2=>cases h2;rfl
 subst Bc;obtain⟨a,xs,rfl,k1,k2⟩:=hd.tup_inv;obtain⟨v1,v2,rfl,k3,k4⟩:=W5 k2;refine⟨a,_,rfl,U6 k1 j5,rfl,v1,[v2],rfl,v2,[],rfl,rfl,?_⟩;have o1:Own K H ([]++F) w v1 d1 []:=by
  rcases hw with rfl|rfl
  ·simp only[Own,cx];exact⟨trivial,k3⟩
  ·have:=hi rfl;simp only[imm,f8,aC]at this;simp only[Own,cx];exact⟨trivial,this.1,k3⟩
 have o2:Own K H ([]++([]++F)) w v2 d2 []:=by
  rcases hw with rfl|rfl
  ·simp only[Own,cx];exact⟨trivial,k4⟩
  ·have:=hi rfl;simp only[imm,f8,aC]at this;simp only[Own,cx];exact⟨trivial,this.2.1,k4⟩
 have S1:=S.set mX (Same.refl _) o1 bW λa ha=>(nomatch ha)
 exact q _ _ (S1.set (i:=j) (m:=m2) (by rw[dw gy];exact qK) (Same.refl _) o2 bW λa ha=>(nomatch ha))
def C3{set:List D->D->Option (List D)}{m:D->Prop}(hc:X.calm=true)(hp:oZ (aV X.prog X.w) X.A X.env X.xe)(hi:PIX X M tg iter fi)(hg:PG X tg gt)(hs:a8y X.K M MB gt set m)(hm:∀Z ds,fi Z=cz ds->∀d∈ds,m d)(hb:PSsX X u M MB body g M)
  (hf:∀x,dM iter X.env x=pure x:=by intro _;rfl):PSX X u ML M (.For tg iter body [] pos) (r8 fi set g) M:=by
 obtain⟨wi,pi,qi⟩:=hi;obtain⟨tb,pb,qb⟩:=hb.out;refine .mk ⟨_,a7Z hp hc pi hg pb hf,λD Z σ H P F o S mY k=>?_⟩;obtain⟨ds,h1,g1⟩:=bnd mY;refine qi Z σ H P F ds _ S.toE h1 λJ xs Pr H1 e1 hw oN hx=>?_
 have S1:=S.grow e1;have rN:=hx.length;refine⟨λi n σ' H'=>n=xs.length-i/\i<=xs.length/\∃Z' F',StR X.K M Z' σ' H' (cut H1 F) F'/\D9 set g (ds.drop i) Z'=cz o,⟨xs.length,by simp,cW _,Z,F,⟨S1.all,S1.lst,Same.refl _⟩,g1⟩,?_⟩;rintro i n σ' H' ⟨rfl,hi,Z',F',S',hfl⟩;have lg:Same (cut H1 F) (cut H' F'):=S'.prot;have q:=oN H' (lg.trans j5);by_cases gK:i<xs.length
 ·refine .inr ⟨hw.go i H' q gK,λσ2 H2=>∃Z2 F2,StR X.K M Z2 σ2 H2 (cut H1 F) F2/\D9 set g (ds.drop (i+1)) Z2=cz o,λσ2 H2 ⟨Z2,F2,S2,h2⟩=>⟨xs.length-(i+1),by lia,rfl,gK,Z2,F2,S2,h2⟩,λx H2 hy=>?_⟩;obtain⟨rfl,nM⟩:=hw.yld i H' x H2 q gK hy;have kY:i<ds.length:=by lia
  have jJ:ds.drop i=ds[i]::ds.drop (i+1):=cI kY;rw[jJ]at hfl;obtain⟨Z1,uF,g2⟩:=bnd (show (set Z' ds[i]).bind _=cz o from hfl);obtain⟨o1,hg1,g3⟩:=bnd g2;obtain⟨d',m_,qT⟩:=(hx.up lg).getV nM;have gR:d'=ds[i]:=by rw[ah kY]at m_;exact (aK m_).symm
  subst gR;refine hs Z' σ' H2 (cut H1 F) F' x _ Z1 _ S' qT (hm Z ds h1 _ (cF kY)) uF λσ3 F3 S3=>qb _ Z1 σ3 H2 (cut H1 F) F3 o1 S3 hg1 ?_
  cases o1 with
  |nx Z2=>exact λσ4 H4 F4 S4=>⟨Z2,F4,S4,g3⟩
  |ct Z2=>exact λσ4 H4 F4 S4=>⟨Z2,F4,S4,g3⟩
  |bk Z2=>
   have:o=.nx Z2:=(aK g3).symm;subst this;exact λσ4 H4 F4 S4=>k σ4 H4 F4 ⟨S4.all,S4.lst,S1.prot.trans S4.prot⟩
  |rt d=>
   have:o=.rt d:=(aK g3).symm;subst this;refine λv H4 fp o nd fr e=>k v H4 fp o nd (λa ha=>?_) (S1.prot.trans e)
   exact S1.prot.free (fr a ha)
 ·have e:i=xs.length:=by lia
  subst e;rw[rN,gx]at hfl;have:o=.nx Z':=(aK hfl).symm;subst this;exact .inl ⟨hw.stop _ H' q (aG _),k σ' H' F' ⟨S'.all,S'.lst,S1.prot.trans S'.prot⟩⟩
def a3P(n:List D->Nat)(hp:oZ (aV X.prog X.w) X.A X.env X.xe)(hc:PTX X M c0 fc)(hb:PSsX X u M M body g M):PSX X u ML M (.While c0 body [] pos) (sWh n fc g) M:=by
 obtain⟨tc,pc,qc⟩:=hc.out;obtain⟨tb,pb,qb⟩:=hb.out;refine .mk ⟨_,a7X hp pc pb,λD Z σ H P F o S mY k=>?_⟩;refine⟨λn σ' H'=>∃Z' F',StR X.K M Z' σ' H' P F'/\whL fc g n Z'=cz o,⟨n Z,Z,F,S,mY⟩,?_⟩;rintro n σ' H' ⟨Z',F',S',hw⟩;cases n with
 |zero=>cases hw
 |succ n=>
  obtain⟨b,h1,g1⟩:=bnd (show (fc Z').bind _=cz o from hw);refine qc Z' σ' H' P F' b _ S'.toE h1 λH1 e1=>?_
  cases b with
  |true=>
   refine a2W ⟨λσ2 H2=>∃Z2 F2,StR X.K M Z2 σ2 H2 P F2/\whL fc g n Z2=cz o,λσ2 H2 z=>⟨n,Cg _,z⟩,?_⟩;obtain⟨o1,hg1,g3⟩:=bnd (show (g Z').bind _=cz o from g1);refine qb _ Z' σ' H1 P F' o1 (S'.grow e1) hg1 ?_;cases o1 with
   |nx Z2=>exact λσ4 H4 F4 S4=>⟨Z2,F4,S4,g3⟩
   |ct Z2=>exact λσ4 H4 F4 S4=>⟨Z2,F4,S4,g3⟩
   |bk Z2=>
    have:o=.nx Z2:=(aK g3).symm;subst this;exact λσ4 H4 F4 S4=>k σ4 H4 F4 S4
   |rt d=>
    have:o=.rt d:=(aK g3).symm;subst this;exact k
  |false=>
   have:o=.nx Z':=(aK g1).symm;subst this;exact a2V (k σ' H1 F' (S'.grow e1))
end
abbrev EvP:=List D->Option (List Nat)
noncomputable def PPX(X:Cx)(M:List Md)(e:Expr)(i:Nat)(f:EvP):Prop:=
 ∃t,PE X e t/\∀(Z:List D) (σ:L2.St) (H P:Hp) (F:List au) (p:List Nat) (Q:VK),StE X.K M Z σ H P F->f Z=cz p->(∀v v0 H',Same H H'->σ[i]?=cz (cz v0)->wk H' v0 p v->Q v H')->t σ H Q
noncomputable def i7:EvP:=λ_=>cz []
def F9(u:Ty)(d:D)(p:List Nat):Option (List D):=(dAt u d p).bind λtd=>match td with
 | (.l _,.list ds)=>cz ds
 | (.tp _,.tuple ds)=>cz ds
 |_=>pz
noncomputable def pIx(i:Nat)(u:Ty)(fp:EvP)(fb:EvE):EvP:=λZ=>(fp Z).bind λp=>(F9 u (Z.getD i .none) p).bind λds=>(fb Z).bind λy=>(asI y).bind λk=>(ixN ds.length k).bind λj=>cz (p++[j])
section
variable {K:ae}{H:Hp}{F:List au}
theorem Own.sub:∀(p:List Nat) {u t:Ty} {v w:V} {d d':D} {fp:List au},Own K H F u v d fp->dAt u d p=cz (t,d')->wk H v p w->∃f',Own K H F t w d' f'
 |[],u,t,v,w,d,d',fp,h,hd,hw=>by
  have gR:cz (u,d)=cz (t,d'):=hd;cases gR
  have vL:w=v:=hw;subst vL;exact⟨fp,h⟩
 |j::p,u,t,v,w,d,d',fp,h,hd,hw=>by
  obtain⟨a0,pB,v1,rfl,oG,rP,hw⟩:=hw;cases u with
  |l u=>
   cases d with
   |list es=>
    obtain⟨d1,g1,g2⟩:=bnd (show (es[j]?).bind (λd=>dAt u d p)=cz (t,d') from hd);simp only[Own]at h;rcases h with⟨_,hi,_⟩|⟨a,xs,iW,fs,e0,h1,h2,rfl,h3⟩
    ·simp only[imm]at hi;cases hi
    ·cases h2
     cases e0
     have qo:pB=xs:=by rcases oG with z|z<;>rw[h1]at z<;>cases z;rfl
     subst qo;obtain⟨v2,f,pre,post,z1,z2,rfl,_⟩:=h3.zip g1;rw[rP]at z1;cases z1
     exact Own.sub p z2 g2 hw
   |_=>cases hd
  |tp us=>
   cases d with
   |tuple es=>
    obtain⟨u1,g0,wV⟩:=bnd (show (us[j]?).bind (λu=>(es[j]?).bind λd=>dAt u d p)=cz (t,d') from hd);obtain⟨d1,g1,g2⟩:=bnd wV;simp only[Own]at h;obtain⟨a,xs,iW,e0,h1,h0,h2,h3⟩:=h;cases h2
    cases e0
    have qo:pB=xs:=by rcases oG with z|z<;>rw[h1]at z<;>cases z;rfl
    subst qo;obtain⟨v2,f,pre,post,z1,z2,rfl,_⟩:=h3.zip g0 g1;rw[rP]at z1;cases z1
    exact Own.sub p z2 g2 hw
   |_=>cases hd
  |i=>cases hd
  |f=>cases hd
  |d kt u=>cases hd
def a8A{fp p}(h:Own K H F u v d fp)(hi:F9 u d p=cz ds)(hw:wk H v p w):∃a xs,w=.ref a/\(H a=cz (.lst xs)∨H a=cz (.tup xs))/\xs.length=ds.length:=by
 obtain⟨⟨t,d'⟩,h1,h2⟩:=bnd hi;obtain⟨f',o⟩:=h.sub p h1 hw
 match t,d',h2 with
 |.l t,.list es,h2=>
  cases h2
  simp only[Own]at o;rcases o with⟨_,hi,_⟩|⟨a,xs,iW,fs,e0,h1,h2,rfl,h3⟩
  ·simp only[imm]at hi;cases hi
  ·cases h2
   exact⟨a,xs,e0,.inl h1,h3.length⟩
 |.tp us,.tuple es,h2=>
  cases h2
  simp only[Own]at o;obtain⟨a,xs,iW,e0,h1,h0,h2,h3⟩:=o;cases h2
  exact⟨a,xs,e0,.inr h1,by rw[h3.len.1,h3.len.2]⟩
end
section
variable {X:Cx}{u t w:Ty}{ML M M1 M':List Md}{e b pl:Expr}{f fb:EvE}{fp:EvP}{cb:Cat}{pos apos eQ:eH}
def z8(i:Nat)(hN:X.N[i]?=cz x:=by rfl)(hv:Vis X.env.scope x:=by first|exact cX rfl|exact cR (cX rfl)|exact cR (cR rfl))(hd:(x==("__debug__":br))=false:=by decide)
  (gu:(x==("__classdict__":br))=false:=by decide) (hm:M[i]?=cz (.own u):=by rfl):PPX X M (.Name x pos) i i7:=by
 refine⟨_,P6 hN hv hd gu,λZ σ H P F p Q S hf k=>?_⟩;cases hf
 obtain⟨v,f,e,_⟩:=S.get hm;exact⟨v,e,k v v H (Same.refl _) e rfl⟩
def Y6(h:PPX X M pl i fp)(hb:PX X M b fb cb)(hm:M[i]?=cz (.own u):=by rfl)(hs:W1 b:=by exact λ_ _=>rfl):PPX X M (.Subscript pl b pos) i (pIx i u fp fb):=by
 obtain⟨ta,pa,qa⟩:=h;obtain⟨tb,pb,qb⟩:=hb.out;refine⟨_,a5U a3a pa pb hs,λZ σ H P F p Q S hf k=>?_⟩;obtain⟨p0,h1,g1⟩:=bnd hf;obtain⟨ds,h2,g2⟩:=bnd g1;obtain⟨y,h3,g3⟩:=bnd g2;obtain⟨kk,h4,g4⟩:=bnd g3;cases N1 h4
 obtain⟨j,h5,g5⟩:=bnd g4;cases g5
 refine qa Z σ H P F p0 _ S h1 λv v0 H1 e1 qy hw=>qb Z σ H1 P F _ _ (S.grow e1) h3 λwv H2 e2 r2=>?_
 obtain⟨v',f',e',o,_⟩:=(S.grow (e1.trans e2)).get hm;rw[qy]at e';cases e'
 have xX:=a6c e2 hw;obtain⟨a,xs,rfl,hh,hl⟩:=a8A o h2 xX;have hj:j<ds.length:=by
  obtain⟨_,z,_,_⟩:=a0G h5;exact z
 obtain⟨xj,hx⟩:∃xj,xs[j]?=cz xj:=⟨_,ah (by lia)⟩;have uS:L2.atI xs kk=cz xj:=by unfold L2.atI;rw[hl,h5];exact hx
 have fin:=k xj v0 H2 (e1.trans e2) qy (a6d xX rfl hh hx);rcases hh with hh|hh
 ·exact .inl ⟨a,xs,kk,_,rfl,r2.den.int_inv,.inl (.inl hh),uS,fin⟩
 ·exact .inr ⟨a,xs,kk,_,rfl,r2.den.int_inv,.inl (.inl hh),uS,fin⟩
noncomputable def n6(i:Nat)(u:Ty)(fp:EvP)(fe:EvE):EvS:=λZ=>(fp Z).bind λp=>(F9 u (Z.getD i .none) p).bind λds=>(fe Z).bind λd=>if ds.length<1000000 then cz (.nx (Z.set i (Y5 (Z.getD i .none) p (.list (ds++[d]))))) else pz
noncomputable def a7a(i:Nat)(u:Ty)(fp:EvP)(fj fe:EvE):EvS:=λZ=>(fe Z).bind λd=>(fp Z).bind λp=>(F9 u (Z.getD i .none) p).bind λds=>(fj Z).bind λy=>(asI y).bind λk=>(ixN ds.length k).bind λj=>cz (.nx (Z.set i (Y5 (Z.getD i .none) p (.list (ds.set j d)))))
noncomputable def TyAt(u:Ty)(fp:EvP)(t:Ty):Prop:=∀Z p d td,fp Z=cz p->dAt u d p=cz td->td.1=.l t
def W8:TyAt (.l t) i7 t:=λZ p d td h1 h2=>by
 cases h1
 have jy:cz (Ty.l t,d)=cz td:=h2;cases jy
 rfl
def TyAt.ix(h:∀Z p d td,fp Z=cz p->dAt u d p=cz td->td.1=.l (.l t)):TyAt u (pIx i u' fp fb) t:=λZ p d td h1 h2=>by
 obtain⟨p0,k1,g1⟩:=bnd h1;obtain⟨ds,k2,g2⟩:=bnd g1;obtain⟨y,k3,g3⟩:=bnd g2;obtain⟨kk,k4,g4⟩:=bnd g3;obtain⟨j,k5,g5⟩:=bnd g4;cases g5
 have key:∀(p:List Nat) (u:Ty) (d:D) (td:Ty×D),dAt u d (p++[j])=cz td->∃nG,dAt u d p=cz nG/\(∀t,nG.1=.l t->td.1=t):=by
  intro p
  induction p with
  |nil=>
   intro u d td h;refine⟨(u,d),rfl,λt e=>?_⟩;have e':u=.l t:=e;subst e';cases d with
   |list es=>
    obtain⟨d1,z1,z2⟩:=bnd (show (es[j]?).bind (λd=>dAt t d [])=cz td from h);have vf:cz (t,d1)=cz td:=z2;cases vf
    rfl
   |_=>cases h
  |cons a p ih=>
   intro u d td h;cases u with
   |l u=>
    cases d with
    |list es=>
     obtain⟨d1,z1,z2⟩:=bnd (show (es[a]?).bind (λd=>dAt u d (p++[j]))=cz td from h);obtain⟨nG,y1,y2⟩:=ih u d1 td z2;refine⟨nG,?_,y2⟩;show (es[a]?).bind (λd=>dAt u d p)=cz nG;rw[z1];exact y1
    |_=>cases h
   |tp us=>
    cases d with
    |tuple es=>
     obtain⟨u1,z0,vg⟩:=bnd (show (us[a]?).bind (λu=>(es[a]?).bind λd=>dAt u d (p++[j]))=cz td from h);obtain⟨d1,z1,z2⟩:=bnd vg;obtain⟨nG,y1,y2⟩:=ih u1 d1 td z2;refine⟨nG,?_,y2⟩;show (us[a]?).bind (λu=>(es[a]?).bind λd=>dAt u d p)=cz nG;rw[z0];show (es[a]?).bind (λd=>dAt u1 d p)=cz nG;rw[z1];exact y1
    |_=>cases h
   |i=>cases h
   |f=>cases h
   |d kt u=>cases h
 obtain⟨nG,y1,y2⟩:=key p0 u d td h2;exact y2 _ (h Z p0 d nG k1 y1)
def a6e:TyAt (.l (.l t)) (pIx i u' i7 fb) t:=TyAt.ix W8
def b4V:TyAt (.l (.l (.l t))) (pIx i u' (pIx i u' i7 fb) fc) t:=TyAt.ix a6e
def b4W{i:Nat}{us:List Ty}{k:Nat}(h:us[k]?=cz (.l t))(AZ:∀Z,fb Z=cz (.int k)):TyAt (.tp us) (pIx i (.tp us) i7 fb) t:=λZ p d td h1 h2=>by
 obtain⟨p0,k1,g1⟩:=bnd h1;cases k1
 obtain⟨ds,k2,g2⟩:=bnd g1;obtain⟨y,k3,g3⟩:=bnd g2;rw[AZ Z]at k3;cases k3
 obtain⟨kk,k4,g4⟩:=bnd g3;cases k4
 obtain⟨j,k5,g5⟩:=bnd g4;cases g5
 have hj:j=k:=by
  unfold ixN at k5;rw[aL (by lia)]at k5
  split at k5
  ·have:=aK k5;lia
  ·cases k5
 subst hj;cases d with
 |tuple es=>
  obtain⟨u1,z0,vg⟩:=bnd (show (us[j]?).bind (λu=>(es[j]?).bind λd=>dAt u d [])=cz td from h2);obtain⟨d1,z1,z2⟩:=bnd vg;rw[h]at z0;cases z0
  have vf:cz (Ty.l t,d1)=cz td:=z2;cases vf
  rfl
 |_=>cases h2
def a6f{p:List Nat}{ds:List D}(ht:∀td,dAt u d p=cz td->td.1=.l t)(hi:F9 u d p=cz ds):dAt u d p=cz (.l t,.list ds):=by
 obtain⟨⟨t',d'⟩,h1,h2⟩:=bnd hi;have e:t'=.l t:=ht _ h1;subst e;cases d' with
 |list es=>cases h2;exact h1
 |_=>cases h2
def J7(i:Nat)(hp:PPX X M pl i fp)(he:PMX X M e f t M1)(ht:TyAt u fp t)(hm:M[i]?=cz (.own u):=by rfl)(mX:M1[i]?=cz (.own u):=by rfl)
  (nY:attributeBase pl "append" X.env (cU pl X.env)=cU pl X.env:=by rfl)
  (qS:((dj eQ (ax [e] X.env)).all (λx=>!x.1)&&(backToKw eQ (keywordEach [] X.env)).all (λx=>x.1.isSome)
   && decide ([e].length+([]:List Ck).length+(if ([]:List Ck).isEmpty then 0 else 1)<30))=true:=by rfl)
  (nR:(apos.endLine==eQ.line)=true:=by rfl) (hs:ax [e] X.env=(false,cU e X.env)::ax [] X.env:=by rfl) (lZ:(dj eQ (ax [] X.env)).any (·.1)=false:=by rfl)
  (sN:gn (.Call (.Attribute pl "append" apos) [e] [] eQ) pz pos.line X.env=pure false:=by rfl) :
  PSX X w ML M (.Expr (.Call (.Attribute pl "append" apos) [e] [] eQ) pos) (n6 i u fp f) M1:=by
 obtain⟨tp,pp,qp⟩:=hp;obtain⟨te,pe,qe⟩:=he;refine .mk ⟨_,a2O (b4J PySem.F.plainAttrs_list PySem.F.slot_list_append PySem.F.type_list_append a2j pp (p6 pe A6 hs) nY qS nR hs lZ) sN,λD Z σ H P F o S hg k=>?_⟩;obtain⟨p,h1,g1⟩:=bnd hg;obtain⟨ds,h2,g2⟩:=bnd g1;obtain⟨d,h3,g3⟩:=bnd g2;by_cases hz:ds.length<1000000
 ·rw[aL hz]at g3;cases g3
  refine qp Z σ H P F p _ S.toE h1 λv v0 H1 e1 qy hw=>?_
  have S1:=S.grow e1;obtain⟨v',f',e',o,_⟩:=S1.toE.get hm;rw[qy]at e';cases e'
  have uR:=a6f (λtd z=>ht Z p _ td h1 z) h2;obtain⟨b,xs,fs,pre,post,rfl,r2,_,_,_⟩:=o.path p uR hw;refine⟨.inl ⟨rfl,xs,SqL.of r2⟩,qe [] [] [] Z σ H1 P F d _ S1.pend h3 λv1 H2 F2 e2 S2=>?_⟩;obtain⟨b',j_,e',zA,hl,S3,_⟩:=S2.put mX qy uR (a6c e2 hw);cases e'
  refine⟨b,j_,v1,rfl,rfl,zA,?_,k σ _ F2 S3⟩;rw[hl];exact rA hz (by rw[dD];decide)
 ·rw[aS hz]at g3;cases g3
def a8B(i:Nat)(hp:PPX X M1 pl i fp)(hj:PX X M1 j fj cj)(he:PMX X M e f t M1)(ht:TyAt u fp t)(mX:M1[i]?=cz (.own u):=by rfl)
  (ha:∀v,iM (.Subscript pl j fM) X.env v=(do
   let ov <-lR [v] (cU pl X.env)
   let iv <-lR [v,ov] (cU j X.env)
   standAt fM
   lR [v,ov,iv] (zv ov iv v)
   release [v,ov,iv] []):=by intro _;rfl)
  (hs:mq [.Subscript pl j fM] e pos.line X.env=pure false:=by rfl) (hw:mr [.Subscript pl j fM] e X.env=pure pz:=by rfl)
  (h1:(fC [.Subscript pl j fM] X.env).map (·.2)=[iM (.Subscript pl j fM) X.env]:=by rfl) :
  PSX X w ML M (.Assign [.Subscript pl j fM] e pos) (a7a i u fp fj f) M1:=by
 obtain⟨tp,pp,qp⟩:=hp;obtain⟨tj,pj,qj⟩:=hj.out;obtain⟨te,pe,qe⟩:=he;refine .mk ⟨_,a4M pe (b2o pp pj set_list ha) hs hw h1,λD Z σ H P F o S hg k=>?_⟩;obtain⟨d,h3,g3⟩:=bnd hg;obtain⟨p,h1,g1⟩:=bnd g3;obtain⟨ds,h2,g2⟩:=bnd g1;obtain⟨y,h4,g4⟩:=bnd g2;obtain⟨kk,h5,g5⟩:=bnd g4;cases N1 h5
 obtain⟨jj,h6,g6⟩:=bnd g5;cases g6
 refine qe [] [] [] Z σ H P F d _ S.pend h3 λv1 H1 F1 e1 S1=>qp Z σ H1 P F1 p _ S1.e h1 λv v0 H2 e2 qy zZ=>qj Z σ H2 P F1 _ _ (S1.e.grow e2) h4 λvj H3 e3 r3=>?_
 have S2:=(S1.grow (e2.trans e3));have uR:=a6f (λtd z=>ht Z p _ td h1 z) h2;obtain⟨b,xs,rfl,r2,hl,_,S3⟩:=S2.put mX qy uR (a6c e3 zZ);have gK:jj<ds.length:=(a0G h6).2.1;exact⟨b,xs,kk,jj,rfl,r3.den.int_inv,r2,by rw[hl];exact h6,k σ _ F1 (S3 jj gK)⟩
def V0(i:Nat)(hN:X.N.Nodup)(hc:X.calm=true)
  (hi:PIX X M tg iter fi) (C:O1 scope X.env.kindOf ys js X.N=true) (hg:∀cl Cl s H fp,PG (E6 X (tn++ys) scope cl Cl s H fp) tg g) (tu:TgR X.K g n pt) (Az:mm=.i∨mm=.f)
  (nB:mm=.i->∀Z ds,fi Z=cz ds->∀d∈ds,∀bs,pt d=cz bs->f8 bs=true) (oH:tn.length=n)
  (ht:∀cl Cl s H fp,PTs (E6 X (tn++ys) scope cl Cl s H fp) ifs (spT X.K (D8 (.own mm) n M js) ft)) (he:∀cl Cl s H fp,PX (E6 X (tn++ys) scope cl Cl s H fp) (D8 (.own mm) n M js) elt fe (.new t))
  (nM:X.N[i]?=cz x:=by rfl) (hx:Loc X.env.scope x:=by first|exact cX rfl|exact cR rfl) (hm:M[i]?=cz m:=by rfl)
  (sN:gn (.ListComp elt [⟨tg,iter,ifs,0⟩] scope cps) (cz (.Name x px)) pos.line X.env=pure true:=by rfl) (hs:∀x,dM iter X.env x=pure x:=by intro _;rfl)
  (hf:X.fn x=true∨X.env.scope.names.lookup x=cz .local:=by first|exact .inl rfl|exact .inr rfl) :
  PSX X w ML M (.Assign [.Name x px] (.ListComp elt [⟨tg,iter,ifs,0⟩] scope cps) pos) (e7 i (u8 fi js pt ft fe)) (M.set i (.own (.l t))):=by
 obtain⟨wi,pi,qi⟩:=hi;refine .mk ⟨_,a3G (te:=spE X.K (D8 (.own mm) n M js) fe (.new t)) hc hN nM hx pi C hg ht he sN hs hf,λD Z σ H P F o S rS k=>?_⟩;obtain⟨d,h1,g1⟩:=bnd rS;cases g1
 exact a2u qi tu Az nB oH S.toE h1 λv H' e ⟨fp,o,nd,fr⟩=>k _ _ _ (S.set hm e o nd fr)
end
def argsOk:List Ty->List D->Bool
 |[],[]=>true
 |.i::us,d::ds=>imm d&&argsOk us ds
 |.f::us,_::ds=>argsOk us ds
 |_,_=>false
noncomputable def fnD(us:List Ty)(n:Nat)(g:EvS):List D->Option D:=λds=>if argsOk us ds then (g (ds++aB n .none)).bind λo=>match o with
 |.rt d=>cz d
 |_=>pz
 else pz
theorem O7:∀{us:List Ty} {vs:List V} {ds:List D},argsOk us ds=true->DenAll K H vs ds->∀n,StAll K H [] (us.map .own++aB n .dead) (ds++aB n .none) (vs.map cz++aB n pz) []
 |[],vs,[],_,hd,n=>by
  rw[hd.nil_inv]
  induction n with
  |zero=>exact G0
  |succ n ih=>exact j7 (K:=K) (H:=H) (F:=[]) (m:=.dead) (f:=[]) rfl ih
 |.i::us,vs,d::ds,h,hd,n=>by
  have h':imm d=true/\argsOk us ds=true:=by simpa[argsOk]using h
  obtain⟨v,r,rfl,h1,h2⟩:=hd.cons_inv;refine j7 (K:=K) (H:=H) (F:=[]) (m:=.own .i) (f:=[]) ⟨v,rfl,?_⟩ (O7 h'.2 h2 n);simp only[Own,F6];exact⟨trivial,h'.1,h1⟩
 |.f::us,vs,d::ds,h,hd,n=>by
  have h':argsOk us ds=true:=by simpa[argsOk]using h
  obtain⟨v,r,rfl,h1,h2⟩:=hd.cons_inv;refine j7 (K:=K) (H:=H) (F:=[]) (m:=.own .f) (f:=[]) ⟨v,rfl,?_⟩ (O7 h' h2 n);simp only[Own,F6];exact⟨trivial,h1⟩
 |.l _::us,vs,d::ds,h,_,_=>by simp[argsOk]at h
 |.tp _::us,vs,d::ds,h,_,_=>by simp[argsOk]at h
 |.d _ _::us,vs,d::ds,h,_,_=>by simp[argsOk]at h
 |[],vs,d::ds,h,_,_=>by simp[argsOk]at h
 |.i::us,vs,[],h,_,_=>by simp[argsOk]at h
 |.f::us,vs,[],h,_,_=>by simp[argsOk]at h
 |.l _::us,vs,[],h,_,_=>by simp[argsOk]at h
 |.tp _::us,vs,[],h,_,_=>by simp[argsOk]at h
 |.d _ _::us,vs,[],h,_,_=>by simp[argsOk]at h
open PyProof.Rows in
def b0E{P:bo}{w:bJ}{K:ae}{mg:br->Option ag}{base:b_}{x:br}{st:fH}{f:au}{fd:c_}{N ps:List br}{k n:Nat}{us:List Ty}{u:Ty}{g:EvS}{M':List Md}(F:Fun K x x st f fd)(S:FnScope N ps (g8 st))(k_:us.length=ps.length)(hn:N.length=ps.length+n)
  (hb:∀(eP:ag) (A:bH) (outer:List kZ) (s:aj) (H:Hp) (E:XK),Room k (A.deeper (gL x (g8 st) s.heap.objs.size f eP))->PSsX (P7 CX0 P w K mg base N x (g8 st) f eP A outer s H E).nox u [] (us.map .own++aB n .dead) (t7 st) g M') :
  FnOk P w K mg base CX0 (k+1) f fd ps (spD K ps.length (fnD us n g) u):=by
 refine F.ok S (λvs H Q E h=>?_) (λeP A outer s H vs Q E hr h=>?_)
 ·obtain⟨ds,d,hl,_⟩:=h;exact hl
 obtain⟨ds,d,hl,hd,hm,q⟩:=h;obtain⟨t,p,r⟩:=(hb eP A outer s H E hr).out;refine⟨t,p,?_⟩;unfold fnD at hm;by_cases ha:argsOk us ds=true
 ·rw[aL ha]at hm;obtain⟨o,h1,h2⟩:=bnd hm;cases o with
  |rt d'=>
   have jy:cz d'=cz d:=h2;cases jy
   have e:L2.start N vs=vs.map cz++aB n pz:=by
    unfold L2.start;rw[show N.length-vs.length=n by lia]
   rw[e];refine r _ (ds++aB n pR) _ H H [] (.rt d) ⟨⟨[],O7 ha hd n,bW,λa ha=>(nomatch ha)⟩,λa ha=>(nomatch ha),by rw[F6];exact Same.refl H⟩ h1 ?_;exact λv H' fp o nd fr e=>q v H' fp e o nd fr
  |_=>cases h2
 ·rw[aS ha]at hm;cases hm
end VS
namespace VS
open PySem PySem.Spec L2 PyProof.Rows
def C4(K:ae):List (br×au):=G9.filterMap λx=>(w9 K x).map λp=>(x,p)
def Y7:List au->Bool
 |[]=>true
 |a::r=>!r.contains a&&Y7 r
def a1g(K:ae)(names:List br):Bool:=Y7 ((C4 K).map (·.2))&&(C4 K).all λt=>(K.lookup t.2).isNone&&names.contains t.1
theorem a1h:∀{l:List (br×au)} {x y:br} {p:au},Y7 (l.map (·.2))=true->(x,p)∈l->(y,p)∈l->x=y
 |[],_,_,_,_,h,_=>(nomatch h)
 | (z,q)::l,x,y,p,h,h1,h2=>by
  have h':((l.map (·.2)).contains q=false)/\Y7 (l.map (·.2))=true:=by simpa[Y7]using h
  have xK:∀w,(w,q)∉l:=λw hw=>by
   have:(l.map (·.2)).contains q=true:=by
    rw[sd];exact bj.mpr ⟨(w,q),hw,rfl⟩
   rw[h'.1]at this;cases this
  rcases aF.mp h1 with e1|e1
  ·rcases aF.mp h2 with e2|e2
   ·cases e1;cases e2;rfl
   ·cases e1;exact absurd e2 (xK y)
  ·rcases aF.mp h2 with e2|e2
   ·cases e2;exact absurd e1 (xK x)
   ·exact a1h h'.2 e1 e2
def a0i{K:ae}{x:br}{p:au}(hx:x∈G9)(h:w9 K x=cz p):(x,p)∈C4 K:=
 df.mpr ⟨x,hx,by rw[h];rfl⟩
def B5{K:ae}{x:br}{p:au}(h:(x,p)∈C4 K):x∈G9/\w9 K x=cz p:=by
 obtain⟨y,hy,e⟩:=df.mp h;cases q:w9 K y with
 |none=>rw[q]at e;cases e
 |some r=>
  rw[q]at e;have e':(y,r)=(x,p):=aK e;cases e'
  exact⟨hy,q⟩
def a5c{K:ae}(e:a2N K cd=cz p)(X:K.In h):∃c,cd=.ref c/\fF h c p:=by
 unfold a2N at e
 split at e
 ·rename_i c
  split at e
  ·rename_i n dd vs sl hc
   split at e
   ·rename_i hn
    split at e
    ·rename_i P' file tf flags tg xR text tt yI BH h7 h9 BJ
     split at e
     ·rename_i gU
      cases e
      have en:n="code":=by simpa using hn
      subst en;refine⟨c,rfl,_,vs,file,tf,flags,tg,xR,text,tt,X _ _ hc,rfl,rfl,yI,?_,?_,?_,?_,?_,bne_iff_ne.mp gU⟩
      ·simp[dJ,yI]
      ·simp[dJ,BH]
      ·simp[dJ,h7]
      ·simp[dJ,h9]
      ·simp[dJ,BJ]
     ·cases e
    ·cases e
   ·cases e
  ·cases e
 ·cases e
def a2v{K:ae}{h:b_}(e:w9 K x=cz p)(X:K.In h)(G:h.Ns aY mg) :
  ∃f oc od fd sl c,mg x=cz (.ref f)/\K.lookup f=cz ⟨oc,od,.func fd,sl⟩/\fd.code=.ref c/\fF h c p:=by
 unfold w9 at e
 split at e
 ·rename_i f hf
  split at e
  ·rename_i oc od fd sl hl
   obtain⟨c,hc,hd⟩:=a5c e X;exact⟨f,oc,od,fd,sl,c,fR X G hf,hl,hc,hd⟩
  ·cases e
 ·cases e
def Tab0(K:ae)(h:b_):Prop:=∀x∈G9,∀p,w9 K x=cz p->isCodeTable h p/\h.get? p=cz {cls:=.none,data:=.fields #[]}
def b0F{q:bo}{loose:List br}{vz:ExcName->Option ag}{mg mb:br->Option ag}{h:b_}{K:ae}(T:Top q loose vz mg mb h)(X:K.In h)(ok:a1g K ((recsOf q).map (·.name))=true):Tab0 K h:=λx hx p e=>by
 have hm:=a0i hx e;have hn:((K.lookup p).isNone&&((recsOf q).map (·.name)).contains x)=true:=by
  unfold a1g at ok;rw[aC]at ok;exact cZ.mp ok.2 _ hm
 rw[aC,sd]at hn;obtain⟨d,hd,rfl⟩:=bj.mp hn.2;obtain⟨f,oc,od,fd,sl,c,h1,h2,h3,h4⟩:=a2v e X T.g;obtain⟨a,o,yJ,c',P',z1,z2,z3,z4,z5,z6⟩:=T.tab d hd;rw[h1]at z1;cases z1
 rw[X _ _ h2]at z2;cases z2
 have zg:Data.func fd=Data.func yJ:=z3;cases zg
 rw[h3]at z4;cases z4
 obtain⟨ob,vs,file,tf,flags,tg,xR,text,tt,y1,y2,y3,y4,_⟩:=h4;obtain⟨⟨CD,Cr,w1,w2,w3,w4⟩,w5⟩:=id z6;rw[y1]at w1;cases w1
 rw[y3]at w3;cases w3
 rw[y4]at w4;cases w4
 exact⟨z6.isCodeTable,w5⟩
def K6(K:ae)(H:Hp):Hp:=λb=>match (C4 K).find? λt=>t.2==b with
 |some t=>cz (.tbl #[.str (P5 t.1) 0])
 |none=>H b
def a7b{K:ae}{s₁:aj}{vs:List ag} 
  (KX:K.In s₁.heap) (mD:s₁.heap.Ns aY mg) (hb:s₁.heap.Ns iK mb) (Bm:∀x:br,x≠"__name__"->mb x=eK x) (wd:s₁.heap.NoLimit) (hg:s₁.gens=#[])
  (Bl:∃bm ob,mg "__builtins__"=cz (.ref bm)/\bm≠iK/\s₁.heap.get? bm=cz ob/\ob.cls=.type "module"/\ob.dict=cz iK/\ob.data=.plain)
  (oI:Tab0 K s₁.heap) (mV:a1g K names=true)
  (ha:s₁.heap.get? a=cz {cls:=.type "list",data:=.seq vs.toArray}) (hi:IntsAre vs ns) (hl:ns.length<=bh) (hr:Room k lV)
  (F:∀base:b_,K.In base->base.Ns aY mg->FnOk P w K mg base CX k fa fd [x] sp) (lj:∀(s:aj) (u:ag),lW s fd ⟨[u],[]⟩ [(x,u)])
  (mT:∀H:Hp,SqX K H a (ns.map V.int)->sp [.ref a] H (λv _=>v=.bl true) λ_ _ _=>False)
  (wO:∀H e s',CX [] H s₁ (λ_ _ _=>False) e s'->False) :
  jk (aV P w) lV (.call (.ref fa) ⟨[.ref a],[]⟩) (λr s'=>r=.ok (.ret (.bool true))/\OldK s₁.heap s'.heap/\s'.os=s₁.os/\ig s'.gens) s₁:=by
 have rv:=vals_ints hi;have vC:=hi.length;have zI:Y7 ((C4 K).map (·.2))=true:=by unfold a1g at mV;rw[aC]at mV;exact mV.1
 have zH:∀t∈C4 K,K.lookup t.2=pz:=λt ht=>by
  unfold a1g at mV;rw[aC]at mV;have:=cZ.mp mV.2 t ht;rw[aC]at this;exact Option.isNone_iff_eq_none.mp this.1
 have core:∀H0:Hp,SqX K H0 a (ns.map V.int)->HOk P w H0 s₁.heap->(∀b u,H0 b=cz u->b=a/\∃o xs,u=.frz o (.lst xs))->(H0 a≠pz->K.lookup a=pz)->
   jk (aV P w) lV (.call (.ref fa) ⟨[.ref a],[]⟩) (λr s'=>r=.ok (.ret (.bool true))/\OldK s₁.heap s'.heap/\s'.os=s₁.os/\ig s'.gens) s₁:=by
  intro H0 hS hok hA hK;have iX:∀b u,K6 K H0 b=cz u->(∃x,(x,b)∈C4 K/\u=.tbl #[.str (P5 x) 0])∨((∀x,(x,b)∉C4 K)/\H0 b=cz u):=λb u e=>by
   unfold K6 at e
   split at e
   ·rename_i t ht
    cases e
    have h1:=fL ht;have h2:t.2=b:=iY.mp (Dr (p:=λt:br×au=>t.2==b) ht);refine .inl ⟨t.1,?_,rfl⟩;rw[<-h2];exact h1
   ·rename_i ht
    refine .inr ⟨λx hx=>?_,e⟩;have:=eV.mp ht _ hx;simp at this
  have tabAt:∀x p,(x,p)∈C4 K->K6 K H0 p=cz (.tbl #[.str (P5 x) 0]):=λx p hm=>by
   cases e:K6 K H0 p with
   |none=>
    unfold K6 at e
    split at e
    ·cases e
    ·rename_i ht
     have:=eV.mp ht _ hm;simp at this
   |some u=>
    rcases iX p u e with⟨y,hy,rfl⟩|⟨hn,_⟩
    ·rw[a1h zI hm hy]
    ·exact absurd hm (hn x)
  have nA:∀x,(x,a)∉C4 K:=λx hx=>by
   have:=(oI x (B5 hx).1 a (B5 hx).2).2;rw[ha]at this;cases this
  have yT:K6 K H0 a=H0 a:=by
   cases e:K6 K H0 a with
   |none=>
    unfold K6 at e
    split at e
    ·cases e
    ·exact e.symm
   |some u=>
    rcases iX a u e with⟨y,hy,_⟩|⟨_,h⟩
    ·exact absurd hy (nA y)
    ·exact h.symm
  have By:SqX K (K6 K H0) a (ns.map V.int):=by
   rcases hS with (h|⟨o,h⟩)|h
   ·exact .inl (.inl (yT.trans h))
   ·exact .inl (.inr ⟨o,yT.trans h⟩)
   ·exact .inr h
  have nQ:HOk P w (K6 K H0) s₁.heap:=λb u e=>by
   rcases iX b u e with⟨x,hx,rfl⟩|⟨hn,h⟩
   ·obtain⟨h1,h2⟩:=B5 hx;exact⟨#[],(oI x h1 b h2).2,trivial,λpos cv z=>by cases z⟩
   ·obtain⟨rfl,o,xs,rfl⟩:=hA b u h;obtain⟨h1,h2⟩:=hok _ _ h;obtain⟨z,cN,n,r,e'⟩:=h2;exact⟨h1,z,cN,n,r,e'⟩
  have kS:∀{b:au} {o:eW},s₁.heap.get? b=cz o->K6 K H0 b=pz->(a2M s₁.heap (K6 K H0)).get? b=cz o:=λe n=>a7T e n
  have xI:∀{b:au} {o:eW},s₁.heap.get? b=cz o->(∀ps,o.data≠.fields ps)->(∀cN n,o.data≠.seq cN n)->K6 K H0 b=pz:=λ{b o} e d1 d2=>by
   cases q:K6 K H0 b with
   |none=>rfl
   |some u=>
    rcases iX b u q with⟨x,hx,rfl⟩|⟨hn,h⟩
    ·have:=(oI x (B5 hx).1 b (B5 hx).2).2;rw[e]at this;cases this
     exact absurd rfl (d1 _)
    ·obtain⟨rfl,_⟩:=hA b u h;rw[ha]at e;cases e
     exact absurd rfl (d2 _ _)
  have uz:∀{b:au} {m:br->Option ag},s₁.heap.Ns b m->(a2M s₁.heap (K6 K H0)).Ns b m:=λ{b m} ⟨o,es,ep,e,d,r⟩=>⟨o,es,ep,kS e (xI e (λps z=>by rw[d]at z;cases z) λcN n z=>by rw[d]at z;cases z),d,r⟩
  have yD:K.In (a2M s₁.heap (K6 K H0)):=λb o e=>kS (KX b o e) (by
   cases q:K6 K H0 b with
   |none=>rfl
   |some u=>
    rcases iX b u q with⟨x,hx,rfl⟩|⟨hn,h⟩
    ·rw[zH _ hx]at e;cases e
    ·obtain⟨rfl,_⟩:=hA b u h;rw[hK (by rw[h];simp)]at e;cases e)
  have hM:Mod K mg (a2M s₁.heap (K6 K H0)):=⟨yD,uz mD,⟨mb,uz hb,Bm⟩,let⟨mc,h1,h2⟩:=wd;⟨mc,uz h1,h2⟩,
   let⟨bm,ob,b1,b2,b3,b4,b5,b6⟩:=Bl;⟨bm,ob,b1,b2,kS b3 (xI b3 (λps z=>by rw[b6]at z;cases z) λcN n z=>by rw[b6]at z;cases z),b4,b5,b6⟩⟩
  have e0:Env0 P w K mg (a2M s₁.heap (K6 K H0)) lV [] s₁ (K6 K H0):=⟨rfl,hM,λb o e=>a9Z e,Nat.le_of_eq (a6F _ _),trivial,λb hb=>absurd (show b∈([]:List au) from hb) (by simp),nQ,.of_eq hg,
   λx hx p e=>⟨_,0,tabAt x p (a0i hx e),rfl⟩⟩
  refine gB ((F _ yD (uz mD)).run lV [] s₁ (K6 K H0) ⟨[.ref a],[]⟩ [.ref a] [.ref a] _ _ hr e0 (lj s₁ (.ref a)) (.cons rfl .nil) (mT _ By)) λr s' h=>?_
  cases r with
  |error e=>exact (wO _ e s' h).elim
  |ok fl=>
   cases fl with
   |next=>exact cJ h
   |brk=>exact cJ h
   |cont=>exact cJ h
   |ret u=>
    obtain⟨v,H',os,bare,un,oO,r',q⟩:=h;have q':v=.bl true:=q;subst q';obtain rfl:u=ni true:=r';refine⟨rfl,⟨λb o e=>?_,λb o e=>un.there b o e (by simp)⟩,os,bare⟩;cases q:K6 K H0 b with
    |none=>exact .inl (un.keep b o e q (by intro z;exact absurd (show b∈([]:List au) from z) (by simp)) (by simp))
    |some u=>
     rcases iX b u q with⟨x,hx,rfl⟩|⟨hn,h⟩
     ·obtain⟨t1,t2⟩:=oI x (B5 hx).1 b (B5 hx).2;rw[e]at t2;cases t2
      obtain⟨more,e2⟩:=un.tbls b _ q;obtain⟨ps,e3,_⟩:=(show a2c H' s'.heap b _ from oO b _ e2);exact .inr (.inl ⟨t1,rfl,#[],ps,rfl,by simpa using e3⟩)
     ·obtain⟨rfl,ob,xs,rfl⟩:=hA b u h;have z2:=un.frzs b ob _ q;obtain⟨e1,_⟩:=nQ b _ q;obtain⟨e2,_⟩:=oO b _ z2;rw[e]at e1;cases e1;exact .inl e2
 cases hk:K.lookup a with
 |some o=>
  have e:=KX a o hk;rw[ha]at e;cases e
  refine core (λ_=>pz) (.inr ⟨vs,_,hk,by rw[vC];exact hl,rv⟩) (λb u z=>by have z':(pz:Option HO)=cz u:=z;cases z') (λb u z=>by have z':(pz:Option HO)=cz u:=z;cases z') λz=>absurd rfl z
 |none=>
  refine core (λb=>if b=a then cz (.frz {cls:=.type "list",data:=.seq vs.toArray} (.lst (ns.map V.int))) else pz) (.inl (.inr ⟨{cls:=.type "list",data:=.seq vs.toArray},aL rfl⟩)) (λb u z=>?_) (λb u z=>?_) λ_=>hk
  ·by_cases hb:b=a
   ·have z':=(aL hb).symm.trans z;cases z'
    subst hb;exact⟨ha,by rw[ao];exact hl,vs,_,rv,ha⟩
   ·have z':=(aS hb).symm.trans z;cases z'
  ·by_cases hb:b=a
   ·have z':=(aL hb).symm.trans z;cases z'
    exact⟨hb,_,_,rfl⟩
   ·have z':=(aS hb).symm.trans z;cases z'
def a8C{l:Dn}{XP:(br->Option ag)->b_->Prop}{YP:bJ->b_->Prop}{d:DefRec}{K:Params->ae}{CX:bJ->CXT}{sp:bJ->Sp} 
  (hn:l.most=cz n) (wa:n<=bh) (tL:d.params.defaults=[]) (hr:Room k lV)
  (hY:∀(w:bJ) (h:b_),YP w h->(K w.params).In h) (hT:∀w:bJ,a1g (K w.params) ((recsOf q).map (·.name))=true)
  (F:∀(w:bJ) (mg:br->Option ag) (fa:au) (h:b_),(K w.params).In h->h.Ns aY mg->mg d.name=cz (.ref fa)->
   ∃fd:c_,(∀(s:aj) (u:ag),lW s fd ⟨[u],[]⟩ [(x,u)])/\
    ∀base:b_,(K w.params).In base->base.Ns aY mg->FnOk l.prog w (K w.params) mg base (CX w) k fa fd [x] (sp w))
  (mT:∀(w:bJ) (H:Hp) (a:au) (ns:List Int),ns.length<=n->SqX (K w.params) H a (ns.map V.int)->sp w [.ref a] H (λv _=>v=.bl true) λ_ _ _=>False)
  (wO:∀(w:bJ) (H:Hp) (s:aj) (e:ag) (s':aj),CX w [] H s (λ_ _ _=>False) e s'->False) :
  PySem.W.WalkO q loose XP YP l.row.toRowW d [] (λf vs=>xp f vs):=by
 refine Att.attach_call hn tL λw s₀ s₁ mg mb fa o pm cd doc a vs ns G Y ho hd gu sW qG hints hlen hg=>?_
 have KX:=hY w _ Y;obtain⟨fd,hb,hF⟩:=F w mg fa _ KX G.T.g sW;exact a7b KX G.T.g G.T.b G.T.builtins G.T.nolimit hg G.T.bmain (b0F G.T KX (hT w)) (hT w) qG hints (bZ hlen wa) hr hF hb (λH hS=>mT w H a ns hlen hS) λH e s'=>wO w H s₁ e s'
def a7c{l:Dn}{XP:(br->Option ag)->b_->Prop}{YP:bJ->b_->Prop}{d:DefRec}{K:Params->ae}{m:List a_->Option a_}(hn:l.most=cz 63)(tL:d.params.defaults=[])(hr:Room k lV)
  (hY:∀(w:bJ) (h:b_),YP w h->(K w.params).In h) (hT:∀w:bJ,a1g (K w.params) ((recsOf q).map (·.name))=true)
  (F:∀(w:bJ) (mg:br->Option ag) (fa:au) (h:b_),(K w.params).In h->h.Ns aY mg->mg d.name=cz (.ref fa)->
   ∃fd:c_,(∀(s:aj) (u:ag),lW s fd ⟨[u],[]⟩ [(x,u)])/\
    ∀base:b_,(K w.params).In base->base.Ns aY mg->FnOk l.prog w (K w.params) mg base CX0 k fa fd [x] (spD (K w.params) 1 m .i))
  (hm:∀ns:List Int,ns.length<=63->m [.list (ns.map .int)]=cz (.bool true)) :
  PySem.W.WalkO q loose XP YP l.row.toRowW d [] (λf vs=>xp f vs):=
 a8C (n:=63) (k:=k) (x:=x) (CX:=λ_=>CX0) (sp:=λw=>spD (K w.params) 1 m .i) hn (by decide) tL hr hY hT F
  (λw H a ns hl hS=>⟨_,_,rfl,denAll_cons (den_list hS (DenAll.ints ns)) denAll_nil,hm ns hl,λv H' fp _ o _ _=>(a0V o).2.2.bool_inv⟩) λ_ _ _ _ _ z=>z
end VS
namespace VS
open PySem PySem.Spec L2
def V1:∀(Z ds:List D),b9 Z=cz ds->ds.length=0:=λ_ _ h=>by cases h;rfl
def t8(hr:∀(Z ds:List D),r Z=cz ds->ds.length=n):∀(Z ds:List D),a6 f r Z=cz ds->ds.length=n+1:=λ_ _ h=>a6X hr h
def b0G:∀(Z ds:List D),iI fi Z=cz ds->∀d∈ds,mI d:=λZ ds h d hd=>by
 have:=b4S rfl Z ds h d hd [d] rfl;show imm d=true;simpa only [f8,fU]using this
def a1U:∀(Z ds:List D),iR fa Z=cz ds->∀d∈ds,mI d:=λZ ds h d hd=>by
 have:=a8x rfl Z ds h d hd [d] rfl;show imm d=true;simpa only [f8,fU]using this
def a7d(h:b_)(hb:eB<h.objs.size):ObjOk P w H (h.push {cls:=.type "dict",data:=.dict #[]}) h.objs.size (j0 h.objs.size []):=
 ⟨⟨ki.mpr (fx (bP hb)),cW _,bW,_,#[],0,bz _ rfl,⟨rfl,rfl,rfl⟩,rfl,.nil,λ_=>rfl⟩,⟨_,bz _ rfl⟩,λx1 x2 ⟨a1,a2,a3,o',mL,oV,b1,b2⟩ hk=>⟨a1,a2,a3,o',mL,oV,hk _ b1,b2⟩⟩
end VS
namespace VS
open PySem L2
section
variable {a b c:EvE}{Z Z':List D}{d x y:D}
def l1(g:D->Option D):Option D->Option D
 |some x=>g x
 |none=>pz
def l2(g:D->D->Option D):Option D->Option D->Option D
 |some x,cz y=>g x y
 |_,_=>pz
noncomputable def lc(m:List D->Option D):Option (List D)->Option D
 |some xs=>m xs
 |none=>pz
def a8D:Option D->Option (List D)->Option (List D)
 |some x,cz xs=>cz (x::xs)
 |_,_=>pz
def lB:Option D->Option Bool
 |some d=>asB d
 |none=>pz
def lT:Option D->Option Bool
 |some d=>tr d
 |none=>pz
def b4X:Option Bool->Option Bool
 |some b=>cz !b
 |none=>pz
def b2U:Option Bool->EvT->List D->Option Bool
 |some true,b,Z=>b Z
 |some false,_,_=>cz false
 |none,_,_=>pz
def orT:Option Bool->EvT->List D->Option Bool
 |some true,_,_=>cz true
 |some false,b,Z=>b Z
 |none,_,_=>pz
def b0H:Option D->EvE->List D->Option D
 |some (.bool true),b,Z=>b Z
 |some (.bool false),_,_=>cz (.bool false)
 |_,_,_=>pz
def orE:Option D->EvE->List D->Option D
 |some (.bool true),_,_=>cz (.bool true)
 |some (.bool false),b,Z=>b Z
 |_,_,_=>pz
def b4Y:Option D->Option D
 |some (.bool b)=>cz (.bool !b)
 |_=>pz
def b2V:Option Bool->EvE->EvE->List D->Option D
 |some true,a,_,Z=>a Z
 |some false,_,b,Z=>b Z
 |none,_,_,_=>pz
def a3c:Option Bool->EvS->EvS->List D->Option Out
 |some true,a,_,Z=>a Z
 |some false,_,b,Z=>b Z
 |none,_,_,_=>pz
def thn:Option Out->EvS->Option Out
 |some (.nx Z),b=>b Z
 |some (.rt d),_=>cz (.rt d)
 |some (.bk Z),_=>cz (.bk Z)
 |some (.ct Z),_=>cz (.ct Z)
 |none,_=>pz
def b4Z(i:Nat):Option D->List D->Option Out
 |some d,Z=>cz (.nx (Z.set i d))
 |none,_=>pz
def retS:Option D->Option Out
 |some d=>cz (.rt d)
 |none=>pz
def exS:Option D->List D->Option Out
 |some _,Z=>cz (.nx Z)
 |none,_=>pz
def a8E(i j:Nat):Option D->List D->Option Out
 |some (.tuple [x,y]),Z=>cz (.nx ((Z.set i x).set j y))
 |_,_=>pz
noncomputable def b5a(set:List D->D->Option (List D))(g:EvS):Option (List D)->List D->Option Out
 |some ds,Z=>D9 set g ds Z
 |none,_=>pz
def a0A:Option Out->Option D
 |some (.rt d)=>cz d
 |_=>pz
def listE:Option (List D)->Option D
 |some ds=>cz (.list ds)
 |none=>pz
def b5b:Option (List D)->Option D
 |some ds=>cz (.tuple ds)
 |none=>pz
def b6B:l1 g (cz x)=g x:=rfl
def b6C:l2 g (cz x) (cz y)=g x y:=rfl
def b6D:lc m (cz xs)=m xs:=rfl
def b0I:a8D (cz x) (cz xs)=cz (x::xs):=rfl
def b6E:lB (cz (.bool k))=cz k:=rfl
def b6F:lT (cz d)=tr d:=rfl
def b2W:b4X (cz k)=cz !k:=rfl
def b2X:b2U (cz true) t Z=t Z:=rfl
def b2Y:b2U (cz false) t Z=cz false:=rfl
def b5c:orT (cz true) t Z=cz true:=rfl
def b5d:orT (cz false) t Z=t Z:=rfl
def b2Z:b0H (cz (.bool true)) b Z=b Z:=rfl
def b3a:b0H (cz (.bool false)) b Z=cz (.bool false):=rfl
def b5e:orE (cz (.bool true)) b Z=cz (.bool true):=rfl
def b5f:orE (cz (.bool false)) b Z=b Z:=rfl
def b3b:b4Y (cz (.bool k))=cz (.bool !k):=rfl
def b3c:b2V (cz true) a b Z=a Z:=rfl
def b3d:b2V (cz false) a b Z=b Z:=rfl
def b3e:a3c (cz true) s t Z=s Z:=rfl
def b3f:a3c (cz false) s t Z=t Z:=rfl
def v4:thn (cz (.nx Z)) s=s Z:=rfl
def b3g:thn (cz (.rt d)) s=cz (.rt d):=rfl
def b3h:thn (cz (.bk Z)) s=cz (.bk Z):=rfl
def b3i:thn (cz (.ct Z)) s=cz (.ct Z):=rfl
def a3d:b4Z i (cz d) Z=cz (.nx (Z.set i d)):=rfl
def b3j:retS (cz d)=cz (.rt d):=rfl
def b5g:exS (cz d) Z=cz (.nx Z):=rfl
def b0J:a8E i j (cz (.tuple [x,y])) Z=cz (.nx ((Z.set i x).set j y)):=rfl
def b3k{set:List D->D->Option (List D)}:b5a set g (cz ds) Z=D9 set g ds Z:=rfl
def b3l:a0A (cz (.rt d))=cz d:=rfl
def a0J:listE (cz ds)=cz (.list ds):=rfl
def b3m:b5b (cz ds)=cz (.tuple ds):=rfl
def v_var:a5 i Z=cz (Z.getD i .none):=rfl
def v_c:eC d Z=cz d:=rfl
def v_1:e1 g a Z=l1 g (a Z):=by unfold e1;cases a Z<;>rfl
def v_2:e2 g a b Z=l2 g (a Z) (b Z):=by unfold e2;cases a Z<;>cases b Z<;>rfl
def b6G:eCl m f Z=lc m (f Z):=by unfold eCl;cases f Z<;>rfl
def b3n:a6 a r Z=a8D (a Z) (r Z):=by unfold a6;cases a Z<;>cases r Z<;>rfl
def a6g:b9 Z=cz []:=rfl
def b6H:tB a Z=lB (a Z):=by unfold tB;cases a Z<;>rfl
def b6I:tV a Z=lT (a Z):=by unfold tV;cases a Z<;>rfl
def b5h:tNo t Z=b4X (t Z):=by unfold tNo;cases t Z<;>rfl
def b5i:tAn s t Z=b2U (s Z) t Z:=by
 unfold tAn;cases s Z with
 |none=>rfl
 |some k=>cases k<;>rfl
def b5j:K5 s t Z=orT (s Z) t Z:=by
 unfold K5;cases s Z with
 |none=>rfl
 |some k=>cases k<;>rfl
def v_and:a0z a b Z=b0H (a Z) b Z:=by
 unfold a0z;cases h:a Z with
 |none=>rfl
 |some d=>cases d with
  |bool k=>cases k<;>rfl
  |_=>rfl
def v_or:eOr a b Z=orE (a Z) b Z:=by
 unfold eOr;cases h:a Z with
 |none=>rfl
 |some d=>cases d with
  |bool k=>cases k<;>rfl
  |_=>rfl
def v_not:b4N a Z=b4Y (a Z):=by
 unfold b4N;cases h:a Z with
 |none=>rfl
 |some d=>cases d<;>rfl
def b6J:eIf t a b Z=b2V (t Z) a b Z:=by
 unfold eIf;cases t Z with
 |none=>rfl
 |some k=>cases k<;>rfl
def a6h:u7 f Z=listE (f Z):=by unfold u7;cases f Z<;>rfl
def b5k:n8 f Z=b5b (f Z):=by unfold n8;cases f Z<;>rfl
def v6:c6 s t Z=thn (s Z) t:=by
 unfold c6;cases s Z with
 |none=>rfl
 |some o=>cases o<;>rfl
def a6i:e7 i a Z=b4Z i (a Z) Z:=by unfold e7;cases a Z<;>rfl
def b5l:k7 a Z=retS (a Z):=by unfold k7;cases a Z<;>rfl
def b6K:sEx a Z=exS (a Z) Z:=by unfold sEx;cases a Z<;>rfl
def b3o:i6 Z=cz (.nx Z):=rfl
def b5m:sIf t s s' Z=a3c (t Z) s s' Z:=by
 unfold sIf;cases t Z with
 |none=>rfl
 |some k=>cases k<;>rfl
def a6j{set:List D->D->Option (List D)}:r8 fi set g Z=b5a set g (fi Z) Z:=by unfold r8;cases fi Z<;>rfl
def b3p:J6 i j a Z=a8E i j (a Z) Z:=by
 unfold J6;cases h:a Z with
 |none=>rfl
 |some d=>
  match d with
  |.tuple [x,y]=>rfl
  |.tuple []=>rfl
  |.tuple [_]=>rfl
  |.tuple (_::_::_::_)=>rfl
  |.none=>rfl
  |.bool _=>rfl
  |.int _=>rfl
  |.str _=>rfl
  |.list _=>rfl
  |.dict _=>rfl
def T7(h:argsOk us ds=true):fnD us n g ds=a0A (g (ds++aB n .none)):=by
 unfold fnD;rw[aL h];cases g (ds++aB n .none) with
 |none=>rfl
 |some o=>cases o<;>rfl
def v_add:r9 (.int i) (.int j)=cz (.int (i+j)):=rfl
def v_sub:A7 (.int i) (.int j)=cz (.int (i-j)):=rfl
def v_lt:dLt (.int i) (.int j)=cz (.bool (decide (i<j))):=rfl
def b6L:dLe (.int i) (.int j)=cz (.bool (decide (i<=j))):=rfl
def b6M:dGt (.int i) (.int j)=cz (.bool (decide (j<i))):=rfl
def b6N:dGe (.int i) (.int j)=cz (.bool (decide (j<=i))):=rfl
def v_mod(h:0<j):p8 (.int i) (.int j)=cz (.int (i % j)):=by
 show (if b2K i j=true then _ else _)=_;rw[aL (show b2K i j=true from aU h)]
def v_div(h:0<j)(h':j<1073741824):U7 (.int i) (.int j)=cz (.int (i / j)):=by
 show (if b0t i j=true then _ else _)=_;rw[aL (by unfold b0t;rw[aU h,aU h'];rfl)]
def O8{i j:Int}(h:i.natAbs<2^64):M9 (.int i) (.int j)=cz (.int (i*j)):=by
 show (if a6S i j=true then _ else _)=_;rw[aL (by unfold a6S;rw[aU h];rfl)]
def a8F{i j:Int}(h:j.natAbs<2^64):M9 (.int i) (.int j)=cz (.int (i*j)):=by
 show (if a6S i j=true then _ else _)=_;rw[aL (by unfold a6S;rw[aU h,Bool.or_true])]
def v_pow(h:b0u i j=true):a8h (.int i) (.int j)=cz (.int (i^j.toNat)):=by
 show (if b0u i j=true then _ else _)=_;rw[aL h]
def b5n:dEq (.int i) (.int j)=cz (.bool (decide (i=j))):=by
 show cz (fS (false !=aM (.int i) (.int j)))=_;have:aM (.int i) (.int j)=decide (i=j):=by
  show (i==j)=decide (i=j);exact gs i j
 rw[this];simp
def b5o:dNe (.int i) (.int j)=cz (.bool (!decide (i=j))):=by
 show cz (fS (true !=aM (.int i) (.int j)))=_;have:aM (.int i) (.int j)=decide (i=j):=by
  show (i==j)=decide (i=j);exact gs i j
 rw[this];simp
def b3q:l8 [.list ds]=cz (.int ds.length):=rfl
def b3r:l8 [.tuple ds]=cz (.int ds.length):=rfl
def b5p:dIx (.list ds) (.int k)=atI ds k:=rfl
def b5q:dIx (.tuple ds) (.int k)=atI ds k:=rfl
def b5r:s9 (.list ds) (.int k)=atI ds k:=rfl
def b5s:a8 x y=l1 a2Z (dIx x y):=by unfold a8;cases dIx x y<;>rfl
def a8G(h:imm d=true):a2Z d=cz d:=by unfold a2Z;rw[aL h]
def b5t:b6A k (.bool i) (.bool j)=cz (.bool (k !=(i==j))):=rfl
def a6k:imm (.int i)=true:=by simp only[imm]
def a0j(ns:List Int):f8 (ns.map .int)=true:=by
 induction ns with
 |nil=>simp only[cY,f8]
 |cons n ns ih=>simp only[aA,f8,imm,ih,eG]
def a3e{α:Type}{xs:List α}(h0:0<=k)(h:k<(xs.length:Int)):atI xs k=cz (xs[k.toNat]'(by lia)):=by
 unfold L2.atI ixN;rw[aL h0,aL h];exact ah (by lia)
def b3s(i:Nat):D->Option D->List D->Option Out
 |.list ds,cz d,Z=>if ds.length<1000000 then cz (.nx (Z.set i (.list (ds++[d])))) else pz
 |_,_,_=>pz
def b5u:n6 i (.l t) i7 a Z=b3s i (Z.getD i .none) (a Z) Z:=by
 unfold n6 i7
 dsimp only[iN]
 cases h:Z.getD i .none with
 |list ds=>
  cases a Z with
  |none=>rfl
  |some d=>rfl
 |_=>cases a Z<;>rfl
def V2{ds:List D}(h:ds.length<1000000):b3s i (.list ds) (cz d) Z=cz (.nx (Z.set i (.list (ds++[d])))):=by
 show (if ds.length<1000000 then cz (Out.nx (Z.set i (.list (ds++[d])))) else pz)=_;rw[aL h]
def a0B(h:a Z=cz (.int n))(h0:0<=n)(h1:n<2^62):iR a Z=cz (B0 0 n.toNat):=by
 unfold iR;rw[h];show (if -(2^62)<=n/\n<2^62 then cz (B0 0 n.toNat) else pz)=_;rw[aL ⟨by lia,h1⟩]
def a5d:(B0 lo n).length=n:=by unfold B0;simp
end
end VS
namespace VS
open PySem PySem.Spec L2
def V3:∀{l:List α} {l':List β},fI R l l'->∀{j:Nat} {x:α},l[j]?=cz x->∃y,l'[j]?=cz y/\R x y:=by
 intro l l' h
 induction h with
 |nil=>intro j x e;simp at e
 |cons r _ ih=>
  intro j x e;cases j with
  |zero=>cases e;exact⟨_,rfl,r⟩
  |succ j=>exact ih (by simpa using e)
def a3Q:∀{l:List α} {l':List β},fI R l l'->∀{j:Nat} {y:β},l'[j]?=cz y->∃x,l[j]?=cz x/\R x y:=by
 intro l l' h
 induction h with
 |nil=>intro j x e;simp at e
 |cons r _ ih=>
  intro j x e;cases j with
  |zero=>cases e;exact⟨_,rfl,r⟩
  |succ j=>exact ih (by simpa using e)
section
variable {X:Cx}{pins:List (au×eW)}{σ:L2.St}{H:Hp}{s:aj}{A:bH}{E:ag->aj->Prop}{a:au}{es:List (D×V×V)}{o:eW}{ents:Array fX}{ep:Nat}{kt:Bool}{k:D}{kv:V}{key:ag}
def Y8(I:Inv X pins σ H s)(kk:keyOk kt k)(dk:Den X.K H kv k)(rk:RelV kv key):∃as,Reads s.heap key k as:=Den.reads I k (Q0 _ kk.1) dk rk
def a2w(I:Inv X pins σ H s)(hu:A.units+10<eh)(kk:keyOk kt k)(dk:Den X.K H kv k)(rk:RelV kv key)(h:Q (hashD k) {s with toks:=s.toks+A0 k}):be (aV X.prog X.w) A (pyHash key) Q E s:=by
 obtain⟨as,r⟩:=Y8 I kk dk rk;exact a0S k kk.1 (by have:=kk.2.1;lia) r h
def a2x(I:Inv X pins σ H s)(hu:A.units+10<eh)(ho:s.heap.get? a=cz o)(hd:o.data=.dict ents ep)(hp:fI Q2 es ents.toList)(hn:(es.map (·.1)).Nodup)(hk:∀e∈es,keyOk kt e.1/\Den X.K H e.2.1 e.1)
  (kk:keyOk kt k) (dk:Den X.K H kv k) (rk:RelV kv key) (mE:(∀e∈es,e.1≠k)->Q pz s) (mB:∀j e,es[j]?=cz e->e.1=k->Q (cz j) s) :
  be (aV X.prog X.w) A (dictFind a key (hashD k)) Q E s:=by
 cases kt with
 |false=>
  obtain⟨i,rfl⟩:=kk.2.2.2 rfl;cases dk.int_inv
  obtain⟨t,rfl⟩:=rk;have ent:∀(j:Nat) (x:fX),ents.toList[j]?=cz x->∃e n u,es[j]?=cz e/\e.1=.int n/\x.key=.int n u/\x.hash=hashInt n:=λj x hx=>by
   obtain⟨e,he,h1,h2,_⟩:=a3Q hp hx;obtain⟨k1,k2⟩:=hk e (bA he);obtain⟨n,en⟩:=k1.2.2.2 rfl;rw[en]at k2 h1;have e2:=k2.int_inv;rw[e2]at h2;obtain⟨u,sM⟩:=h2;exact⟨e,n,u,he,en,sM,by simpa[hashD]using h1⟩
  show be (aV X.prog X.w) A (dictFind a (.int i t) ((lQ X.prog X.w).hash i)) Q E s;refine wpAny_dictFind_of (knd:=lQ X.prog X.w) (k:=i) (by simp[lQ,lx]) ho hd (λx hx=>?_) ?_
  ·obtain⟨j,hj⟩:=cO.mp (jV.mpr hx);obtain⟨e,n,u,_,_,h3,h4⟩:=ent j x hj;exact⟨n,by rw[h3];simp[lQ,lx],h4⟩
  ·cases hf:ents.findIdx? λe=>(lQ X.prog X.w).is i e.key with
   |none=>
    refine mE λe he f_=>?_
    obtain⟨j,hj⟩:=cO.mp he;obtain⟨x,hx,_⟩:=V3 hp hj;obtain⟨e',n,u,h1,h2,h3,_⟩:=ent j x hx;rw[hj]at h1;cases h1
    rw[f_]at h2;cases h2
    have:=Array.findIdx?_eq_none_iff.mp hf x (jV.mp (bA hx));rw[h3]at this;simp[lQ,lx]at this
   |some j=>
    obtain⟨gK,sG,_⟩:=Array.findIdx?_eq_some_iff_getElem.mp hf;have hx:ents.toList[j]?=cz ents[j]:=by simp[gK]
    obtain⟨e,n,u,h1,h2,h3,_⟩:=ent j _ hx;have qJ:n=i:=by
     rw[h3]at sG;simpa[lQ,lx]using sG
    subst qJ;exact mB j e h1 h2
 |true=>
  obtain⟨ds,rfl⟩:=kk.2.2.1 rfl;obtain⟨p,pB,rfl,_,_⟩:=dk.tup_inv;cases (show key=bG p from rk)
  obtain⟨as,zz⟩:=Y8 I kk (dk) (show RelV (.ref p) (.ref p) from rfl);have build:∀{es:List (D×V×V)} {l:List fX},fI Q2 es l->(∀e∈es,keyOk true e.1/\Den X.K H e.2.1 e.1)->∃xs:List (D×au×ag),l=xs.map (λx=>(⟨hashD x.1,.ref x.2.1,x.2.2⟩:fX))/\xs.map (·.1)=es.map (·.1)/\∀x∈xs,B9 x.1=true/\x.1.depth<=7/\∃as,Reads s.heap (.ref x.2.1) x.1 as:=by
   intro es l hp
   induction hp with
   |nil=>exact λ_=>⟨[],rfl,rfl,λx hx=>(nomatch hx)⟩
   |@cons e x es l r _ ih=>
    intro hk;obtain⟨xs,i1,i2,i3⟩:=ih λe he=>hk e (av _ he)
    obtain⟨k1,k2⟩:=hk e aD;obtain⟨as,rr⟩:=Y8 I k1 k2 r.2.1;obtain⟨ds,ed⟩:=k1.2.2.1 rfl;have:∃q,x.key=.ref q:=by
     rw[ed]at rr;cases xT:x.key with
     |ref q=>exact⟨q,rfl⟩
     |_=>rw[xT]at rr;cases rr
    obtain⟨q,hq⟩:=this;refine⟨(e.1,q,x.val)::xs,?_,by rw[aA,aA,i2],λy hy=>?_⟩
    ·rw[aA,<-i1]
     congr 1;obtain⟨xh,xk,xv⟩:=x;simp only at hq;rw[show xh=hashD e.1 from r.1,hq]
    ·rcases aF.mp hy with z|z
     ·subst z;exact⟨k1.1,k1.2.1,as,by rw[hq]at rr;exact rr⟩
     ·exact i3 y z
  obtain⟨xs,x1,x2,x3⟩:=build hp hk;have idx:∀(j:Nat) (kk:D),(∃p,xs[j]?=cz (kk,p))↔∃e,es[j]?=cz e/\e.1=kk:=λj kk=>by
   have:(xs.map (·.1))[j]?=(es.map (·.1))[j]?:=by rw[x2]
   rw[bE,bE]at this
   constructor
   ·rintro⟨q,hq⟩;rw[hq]at this;cases he:es[j]? with
    |none=>rw[he]at this;cases this
    |some e=>rw[he]at this;exact⟨e,rfl,(aK this).symm⟩
   ·rintro⟨e,he,hk⟩;rw[he]at this;cases hx:xs[j]? with
    |none=>rw[hx]at this;cases this
    |some x=>
     rw[hx]at this;have e1:x.1=e.1:=aK this;exact⟨x.2,by rw[<-hk,<-e1]⟩
  refine @wpAny_dictFind_heap X.prog X.w D a6R (a8g X.prog X.w) A E s a p o ents ep xs (.tuple ds) Q (by show A.units+8<eh;lia) ⟨kk.1,kk.2.1,as,zz⟩ ho hd x1 x3 (by rw[x2];exact hn) (λh=>mE λe he f_=>?_) (λj q hj=>?_)
  ·obtain⟨j,hj⟩:=cO.mp he;obtain⟨q,hq⟩:=(idx j (.tuple ds)).mpr ⟨e,hj,f_⟩;exact h j q hq
  ·obtain⟨e,he,f_⟩:=(idx j (.tuple ds)).mp ⟨q,hj⟩;exact mB j e he f_
end
def C8(es:List (D×V×V))(k:D):Bool:=es.any λe=>aM e.1 k
def Y9(es:List (D×V×V))(k:D)(kv v:V):List (D×V×V):=if C8 es k then es.map λe=>if aM e.1 k then (e.1,e.2.1,v) else e else es++[(k,kv,v)]
section
variable {X:Cx}{pins:List (au×eW)}{σ:L2.St}{H:Hp}{s:aj}{A:bH}{E:ag->aj->Prop}{a:au}{es:List (D×V×V)}{kt:Bool}{k:D}{kv v:V}{key val:ag}
def a5e(h:H9 (ks++[x])=false):H9 ks=false:=by
 cases ks with
 |nil=>rfl
 |cons e ks=>
  unfold H9 at h ⊢
  split at h
  ·cases h
  ·rename_i hn
   split
   ·rename_i heq
    cases heq
    exact absurd rfl (hn _)
   ·rfl
def a5f{x:D×V×V}(h:E7 (es++[x])=false):E7 es=false:=by
 rw[E7,bu]at h;exact a5e h
def a2y(I:Inv X pins σ H s)(h:H a=cz (j0 a es)):(a==eB)=false/\es.length<=bh/\(es.map (·.1)).Nodup/\∃o ents ep,s.heap.get? a=cz o/\o.ExactDict/\o.data=.dict ents ep/\fI Q2 es ents.toList/\(E7 es=false->ep=es.length):=
 (show ObjOk X.prog X.w H s.heap a (j0 a es) from I.hok a _ h).1
def T3(I:Inv X pins σ H s)(h:H a=cz (j0 a es))(hL:E7 es=false):(a==eB)=false/\es.length<=bh/\(es.map (·.1)).Nodup/\∃o ents,s.heap.get? a=cz o/\o.ExactDict/\o.data=.dict ents es.length/\fI Q2 es ents.toList:=
 let⟨a1,a2,a3,o,ents,_,r1,r2,r3,r4,r5⟩:=a2y I h;⟨a1,a2,a3,o,ents,r1,r2,r5 hL▸r3,r4⟩
def J8(I:Inv X pins σ H s)(h:H a=cz (j0 a es)):(a==eB)=false/\es.length<=bh/\(es.map (·.1)).Nodup/\∃o ents ep,s.heap.get? a=cz o/\o.ExactDict/\o.data=.dict ents ep/\fI Q2 es ents.toList:=
 let⟨a1,a2,a3,o,ents,ep,r1,r2,r3,r4,_⟩:=a2y I h;⟨a1,a2,a3,o,ents,ep,r1,r2,r3,r4⟩
def a3R(I:Inv X pins σ H s)(h:H a=cz (j0 a es)){o:eW}{ents:Array fX}{ep:Nat}(h1:s.heap.get? a=cz o)(h3:o.data=.dict ents ep)(hL:E7 es=false):ep=es.length:=by
 obtain⟨_,_,_,o',mL,g1,_,g3,_⟩:=T3 I h hL;rw[h1]at g1;cases g1
 rw[h3]at g3
 injection g3
def C5(I:Inv X pins σ H s)(h:H a=cz (j0 a es)):s.TypeIs (.ref a) "dict":=by
 obtain⟨_,_,_,o,ents,ep,h1,h2,_⟩:=J8 I h;exact⟨o,h1,h2.1⟩
def a2z{P:bo}{w:bJ}{H':Hp}{h':b_}(hs:(a==eB)=false)(hl:es.length<=bh)(hn:(es.map (·.1)).Nodup){o:eW}{ents:Array fX}{ep:Nat}(h1:h'.get? a=cz o)(h2:o.ExactDict)(h3:o.data=.dict ents ep)(he:E7 es=false->ep=es.length)(h4:fI Q2 es ents.toList):ObjOk P w H' h' a (j0 a es):=
 ⟨⟨hs,hl,hn,o,ents,ep,h1,h2,h3,h4,he⟩,⟨o,h1⟩,λx1 x2 ⟨a1,a2,a3,o',mL,oV,b1,b2⟩ hk=>⟨a1,a2,a3,o',mL,oV,hk _ b1,b2⟩⟩
structure KeysAt (X:Cx) (H:Hp) (kt:Bool) (es:List (D×V×V)) (k:D) (kv:V):Prop where
 keys:∀e∈es,keyOk kt e.1/\Den X.K H e.2.1 e.1
 key:keyOk kt k
 den:Den X.K H kv k
def KeysAt.eqv(K:KeysAt X H kt es k kv){e:D×V×V}(he:e∈es):aM e.1 k=true↔e.1=k:=Q1 e.1 k (K.keys e he).1.1 K.key.1
def get_dict(I:Inv X pins σ H s)(hu:A.units+10<eh)(h:H a=cz (j0 a es))(K:KeysAt X H kt es k kv)(rk:RelV kv key) 
  (mE:C8 es k=false->∀s',Inv X pins σ H s'->Q pz s') (mB:∀e∈es,e.1=k->∀x s',Inv X pins σ H s'->RelV e.2.2 x->Q (cz x) s') :
  be (aV X.prog X.w) A (dictGet a key) Q E s:=by
 obtain⟨_,_,hn,o,ents,ep,h1,h2,h3,h4⟩:=J8 I h;unfold dictGet
 try with_reducible refine cK ?_
 refine af (a2w I hu K.key K.den rk (af (a2x (s:={s with toks:=s.toks+A0 k}) (I.tok (s.toks+A0 k)) hu h1 h3 h4 hn K.keys K.key K.den rk ?_ ?_)))
 ·intro qH;refine aE (mE ?_ _ (I.tok _));unfold C8;rw[fy];exact λe he hq=>qH e he ((K.eqv he).mp hq)
 ·intro j e he f_;obtain⟨x,hx,r⟩:=V3 h4 he;refine af (jc (s:={s with toks:=s.toks+A0 k}) h1 h3 ?_);have:ents[j]?=cz x:=by rw[<-bT];exact hx
  rw[this];exact aE (mB e (bA he) f_ _ _ (I.tok _) r.2.2)
def a3S(hf:C8 es k=false):Y9 es k kv v=es++[(k,kv,v)]:=by unfold Y9;rw[hf];rfl
def a5g{α β:Type}{R:α->β->Prop}{l:List α}{l':List β}(h:fI R l l'){x:α}{y:β}(r:R x y):fI R (l++[x]) (l'++[y]):=by
 induction h with
 |nil=>exact .cons r .nil
 |cons q _ ih=>exact .cons q ih
def a7e(K:KeysAt X H kt es k kv)(hn:(es.map (·.1)).Nodup)(hf:C8 es k=false):((es++[(k,kv,v)]).map (·.1)).Nodup:=by
 rw[bu,cB];refine⟨hn,by simp,λx hx y hy e=>?_⟩;simp only[aA,cY,ay]at hy;subst hy;subst e;obtain⟨e,he,rfl⟩:=bj.mp hx;unfold C8 at hf;rw[fy]at hf;exact hf e he ((K.eqv he).mpr rfl)
def a7f(I:Inv X pins σ H s)(h:H a=cz (j0 a es))(K:KeysAt X H kt es k kv)(rk:RelV kv key)(rv:RelV v val)(hl:es.length<bh)(hf:C8 es k=false){t':Nat}{o:eW}{ents:Array fX}{ep:Nat}(h1:s.heap.get? a=cz o)(h2:o.ExactDict)(h3:o.data=.dict ents ep)(h4:fI Q2 es ents.toList) :
  Inv X pins σ (upd H a (j0 a (es++[(k,kv,v)]))) {s with heap:=s.heap.update a (·.mapDictKeys (·.push ⟨hashD k,key,val⟩)),toks:=t'}:=by
 obtain⟨hs,_,hn,_⟩:=J8 I h;refine I.write (x:=a) (e:=a) (by rw[h];exact hJ) (.inl rfl) (λb q hb z=>((iy ..).2 b hb).trans z) ⟨_,eE _ h1 (iq (lF h3 _))⟩ ?_;refine a2z hs (by simp;lia) (a7e K hn hf) (eE _ h1 (iq (lF h3 _))) (h2.mapDictKeys _) (lF h3 _) (λhL=>by rw[a3R I h h1 h3 (a5f hL),az];rfl) ?_;have:=a5g h4 (x:=(k,kv,v)) (y:=⟨hashD k,key,val⟩) ⟨rfl,rk,rv⟩;obtain⟨l⟩:=ents;simpa using this
def a5h(hp:fI Q2 es l)(hn:(es.map (·.1)).Nodup)(hk:∀e∈es,aM e.1 k=true↔e.1=k)(rv:RelV v val):∀{j:Nat} {e:D×V×V},es[j]?=cz e->e.1=k->
  fI Q2 (es.map λe=>if aM e.1 k then (e.1,e.2.1,v) else e) (l.modify j λx=>{x with val:=val}):=by
 induction hp with
 |nil=>intro j e he;simp at he
 |@cons e0 x es l r hp ih=>
  intro j e he f_;rw[aA,cf]at hn;have qN:∀e∈es,aM e.1 k=true↔e.1=k:=λe he=>hk e (av _ he)
  cases j with
  |zero=>
   cases he
   have h0:aM e0.1 k=true:=(hk _ aD).mpr f_;have jF:es.map (λe=>if aM e.1 k then (e.1,e.2.1,v) else e)=es:=by
    have:∀e'∈es,(if aM e'.1 k then (e'.1,e'.2.1,v) else e')=e':=λe' kC=>by
     rw[aS];intro q;exact hn.1 (by rw[f_,<-(qN e' kC).mp q];exact di kC)
    rw[dE this,rC]
   rw[aA,aL h0,jF];exact .cons ⟨r.1,r.2.1,rv⟩ hp
  |succ j=>
   have kC:es[j]?=cz e:=by simpa using he
   have gU:¬ aM e0.1 k=true:=λq=>hn.1 (by rw[(hk _ aD).mp q,<-f_];exact di (bA kC))
   rw[aA,aS gU];exact .cons r (ih hn.2 qN kC f_)
def a1i{es:List (D×V×V)}:(es.map λe=>if aM e.1 k then (e.1,e.2.1,v) else e).map (·.1)=es.map (·.1):=by
 rw[dI];refine dE λe _=>?_
 show (if aM e.1 k then (e.1,e.2.1,v) else e).1=e.1
 split<;>rfl
def set_dict(I:Inv X pins σ H s)(hu:A.units+10<eh)(h:H a=cz (j0 a es))(K:KeysAt X H kt es k kv)(rk:RelV kv key)(rv:RelV v val)(hl:es.length<bh){Q:Unit->aj->Prop}
  (hQ:∀s',Inv X pins σ (upd H a (j0 a (Y9 es k kv v))) s'->Q () s'):be (aV X.prog X.w) A (dictSet a key val) Q E s:=by
 obtain⟨hs,_,hn,o,ents,ep,h1,h2,h3,h4⟩:=J8 I h;have mz:ents.size<=bh:=by
  have:=gh h4;have e2:ents.toList.length=ents.size:=by simp
  lia
 unfold dictSet
 try with_reducible refine cK ?_
 refine af (a2w I hu K.key K.den rk ?_);unfold dictSetHashed
 try with_reducible refine cK ?_
 refine af (a2x (s:={s with toks:=s.toks+A0 k}) (I.tok (s.toks+A0 k)) hu h1 h3 h4 hn K.keys K.key K.den rk ?_ ?_)
 ·intro qH;have hf:C8 es k=false:=by
   unfold C8;rw[fy];exact λe he hq=>qH e he ((K.eqv he).mp hq)
  rw[a3S hf]at hQ;exact af (sf (wpAny_updateDictKeys (hz:=mz) (s:={s with toks:=s.toks+A0 k}) h1 h3 (hQ _ (a7f (t':=s.toks+A0 k) I h K rk rv hl hf h1 h2 h3 h4))))
 ·intro j e he f_;have hf:C8 es k=true:=by
   unfold C8;rw[mi];exact⟨e,bA he,(K.eqv (bA he)).mpr f_⟩
  have oV:Y9 es k kv v=es.map λe=>if aM e.1 k then (e.1,e.2.1,v) else e:=by unfold Y9;rw[hf];rfl
  rw[oV]at hQ;refine af (sf (af (wpAny_updateDict (s:={s with toks:=s.toks+A0 k}) h1 h3 (wpAny_point (hQ _ ?_)))));refine I.write (x:=a) (e:=a) (t':=s.toks+A0 k) (by rw[h];exact hJ) (.inl rfl) (λb q hb z=>((iy ..).2 b hb).trans z) ⟨_,eE _ h1 (iq (o_ h3 _))⟩ ?_;refine a2z hs (by rw[ao];lia) (by rw[a1i];exact hn) (eE _ h1 (iq (o_ h3 _))) (h2.mapDict _) (o_ h3 _) (λhL=>by rw[E7,a1i]at hL;rw[a3R I h h1 h3 hL,ao]) ?_;have:=a5h h4 hn (λe he=>K.eqv he) rv he f_;obtain⟨l⟩:=ents;simpa using this
end
def a3T(i:Expr):Prop:=∀ov iv,pC i false ov iv=operate [ov,iv] (oe ov iv)
open PyProof.Rows in
def b5v{prog:bo}{w:bJ}{A:bH}{E:ag->aj->Prop}{s:aj}{env:kZ}{value slice:Expr}{pos:eH}{T id:String}{Q:ag->aj->Prop}
  (hl:typeLookup (.type T) "__getitem__"=pure (cz (.builtin id))) (hs:a3T slice)
  (h:be (aV prog w) A (cU value env) (λo s₁=>be (aV prog w) A (cU slice env) (λi s₂=>s₂.TypeIs o T/\be (aV prog w) A (oe o i) Q E s₂) E s₁) E s) :
  be (aV prog w) A (cU (.Subscript value slice pos) env) Q E s:=by
 refine PyProof.Rows.Subscript_ (cM h (λo s₁ h₁=>cM h₁ (λi s₂ h₂=>?_) λ_ _ x=>x) λ_ _ x=>x);obtain⟨hT,h₂⟩:=h₂;unfold subscriptTail;refine af ?_;rw[getitemInPython_of_ne hT.not_modules];refine af (ij hT hl ?_);have fin:be (aV prog w) A (pC slice false o i) (λr s₃=>be (aV prog w) A (letTemporaryGo value o r >>= λ_=>pure r) Q E s₃) E s₂:=by
  rw[hs o i];exact wpAny_operating (cM h₂ (λr s₃ h₃=>af (wpAny_letTemporaryGo (aE h₃))) λ_ _ x=>x)
 first
  |exact aE (af fin)
  |exact af (aE (af fin))
  |exact af fin
section
variable {X:Cx}{pins:List (au×eW)}{σ:L2.St}{H:Hp}{s:aj}{A:bH}{E:ag->aj->Prop}{a:au}{es:List (D×V×V)}{kt:Bool}{k:D}{kv v:V}{key val:ag}
def a1j(hu:A.units+12<eh)(I:Inv X pins σ H s)(h:H a=cz (j0 a es))(K:KeysAt X H kt es k kv)(rk:RelV kv key)(hh:C8 es k=true)
  (hQ:∀e∈es,e.1=k->∀x s',Inv X pins σ H s'->RelV e.2.2 x->Q x s'):be (aV X.prog X.w) A (oe (.ref a) key) Q E s:=by
 have hT:=C5 I h;unfold oe
 try with_reducible refine cK ?_
 refine af (wpAny_sequenceKey hT (by decide) ?_);refine af (gk (name:=kl "__getitem__") hT slot_dict_getitem (et slot_dict_getitem hT entry_dict_getitem ?_ (args_dict_getitem _ _)));show be _ _ (dictGet a key >>= _) _ _ s;refine af (get_dict (A:=A.in1) I (by show A.units+1+10<eh;lia) h K rk (λhf=>by rw[hh]at hf;cases hf) λe he f_ x s' I' r=>?_);exact aE ⟨x,rfl,aE (hQ e he f_ x s' I' r)⟩
def a3U(hu:A.units+12<eh)(I:Inv X pins σ H s)(h:H a=cz (j0 a es))(K:KeysAt X H kt es k kv)(rk:RelV kv key)
  (hQ:∀s',Inv X pins σ H s'->Q (C8 es k) s'):be (aV X.prog X.w) A (contains (.ref a) key) Q E s:=by
 have hT:=C5 I h;obtain⟨hd,_⟩:=J8 I h;unfold contains
 try with_reducible refine cK ?_
 refine af (ij hT slot_dict_contains.lookup ?_);show be _ _ (if (cz (ag.builtin "dict.__contains__")==cz ba)=true then _ else _) _ E s;rw[aS (by rw[beq_builtin_none];exact bU)];refine af (wpAny_callSpecialUnlessNone?_slot (name:=kl "__contains__") hT slot_dict_contains (et slot_dict_contains hT entry_dict_contains ?_ (args_dict_contains _ _)));show be _ _ (dictGet a key >>= _) _ _ s;refine af (get_dict (A:=A.in1) I (by show A.units+1+10<eh;lia) h K rk (λhf s' I'=>?_) λe he f_ x s' I' r=>?_)
 ·rw[hf]at hQ;show be _ _ (Builtin.Dict.pendingKey? a key >>= _) _ _ _;exact af (wpAny_pendingKey_other hd (aE ⟨_,rfl,eJ (hQ s' I')⟩))
 ·have hf:C8 es k=true:=by
   unfold C8;rw[mi];exact⟨e,he,(K.eqv he).mpr f_⟩
  rw[hf]at hQ;show be _ _ (ret (.bool true)) _ _ _;exact aE ⟨_,rfl,eJ (hQ s' I')⟩
def a8H(hu:A.units+12<eh)(I:Inv X pins σ H s)(h:H a=cz (j0 a es))(K:KeysAt X H kt es k kv)(rk:RelV kv key)
  (hQ:∀s',Inv X pins σ H s'->Q (.bool (!C8 es k)) s'):be (aV X.prog X.w) A (cD .NotIn key (.ref a)) Q E s:=by
 show be _ _ (do return .bool (!(<-contains (.ref a) key))) Q E s;exact af (a3U hu I h K rk λs' I'=>aE (hQ s' I'))
def a5i(hu:A.units+12<eh)(I:Inv X pins σ H s)(h:H a=cz (j0 a es))(K:KeysAt X H kt es k kv)(rk:RelV kv key)(rv:RelV v val)(hl:es.length<bh)
  (hQ:∀s',Inv X pins σ (upd H a (j0 a (Y9 es k kv v))) s'->Q () s'):be (aV X.prog X.w) A (zv (.ref a) key val) Q E s:=by
 have hT:=C5 I h;unfold zv
 try with_reducible refine cK ?_
 refine af (wpAny_sequenceKey hT (by decide) ?_);refine af (gk (name:=kl "__setitem__") hT slot_dict_setitem (et slot_dict_setitem hT entry_dict_setitem ?_ (args_dict_setitem _ _ _)));show be _ _ (Builtin.Dict.notOrdered "__setitem__" ⟨[.ref a,key,val],[]⟩ >>= _) _ _ s;refine af (Co hT ?_);show be _ _ (dictSet a key val >>= _) _ _ s;exact af (set_dict (A:=A.in1) I (by show A.units+1+10<eh;lia) h K rk rv hl λs' I'=>aE ⟨.none,rfl,aE (hQ s' I')⟩)
end
def L5(kvs:List (D×D))(k:D):Bool:=kvs.any λp=>aM p.1 k
def P3(kvs:List (D×D))(k:D):Option D:=(kvs.find? λp=>aM p.1 k).map (·.2)
def P2(kvs:List (D×D))(k d:D):List (D×D):=if L5 kvs k then kvs.map λp=>if aM p.1 k then (p.1,d) else p else kvs++[(k,d)]
def A1(kt:Bool)(k:D):Bool:=B9 k&&decide (k.depth<=7)&&match k with
 |.tuple _=>kt
 |.int _=>!kt
 |_=>false
def K9(h:A1 kt k=true):keyOk kt k:=by
 unfold A1 at h;rw[aC,aC]at h;refine⟨h.1.1,bN h.1.2,λe=>?_,λe=>?_⟩
 ·subst e;cases k with
  |tuple ds=>exact⟨ds,rfl⟩
  |int i=>have:=h.2;simp at this
  |_=>have:=h.2;simp at this
 ·subst e;cases k with
  |int i=>exact⟨i,rfl⟩
  |tuple ds=>have:=h.2;simp at this
  |_=>have:=h.2;simp at this
def dIn(neg kt:Bool):D->D->Option D
 |k,.dict kvs=>if A1 kt k then cz (.bool (neg !=L5 kvs k)) else pz
 |_,_=>pz
def a3f(kt:Bool):D->D->Option D
 |.dict kvs,k=>if A1 kt k then P3 kvs k else pz
 |_,_=>pz
theorem Q8:∀{es:List (D×V×V)} {ds:List D},ds.length=es.length->L5 ((es.map (·.1)).zip ds) k=C8 es k
 |[],ds,_=>by simp[L5,C8]
 |e::es,[],h=>by simp at h
 |e::es,d::ds,h=>by
  have ih:=Q8 (k:=k) (es:=es) (ds:=ds) (by simpa using h);unfold L5 C8 at ih ⊢;simp only[aA,dX,List.any_cons,ih]
theorem a1k:∀{es:List (D×V×V)} {ds:List D} {j:Nat} {e:D×V×V} {d:D},ds.length=es.length->(∀e∈es,aM e.1 k=true↔e.1=k)->(es.map (·.1)).Nodup->es[j]?=cz e->e.1=k->ds[j]?=cz d->P3 ((es.map (·.1)).zip ds) k=cz d
 |[],ds,j,e,d,_,_,_,he,_,_=>by simp at he
 |e0::es,[],j,e,d,h,_,_,_,_,_=>by simp at h
 |e0::es,d0::ds,0,e,d,h,hk,_,he,f_,hd=>by
  cases he
  cases hd
  have:aM e0.1 k=true:=(hk _ aD).mpr f_;simp[P3,this]
 |e0::es,d0::ds,j+1,e,d,h,hk,hn,he,f_,hd=>by
  rw[aA,cf]at hn;have kC:es[j]?=cz e:=by simpa using he
  have gR:ds[j]?=cz d:=by simpa using hd
  have ih:=a1k (k:=k) (by simpa using h) (λe he=>hk e (av _ he)) hn.2 kC f_ gR;have gU:aM e0.1 k=false:=by
   cases q:aM e0.1 k with
   |false=>rfl
   |true=>exact absurd (by rw[(hk _ aD).mp q,<-f_];exact di (bA kC)) hn.1
  unfold P3 at ih ⊢;simp only[aA,dX,jm,gU];exact ih
def a7g(h:L5 kvs k=false):P3 kvs k=pz:=by
 unfold L5 at h;rw[fy]at h;unfold P3;rw[eV.mpr λp hp=>by simpa using h p hp];rfl
def a3V(h:P3 kvs k=cz d):L5 kvs k=true:=by
 cases q:L5 kvs k with
 |true=>rfl
 |false=>rw[a7g q]at h;cases h
def a7h(h:L5 kvs k=false):P2 kvs k d=kvs++[(k,d)]:=by unfold P2;rw[h];rfl
def a3W{es:List (D×V×V)}{ds:List D}{k d:D}{kv v:V}(hl:ds.length=es.length):((es++[(k,kv,v)]).map (·.1)).zip (ds++[d])=(es.map (·.1)).zip ds++[(k,d)]:=by
 rw[bu,List.zip_append (by rw[ao];exact hl.symm)];rfl
theorem a0k{v:V}:∀{es:List (D×V×V)} {ds:List D} {j:Nat} {e:D×V×V},ds.length=es.length->(∀e∈es,aM e.1 k=true↔e.1=k)->(es.map (·.1)).Nodup->es[j]?=cz e->e.1=k->
  ((es.map (·.1)).zip ds).map (λp=>if aM p.1 k then (p.1,d) else p)=(es.map (·.1)).zip (ds.set j d)
 |[],ds,j,e,_,_,_,he,_=>by simp at he
 |e0::es,[],j,e,h,_,_,_,_=>by simp at h
 |e0::es,d0::ds,0,e,h,hk,hn,he,f_=>by
  cases he
  rw[aA,cf]at hn;have h0:aM e0.1 k=true:=(hk _ aD).mpr f_;have jF:((es.map (·.1)).zip ds).map (λp=>if aM p.1 k then (p.1,d) else p)=(es.map (·.1)).zip ds:=by
   have:∀p∈(es.map (·.1)).zip ds,(if aM p.1 k then (p.1,d) else p)=p:=λp hp=>by
    rw[aS];intro q;have hm:=(gJ hp).1;obtain⟨e',kC,hq⟩:=bj.mp hm;have qD:e'.1=p.1:=hq;rw[<-qD]at q;exact hn.1 (by rw[f_,<-(hk e' (av _ kC)).mp q];exact di kC)
   rw[dE this,rC]
  simp only[aA,dX,fW,aL h0,jF]
 |e0::es,d0::ds,j+1,e,h,hk,hn,he,f_=>by
  rw[aA,cf]at hn;have kC:es[j]?=cz e:=by simpa using he
  have ih:=a0k (k:=k) (d:=d) (v:=v) (ds:=ds) (by simpa using h) (λe he=>hk e (av _ he)) hn.2 kC f_;have gU:¬ aM e0.1 k=true:=λq=>hn.1 (by rw[(hk _ aD).mp q,<-f_];exact di (bA kC))
  simp only[aA,dX,dY,aS gU,ih]
section
variable {K:ae}{H:Hp}{F:List au}
theorem Own.dict(h:Own K H F (.d kt u) v d fp):∃a es ds fs,v=.ref a/\H a=cz (j0 a es)/\d=.dict ((es.map (·.1)).zip ds)/\fp=a::fs/\(∀e∈es,keyOk kt e.1/\Den K (cut H F) e.2.1 e.1)/\ListAll (Own K H F u) (es.map (·.2.2)) ds fs/\ds.length=es.length/\(es.map (·.1)).Nodup:=by
 simp only[Own]at h;obtain⟨a,es,ds,fs,h1,h2,h3,h4,h5,h6⟩:=h;exact⟨a,es,ds,fs,h1,h2,h3,h4,h5.2,h6,by have:=h6.length;rw[ao]at this;exact this.symm,h5.1⟩
end
section
variable {X:Cx}{M:List Md}{a b e:Expr}{fa fb:EvE}{ca cb:Cat}{kt:Bool}{u:Ty}{pos:eH}
def keysAt(h:∀e∈es,keyOk kt e.1/\Den X.K (cut H F) e.2.1 e.1)(hk:A1 kt k=true)(hd:Den X.K H kv k):KeysAt X H kt es k kv:=
 ⟨λe he=>⟨(h e he).1,(h e he).2.up j5⟩,K9 hk,hd⟩
def b0K(X:Cx)(neg:Bool):R2:=λx y H Q=>∃a es kt k,y=.ref a/\H a=cz (j0 a es)/\KeysAt X H kt es k x/\Q (.bl (neg !=C8 es k)) H
def Z0(hu:X.A.units+64<eh):OpR X (cD .NotIn) (b0K X true):=by
 intro pins s σ H x y v w Q I rx ry h;obtain⟨a,es,kt,k,rfl,hH,K,q⟩:=h;cases (show w=bG a from ry)
 exact a8H (by lia) I hH K rx λs' I'=>⟨.bl _,H,I',rfl,by simpa using q⟩
def a8I(h:dIn neg kt k d=cz r):∃kvs,d=.dict kvs/\A1 kt k=true/\r=.bool (neg !=L5 kvs k):=by
 cases d with
 |dict kvs=>
  have h':(if A1 kt k then cz (fS (neg !=L5 kvs k)) else pz)=cz r:=h;by_cases c:A1 kt k=true
  ·rw[aL c]at h';exact⟨kvs,rfl,c,(aK h').symm⟩
  ·rw[aS c]at h';cases h'
 |_=>cases h
def b0L(ho:OpR X (cD op) (b0K X neg))(ha:PX X M a fa ca)(hb:PX X M b fb (.bor (.d kt u))){Z:List D}(S:StE X.K M Z σ H P F)(e1:Same H H1)(e2:Same H1 H2)
  (r1:ResR X.K ca H H1 F v k) (r2:ResR X.K (.bor (.d kt u)) H1 H2 F w d) (hr:dIn neg kt k d=cz r) (q:Q (.bl (match r with|.bool b=>b|_=>false)) H2):b0K X neg v w H2 Q:=by
 obtain⟨kvs,rfl,hk,rfl⟩:=a8I hr;obtain⟨fp,o,_⟩:=r2;obtain⟨p,es,ds,fs,rfl,hH,hd,_,h5,_,hl,_⟩:=o.dict;cases hd
 refine⟨p,es,kt,k,rfl,hH,keysAt h5 hk (r1.den.up e2),?_⟩;rw[<-Q8 hl];exact q
def a5j(ho:OpR X (cD op) (b0K X neg))(ha:PX X M a fa ca)(hb:PX X M b fb (.bor (.d kt u)))(hm:gf op b=false:=by first|exact a4O _|with_unfolding_all rfl):PTX X M (.Compare a [op] [b] pos) (tB (e2 (dIn neg kt) fa fb)):=by
 obtain⟨ta,pa,qa⟩:=ha.out;obtain⟨tb,pb,qb⟩:=hb.out;refine .mk ⟨_,a5S ho pa pb hm,λZ σ H P F k Q S hf q=>?_⟩;obtain⟨d,hf,hk⟩:=bnd hf;cases Q6 hk
 obtain⟨x,y,h1,h2,h3⟩:=F7 hf;exact qa Z σ H P F x _ S h1 λv H1 e1 r1=>qb Z σ H1 P F y _ (S.grow e1) h2 λw H2 e2 r2=>b0L ho ha hb S e1 e2 r1 r2 h3 ⟨k,rfl,q H2 (e1.trans e2)⟩
def b6O(X:Cx)(td ty:TE):TE:=λσ H Q=>td σ H λx H1=>ty σ H1 λy H2=>∃a es kt k,x=.ref a/\H2 a=cz (j0 a es)/\KeysAt X H2 kt es k y/\C8 es k=true/\∀e∈es,e.1=k->Q e.2.2 H2
def b3t(hu:X.A.units+64<eh)(ho:PE X a td)(hi:PE X b ty)(hs:a3T b):PE X (.Subscript a b pos) (b6O X td ty):=by
 intro pins s σ H Q I h;refine b5v oB.lookup hs (L2.thn (ho pins s σ H _ I h) λu s1 ⟨x,H1,I1,rx,q1⟩=>L2.thn (hi pins s1 σ H1 _ I1 q1) λiv s2 ⟨y,H2,I2,ry,p,es,kt,k,ex,hH,K,hh,q2⟩=>?_);subst ex;obtain rfl:u=bG p:=rx;exact⟨C5 I2 hH,a1j (by lia) I2 hH K ry hh λe he f_ x s3 I3 r3=>⟨e.2.2,H2,I3,r3,q2 e he f_⟩⟩
def a7i(h:a3f kt d k=cz r):∃kvs,d=.dict kvs/\A1 kt k=true/\P3 kvs k=cz r:=by
 cases d with
 |dict kvs=>
  have h':(if A1 kt k then P3 kvs k else pz)=cz r:=h;by_cases c:A1 kt k=true
  ·rw[aL c]at h';exact⟨kvs,rfl,c,h'⟩
  ·rw[aS c]at h';cases h'
 |_=>cases h
def b3u{es:List (D×V×V)}{ds:List D}{e:D×V×V}(h6:ListAll (Own X.K H F u) (es.map (·.2.2)) ds fs)(hl:ds.length=es.length)(hn:(es.map (·.1)).Nodup)(K:KeysAt X H kt es k kv)(he:e∈es)(f_:e.1=k) :
  ∃(j:Nat) (d:D) (f:List au),es[j]?=cz e/\ds[j]?=cz d/\P3 ((es.map (·.1)).zip ds) k=cz d/\Own X.K H F u e.2.2 d f/\∀x∈f,x∈fs:=by
 obtain⟨j,hj⟩:=cO.mp he;have gK:j<ds.length:=by rw[hl];exact (aT.mp hj).1
 obtain⟨w,f,pre,post,z1,z2,z3,_⟩:=h6.at_ (ah gK);rw[bE,hj]at z1;cases z1
 refine⟨j,ds[j],f,hj,ah gK,a1k hl (λe he=>K.eqv he) hn hj f_ (ah gK),z2,λx hx=>?_⟩;rw[z3];exact aq _ (aw _ hx)
end
section
variable {X:Cx}{M:List Md}{a b e o:Expr}{es:List Expr}{fa fb:EvE}{ca cb:Cat}{kt:Bool}{u:Ty}{pos apos eQ:eH}{to:TE}{t:TA}{name:br}{id:String}{r:V->List V->Hp->VK->Prop}
def b3v(hu:X.A.units+64<eh)(ha:PX X M a fa (.bor (.d kt u)))(hb:PX X M b fb cb)(hs:a3T b:=by exact λ_ _=>rfl):PX X M (.Subscript a b pos) (e2 (a3f kt) fa fb) (.bor u):=by
 obtain⟨ta,pa,qa⟩:=ha.out;obtain⟨tb,pb,qb⟩:=hb.out;refine .mk ⟨_,b3t hu pa pb hs,λZ σ H P F d Q S hf q=>?_⟩;obtain⟨x,y,h1,h2,h3⟩:=F7 hf;obtain⟨kvs,rfl,hk,hg⟩:=a7i h3;refine qa Z σ H P F _ _ S h1 λv H1 e1 ⟨fp,o,sub⟩=>qb Z σ H1 P F y _ (S.grow e1) h2 λw H2 e2 r2=>?_
 obtain⟨p,es,ds,fs,rfl,hH,hd,rfl,h5,h6,hl,hn⟩:=(o.grow e2).dict;cases hd
 have K:=keysAt (X:=X) h5 hk r2.den;refine⟨p,es,kt,y,rfl,hH,K,by rw[<-Q8 hl];exact a3V hg,λe he f_=>?_⟩;obtain⟨j,d',f,_,_,g',o',s'⟩:=b3u h6 hl hn K he f_;rw[hg]at g';cases g'
 exact q _ H2 (e1.trans e2) ⟨f,o',λx hx=>sub x (av _ (s' x hx))⟩
end
section
variable {K:ae}{H:Hp}{F:List au}
theorem StE.dict{Z:List D}(S:StE K M Z σ H P F)(hm:M[i]?=cz (.own (.d kt u))) :
  ∃a es ds fs,σ[i]?=cz (cz (.ref a))/\H a=cz (j0 a es)/\Z.getD i .none=.dict ((es.map (·.1)).zip ds)/\(∀e∈es,keyOk kt e.1/\Den K (cut H F) e.2.1 e.1)/\ListAll (Own K H F u) (es.map (·.2.2)) ds fs/\ds.length=es.length/\(es.map (·.1)).Nodup:=by
 obtain⟨v,f,h1,o,_⟩:=S.get hm;obtain⟨a,es,ds,fs,rfl,h2,h3,_,h5,h6,h7,h8⟩:=o.dict;exact⟨a,es,ds,fs,h1,h2,h3,h5,h6,h7,h8⟩
theorem a3X:∀{es:List (D×V×V)} {j:Nat} {e:D×V×V},(es.map (·.1)).Nodup->(∀e∈es,aM e.1 k=true↔e.1=k)->es[j]?=cz e->e.1=k->(es.map λe=>if aM e.1 k then (e.1,e.2.1,v) else e).map (·.2.2)=(es.map (·.2.2)).set j v
 |[],j,e,_,_,hj,_=>by simp at hj
 |e0::es,0,e,hn,kg,hj,f_=>by
  rw[aA,cf]at hn;cases hj
  have jF:es.map (λe=>if aM e.1 k then (e.1,e.2.1,v) else e)=es:=by
   have:∀e'∈es,(if aM e'.1 k then (e'.1,e'.2.1,v) else e')=e':=λe' kC=>by
    rw[aS];intro q;exact hn.1 (by rw[f_,<-(kg e' (av _ kC)).mp q];exact di kC)
   rw[dE this,rC]
  rw[aA,aL ((kg _ aD).mpr f_),jF];rfl
 |e0::es,j+1,e,hn,kg,hj,f_=>by
  rw[aA,cf]at hn;have oQ:es[j]?=cz e:=by simpa using hj
  have gU:¬ aM e0.1 k=true:=λq=>hn.1 (by rw[(kg _ aD).mp q,<-f_];exact di (bA oQ))
  rw[aA,aS gU,aA,aA,dY,a3X hn.2 (λe he=>kg e (av _ he)) oQ f_]
def Pend.dput{Z:List D}(h:Pend K ([]++[.own u]) ([]++[d]) ([]++[cz v]) M Z σ H P F)(hm:M[i]?=cz (.own (.d kt u)))(hk:keyOk kt k)(AJ:Den K H kv k) :
  ∃a es ds fs,σ[i]?=cz (cz (.ref a))/\H a=cz (j0 a es)/\Z.getD i .none=.dict ((es.map (·.1)).zip ds)/\(∀e∈es,keyOk kt e.1/\Den K (cut H F) e.2.1 e.1)/\ListAll (Own K H F u) (es.map (·.2.2)) ds fs/\ds.length=es.length/\(es.map (·.1)).Nodup/\
   StR K M (Z.set i (.dict (P2 ((es.map (·.1)).zip ds) k d))) σ (upd H a (j0 a (Y9 es k kv v))) P F:=by
 obtain⟨_,_,S⟩:=h;obtain⟨G,h1,h2,h3⟩:=S.all;have ng:StAll K H F (.own u::M) (d::Z) (cz v::σ) G:=by simpa using h1
 simp only[StAll]at ng;obtain⟨d',Z',o',σ',fv,G2,e1,e2,rfl,⟨v',e3,ov⟩,h5⟩:=ng;cases e1
 cases e2
 cases e3
 obtain⟨dd,oo,f,pre,post,q1,q2,⟨v2,rfl,q3⟩,rfl,q5⟩:=h5.at_ hm;obtain⟨a,es,ds,fs,rfl,r2,r3,rfl,r5,r6,hl,hn⟩:=q3.dict;have Bv:a∈F:=h3 a (by simp);have gA:∀o,Same (cut H F) (cut (upd H a o) F):=λo b o' hb=>by
  obtain⟨n1,n2⟩:=t5 hb;exact l0 n1 (by rw[g7 (show b≠a from λz=>n1 (z▸Bv))];exact n2)
 have cnt:∀b,b=a->(pre++post).count b=0/\fs.count b=0/\fv.count b=0:=λb e=>by
  subst e;have:=gE.mp h2 b;simp only[cC,cw,uq]at this ⊢;exact⟨by lia,by lia,by lia⟩
 have kk:∀(l:List au) (o:HO),(∀b,b=a->l.count b=0)->∀b∈l,upd H a o b=H b:=λl o hc b hb=>g7 λz=>by
  have:=hc b z;rw[xu]at this;exact this hb
 have AK:Den K (cut H F) kv k:=AJ.imm_out S.lst k (Q3 _ hk.1);have kg:∀e∈es,aM e.1 k=true↔e.1=k:=λe he=>Q1 e.1 k (r5 e he).1.1 hk.1
 have fin:∀(iW:List (D×V×V)) (iF:List D) (jZ:List au),(iW.map (·.1)).Nodup->(∀e∈iW,keyOk kt e.1/\Den K (cut H F) e.2.1 e.1)->ListAll (Own K (upd H a (j0 a iW)) F u) (iW.map (·.2.2)) iF jZ->(∀b,jZ.count b<=fs.count b+fv.count b)->
   StR K M (Z.set i (.dict ((iW.map (·.1)).zip iF))) σ (upd H a (j0 a iW)) P F:=λiW iF jZ qJ qN ha nV=>by
  have o1:Own K (upd H a (j0 a iW)) F (.d kt u) (.ref a) (.dict ((iW.map (·.1)).zip iF)) (a::jZ):=by
   simp only[Own];exact⟨a,iW,iF,jZ,rfl,j8,rfl,rfl,⟨qJ,λe he=>⟨(qN e he).1,(qN e he).2.up (gA _)⟩⟩,ha⟩
  have q:=q5 (upd H a (j0 a iW)) F (.own (.d kt u)) (.dict ((iW.map (·.1)).zip iF)) (cz (.ref a)) _ (kk _ _ λb e=>(cnt b e).1) (gA _) ⟨_,rfl,o1⟩;rw[set_same (l:=σ) q2,set_same (l:=M) hm]at q;refine⟨⟨_,q,a1f h2 λb=>?_,λb hb=>?_⟩,λb hb=>?_,S.prot.trans (gA _)⟩
  ·have:=nV b;simp only[cC,cw,jn];lia
  ·have hc:0<(fv++(pre++(a::fs++post))).count b:=by
    have h0:=h_.mpr hb;have:=nV b;simp only[cC,cw,jn]at h0 ⊢;lia
   exact h3 b (h_.mp hc)
  ·by_cases e:b=a
   ·subst e;exact⟨⟨j0 b iW,trivial⟩,j8⟩
   ·obtain⟨ys,y⟩:=S.lst b hb;exact⟨ys,by rw[g7 e];exact y⟩
 refine⟨a,es,ds,fs,q2,r2,by rw[D5 q1];exact r3,r5,r6,hl,hn,?_⟩;cases hf:C8 es k with
 |false=>
  rw[a3S hf,a7h (by rw[Q8 hl];exact hf),<-a3W (kv:=kv) (v:=v) hl];refine fin (es++[(k,kv,v)]) (ds++[d]) (fs++fv) ?_ ?_ ?_ λb=>by rw[cC];exact aG _
  ·rw[bu,cB];refine⟨hn,by simp,λx hx y hy e=>?_⟩;simp only[aA,cY,ay]at hy;subst hy;subst e;obtain⟨e,he,rfl⟩:=bj.mp hx;unfold C8 at hf;rw[fy]at hf;exact hf e he ((kg e he).mpr rfl)
  ·intro e he;rcases ar.mp he with z|z
   ·exact r5 e z
   ·rw[ay.mp z];exact⟨hk,AK⟩
  ·rw[bu];refine (l6 (gA _) r6 (kk _ _ λb e=>(cnt b e).2.1)).append ?_;have:=n4 (R:=Own K (upd H a (j0 a (es++[(k,kv,v)]))) F u) (ov.frame (gA _) u (kk _ _ λb e=>(cnt b e).2.2)) p7
   rwa[bg]at this
 |true=>
  have hh:=hf;unfold C8 at hf;rw[mi]at hf;obtain⟨e,he,f_⟩:=hf;have tG:=(kg e he).mp f_;obtain⟨j,hj⟩:=cO.mp he;have AO:j<ds.length:=by rw[hl];exact (aT.mp hj).1
  have qE:Y9 es k kv v=es.map λe=>if aM e.1 k then (e.1,e.2.1,v) else e:=by unfold Y9;rw[hh];rfl
  have sP:P2 ((es.map (·.1)).zip ds) k d=(es.map (·.1)).zip (ds.set j d):=by
   unfold P2;rw[Q8 hl,hh];exact a0k (v:=v) hl kg hn hj tG
  have pH:(Y9 es k kv v).map (·.1)=es.map (·.1):=by rw[qE];exact a1i
  rw[sP,<-pH];obtain⟨w3,f3,a1,a2,s1,s2,yM,s4⟩:=r6.zip (ah AO);have sI:(Y9 es k kv v).map (·.2.2)=(es.map (·.2.2)).set j v:=by
   rw[qE];exact a3X hn kg hj tG
  refine fin (Y9 es k kv v) (ds.set j d) (a1++(fv++a2)) (by rw[pH];exact hn) ?_ ?_ λb=>by rw[yM];simp only[cC];lia
  ·intro e' kC;rw[qE]at kC;obtain⟨e0,yp,rfl⟩:=bj.mp kC
   split
   ·exact r5 e0 yp
   ·exact r5 e0 yp
  ·rw[sI];have c5:∀b,b=a->(a1++a2).count b=0:=λb e=>by have:=(cnt b e).2.1;rw[yM]at this;simp only[cC]at this ⊢;lia
   exact s4 _ F v d fv (kk _ _ c5) (gA _) (ov.frame (gA _) u (kk _ _ λb e=>(cnt b e).2.2))
end
noncomputable def p5(i:Nat)(kt:Bool)(fk fv:EvE):EvS:=λZ=>(fv Z).bind λd=>(fk Z).bind λk=>match Z.getD i .none with
 |.dict kvs=>if A1 kt k&&decide (kvs.length<1000000) then cz (.nx (Z.set i (.dict (P2 kvs k d)))) else pz
 |_=>pz
abbrev EvX:=List D->Option (D×List D)
section
variable {X:Cx}{M M1 ML:List Md}{e k v:Expr}{fk fe fv:EvE}{f:EvX}{ck:Cat}{kt:Bool}{u w:Ty}{pos apos eQ fM:eH}
def b5w(X:Cx)(td ty tv:TE):TS:=λD σ H=>tv σ H λv H1=>td σ H1 λx H2=>ty σ H2 λy H3=>∃a es kt k,x=.ref a/\H3 a=cz (j0 a es)/\KeysAt X H3 kt es k y/\es.length<bh/\D.nx σ (upd H3 a (j0 a (Y9 es k y v)))
def b0M(hu:X.A.units+64<eh)(ho:PE X o td)(hi:PE X k ty)(hv:PE X v tv)(hs:gn v (cz (.Subscript o k fM)) pos.line X.env=pure false) :
  PS X (.Assign [.Subscript o k fM] v pos) (b5w X td ty tv):=by
 intro pins s σ H D I h;refine wpAny_Assign_Subscript (L2.thn (hv pins s σ H _ I h) λr s1 ⟨v,H1,I1,rv,q1⟩=>L2.thn (ho pins s1 σ H1 _ I1 q1) λu s2 ⟨x,H2,I2,rx,q2⟩=>L2.thn (hi pins s2 σ H2 _ I2 q2) λiv s3 ⟨y,H3,I3,ry,a,es,kt,k,ex,hH,K,hl,q3⟩=>?_) hs;subst ex;obtain rfl:u=bG a:=rx;exact a5i (by lia) I3 hH K ry rv hl λs4 I4=>⟨σ,_,I4,q3⟩
def a3g(i:Nat)(hu:X.A.units+64<eh)(hk:PX X M1 k fk ck)(hv:PMX X M v fv u M1)(hN:X.N[i]?=cz x:=by rfl)(pE:Vis X.env.scope x:=by first|exact cX rfl|exact cR (cX rfl)|exact cR (cR rfl))(hd:(x==("__debug__":br))=false:=by decide)
  (gu:(x==("__classdict__":br))=false:=by decide) (hm:M1[i]?=cz (.own (.d kt u)):=by rfl) (hs:gn v (cz (.Subscript (.Name x px) k fM)) pos.line X.env=pure false:=by rfl) :
  PSX X w ML M (.Assign [.Subscript (.Name x px) k fM] v pos) (p5 i kt fk fv) M1:=by
 obtain⟨tv,pv,qv⟩:=hv;obtain⟨tk,pk,qk⟩:=hk.out;refine .mk ⟨_,b0M hu (P6 hN pE hd gu) pk pv hs,λD Z σ H P F o S hg kk=>?_⟩;obtain⟨d,h1,g1⟩:=bnd hg;obtain⟨y,h2,g2⟩:=bnd g1;refine qv [] [] [] Z σ H P F d _ S.pend h1 λv1 H1 F1 e1 S1=>?_
 obtain⟨a,es,ds,fs,ha,hH,hZ,_⟩:=S1.e.dict hm;rw[hZ]at g2;have rY:(if (A1 kt y&&decide (((es.map (·.1)).zip ds).length<1000000))=true then cz (Out.nx (Z.set i (.dict (P2 ((es.map (·.1)).zip ds) y d)))) else pz)=cz o:=g2;by_cases c:(A1 kt y&&decide (((es.map (·.1)).zip ds).length<1000000))=true
 ·rw[aL c]at rY;cases rY
  rw[aC]at c;refine⟨_,ha,qk Z σ H1 P F1 y _ S1.e h2 λkv H2 e2 r2=>?_⟩;obtain⟨a',iW,iF,jZ,tX,uU,tY,hK,_,qL,_,S3⟩:=(S1.grow e2).dput hm (K9 c.1) r2.den;rw[ha]at tX;cases tX
  rw[hZ]at tY
  injection tY with tY
  refine⟨a,iW,kt,y,rfl,uU,keysAt hK c.1 r2.den,?_,kk σ _ F1 (by rw[tY];exact S3)⟩;have hlen:((iW.map (·.1)).zip iF).length=iW.length:=by rw[nr,ao,qL,Nat.min_self]
  rw[<-hlen,<-tY];exact rA (bN c.2) (by rw[dD];decide)
 ·rw[aS c]at rY;cases rY
end
def intsOf:List D->Option (List Int)
 |[]=>cz []
 |.int i::r=>(intsOf r).map (i::·)
 |_=>pz
theorem a0l:∀{ds:List D} {is:List Int},intsOf ds=cz is->ds=is.map .int
 |[],is,h=>by cases h;rfl
 |.int i::r,is,h=>by
  obtain⟨js,h1,rfl⟩:=rz.mp (show (intsOf r).map (i::·)=cz is from h);rw[aA,<-a0l h1]
 |.none::_,_,h|.bool _::_,_,h|.str _::_,_,h|.list _::_,_,h|.tuple _::_,_,h|.dict _::_,_,h=>nomatch h
def a6l{X:Cx}{pins:List (au×eW)}{σ:L2.St}{H:Hp}{s:aj}{h':b_}{t':Nat}{ch:List au}{T:au}{xs:List V}(I:Inv X pins σ H s)(k:∀b o,b∉ch->s.heap.get? b=cz o->h'.get? b=cz o)
  (hf:∀b∈ch,a1R X pins H b) (hT:s.heap.objs.size<=T) (new:ObjOk X.prog X.w (upd H T (.tup xs)) h' T (.tup xs)):Inv X pins σ (upd H T (.tup xs)) {s with heap:=h',toks:=t'}:=by
 have hn:H T=pz:=I.hok.fresh hT;have neT:∀b o,s.heap.get? b=cz o->b≠T:=λb o e z=>absurd (aZ (aN e) (by rw[z];exact hT)) (dN _)
 have nL:∀b u,H b=cz u->b∉ch:=λb u e hb=>by rw[(hf b hb).1]at e;cases e
 refine I.step (g':=s.gens) (d':=s.drawn) (ch:=ch) (λb hb=>⟨(hf b hb).2.2.2.1,(hf b hb).2.1,(hf b hb).2.2.2.2.1,(hf b hb).2.2.2.2.2⟩) (λb o _ _ hc e _=>k b o hc e) (λb o _ _ hc e _=>⟨o.slots,k b o hc e⟩) (λb o _ e n=>by rw[g7 (neT b o e)];exact n)
  (λb o hc e=>⟨o,k b o hc e⟩) (λb ys e=>by rw[g7 (n5 e hn)];exact e) (λb o u e=>by rw[g7 (n5 e hn)];exact e) (λb ps e=>⟨#[],by rw[g7 (n5 e hn),e];simp⟩) (λm hm=>?_) (λb u e=>?_) I.bare
 ·obtain⟨o,es,ep,ho,r⟩:=hm;exact⟨o,es,ep,k _ o (λhb=>(hf _ hb).2.1 rfl) ho,r⟩
 ·by_cases hb:b=T
  ·subst hb;rw[j8]at e;cases e;exact new
  ·rw[g7 hb]at e;refine (I.hok b u e).stay (λc v hc q=>k c v ?_ q) (λc q=>by rw[g7 (n5 q hn)];exact q) λc ys q=>by rw[g7 (n5 q hn)];exact q
   rcases hc with z|z
   ·rw[z];exact nL b u e
   ·exact nL c _ z
def a6m{X:Cx}{pins:List (au×eW)}{σ:L2.St}{H:Hp}{s:aj}{h':b_}{t':Nat}{ch:List au}(I:Inv X pins σ H s)(k:∀b o,b∉ch->s.heap.get? b=cz o->h'.get? b=cz o)
  (hf:∀b∈ch,a1R X pins H b):Inv X pins σ H {s with heap:=h',toks:=t'}:=by
 have nL:∀b u,H b=cz u->b∉ch:=λb u e hb=>by rw[(hf b hb).1]at e;cases e
 refine I.step (g':=s.gens) (d':=s.drawn) (ch:=ch) (λb hb=>⟨(hf b hb).2.2.2.1,(hf b hb).2.1,(hf b hb).2.2.2.2.1,(hf b hb).2.2.2.2.2⟩) (λb o _ _ hc e _=>k b o hc e) (λb o _ _ hc e _=>⟨o.slots,k b o hc e⟩) (λb o _ e n=>n)
  (λb o hc e=>⟨o,k b o hc e⟩) (λb ys e=>e) (λb o u e=>e) (λb ps e=>⟨#[],by rw[e];simp⟩) (λm hm=>?_) (λb u e=>?_) I.bare
 ·obtain⟨o,es,ep,ho,r⟩:=hm;exact⟨o,es,ep,k _ o (λhb=>(hf _ hb).2.1 rfl) ho,r⟩
 ·refine (I.hok b u e).stay (λc v hc q=>k c v ?_ q) (λc q=>q) λc ys q=>q
  rcases hc with z|z
  ·rw[z];exact nL b u e
  ·exact nL c _ z
def Ite(K:ae)(a:au):It:=
 ⟨λi H=>∃xs x,SqL K H a xs/\xs[i]?=cz x,λi H x H'=>∃T y,H T=pz/\H'=upd H T (.tup [.int i,y])/\x=.ref T/\∀xs,SqL K H a xs->xs[i]?=cz y,λi H=>∃xs,SqL K H a xs/\xs.length<=i⟩
def a7j{P:bo}{w:bJ}{K:ae}{elts:List Expr}{kk:Nat}{fM:eH}(a e it:au)(A_:e≠it):Turn P w K (.Tuple elts kk fM) (Ite K a) [e,it] e (λi h=>(∃old,IsEnum h e it i old)/\h.IsListIter it a i) where
 mem:=by simp
 obj:=λi h st b hb=>by
  obtain⟨⟨old,he⟩,o,eo,c,d⟩:=st;rcases aF.mp hb with rfl|hb
  ·exact⟨_,he,λv z=>by cases z⟩
  ·cases ay.mp hb
   exact⟨o,eo,λv z=>by rw[d]at z;cases z⟩
 keep:=λi h h' st k=>by
  obtain⟨⟨old,he⟩,hit⟩:=st;exact⟨⟨old,k e (by simp) _ he⟩,hit.at λo x=>k it (by simp) o x⟩
 item:=by
  intro X hP hw hK hc i pins s σ H E I hf st hg;subst hP hw hK;obtain⟨xs,x,hq,hx⟩:=hg;obtain⟨cN,rv,p,hz⟩:=I.list hq;obtain⟨u,hu,ru⟩:=rv.get hx;obtain⟨⟨old,he⟩,hit⟩:=st;have hle:a≠e:=λz=>by
   obtain⟨o,eo,c,_⟩:=p.isList;rw[z,he]at eo;cases eo
   exact absurd (show fQ "enumerate"=fQ "list" from c) (by decide)
  have uO:a≠it:=λz=>by
   obtain⟨o,eo,c,_⟩:=p.isList;obtain⟨o2,BO,c2,_⟩:=hit;rw[z,BO]at eo;cases eo
   rw[c2]at c;exact absurd c (by decide)
  have W:=WalksT.enumerate (prog:=X.prog) (w:=X.w) (A:=X.A) (I.ok.hd hc) e it a A_ hle uO cN.toArray;have kY:i<cN.toArray.size:=by
   have:=(aT.mp hu).1;simpa using this
  refine W.item i s _ E kY ⟨⟨old,he⟩,hit,p.isList⟩ λT vals h' tk hP hT qz nZ hk=>⟨.ref T,rfl,W.go elts kk fM i T {s with heap:=h',toks:=tk} _ E nZ λh2 jE sZ=>?_⟩
  obtain⟨t,y,hy,rfl⟩:=hP;have ey:y=u:=by
   have h1:cN[i]?=cz y:=by simpa using hy
   rw[hu]at h1;exact (aK h1).symm
  subst ey;have rd:=W.apart i T h' nZ;obtain⟨oT,eT,cT⟩:=qz;have hn:H T=pz:=I.hok.fresh hT;have new:ObjOk X.prog X.w (upd H T (.tup [.int i,x])) h2 T (.tup [.int i,x]):=by
   refine⟨by rw[dD];show 2<=_;decide,[.int i t,y],?_,oT,sZ T oT rd eT,cT⟩;exact .cons ⟨t,rfl⟩ (.cons ru .nil)
  refine⟨.ref T,upd H T (.tup [.int i,x]),a6l (s:=s) (t':=tk) I (λb o hb q=>sZ b o hb (hk b o hb q)) hf hT new,rfl,⟨T,x,hn,rfl,rfl,λys sF=>by rw[I.list_inj sF hq];exact hx⟩,⟨jE.1,jE.2.1⟩,λb hb=>?_⟩;rw[g7 (λz=>rd (by rw[<-z];exact hb))];exact (hf b hb).1
 done:=by
  intro X hP hw hK hc i pins s σ H E I hf st hg;subst hP hw hK;obtain⟨xs,hq,hx⟩:=hg;obtain⟨cN,rv,p,hz⟩:=I.list hq;have hl:=rv.length;obtain⟨⟨old,he⟩,hit⟩:=st;exact wpAny_pyNext_enum_end (I.ok.hd hc) he hit p.isList (dh (by simp;lia)) λh' hx=>⟨rfl,a6m (t':=s.toks) I (λb o hb y=>hx b o (λz=>hb (by simp[z])) y) hf⟩
 self:=λ_ _ _ _ _ st h=>by
  obtain⟨⟨old,he⟩,_⟩:=st;exact wpAny_pyIter_enum he h
def J9:List D->Nat->List D
 |[],_=>[]
 |d::ds,k=>.tuple [.int k,d]::J9 ds (k+1)
noncomputable def iEn(a:EvE):EvA:=λZ=>(a Z).bind λd=>(asL d).bind λds=>cz (J9 ds 0)
theorem a1l:∀(ds:List D) (k:Nat),(J9 ds k).length=ds.length
 |[],_=>rfl
 |d::ds,k=>by show (J9 ds (k+1)).length+1=_;rw[a1l ds];rfl
theorem a1m:∀(ds:List D) (k i:Nat) (d:D),ds[i]?=cz d->(J9 ds k)[i]?=cz (.tuple [.int ((k+i:Nat):Int),d])
 |[],_,i,d,h=>by simp at h
 |d0::ds,k,0,d,h=>by
  have:d0=d:=by simpa using h
  subst this;rfl
 |d0::ds,k,i+1,d,h=>by
  have:=a1m ds (k+1) i d (by simpa using h);show (J9 ds (k+1))[i]?=_;rw[this,iA,Nat.add_comm 1]
section
variable {X:Cx}{M ML:List Md}{a e iter:Expr}{elts:List Expr}{kk:Nat}{fM pos p:eH}{fa:EvE}{ca:Cat}{u:Ty}{body:List fH}{g:EvS}
def b6P(K:ae)(ta:TA):TI:=λσ H R=>ta σ H λvs H1=>∃a xs,vs=[.ref a]/\SqL K H1 a xs/\R (Ite K a) H1
open PyProof.Rows in
def b0N(hg:Gl X "enumerate")(hm:X.mg "enumerate"=pz)(ha:PA X [a] ta)(hs:ax [a] X.env=[(false,cU a X.env)]:=by rfl):PI X (.Tuple elts kk fM) (.Call (.Name "enumerate" p) [a] [] pos) (b6P X.K ta):=by
 intro pins s σ H R I h;refine Call_ (U3 I hg hm PyProof.Rows.Boot.«enumerate» (dF (L2.thn (ha pos pins s σ H _ I h) λus s1 ⟨vs,H1,I1,r1,q1⟩=>?_) hs rfl));obtain⟨l,xs,e,hq,q⟩:=q1;subst e;cases r1 with
 |cons r rr=>
  cases rr
  cases (show _=bG l from r)
  obtain⟨cN,rv,pl,hz⟩:=I1.list hq;refine call_enumerate_list pl.isList λh' he hit mz hk=>?_
  refine wpAny_pyIter_enum he ?_;refine⟨s1.heap.objs.size+1,[s1.heap.objs.size+1,s1.heap.objs.size],_,_,H1,rfl,I1.kept (t':=s1.toks) hk,a7j l _ _ (Nat.succ_ne_self _),⟨⟨_,he⟩,hit⟩,λb hb=>?_,q⟩;have pK:s1.heap.objs.size<=b:=by
   rcases aF.mp hb with z|z
   ·rw[z];exact um _
   ·rw[ay.mp z];exact aG _
  exact I1.fpOk pK (I1.hok.fresh pK)
noncomputable def b5x(X:Cx)(M:List Md)(tg iter:Expr)(f:EvE):Prop:=
 ∃wi,PI X tg iter wi/\∀(Z:List D) (σ:L2.St) (H P:Hp) (F:List au) (ds:List D) (R:It->Hp->Prop),StE X.K M Z σ H P F->f Z=cz (.list ds)->
  (∀a xs H1,Same H H1->(∀H2,Same (cut H1 F) H2->SqL X.K H2 a xs)->DenAll X.K (cut H1 F) xs ds->R (Ite X.K a) H1)->wi σ H R
def b6Q(hm:X.mg "enumerate"=pz)(h:PX X M a fa ca)(hc:frozen ca:=by trivial)(hg:Gl X "enumerate":=by rfl)(he:ax [a] X.env=[(false,cU a X.env)]:=by rfl)(mZ:ax [a] X.env=(false,cU a X.env)::ax [] X.env:=by rfl) :
  b5x X M (.Tuple elts kk fM) (.Call (.Name "enumerate" p) [a] [] pos) fa:=by
 obtain⟨t,p,q⟩:=h.out;refine⟨_,b0N hg hm (p6 p A6 mZ) he,λZ σ H P F ds R S hf k=>?_⟩;refine q Z σ H P F _ _ S hf λv H1 e1 r1=>?_
 obtain⟨aa,xs,rfl,k1,k2⟩:=(O4 hc r1).list_inv;exact⟨aa,xs,rfl,(I9 k1 j5).l,k _ xs H1 e1 (λH2 e2=>(I9 k1 e2).l) k2⟩
def a8J{Z ps:List D}(h:iI f Z=cz ps):f Z=cz ps:=by
 obtain⟨ds,h1,g1⟩:=bnd h;by_cases c:f8 ds=true
 ·have:(if f8 ds=true then cz ds else pz)=cz ps:=g1;rw[aL c]at this;rw[h1,this]
 ·have:(if f8 ds=true then cz ds else pz)=cz ps:=g1;rw[aS c]at this;cases this
def b0O{set:List D->D->Option (List D)}{m:D->Prop}(hc:X.calm=true)(hp:oZ (aV X.prog X.w) X.A X.env X.xe)(hi:b5x X M tg iter fa)(hg:PG X tg gt)(hs:a8y X.K M MB gt set m)(hm:∀Z ds,fi Z=cz ds->∀d∈ds,m d)(AX:∀{Z ps},fi Z=cz ps->iEn fa Z=cz ps)(hb:PSsX X u M MB body g M)
  (hf:∀x,dM iter X.env x=pure x:=by intro _;rfl):PSX X u ML M (.For tg iter body [] pos) (r8 fi set g) M:=by
 obtain⟨wi,pi,qi⟩:=hi;obtain⟨tb,pb,qb⟩:=hb.out;refine .mk ⟨_,a7Z hp hc pi hg pb hf,λD Z σ H P F o S mY k=>?_⟩;obtain⟨ps,h1,g1⟩:=bnd mY;obtain⟨d0,h2,g2⟩:=bnd (AX h1);obtain⟨ds,h3,g3⟩:=bnd g2;cases N2 h3
 have uJ:J9 ds 0=ps:=aK g3;refine qi Z σ H P F ds _ S.toE h2 λa xs H1 e1 oN hx=>?_
 have S1:=S.grow e1;have rN:=hx.length;have fB:ps.length=ds.length:=by rw[<-uJ,a1l]
 refine⟨λi n σ' H'=>n=xs.length-i/\i<=xs.length/\∃Z' F',StR X.K M Z' σ' H' (cut H1 F) F'/\D9 set g (ps.drop i) Z'=cz o,⟨xs.length,by simp,cW _,Z,F,⟨S1.all,S1.lst,Same.refl _⟩,g1⟩,?_⟩;rintro i n σ' H' ⟨rfl,hi,Z',F',S',hfl⟩;have lg:Same (cut H1 F) (cut H' F'):=S'.prot;have q:=oN H' (lg.trans j5);by_cases gK:i<xs.length
 ·refine .inr ⟨⟨xs,xs[i],q,ah gK⟩,λσ2 H2=>∃Z2 F2,StR X.K M Z2 σ2 H2 (cut H1 F) F2/\D9 set g (ps.drop (i+1)) Z2=cz o,λσ2 H2 ⟨Z2,F2,S2,h2⟩=>⟨xs.length-(i+1),by lia,rfl,gK,Z2,F2,S2,h2⟩,λx H2 hy=>?_⟩;obtain⟨T,y,hT,rfl,rfl,zT⟩:=hy;have nM:=zT xs q;have kY:i<ps.length:=by lia
  have jJ:ps.drop i=ps[i]::ps.drop (i+1):=cI kY;rw[jJ]at hfl;obtain⟨Z1,uF,g4⟩:=bnd (show (set Z' ps[i]).bind _=cz o from hfl);obtain⟨o1,hg1,g5⟩:=bnd g4;obtain⟨d',m_,qT⟩:=(hx.up lg).getV nM;have nB:ps[i]=.tuple [.int (i:Nat),d']:=by
   have:=a1m ds 0 i d' m_;rw[uJ,ah kY,Nat.zero_add]at this;exact aK this
  have pM:Same H' (upd H' T (.tup [.int i,y])):=q9 hT _;have S2:=S'.grow pM;have wM:T∉F':=λz=>by
   obtain⟨ys,e⟩:=S'.lst T z;rw[hT]at e;cases e
  have wD:Den X.K (cut (upd H' T (.tup [.int i,y])) F') (.ref T) (.tuple [.int (i:Nat),d']):=by
   have Bj:Same (cut H' F') (cut (upd H' T (.tup [.int i,y])) F'):=D7 pM;have hd2:=qT.up Bj;have uS:cut (upd H' T (.tup [.int i,y])) F' T=cz (.tup [.int i,y]):=l0 wM j8;simp only[Den];exact⟨T,[.int i,y],rfl,SqT.of uS,denAll_cons den_int (denAll_cons hd2 denAll_nil)⟩
  rw[nB]at uF;refine hs Z' σ' _ (cut H1 F) F' (.ref T) _ Z1 _ S2 wD (hm Z ps h1 _ (by rw[<-nB];exact cF kY)) uF λσ3 F3 S3=>qb _ Z1 σ3 _ (cut H1 F) F3 o1 S3 hg1 ?_
  cases o1 with
  |nx Z2=>exact λσ4 H4 F4 S4=>⟨Z2,F4,S4,g5⟩
  |ct Z2=>exact λσ4 H4 F4 S4=>⟨Z2,F4,S4,g5⟩
  |bk Z2=>
   have:o=.nx Z2:=(aK g5).symm;subst this;exact λσ4 H4 F4 S4=>k σ4 H4 F4 ⟨S4.all,S4.lst,S1.prot.trans S4.prot⟩
  |rt d=>
   have:o=.rt d:=(aK g5).symm;subst this;refine λv H4 fp o nd fr e=>k v H4 fp o nd (λa ha=>?_) (S1.prot.trans e)
   exact S1.prot.free (fr a ha)
 ·have e:i=xs.length:=by lia
  subst e;rw[rN,<-fB,gx]at hfl;have:o=.nx Z':=(aK hfl).symm;subst this;exact .inl ⟨⟨xs,q,aG _⟩,k σ' H' F' ⟨S'.all,S'.lst,S1.prot.trans S'.prot⟩⟩
end
def insI(n:Int):List Int->List Int
 |[]=>[n]
 |m::ms=>if n<=m then n::m::ms else m::insI n ms
def srt:List Int->List Int
 |[]=>[]
 |n::ns=>insI n (srt ns)
theorem vals_ints:∀{vs:List ag} {ns:List Int},uk vs ns->Vals (ns.map V.int) vs
 |_,_,.nil=>.nil
 |_,_,.cons n t r=>.cons ⟨t,rfl⟩ (vals_ints r)
theorem a2A:∀{ns:List Int} {vs:List ag},Vals (ns.map V.int) vs->uk vs ns
 |[],vs,h=>by
  have h':Vals [] vs:=h;cases h'
  exact .nil
 |n::ns,vs,h=>by
  have h':Vals (V.int n::ns.map V.int) vs:=h;cases h' with
  |cons r rr=>
   obtain⟨t,rfl⟩:=r;exact .cons n t (a2A rr)
theorem b5y:∀ns:List Int,f8 (ns.map aX)=true
 |[]=>by simp only[cY,f8]
 |n::ns=>by simp only[aA,f8,imm,b5y ns,eG]
def dis(ns:List Int):List Int:=PyProof.Rows.firstMet (λi=>ns.getD i 0) ns.length
noncomputable def eD1(kt:Bool)(fk fv:EvE):EvE:=λZ=>(fk Z).bind λk=>(fv Z).bind λd=>if A1 kt k then cz (.dict [(k,d)]) else pz
section
variable {X:Cx}{M:List Md}{k v:Expr}{fk fv:EvE}{ck:Cat}{kt:Bool}{u:Ty}{pos:eH}
def a7k(hu:X.A.units+64<eh)(hk:PE X k tk)(hv:PE X v tv):PE X (.Dict [cz k] [v] pos) (λσ H Q=>∀p,H p=pz->tk σ (upd H p (j0 p [])) λkv H1=>tv σ H1 λvv H2=>∃kt kd,H2 p=cz (j0 p [])/\KeysAt X H2 kt [] kd kv/\Q (.ref p) (upd H2 p (j0 p [(kd,kv,vv)]))):=by
 intro pins s σ H Q I h;have I1:=I.laid (a:=s.heap.objs.size) (o:=j0 s.heap.objs.size []) (t':=s.toks) (λ_ _ q=>aP _ q) (aG _) (a7d s.heap I.sysBelow);rw[arm_eval_Dict,zip_pairTrees [cz k] [v] X.env pos rfl rfl,dictDisplay_pairs (pairTrees [cz k] [v] X.env pos) (by simp[pairTrees]) (by rw[pairTrees_length _ _ _ _ rfl rfl];simp)];refine af (mo (af ?_));unfold subDict;refine af (wpAny_alloc ?_);refine af (cK ?_);rw[aL (by rw[pairTrees_length _ _ _ _ rfl rfl];simp)];refine af ?_;refine pairTrees_cons_walk (L2.thn (hk pins _ σ _ _ I1 (h _ (I.hok.fresh (aG _)))) λkv s2 ⟨x,H1,I2,rx,q⟩=>L2.thn (hv pins s2 σ H1 _ I2 q) λvv s3 ⟨y,H2,I3,ry,kt,kd,e,K,q4⟩=>?_);refine pairTrees_nil_walk ?_;refine cK ?_;refine af ?_;rw[nu];refine af (af (set_dict I3 (by lia) e K rx ry (by rw[dD];decide) λs' I'=>aE ?_));show be _ _ (forIn ([]:List (ag×ag)) PUnit.unit _) _ _ _;rw[om];exact aE (aE (aE (aE ⟨.ref _,_,I',rfl,q4⟩)))
def a1n(hu:X.A.units+64<eh)(hk:PX X M k fk ck)(hv:PX X M v fv (.new u)):PX X M (.Dict [cz k] [v] pos) (eD1 kt fk fv) (.new (.d kt u)):=by
 obtain⟨tk,pk,qk⟩:=hk.out;obtain⟨tv,pv,qv⟩:=hv.out;refine .mk ⟨_,a7k hu pk pv,λZ σ H P F d Q S hf q=>?_⟩;obtain⟨kd,h1,g1⟩:=bnd hf;obtain⟨vd,h2,g2⟩:=bnd g1;by_cases c:A1 kt kd=true
 ·rw[aL c]at g2;cases g2
  intro p hp;have s0:=q9 hp (j0 p []);have S0:StE X.K M Z σ (upd H p (j0 p [])) P ([p]++F):=S.more s0 (λa ha=>by rw[ay.mp ha];exact hp) λa ha=>by rw[ay.mp ha];exact⟨⟨j0 p [],trivial⟩,j8⟩
  refine qk Z σ _ P ([p]++F) kd _ S0 h1 λkv H1 s1 r1=>qv Z σ H1 P ([p]++F) vd _ (S0.grow s1) h2 λvv H2 s2 ⟨fp,o,hn,kB⟩=>?_
  have l_:H2 p=cz (j0 p []):=(s1.trans s2) _ _ j8;have sR:∀a∈fp,a≠p:=λa ha z=>by
   have:=kB a ha;rw[z,s1 _ _ j8]at this;cases this
  have hF:∀a∈(p::fp)++F,∃ys:MuO,upd H2 p (j0 p [(kd,kv,vv)]) a=cz ys.1:=λa ha=>by
   by_cases e:a=p
   ·subst e;exact⟨⟨j0 a _,trivial⟩,j8⟩
   ·rw[g7 e];rcases ar.mp ha with z|z
    ·rcases aF.mp z with z|z
     ·exact absurd z e
     ·exact o.lst u a z
    ·exact ((S0.grow s1).grow s2).lst a (aq _ z)
  have hc:Same (cut H2 (fp++([p]++F))) (cut (upd H2 p (j0 p [(kd,kv,vv)])) ((p::fp)++F)):=λa x hx=>by
   obtain⟨n1,n2⟩:=t5 hx;have yA:a≠p:=λz=>n1 (by rw[z];simp)
   refine l0 (λz=>n1 ?_) (by rw[g7 yA];exact n2);rcases ar.mp z with z|z
   ·rcases aF.mp z with z|z
    ·exact absurd z yA
    ·exact aw _ z
   ·exact aq _ (aq _ z)
  refine⟨kt,kd,l_,⟨(λe he=>nomatch he),K9 c,r1.den.up s2⟩,q _ _ (λa x hx=>?_) ⟨p::fp,?_,?_,λa ha=>?_⟩⟩
  ·rw[g7 (λz=>by rw[z,hp]at hx;cases hx)];exact (s0.trans (s1.trans s2)) _ _ hx
  ·simp only[Own];refine⟨p,[(kd,kv,vv)],[vd],fp++[],rfl,j8,rfl,by rw[bg],⟨by simp,λe he=>?_⟩,n4 (o.frame hc u λa ha=>g7 (sR a ha)) p7⟩;rw[ay.mp he];refine⟨K9 c,Den.imm_out hF kd (Q3 _ (K9 c).1) ?_⟩;have dk:=r1.den.up s2;exact (Den.imm_out (F:=[p]) (λa ha=>by rw[ay.mp ha];exact⟨⟨j0 p [],trivial⟩,l_⟩) kd (Q3 _ (K9 c).1) dk).up λa x hx=>by
    obtain⟨n1,n2⟩:=t5 hx;rw[g7 (λz=>n1 (by rw[z];simp))];exact n2
  ·exact cf.mpr ⟨λz=>sR p z rfl,hn⟩
  ·rcases aF.mp ha with z|z
   ·rw[z];exact hp
   ·exact s0.free (s1.free (kB a z))
 ·rw[aS c]at g2;cases g2
end
theorem a6n:∀{xs:List V} {us:List ag},xs.length=us.length->(∀(i:Nat) (x:V) (u:ag),xs[i]?=cz x->us[i]?=cz u->RelV x u)->Vals xs us
 |[],[],_,_=>.nil
 |[],_::_,h,_=>by simp at h
 |_::_,[],h,_=>by simp at h
 |x::xs,u::us,hl,h=>.cons (h 0 x u rfl rfl) (a6n (by simpa using hl) λi x u h1 h2=>h (i+1) x u (by simpa using h1) (by simpa using h2))
noncomputable def spO(K:ae)(m:List D->Option D)(w u:Ty):Sp:=λvs H Q _=>∃v0 d0 vl dl d lr,vs=[v0,vl]/\Den K (cut H lr) v0 d0/\Own K H lr w vl dl lr/\lr.Nodup/\m [d0,dl]=cz d/\∀v H' fp,Same (cut H lr) H'->Own K H' fp u v d fp->fp.Nodup->(∀a∈fp,cut H lr a=pz)->Q v H'
noncomputable def fnO(n:Nat)(g:EvS):List D->Option D:=λds=>match ds with
 |[d0,dl]=>(g (d0::dl::aB n .none)).bind λo=>match o with
  |.rt d=>cz d
  |_=>pz
 |_=>pz
theorem a1o:∀n,StAll K H F (aB n .dead) (aB n .none) (aB n pz) []
 |0=>G0
 |n+1=>by
  have:=j7 (m:=.dead) (d:=.none) (o:=pz) (f:=[]) (K:=K) (H:=H) (F:=F) rfl (a1o n);simpa[fO]using this
open PyProof.Rows in
def a8K{P:bo}{w:bJ}{K:ae}{mg:br->Option ag}{base:b_}{x:br}{st:fH}{f:au}{fd:c_}{N ps:List br}{k n:Nat}{wt u:Ty}{g:EvS}{M':List Md}(F:Fun K x x st f fd)(S:FnScope N ps (g8 st))(uJ:ps.length=2)(hn:N.length=2+n)
  (hb:∀(eP:ag) (A:bH) (outer:List kZ) (s:aj) (H:Hp) (E:XK),Room k (A.deeper (gL x (g8 st) s.heap.objs.size f eP))->PSsX (P7 CX0 P w K mg base N x (g8 st) f eP A outer s H E).nox u [] (.own .f::.own wt::aB n .dead) (t7 st) g M') :
  FnOk P w K mg base CX0 (k+1) f fd ps (spO K (fnO n g) wt u):=by
 refine F.ok S (λvs H Q E h=>?_) (λeP A outer s H vs Q E hr h=>?_)
 ·obtain⟨v0,d0,vl,dl,d,lr,rfl,_⟩:=h;exact uJ.symm
 obtain⟨v0,d0,vl,dl,d,lr,rfl,hd,ho,kA,hm,q⟩:=h;obtain⟨t,p,r⟩:=(hb eP A outer s H E hr).out;refine⟨t,p,?_⟩;obtain⟨o,h1,h2⟩:=bnd (show (g (d0::dl::aB n .none)).bind _=cz d from hm);cases o with
 |rt d'=>
  have jy:cz d'=cz d:=h2;cases jy
  have e:L2.start N [v0,vl]=cz v0::cz vl::aB n pz:=by
   unfold L2.start;rw[show N.length-[v0,vl].length=n by simp;lia];rfl
  rw[e];have jf:StAll K H lr (.own .f::.own wt::aB n .dead) (d0::dl::aB n .none) (cz v0::cz vl::aB n pz) ([]++(lr++[])):=by
   refine j7 (m:=.own .f) ⟨v0,rfl,?_⟩ (j7 (m:=.own wt) ⟨vl,rfl,ho⟩ (a1o n));simp only[Own];exact⟨trivial,hd⟩
  refine r _ _ _ H (cut H lr) lr (.rt d) ⟨⟨_,jf,by simpa using kA,λa ha=>by simpa using ha⟩,ho.lst wt,Same.refl _⟩ h1 ?_;exact λv H' fp o nd fr e=>q v H' fp e o nd fr
 |_=>cases h2
section
variable {X:Cx}{M:List Md}{e0 el:Expr}{f0 fl:EvE}{c0:Cat}{wt u:Ty}{x:br}{p pos:eH}
noncomputable def b0P(m:List D->Option D)(f0 fl:EvE):EvE:=λZ=>(f0 Z).bind λa=>(fl Z).bind λb=>m [a,b]
def a8L(W:Has X.prog X.w X.K X.mg X.base x k ps (spO X.K m wt u))(hr:Room k X.A)(h0:PX X M e0 f0 c0)(hl:PX X M el fl (.new wt))(hu:u.shut=true:=by rfl)(hw:wt.shut=true:=by rfl)
  (hg:Gl X x:=by rfl) (jt:(x==("__debug__":br))=false:=by decide) (he:ax [e0,el] X.env=(false,cU e0 X.env)::ax [el] X.env:=by rfl) (tH:ax [el] X.env=(false,cU el X.env)::ax [] X.env:=by rfl) (fB:(dj pos (ax [el] X.env)).any (·.1)=false:=by rfl) :
  PX X M (.Call (.Name x p) [e0,el] [] pos) (b0P m f0 fl) (.new u):=by
 obtain⟨t0,p0,q0⟩:=h0.out;obtain⟨tl,pl,ql⟩:=hl.out;refine .mk ⟨_,a8f W hr (p6 p0 (p6 pl A6 tH) he) hg jt he fB,λZ σ H P F d Q S hf q=>?_⟩;obtain⟨a,h1,g1⟩:=bnd hf;obtain⟨b,h2,g2⟩:=bnd g1;refine q0 Z σ H P F a _ S h1 λv0 H1 s1 r0=>ql Z σ H1 P F b _ (S.grow s1) h2 λvl H2 s2 ⟨lr,o,nd,fr⟩=>?_
 show spO X.K m wt u ([v0,vl]++[]) H2 Q E0;rw[bg];have kB:∀z∈lr,H z=pz:=λz hz=>s1.free (fr z hz)
 have gA:Same H1 (cut H2 lr):=λz oz hz=>l0 (λy=>by rw[fr z y]at hz;cases hz) (s2 _ _ hz)
 refine⟨v0,a,vl,b,d,lr,rfl,r0.den.up gA,o.shut_out (o.lst wt) wt hw,nd,g2,λv H' fp e ov zL BK=>?_⟩;have hS:Same H H':=λz oz hz=>e _ _ (gA _ _ (s1 _ _ hz))
 refine q v H' hS ⟨fp,ov.shut_out (λz hz=>?_) u hu,zL,λz hz=>?_⟩
 ·rcases ar.mp hz with y|y
  ·exact ov.lst u z y
  ·obtain⟨ys,w⟩:=S.lst z y;exact⟨ys,hS _ _ w⟩
 ·have:=BK z hz;by_cases c:z∈lr
  ·exact kB z c
  ·rw[S9 c]at this;exact s1.free (s2.free this)
end
def keysOk(kt:Bool)(kvs:List (D×D)):Bool:=kvs.all λp=>A1 kt p.1
def a5k(kt:Bool):D->D->Option D
 |.dict kvs,k=>if A1 kt k&&keysOk kt kvs then P3 kvs k else pz
 |_,_=>pz
def a7l{kvs:List (D×D)}{es:List (D×V×V)}(h:es.map (·.1)=kvs.map (·.1)):L5 kvs k=C8 es k:=by
 have e1:L5 kvs k=(kvs.map (·.1)).any λx=>aM x k:=by unfold L5;rw[List.any_map];rfl
 have e2:C8 es k=(es.map (·.1)).any λx=>aM x k:=by unfold C8;rw[List.any_map];rfl
 rw[e1,e2,h]
def b5z{X:Cx}(h:DenKV X.K H es kvs)(ho:keysOk kt kvs=true)(hk:A1 kt k=true)(hd:Den X.K H kv k):KeysAt X H kt es k kv:=by
 refine⟨λe he=>⟨?_,h.kden e he⟩,K9 hk,hd⟩;have hm:e.1∈kvs.map (·.1):=by rw[<-h.keys];exact di he
 obtain⟨p,hp,e1⟩:=bj.mp hm;rw[<-e1];exact K9 (cZ.mp ho p hp)
section
variable {X:Cx}{M:List Md}{a b:Expr}{fa fb:EvE}{ca cb:Cat}{kt:Bool}{pos:eH}
def b3w{es:List (D×V×V)}(hn:(es.map (·.1)).Nodup)(hk:∀e∈es,aM e.1 k=true↔e.1=k)(h:DenKV K H es kvs)(he:e∈es)(f_:e.1=k):∃d,P3 kvs k=cz d/\Den K H e.2.2 d:=by
 obtain⟨j,hj⟩:=cO.mp he;have hl:kvs.length=es.length:=by have:=fE ir h.keys;simpa using this.symm
 have hz:kvs=(es.map (·.1)).zip (kvs.map (·.2)):=by
  rw[h.keys,List.zip_map',List.map_id'' (λp=>rfl)]
 obtain⟨p,hp⟩:∃p,kvs[j]?=cz p:=⟨_,ah (by rw[hl];exact (aT.mp hj).1)⟩;have hd:(kvs.map (·.2))[j]?=cz p.2:=by rw[bE,hp];rfl
 refine⟨p.2,?_,?_⟩
 ·rw[hz];exact a1k (by rw[ao];exact hl) hk hn hj f_ hd
 ·obtain⟨v,z1,z2⟩:=h.vals.get hd;rw[bE,hj]at z1;cases z1
  exact z2
def b5A(X:Cx)(td ty:TE):TE:=λσ H Q=>td σ H λx H1=>ty σ H1 λy H2=>∃a es kt k,x=.ref a/\H2 a=cz (j0 a es)/\KeysAt X H2 kt es k y/\C8 es k=true/\((es.map (·.1)).Nodup->∀e∈es,e.1=k->Q e.2.2 H2)
def b0Q(hu:X.A.units+64<eh)(ho:PE X a td)(hi:PE X b ty)(hs:a3T b):PE X (.Subscript a b pos) (b5A X td ty):=by
 intro pins s σ H Q I h;refine b5v oB.lookup hs (L2.thn (ho pins s σ H _ I h) λu s1 ⟨x,H1,I1,rx,q1⟩=>L2.thn (hi pins s1 σ H1 _ I1 q1) λiv s2 ⟨y,H2,I2,ry,p,es,kt,k,ex,hH,K,hh,q2⟩=>?_);subst ex;obtain rfl:u=bG p:=rx;have hn:=(J8 I2 hH).2.2.1;exact⟨C5 I2 hH,a1j (by lia) I2 hH K ry hh λe he f_ x s3 I3 r3=>⟨e.2.2,H2,I3,r3,q2 hn e he f_⟩⟩
def a7m(h:a5k kt d k=cz r):∃kvs,d=.dict kvs/\A1 kt k=true/\keysOk kt kvs=true/\P3 kvs k=cz r:=by
 cases d with
 |dict kvs=>
  have h':(if A1 kt k&&keysOk kt kvs then P3 kvs k else pz)=cz r:=h;by_cases c:(A1 kt k&&keysOk kt kvs)=true
  ·rw[aL c]at h';rw[aC]at c;exact⟨kvs,rfl,c.1,c.2,h'⟩
  ·rw[aS c]at h';cases h'
 |_=>cases h
def b0R(hu:X.A.units+64<eh)(ha:PX X M a fa (.new .f))(hb:PX X M b fb cb)(hs:a3T b:=by exact λ_ _=>rfl):PX X M (.Subscript a b pos) (e2 (a5k kt) fa fb) (.new .f):=by
 obtain⟨ta,pa,qa⟩:=ha.out;obtain⟨tb,pb,qb⟩:=hb.out;refine .mk ⟨_,b0Q hu pa pb hs,λZ σ H P F d Q S hf q=>?_⟩;obtain⟨x,y,h1,h2,h3⟩:=F7 hf;obtain⟨kvs,rfl,hk,hok,hg⟩:=a7m h3;refine qa Z σ H P F _ _ S h1 λv H1 e1 ⟨fp,o,nd,fr⟩=>qb Z σ H1 P F y _ (S.grow e1) h2 λw H2 e2 r2=>?_
 simp only[Own]at o;obtain⟨rfl,o⟩:=o;have o2:Den X.K (cut H2 F) v (.dict kvs):=o.up (J0 e2 λa o ha jh=>by simpa using jh);obtain⟨p,es,rfl,hH,dk⟩:=o2.dict_inv;have BW:DenKV X.K H2 es kvs:=DenKV.mono j5 kvs dk;have KK:=b5z BW hok hk r2.den;refine⟨p,es,kt,y,rfl,j5 _ _ hH,KK,by rw[<-a7l dk.keys];exact a3V hg,λhn e he f_=>?_⟩;obtain⟨d',g',dd⟩:=b3w hn (λe he=>KK.eqv he) dk he f_;rw[hg]at g';cases g'
 refine q _ H2 (e1.trans e2) ⟨[],?_,bW,λa ha=>(nomatch ha)⟩;simp only[Own];exact⟨trivial,dd⟩
end
def frz:Md->Md
 |.own .i=>.own .i
 |.own _=>.own .f
 |m=>m
end VS
namespace VS
open PySem PySem.Spec L2
open PyProof.Rows (KeyOrd mirror bubble getElem?_mirror_all getElem?_bubble mirror_perm bubble_perm)
open PySem.W (KasT kas_asc kas_desc kas_rev kas_tail3 kas_descPart kas_count kas_place kas_bin kas_sort)
section
variable {O:KeyOrd}{key:Nat->O.α}{N:Nat}{sh:aj}{cmp:Nat->Nat->(Bool->aj->Prop)->aj->Prop}
def kyP(key:Nat->O.α)(p:Array Nat)(i:Nat):O.α:=key (p.getD i 0)
def a7n(key:Nat->O.α)(p:Array Nat)(k:Nat):Prop:=∀i j,i<=j->j<k->O.kle (kyP key p i) (kyP key p j)
def AllN(N:Nat)(p:Array Nat):Prop:=p.toList.Perm (aW N)
theorem AllN.size(h:AllN N p):p.size=N:=by
 have:=h.length_eq;simpa using this
end
end VS
namespace PySem
open Sem (wp)
set_option maxRecDepth 100000
def Heap.RawDict(hp:b_)(d:au)(rows:Array fX)(ep:Nat):Prop:=∃u,hp.get? d=cz u/\u.ExactDict/\u.data=.dict rows ep
section
variable {prog:bo}{w:bJ}{A:bH}{E:ag->aj->Prop}{sh:aj}{d it:au}{rows:Array fX}{ep i:Nat}
def Heap.RawDict.at{h h':b_}(x:h.RawDict d rows ep)(e:∀o,h.get? d=cz o->h'.get? d=cz o):h'.RawDict d rows ep:=let⟨u,hu,r⟩:=x;⟨u,e _ hu,r⟩
def Heap.RawDict.typeIs(x:sh.heap.RawDict d rows ep):sh.TypeIs (.ref d) "dict":=let⟨u,hu,r,_⟩:=x;⟨u,hu,r.1⟩
def a3Y(h0:(d==eB)=false)(hm:sh.heap.RawDict d rows ep)
  (q:Q (.ref sh.heap.objs.size) {sh with heap:=sh.heap.push {cls:=.type "dict_keyiterator",data:=.fields #[.ref d,.int 0 0,.int rows.size 0,.int ep 0]}}) :
  be (aV prog w) A (pyIter (.ref d)) Q E sh:=by
 obtain⟨u,hu,hx,tN⟩:=id hm;refine wpAny_pyIter_slot hm.typeIs F.slot_dict_iter (et F.slot_dict_iter hm.typeIs F.entry_dict_iter ?_ (F.args_dict_iter_1 _));unfold Builtin.«dict.__iter__»;refine af ?_;unfold Builtin.Dict.dictSlotNone;refine af (Co hm.typeIs ?_);show be _ _ (pure (bG d)) _ _ sh;refine aE ?_;show be _ _ (Dt d >>= _) _ _ sh;unfold Dt;rw[aS (by rw[h0];exact bU)];refine af (aE (af (jc hu tN (af (pX hu tN ?_)))));refine af (gz (aE ⟨_,rfl,"dict_keyiterator",_,⟨_,bz _ rfl,rfl⟩,dP.lookup,?_⟩));simpa[gQ]using q
def a3Z(hI:sh.heap.IsKeyIter it d i rows.size ep)(hm:sh.heap.RawDict d rows ep)(hi:i<rows.size)
  (q:∀h',h'.IsKeyIter it d (i+1) rows.size ep->iB it sh.heap h'->Q (cz rows[i].key) {sh with heap:=h'}):be (aV prog w) A (si (.ref it)) Q E sh:=by
 obtain⟨x,hx,xV,qu⟩:=id hI;obtain⟨u,hu,_,sL⟩:=id hm;unfold si;refine af (jr (gk (name:=kl "__next__") hI.typeIs dP (et dP hI.typeIs pV ?_ (pA _))));refine af (aE (af (af ?_)))
 first|refine af (fm hI.typeIs (aE ?_))|refine af (gc hI.typeIs (aE ?_))
 refine af (wpAny_fieldsOf hx qu ?_);simp only[show rH "dict_keyiterator"=false from by decide,bR,dq];show be _ _ (if (bG d==ba)=true then _ else _) _ _ sh;rw[aS (show ¬ (bG d==ba)=true from bU)];refine af (aE (af (jc hu sL ?_)));rw[aS (by simp)];refine af (aE (af (pX hu sL ?_)));rw[aS (by simp)];refine aE ?_;simp only[show ¬ (i:Int)<0 from by lia,dq,bF,bp hi];refine af ?_
 first|refine af (fm hI.typeIs (aE ?_))|refine af (gc hI.typeIs (aE ?_))
 refine af (Cp hI.typeIs ?_);show be _ _ (setField (.ref it) 1 (gQ ((i:Int)+1)) >>= _) _ _ sh;refine af (wpAny_setField hx qu (by simp) ?_);have yE:(sh.heap.update it (eW.mapFields (·.setIfInBounds 1 (gQ ((i:Int)+1))))).IsKeyIter it d (i+1) rows.size ep:=
  ⟨_,eE _ hx (eW.isFreed_of_fields (eW.data_mapFields qu _)),(eW.cls_mapFields ..).trans xV,by rw[eW.data_mapFields qu];simp[gQ]⟩
 refine af (cK ?_);refine af (Cp (s:={sh with heap:=sh.heap.update it (eW.mapFields (·.setIfInBounds 1 (gQ ((i:Int)+1))))}) yE.typeIs ?_);show be _ _ (pure rows[i].key) _ _ _;exact aE (aE ⟨_,rfl,aE (q _ yE (iy ..))⟩)
def a4a(hh:A.handled=pz)(hI:sh.heap.IsKeyIter it d i rows.size ep)(hm:sh.heap.RawDict d rows ep)(hi:rows.size<=i)
  (q:∀h',b_.ExtBut it sh.heap h'->Q pz {sh with heap:=h'}):be (aV prog w) A (si (.ref it)) Q E sh:=by
 obtain⟨x,hx,xV,qu⟩:=id hI;obtain⟨u,hu,_,sL⟩:=id hm;unfold si;refine af (jr (gk (name:=kl "__next__") hI.typeIs dP (et dP hI.typeIs pV ?_ (pA _))));refine af (aE (af (af ?_)))
 first|refine af (fm hI.typeIs (aE ?_))|refine af (gc hI.typeIs (aE ?_))
 refine af (wpAny_fieldsOf hx qu ?_);simp only[show rH "dict_keyiterator"=false from by decide,bR,dq];show be _ _ (if (bG d==ba)=true then _ else _) _ _ sh;rw[aS (show ¬ (bG d==ba)=true from bU)];refine af (aE (af (jc hu sL ?_)));rw[aS (by simp)];refine af (aE (af (pX hu sL ?_)));rw[aS (by simp)];refine aE ?_;simp only[show ¬ (i:Int)<0 from by lia,dq,bF,dh hi];refine af ?_
 first|refine af (fm hI.typeIs (aE ?_))|refine af (gc hI.typeIs (aE ?_))
 show be _ _ (setField (.ref it) 0 .none >>= _) _ _ sh;refine af (wpAny_setField hx qu (by simp) ?_);show be _ _ (newExc (.type "StopIteration") [] >>= _) _ _ _;refine af ?_;simp only[newExc,newTuple];refine af (gz ?_ (by size_fits));refine af (m:=firstArgMember _ _) (wpAny_of_eq (a:=ba) (by first|rfl|(simp only[firstArgMember];rfl)) ?_);refine gz ?_ (by size_fits);simp only[raiseNew];refine af (wpAny_handled ?_);rw[show A.in1.handled=pz from hh];refine af (aE (wpAny_throw ?_));refine af (wpAny_isInstance (b:=true) (T:="StopIteration") ⟨_,bz _ rfl,rfl⟩ isSubtype_stop ?_);exact aE (q _ (((iy ..).extBut.push _).push _))
def a7o(hh:A.handled=pz)(gU:d≠it):Walks prog w A it [it,d] [it] rows.size (λi v=>∃e,rows[i]?=cz e/\v=e.key) (λi h=>h.IsKeyIter it d i rows.size ep/\h.RawDict d rows ep) where
 sub:=λb hb=>aF.mpr (.inl (ay.mp hb))
 frame:=λ_ _ _ st hk=>⟨st.1.at λo e=>hk it aD o e,st.2.at λo e=>hk d (av _ aD) o e⟩
 item:=λi s Q E hi st q=>a3Z st.1 st.2 hi λh' hI hs=>q _ h' s.toks ⟨rows[i],bp hi,rfl⟩ ⟨hI,st.2.at λo e=>hs.extBut d o gU e⟩ λb o hb e=>hs.extBut b o (λz=>hb (by rw[z];exact ay.mpr rfl)) e
 done:=λs Q E st q=>a4a hh st.1 st.2 (aG _) λh' he=>q h' s.toks λb o hb e=>he b o (λz=>hb (by rw[z];exact ay.mpr rfl)) e
 self:=λ_ _ _ _ st q=>wpAny_pyIter_keyiter st.1 q
def b0S(h0:(d==eB)=false):W.KdlSrc prog w "dict" d d rows.size (λi v=>∃e,rows[i]?=cz e/\v=e.key) (λh=>h.RawDict d rows ep) where
 type:=λ_ hm=>hm.typeIs
 there:=λh hm=>let⟨_,hu,_⟩:=hm;⟨aN hu,aN hu⟩
 keep:=λ_ _ hm hk=>hm.at λo e=>hk d (.inl rfl) o e
 notList:=by decide
 notTuple:=by decide
 hint:=λ_ _ s _ hm q=>W.kdl_hint_dict (Heap.RawDict.typeIs (sh:=s) hm) q
 iter:=λ_ _ hh hm=>⟨_,_,(λ_ _ q=>a3Y h0 hm q),a7o hh (let⟨_,hu,_⟩:=hm;bP (aN hu)),⟨⟨_,bz _ rfl,rfl,rfl⟩,hm.at λ_ e=>aP _ e⟩⟩
end
end PySem
namespace VS
open PySem PyProof.Rows
def a3h:Bool->bC->Array bC->Nat->Nat->Nat->StateT cG xo (Option Nat):=sortPriv% PySem.Builtin.gallop
structure CmpS (prog:bo) (w:bJ) (A:bH) (s:aj) (κ:dz) (O:KeyOrd) (ky:bC->O.α) (S:bC->Prop):Prop where
 lt:∀x y:bC,S x->S y->∀C:Bool->aj->Prop,C (O.blt (ky x) (ky y)) s->be (aV prog w) A (keyLt' κ x.1 y.1) C (λ_ _=>False) s
section
variable {prog:bo}{w:bJ}{A:bH}{E:ag->aj->Prop}{s:aj}{κ:dz}{O:KeyOrd}{ky:bC->O.α}{S:bC->Prop}{st:cG}
def a1p(H:CmpS prog w A s κ O ky S)(hk:kindOf st=κ)(hx:S x)(hy:S y)(h:Q (cz (O.blt (ky x) (ky y))) st):pW (aV prog w) A E s (lt' x y) Q st:=by
 rw[lt'_eq];refine aJ (kJ ?_);rw[hk];refine aJ (wpS_lift (jr ?_));refine cM (H.lt x y hx hy (λb s'=>b=O.blt (ky x) (ky y)/\s'=s) ⟨rfl,rfl⟩) (λb s' hb=>?_) λ_ _ e=>e.elim
 obtain⟨rfl,rfl⟩:=hb;exact⟨rfl,aQ h⟩
def m5{arr:Array bC}(hi:i<arr.size)(h:Q arr[i] st):pW (aV prog w) A E s (elem' arr i) Q st:=by
 rw[elem'_eq,bp hi];exact aQ h
end
section
variable {prog:bo}{w:bJ}{A:bH}{E:ag->aj->Prop}{s:aj}{κ:dz}{O:KeyOrd}{ky:bC->O.α}{S:bC->Prop}{st:cG}
def a8M(ky:bC->O.α)(S:bC->Prop)(arr:Array bC)(base n:Nat)(ka:Nat->O.α):Prop:=∀i,i<n->∃h:base+i<arr.size,ky arr[base+i]=ka i/\S arr[base+i]
def prG(left:Bool)(k:O.α)(ka:Nat->O.α)(i:Nat):Bool:=if left then O.blt (ka i) k else !O.blt k (ka i)
def K0(H:CmpS prog w A s κ O ky S)(hk:kindOf st=κ)(P:a8M ky S arr base n ka)(hS:S key)(hi:i<n)(h:Q (cz (prG left (ky key) ka i)) st) :
  pW (aV prog w) A E s (do let x <-elem' arr (base+i);if left then lt' x key else return (<-lt' key x).map (!·)) Q st:=by
 obtain⟨hb,e,hs⟩:=P i hi;refine aJ (m5 hb ?_);unfold prG at h;cases left with
 |true=>exact a1p H hk hs hS (by rw[e];exact h)
 |false=>exact aJ (a1p H hk hS hs (aQ (by rw[e];exact h)))
def a1q(H:CmpS prog w A s κ O ky S)(hk:kindOf st=κ)(P:a8M ky S arr base n ka)(hS:S key)(hh:hint<n)(mono:∀i j,i<=j->j<n->prG left (ky key) ka j=true->prG left (ky key) ka i=true) 
  (q:∀k,k<=n->(∀i,i<k->prG left (ky key) ka i=true)->(∀i,k<=i->i<n->prG left (ky key) ka i=false)->Q (cz k) st):pW (aV prog w) A E s (a3h left key arr base n hint) Q st:=by
 have rm:∀i j,i<=j->j<n->prG left (ky key) ka i=false->prG left (ky key) ka j=false:=λi j gy hj hi=>by
  cases c:prG left (ky key) ka j with
  |false=>rfl
  |true=>rw[mono i j gy hj c]at hi;cases hi
 refine aJ (K0 H hk P hS hh ?_);have uj:∀f:Nat->(Option (Option Nat)×Nat×Nat)->StateT cG xo (ForInStep (Option (Option Nat)×Nat×Nat)),
   (∀x l r (Q':ForInStep (Option (Option Nat)×Nat×Nat)->cG->Prop),l≥r->Q' (.done (pz,l,r)) st->pW (aV prog w) A E s (f x (pz,l,r)) Q' st)->
   (∀x l r (Q':ForInStep (Option (Option Nat)×Nat×Nat)->cG->Prop),¬ l≥r->l+(r-l) / 2<n->(prG left (ky key) ka (l+(r-l) / 2)=true->Q' (.yield (pz,l+(r-l) / 2+1,r)) st)->(prG left (ky key) ka (l+(r-l) / 2)=false->Q' (.yield (pz,l,l+(r-l) / 2)) st)->pW (aV prog w) A E s (f x (pz,l,r)) Q' st)->
   ∀lo hi,lo<=hi->hi<=n->(∀i,i<lo->prG left (ky key) ka i=true)->(∀i,hi<=i->i<n->prG left (ky key) ka i=false)->
   pW (aV prog w) A E s (forIn [0:n] ((pz:Option (Option Nat)),lo,hi) f) (λc cm=>cm=st/\∃r,c=(pz,r,r)/\r<=n/\(∀i,i<r->prG left (ky key) ka i=true)/\(∀i,r<=i->i<n->prG left (ky key) ka i=false)) st:=by
  intro f f1 f2 lo hi h1 h2 h3 h4;refine cS (I:=λx c cm=>cm=st/\∃l r,c=(pz,l,r)/\l<=r/\r<=n/\r-l<=n-x/\(∀i,i<l->prG left (ky key) ka i=true)/\(∀i,r<=i->i<n->prG left (ky key) ka i=false)) ?step ?fin ⟨rfl,lo,hi,rfl,h1,h2,by lia,h3,h4⟩
  case fin=>
   rintro c cm ⟨rfl,l,r,rfl,g1,g2,g3,g4,g5⟩;have:l=r:=by lia
   subst this;exact⟨rfl,l,rfl,g2,g4,g5⟩
  case step=>
   rintro x c cm _ hx ⟨rfl,l,r,rfl,g1,g2,g3,g4,g5⟩;by_cases c:l≥r
   ·have:l=r:=by lia
    subst this;exact f1 x l l _ c ⟨rfl,l,rfl,g2,g4,g5⟩
   ·refine f2 x l r _ c (by lia) (λd=>?_) λd=>?_
    ·exact⟨rfl,_,_,rfl,by lia,g2,by lia,λi hi=>mono i _ (show i<=l+(r-l) / 2 by lia) (by lia) d,g5⟩
    ·exact⟨rfl,_,_,rfl,by lia,by lia,by lia,g4,λi hi hn=>rm _ i hi hn d⟩
 dsimp only
 cases d:prG left (ky key) ka hint with
 |true=>
  rw[aL rfl];refine aJ (eD (cS (I:=λx c cm=>cm=st/\∃l o,c=(pz,l,o)/\l<o/\x+1<=o/\hint+l<n/\prG left (ky key) ka (hint+l)=true)
   (Q:=λc cm=>cm=st/\∃l o,c=(pz,l,o)/\l<o/\hint+l<n/\prG left (ky key) ka (hint+l)=true/\(hint+o<n->prG left (ky key) ka (hint+o)=false)) ?step ?fin ⟨rfl,0,1,rfl,by lia,by lia,by lia,d⟩) ?post)
  case fin=>
   rintro c cm ⟨rfl,l,o,rfl,g1,g2,g3,g4⟩;exact⟨rfl,l,o,rfl,g1,g3,g4,λz=>by lia⟩
  case post=>
   rintro c cm ⟨rfl,l,o,rfl,g1,g2,g3,g4⟩
   dsimp only
   refine aJ (eD (uj _ (λx l r Q' c h=>?_) (λx l r Q' c hm ht hf=>?_) (hint+l+1) (hint+min o (n-hint)) (by lia) (by lia) (λi hi=>mono i (hint+l) (by lia) g2 g3) (λi hi hn=>(dG (hint+o) n).elim (λz=>rm (hint+o) i (by lia) hn (g4 z)) λz=>by lia)) λc cm ⟨e,r,e2,r1,r2,r3⟩=>?_)
   ·dsimp only;rw[aL c];exact aQ h
   ·dsimp only
    rw[aS c];refine aJ (K0 H hk P hS hm ?_)
    dsimp only
    cases d':prG left (ky key) ka (l+(r-l) / 2) with
    |true=>rw[aL rfl];exact aQ (ht d')
    |false=>simp only[bR,dq];exact aQ (hf d')
   ·subst e e2;exact aQ (q r r1 r2 r3)
  case step=>
   rintro x c cm _ hx ⟨rfl,l,o,rfl,g1,g2,g3,g4⟩
   dsimp only
   by_cases c:o≥n-hint
   ·rw[aL c];exact aQ ⟨rfl,l,o,rfl,g1,g3,g4,λz=>by lia⟩
   ·rw[aS c];refine aJ (K0 H hk P hS (show hint+o<n by lia) ?_)
    dsimp only
    cases e:prG left (ky key) ka (hint+o) with
    |true=>
     simp only[e_,bR,dq];exact aQ ⟨rfl,o,2*o+1,rfl,by lia,by lia,by lia,e⟩
    |false=>
     simp only[Bool.not_false,nz];exact aQ ⟨rfl,l,o,rfl,g1,g3,g4,λ_=>e⟩
 |false=>
  simp only[bR,dq];refine aJ (eD (cS (I:=λx c cm=>cm=st/\∃l o,c=(pz,l,o)/\l<o/\x+1<=o/\l<=hint/\prG left (ky key) ka (hint-l)=false)
   (Q:=λc cm=>cm=st/\∃l o,c=(pz,l,o)/\l<o/\l<=hint/\prG left (ky key) ka (hint-l)=false/\(o<=hint->prG left (ky key) ka (hint-o)=true)) ?step ?fin ⟨rfl,0,1,rfl,by lia,by lia,by lia,d⟩) ?post)
  case fin=>
   rintro c cm ⟨rfl,l,o,rfl,g1,g2,g3,g4⟩;exact⟨rfl,l,o,rfl,g1,g3,g4,λz=>by lia⟩
  case post=>
   rintro c cm ⟨rfl,l,o,rfl,g1,g2,g3,g4⟩
   dsimp only
   refine aJ (eD (uj _ (λx l r Q' c h=>?_) (λx l r Q' c hm ht hf=>?_) (hint+1-min o (hint+1)) (hint-l) (by lia) (by lia) (λi hi=>(dG hint o).elim (λz=>by lia) λz=>mono i (hint-o) (by lia) (by lia) (g4 z)) (λi hi hn=>rm (hint-l) i (by lia) hn g3)) λc cm ⟨e,r,e2,r1,r2,r3⟩=>?_)
   ·dsimp only;rw[aL c];exact aQ h
   ·dsimp only
    rw[aS c];refine aJ (K0 H hk P hS hm ?_)
    dsimp only
    cases d':prG left (ky key) ka (l+(r-l) / 2) with
    |true=>rw[aL rfl];exact aQ (ht d')
    |false=>simp only[bR,dq];exact aQ (hf d')
   ·subst e e2;exact aQ (q r r1 r2 r3)
  case step=>
   rintro x c cm _ hx ⟨rfl,l,o,rfl,g1,g2,g3,g4⟩
   dsimp only
   by_cases c:o≥hint+1
   ·rw[aL c];exact aQ ⟨rfl,l,o,rfl,g1,g3,g4,λz=>by lia⟩
   ·rw[aS c];refine aJ (K0 H hk P hS (show hint-o<n by lia) ?_)
    dsimp only
    cases e:prG left (ky key) ka (hint-o) with
    |true=>
     rw[aL rfl];exact aQ ⟨rfl,l,o,rfl,g1,g3,g4,λ_=>e⟩
    |false=>
     simp only[bR,dq];exact aQ ⟨rfl,o,2*o+1,rfl,by lia,by lia,by lia,e⟩
end
section
variable {O:KeyOrd}{ky:bC->O.α}
def UpA(ky:bC->O.α)(a:Array bC):Prop:=∀i j (hj:j<a.size) (h:i<=j),O.kle (ky (a[i]'(by lia))) (ky a[j])
structure MInv (ky:bC->O.α) (a b out:Array bC) (ia ib:Nat):Prop where
 la:ia<=a.size
 lb:ib<=b.size
 pm:out.toList.Perm (a.toList.take ia++b.toList.take ib)
 up:out.toList.Pairwise λx y=>O.kle (ky x) (ky y)
 ra:∀x∈out.toList,∀i (h:i<a.size),ia<=i->O.kle (ky x) (ky a[i])
 rb:∀x∈out.toList,∀i (h:i<b.size),ib<=i->O.kle (ky x) (ky b[i])
def take_snoc{α:Type}{l:List α}(h:i<l.length):l.take (i+1)=l.take i++[l[i]]:=(List.take_append_getElem h).symm
def MInv.stepA(M:MInv ky a b out ia ib)(ua:UpA ky a)(h:ia<a.size)(hb:∀j (hj:j<b.size),ib<=j->O.kle (ky a[ia]) (ky b[j])):MInv ky a b (out.push a[ia]) (ia+1) ib:=by
 refine⟨h,M.lb,?_,?_,λx hx i hi hh=>?_,λx hx j hj hh=>?_⟩
 ·rw[bS,take_snoc (by simpa using h),aI];refine (M.pm.append_right _).trans ?_;rw[aI];refine jv _ ?_;rw[bL];exact List.perm_append_comm
 ·rw[bS,du];refine⟨M.up,dg _ _,λx hx y hy=>?_⟩;rw[ay.mp hy];exact M.ra x hx ia h (aG _)
 ·rw[bS]at hx;rcases ar.mp hx with z|z
  ·exact M.ra x z i hi (by lia)
  ·rw[ay.mp z];exact ua ia i hi (by lia)
 ·rw[bS]at hx;rcases ar.mp hx with z|z
  ·exact M.rb x z j hj hh
  ·rw[ay.mp z];exact hb j hj hh
def MInv.stepB(M:MInv ky a b out ia ib)(ub:UpA ky b)(h:ib<b.size)(ha:∀i (hi:i<a.size),ia<=i->O.kle (ky b[ib]) (ky a[i])):MInv ky a b (out.push b[ib]) ia (ib+1):=by
 refine⟨M.la,h,?_,?_,λx hx i hi hh=>?_,λx hx j hj hh=>?_⟩
 ·rw[bS,take_snoc (l:=b.toList) (by simpa using h),<-aI,bL];exact M.pm.append_right _
 ·rw[bS,du];refine⟨M.up,dg _ _,λx hx y hy=>?_⟩;rw[ay.mp hy];exact M.rb x hx ib h (aG _)
 ·rw[bS]at hx;rcases ar.mp hx with z|z
  ·exact M.ra x z i hi hh
  ·rw[ay.mp z];exact ha i hi hh
 ·rw[bS]at hx;rcases ar.mp hx with z|z
  ·exact M.rb x z j hj (by lia)
  ·rw[ay.mp z];exact ub ib j hj (by lia)
def W9{a out:Array bC}(h:i+k<a.size):(out++a.extract i (i+k)).push (a[i+k]'h)=out++a.extract i (i+(k+1)):=by
 rw[ml,ie]
 congr 1;apply fY;rw[ku,fG,fG];simp only[ip];rw[show i+k-i=k by lia,show i+(k+1)-i=k+1 by lia,take_snoc (by rw[fK,aH];lia),za,bL]
theorem MInv.manyA(ua:UpA ky a):∀(k:Nat) {out:Array bC},MInv ky a b out ia ib->ia+k<=a.size->(∀i (hi:i<a.size),ia<=i->i<ia+k->∀j (hj:j<b.size),ib<=j->O.kle (ky a[i]) (ky b[j]))->MInv ky a b (out++a.extract ia (ia+k)) (ia+k) ib
 |0,out,M,_,_=>by
  have e:a.extract ia (ia+0)=#[]:=by apply fY;simp
  rw[e,fZ];exact M
 |k+1,out,M,h,hb=>by
  have ih:=MInv.manyA ua k M (by lia) λi hi h1 h2=>hb i hi h1 (by lia)
  have:=ih.stepA ua (show ia+k<a.size by lia) λj hj h1=>hb (ia+k) (by lia) (by lia) (by lia) j hj h1
  rw[W9 (by lia)]at this;exact this
theorem MInv.manyB(ub:UpA ky b):∀(k:Nat) {out:Array bC},MInv ky a b out ia ib->ib+k<=b.size->(∀j (hj:j<b.size),ib<=j->j<ib+k->∀i (hi:i<a.size),ia<=i->O.kle (ky b[j]) (ky a[i]))->MInv ky a b (out++b.extract ib (ib+k)) ia (ib+k)
 |0,out,M,_,_=>by
  have e:b.extract ib (ib+0)=#[]:=by apply fY;simp
  rw[e,fZ];exact M
 |k+1,out,M,h,hb=>by
  have ih:=MInv.manyB ub k M (by lia) λi hi h1 h2=>hb i hi h1 (by lia)
  have:=ih.stepB ub (show ib+k<b.size by lia) λj hj h1=>hb (ib+k) (by lia) (by lia) (by lia) j hj h1
  rw[W9 (by lia)]at this;exact this
def N3(ky:bC->O.α)(a b out:Array bC):Prop:=out.toList.Perm (a.toList++b.toList)/\out.toList.Pairwise λx y=>O.kle (ky x) (ky y)
def MInv.all(M:MInv ky a b out a.size b.size):N3 ky a b out:=by
 refine⟨?_,M.up⟩;have:=M.pm
 rwa[i_ (by simp),i_ (by simp)]at this
def MInv.doneB(M:MInv ky a b out ia b.size)(ua:UpA ky a):N3 ky a b (out++a.extract ia a.size++b.extract b.size b.size):=by
 have:=MInv.manyA ua (a.size-ia) M (by have:=M.la;lia) λi hi _ _ j hj h=>by lia
 rw[show ia+(a.size-ia)=a.size by have:=M.la;lia]at this;have e:b.extract b.size b.size=#[]:=by simp
 rw[e,fZ];exact this.all
def MInv.doneA(M:MInv ky a b out a.size ib)(ub:UpA ky b):N3 ky a b (out++a.extract a.size a.size++b.extract ib b.size):=by
 have:=MInv.manyB ub (b.size-ib) M (by have:=M.lb;lia) λi hi _ _ j hj h=>by lia
 rw[show ib+(b.size-ib)=b.size by have:=M.lb;lia]at this;have e:a.extract a.size a.size=#[]:=by simp
 rw[e,fZ];exact this.all
def MInv.last(M:MInv ky a b out ia ib)(ua:UpA ky a)(ub:UpA ky b)(h:ia+1=a.size)(hl:∀j (hj:j<b.size),O.kle (ky b[j]) (ky (a[ia]'(by lia)))):N3 ky a b (out++b.extract ib b.size++a.extract ia a.size):=by
 have M1:=MInv.manyB ub (b.size-ib) M (by have:=M.lb;lia) λj hj _ _ i hi h2=>by
  have:i=ia:=by lia
  subst this;exact hl j hj
 rw[show ib+(b.size-ib)=b.size by have:=M.lb;lia]at M1;have M2:=MInv.manyA ua 1 M1 (by lia) λi hi _ _ j hj h2=>by lia
 rw[h]at M2;exact M2.all
end
def a8N:Array bC->Array bC->StateT cG xo (Array bC):=sortPriv% PySem.Builtin.mergeLo
def a1V:Nat->StateT cG xo Unit:=sortPriv% PySem.Builtin.setMinGallop
section
variable {prog:bo}{w:bJ}{A:bH}{E:ag->aj->Prop}{s:aj}{κ:dz}{O:KeyOrd}{ky:bC->O.α}{S:bC->Prop}{st:cG}
def SameG(st cm:cG):Prop:=kindOf cm=kindOf st/\aR cm=aR st/\bY cm=bY st/\eO cm=eO st
def SameG.refl(st:cG):SameG st st:=⟨rfl,rfl,rfl,rfl⟩
theorem SameG.trans(x:SameG a b)(y:SameG b c):SameG a c:=⟨y.1.trans x.1,y.2.1.trans x.2.1,y.2.2.1.trans x.2.2.1,y.2.2.2.trans x.2.2.2⟩
def X0(h:∀cm,SameG st cm->Q () cm):pW (aV prog w) A E s (a1V g) Q st:=by
 exact jW (h _ ⟨rfl,rfl,rfl,rfl⟩)
def N4(h:Q () st):pW (aV prog w) A E s (rule x) Q st:=wpS_lift (sf ⟨rfl,h⟩)
def j9{β:Type}{c:Prop}{dc:Decidable c}{x y:StateT cG xo β}{Q:β->cG->Prop}(h:c->pW (aV prog w) A E s x Q st)(g:¬ c->pW (aV prog w) A E s y Q st):pW (aV prog w) A E s (ite c x y) Q st:=by
 by_cases d:c
 ·rw[aL d];exact h d
 ·rw[aS d];exact g d
def v8{i j:Nat}(h:¬ (i==j)=true):i≠j:=λe=>h (by rw[e];exact beq_self_eq_true j)
def N5{γ δ:Sort _}{β:Type}{R:γ->δ->Prop}{F:γ->δ->StateT cG xo β}{x:StateT cG xo β}{Q:β->cG->Prop}(tl:∀g d,R g d->pW (aV prog w) A E s (F g d) Q st)(mn:(∀g d,R g d->pW (aV prog w) A E s (F g d) Q st)->pW (aV prog w) A E s x Q st):pW (aV prog w) A E s x Q st:=mn tl
def a3i:(!O.blt k x)=true↔O.kle x k:=by unfold KeyOrd.kle;cases O.blt k x<;>simp
def UpR(ky:bC->O.α)(arr:Array bC)(base n:Nat):Prop:=∀i j (hj:j<arr.size) (h:i<=j),base<=i->j<base+n->O.kle (ky (arr[i]'(by lia))) (ky arr[j])
def UpA.part(u:UpA ky arr)(base n:Nat):UpR ky arr base n:=λi j hj h _ _=>u i j hj h
def kyD(ky:bC->O.α)(arr:Array bC)(base:Nat)(d:O.α)(i:Nat):O.α:=(arr[base+i]?.map ky).getD d
def V4{arr:Array bC}(h:base+i<arr.size):kyD ky arr base d i=ky arr[base+i]:=by unfold kyD;rw[bp h];rfl
def part_of{arr:Array bC}(hn:base+n<=arr.size)(nJ:∀i (h:i<arr.size),base<=i->i<base+n->S arr[i])(d:O.α):a8M ky S arr base n (kyD ky arr base d):=λi hi=>⟨by lia,(V4 (by lia)).symm,nJ _ _ (by lia) (by lia)⟩
def a1r(H:CmpS prog w A s κ O ky S)(hk:kindOf st=κ)(u:UpR ky arr base n)(nJ:∀i (h:i<arr.size),base<=i->i<base+n->S arr[i])(hS:S key)(hn:base+n<=arr.size)(hh:hint<n) 
  (q:∀k,k<=n->(∀i (h:i<arr.size),base<=i->i<base+k->O.kle (ky arr[i]) (ky key))->(∀i (h:i<arr.size),base+k<=i->i<base+n->O.klt (ky key) (ky arr[i]))->Q (cz k) st):pW (aV prog w) A E s (a3h false key arr base n hint) Q st:=by
 have at_:∀i (h:i<arr.size),base<=i->kyD ky arr base (ky key) (i-base)=ky arr[i]:=λi h hb=>by
  have e:base+(i-base)=i:=by lia
  rw[V4 (by lia)];simp only[e]
 refine a1q H hk (part_of hn nJ (ky key)) hS hh (λi j gy hj h=>?_) λk k1 k2 k3=>q k k1 (λi h hb hi=>?_) λi h hb hi=>?_
 ·have h':=a3i.mp h;refine a3i.mpr (cE ?_ h');rw[V4 (show base+i<arr.size by lia),V4 (show base+j<arr.size by lia)];exact u (base+i) (base+j) (by lia) (by lia) (by lia) (by lia)
 ·have:=a3i.mp (k2 (i-base) (by lia))
  rwa[at_ i h hb]at this
 ·have:=k3 (i-base) (by lia) (by lia);have h2:(!O.blt (ky key) (kyD ky arr base (ky key) (i-base)))=false:=this;rw[at_ i h (by lia)]at h2;show O.blt _ _=true;simpa using h2
def a1s(H:CmpS prog w A s κ O ky S)(hk:kindOf st=κ)(u:UpR ky arr base n)(nJ:∀i (h:i<arr.size),base<=i->i<base+n->S arr[i])(hS:S key)(hn:base+n<=arr.size)(hh:hint<n) 
  (q:∀k,k<=n->(∀i (h:i<arr.size),base<=i->i<base+k->O.klt (ky arr[i]) (ky key))->(∀i (h:i<arr.size),base+k<=i->i<base+n->O.kle (ky key) (ky arr[i]))->Q (cz k) st):pW (aV prog w) A E s (a3h true key arr base n hint) Q st:=by
 have at_:∀i (h:i<arr.size),base<=i->kyD ky arr base (ky key) (i-base)=ky arr[i]:=λi h hb=>by
  have e:base+(i-base)=i:=by lia
  rw[V4 (by lia)];simp only[e]
 refine a1q H hk (part_of hn nJ (ky key)) hS hh (λi j gy hj h=>?_) λk k1 k2 k3=>q k k1 (λi h hb hi=>?_) λi h hb hi=>?_
 ·have h':O.klt _ _:=h;refine (KeyOrd.klt_of_kle_of_klt ?_ h':O.klt _ _);rw[V4 (show base+i<arr.size by lia),V4 (show base+j<arr.size by lia)];exact u (base+i) (base+j) (by lia) (by lia) (by lia) (by lia)
 ·have:O.blt _ _=true:=k2 (i-base) (by lia);rw[at_ i h hb]at this;exact this
 ·have:O.blt _ _=false:=k3 (i-base) (by lia) (by lia);rw[at_ i h (by lia)]at this;exact this
def a4b(H:CmpS prog w A s κ O ky S)(hk:kindOf st=κ)(ua:UpA ky a)(ub:UpA ky b)(sa:∀i (h:i<a.size),S a[i])(sb:∀i (h:i<b.size),S b[i])(a0:0<a.size)(b0:0<b.size)(hf:O.klt (ky b[0]) (ky a[0]))(hl:∀j (hj:j<b.size),O.klt (ky b[j]) (ky (a[a.size-1]'(by lia))))
  (q:∀out cm,SameG st cm->N3 ky a b out->Q out cm):pW (aV prog w) A E s (a8N a b) Q st:=by
 have M0:MInv ky a b #[b[0]] 0 1:=by
  have M:MInv ky a b #[] 0 0:=⟨cW _,cW _,by simp,by simp,λx hx=>by simp at hx,λx hx=>by simp at hx⟩;have:=M.stepB ub b0 λi hi _=>cq (dR hf (ua 0 i hi (by lia)))
  simpa using this
 have kN:∀{out:Array bC} {ia ib:Nat},MInv ky a b out ia ib->ia+1=a.size->N3 ky a b (out++b.extract ib b.size++a.extract ia a.size):=λ{out ia ib} M h=>M.last ua ub h λj hj=>by
  have:=hl j hj;have e:a.size-1=ia:=by lia
  simp only[e]at this;exact cq this
 refine aJ (N4 ?_);refine aJ (m5 b0 ?_);refine j9 (λc1=>?_) λc1=>?_
 ·have e:1=b.size:=eq_of_beq c1;refine aQ (q _ _ (SameG.refl _) ?_);have:=M0;rw[e]at this ⊢;exact this.doneB ua
 have Ca:1≠b.size:=v8 c1;refine j9 (λc2=>aQ (q _ _ (SameG.refl _) (kN M0 (eq_of_beq c2)))) λc2=>?_
 have B_:0+1≠a.size:=v8 c2;refine aJ (kJ ?_);refine aJ (eD (cS (I:=λx c cm=>SameG st cm/\∃out ia ib mg,c=(pz,out,ia,ib,mg)/\MInv ky a b out ia ib/\ia+1<a.size/\ib<b.size/\x+1<=ia+ib)
  (Q:=λc cm=>SameG st cm/\∃r z,c=(cz r,z)/\N3 ky a b r) ?ostep ?ofin ⟨SameG.refl _,#[b[0]],0,1,_,rfl,M0,by lia,by lia,by lia⟩) ?opost)
 case opost=>
  rintro c cm ⟨hs,r,z,rfl,hm⟩;exact aQ (q r cm hs hm)
 case ofin=>
  rintro c cm ⟨hs,out,ia,ib,mg,rfl,M,h1,h2,h3⟩;lia
 case ostep=>
  rintro x c cm _ hx ⟨hs,out,ia,ib,mg,rfl,M,h1,h2,h3⟩;refine aJ (eD (cS (I:=λx' c dS=>SameG st dS/\∃gH jw jD ac bc,c=(pz,gH,jw,jD,ac,bc)/\MInv ky a b gH jw jD/\jw+1<a.size/\jD<b.size/\jw+jD=ia+ib+x')
   (Q:=λc dS=>SameG st dS/\((∃r z,c=(cz r,z)/\N3 ky a b r)∨∃gH jw jD ac bc,c=(pz,gH,jw,jD,ac,bc)/\MInv ky a b gH jw jD/\jw+1<a.size/\jD<b.size/\ia+ib+1<=jw+jD)) ?istep ?ifin ⟨hs,out,ia,ib,_,_,rfl,M,h1,h2,by lia⟩) ?ipost)
  case ifin=>
   rintro c dS ⟨gG,gH,jw,jD,ac,bc,rfl,M',g1,g2,g3⟩;exact⟨gG,.inr ⟨_,_,_,_,_,rfl,M',g1,g2,by lia⟩⟩
  case istep=>
   rintro x' c dS _ vK ⟨gG,gH,jw,jD,ac,bc,rfl,M',g1,g2,g3⟩;have uQ:jw<a.size:=by lia
   refine aJ (m5 g2 (aJ (m5 uQ ?_)));refine aJ (a1p H (gG.1.trans hk) (sb _ g2) (sa _ uQ) (j9 (λc=>?_) λc=>?_))
   ·refine aJ (m5 g2 (j9 (λd=>?_) λd=>?_))
    ·have M2:=M'.stepB ub g2 λi hi h=>cq (dR c (ua jw i hi h))
     have e:jD+1=b.size:=eq_of_beq d;refine aQ ⟨gG,.inl ⟨_,_,rfl,?_⟩⟩;rw[e]at M2 ⊢;exact M2.doneB ua
    ·have M2:=M'.stepB ub g2 λi hi h=>cq (dR c (ua jw i hi h))
     have e:jD+1≠b.size:=v8 d;exact j9 (λ_=>aQ ⟨gG,.inr ⟨_,jw,jD+1,_,_,rfl,M2,g1,by lia,by lia⟩⟩) λ_=>aQ ⟨gG,_,jw,jD+1,_,_,rfl,M2,g1,by lia,by lia⟩
   ·have c:=dA.mpr c;have M2:=M'.stepA ua uQ λj hj h=>cE (show O.kle (ky a[jw]) (ky b[jD]) from c) (ub jD j hj h)
    refine aJ (m5 uQ (j9 (λd=>aQ ⟨gG,.inl ⟨_,_,rfl,kN M2 (eq_of_beq d)⟩⟩) λd=>?_));have e:jw+1+1≠a.size:=v8 d;exact j9 (λ_=>aQ ⟨gG,.inr ⟨_,jw+1,jD,_,_,rfl,M2,by lia,g2,by lia⟩⟩) λ_=>aQ ⟨gG,_,jw+1,jD,_,_,rfl,M2,by lia,g2,by lia⟩
  case ipost=>
   rintro c dS ⟨gG,⟨r,z,rfl,hm⟩|⟨gH,jw,jD,ac,bc,rfl,M',g1,g2,g3⟩⟩
   ·exact aQ ⟨gG,r,_,rfl,hm⟩
   refine aJ (N4 ?_);refine aJ (eD (cS (I:=λ_ c gP=>SameG st gP/\∃o2 i2 j2 mg ac bc,c=(pz,o2,i2,j2,mg,ac,bc)/\MInv ky a b o2 i2 j2/\i2+1<a.size/\j2<b.size/\jw+jD<=i2+j2)
    (Q:=λc gP=>SameG st gP/\((∃r z,c=(cz r,z)/\N3 ky a b r)∨∃o2 i2 j2 mg ac bc,c=(pz,o2,i2,j2,mg,ac,bc)/\MInv ky a b o2 i2 j2/\i2+1<a.size/\j2<b.size/\jw+jD<=i2+j2)) ?gstep ?gfin ⟨gG,gH,jw,jD,_,_,_,rfl,M',g1,g2,aG _⟩) ?gpost)
   case gfin=>
    rintro c gP ⟨jY,x⟩;exact⟨jY,.inr x⟩
   case gpost=>
    rintro c gP ⟨jY,⟨r,z,rfl,hm⟩|⟨o2,i2,j2,qm,xm,xg,rfl,M2,k1,k2,k3⟩⟩
    ·exact aQ ⟨jY,r,_,rfl,hm⟩
    refine aJ (X0 λiU qB=>aQ ?_);exact⟨jY.trans qB,o2,i2,j2,_,rfl,M2,k1,k2,by lia⟩
   case gstep=>
    rintro y c gP _ hy ⟨jY,o2,i2,j2,qm,xm,xg,rfl,M2,k1,k2,k3⟩
    dsimp only
    refine' N5 (γ:=Nat) (δ:=True) (R:=λ_ _=>True) (λmg tt _=>?tl0) λtl=>?mn0
    case mn0=>
     have u:=trivial;refine j9 (λ_=>?_) λ_=>?_
     ·generalize qm-1=g;exact tl g u u
     ·exact tl qm u u
    refine aJ (X0 λiU qB=>?_);have kP:=jY.trans qB;refine aJ (m5 k2 ?_);refine aJ (a1r H (kP.1.trans hk) (ua.part _ _) (λi h _ _=>sa i h) (sb _ k2) (by lia) (by lia) λk q1 q2 q3=>?_);refine' N5 (R:=λi3 o3=>MInv ky a b o3 i3 j2/\i3=i2+k/\i3+1<a.size) (λi3 o3 h3=>?tl1) λtl=>?mn1
    case mn1=>
     refine j9 (λs_=>?_) λs_=>?_
     ·have M3:=MInv.manyA ua k M2 (by lia) λi hi h1 h2 j hj h3=>cE (q2 i hi h1 h2) (ub j2 j hj h3)
      refine j9 (λd=>aQ ⟨kP,.inl ⟨_,_,rfl,kN M3 (eq_of_beq d)⟩⟩) λd=>j9 (λd2=>?_) λd2=>?_
      ·have e2:i2+k=a.size:=eq_of_beq d2;refine aQ ⟨kP,.inl ⟨_,_,rfl,?_⟩⟩;have yY:=M3;rw[e2]at yY ⊢;exact yY.doneA ub
      have e1:=v8 d;have e2:=v8 d2;generalize o2++a.extract i2 (i2+k)=o3 at M3 ⊢;obtain⟨i3,ei⟩:∃i3,i3=i2+k:=⟨_,rfl⟩;rw[<-ei]at M3 ⊢;exact tl i3 o3 ⟨M3,ei,by lia⟩
     ·exact tl i2 o2 ⟨M2,by lia,k1⟩
    obtain⟨M3,ei,nT⟩:=h3;have nT:i3<a.size:=by lia
    refine aJ (m5 k2 ?_);have M4:=M3.stepB ub k2 λi hi h=>cq (q3 i hi (by lia) (by lia))
    refine j9 (λd3=>?_) λd3=>?_
    ·have e3:j2+1=b.size:=eq_of_beq d3;refine aQ ⟨kP,.inl ⟨_,_,rfl,?_⟩⟩;rw[e3]at M4 ⊢;exact M4.doneB ua
    have e3:=v8 d3;refine aJ (m5 nT ?_);refine aJ (a1s H (kP.1.trans hk) (ub.part _ _) (λi h _ _=>sb i h) (sa _ nT) (by lia) (by lia) λk' r1 r2 r3=>?_);refine' N5 (R:=λj3 o3=>MInv ky a b o3 i3 j3/\j3=j2+1+k'/\j3<b.size) (λj3 o3 h3=>?tl2) λtl=>?mn2
    case mn2=>
     refine j9 (λqM=>?_) λqM=>?_
     ·have M5:=MInv.manyB ub k' M4 (by lia) λj hj h1 h2 i hi h3=>cq (dR (r2 j hj h1 h2) (ua i3 i hi h3))
      refine j9 (λd4=>?_) λd4=>?_
      ·have e4:j2+1+k'=b.size:=eq_of_beq d4;refine aQ ⟨kP,.inl ⟨_,_,rfl,?_⟩⟩;rw[e4]at M5 ⊢;exact M5.doneB ua
      have e4:=v8 d4;generalize o3.push b[j2]++b.extract (j2+1) (j2+1+k')=o4 at M5 ⊢;obtain⟨j3,ej⟩:∃j3,j3=j2+1+k':=⟨_,rfl⟩;rw[<-ej]at M5 ⊢;exact tl j3 o4 ⟨M5,ej,by lia⟩
     ·generalize o3.push b[j2]=o4 at M4 ⊢;obtain⟨j3,ej⟩:∃j3,j3=j2+1:=⟨_,rfl⟩;rw[<-ej]at M4 ⊢;exact tl j3 o4 ⟨M4,by lia,by lia⟩
    obtain⟨M5,ej,CT⟩:=h3;have M6:=M5.stepA ua nT λj hj h=>r3 j hj (by lia) (by lia)
    refine aJ (m5 nT (j9 (λd=>aQ ⟨kP,.inl ⟨_,_,rfl,kN M6 (eq_of_beq d)⟩⟩) λd=>?_));have e5:=v8 d;exact j9 (λ_=>aQ ⟨kP,.inr ⟨_,_,_,_,_,_,rfl,M6,by lia,by lia,by lia⟩⟩) λ_=>aQ ⟨kP,_,_,_,_,_,_,rfl,M6,by lia,by lia,by lia⟩
end
section
variable {O:KeyOrd}{ky:bC->O.α}
structure NInv (ky:bC->O.α) (a b out:Array bC) (na nb:Nat):Prop where
 la:na<=a.size
 lb:nb<=b.size
 pm:out.toList.Perm (a.toList.drop na++b.toList.drop nb)
 up:out.toList.Pairwise λx y=>O.kle (ky y) (ky x)
 ra:∀x∈out.toList,∀i (h:i<a.size),i<na->O.kle (ky a[i]) (ky x)
 rb:∀x∈out.toList,∀i (h:i<b.size),i<nb->O.kle (ky b[i]) (ky x)
def Z3{α:Type}{l:List α}(h:i<l.length):l.drop i=l[i]::l.drop (i+1):=cI h
def NInv.stepA(M:NInv ky a b out (na+1) nb)(ua:UpA ky a)(h:na<a.size)(hb:∀j (hj:j<b.size),j<nb->O.kle (ky b[j]) (ky a[na])):NInv ky a b (out.push a[na]) na nb:=by
 refine⟨by lia,M.lb,?_,?_,λx hx i hi hh=>?_,λx hx j hj hh=>?_⟩
 ·rw[bS,Z3 (l:=a.toList) (by simpa using h),bL,cw];exact (oj _ _).trans (M.pm.cons _)
 ·rw[bS,du];refine⟨M.up,dg _ _,λx hx y hy=>?_⟩;rw[ay.mp hy];exact M.ra x hx na h (by lia)
 ·rw[bS]at hx;rcases ar.mp hx with z|z
  ·exact M.ra x z i hi (by lia)
  ·rw[ay.mp z];exact ua i na h (by lia)
 ·rw[bS]at hx;rcases ar.mp hx with z|z
  ·exact M.rb x z j hj hh
  ·rw[ay.mp z];exact hb j hj hh
def NInv.stepB(M:NInv ky a b out na (nb+1))(ub:UpA ky b)(h:nb<b.size)(ha:∀i (hi:i<a.size),i<na->O.kle (ky a[i]) (ky b[nb])):NInv ky a b (out.push b[nb]) na nb:=by
 refine⟨M.la,by lia,?_,?_,λx hx i hi hh=>?_,λx hx j hj hh=>?_⟩
 ·rw[bS,Z3 (l:=b.toList) (by simpa using h),bL];refine (oj _ _).trans ((M.pm.cons _).trans ?_);exact List.perm_middle.symm
 ·rw[bS,du];refine⟨M.up,dg _ _,λx hx y hy=>?_⟩;rw[ay.mp hy];exact M.rb x hx nb h (by lia)
 ·rw[bS]at hx;rcases ar.mp hx with z|z
  ·exact M.ra x z i hi hh
  ·rw[ay.mp z];exact ha i hi hh
 ·rw[bS]at hx;rcases ar.mp hx with z|z
  ·exact M.rb x z j hj (by lia)
  ·rw[ay.mp z];exact ub j nb h (by lia)
def a4c{a out:Array bC}(h:i<a.size)(hn:i<n)(CN:n<=a.size):(out++(a.extract (i+1) n).reverse).push a[i]=out++(a.extract i n).reverse:=by
 rw[ml,ie]
 congr 1;apply fY;simp only[ku,jU,fG,ip];rw[show n-i=(n-(i+1))+1 by lia,Z3 (l:=a.toList) (i:=i) (by simpa using h),List.take_succ_cons,y_,bL]
theorem NInv.manyA(ua:UpA ky a):∀(k:Nat) {out:Array bC},NInv ky a b out na nb->k<=na->(∀i (hi:i<a.size),na-k<=i->i<na->∀j (hj:j<b.size),j<nb->O.kle (ky b[j]) (ky a[i]))->NInv ky a b (out++(a.extract (na-k) na).reverse) (na-k) nb
 |0,out,M,_,_=>by
  have e:a.extract (na-0) na=#[]:=by apply fY;simp
  rw[e];simpa using M
 |k+1,out,M,h,hb=>by
  have ih:=NInv.manyA ua k M (by lia) λi hi h1 h2=>hb i hi (by lia) h2
  have yl:=M.la;rw[show na-k=(na-(k+1))+1 by lia]at ih;have:=ih.stepA ua (show na-(k+1)<a.size by lia) λj hj h1=>hb (na-(k+1)) (by lia) (aG _) (by lia) j hj h1
  rw[a4c (by lia) (by lia) yl]at this;exact this
theorem NInv.manyB(ub:UpA ky b):∀(k:Nat) {out:Array bC},NInv ky a b out na nb->k<=nb->(∀j (hj:j<b.size),nb-k<=j->j<nb->∀i (hi:i<a.size),i<na->O.kle (ky a[i]) (ky b[j]))->NInv ky a b (out++(b.extract (nb-k) nb).reverse) na (nb-k)
 |0,out,M,_,_=>by
  have e:b.extract (nb-0) nb=#[]:=by apply fY;simp
  rw[e];simpa using M
 |k+1,out,M,h,hb=>by
  have ih:=NInv.manyB ub k M (by lia) λi hi h1 h2=>hb i hi (by lia) h2
  have yk:=M.lb;rw[show nb-k=(nb-(k+1))+1 by lia]at ih;have:=ih.stepB ub (show nb-(k+1)<b.size by lia) λj hj h1=>hb (nb-(k+1)) (by lia) (aG _) (by lia) j hj h1
  rw[a4c (by lia) (by lia) yk]at this;exact this
def NInv.all(M:NInv ky a b out 0 0):N3 ky a b out.reverse:=by
 refine⟨?_,?_⟩
 ·rw[jU];refine (List.reverse_perm _).trans ?_;simpa using M.pm
 ·rw[jU,r_];exact M.up
def a0K{out c:Array bC}:(out++c.reverse).reverse=c++out.reverse:=by apply fY;simp
def NInv.doneA(M:NInv ky a b out 0 nb)(ub:UpA ky b):N3 ky a b (a.extract 0 0++b.extract 0 nb++out.reverse):=by
 have:=(NInv.manyB ub nb M (aG _) λj hj _ _ i hi h=>by lia);rw[eS]at this;have e:a.extract 0 0=#[]:=by apply fY;simp
 have:=this.all;rw[a0K]at this;rw[e,Array.empty_append];exact this
def NInv.doneB(M:NInv ky a b out na 0)(ua:UpA ky a):N3 ky a b (a.extract 0 na++b.extract 0 0++out.reverse):=by
 have:=(NInv.manyA ua na M (aG _) λj hj _ _ i hi h=>by lia);rw[eS]at this;have e:b.extract 0 0=#[]:=by apply fY;simp
 have:=this.all;rw[a0K]at this;rw[e,fZ];exact this
def NInv.first(M:NInv ky a b out na 1)(ua:UpA ky a)(ub:UpA ky b)(b0:0<b.size)(hf:∀i (hi:i<a.size),O.kle (ky b[0]) (ky a[i])):N3 ky a b (b.extract 0 1++a.extract 0 na++out.reverse):=by
 have M1:=NInv.manyA ua na M (aG _) λi hi _ _ j hj h=>by
  have:j=0:=by lia
  subst this;exact hf i hi
 rw[eS]at M1;have M2:=(NInv.manyB ub 1 M1 (aG _) λj hj _ _ i hi h=>by lia);rw[eS]at M2;have:=M2.all;rw[a0K,a0K,<-ie]at this;exact this
end
def a8O:Array bC->Array bC->StateT cG xo (Array bC):=sortPriv% PySem.Builtin.mergeHi
section
variable {prog:bo}{w:bJ}{A:bH}{E:ag->aj->Prop}{s:aj}{κ:dz}{O:KeyOrd}{ky:bC->O.α}{S:bC->Prop}{st:cG}
def a4d(H:CmpS prog w A s κ O ky S)(hk:kindOf st=κ)(ua:UpA ky a)(ub:UpA ky b)(sa:∀i (h:i<a.size),S a[i])(sb:∀i (h:i<b.size),S b[i])(a0:0<a.size)(b0:0<b.size)(hf:O.klt (ky b[0]) (ky a[0]))(hl:∀j (hj:j<b.size),O.klt (ky b[j]) (ky (a[a.size-1]'(by lia))))
  (q:∀out cm,SameG st cm->N3 ky a b out->Q out cm):pW (aV prog w) A E s (a8O a b) Q st:=by
 have M0:NInv ky a b #[a[a.size-1]'(by lia)] (a.size-1) b.size:=by
  have M:NInv ky a b #[] (a.size-1+1) b.size:=⟨by lia,aG _,by simp;lia,by simp,λx hx=>by simp at hx,λx hx=>by simp at hx⟩;have:=M.stepA ua (show a.size-1<a.size by lia) λj hj _=>cq (hl j hj)
  simpa using this
 have lU:∀i (hi:i<a.size),O.kle (ky b[0]) (ky a[i]):=λi hi=>cq (dR hf (ua 0 i hi (by lia)))
 have jz:∀{out:Array bC} {na nb:Nat},NInv ky a b out na nb->nb=1->N3 ky a b (b.extract 0 nb++a.extract 0 na++out.reverse):=λ{out na nb} M h=>by subst h;exact M.first ua ub b0 lU
 have kR:∀{out:Array bC} {na nb:Nat},NInv ky a b out na nb->na=0->N3 ky a b (a.extract 0 na++b.extract 0 nb++out.reverse):=λ{out na nb} M h=>by subst h;exact M.doneA ub
 refine aJ (N4 ?_);refine aJ (m5 (show a.size-1<a.size by lia) ?_);refine j9 (λc1=>aQ (q _ _ (SameG.refl _) (kR M0 (eq_of_beq c1)))) λc1=>j9 (λc2=>aQ (q _ _ (SameG.refl _) (jz M0 (eq_of_beq c2)))) λc2=>?_
 have Ca:a.size-1≠0:=v8 c1;have B_:b.size≠1:=v8 c2;refine aJ (kJ ?_);refine aJ (eD (cS (I:=λx c cm=>SameG st cm/\∃na nb out mg,c=(pz,na,nb,out,mg)/\NInv ky a b out na nb/\0<na/\1<nb/\na+nb+x+1<=a.size+b.size)
  (Q:=λc cm=>SameG st cm/\∃r z,c=(cz r,z)/\N3 ky a b r) ?ostep ?ofin ⟨SameG.refl _,a.size-1,b.size,_,_,rfl,M0,by lia,by lia,by lia⟩) ?opost)
 case opost=>
  rintro c cm ⟨hs,r,z,rfl,hm⟩;exact aQ (q r cm hs hm)
 case ofin=>
  rintro c cm ⟨hs,na,nb,out,mg,rfl,M,h1,h2,h3⟩;lia
 case ostep=>
  rintro x c cm _ hx ⟨hs,na,nb,out,mg,rfl,M,h1,h2,h3⟩;have yl:=M.la;have yk:=M.lb;refine aJ (eD (cS (I:=λx' c dS=>SameG st dS/\∃je jd gH ac bc,c=(pz,je,jd,gH,ac,bc)/\NInv ky a b gH je jd/\0<je/\1<jd/\je+jd+x'=na+nb)
   (Q:=λc dS=>SameG st dS/\((∃r z,c=(cz r,z)/\N3 ky a b r)∨∃je jd gH ac bc,c=(pz,je,jd,gH,ac,bc)/\NInv ky a b gH je jd/\0<je/\1<jd/\je+jd+1<=na+nb)) ?istep ?ifin ⟨hs,na,nb,out,_,_,rfl,M,h1,h2,by lia⟩) ?ipost)
  case ifin=>
   rintro c dS ⟨gG,je,jd,gH,ac,bc,rfl,M',g1,g2,g3⟩;exact⟨gG,.inr ⟨_,_,_,_,_,rfl,M',g1,g2,by lia⟩⟩
  case istep=>
   rintro x' c dS _ vK ⟨gG,je,jd,gH,ac,bc,rfl,M',g1,g2,g3⟩;have ja:je-1<a.size:=by have:=M'.la;lia
   have jb:jd-1<b.size:=by have:=M'.lb;lia
   refine aJ (m5 jb (aJ (m5 ja ?_)));refine aJ (a1p H (gG.1.trans hk) (sb _ jb) (sa _ ja) (j9 (λc=>?_) λc=>?_))
   ·have M2:=NInv.stepA (na:=je-1) (by rw[show je-1+1=je by lia];exact M') ua ja λj hj h=>cq (KeyOrd.klt_of_kle_of_klt (ub j (jd-1) jb (by lia)) c)
    refine aJ (m5 ja (j9 (λd=>aQ ⟨gG,.inl ⟨_,_,rfl,kR M2 (eq_of_beq d)⟩⟩) λd=>?_));have e:je-1≠0:=v8 d;exact j9 (λ_=>aQ ⟨gG,.inr ⟨je-1,jd,_,_,_,rfl,M2,by lia,g2,by lia⟩⟩) λ_=>aQ ⟨gG,je-1,jd,_,_,_,rfl,M2,by lia,g2,by lia⟩
   ·have c:=dA.mpr c;have M2:=NInv.stepB (nb:=jd-1) (by rw[show jd-1+1=jd by lia];exact M') ub jb λi hi h=>cE (ua i (je-1) ja (by lia)) (show O.kle (ky a[je-1]) (ky b[jd-1]) from c)
    refine aJ (m5 jb (j9 (λd=>aQ ⟨gG,.inl ⟨_,_,rfl,jz M2 (eq_of_beq d)⟩⟩) λd=>?_));have e:jd-1≠1:=v8 d;exact j9 (λ_=>aQ ⟨gG,.inr ⟨je,jd-1,_,_,_,rfl,M2,g1,by lia,by lia⟩⟩) λ_=>aQ ⟨gG,je,jd-1,_,_,_,rfl,M2,g1,by lia,by lia⟩
  case ipost=>
   rintro c dS ⟨gG,⟨r,z,rfl,hm⟩|⟨je,jd,gH,ac,bc,rfl,M',g1,g2,g3⟩⟩
   ·exact aQ ⟨gG,r,_,rfl,hm⟩
   refine aJ (N4 ?_);refine aJ (eD (cS (I:=λ_ c gP=>SameG st gP/\∃i2 j2 o2 mg ac bc,c=(pz,i2,j2,o2,mg,ac,bc)/\NInv ky a b o2 i2 j2/\0<i2/\1<j2/\i2+j2<=je+jd)
    (Q:=λc gP=>SameG st gP/\((∃r z,c=(cz r,z)/\N3 ky a b r)∨∃i2 j2 o2 mg ac bc,c=(pz,i2,j2,o2,mg,ac,bc)/\NInv ky a b o2 i2 j2/\0<i2/\1<j2/\i2+j2<=je+jd)) ?gstep ?gfin ⟨gG,je,jd,gH,_,_,_,rfl,M',g1,g2,aG _⟩) ?gpost)
   case gfin=>
    rintro c gP ⟨jY,x⟩;exact⟨jY,.inr x⟩
   case gpost=>
    rintro c gP ⟨jY,⟨r,z,rfl,hm⟩|⟨i2,j2,o2,qm,xm,xg,rfl,M2,k1,k2,k3⟩⟩
    ·exact aQ ⟨jY,r,_,rfl,hm⟩
    refine aJ (X0 λiU qB=>aQ ?_);exact⟨jY.trans qB,i2,j2,o2,_,rfl,M2,k1,k2,by lia⟩
   case gstep=>
    rintro y c gP _ hy ⟨jY,i2,j2,o2,qm,xm,xg,rfl,M2,k1,k2,k3⟩;have ja:=M2.la;have jb:=M2.lb;have sC:j2-1<b.size:=by lia
    dsimp only
    refine' N5 (γ:=Nat) (δ:=True) (R:=λ_ _=>True) (λmg tt _=>?tl0) λtl=>?mn0
    case mn0=>
     have u:=trivial;refine j9 (λ_=>?_) λ_=>?_
     ·generalize qm-1=g;exact tl g u u
     ·exact tl qm u u
    refine aJ (X0 λiU qB=>?_);have kP:=jY.trans qB;refine aJ (m5 sC ?_);refine aJ (a1r H (kP.1.trans hk) (ua.part _ _) (λi h _ _=>sa i h) (sb _ sC) (by lia) (by lia) λk q1 q2 q3=>?_)
    dsimp only
    generalize CZ:i2-k=ac;refine' N5 (R:=λi3 o3=>NInv ky a b o3 i3 j2/\i3=k/\0<i3) (λi3 o3 h3=>?tl1) λtl=>?mn1
    case mn1=>
     refine j9 (λs_=>?_) λs_=>?_
     ·have M3:=NInv.manyA ua (i2-k) M2 (by lia) λi hi h1 h2 j hj h3=>cE (ub j (j2-1) sC (by lia)) (cq (q3 i hi (by lia) (by lia)))
      rw[show i2-(i2-k)=k by lia]at M3;refine j9 (λd=>aQ ⟨kP,.inl ⟨_,_,rfl,kR M3 (eq_of_beq d)⟩⟩) λd=>?_
      have e1:=v8 d;generalize o2++(a.extract k i2).reverse=o3 at M3 ⊢;obtain⟨i3,ei⟩:∃i3,i3=k:=⟨_,rfl⟩;rw[<-ei]at M3 ⊢;exact tl i3 o3 ⟨M3,ei,by lia⟩
     ·exact tl i2 o2 ⟨M2,by lia,k1⟩
    obtain⟨M3,ei,h0⟩:=h3;have M4:=NInv.stepB (nb:=j2-1) (by rw[show j2-1+1=j2 by lia];exact M3) ub sC λi hi h=>q2 i hi (by lia) (by lia)
    refine aJ (m5 sC (j9 (λd=>aQ ⟨kP,.inl ⟨_,_,rfl,jz M4 (eq_of_beq d)⟩⟩) λd3=>?_));have e3:=v8 d3;have nT:i3-1<a.size:=by lia
    refine aJ (m5 nT ?_);refine aJ (a1s H (kP.1.trans hk) (ub.part _ _) (λi h _ _=>sb i h) (sa _ nT) (by lia) (by lia) λk' r1 r2 r3=>?_)
    dsimp only
    generalize CW:j2-1-k'=bc;refine' N5 (R:=λj3 o4=>NInv ky a b o4 i3 j3/\j3=k'/\1<j3) (λj3 o4 h3=>?tl2) λtl=>?mn2
    case mn2=>
     refine j9 (λqM=>?_) λqM=>?_
     ·have M5:=NInv.manyB ub (j2-1-k') M4 (by lia) λj hj h1 h2 i hi h3=>cE (ua i (i3-1) nT (by lia)) (r3 j hj (by lia) (by lia))
      rw[show j2-1-(j2-1-k')=k' by lia]at M5;refine j9 (λd=>aQ ⟨kP,.inl ⟨_,_,rfl,jz M5 (eq_of_beq d)⟩⟩) λd4=>j9 (λd6=>?_) λd6=>?_
      ·have e6:k'=0:=eq_of_beq d6;refine aQ ⟨kP,.inl ⟨_,_,rfl,?_⟩⟩;have yX:=M5;rw[e6]at yX ⊢;exact yX.doneB ua
      have e4:=v8 d4;have e6:=v8 d6;generalize o3.push b[j2-1]++(b.extract k' (j2-1)).reverse=o4 at M5 ⊢;obtain⟨j3,ej⟩:∃j3,j3=k':=⟨_,rfl⟩;rw[<-ej]at M5 ⊢;exact tl j3 o4 ⟨M5,ej,by lia⟩
     ·generalize o3.push b[j2-1]=o4 at M4 ⊢;exact tl (j2-1) o4 ⟨M4,by lia,by lia⟩
    obtain⟨M5,ej,h1⟩:=h3;have M6:=NInv.stepA (na:=i3-1) (by rw[show i3-1+1=i3 by lia];exact M5) ua nT λj hj h=>cq (r2 j hj (by lia) (by lia))
    refine aJ (m5 nT (j9 (λd=>aQ ⟨kP,.inl ⟨_,_,rfl,kR M6 (eq_of_beq d)⟩⟩) λd=>?_));have e5:=v8 d;exact j9 (λ_=>aQ ⟨kP,.inr ⟨_,_,_,_,_,_,rfl,M6,by lia,by lia,by lia⟩⟩) λ_=>aQ ⟨kP,_,_,_,_,_,_,rfl,M6,by lia,by lia,by lia⟩
end
theorem a6o{α:Type}(p0:Nat):∀(l:List α) (n:Nat) (arr:Array α),p0+n+l.length<=arr.size->((l.zipIdx n).foldl (λa (q:α×Nat)=>a.setIfInBounds (p0+q.2) q.1) arr).toList=arr.toList.take (p0+n)++l++arr.toList.drop (p0+n+l.length)
 |[],n,arr,h=>by simp
 |x::l,n,arr,h=>by
  rw[aO]at h;rw[List.zipIdx_cons,Dq,a6o p0 l (n+1) _ (by rw[Array.size_setIfInBounds];lia),Array.toList_setIfInBounds];have hl:p0+n<arr.toList.length:=by rw[aH];lia
  have e1:(arr.toList.set (p0+n) x).take (p0+(n+1))=arr.toList.take (p0+n)++[x]:=by
   rw[show p0+(n+1)=(p0+n)+1 by lia,take_snoc (by rw[jl];exact hl),List.take_set_of_le (aG _),List.getElem_set_self]
  have e2:(arr.toList.set (p0+n) x).drop (p0+(n+1)+l.length)=arr.toList.drop (p0+n+(x::l).length):=by
   rw[List.drop_set_of_lt (by lia),aO]
   congr 1;lia
  rw[e1,e2];simp
section
variable {prog:bo}{w:bJ}{A:bH}{E:ag->aj->Prop}{s:aj}{κ:dz}{O:KeyOrd}{ky:bC->O.α}{S:bC->Prop}{st:cG}
def b0T(h:Q ⟨⟩ cm):pW (aV prog w) A E s (set cm:StateT cG xo PUnit) Q st:=by
 unfold pW;rw[StateT.run_set];exact aE ⟨rfl,h⟩
def a0m{arr:Array bC}{base n:Nat}(u:UpR ky arr base n)(hn:base+n<=arr.size){lo hi:Nat}(h1:base<=lo)(h2:lo<=hi)(h3:hi<=base+n):UpA ky (arr.extract lo hi):=by
 intro i j hj h;rw[kW]at hj;rw[de,de];exact u (lo+i) (lo+j) (by lia) (by lia) (by lia) (by lia)
structure Fused (ky:bC->O.α) (arr kj:Array bC) (lo hi:Nat):Prop where
 pm:kj.toList.Perm arr.toList
 out:∀t,t<lo∨hi<=t->kj[t]?=arr[t]?
 up:UpR ky kj lo (hi-lo)
def a4e(H:CmpS prog w A s κ O ky S)(hk:kindOf st=κ){i sa na pw sb nb vo:Nat}(p1:(bY st)[i]?=cz (sa,na,pw))(p2:(bY st)[i+1]?=cz (sb,nb,vo))(vP:sb=sa+na)(uB:0<na)(vy:0<nb)(mz:sb+nb<=(aR st).size)(sS:∀i (h:i<(aR st).size),S (aR st)[i])(u1:UpR ky (aR st) sa na)(u2:UpR ky (aR st) sb nb)(hfl:eO st=pz){Q:Bool->cG->Prop}
  (q:∀cm,kindOf cm=kindOf st->eO cm=pz->bY cm=((bY st).setIfInBounds i (sa,na+nb,pw)).eraseIdxIfInBounds (i+1)->Fused ky (aR st) (aR cm) sa (sb+nb)->Q true cm):pW (aV prog w) A E s (mergeAt' i) Q st:=by
 refine aJ (kJ ?_);rw[p1,p2]
 dsimp only
 refine aJ (b0T ?_);have b0:sb<(aR st).size:=by lia
 refine aJ (m5 b0 ?_);refine aJ (a1r H (by exact hk) u1 (λi h _ _=>sS i h) (sS _ b0) (by lia) uB λk k1 k2 k3=>?_)
 dsimp only
 have pO:(∀i (hi:i<(aR st).size),sa<=i->i<sb->O.kle (ky (aR st)[i]) (ky (aR st)[sb]))->Fused ky (aR st) (aR st) sa (sb+nb):=λh=>⟨ic _,λ_ _=>rfl,λi j hj gy h1 h2=>by
  rcases dG j sb with c|c
  ·exact u1 i j hj gy h1 (by lia)
  ·rcases dG i sb with d|d
   ·exact cE (h i (by lia) h1 d) (u2 sb j hj c (aG _) (by lia))
   ·exact u2 i j hj gy d (by lia)⟩
 by_cases c1:(na-k==0)=true
 ·rw[aL c1];have e:na-k=0:=by simpa using c1
  exact aQ (q _ rfl hfl rfl (pO λi hi h1 h2=>k2 i hi h1 (by lia)))
 rw[aS c1];have e1:na-k≠0:=by simpa using c1
 have al:sa+k+(na-k)-1<(aR st).size:=by lia
 refine aJ (m5 al ?_);refine aJ (a1s H (by exact hk) u2 (λi h _ _=>sS i h) (sS _ al) (by lia) (by lia) λm m1 m2 m3=>?_)
 dsimp only
 by_cases c2:(m==0)=true
 ·rw[aL c2];have e:m=0:=by simpa using c2
  refine aQ (q _ rfl hfl rfl (pO λi hi h1 h2=>?_));refine cE (u1 i (sa+k+(na-k)-1) al (by lia) h1 (by lia)) (m3 sb b0 (by lia) (by lia))
 rw[aS c2];have e2:m≠0:=by simpa using c2
 have xs:((aR st).extract (sa+k) sb).size=na-k:=by rw[kW];lia
 have ys:((aR st).extract sb (sb+m)).size=m:=by rw[kW];lia
 have ux:UpA ky ((aR st).extract (sa+k) sb):=a0m u1 (by lia) (by lia) (by lia) (by lia);have uy:UpA ky ((aR st).extract sb (sb+m)):=a0m u2 (by lia) (by lia) (by lia) (by lia);have sx:∀i (h:i<((aR st).extract (sa+k) sb).size),S ((aR st).extract (sa+k) sb)[i]:=λi h=>by rw[de];exact sS _ _
 have sy:∀i (h:i<((aR st).extract sb (sb+m)).size),S ((aR st).extract sb (sb+m))[i]:=λi h=>by rw[de];exact sS _ _
 have hf:O.klt (ky (((aR st).extract sb (sb+m))[0]'(by lia))) (ky (((aR st).extract (sa+k) sb)[0]'(by lia))):=by
  rw[de,de];exact k3 (sa+k+0) (by lia) (by lia) (by lia)
 have hl:∀j (hj:j<((aR st).extract sb (sb+m)).size),O.klt (ky ((aR st).extract sb (sb+m))[j]) (ky (((aR st).extract (sa+k) sb)[((aR st).extract (sa+k) sb).size-1]'(by lia))):=λj hj=>by
  rw[de,de];have:=m2 (sb+j) (by lia) (by lia) (by lia);simp only[xs];have e:sa+k+(na-k-1)=sa+k+(na-k)-1:=by lia
  simp only[e];exact this
 have fin:∀out cm,SameG (setPending st (((bY st).setIfInBounds i (sa,na+nb,pw)).eraseIdxIfInBounds (i+1))) cm->N3 ky ((aR st).extract (sa+k) sb) ((aR st).extract sb (sb+m)) out->
   pW (aV prog w) A E s (do
    modify λs=>setArr s (out.toList.zipIdx.foldl (λa (p,j)=>a.setIfInBounds (sa+k+j) p) (aR s))
    return (eO (<-get)).isNone) Q cm:=by
  intro out cm ⟨g1,g2,g3,g4⟩ hm;have os:out.size=na-k+m:=by
   have:=hm.1.length_eq;rw[az,aH,aH,aH,xs,ys]at this;exact this
  have rY:aR cm=aR st:=g2;have wl:=a6o (sa+k) out.toList 0 (aR st) (by rw[aH];lia);rw[Nat.add_zero,aH]at wl;refine aJ (jW (aJ (kJ (aQ ?_))));have ff:(eO cm).isNone=true:=by rw[show eO cm=eO st from g4,hfl];rfl
  show Q (eO cm).isNone _;rw[ff];refine q _ g1 (by show eO cm=pz;rw[show eO cm=eO st from g4,hfl]) g3 ?_;show Fused ky (aR st) (out.toList.zipIdx.foldl (λa (q:bC×Nat)=>a.setIfInBounds (sa+k+q.2) q.1) (aR cm)) sa (sb+nb);rw[rY];generalize hW:out.toList.zipIdx.foldl (λa (q:bC×Nat)=>a.setIfInBounds (sa+k+q.2) q.1) (aR st)=W at wl;have xS:((aR st).extract (sa+k) sb).toList++((aR st).extract sb (sb+m)).toList=((aR st).toList.drop (sa+k)).take (na-k+m):=by
   rw[fG,fG];simp only[ip];rw[show sb-(sa+k)=na-k by lia,show sb+m-sb=m by lia,List.take_add,List.drop_drop,show sa+k+(na-k)=sb by lia]
  have ws:W.size=(aR st).size:=by
   have:=fE ir wl;rw[az,az,cu,fK,aH,aH,aH]at this;lia
  have lo:∀t,t<sa+k->W[t]?=(aR st)[t]?:=λt ht=>by
   rw[<-bT,wl,aI,bK (by rw[cu,aH];lia),pf ht,bT]
  have hi:∀t,sa+k+out.size<=t->W[t]?=(aR st)[t]?:=λt ht=>by
   rw[<-bT,wl,bI (by rw[az,cu,aH,aH];lia),List.getElem?_drop,az,cu,aH,aH,<-bT]
   congr 1;lia
  have mid:∀t,t<out.size->W[sa+k+t]?=out[t]?:=λt ht=>by
   rw[<-bT,wl,aI,bI (by rw[cu,aH];lia),cu,aH,bK (by rw[aH];lia),bT]
   congr 1;lia
  have src:∀x∈out.toList,∃u,∃h:u<(aR st).size,sa+k<=u/\u<sb+m/\x=(aR st)[u]:=λx hx=>by
   have h1:=hm.1.mem_iff.mp hx;rw[xS]at h1;obtain⟨v,hv,e⟩:=jQ.mp h1;rw[cu,fK,aH]at hv;refine⟨sa+k+v,by lia,by lia,by lia,?_⟩;rw[<-e,List.getElem_take,za,bL]
  refine⟨?_,λt ht=>?_,λt1 t2 h2 BI hlo qQ=>?_⟩
  ·rw[wl];have e:(aR st).toList=(aR st).toList.take (sa+k)++((aR st).toList.drop (sa+k)).take (na-k+m)++(aR st).toList.drop (sa+k+out.size):=by
    have e2:(aR st).toList.drop (sa+k+(na-k+m))=((aR st).toList.drop (sa+k)).drop (na-k+m):=by rw[List.drop_drop]
    rw[os,aI,e2,fg,fg]
   conv=>rhs;rw[e]
   refine List.Perm.append_right _ (jv _ ?_);rw[<-xS];exact hm.1
  ·rcases ht with h|h
   ·exact lo t (by lia)
   ·exact hi t (by lia)
  ·have BN:∀t (h:t<W.size) (h':t<(aR st).size),t<sa+k∨sa+k+out.size<=t->W[t]=(aR st)[t]:=λt h h' ht=>by
    have:=ht.elim (lo t) (hi t);rw[bp h,bp h']at this;exact aK this
   have md:∀t (h:t<W.size),sa+k<=t->t<sa+k+out.size->∃h':t-(sa+k)<out.size,W[t]=out[t-(sa+k)]:=λt h ht Ag=>by
    have:=mid (t-(sa+k)) (by lia);rw[show sa+k+(t-(sa+k))=t by lia,bp h,bp (by lia)]at this;exact⟨by lia,aK this⟩
   have any:∀t (h:t<W.size),sa<=t->t<sb+nb->∃u,∃h':u<(aR st).size,W[t]=(aR st)[u]/\(u=t∨sa+k<=u/\u<sb+m/\sa+k<=t/\t<sa+k+out.size):=λt h ht Ag=>by
    by_cases c:t<sa+k∨sa+k+out.size<=t
    ·exact⟨t,by lia,BN t h _ c,.inl rfl⟩
    ·obtain⟨h',e⟩:=md t h (by lia) (by lia);obtain⟨u,hu,Ad,Ac,e'⟩:=src _ (iC h');exact⟨u,hu,e.trans e',.inr ⟨Ad,Ac,by lia,by lia⟩⟩
   have w1:t1<W.size:=by lia
   obtain⟨a,ha,ea,ca⟩:=any t1 w1 hlo (by lia);obtain⟨b,hb,eb,cb⟩:=any t2 h2 (by lia) (by lia);by_cases c:t1<sa+k
   ·rw[ea,eb];rcases dG b sb with z|z
    ·exact u1 a b hb (by lia) (by lia) (by lia)
    ·rcases dG a sb with y|y
     ·exact cE (k2 a ha (by lia) (by lia)) (u2 sb b hb z (aG _) (by lia))
     ·lia
   by_cases d:sa+k+out.size<=t2
   ·rw[ea,eb];rcases dG a sb with y|y
    ·exact cE (u1 a (sa+k+(na-k)-1) al (by lia) (by lia) (by lia)) (m3 b hb (by lia) (by lia))
    ·exact u2 a b hb (by lia) y (by lia)
   obtain⟨ng,e1⟩:=md t1 w1 (by lia) (by lia);obtain⟨jy,e2⟩:=md t2 h2 (by lia) (by lia);rcases dG t1 t2 with y|y
   ·have:=oD.mp hm.2 (t1-(sa+k)) (t2-(sa+k)) (by rw[aH];lia) (by rw[aH];lia) (by lia)
    rwa[bL,bL,<-e1,<-e2]at this
   ·have:t1=t2:=by lia
    subst this;exact dm _
 split
 ·exact aJ (a4b H (by exact hk) ux uy sx sy (by lia) (by lia) hf hl λout cm hs hm=>fin out cm hs hm)
 ·exact aJ (a4d H (by exact hk) ux uy sx sy (by lia) (by lia) hf hl λout cm hs hm=>fin out cm hs hm)
end
def a4f{α:Sort _}{P:α->Prop}{G:Prop}(code:α)(h:P code)(k:P code->G):G:=k h
section
variable {prog:bo}{w:bJ}{A:bH}{E:ag->aj->Prop}{s:aj}{κ:dz}{O:KeyOrd}{ky:bC->O.α}{S:bC->Prop}{st:cG}
def kq(ky:bC->O.α)(d:O.α)(arr:Array bC)(t:Nat):O.α:=(arr[t]?.map ky).getD d
def Q9{xs ys:Array bC}(h:xs[i]?=ys[j]?):kq ky d xs i=kq ky d ys j:=by unfold kq;rw[h]
def a6p{arr:Array bC}(h:t<arr.size):kq ky d arr t=ky arr[t]:=by unfold kq;rw[bp h];rfl
def Z4{xs:Array bC}(hj:j<=xs.size)(k:Nat):kq ky d (kX xs i j ((j-i) / 2)) k=if i<=k/\k<j then kq ky d xs (i+j-1-k) else kq ky d xs k:=by
 have e:=getElem?_mirror_all (i:=i) hj k
 split
 ·rename_i h;rw[aL h]at e;exact Q9 e
 ·rename_i h;rw[aS h]at e;exact Q9 e
def K1{xs:Array bC}(hj:j<=xs.size)(heq:∀k,i<=k->k<j->kq ky d xs k=kq ky d xs (j-1))(k:Nat):kq ky d (kX xs i j ((j-i) / 2)) k=kq ky d xs k:=by
 rw[Z4 hj]
 split
 ·rw[heq _ (by lia) (by lia),heq k (by lia) (by lia)]
 ·rfl
def AscTo(ky:bC->O.α)(d:O.α)(arr:Array bC)(lo n:Nat):Prop:=∀i j,i<=j->j<n->O.kle (kq ky d arr (lo+i)) (kq ky d arr (lo+j))
def a1t(ky:bC->O.α)(d:O.α)(arr:Array bC)(lo n:Nat):Prop:=∀i j,i<=j->j<n->O.kle (kq ky d arr (lo+j)) (kq ky d arr (lo+i))
def AscTo.up{d:O.α}{arr:Array bC}{lo n:Nat}(h:AscTo ky d arr lo n):UpR ky arr lo n:=λi j hj gy h1 h2=>by
 have:=h (i-lo) (j-lo) (by lia) (by lia);rw[show lo+(i-lo)=i by lia,show lo+(j-lo)=j by lia,a6p hj,a6p (show i<arr.size by lia)]at this;exact this
structure SB (S:bC->Prop) (κ:dz) (iS st:cG) (lo hi:Nat):Prop where
 kind:kindOf st=κ
 fl:eO st=pz
 pn:bY st=bY iS
 pm:(aR st).Perm (aR iS)
 out:∀t,t<lo∨hi<=t->(aR st)[t]?=(aR iS)[t]?
 all:∀i (h:i<(aR st).size),S (aR st)[i]
theorem SB.size{iS:cG}{lo hi:Nat}(h:SB S κ iS st lo hi):(aR st).size=(aR iS).size:=by have:=(dZ.mp h.pm).length_eq;simpa using this
def SB.mod{iS:cG}{lo hi:Nat}(h:SB S κ iS st lo hi){xs:Array bC}(p:xs.Perm (aR st))(o:∀t,t<lo∨hi<=t->xs[t]?=(aR st)[t]?):SB S κ iS (setArr st xs) lo hi:=by
 refine⟨h.kind,h.fl,h.pn,p.trans h.pm,λt ht=>(o t ht).trans (h.out t ht),λi hi=>?_⟩;have hm:xs[i]∈(aR st).toList:=(dZ.mp p).mem_iff.mp (iC hi);obtain⟨j,hj,e⟩:=jQ.mp hm;show S xs[i];rw[<-e,bL];exact h.all j (by simpa using hj)
def SB.mir{iS:cG}{lo hi i j:Nat}(h:SB S κ iS st lo hi)(h1:lo<=i)(h2:j<=hi)(h3:j<=(aR st).size):SB S κ iS (setArr st (kX (aR st) i j ((j-i) / 2))) lo hi:=h.mod (mirror_perm _ _ _ _) λt ht=>by
 rw[getElem?_mirror_all h3,aS (by lia)]
def G5(H:CmpS prog w A s κ O ky S){d:O.α}{iS:cG}{lo hi i j:Nat}(B:SB S κ iS st lo hi)(iT:i<(aR st).size)(oQ:j<(aR st).size){Q:Option Bool->cG->Prop}(h:Q (cz (O.blt (kq ky d (aR st) i) (kq ky d (aR st) j))) st):pW (aV prog w) A E s (ltAt' i j) Q st:=by
 rw[ltAt'_eq];refine aJ (kJ ?_)
 dsimp only
 refine aJ (m5 iT (aJ (m5 oQ ?_)));rw[a6p iT,a6p oQ]at h;exact a1p H B.kind (B.all _ _) (B.all _ _) h
def X1(h:Q () (setArr st (kX (aR st) i j ((j-i) / 2)))):pW (aV prog w) A E s (reverseSlice' i j) Q st:=by
 rw[reverseSlice'_eq];exact jW h
def a1W(H:CmpS prog w A s κ O ky S){d:O.α}{iS:cG}{lo gd:Nat}(B:SB S κ iS st lo (lo+gd))(hn:lo+gd<=(aR iS).size)(h1:1<=gd){Q:Option Nat->cG->Prop}
  (q:∀m cm,SB S κ iS cm lo (lo+gd)->1<=m->m<=gd->AscTo ky d (aR cm) lo m->Q (cz m) cm):pW (aV prog w) A E s (countRun' lo gd) Q st:=by
 have xl:∀{cm:cG},AscTo ky d (aR cm) lo 1:=λ{cm} i j gy hj=>by
  have:i=j:=by lia
  subst this;exact dm _
 have mP:∀{cm:cG} {n:Nat},1<=n->AscTo ky d (aR cm) lo n->O.blt (kq ky d (aR cm) (lo+n)) (kq ky d (aR cm) (lo+n-1))=false->AscTo ky d (aR cm) lo (n+1):=λ{cm n} yg ha hb i j gy hj=>by
  by_cases c:j<n
  ·exact ha i j gy c
  ·have:j=n:=by lia
   subst this;by_cases e:i=j
   ·subst e;exact dm _
   ·have h2:=ha i (j-1) (by lia) (by lia);rw[show lo+(j-1)=lo+j-1 by lia]at h2;exact cE h2 hb
 have mM:∀{cm:cG} {xs:Array bC} {x:Nat},(∀k,kq ky d xs k=kq ky d (aR cm) k)->1<=x->a1t ky d (aR cm) lo x->O.kle (kq ky d (aR cm) (lo+x)) (kq ky d (aR cm) (lo+x-1))->a1t ky d xs lo (x+1):=λ{cm xs x} hk hx D2 hb i j gy hj=>by
  rw[hk,hk];by_cases AN:j<x
  ·exact D2 i j gy AN
  ·have:j=x:=by lia
   subst this;by_cases e:i=j
   ·subst e;exact dm _
   ·have h2:=D2 i (j-1) (by lia) (by lia);rw[show lo+(j-1)=lo+j-1 by lia]at h2;exact cE hb h2
 rw[countRun'_eq];refine aJ (eD (cS (I:=λx c cm=>cm=st/\c=(pz,x)/\AscTo ky d (aR st) lo x)
  (Q:=λc cm=>cm=st/\∃n,c=(pz,n)/\1<=n/\n<=gd/\AscTo ky d (aR st) lo n/\(n=gd∨O.klt (kq ky d (aR st) (lo+n)) (kq ky d (aR st) (lo+n-1)))) ?astep ?afin ⟨rfl,rfl,xl⟩) ?apost)
 case afin=>
  rintro c cm ⟨rfl,rfl,ha⟩;rw[show max 1 gd=gd by lia]at ha ⊢;exact⟨rfl,gd,rfl,h1,aG _,ha,.inl rfl⟩
 case astep=>
  rintro x c cm uC zX ⟨rfl,rfl,ha⟩;have sz:=B.size
  dsimp only
  exact aJ (G5 H (d:=d) B (by lia) (by lia) (j9 (λhb=>aQ ⟨rfl,x,rfl,uC,by lia,ha,.inr hb⟩) λhb=>aQ ⟨rfl,rfl,mP uC ha (dA.mpr hb)⟩))
 case apost=>
  rintro c cm ⟨rfl,n,rfl,n1,nn,ha,As⟩;have sz:=B.size
  dsimp only
  refine j9 (λcn=>aQ (q n cm B n1 nn ha)) λcn=>?_
  have en:=v8 cn;have gK:O.klt (kq ky d (aR cm) (lo+n)) (kq ky d (aR cm) (lo+n-1)):=As.resolve_left en;refine' a4f (P:=λcode=>∀uv:cG,SB S κ iS uv lo (lo+gd)->a1t ky d (aR uv) lo (n+1)->pW (aV prog w) A E s code Q uv) _ ?desc λdesc=>?main
  case main=>
   refine j9 (λtq=>?_) λtq=>?_
   ·refine aJ (G5 H (d:=d) B (by lia) (by lia) (j9 (λmC=>aQ (q n cm B n1 nn ha)) λmC=>?_))
    ·have mC:=dA.mpr mC;have gI:∀t,lo<=t->t<lo+n->kq ky d (aR cm) t=kq ky d (aR cm) (lo+n-1):=λt t1 t2=>by
      have a1:=ha 0 (t-lo) (by lia) (by lia);have a2:=ha (t-lo) (n-1) (by lia) (by lia);rw[show lo+0=lo by lia,show lo+(t-lo)=t by lia]at a1;rw[show lo+(t-lo)=t by lia,show lo+(n-1)=lo+n-1 by lia]at a2;exact KeyOrd.kle_antisymm a2 (cE mC a1)
     refine aJ (X1 ?_);refine desc _ (B.mir (i:=lo) (j:=lo+n) (aG _) (by lia) (by lia)) λi j gy hj=>?_
     show O.kle (kq ky d (kX (aR cm) lo (lo+n) ((lo+n-lo) / 2)) (lo+j)) (kq ky d (kX (aR cm) lo (lo+n) ((lo+n-lo) / 2)) (lo+i));rw[K1 (by lia) gI,K1 (by lia) gI];by_cases CS:j<n
     ·rw[gI (lo+i) (by lia) (by lia),gI (lo+j) (by lia) (by lia)];exact dm _
     ·have oQ:j=n:=by lia
      subst oQ;by_cases iT:i=j
      ·subst iT;exact dm _
      ·rw[gI (lo+i) (by lia) (by lia)];exact cq gK
   ·have e:n=1:=by lia
    refine desc _ B λi j gy hj=>?_
    by_cases iT:i=j
    ·subst iT;exact dm _
    ·have nD:lo+i=lo+n-1:=by lia
     have AQ:lo+j=lo+n:=by lia
     rw[nD,AQ];exact cq gK
  case desc=>
   intro uv B1 D1;have Cv:=B1.size;refine aJ (N4 ?_);refine aJ (eD (cS (I:=λx c iE=>∃kM,c=(pz,x,kM)/\SB S κ iS iE lo (lo+gd)/\a1t ky d (aR iE) lo x/\kM+1<=x/\∀t,lo+x-(kM+1)<=t->t<lo+x->kq ky d (aR iE) t=kq ky d (aR iE) (lo+x-1))
    (Q:=λc iE=>∃x kM,c=(pz,x,kM)/\n+1<=x/\x<=gd/\SB S κ iS iE lo (lo+gd)/\a1t ky d (aR iE) lo x/\kM+1<=x/\∀t,lo+x-(kM+1)<=t->t<lo+x->kq ky d (aR iE) t=kq ky d (aR iE) (lo+x-1)) ?dstep ?dfin ⟨0,rfl,B1,D1,by lia,λt t1 t2=>by rw[show t=lo+(n+1)-1 by lia]⟩) ?dpost)
   case dfin=>
    rintro c iE ⟨kM,rfl,B2,D2,q1,q2⟩;rw[show max (n+1) gd=gd by lia]at D2 q1 q2 ⊢;exact⟨gd,kM,rfl,by lia,aG _,B2,D2,q1,q2⟩
   case dstep=>
    rintro x c iE uC zX ⟨kM,rfl,B2,D2,q1,q2⟩;have zr:=B2.size
    dsimp only
    refine aJ (G5 H (d:=d) B2 (by lia) (by lia) (j9 (λjg=>?_) λjg=>?_))
    ·have pD:∀xs:Array bC,(∀k,kq ky d xs k=kq ky d (aR iE) k)->a1t ky d xs lo (x+1):=λxs hk=>mM hk (by lia) D2 (cq jg)
     refine j9 (λqI=>?_) λqI=>?_
     ·refine aJ (X1 (aQ ⟨0,rfl,B2.mir (i:=lo+x-(kM+1)) (j:=lo+x) (by lia) (by lia) (by lia),pD _ (K1 (by lia) q2),by lia,λt t1 t2=>by rw[show t=lo+(x+1)-1 by lia]⟩))
     ·exact aQ ⟨0,rfl,B2,pD _ (λ_=>rfl),by lia,λt t1 t2=>by rw[show t=lo+(x+1)-1 by lia]⟩
    ·have jg:=dA.mpr jg;refine aJ (G5 H (d:=d) B2 (by lia) (by lia) (j9 (λjx=>?_) λjx=>?_))
     ·exact aQ ⟨x,kM,rfl,uC,by lia,B2,D2,q1,q2⟩
     ·have jx:=dA.mpr jx;have tF:kq ky d (aR iE) (lo+x)=kq ky d (aR iE) (lo+x-1):=KeyOrd.kle_antisymm jx jg;refine aQ ⟨kM+1,rfl,B2,mM (λ_=>rfl) (by lia) D2 (by rw[tF];exact dm _),by lia,λt t1 t2=>?_⟩;rw[show lo+(x+1)-1=lo+x by lia];by_cases wo:t=lo+x
      ·subst wo;rfl
      ·rw[tF];exact q2 t (by lia) (by lia)
   case dpost=>
    rintro c iE ⟨x,kM,rfl,x1,x2,B2,D2,q1,q2⟩;have zr:=B2.size
    dsimp only
    refine' a4f (P:=λcode=>∀gP:cG,SB S κ iS gP lo (lo+gd)->a1t ky d (aR gP) lo x->pW (aV prog w) A E s code Q gP) _ ?tl λtl=>?mn
    case mn=>
     refine j9 (λqI=>?_) λqI=>?_
     ·refine aJ (X1 ?_);refine tl _ (B2.mir (i:=lo+x-(kM+1)) (j:=lo+x) (by lia) (by lia) (by lia)) λi j gy hj=>?_
      show O.kle (kq ky d (kX (aR iE) (lo+x-(kM+1)) (lo+x) ((lo+x-(lo+x-(kM+1))) / 2)) (lo+j)) (kq ky d (kX (aR iE) (lo+x-(kM+1)) (lo+x) ((lo+x-(lo+x-(kM+1))) / 2)) (lo+i));rw[K1 (by lia) q2,K1 (by lia) q2];exact D2 i j gy hj
     ·exact tl _ B2 D2
    case tl=>
     intro gP B3 D3;have Cu:=B3.size;refine aJ (X1 ?_);have B4:=B3.mir (i:=lo) (j:=lo+x) (aG _) (by lia) (by lia);have A4:AscTo ky d (aR (setArr gP (kX (aR gP) lo (lo+x) ((lo+x-lo) / 2)))) lo x:=λi j gy hj=>by
      show O.kle (kq ky d (kX (aR gP) lo (lo+x) ((lo+x-lo) / 2)) (lo+i)) (kq ky d (kX (aR gP) lo (lo+x) ((lo+x-lo) / 2)) (lo+j));rw[Z4 (by lia),Z4 (by lia),aL (by lia),aL (by lia)];have:=D3 (x-1-j) (x-1-i) (by lia) (by lia);rw[show lo+(x-1-j)=lo+(lo+x)-1-(lo+j) by lia,show lo+(x-1-i)=lo+(lo+x)-1-(lo+i) by lia]at this;exact this
     generalize setArr gP (kX (aR gP) lo (lo+x) ((lo+x-lo) / 2))=iU at B4 A4 ⊢;refine aJ (eD (cS (I:=λy c cm=>cm=iU/\c=(pz,y)/\AscTo ky d (aR iU) lo y)
      (Q:=λc cm=>cm=iU/\∃m,c=(pz,m)/\1<=m/\m<=gd/\AscTo ky d (aR iU) lo m) ?bstep ?bfin ⟨rfl,rfl,A4⟩) ?bpost)
     case bfin=>
      rintro c cm ⟨rfl,rfl,ha⟩;rw[show max x gd=gd by lia]at ha ⊢;exact⟨rfl,gd,rfl,h1,aG _,ha⟩
     case bstep=>
      rintro y c cm CJ CI ⟨rfl,rfl,ha⟩;have Ct:=B4.size
      dsimp only
      exact aJ (G5 H (d:=d) B4 (by lia) (by lia) (j9 (λhb=>aQ ⟨rfl,y,rfl,by lia,by lia,ha⟩) λhb=>aQ ⟨rfl,rfl,mP (by lia) ha (dA.mpr hb)⟩))
     case bpost=>
      rintro c cm ⟨rfl,m,rfl,m1,m2,ha⟩;exact aQ (q m cm B4 m1 m2 ha)
end
section
variable {prog:bo}{w:bJ}{A:bH}{E:ag->aj->Prop}{s:aj}{κ:dz}{O:KeyOrd}{ky:bC->O.α}{S:bC->Prop}{st:cG}
def a2B{xs:Array bC}(hs:src<xs.size)(hd:e<=src)(k:Nat) :
  kq ky d (bubble xs src e) k=if k=src-e then kq ky d xs src else if src-e<k/\k<=src then kq ky d xs (k-1) else kq ky d xs k:=by
 have e:=getElem?_bubble hs e hd k
 split
 ·rename_i h1;rw[aL h1]at e;exact Q9 e
 ·rename_i h1
  rw[aS h1]at e
  split
  ·rename_i h2;rw[aL h2]at e;exact Q9 e
  ·rename_i h2;rw[aS h2]at e;exact Q9 e
def a0C(H:CmpS prog w A s κ O ky S){d:O.α}{iS:cG}{lo hi n ok:Nat}(B:SB S κ iS st lo hi)(hn:lo+n<=(aR iS).size)(hh:lo+n<=hi)(hok:ok<=n)(hs:AscTo ky d (aR st) lo ok){Q:Bool->cG->Prop}
  (q:∀cm,SB S κ iS cm lo hi->AscTo ky d (aR cm) lo n->Q true cm):pW (aV prog w) A E s (binarySort' lo n ok) Q st:=by
 rw[binarySort'_eq];refine aJ (eD (cS (I:=λk c cm=>c=(pz,())/\SB S κ iS cm lo hi/\AscTo ky d (aR cm) lo (min k n))
  (Q:=λc cm=>c=(pz,())/\SB S κ iS cm lo hi/\AscTo ky d (aR cm) lo n) ?step ?fin ?init) ?post)
 case post=>
  rintro c cm ⟨rfl,B',gG⟩;exact aQ (q cm B' gG)
 case init=>
  refine⟨rfl,B,λi j gy hj=>?_⟩;by_cases h1:ok=0
  ·have:i=j:=by lia
   subst this;exact dm _
  ·exact hs i j gy (by lia)
 case fin=>
  rintro c cm ⟨hc,B',gG⟩;refine⟨hc,B',?_⟩
  rwa[show min (max (max ok 1) n) n=n by lia]at gG
 case step=>
  rintro k c cm CY CQ ⟨rfl,B',gG⟩;rw[show min k n=k by lia]at gG;have sz:=B'.size;refine aJ (eD (cS (I:=λx c dS=>dS=cm/\∃l r,c=(pz,l,r)/\l<=r/\r<=k/\r-l<=k-x/\
    (∀i,i<l->O.kle (kq ky d (aR cm) (lo+i)) (kq ky d (aR cm) (lo+k)))/\(∀i,r<=i->i<k->O.klt (kq ky d (aR cm) (lo+k)) (kq ky d (aR cm) (lo+i))))
   (Q:=λc dS=>dS=cm/\∃l r,c=(pz,l,r)/\l<=k/\
    (∀i,i<l->O.kle (kq ky d (aR cm) (lo+i)) (kq ky d (aR cm) (lo+k)))/\(∀i,l<=i->i<k->O.klt (kq ky d (aR cm) (lo+k)) (kq ky d (aR cm) (lo+i)))) ?istep ?ifin ?iinit) ?ipost)
  case iinit=>exact⟨rfl,0,k,rfl,by lia,by lia,by lia,λi hi=>by lia,λi h1 h2=>by lia⟩
  case ifin=>
   rintro c dS ⟨rfl,l,r,rfl,AD,sO,hm,hlo,qQ⟩;have:l=r:=by lia
   subst this;exact⟨rfl,l,l,rfl,sO,hlo,qQ⟩
  case istep=>
   rintro x c dS _ xT ⟨rfl,l,r,rfl,AD,sO,hm,hlo,qQ⟩
   dsimp only
   by_cases rR:l≥r
   ·rw[aL rR];have:l=r:=by lia
    subst this;exact aQ ⟨rfl,l,l,rfl,sO,hlo,qQ⟩
   ·rw[aS rR];refine aJ (G5 H (d:=d) B' (by lia) (by lia) ?_)
    dsimp only
    cases jg:O.blt (kq ky d (aR dS) (lo+k)) (kq ky d (aR dS) (lo+(l+r) / 2)) with
    |true=>
     rw[aL rfl];refine aQ ⟨rfl,l,(l+r) / 2,rfl,by lia,by lia,by lia,hlo,λi h1 h2=>?_⟩;exact dR jg (gG _ _ h1 h2)
    |false=>
     simp only[bR,dq];refine aQ ⟨rfl,(l+r) / 2+1,r,rfl,by lia,by lia,by lia,λi h1=>?_,qQ⟩;exact cE (gG i ((l+r) / 2) (by lia) (by lia)) (show O.kle _ _ from jg)
  case ipost=>
   rintro c dS ⟨rfl,l,r,rfl,yi,hlo,qQ⟩;show pW _ _ _ _ (do moveDown' (lo+k) (lo+l);pure (eA (pz,()))) _ _;rw[moveDown'_eq];have mH:lo+k<(aR dS).size:=by lia
   refine aJ (jW (aQ ⟨rfl,B'.mod (bubble_perm _ _ _) λt ht=>?_,?_⟩))
   ·rw[getElem?_bubble mH _ (by lia),aS (by lia),aS (by lia)]
   rw[show min (k+1) n=k+1 by lia];intro i j gy hj;show O.kle (kq ky d (bubble (aR dS) (lo+k) (lo+k-(lo+l))) (lo+i)) (kq ky d (bubble (aR dS) (lo+k) (lo+k-(lo+l))) (lo+j));rw[a2B mH (by lia),a2B mH (by lia),show lo+k-(lo+k-(lo+l))=lo+l by lia];have jY:∀a b,lo<=a->a<=b->b<lo+k->O.kle (kq ky d (aR dS) a) (kq ky d (aR dS) b):=λa b h1 h2 h3=>by
    have:=gG (a-lo) (b-lo) (by lia) (by lia)
    rwa[show lo+(a-lo)=a by lia,show lo+(b-lo)=b by lia]at this
   have wq:∀a,lo+l<=a->a<lo+k->O.klt (kq ky d (aR dS) (lo+k)) (kq ky d (aR dS) a):=λa h1 h2=>by
    have:=qQ (a-lo) (by lia) (by lia)
    rwa[show lo+(a-lo)=a by lia]at this
   repeat' split
   all_goals first
    | (exfalso;lia)
    |exact dm _
    |exact hlo _ (by lia)
    |exact cq (wq _ (by lia) (by lia))
    |exact jY _ _ (by lia) (by lia) (by lia)
end
section
variable {prog:bo}{w:bJ}{A:bH}{E:ag->aj->Prop}{s:aj}{κ:dz}{O:KeyOrd}{ky:bC->O.α}{S:bC->Prop}{st:cG}
def Chain(ky:bC->O.α)(arr:Array bC):List (Nat×Nat)->Nat->Nat->Prop
 |[],a,b=>a=b
 | (x,n)::l,a,b=>x=a/\0<n/\UpR ky arr x n/\Chain ky arr l (x+n) b
theorem Chain.len:∀{l:List (Nat×Nat)} {a b:Nat},Chain ky arr l a b->a+l.length<=b
 |[],a,b,h=>by have h:a=b:=h;simp;lia
 | (x,n)::l,a,b,⟨e,h0,_,h⟩=>by have:=h.len;rw[aO];lia
theorem Chain.app{arr:Array bC}{l2:List (Nat×Nat)}:∀{l1:List (Nat×Nat)} {a b:Nat},Chain ky arr (l1++l2) a b↔∃c,Chain ky arr l1 a c/\Chain ky arr l2 c b
 |[],a,b=>⟨λh=>⟨a,rfl,h⟩,λ⟨c,e,h⟩=>by have e:a=c:=e;subst e;exact h⟩
 | (x,n)::l,a,b=>by
  show (x=a/\0<n/\UpR ky arr x n/\Chain ky arr (l++l2) (x+n) b)↔_;rw[Chain.app (l1:=l)];exact⟨λ⟨h1,h2,h3,c,h4,h5⟩=>⟨c,⟨h1,h2,h3,h4⟩,h5⟩,λ⟨c,⟨h1,h2,h3,h4⟩,h5⟩=>⟨h1,h2,h3,c,h4,h5⟩⟩
def UpR.congr{arr kj:Array bC}(h:UpR ky arr x n)(e:∀t,x<=t->t<x+n->kj[t]?=arr[t]?):UpR ky kj x n:=λi j hj gy h1 h2=>by
 have ej:=e j (by lia) h2;have ei:=e i h1 (by lia);rw[bp hj]at ej;rw[bp (show i<kj.size by lia)]at ei;obtain⟨j2,BP⟩:=ou.mp ej.symm;obtain⟨i2,BQ⟩:=ou.mp ei.symm;rw[<-BP,<-BQ];exact h i j j2 gy h1 h2
theorem Chain.congr{arr kj:Array bC}:∀{l:List (Nat×Nat)} {a b:Nat},Chain ky arr l a b->(∀t,a<=t->t<b->kj[t]?=arr[t]?)->Chain ky kj l a b
 |[],a,b,h,_=>h
 | (x,n)::l,a,b,⟨e,h0,u,h⟩,he=>by
  have hl:=h.len;exact⟨e,h0,u.congr λt t1 t2=>he t (by lia) (by lia),h.congr λt t1 t2=>he t (by lia) t2⟩
def V5(st:cG):List (Nat×Nat):=(bY st).toList.map λr=>(r.1,r.2.1)
structure RI (S:bC->Prop) (κ:dz) (ky:bC->O.α) (a0:Array bC) (st:cG) (lo:Nat):Prop where
 kind:kindOf st=κ
 fl:eO st=pz
 pm:(aR st).Perm a0
 all:∀i (h:i<(aR st).size),S (aR st)[i]
 ch:Chain ky (aR st) (V5 st) 0 lo
 hlo:lo<=a0.size
theorem RI.size{a0:Array bC}{lo:Nat}(h:RI S κ ky a0 st lo):(aR st).size=a0.size:=by have:=(dZ.mp h.pm).length_eq;simpa using this
def a4g{α:Type}{l:List α}(h:i+1<l.length):l=l.take i++l[i]::l[i+1]::l.drop (i+2):=by
 conv=>lhs;rw[<-fg i l]
 rw[cI (show i<l.length by lia),cI h]
def a2C(l1 l2:List α)(a b v:α):((l1++a::b::l2).set l1.length v).eraseIdx (l1.length+1)=l1++v::l2:=by
 induction l1 with
 |nil=>rfl
 |cons x l1 ih=>simp only[cw,aO,dY,List.eraseIdx_cons_succ,ih]
def a4h(p:Array α)(i:Nat)(v:α):((p.setIfInBounds i v).eraseIdxIfInBounds (i+1)).toList=(p.toList.set i v).eraseIdx (i+1):=by
 obtain⟨l⟩:=p;simp
def RI.merge(H:CmpS prog w A s κ O ky S){a0:Array bC}{lo i:Nat}(R:RI S κ ky a0 st lo)(hi:i+1<(bY st).size){Q:Bool->cG->Prop}
  (q:∀cm,RI S κ ky a0 cm lo->(∀t,lo<=t->(aR cm)[t]?=(aR st)[t]?)->(bY cm).size+1=(bY st).size->Q true cm):pW (aV prog w) A E s (mergeAt' i) Q st:=by
 have hl:i+1<(bY st).toList.length:=by rw[aH];exact hi
 have sp:=a4g hl;have vE:((bY st).toList.take i).length=i:=by rw[cu];lia
 generalize ym:(bY st).toList.take i=l1 at sp vE;generalize sX:(bY st).toList.drop (i+2)=l2 at sp;obtain⟨⟨sa,na,pw⟩,ea⟩:∃x,x=(bY st).toList[i]:=⟨_,rfl⟩;obtain⟨⟨sb,nb,vo⟩,eb⟩:∃x,x=(bY st).toList[i+1]:=⟨_,rfl⟩;rw[<-ea,<-eb]at sp;have p1:(bY st)[i]?=cz (sa,na,pw):=by rw[bp (by lia),ea,bL]
 have p2:(bY st)[i+1]?=cz (sb,nb,vo):=by rw[bp hi,eb,bL]
 have ch:=R.ch;rw[V5,sp,bu,Chain.app]at ch;obtain⟨c,c1,e1,uB,u1,e2,vy,u2,c2⟩:=ch
 dsimp only at e1 uB u1 e2 vy u2 c2
 have cl:=c2.len;have Dk:=c1.len;have sz:=R.size;have xG:=R.hlo;refine a4e H R.kind p1 p2 e2 uB vy (by lia) R.all u1 u2 R.fl λcm k' f' pe F=>q cm ⟨k'.trans R.kind,f',(dZ.mpr F.pm).trans R.pm,λi hi=>?_,?_,xG⟩ (λt ht=>F.out t (by lia)) ?_
 ·have hm:(aR cm)[i]∈(aR st).toList:=F.pm.mem_iff.mp (iC hi);obtain⟨j,hj,e⟩:=jQ.mp hm;rw[<-e,bL];exact R.all j (by simpa using hj)
 ·have e:(bY cm).toList=l1++(sa,na+nb,pw)::l2:=by
   rw[pe,a4h,sp]
   conv=>lhs;rw[<-vE]
   exact a2C _ _ _ _ _
  rw[V5,e,bu,Chain.app];refine⟨c,c1.congr λt _ t2=>F.out t (by lia),e1,by dsimp only;lia,?_,?_⟩
  ·dsimp only
   have:=F.up
   rwa[show sb+nb-sa=na+nb by lia]at this
  ·dsimp only
   rw[show sa+(na+nb)=sb+nb by lia];exact c2.congr λt t1 _=>F.out t (by lia)
 ·have:=fE ir (fE Array.toList pe);rw[a4h,sp]at this;rw[<-vE,a2C]at this;have h2:=fE ir sp;simp only[aH,az,aO]at this h2;lia
end
section
variable {prog:bo}{w:bJ}{A:bH}{E:ag->aj->Prop}{s:aj}{κ:dz}{O:KeyOrd}{ky:bC->O.α}{S:bC->Prop}{st:cG}
def RI.pend{a0:Array bC}{lo:Nat}(R:RI S κ ky a0 st lo){p:Array (Nat×Nat×Nat)}(e:p.toList.map (λr=>(r.1,r.2.1))=V5 st):RI S κ ky a0 (setPending st p) lo:=
 ⟨R.kind,R.fl,R.pm,R.all,by show Chain ky (aR st) (p.toList.map _) 0 lo;rw[e];exact R.ch,R.hlo⟩
theorem RI.push{a0:Array bC}{lo n:Nat}(R:RI S κ ky a0 st lo)(n0:0<n)(hn:lo+n<=a0.size)(u:UpR ky (aR st) lo n):RI S κ ky a0 (setPending st ((bY st).push (lo,n,0))) (lo+n):=
 ⟨R.kind,R.fl,R.pm,R.all,by
  show Chain ky (aR st) (((bY st).push (lo,n,0)).toList.map _) 0 (lo+n);rw[bS,bu,Chain.app];exact⟨lo,R.ch,rfl,n0,u,rfl⟩,hn⟩
def RI.sb{a0:Array bC}{lo hi:Nat}(R:RI S κ ky a0 st lo):SB S κ st st lo hi:=⟨R.kind,R.fl,rfl,Du _,λ_ _=>rfl,R.all⟩
def RI.ofSB{a0:Array bC}{lo hi:Nat}{cm:cG}(R:RI S κ ky a0 st lo)(B:SB S κ st cm lo hi):RI S κ ky a0 cm lo:=
 ⟨B.kind,B.fl,B.pm.trans R.pm,B.all,by
  unfold V5;rw[B.pn];exact R.ch.congr λt _ t2=>B.out t (.inl t2),R.hlo⟩
def b0U[Decidable c](h1:a+1<n)(h2:b+1<n):(if c then a else b)+1<n:=by split<;>assumption
def a1X(p:Array (Nat×Nat×Nat))(i pw:Nat):(p.modify i λ(x,len,_)=>(x,len,pw)).toList.map (λr=>(r.1,r.2.1))=p.toList.map λr=>(r.1,r.2.1):=by
 apply iw;intro k;rw[bE,bE,bT,bT,Array.getElem?_modify]
 split
 ·cases p[k]?<;>rfl
 ·rfl
def a1Y(H:CmpS prog w A s κ O ky S)(d:O.α)(R0:RI S κ ky a0 st 0) 
  (q:∀cm,(aR cm).Perm a0->eO cm=pz->UpA ky (aR cm)->Q () cm):pW (aV prog w) A E s sortRuns' Q st:=by
 rw[sortRuns'_eq];refine aJ (kJ ?_)
 try dsimp only
 simp only[R0.size];refine aJ (eD (cS
  (I:=λx c cm=>∃lo,c=(pz,lo)/\RI S κ ky a0 cm lo/\x<=lo)
  (Q:=λc cm=>c=(pz,a0.size)/\RI S κ ky a0 cm a0.size) ?step ?fin ⟨0,rfl,R0,aG _⟩) ?post)
 case fin=>
  rintro c cm ⟨lo,rfl,R,h⟩;have:=R.hlo;have e:lo=a0.size:=by lia
  subst e;exact⟨rfl,R⟩
 case step=>
  rintro x c cm _ hx ⟨lo,rfl,R,h⟩
  try dsimp only
  have xG:=R.hlo;by_cases c1:lo≥a0.size
  ·rw[aL c1];have e:lo=a0.size:=by lia
   subst e;exact aQ ⟨rfl,R⟩
  rw[aS c1];have sz:=R.size;refine aJ (a1W H (d:=d) R.sb (by lia) (by lia) λm iE B2 m1 m2 A2=>?_)
  try dsimp only
  by_cases c2:m<minRun' a0.size a0.size 0
  case' pos=>
   rw[aL c2];refine aJ (N4 ?_);have f1:lo+min (a0.size-lo) (minRun' a0.size a0.size 0)<=a0.size:=by lia
   have f2:m<=min (a0.size-lo) (minRun' a0.size a0.size 0):=by lia
   generalize min (a0.size-lo) (minRun' a0.size a0.size 0)=n at f1 f2 ⊢;refine aJ (a0C H (d:=d) B2 (by lia) (by lia) f2 A2 λgP B3 A3=>?_);simp only[e_,bR,dq];have n0:0<n:=by lia
   have R3:=R.ofSB B3;have u3:=A3.up
  case' neg=>
   rw[aS c2];obtain⟨n,en⟩:∃n,n=m:=⟨m,rfl⟩;obtain⟨gP,es⟩:∃gP,gP=iE:=⟨iE,rfl⟩;rw[<-en,<-es];have n0:0<n:=by lia
   have f1:lo+n<=a0.size:=by lia
   have R3:RI S κ ky a0 gP lo:=by rw[es];exact R.ofSB B2
   have u3:UpR ky (aR gP) lo n:=by rw[es,en];exact A2.up
  all_goals
   refine aJ (kJ ?_);have fin:∀iU:cG,RI S κ ky a0 iU lo->UpR ky (aR iU) lo n->∃vB,(pz,lo+n)=((pz,vB):Option Unit×Nat)/\RI S κ ky a0 (setPending iU ((bY iU).push (lo,n,0))) vB/\x+1<=vB:=λiU R4 u4=>⟨lo+n,rfl,R4.push n0 f1 u4,by lia⟩
   cases hb:(bY gP).back? with
   |none=>
    try dsimp only
    exact aJ (jW (aQ (fin _ R3 u3)))
   |some r=>
    obtain⟨s1,n1,Cw⟩:=r
    try dsimp only
    refine aJ (eD (cS (I:=λ_ c iU=>c=(pz,())/\RI S κ ky a0 iU lo/\UpR ky (aR iU) lo n) (Q:=λc iU=>c=(pz,())/\RI S κ ky a0 iU lo/\UpR ky (aR iU) lo n) ?_ (λ_ _ hh=>hh) ⟨rfl,R3,u3⟩) ?_)
    ·rintro y c iU _ _ ⟨rfl,R4,u4⟩
     try dsimp only
     refine aJ (kJ ?_);by_cases c3:(bY iU).size>1
     ·rw[aL c3,bp (by lia)];generalize (bY iU)[(bY iU).size-2]'(by lia)=r2;obtain⟨s2,n2,sk⟩:=r2
      try dsimp only
      by_cases c4:sk<=power' a0.size (2*s1+n1) (2*s1+n1+n1+n) a0.size
      ·rw[aL c4];exact aQ ⟨rfl,R4,u4⟩
      ·rw[aS c4];refine aJ (R4.merge H (by lia) λnI R5 o5 _=>?_);simp only[e_,bR,dq];exact aQ ⟨rfl,R5,u4.congr λt t1 _=>o5 t t1⟩
     ·rw[aS c3];exact aQ ⟨rfl,R4,u4⟩
    ·rintro c iU ⟨rfl,R4,u4⟩
     try dsimp only
     exact aJ (jW (aJ (jW (aQ (fin _ (R4.pend (a1X _ _ _)) u4)))))
 case post=>
  rintro c cm ⟨rfl,R⟩
  try dsimp only
  have cl:=R.ch.len;rw[V5,ao,aH]at cl;refine aJ (eD (cS (I:=λx c dS=>c=(pz,())/\RI S κ ky a0 dS a0.size/\(bY dS).size+x<=a0.size) (Q:=λc dS=>c=(pz,())/\RI S κ ky a0 dS a0.size/\(bY dS).size<=1) ?_ ?_ ⟨rfl,R,by lia⟩) ?_)
  ·rintro x c dS _ hx ⟨rfl,R2,h2⟩
   try dsimp only
   refine aJ (kJ ?_);by_cases c1:(bY dS).size<=1
   ·rw[aL c1];exact aQ ⟨rfl,R2,c1⟩
   rw[aS c1];refine aJ (R2.merge H (b0U (by lia) (by lia)) λnI R5 _ e5=>?_);simp only[e_,bR,dq];exact aQ ⟨rfl,R5,by lia⟩
  ·rintro c dS ⟨rfl,R2,h2⟩;exact⟨rfl,R2,by lia⟩
  ·rintro c dS ⟨rfl,R2,h2⟩;refine aQ (q dS R2.pm R2.fl ?_);have ch:=R2.ch;have sz:=R2.size;unfold V5 at ch;generalize hp:(bY dS).toList=l at ch;have hl:l.length<=1:=by rw[<-hp,aH];exact h2
   match l,hl,ch with
   |[],_,ch=>
    have ch:0=a0.size:=ch;intro i j hj gy;lia
   |[(x,n,pw)],_,⟨e1,_,u,e2⟩=>
    have e2:x+n=a0.size:=e2;intro i j hj gy;exact u i j hj gy (by dsimp only at e1 ⊢;lia) (by dsimp only at e1 ⊢;lia)
end
end VS
namespace VS
open PySem PyProof.Rows
open PySem.W (kas_item)
def a7p{α β:Type}{f:α->β}{l l':List β}(h:l.Perm l'):∀m:List α,l'=m.map f->∃m':List α,m'.Perm m/\l=m'.map f:=by
 induction h with
 |nil=>intro m e;exact⟨m,ic _,e⟩
 |cons x _ ih=>
  intro m e
  match m,e with
  |y::m,e=>
   rw[aA,fV]at e;obtain⟨m',p,e2⟩:=ih m e.2;exact⟨y::m',p.cons y,by rw[aA,e.1,e2]⟩
 |swap x y l=>
  intro m e
  match m,e with
  |a::b::m,e=>
   rw[aA,aA,fV,fV]at e;exact⟨b::a::m,List.Perm.swap a b m,by rw[aA,aA,e.1,e.2.1,e.2.2]⟩
 |trans _ _ vI vH=>
  intro m e;obtain⟨m1,p1,e1⟩:=vH m e;obtain⟨m2,p2,e2⟩:=vI m1 e1;exact⟨m2,p2.trans p1,e2⟩
section
variable {prog:bo}{w:bJ}{A:bH}{E:ag->aj->Prop}{s:aj}{κ:dz}{O:KeyOrd}{key:Nat->O.α}{ks vs:List ag}
noncomputable def b0V(key:Nat->O.α)(ks:List ag)(x:bC):O.α:=
 open Classical in if h : ∃ i, i<ks.length /\ ks.getD i ba = x.1 then key h.choose else key 0
def a3j(cong:∀i j,i<ks.length->j<ks.length->ks.getD i ba=ks.getD j ba->key i=key j){x:bC}(hi:i<ks.length)(e:ks.getD i ba=x.1):b0V key ks x=key i:=by
 have h:∃i,i<ks.length/\ks.getD i ba=x.1:=⟨i,hi,e⟩;unfold b0V;rw[dif_pos h];exact cong _ _ h.choose_spec.1 hi (h.choose_spec.2.trans e.symm)
def b0W(hl:ks.length=vs.length)(gK:∀(i j:Nat) (C:Bool->aj->Prop),i<vs.length->j<vs.length->C (O.blt (key i) (key j)) s->be (aV prog w) A (keyLt' κ (ks.getD i ba) (ks.getD j ba)) C (λ_ _=>False) s)
  (cong:∀i j,i<ks.length->j<ks.length->ks.getD i ba=ks.getD j ba->key i=key j) :
  be (aV prog w) A ((sortRuns').run (cG.mk' κ (ks.toArray.zip vs.toArray) #[] 7 pz)) (λr s'=>s'=s/\∃p:Array Nat,aR r.2=p.map (ke (ks.toArray.zip vs.toArray))/\eO r.2=pz/\AllN vs.length p/\a7n key p vs.length) E s:=by
 have zs:(ks.toArray.zip vs.toArray).size=vs.length:=by simp[hl]
 have it:∀i,i<vs.length->ke (ks.toArray.zip vs.toArray) i=(ks.getD i ba,vs.getD i ba):=λi hi=>PySem.W.kat_item hl i
 have hz:∀i (h:i<(ks.toArray.zip vs.toArray).size),(ks.toArray.zip vs.toArray)[i]=(ks.getD i ba,vs.getD i ba):=λi h=>by
  rw[<-it i (by lia)];unfold ke;rw[xy,dif_pos h];rfl
 have H:CmpS prog w A s κ O (b0V key ks) (λx=>∃i,i<vs.length/\x.1=ks.getD i ba):=⟨λx y ⟨i,hi,ei⟩ ⟨j,hj,ej⟩ C hC=>by
  rw[a3j cong (by lia) ei.symm,a3j cong (by lia) ej.symm]at hC;rw[ei,ej];exact gK i j C hi hj hC⟩
 show pW (aV prog w) A E s sortRuns' (λ_ cm=>∃p:Array Nat,aR cm=p.map (ke (ks.toArray.zip vs.toArray))/\eO cm=pz/\AllN vs.length p/\a7n key p vs.length) (cG.mk' κ (ks.toArray.zip vs.toArray) #[] 7 pz);refine a1Y (st:=cG.mk' κ (ks.toArray.zip vs.toArray) #[] 7 pz) H (key 0) (a0:=ks.toArray.zip vs.toArray) ⟨rfl,rfl,Du _,λi h=>⟨i,?_,?_⟩,rfl,cW _⟩ λcm pm fl up=>?_
 ·have h':i<(ks.toArray.zip vs.toArray).size:=h;lia
 ·show (ks.toArray.zip vs.toArray)[i].1=_;rw[hz]
 have el:(ks.toArray.zip vs.toArray).toList=(aW vs.length).map (ke (ks.toArray.zip vs.toArray)):=by
  apply Ci
  ·rw[aH,ao,cQ];exact zs
  intro i h1 h2;rw[bL,dO,xt,hz,it i (by rw[aH]at h1;lia)]
 obtain⟨p,pp,pe⟩:=a7p (dZ.mp pm) _ el;have hp:AllN vs.length p.toArray:=pp;have ea:aR cm=p.toArray.map (ke (ks.toArray.zip vs.toArray)):=by
  apply Array.toList_inj.mp;rw[Array.toList_map,pe]
 refine⟨p.toArray,ea,fl,hp,λi j gy hj=>?_⟩;have fB:p.length=vs.length:=by have:=pp.length_eq;rw[cQ]at this;exact this
 have sz:(aR cm).size=vs.length:=by rw[ea,Array.size_map,bw];exact fB
 have hk:∀t (ht:t<(aR cm).size),b0V key ks (aR cm)[t]=kyP key p.toArray t:=λt ht=>by
  have vM:t<p.length:=by lia
  have hm:p[t]<vs.length:=bX.mp (pp.mem_iff.mp (cF vM));have e1:(aR cm)[t]=ke (ks.toArray.zip vs.toArray) p[t]:=by
   have:(aR cm)[t]?=(p.toArray.map (ke (ks.toArray.zip vs.toArray)))[t]?:=by rw[ea]
   rw[bp ht,Array.getElem?_map]at this;simp only[List.getElem?_toArray,ah vM,Dp,yV]at this;exact this
  rw[e1,it _ hm,a3j cong (i:=p[t]) (by lia) rfl];unfold kyP;simp[xy,vM]
 have:=up i j (by lia) gy;rw[hk i (by lia),hk j (by lia)]at this;exact this
end
end VS
namespace VS
open PySem PySem.Spec L2
open PyProof.Rows (KeyOrd SortKind SortSt keyKind' keyLt' seqObj listItems_at listUpdate_at seqEpoch_at arrOf failedOf get?_update_seq list_sort_plain general' tuples' size_push' slot_list_sort entry_list_sort args_list_sort kind_sorted plain_sorted entry_sorted args_sorted1)
open PySem.W (kas_sort kas_ask kas_item kat_run kat_snds)
section
variable {prog:bo}{w:bJ}{A:bH}{E:ag->aj->Prop}{sh:aj}{vs:List ag}{κ:dz}{O:KeyOrd}{key:Nat->O.α}
def Kept(h h':b_):Prop:=∀b o,h.get? b=cz o->h'.get? b=cz o
def Kept.refl(h:b_):Kept h h:=λ_ _ e=>e
theorem Kept.push(x:Kept h h')(o:eW):Kept h (h'.push o):=λb u e=>aP _ (x b u e)
def Kept.upd(x:Kept h h')(f:eW->eW)(ha:h.objs.size<=a):Kept h (h'.update a f):=λb u e=>by
 rw[kn _ _ (lG (aZ (aN e) ha))];exact x b u e
structure Sortable (prog:bo) (w:bJ) (A:bH) (h0:b_) (ks:List ag) (κ:dz) (O:KeyOrd) (key:Nat->O.α):Prop where
 kind:2<=ks.length->∀(s:aj) (E:ag->aj->Prop) (Q:dz->aj->Prop),Kept h0 s.heap->Q κ s->be (aV prog w) A (keyKind' ks.toArray) Q E s
 lt:∀(s:aj) (i j:Nat) (C:Bool->aj->Prop),Kept h0 s.heap->i<ks.length->j<ks.length->C (O.blt (key i) (key j)) s->be (aV prog w) A (keyLt' κ (ks.getD i ba) (ks.getD j ba)) C (λ_ _=>False) s
 cong:∀i j,i<ks.length->j<ks.length->ks.getD i ba=ks.getD j ba->key i=key j
def a8P(S:Sortable prog w A h0 vs κ O key)(s_:Kept h0 sh.heap)(yC:h0.objs.size<=a)(ho:sh.heap.get? a=cz (jX "list" vs.toArray n))(wQ:vs.length<65536)
  (q:∀(p:Array Nat) (h':b_) (e:Nat),AllN vs.length p->a7n key p vs.length->Kept h0 h'->sh.heap.objs.size<=h'.objs.size->h'.get? a=cz (jX "list" (p.toList.map λi=>vs.getD i ba).toArray e)->P (.done (.ret .none)) {sh with heap:=h'}) :
  be (aV prog w) A (Builtin.«list.sort» ⟨[.ref a],[]⟩) P E sh:=by
 rw[list_sort_plain];have yB:a<sh.heap.objs.size:=aN ho;obtain⟨c1,o1⟩:∃c1,(sh.heap.update a (fT λ_=>(#[]:Array ag))).get? a=cz (jX "list" #[] c1):=⟨_,get?_update_seq ho λ_=>#[]⟩;have rO:vs.length<=bh:=by rw[dD];lia
 refine af (listItems_at ho rfl (af (listUpdate_at ho rfl ?_ (by rw[bw];exact rO) (cW _))));refine af (seqEpoch_at o1 rfl (af (wpAny_newTuple ?_ rO)));refine af (wpAny_newList ?_ (cW _));refine cK ?_
 let l_:b_:=((sh.heap.update a (fT λ_=>(#[]:Array ag))).push (jX "tuple" vs.toArray 0)).push (jX "list" #[] 0)
 have k2:Kept h0 l_:=((s_.upd _ yC).push _).push _;have o2:l_.get? a=cz (jX "list" #[] c1):=aP _ (aP _ o1);have z2:sh.heap.objs.size<=l_.objs.size:=by
  show _<=(((sh.heap.update a (fT λ_=>(#[]:Array ag))).push (jX "tuple" vs.toArray 0)).push (jX "list" #[] 0)).objs.size;rw[size_push',size_push',pq];lia
 show be (aV prog w) A _ P E {sh with heap:=l_};have fin:∀p:Array Nat,AllN vs.length p->a7n key p vs.length->P (.done (.ret .none)) {sh with heap:=l_.update a (fT λ_=>(p.toList.map λi=>vs.getD i ba).toArray)}:=λp hp hu=>by
  obtain⟨c3,o3⟩:∃c3,(l_.update a (fT λ_=>(p.toList.map λi=>vs.getD i ba).toArray)).get? a=cz (jX "list" (p.toList.map λi=>vs.getD i ba).toArray c3):=⟨_,get?_update_seq o2 λ_=>_⟩;exact q p _ c3 hp hu (k2.upd _ yC) (by rw[pq];exact z2) o3
 dsimp only
 by_cases h2:vs.toArray.size<2
 ·rw[aL h2,aL h2];refine af (aE ?_);rw[StateT.run_pure];refine af (aE ?_);have sX:vs.length<2:=by simpa using h2
  have f:=fin (List.toArray (aW vs.length)) (ic _) λi j a b=>by
   obtain rfl:i=j:=by lia
   exact dm _
  have e:(List.toArray (aW vs.length)).toList.map (λi=>vs.getD i ba)=vs:=by
   match vs,sX with
   |[],_=>rfl
   |[v],_=>rfl
   |_::_::_,h=>simp at h;lia
  rw[e]at f;have ez:(aR (cG.mk' general' (vs.toArray.zip vs.toArray) #[] 7 pz)).map (·.2)=vs.toArray:=by
   show (vs.toArray.zip vs.toArray).map (·.2)=vs.toArray;simp[List.map_snd_zip]
  dsimp only
  rw[ez];refine af (seqEpoch_at o2 rfl (af (listUpdate_at o2 rfl ?_ (cW _) (by rw[bw];exact yW rO))));simp only[yQ,bR,dq];exact aE f
 ·rw[aS h2,aS h2];have CP:¬ vs.length<2:=by simpa using h2
  have sX:2<=vs.length:=by lia
  refine af (S.kind sX {sh with heap:=l_} _ _ k2 ?_);refine af (cM (b0W (key:=key) rfl (λi j C hi hj hC=>S.lt {sh with heap:=l_} i j C k2 hi hj hC) S.cong) ?_ λ_ _ e=>e);rintro⟨⟨⟩,cm⟩ s' ⟨rfl,p,Bt,hf,hp,hu⟩
  dsimp only
  rw[kat_snds rfl Bt];have fB:(p.toList.map λi=>vs.getD i ba).length<=bh:=by rw[ao,hp.length_eq,cQ];exact rO
  refine af (seqEpoch_at o2 rfl (af (listUpdate_at o2 rfl ?_ (cW _) (by rw[bw];exact yW fB))));rw[hf];simp only[yQ,bR,dq];exact aE (fin p hp hu)
def Gives(prog:bo)(w:bJ)(A:bH)(sh:aj)(r:ag)(vs:List ag):Prop:=
 ∀(E:ag->aj->Prop) (Q:List ag->aj->Prop),(∀(h':b_) (tk:Nat),Kept sh.heap h'->sh.heap.objs.size<=h'.objs.size->Q vs {sh with heap:=h',toks:=tk})->be (aV prog w) A (collect r) Q E sh
def a7q(hg:Gives prog w A.in1 sh r vs)(S:Sortable prog w A.in1.in1 sh.heap vs κ O key)(wQ:vs.length<65536)
  (q:∀(p:Array Nat) (h':b_) (tk e:Nat) (z:au),AllN vs.length p->a7n key p vs.length->Kept sh.heap h'->sh.heap.objs.size<=z->h'.get? z=cz (jX "list" (p.toList.map λi=>vs.getD i ba).toArray e)->Q (.ref z) {sh with heap:=h',toks:=tk}) :
  be (aV prog w) A (call (.builtin "sorted") [r]) Q E sh:=by
 refine Calls.call_function_entry kind_sorted plain_sorted entry_sorted (args_sorted1 _) ?_;unfold Builtin.«sorted»;refine af (m:=checkCount "sorted" 1 1 _) (aE ?_);refine af (hg _ _ λh1 tk k1 z1=>?_);refine af (wpAny_newList ?_ (by rw[dD];lia));have oL:(h1.push (jX "list" vs.toArray 0)).get? h1.objs.size=cz (jX "list" vs.toArray 0):=bz _ rfl;refine af (cK (et slot_list_sort ⟨_,oL,rfl⟩ entry_list_sort (a8P (sh:={sh with heap:=h1.push (jX "list" vs.toArray 0),toks:=tk}) S (k1.push _) z1 oL wQ λp h' e hp hu hk hz ho=>⟨_,rfl,?_⟩) (args_list_sort _)));exact aE ⟨_,rfl,q p h' tk e h1.objs.size hp hu hk z1 ho⟩
def a5l(hl:sh.heap.IsList l vs.toArray)(hz:vs.length<=bh):Gives prog w A sh (.ref l) vs:=λE Q q=>
 PyProof.Rows.collect_list hl (q _ sh.toks (((Kept.refl _).push _).upd _ (aG _)) (by rw[pq,size_push'];exact um _)) hz
def a5m(hh:A.handled=pz)(h0:(d==eB)=false)(hm:sh.heap.RawDict d rows ep)(hz:rows.size<=bh):Gives prog w A sh (.ref d) (rows.toList.map (·.key)):=λE Q q=>by
 have hd:d<sh.heap.objs.size:=let⟨_,hu,_⟩:=hm;aN hu
 have fin:∀(h':b_) (tk:Nat) (acc:Array ag) (c:Nat),(∀b o,b≠sh.heap.objs.size->(sh.heap.push {cls:=.type "list",data:=.seq ([]:List ag).toArray}).get? b=cz o->h'.get? b=cz o)->
   h'.get? sh.heap.objs.size=cz {cls:=.type "list",dict:=pz,data:=.seq acc c,slots:=#[]}->ItemsOf (λi v=>∃e,rows[i]?=cz e/\v=e.key) acc rows.size->Q acc.toList {sh with heap:=h',toks:=tk}:=by
  intro h' tk acc c hk hS mf;have e:acc.toList=rows.toList.map (·.key):=by
   refine iw λi=>?_
   rw[bE,bT,bT];by_cases c:i<rows.size
   ·obtain⟨x,hx⟩:∃x,acc[i]?=cz x:=⟨_,bp (by rw[mf.1];exact c)⟩;obtain⟨y,h1,h2⟩:=mf.2 i x hx;rw[hx,h1,h2];rfl
   ·rw[dh (by rw[mf.1];lia),dh (by lia)];rfl
  rw[e];exact q h' tk (λb o x=>hk b o (bP (aN x)) (aP _ x)) (dH (aN hS))
 unfold collect;refine af (wpAny_runValue (rl PyProof.Rows.entry_proto_collect' ?_));rw[bH.under_plainId PySem.F.plain_proto_collect _];show be _ A.in1 (newList [] >>= λl=>again (.builtin "list.__iadd__" ⟨[l,.ref d],[]⟩)) _ _ sh;refine af (gz (aE ⟨plainId_quiet pP _,rl PyProof.Rows.entry_list_iadd' ?_⟩));rw[bH.under_plainId pP _];show be _ A.in1 (Builtin.List.listExtendWith (.ref sh.heap.objs.size) (.ref d) (.ref sh.heap.objs.size)) _ _ _;refine cM (W.kdl_extend (A:=A) (s:={sh with heap:=sh.heap.push {cls:=.type "list",data:=.seq ([]:List ag).toArray}})
  (R:=λ(g:Result) (s':aj)=>∃(h':b_) (tk:Nat) (acc:Array ag) (c:Nat),g=.ok (.ret (.ref sh.heap.objs.size))/\s'={sh with heap:=h',toks:=tk}/\
   h'.get? sh.heap.objs.size=cz {cls:=.type "list",dict:=pz,data:=.seq acc c,slots:=#[]}/\Q acc.toList {sh with heap:=h',toks:=tk})
  (b0S (ep:=ep) h0) hh (hm.at λo e=>aP _ e) sh.heap.objs.size (lG hd) (lG hd) (.ref sh.heap.objs.size) 0 (bz _ rfl)
  (λh' tk acc c hk hS mf=>⟨h',tk,acc,c,rfl,rfl,hS,fin h' tk acc c hk hS mf⟩) hz) (λg s' x=>?_) λe s' x=>?_
 ·cases g with
  |done f=>
   obtain⟨h',tk,acc,c,e,rfl,hS,qq⟩:=x;cases e
   show be _ A (load sh.heap.objs.size >>= _) _ _ _;exact af (wpAny_load hS (aE qq))
  |again c₁=>
   refine⟨x.1,gB x.2 λg s₂ y=>?_⟩;obtain⟨h',tk,acc,c,rfl,rfl,hS,qq⟩:=y;show be _ A (load sh.heap.objs.size >>= _) _ _ _;exact af (wpAny_load hS (aE qq))
 ·obtain⟨_,_,_,_,e',_⟩:=x;cases e'
end
end VS
namespace VS
open PySem PySem.Spec L2
open PyProof.Rows (KeyOrd SortKind keyKind' keyLt' tuples' oneType' IntsAre oneLt')
open PySem.W (KatLex KatTups BoolBack)
def C6:List Int->List Int->Bool
 |[],[]=>false
 |[],_::_=>true
 |_::_,[]=>false
 |a::x,b::y=>if a=b then C6 x y else decide (a<b)
theorem a1u:∀a,C6 a a=false
 |[]=>rfl
 |a::x=>by rw[C6,aL rfl];exact a1u x
theorem O9:∀a b,C6 a b=false->C6 b a=false->a=b
 |[],[],_,_=>rfl
 |[],_::_,h,_=>by cases h
 |_::_,[],_,h=>by cases h
 |a::x,b::y,h1,h2=>by
  rw[C6]at h1 h2;by_cases c:a=b
  ·subst c;rw[aL rfl]at h1 h2;rw[O9 x y h1 h2]
  ·rw[aS c]at h1;rw[aS (λz=>c z.symm)]at h2;have:=vt h1;have:=vt h2;lia
theorem P0:∀a b c,C6 a b=true->C6 b c=true->C6 a c=true
 |[],[],_,h,_=>by cases h
 |[],_::_,[],_,h=>by cases h
 |[],_::_,_::_,_,_=>rfl
 |_::_,[],_,h,_=>by cases h
 |_::_,_::_,[],_,h=>by cases h
 |a::x,b::y,c::z,h1,h2=>by
  rw[C6]at h1 h2 ⊢;by_cases e1:a=b
  ·subst e1;rw[aL rfl]at h1;by_cases e2:a=c
   ·rw[aL e2]at h2 ⊢;exact P0 x y z h1 h2
   ·rw[aS e2]at h2 ⊢;exact h2
  ·rw[aS e1]at h1;have q1:=bN h1;by_cases e2:b=c
   ·subst e2;rw[aS e1];exact h1
   ·rw[aS e2]at h2;have q2:=bN h2;rw[aS (by lia)];exact aU (by lia)
def a7r(h:C6 a b=true):C6 b a=false:=by
 cases c:C6 b a with
 |false=>rfl
 |true=>rw[<-a1u a,P0 _ _ _ h c]
def a8Q(a b c:List Int)(h:C6 a c=true):C6 a b=true∨C6 b c=true:=by
 cases h1:C6 a b with
 |true=>exact .inl rfl
 |false=>
  refine .inr ?_;cases h2:C6 b a with
  |true=>exact P0 _ _ _ h2 h
  |false=>rw[<-O9 a b h1 h2];exact h
def OI:KeyOrd:=⟨List Int,C6,a1u,P0,a8Q,O9⟩
def a5n(fin:Bool):List Int->List Int->Bool
 |n::ns,m::ms=>if n=m then a5n fin ns ms else decide (n<m)
 |_,_=>fin
theorem a6q:∀ns ms:List Int,a5n (decide (ns.length<ms.length)) ns ms=C6 ns ms
 |[],[]=>rfl
 |[],_::_=>by simp[a5n,C6]
 |_::_,[]=>by simp[a5n,C6]
 |n::ns,m::ms=>by
  rw[a5n,C6,<-a6q ns ms];simp
def a4i(kt:Bool)(h:b_)(v:ag)(ns:List Int):Prop:=
 if kt then ∃a o xs m,v=.ref a/\h.get? a=cz o/\o.cls=.type "tuple"/\o.data=.seq xs m/\IntsAre xs.toList ns else ∃n t,v=.int n t/\ns=[n]
def a0n(h:IntsAre vs ns):vs.length=ns.length:=by
 induction h with
 |nil=>rfl
 |cons _ _ _ ih=>rw[aO,aO,ih]
section
variable {prog:bo}{w:bJ}{A:bH}{s:aj}{Q:Bool->aj->Prop}
theorem a8R:∀{xs:List ag} {ns:List Int},IntsAre xs ns->∀{ys:List ag} {ms:List Int},IntsAre ys ms->∀(i:Nat) (b fin:Bool),Q (a5n fin ns ms) s->KatLex prog w A b fin Q (xs.zip ys) i s
 |_,_,.nil,_,_,_,_,_,_,q=>q
 |_,_,.cons _ _ _,_,_,.nil,_,_,_,q=>q
 |_,_,.cons n t hx,_,_,.cons m t' hy,i,b,fin,q=>by
  rw[dX];refine W.kat_cons (wpAny_eqBool_int ?_);rw[a5n]at q;by_cases c:n=m
  ·rw[aL c]at q;rw[show (n==m)=true by simp[c]];exact W.kat_yes (a8R hx hy (i+1) b fin q)
  ·rw[aS c]at q;rw[show (n==m)=false by simp[c]];refine W.kat_no ?_;cases b&&i==0 with
   |true=>exact PyProof.Rows.oneLt_int q
   |false=>exact W.kat_one _ _ (wpAny_lt_int q)
theorem a6r:∀{vs:List ag} {nss:List (List Int)},vs.length=nss.length->(∀i,i<vs.length->a4i true h (vs.getD i ba) (nss.getD i []))->(∀i,i<vs.length->nss.getD i []≠[])->
  ∃fs,KatTups h vs fs/\fs.length=vs.length/\∀v∈fs,∃n t,v=jM n t
 |[],_,_,_,_=>⟨[],trivial,rfl,λ_ h=>(nomatch h)⟩
 |v::vs,[],hl,_,_=>by simp at hl
 |v::vs,ns::nss,hl,hv,gU=>by
  obtain⟨fs,h1,h2,h3⟩:=a6r (vs:=vs) (nss:=nss) (by simpa using hl) (λi hi=>by have:=hv (i+1) (by simpa using hi);simpa using this) λi hi=>by have:=gU (i+1) (by simpa using hi);simpa using this
  obtain⟨a,o,xs,m,e,ho,hc,hd,hx⟩:=(show a4i true h v ns from hv 0 (Cf _));have hn:ns≠[]:=gU 0 (Cf _);obtain⟨x,oG,n,t,zW⟩:∃x,xs[0]?=cz x/\∃n t,x=jM n t:=by
   cases sH:xs.toList with
   |nil=>rw[sH]at hx;cases hx;exact absurd rfl hn
   |cons x r=>
    rw[sH]at hx;cases hx with
    |cons n t _=>exact⟨_,by rw[<-bT,sH];rfl,n,t,rfl⟩
  refine⟨x::fs,⟨⟨a,o,xs,m,e,ho,hc,hd,oG⟩,h1⟩,by rw[aO,aO,h2],λy hy=>?_⟩;rcases aF.mp hy with z|z
  ·rw[z];exact⟨n,t,zW⟩
  ·exact h3 y z
def a3k(x:a4i kt h v ns)(k:Kept h h'):a4i kt h' v ns:=by
 cases kt with
 |false=>exact x
 |true=>
  obtain⟨a,o,xs,m,e,ho,r⟩:=(show ∃a o xs m,v=.ref a/\h.get? a=cz o/\o.cls=.type "tuple"/\o.data=.seq xs m/\IntsAre xs.toList ns from x);exact (show ∃a o xs m,v=.ref a/\h'.get? a=cz o/\o.cls=.type "tuple"/\o.data=.seq xs m/\IntsAre xs.toList ns from⟨a,o,xs,m,e,k _ _ ho,r⟩)
def a4j(h:IntsAre vs ns)(g:IntsAre vs ms):ns=ms:=by
 induction h generalizing ms with
 |nil=>cases g;rfl
 |cons n t _ ih=>cases g with|cons _ _ g=>rw[ih g]
def a8S(x:a4i kt h v ns)(y:a4i kt h v ms):ns=ms:=by
 cases kt with
 |false=>
  obtain⟨n,t,rfl,rfl⟩:=(show ∃n t,v=.int n t/\ns=[n] from x);obtain⟨m,u,e,rfl⟩:=(show ∃m u,jM n t=.int m u/\ms=[m] from y);cases e
  rfl
 |true=>
  obtain⟨a,o,xs,m,rfl,ho,_,hd,hx⟩:=(show ∃a o xs m,v=.ref a/\h.get? a=cz o/\o.cls=.type "tuple"/\o.data=.seq xs m/\IntsAre xs.toList ns from x);obtain⟨b,o',ys,m',e,lS,_,gR,hy⟩:=(show ∃b o xs m,bG a=.ref b/\h.get? b=cz o/\o.cls=.type "tuple"/\o.data=.seq xs m/\IntsAre xs.toList ms from y);cases e
  rw[ho]at lS;cases lS
  rw[hd]at gR;cases gR
  exact a4j hx hy
def b1R(kt:Bool):dz:=if kt then tuples' true else oneType'
def a1Z{vs:List ag}{nss:List (List Int)}(hl:vs.length=nss.length)(hv:∀i,i<vs.length->a4i kt h0 (vs.getD i ba) (nss.getD i []))
  (gU:kt=true->2<=vs.length->∀i,i<vs.length->nss.getD i []≠[]):Sortable prog w A h0 vs (b1R kt) OI (λi=>nss.getD i []) where
 kind:=λh2 s E Q hk q=>by
  cases kt with
  |false=>
   refine W.kas_kind (T:=fQ "int") h2 (λv sJ=>?_) rfl rfl q;obtain⟨i,hi⟩:=cO.mp sJ;have gK:=(aT.mp hi).1;obtain⟨n,t,e,_⟩:=(show ∃n t,vs.getD i ba=.int n t/\nss.getD i []=[n] from hv i gK);rw[ai,hi]at e;cases e
   exact λA Q E s _ q=>aE q
  |true=>
   obtain⟨fs,h1,jy,h3⟩:=a6r hl (λi hi=>a3k (hv i hi) hk) (gU rfl h2);refine W.kat_kind (T:=fQ "int") h1 (by lia) (λv sJ=>?_) rfl q;obtain⟨n,t,rfl⟩:=h3 v sJ;exact λA Q E s _ q=>aE q
 cong:=λi j hi hj e=>a8S (hv i hi) (by rw[e];exact hv j hj)
 lt:=λs i j C hk hi hj q=>by
  have vi:=a3k (hv i hi) hk;have vj:=a3k (hv j hj) hk;cases kt with
  |false=>
   obtain⟨n,t,e1,e2⟩:=(show ∃n t,vs.getD i ba=.int n t/\nss.getD i []=[n] from vi);obtain⟨m,t',e3,e4⟩:=(show ∃n t,vs.getD j ba=.int n t/\nss.getD j []=[n] from vj);rw[e1,e3];refine W.kat_lt_int ?_;have q':C (C6 (nss.getD i []) (nss.getD j [])) s:=q;rw[e2,e4,C6]at q';by_cases c:n=m
   ·rw[aL c]at q';rw[show decide (n<m)=false from bt (by lia)];exact q'
   ·rw[aS c]at q';exact q'
  |true=>
   obtain⟨a,o,xs,k,e1,ho,hc,hd,hx⟩:=(show ∃a o xs m,vs.getD i ba=.ref a/\s.heap.get? a=cz o/\o.cls=.type "tuple"/\o.data=.seq xs m/\IntsAre xs.toList (nss.getD i []) from vi);obtain⟨a',o',ys,k',e2,lS,ox,gR,hy⟩:=(show ∃a o xs m,vs.getD j ba=.ref a/\s.heap.get? a=cz o/\o.cls=.type "tuple"/\o.data=.seq xs m/\IntsAre xs.toList (nss.getD j []) from vj);rw[e1,e2];refine W.kat_lt ho hd lS gR (a8R hx hy 0 true _ ?_);have z1:=a0n hx;have z2:=a0n hy;rw[aH]at z1 z2;rw[z1,z2,a6q];exact q
end
end VS
namespace VS
open PySem PySem.Spec L2
open PyProof.Rows (IntsAre seqObj)
def a7s(n:List Int):List (List Int)->List (List Int)
 |[]=>[n]
 |m::ms=>if C6 m n then m::a7s n ms else n::m::ms
def P4:List (List Int)->List (List Int)
 |[]=>[]
 |n::ns=>a7s n (P4 ns)
def leL(a b:List Int):Prop:=C6 b a=false
def a7t(h1:leL a b)(h2:leL b c):leL a c:=PyProof.Rows.KeyOrd.kle_trans (O:=OI) h1 h2
theorem Z5(n:List Int):∀ms,(a7s n ms).Perm (n::ms)
 |[]=>ic _
 |m::ms=>by
  unfold a7s;by_cases c:C6 m n=true
  ·rw[aL c];exact ((Z5 n ms).cons m).trans (List.Perm.swap n m ms)
  ·rw[aS c]
theorem N6:∀ns,(P4 ns).Perm ns
 |[]=>ic _
 |n::ns=>(Z5 n (P4 ns)).trans ((N6 ns).cons n)
theorem a0o(n:List Int):∀ms:List (List Int),ms.Pairwise leL->(a7s n ms).Pairwise leL
 |[],_=>dg ..
 |m::ms,h=>by
  unfold a7s;obtain⟨h1,h2⟩:=eU.mp h;by_cases c:C6 m n=true
  ·rw[aL c];refine eU.mpr ⟨λx hx=>?_,a0o n ms h2⟩;rcases aF.mp ((Z5 n ms).mem_iff.mp hx) with z|z
   ·rw[z];exact a7r c
   ·exact h1 x z
  ·rw[aS c];have uM:leL n m:=by simpa[leL]using c
   refine eU.mpr ⟨λx hx=>?_,h⟩;rcases aF.mp hx with z|z
   ·rw[z];exact uM
   ·exact a7t uM (h1 x z)
theorem R1:∀ns:List (List Int),(P4 ns).Pairwise leL
 |[]=>lI
 |n::ns=>a0o n _ (R1 ns)
def a2D{a b:List (List Int)}(hp:a.Perm b)(ha:a.Pairwise leL):a=P4 b:=
 List.Perm.eq_of_pairwise (λx y _ _ h1 h2=>O9 _ _ h2 h1) ha (R1 b) (hp.trans (N6 b).symm)
def kD(kt:Bool)(ns:List Int):D:=if kt then .tuple (ns.map .int) else .int (ns.headD 0)
def b3x(kt:Bool):D->Option (List Int)
 |.int n=>if kt then pz else cz [n]
 |.tuple ds=>if kt then intsOf ds else pz
 |_=>pz
def a2E(kt:Bool):List D->Option (List (List Int))
 |[]=>cz []
 |d::ds=>(b3x kt d).bind λns=>(a2E kt ds).bind λr=>cz (ns::r)
def okK(kt:Bool)(nss:List (List Int)):Bool:=decide (nss.length<65536)&&(!kt||decide (nss.length<2)||nss.all λns=>!ns.isEmpty)
def Z6(kt:Bool)(ks:List D):Option D:=(a2E kt ks).bind λnss=>if okK kt nss then cz (.list ((P4 nss).map (kD kt))) else pz
def a7u(h:b3x kt d=cz ns):d=kD kt ns/\(kt=false->ns.length=1):=by
 cases d with
 |int n=>
  cases kt with
  |true=>cases h
  |false=>cases h;exact⟨rfl,λ_=>rfl⟩
 |tuple ds=>
  cases kt with
  |false=>cases h
  |true=>
   have h':intsOf ds=cz ns:=h;cases a0l h'
   exact⟨rfl,λz=>by cases z⟩
 |_=>cases h
theorem V6:∀{ds:List D} {nss:List (List Int)},a2E kt ds=cz nss->ds=nss.map (kD kt)/\(kt=false->∀ns∈nss,ns.length=1)
 |[],nss,h=>by cases h;exact⟨rfl,λ_ _ z=>(nomatch z)⟩
 |d::ds,nss,h=>by
  obtain⟨ns,h1,h⟩:=bnd (show (b3x kt d).bind _=cz nss from h);obtain⟨r,h2,h3⟩:=bnd h;cases h3
  obtain⟨e1,e2⟩:=a7u h1;obtain⟨e3,e4⟩:=V6 h2;refine⟨by rw[aA,<-e1,<-e3],λz x hx=>?_⟩;rcases aF.mp hx with y|y
  ·rw[y];exact e2 z
  ·exact e4 z x y
def b3y(kt:Bool)(ns:List Int):imm (kD kt ns)=true:=by
 cases kt with
 |false=>simp only[kD,bR,dq,imm]
 |true=>simp only[kD,nz,imm];exact b5y ns
theorem a3l(kt:Bool):∀nss:List (List Int),f8 (nss.map (kD kt))=true
 |[]=>by simp only[cY,f8]
 |ns::nss=>by simp only[aA,f8,b3y,a3l kt nss,eG]
def a4k:∀{ns:List Int} {xs:List V},DenAll K H xs (ns.map .int)->xs=ns.map V.int:=by
 intro ns
 induction ns with
 |nil=>intro xs h;exact h.nil_inv
 |cons n ns ih=>
  intro xs h;obtain⟨v,r,rfl,h1,h2⟩:=h.cons_inv;rw[h1.int_inv,ih h2];rfl
section
variable {X:Cx}{pins:List (au×eW)}{σ:L2.St}{H:Hp}{s:aj}
def b0X(I:Inv X pins σ H s)(h:Den X.K H v (kD kt ns))(r:RelV v u)(h1:kt=false->ns.length=1):a4i kt s.heap u ns:=by
 cases kt with
 |false=>
  have h':Den X.K H v (.int (ns.headD 0)):=h;rw[h'.int_inv]at r;obtain⟨t,rfl⟩:=r;refine (show ∃n t',jM (ns.headD 0) t=.int n t'/\ns=[n] from⟨_,_,rfl,?_⟩)
  match ns,h1 rfl with
  |[n],_=>rfl
 |true=>
  have h':Den X.K H v (.tuple (ns.map .int)):=h;obtain⟨a,xs,rfl,h2,h3⟩:=h'.tup_inv;cases a4k h3
  cases (show u=bG a from r)
  obtain⟨cN,rv,⟨o,ho,hc,n,hd⟩,_⟩:=I.tuple h2;exact (show ∃a' o xs m,bG a=.ref a'/\s.heap.get? a'=cz o/\o.cls=.type "tuple"/\o.data=.seq xs m/\IntsAre xs.toList ns from⟨a,o,cN.toArray,n,rfl,ho,hc,hd,by simpa using a2A rv⟩)
def b0Y{key:Nat->List Int}{p:Array Nat}(hp:AllN N p)(hu:a7n (O:=OI) key p N):(p.toList.map key).Pairwise leL:=by
 rw[oD];intro i j hi hj gy;rw[ao,aH,hp.size]at hi hj;have z:=hu i j (dH gy) hj;have e:∀k (hk:k<N),kyP (O:=OI) key p k=(p.toList.map key)[k]'(by rw[ao,aH,hp.size];exact hk):=λk hk=>by
  have qN:k<p.size:=by rw[hp.size];exact hk
  simp only[kyP,dO,bL]
  congr 1;simp[xy,qN]
 rw[e i hi,e j hj]at z;exact z
def a2a:∀{l:List α} {p:List Nat},p.Perm (aW l.length)->(p.map λi=>l.getD i d).Perm l:=by
 intro l p h;refine (h.map _).trans (List.Perm.of_eq ?_);refine iw λi=>?_
 rw[bE];by_cases c:i<l.length
 ·rw[km c,Dp,ah c,ai,ah c];rfl
 ·rw[ju (by simpa using c),ju (by simpa using c)];rfl
def sorted_out{nss:List (List Int)}(I:Inv X pins σ H s)(hg:Gives X.prog X.w X.A.in1 s r us)(rv:Vals xs us)(hd:DenAll X.K H xs (nss.map (kD kt)))
  (h1:kt=false->∀ns∈nss,ns.length=1) (hk:okK kt nss=true) (q:∀z out,H z=pz->DenAll X.K H out ((P4 nss).map (kD kt))->Q (.ref z) (upd H z (.lst out))) :
  be (aV X.prog X.w) X.A (call (.builtin "sorted") [r]) (EP X pins σ Q) X.xe s:=by
 have hlen:xs.length=nss.length:=by rw[hd.length,ao]
 have xY:us.length=nss.length:=by rw[<-rv.length];exact hlen
 rw[okK,aC]at hk;have wQ:nss.length<65536:=bN hk.1;have rel:∀i,i<us.length->RelV (xs.getD i .non) (us.getD i ba)/\Den X.K H (xs.getD i .non) (kD kt (nss.getD i [])):=λi hi=>by
  have iT:i<nss.length:=by lia
  have e1:(nss.map (kD kt))[i]?=cz (kD kt (nss.getD i [])):=by rw[bE,ah iT,ai,ah iT];rfl
  obtain⟨v,hv,dv⟩:=hd.get e1;obtain⟨u,hu,ru⟩:=rv.get hv;rw[ai,hv,ai,hu];exact⟨ru,dv⟩
 refine a7q (κ:=b1R kt) (O:=OI) (key:=λi=>nss.getD i []) hg (a1Z xY (λi hi=>b0X I (rel i hi).2 (rel i hi).1 λz=>?_) λwg h2 i hi=>?_) (by lia) λp h' tk e z hp hu AI hz ho=>?_
 ·have iT:i<nss.length:=by lia
  rw[ai,ah iT];exact h1 z _ (cF iT)
 ·have iT:i<nss.length:=by lia
  have hb:=hk.2;rw[wg]at hb;have jy:¬ nss.length<2:=by lia
  simp only[e_,Bool.false_or,bt jy,cZ,ze,List.isEmpty_eq_false_iff]at hb;rw[ai,ah iT];exact hb _ (cF iT)
 ·rw[xY]at hp hu;have kB:H z=pz:=I.hok.fresh hz;have fB:p.toList.length=nss.length:=by rw[hp.length_eq,cQ]
  have hv:Vals (p.toList.map λi=>xs.getD i .non) (p.toList.map λi=>us.getD i ba):=by
   refine a6n (by rw[ao,ao]) λi x u g1 g2=>?_
   rw[bE]at g1 g2;obtain⟨j,j1,rfl⟩:=rz.mp g1;rw[j1]at g2;cases g2
   have:j∈aW nss.length:=hp.mem_iff.mp (bA j1);exact (rel j (by have:=bX.mp this;lia)).1
  refine⟨.ref z,_,I.laid (a:=z) (o:=.lst (p.toList.map λi=>xs.getD i .non)) (t':=tk) AI hz ⟨by rw[ao,fB,dD];lia,_,e,hv,ho⟩,rfl,q z _ kB ?_⟩;rw[<-a2D (a:=p.toList.map λi=>nss.getD i []) (a2a hp) (b0Y hp hu),dI];have:∀l:List Nat,(∀j∈l,j<nss.length)->DenAll X.K H (l.map λi=>xs.getD i .non) (l.map (kD kt ∘ λi=>nss.getD i [])):=by
   intro l
   induction l with
   |nil=>intro _;exact denAll_nil
   |cons j l ih=>intro hj;exact denAll_cons (rel j (by have:=hj j aD;lia)).2 (ih λk hk=>hj k (av _ hk))
  exact this _ λj hj=>bX.mp (hp.mem_iff.mp hj)
end
section
variable {X:Cx}{M:List Md}{a:Expr}{fa:EvE}{ca:Cat}{pos p:eH}
def a5o(hc:X.calm=true)(kt:Bool):CallR X (.builtin "sorted") (λxs H Q=>∃p es nss,xs=[.ref p]/\H p=cz (j0 p es)/\DenAll X.K H (es.map (·.2.1)) (nss.map (kD kt))/\(kt=false->∀ns∈nss,ns.length=1)/\okK kt nss=true/\∀z out,H z=pz->DenAll X.K H out ((P4 nss).map (kD kt))->Q (.ref z) (upd H z (.lst out))):=by
 intro pins s σ H xs us Q I rv h;obtain⟨p,es,nss,rfl,hH,hd,h1,hk,q⟩:=h;obtain⟨u,rfl,rx⟩:=vals1 rv;cases (show u=bG p from rx)
 obtain⟨h0,hl,hn,o,ents,ep,g1,g2,g3,g4⟩:=J8 I hH;refine sorted_out I (a5m (by simpa using I.ok.hd hc) h0 ⟨o,g1,g2,g3⟩ (by have z:=gh g4;have z2:ents.toList.length=ents.size:=aH;lia)) ?_ hd h1 hk q;have:∀{es:List (D×V×V)} {l:List fX},fI Q2 es l->Vals (es.map (·.2.1)) (l.map (·.key)):=by
  intro es l h
  induction h with
  |nil=>exact .nil
  |cons r _ ih=>exact .cons r.2.1 ih
 exact this g4
def a5p(kt:Bool):CallR X (.builtin "sorted") (λxs H Q=>∃p ys nss,xs=[.ref p]/\SqX X.K H p ys/\DenAll X.K H ys (nss.map (kD kt))/\(kt=false->∀ns∈nss,ns.length=1)/\okK kt nss=true/\∀z out,H z=pz->DenAll X.K H out ((P4 nss).map (kD kt))->Q (.ref z) (upd H z (.lst out))):=by
 intro pins s σ H xs us Q I rv h;obtain⟨p,ys,nss,rfl,hp,hd,h1,hk,q⟩:=h;obtain⟨u,rfl,rx⟩:=vals1 rv;cases (show u=bG p from rx)
 obtain⟨hz,cN,n,xF,ho⟩:=hp.ok I;exact sorted_out I (a5l ⟨_,ho,rfl,n,rfl⟩ (by rw[<-xF.length];exact hz)) xF hd h1 hk q
def a8T:D->Option (List D)
 |.dict kvs=>cz (kvs.map (·.1))
 |_=>pz
noncomputable def a5q(kt:Bool)(a:EvE):EvE:=λZ=>(a Z).bind λd=>(a8T d).bind (Z6 kt)
noncomputable def a1v(kt:Bool)(a:EvE):EvE:=λZ=>(a Z).bind λd=>(asL d).bind (Z6 kt)
theorem R6:∀{kvs:List (D×D)} {es:List (D×V×V)},DenKV K H es kvs->DenAll K H (es.map (·.2.1)) (kvs.map (·.1))
 |[],es,h=>by
  simp only[DenKV]at h;subst h;exact denAll_nil
 | (k,d)::r,es,h=>by
  simp only[DenKV]at h;obtain⟨e,q,rfl,h2,h3,h4,h5⟩:=h;exact denAll_cons h3 (R6 h5)
def a8U(kt:Bool)(hc:X.calm=true)(hm:X.mg "sorted"=pz)(ha:PX X M a fa ca)(hg:Gl X "sorted":=by rfl)(he:ax [a] X.env=(false,cU a X.env)::ax [] X.env:=by rfl)(fB:(dj pos (ax [] X.env)).any (·.1)=false:=by rfl) :
  PX X M (.Call (.Name "sorted" p) [a] [] pos) (a5q kt fa) (.new (.l .i)):=by
 obtain⟨ta,pa,qa⟩:=ha.out;refine .mk ⟨_,P8 (a5o hc kt) hg hm PyProof.Rows.Boot.«sorted» (p6 pa A6 he) (by decide) (by decide) he fB,λZ σ H P F d Q S hf q=>?_⟩;obtain⟨x,h1,g1⟩:=bnd hf;obtain⟨ks,h2,g2⟩:=bnd g1;obtain⟨nss,h3,g3⟩:=bnd (show (a2E kt ks).bind _=cz d from g2);obtain⟨e1,e2⟩:=V6 h3;by_cases c:okK kt nss=true
 ·rw[aL c]at g3;cases g3
  cases x with
  |dict kvs=>
   cases h2
   refine qa Z σ H P F _ _ S h1 λv H1 w1 r1=>?_
   obtain⟨pp,es,rfl,k1,k2⟩:=r1.den.dict_inv;refine⟨pp,es,nss,rfl,k1,by rw[<-e1];exact R6 k2,e2,c,λz out hz ho=>q _ _ (w1.trans (q9 hz _)) ?_⟩;exact Y4 ho (a3l kt _) w1 hz (S.lst' w1)
  |_=>cases h2
 ·rw[aS c]at g3;cases g3
def a8V(kt:Bool)(hm:X.mg "sorted"=pz)(ha:PX X M a fa ca)(hg:Gl X "sorted":=by rfl)(he:ax [a] X.env=(false,cU a X.env)::ax [] X.env:=by rfl)(fB:(dj pos (ax [] X.env)).any (·.1)=false:=by rfl) :
  PX X M (.Call (.Name "sorted" p) [a] [] pos) (a1v kt fa) (.new (.l .i)):=by
 obtain⟨ta,pa,qa⟩:=ha.out;refine .mk ⟨_,P8 (a5p kt) hg hm PyProof.Rows.Boot.«sorted» (p6 pa A6 he) (by decide) (by decide) he fB,λZ σ H P F d Q S hf q=>?_⟩;obtain⟨x,h1,g1⟩:=bnd hf;obtain⟨ks,h2,g2⟩:=bnd g1;obtain⟨nss,h3,g3⟩:=bnd (show (a2E kt ks).bind _=cz d from g2);obtain⟨e1,e2⟩:=V6 h3;by_cases c:okK kt nss=true
 ·rw[aL c]at g3;cases g3
  cases N2 h2
  refine qa Z σ H P F _ _ S h1 λv H1 w1 r1=>?_
  obtain⟨pp,ys,rfl,k1,k2⟩:=r1.den.list_inv;refine⟨pp,ys,nss,rfl,k1,by rw[<-e1];exact k2,e2,c,λz out hz ho=>q _ _ (w1.trans (q9 hz _)) ?_⟩;exact Y4 ho (a3l kt _) w1 hz (S.lst' w1)
 ·rw[aS c]at g3;cases g3
end
end VS
namespace VS
open PySem PySem.Spec L2
def b0Z:∀{us:List α},us.length=1->∃a,us=[a]
 |[a],_=>⟨a,rfl⟩
def b1a:∀{us:List α},us.length=2->∃a b,us=[a,b]
 |[a,b],_=>⟨a,b,rfl⟩
def b3z:∀{us:List α},us.length=3->∃a b c,us=[a,b,c]
 |[a,b,c],_=>⟨a,b,c,rfl⟩
def b5B:∀{us:List α},us.length=4->∃a b c d,us=[a,b,c,d]
 |[a,b,c,d],_=>⟨a,b,c,d,rfl⟩
def b6R:∀{us:List α},us.length=5->∃a b c d e,us=[a,b,c,d,e]
 |[a,b,c,d,e],_=>⟨a,b,c,d,e,rfl⟩
def b6S:∀{us:List α},us.length=6->∃a b c d e f,us=[a,b,c,d,e,f]
 |[a,b,c,d,e,f],_=>⟨a,b,c,d,e,f,rfl⟩
end VS
namespace VS
open PySem PySem.Spec L2
open PyProof.Rows (KeyOrd SortKind SortSt keyKind' keyLt' seqObj listItems_at listUpdate_at seqEpoch_at arrOf failedOf get?_update_seq general' size_push' ksk_end ksk_tail)
open PySem.W (kas_sort kas_ask kas_item kat_run kat_snds)
section
variable {prog:bo}{w:bJ}{A:bH}{E:ag->aj->Prop}{sh:aj}{vs ks:List ag}{κ:dz}{O:KeyOrd}{key:Nat->O.α}{R:b_->Prop}
structure SortableR (prog:bo) (w:bJ) (A:bH) (R:b_->Prop) (ks:List ag) (κ:dz) (O:KeyOrd) (key:Nat->O.α):Prop where
 kind:2<=ks.length->∀(s:aj) (E:ag->aj->Prop) (Q:dz->aj->Prop),R s.heap->Q κ s->be (aV prog w) A (keyKind' ks.toArray) Q E s
 lt:∀(s:aj) (i j:Nat) (C:Bool->aj->Prop),R s.heap->i<ks.length->j<ks.length->C (O.blt (key i) (key j)) s->be (aV prog w) A (keyLt' κ (ks.getD i ba) (ks.getD j ba)) C (λ_ _=>False) s
 cong:∀h,R h->∀i j,i<ks.length->j<ks.length->ks.getD i ba=ks.getD j ba->key i=key j
end
end VS
namespace VS
open PySem PySem.Spec L2
def Itd(a:au)(es:List (D×V×V)):It:=
 ⟨λi H=>H a=cz (j0 a es)/\i<es.length,λi H x H'=>H'=H/\∃e,es[i]?=cz e/\x=e.2.1,λi H=>H a=cz (j0 a es)/\es.length<=i⟩
def a7v(a it:au)(es:List (D×V×V))(hL:E7 es=false):Turn P w K tg (Itd a es) [it] it (λi h=>h.IsKeyIter it a i es.length es.length) where
 mem:=by simp
 obj:=λi h st b hb=>by
  have e:b=it:=by simpa using hb
  subst e;obtain⟨o,e,c,d⟩:=st;exact⟨o,e,λv z=>by rw[d]at z;cases z⟩
 keep:=λi h h' st k=>st.at λo e=>k it (by simp) o e
 item:=by
  intro X hP hw hK hc i pins s σ H E I hf st hg;subst hP hw hK;obtain⟨hH,hi⟩:=hg;obtain⟨h0,hl,hn,o,ents,g1,g2,g3,g4⟩:=T3 I hH hL;have mz:ents.size=es.length:=by rw[gh g4];exact aH.symm
  have iT:i<ents.size:=by lia
  have hx:es[i]?=cz es[i]:=ah hi;obtain⟨y,hy,r⟩:=V3 g4 hx;have zU:ents[i]=y:=by
   rw[bT,bp iT]at hy;exact aK hy
  obtain⟨f0,f1,f2,f3,f4,f5⟩:=hf it (by simp);have iE:s.heap.IsKeyIter it a i ents.size es.length:=by rw[mz];exact st
  refine a3Z iE ⟨o,g1,g2,g3⟩ iT λh' cm sb=>?_
  have I1:Inv X pins σ H {s with heap:=h'}:=I.turned (t':=s.toks) (λb o hb e=>(sb.2 b hb).trans e) f0 f1 f3 f4 f5;rw[mz]at cm;obtain⟨o,e,c,d⟩:=id cm;exact⟨ents[i].key,rfl,a7Y (s:={s with heap:=h'}) e c d (by decide) ⟨es[i].2.1,H,I1,by rw[zU];exact r.2.1,⟨rfl,es[i],hx,rfl⟩,cm,λb hb=>(hf b hb).1⟩⟩
 done:=by
  intro X hP hw hK hc i pins s σ H E I hf st hg;subst hP hw hK;obtain⟨hH,hi⟩:=hg;obtain⟨h0,hl,hn,o,ents,g1,g2,g3,g4⟩:=T3 I hH hL;have mz:ents.size=es.length:=by rw[gh g4];exact aH.symm
  obtain⟨f0,f1,f2,f3,f4,f5⟩:=hf it (by simp);have iE:s.heap.IsKeyIter it a i ents.size es.length:=by rw[mz];exact st
  exact a4a (I.ok.hd hc) iE ⟨o,g1,g2,g3⟩ (by lia) λh' eb=>⟨rfl,I.turned (t':=s.toks) (λb o hb e=>eb b o hb e) f0 f1 f3 f4 f5⟩
 self:=λ_ _ _ _ _ st h=>wpAny_pyIter_keyiter st h
section
variable {X:Cx}{M:List Md}{tg a:Expr}{fa:EvE}{ca:Cat}
def b3A(ta:TE):TI:=λσ H R=>ta σ H λx H1=>∃p es,x=.ref p/\H1 p=cz (j0 p es)/\E7 es=false/\R (Itd p es) H1
def b1b(hl:PE X a ta):PI X tg a (b3A ta):=by
 intro pins s σ H R I h;refine L2.thn (hl pins s σ H _ I h) λv s1 ⟨x,H1,I1,r1,q1⟩=>?_
 obtain⟨p,es,e,hH,hL,q⟩:=q1;subst e;cases r1
 obtain⟨h0,hl,hn,o,ents,g1,g2,g3,g4⟩:=T3 I1 hH hL;have mz:ents.size=es.length:=by rw[gh g4];exact aH.symm
 refine a3Y h0 ⟨o,g1,g2,g3⟩ ?_;refine⟨s1.heap.objs.size,[s1.heap.objs.size],_,_,H1,rfl,I1.kept (t':=s1.toks) λb o e=>aP _ e,a7v p _ es hL,⟨_,bz _ rfl,rfl,by rw[mz];rfl⟩,λb hb=>?_,q⟩;have e:b=s1.heap.objs.size:=by simpa using hb
 subst e;exact I1.fpOk (aG _) (I1.hok.fresh (aG _))
def a5r:Walks (Itd p es) (λH=>H p=cz (j0 p es)) (es.map (·.2.1)) where
 go:=λi H h hi=>⟨h,by simpa using hi⟩
 stop:=λi H h hi=>⟨h,by simpa using hi⟩
 yld:=λi H x H' h hi y=>by
  obtain⟨e,r,hr,rfl⟩:=y;exact⟨e,by rw[bE,hr];rfl⟩
noncomputable def iDk(a:EvE):EvA:=λZ=>(a Z).bind λd=>(a8T d).bind λks=>if H9 ks then pz else cz ks
def a8W(h:PX X M a fa ca)(hc:frozen ca:=by trivial):PIX X M tg a (iDk fa):=by
 obtain⟨t,p,q⟩:=h.out;refine⟨_,b1b p,λZ σ H P F ds R S hf k=>?_⟩;obtain⟨d,h1,h2⟩:=bnd hf;cases d with
 |dict kvs=>
  have jy:(if H9 (kvs.map (·.1)) then pz else cz (kvs.map (·.1)))=cz ds:=h2;have hL:H9 (kvs.map (·.1))=false:=by
   cases c:H9 (kvs.map (·.1)) with
   |false=>rfl
   |true=>rw[c]at jy;cases jy
  rw[hL]at jy;cases jy
  refine q Z σ H P F _ _ S h1 λv H1 e1 r1=>?_
  obtain⟨aa,es,rfl,k1,k2⟩:=(O4 hc r1).dict_inv;exact⟨aa,es,rfl,j5 _ _ k1,by rw[E7,k2.keys];exact hL,k _ _ _ H1 e1 a5r (λH2 e2=>e2 _ _ k1) (R6 k2)⟩
 |_=>cases h2
end
def b1c(F:List au)(H H2:Hp):Hp:=λa=>if a∈F then H a else H2 a
def a3m(h:a∈F):b1c F H H2 a=H a:=aL h
def E3(h:a∉F):b1c F H H2 a=H2 a:=aS h
section
variable {P:bo}{w:bJ}{K:ae}{mg:br->Option ag}{base:b_}{k:Nat}{f:au}{fd:c_}{ps:List br}{sp:Sp}{H:Hp}{h:b_}{F:List au}
def K2(n:H a=pz):cut H F a=pz:=by
 by_cases q:a∈F
 ·exact Y3 q
 ·rw[S9 q];exact n
end
def Junk(H:Hp)(C:List au):Prop:=∀a∈C,∀u,H a=cz u->∃o,u=.frz o (.own a)
section
variable {K:ae}{H H':Hp}{C F:List au}
theorem Junk.cut(h:Junk H C):Junk (cut H F) C:=λa ha u e=>h a ha u (t5 e).2
def Junk.out(h:Junk H C)(e:H a=cz u)(n:∀o,u≠.frz o (.own a)):a∉C:=λz=>by
 obtain⟨o,q⟩:=h a z u e;exact n o q
def a8X(h:Junk H C)(q:SqX K H a xs):SqX K (VS.cut H C) a xs:=by
 rcases q with (q|⟨o,q⟩)|q
 ·exact .inl (.inl (l0 (h.out q λo z=>(nomatch z)) q))
 ·exact .inl (.inr ⟨o,l0 (h.out q λo z=>by cases z) q⟩)
 ·exact .inr q
def a8Y(h:Junk H C)(q:SqT K H a xs):SqT K (VS.cut H C) a xs:=by
 rcases q with (q|⟨o,q⟩)|q
 ·exact .inl (.inl (l0 (h.out q λo z=>(nomatch z)) q))
 ·exact .inl (.inr ⟨o,l0 (h.out q λo z=>by cases z) q⟩)
 ·exact .inr q
def a1w(h:Junk H C)(q:H a=cz (j0 a es)):VS.cut H C a=cz (j0 a es):=
 l0 (h.out q λo z=>by unfold j0 at z;cases z) q
mutual
theorem Den.junk(h:Junk H C):∀(d:a_) {v:V},Den K H v d->Den K (VS.cut H C) v d
 |.none,_,q=>by simpa only [Den]using q
 |.bool _,_,q=>by simpa only [Den]using q
 |.int _,_,q=>by simpa only [Den]using q
 |.str _,_,q=>by simpa only [Den]using q
 |.list ds,_,q=>by
  obtain⟨a,xs,rfl,h1,h2⟩:=q.list_inv;exact den_list (a8X h h1) (DenAll.junk h ds h2)
 |.tuple ds,_,q=>by
  obtain⟨a,xs,rfl,h1,h2⟩:=q.tup_inv;exact den_tup (a8Y h h1) (DenAll.junk h ds h2)
 |.dict kvs,_,q=>by
  obtain⟨a,es,rfl,h1,h2⟩:=q.dict_inv;simp only[Den];exact⟨a,es,rfl,a1w h h1,DenKV.junk h kvs h2⟩
theorem DenAll.junk(h:Junk H C):∀(ds:List a_) {xs:List V},DenAll K H xs ds->DenAll K (VS.cut H C) xs ds
 |[],_,q=>by simpa only [DenAll]using q
 |d::ds,_,q=>by
  obtain⟨v,r,rfl,h1,h2⟩:=q.cons_inv;exact denAll_cons (Den.junk h d h1) (DenAll.junk h ds h2)
theorem DenKV.junk(h:Junk H C):∀(kvs:List (a_×a_)) {es:List (a_×V×V)},DenKV K H es kvs->DenKV K (VS.cut H C) es kvs
 |[],_,q=>by simpa only [DenKV]using q
 | (k,d)::r,_,q=>by
  simp only[DenKV]at q ⊢;obtain⟨x,es,h1,h2,h3,h4,h5⟩:=q;exact⟨x,es,h1,h2,Den.junk h k h3,Den.junk h d h4,DenKV.junk h r h5⟩
end
def a8Z(a:au):VS.cut (VS.cut H C) F a=VS.cut (VS.cut H F) C a:=by
 unfold VS.cut;by_cases h1:a∈F<;>by_cases h2:a∈C<;>simp[h1,h2]
def T4(h:Junk H C)(q:Den K (VS.cut H F) v d):Den K (VS.cut (VS.cut H C) F) v d:=
 (Den.junk h.cut d q).up λa o e=>by rw[a8Z];exact e
mutual
theorem Own.junk(h:Junk H C):∀(u:Ty) {v:V} {d:a_} {fp:List au},Own K H F u v d fp->Own K (VS.cut H C) F u v d fp
 |.i,_,_,_,q=>by simp only[Own]at q ⊢;exact⟨q.1,q.2.1,T4 h q.2.2⟩
 |.f,_,_,_,q=>by simp only[Own]at q ⊢;exact⟨q.1,T4 h q.2⟩
 |.l u,_,_,_,q=>by
  simp only[Own]at q ⊢;rcases q with⟨h1,h2,q⟩|⟨a,xs,ds,fs,rfl,h1,rfl,rfl,h2⟩
  ·exact .inl ⟨h1,h2,T4 h q⟩
  ·exact .inr ⟨a,xs,ds,fs,rfl,l0 (h.out h1 λo z=>(nomatch z)) h1,rfl,rfl,h2.imp λv d f _ _ z=>Own.junk h u z⟩
 |.tp us,_,_,_,q=>by
  simp only[Own]at q ⊢;obtain⟨a,xs,ds,rfl,h1,h0,rfl,h2⟩:=q;exact⟨a,xs,ds,rfl,l0 (h.out h1 λo z=>(nomatch z)) h1,h0,rfl,OwnTs.junk h us h2⟩
 |.d kt u,_,_,_,q=>by
  simp only[Own]at q ⊢;obtain⟨a,es,ds,fs,rfl,h1,rfl,rfl,h3,h2⟩:=q;exact⟨a,es,ds,fs,rfl,a1w h h1,rfl,rfl,⟨h3.1,λx hx=>⟨(h3.2 x hx).1,T4 h (h3.2 x hx).2⟩⟩,h2.imp λv d f _ _ z=>Own.junk h u z⟩
theorem OwnTs.junk(h:Junk H C):∀(us:List Ty) {xs:List V} {ds:List a_} {fp:List au},OwnTs K H F us xs ds fp->OwnTs K (VS.cut H C) F us xs ds fp
 |[],_,_,_,q=>by simpa only [OwnTs]using q
 |u::us,_,_,_,q=>by
  simp only[OwnTs]at q ⊢;obtain⟨v,r,d,e,f,g,rfl,rfl,rfl,h1,h2⟩:=q;exact⟨v,r,d,e,f,g,rfl,rfl,rfl,Own.junk h u h1,OwnTs.junk h us h2⟩
end
def a4l(k:HOk P w H h)(j:Junk H C):HOk P w (VS.cut H C) h:=λa o e=>by
 obtain⟨na,e'⟩:=t5 e;refine (k a o e').stay (λb u _ q=>q) (λb q=>l0 (j.out q λo z=>(nomatch z)) q) λb u q=>l0 (λhb=>?_) q
 obtain⟨u,hu⟩:=u;obtain⟨ob,z⟩:=j b hb u q;subst z;have sM:b=a:=hu;exact na (sM▸hb)
def a7w(t:TabsIn K H)(j:Junk H C):TabsIn K (VS.cut H C):=λx hx p e=>by
 obtain⟨qs,t',e1,e2⟩:=t x hx p e;exact⟨qs,t',l0 (j.out e1 λo z=>(nomatch z)) e1,e2⟩
end
end VS
namespace VS
open PySem PySem.Spec L2 PyProof.Rows
noncomputable def FnV(P:bo)(w:bJ)(K:ae)(mg:br->Option ag)(base:b_)(k n:Nat)(u:Ty)(m:List D->Option D)(H:Hp)(v:V):Prop:=
 ∃fa fo,v=.ref fa/\H fa=cz (.frz fo (.own fa))/\(∃fd,fo.data=.func fd)/\
  ∀(A:bH) (outer:List kZ) (s:aj) (us:List ag) (vs:List V) (Q:VK) (E:XK),Room k A->Env0 P w K mg base A outer s H->Vals vs us->spD K n m u vs H Q E->
   jk (aV P w) A (.call (.ref fa) ⟨us,[]⟩) (CR CX0 outer P w H s Q E) s
section
variable {X:Cx}{M:List Md}{a e0:Expr}{es:List Expr}{fa:EvE}{f:EvA}{ca:Cat}{u:Ty}{x:br}{p pos:eH}
noncomputable def b3B(X:Cx)(i k n:Nat)(u:Ty)(m:List D->Option D)(t:TA):TE:=λσ H Q=>∃v,σ[i]?=cz (cz v)/\t σ H λvs H1=>FnV X.prog X.w X.K X.mg X.base k n u m H1 v/\spD X.K n m u vs H1 Q E0
def a9a(hr:Room k X.A)(ha:PA X (e0::es) t)(hN:X.N[i]?=cz x)(hv:Vis X.env.scope x)(hd:(x==("__debug__":br))=false)(gu:(x==("__classdict__":br))=false)
  (he:ax (e0::es) X.env=(false,cU e0 X.env)::ax es X.env) (fB:(dj pos (ax es X.env)).any (·.1)=false):PE X (.Call (.Name x p) (e0::es) [] pos) (b3B X i k n u m t):=by
 intro pins s σ H Q I ⟨v,e,h⟩;refine fA (L2.thn (P6 hN hv hd gu pins s σ H (λv' H'=>v'=v/\H'=H) I ⟨v,e,rfl,rfl⟩) λu1 s1 ⟨v',H',I1,r1,z1,z2⟩=>?_);subst z1;subst z2;rw[he];refine PySem.W.callWith_of (P:=λh=>∃fa fo fd,u1=.ref fa/\h.get? fa=cz fo/\fo.data=.func fd) (by show ((false||(dj pos (ax es X.env)).any (·.1))||false)=false;rw[fB];rfl) (λh ⟨fa,fo,fd,q1,q2,q3⟩=>?_) (lN ?_)
 ·subst q1;obtain⟨cls,dict,data,slots⟩:=fo;have zD:data=.func fd:=q3;subst zD;exact⟨.frame,.inl rfl,(Cc (part:=pz) q2).andThen .now⟩
 ·have tX:=ha pos pins s1 σ H' _ I1 h;rw[he]at tX;refine L2.thn tX λus s2 ⟨vs,H2,I2,r2,⟨fa,fo,q1,q2,⟨fd,q3⟩,q4⟩,q5⟩=>⟨?_,?_⟩
  ·have vn:u1=.ref fa:=by rw[q1]at r1;exact r1
   exact⟨fa,fo,fd,vn,(I2.hok fa _ q2).1,q3⟩
  ·have vn:u1=.ref fa:=by rw[q1]at r1;exact r1
   subst vn;refine mR (gB (q4 X.A X.stack s2 us vs Q E0 hr I2.env0 r2 q5) λr s' hq=>?_);cases r with
   |error e=>exact cJ hq
   |ok fl=>
    cases fl with
    |ret u=>exact I2.after hq
    |next=>exact cJ hq
    |brk=>exact cJ hq
    |cont=>exact cJ hq
def StE.getF{K:ae}{Z:List D}{σ:L2.St}{H P:Hp}{F:List au}{Φ:Hp->V->Prop}(h:StE K M Z σ H P F){i:Nat}(hm:M[i]?=cz (.fn Φ)):∃v,σ[i]?=cz (cz v)/\∀H',Same (cut H F) H'->Φ H' v:=by
 obtain⟨G,h1,h3⟩:=h.all;obtain⟨d,o,f,pre,post,e1,e2,⟨_,v,rfl,q⟩,e4,_⟩:=h1.at_ hm;exact⟨v,e2,q⟩
def a9b(i:Nat){k n:Nat}{m:List D->Option D}(hr:Room k X.A)(h:PAX X M (e0::es) f)(hm:M[i]?=cz (.fn (FnV X.prog X.w X.K X.mg X.base k n u m)):=by rfl)(hu:u.shut=true:=by rfl)(hl:(e0::es).length=n:=by rfl)(hfl:∀Z ds,f Z=cz ds->ds.length=(e0::es).length)
  (hN:X.N[i]?=cz x:=by rfl) (hv:Vis X.env.scope x:=by first|exact cX rfl|exact cR (cX rfl)|exact cR (cR rfl)) (jt:(x==("__debug__":br))=false:=by decide) (gu:(x==("__classdict__":br))=false:=by decide)
  (he:ax (e0::es) X.env=(false,cU e0 X.env)::ax es X.env:=by rfl) (fB:(dj pos (ax es X.env)).any (·.1)=false:=by rfl) :
  PX X M (.Call (.Name x p) (e0::es) [] pos) (eCl m f) (.new u):=by
 obtain⟨t,pa,qa⟩:=h;refine .mk ⟨_,a9a (i:=i) (n:=n) (m:=m) (u:=u) hr pa hN hv jt gu he fB,λZ σ H P F d Q S hf q=>?_⟩;obtain⟨ds,h1,hf⟩:=bnd hf;obtain⟨v,Aa,z_⟩:=S.getF hm;refine⟨v,Aa,qa Z σ H P F ds _ S h1 λvs H1 e1 r1=>⟨z_ H1 (j5.trans e1),?_⟩⟩;refine⟨ds,d,by rw[r1.length,hfl Z ds h1,hl],r1,hf,λv H' fp e o nd fr=>q v H' (e1.trans e) ⟨fp,o.shut_out (λa ha=>?_) u hu,nd,λa ha=>e1.free (fr a ha)⟩⟩;rcases ar.mp ha with z|z
 ·exact o.lst u a z
 ·exact S.lst' (e1.trans e) a z
end
def spL(K:ae)(n:Nat)(Φ:(List D->Option D)->Hp->V->Prop)(m:(List D->Option D)->List D->Option D)(u:Ty):Sp:=λvs H Q _=>∃rs v gm ds d,vs=rs++[v]/\rs.length=n/\DenAll K H rs ds/\(∀H',Same H H'->Φ gm H' v)/\m gm ds=cz d/\
 ∀v H' fp,Same H H'->Own K H' fp u v d fp->fp.Nodup->(∀a∈fp,H a=pz)->Q v H'
def fnL(us:List Ty)(n:Nat)(g:(List D->Option D)->EvS):(List D->Option D)->List D->Option D:=λgm ds=>if argsOk us ds then (g gm (ds++(.none::aB n .none))).bind λo=>match o with
 |.rt d=>cz d
 |_=>pz
 else pz
theorem StAll.app{K:ae}{H:Hp}{F:List au}:∀{M1 M2:List Md} {Z1 Z2:List D} {σ1 σ2:L2.St} {f1 f2:List au},StAll K H F M1 Z1 σ1 f1->StAll K H F M2 Z2 σ2 f2->StAll K H F (M1++M2) (Z1++Z2) (σ1++σ2) (f1++f2)
 |[],_,_,_,_,_,_,_,h,q=>by simp only[StAll]at h;obtain⟨rfl,rfl,rfl⟩:=h;exact q
 |m::M,_,_,_,_,_,_,_,h,q=>by
  simp only[StAll]at h;obtain⟨d,Z,o,σ,f,g,rfl,rfl,rfl,h1,h2⟩:=h;rw[aI];exact j7 h1 (StAll.app h2 q)
theorem a0p{K:ae}{H:Hp}{F:List au}:∀n:Nat,StAll K H F (aB n .dead) (aB n .none) (aB n pz) []
 |0=>G0
 |n+1=>j7 (f:=[]) (g:=[]) rfl (a0p n)
def a9c{P:bo}{w:bJ}{K:ae}{mg:br->Option ag}{base:b_}{x:br}{st:fH}{f:au}{fd:c_}{N ps:List br}{k n:Nat}{us:List Ty}{u:Ty}{Φ:(List D->Option D)->Hp->V->Prop}{g:(List D->Option D)->EvS}{M':(List D->Option D)->List Md}(F:Fun K x x st f fd)(S:FnScope N ps (g8 st))(k_:us.length+1=ps.length)(hn:N.length=ps.length+n)
  (hb:∀(gm:List D->Option D) (eP:ag) (A:bH) (outer:List kZ) (s:aj) (H:Hp) (E:XK),Room k (A.deeper (gL x (g8 st) s.heap.objs.size f eP))->PSsX (P7 CX0 P w K mg base N x (g8 st) f eP A outer s H E).nox u [] (us.map .own++(.fn (Φ gm)::aB n .dead)) (t7 st) (g gm) (M' gm)) :
  FnOk P w K mg base CX0 (k+1) f fd ps (spL K us.length Φ (fnL us n g) u):=by
 refine F.ok S (λvs H Q E h=>?_) (λeP A outer s H vs Q E hr h=>?_)
 ·obtain⟨rs,v,gm,ds,d,rfl,hl,_⟩:=h;rw[az,hl];exact k_
 obtain⟨rs,v,gm,ds,d,rfl,hl,hd,hΦ,hm,q⟩:=h;obtain⟨t,p,r⟩:=(hb gm eP A outer s H E hr).out;refine⟨t,p,?_⟩;unfold fnL at hm;by_cases ha:argsOk us ds=true
 ·rw[aL ha]at hm;obtain⟨o,h1,h2⟩:=bnd hm;cases o with
  |rt d'=>
   have jy:cz d'=cz d:=h2;cases jy
   have e:L2.start N (rs++[v])=rs.map cz++(cz v::aB n pz):=by
    unfold L2.start;rw[show N.length-(rs++[v]).length=n by rw[az,hl];show N.length-(us.length+1)=n;lia];simp
   rw[e];have h0:=O7 (K:=K) (H:=H) ha hd 0;simp only[fN,bg]at h0;have jf:=h0.app (j7 (K:=K) (H:=H) (F:=[]) (m:=.fn (Φ gm)) (d:=pR) (o:=cz v) (f:=[]) ⟨rfl,v,rfl,λH' e'=>hΦ H' (by rw[F6]at e';exact e')⟩ (a0p n));refine r _ _ _ H H [] (.rt d) ⟨⟨_,jf,bW,λa ha=>(nomatch ha)⟩,λa ha=>(nomatch ha),by rw[F6];exact Same.refl H⟩ h1 ?_;exact λv H' fp o nd fr e=>q v H' fp e o nd fr
  |_=>cases h2
 ·rw[aS ha]at hm;cases hm
section
variable {X:Cx}{M:List Md}{e0:Expr}{es:List Expr}{f:EvA}{u:Ty}{x y:br}{p pv pos:eH}
def b1d:∀(Z:List D) ds,b9 Z=cz ds->ds.length=0:=λZ ds h=>by cases h;rfl
def a9d(h:∀Z ds,fr Z=cz ds->ds.length=n):∀Z ds,a6 fa fr Z=cz ds->ds.length=n+1:=λZ ds q=>by
 obtain⟨x,h1,q⟩:=bnd q;obtain⟨xs,h2,q⟩:=bnd q;cases q
 rw[aO,h Z xs h2]
noncomputable def PAL(X:Cx)(M:List Md)(es:List Expr)(f:EvA)(Ψ:Hp->V->Prop):Prop:=
 ∃t,PA X es t/\∀(Z:List D) (σ:L2.St) (H P:Hp) (F:List au) (ds:List D) (Q:List V->Hp->Prop),StE X.K M Z σ H P F->f Z=cz ds->
  (∀vs v H',Same H H'->DenAll X.K H' vs ds->Ψ H' v->Q (vs++[v]) H')->t σ H Q
def a9e(ha:PX X M a fa ca)(hr:PAL X M es fr Ψ)(hs:ax (a::es) X.env=(false,cU a X.env)::ax es X.env:=by rfl):PAL X M (a::es) (a6 fa fr) Ψ:=by
 obtain⟨ta,pa,qa⟩:=ha.out;obtain⟨tr,pr,qr⟩:=hr;refine⟨_,p6 pa pr hs,λZ σ H P F ds Q S hf q=>?_⟩;obtain⟨x,h1,hf⟩:=bnd hf;obtain⟨xs,h2,hf⟩:=bnd hf;cases hf
 exact qa Z σ H P F _ _ S h1 λv H1 e1 r1=>qr Z σ H1 P F _ _ (S.grow e1) h2 λvs w H2 e2 r2 hw=>q (v::vs) w H2 (e1.trans e2) (denAll_cons (r1.den.up e2) r2) hw
end
def a4m:∀(l r:List ag),iG l->iG r->iG (l++r):=by
 intro l
 fun_induction iG l with
 |case1=>intro r _ h;exact h
 |case2 a t b u c rest ih=>intro r h1 h2;simp only[cw,iG];exact ih r h1 h2
 |case3=>intro r h;exact h.elim
def a7x:∀(l r:List ag),iG l->jL pos (l++r)=cz cv->jL pos l=cz cv∨jL pos r=cz cv:=by
 intro l
 fun_induction iG l with
 |case1=>intro r _ h;exact .inr h
 |case2 a t b u c rest ih=>
  intro r h1 h2;simp only[cw,jL]at h2 ⊢
  split at h2
  ·rename_i hc
   rw[aL hc];exact .inl h2
  ·rename_i hc
   rw[aS hc];exact ih r h1 h2
 |case3=>intro r h;exact h.elim
def LamO(q:br)(params:lX)(body:Expr)(scope:fw)(clos:List (br×au))(H:Hp)(fa:au):Prop:=
 ∃pm c' kh oc vs t b,H fa=cz (.frz (dB "<lambda>" q params body scope clos pm c' kh) (.own fa))/\H c'=cz (.frz oc (.own b))/\oc.data=.fields vs/\vs[1]?=cz (.str q t)
def LamO.up(h:LamO q params body scope clos H fa)(e:Same H H'):LamO q params body scope clos H' fa:=by
 obtain⟨pm,c',kh,oc,vs,t,b,h1,h2,h3⟩:=h;exact⟨pm,c',kh,oc,vs,t,b,e _ _ h1,e _ _ h2,h3⟩
def b5C(q:br)(params:lX)(body:Expr)(scope:fw)(clos:List (br×au)):TE:=λ_ H Q=>∀fa H',Same H H'->LamO q params body scope clos H' fa->Q (.ref fa) H'
def a7y{X:Cx}(hx:x∈G9)(hP:w9 X.K x=cz P)(hc:X.env.code=.ref c)(hd:fF X.base c P)(hq:X.env.qual++"<lambda>"=P5 x)
  (nW:nh scope X.env=pure clos) (qU:defaultsOf params X.env=([],[])):PE X (.Lambda params body scope iJ) (b5C (P5 x) params body scope clos):=by
 intro pins s σ H Q I h;refine PySem.W.kla_eval qU ?_;rw[hq];obtain⟨qs,t0,e1,e2⟩:=I.tabs x hx P hP;obtain⟨ps,tZ,ht,hf⟩:=(show a2c H s.heap P qs from I.hok P _ e1);have wu:s.heap.Ns aY X.mg:=I.mod.glob.keeps I.bk;obtain⟨bm,ob,b1,b2,b3,b4,b5,b6⟩:=I.mod.bmain;have AU:aY≠P:=λq=>by
  obtain⟨o,es,ep,e,gR,_⟩:=wu;rw[q,tZ]at e;cases e;cases gR
 have Bo:bm≠P:=λq=>by
  have e:=I.bk _ _ b3;rw[q,tZ]at e;cases e;cases b4
 have Bp:bm≠aY:=λq=>by
  obtain⟨o,es,ep,e,gR,_⟩:=I.mod.glob;rw[q,e]at b3;cases b3;rw[gR]at b6;cases b6
 have hB:s.heap.BuiltinsAt X.mg P:=⟨bm,ob,b1,b2,Bp,Bo,I.bk _ _ b3,b4,b5,b6⟩;have hC:fF s.heap c P:=hd.keeps I.bk;cases hn:jL iJ ps.toList with
 |some cv=>
  obtain⟨c',oc,vs,q,t,t',rfl,z2,z3,z4,z5⟩:=hf iJ cv hn;rw[e2]at z5;have zf:oX (P5 x) t0=oX q t':=aK z5;cases zf
  refine PySem.W.kla_makeFunctionHit (mg:=X.mg) nW I.ok.glob wu hc hC tZ ht hn hB λkh h' tk hk mz=>?_
  have kQ:H h'.objs.size=pz:=I.hok.fresh mz;have I':=I.laid (a:=h'.objs.size) (o:=.frz (dB "<lambda>" (P5 x) params body scope clos ((X.mg "__name__").getD .none) c' kh) (.own h'.objs.size)) (t':=tk) (h':=h'.push (dB "<lambda>" (P5 x) params body scope clos ((X.mg "__name__").getD .none) c' kh)) (λb u e=>aP _ (hk b u e)) mz ⟨bz _ rfl,_,bz _ rfl⟩;refine⟨.ref h'.objs.size,_,I',rfl,h _ _ (q9 kQ _) ⟨_,c',kh,oc,vs,t,P,j8,?_,z3,z4⟩⟩;rw[g7 (n5 z2 kQ)];exact z2
 |none=>
  refine PySem.W.kla_makeFunction (mg:=X.mg) nW I.ok.glob wu hc hC tZ ht hn AU hB λc' kh h' tk zV rR gK vS xZ=>?_
  obtain⟨c2,oc,vs,t,rc,sV,yt,pE⟩:=vS;cases rc
  have Bz:P<s.heap.objs.size:=aN tZ;have Bf:H c'=pz:=I.hok.fresh rR;have yo:s.heap.objs.size<=h'.objs.size:=dH (hU rR gK);have kQ:H h'.objs.size=pz:=I.hok.fresh yo;have gU:c'≠h'.objs.size:=bP gK;have low:∀b u,H b=cz u->upd (upd H c' (.frz oc (.own P))) h'.objs.size (.frz (dB "<lambda>" (P5 x) params body scope clos ((X.mg "__name__").getD .none) c' kh) (.own h'.objs.size)) b=cz u:=λb u e=>by
   rw[g7 (n5 e kQ),g7 (n5 e Bf)];exact e
  have vA:∀b,b<s.heap.objs.size->H b=pz->upd (upd H c' (.frz oc (.own P))) h'.objs.size (.frz (dB "<lambda>" (P5 x) params body scope clos ((X.mg "__name__").getD .none) c' kh) (.own h'.objs.size)) b=pz:=λb hb e=>by
   rw[g7 (bP (aZ hb yo)),g7 (bP (aZ hb rR))];exact e
  have kp:∀b o,b≠P->s.heap.get? b=cz o->(h'.push (dB "<lambda>" (P5 x) params body scope clos ((X.mg "__name__").getD .none) c' kh)).get? b=cz o:=λb o hb e=>aP _ (zV b o hb e)
  have nP:∀b,H b=pz->b≠P:=λb e z=>by rw[z,e1]at e;cases e
  have I':=I.un (t':=tk) (h':=h'.push (dB "<lambda>" (P5 x) params body scope clos ((X.mg "__name__").getD .none) c' kh)) (H':=upd (upd H c' (.frz oc (.own P))) h'.objs.size (.frz (dB "<lambda>" (P5 x) params body scope clos ((X.mg "__name__").getD .none) c' kh) (.own h'.objs.size)))
   ⟨λb o e n _ _=>kp b o (nP b n) e,λb o e n _ _=>⟨o.slots,kp b o (nP b n) e⟩,λb o e n _=>vA b (aN e) n,λb o e _=>by
    by_cases hb:b=P
    ·exact⟨_,by rw[hb];exact aP _ xZ⟩
    ·exact⟨o,kp b o hb e⟩,λb xs e=>low b _ e,λb o u e=>low b _ e,λb Cy e=>⟨#[],by rw[low b _ e];simp⟩⟩ (λb u e=>by
    by_cases yz:b=h'.objs.size
    ·subst yz;rw[j8]at e;cases e
     exact⟨bz _ rfl,_,bz _ rfl⟩
    ·rw[g7 yz]at e;by_cases yx:b=c'
     ·subst yx;rw[j8]at e;cases e
      exact⟨aP _ sV,_,aP _ sV⟩
     ·rw[g7 yx]at e;by_cases yw:b=P
      ·subst yw;rw[e1]at e;cases e
       refine⟨_,aP _ xZ,?_,λpos cv z=>?_⟩
       ·have:(ps++#[gQ iJ.line,gQ iJ.col,bG c']).toList=ps.toList++[gQ iJ.line,gQ iJ.col,bG c']:=by simp
        rw[this];exact a4m _ _ ht trivial
       ·have:(ps++#[gQ iJ.line,gQ iJ.col,bG c']).toList=ps.toList++[gQ iJ.line,gQ iJ.col,bG c']:=by simp
        rw[this]at z;rcases a7x _ _ ht z with z|z
        ·obtain⟨c3,zJ,zk,q3,t3,t4,y1,y2,y3,y4,y5⟩:=hf pos cv z;exact⟨c3,zJ,zk,q3,t3,t4,y1,low _ _ y2,y3,y4,y5⟩
        ·have z':cv=.ref c':=by
          simp only[gQ,jL]at z
          split at z
          ·exact (aK z).symm
          ·cases z
         refine⟨c',oc,vs,P5 x,t,t0,z',?_,yt,pE,e2⟩;rw[g7 gU,j8]
      ·refine (I.hok b u e).stay (λd v gR q=>kp d v (λz=>?_) q) (λd q=>low _ _ q) λd v q=>low _ _ q
       rcases gR with z'|z'
       ·exact yw (z'.symm.trans z)
       ·rw[z,e1]at z';cases z')
  refine⟨.ref h'.objs.size,_,I',rfl,h _ _ (λb u e=>low b u e) ⟨_,c',kh,oc,vs,t,P,j8,?_,yt,pE⟩⟩;rw[g7 gU,j8]
def a6s(P:bo)(w:bJ)(K:ae)(mg:br->Option ag)(base:b_)(N:List br)(q:br)(scope:fw)(f:au)(cd:ag)(cl:List (br×au))(A:bH)(outer:List kZ)(s:aj)(H:Hp):Cx where
 prog:=P
 w:=w
 K:=K
 mg:=mg
 base:=base
 A:=A.deeper (gS q scope s.heap.objs.size f cd cl)
 N:=N
 s₀:=s
 H₀:=H
 env:=gS q scope s.heap.objs.size f cd cl
 outer:=outer
 stack:=gS q scope s.heap.objs.size f cd cl::outer
 ex:=[]
 calm:=true
 fn:=λ_=>false
 pn:=[]
 xe:=λ_ _=>False
structure LamScope (N ps ys:List br) (sc:fw) (cl:List (br×au)):Prop where
 kind:sc.kind=.function
 co:sc.isCoroutine=false
 gen:sc.isGenerator=false
 nd:N.Nodup
 pre:N=ps++ys
 par:∀x∈ps,sc.names.lookup x=cz .local
 fre:∀y∈ys,sc.names.lookup y=cz .free
 ncell:∀x∈sc.names,x.2≠.cell
 has:(sc.names.all λx=>x.2 !=.free||(cl.lookup x.1).isSome)=true
def CellsIn(cl:List (br×au))(H:Hp):List br->List V->Prop
 |[],vs=>vs=[]
 |y::ys,vs=>∃v r c ob uo,vs=v::r/\cl.lookup y=cz c/\H c=cz (.frz ob (.own c))/\ob.data=.cell (cz uo)/\RelV v uo/\CellsIn cl H ys r
section
variable {cl:List (br×au)}{H H':Hp}
theorem CellsIn.up(e:Same H H'):∀{ys:List br} {vs:List V},CellsIn cl H ys vs->CellsIn cl H' ys vs
 |[],_,h=>h
 |y::ys,_,h=>by
  obtain⟨v,r,c,ob,uo,h1,h2,h3,h4,h5,h6⟩:=h;exact⟨v,r,c,ob,uo,h1,h2,e _ _ h3,h4,h5,CellsIn.up e h6⟩
theorem CellsIn.len:∀{ys:List br} {vs:List V},CellsIn cl H ys vs->vs.length=ys.length
 |[],_,h=>by rw[show _=[] from h];rfl
 |y::ys,_,h=>by
  obtain⟨v,r,c,ob,uo,rfl,h2,h3,h4,h5,h6⟩:=h;rw[aO,aO,CellsIn.len h6]
theorem CellsIn.get:∀{ys:List br} {vs:List V} {i:Nat} {y:br} {v:V},CellsIn cl H ys vs->ys[i]?=cz y->vs[i]?=cz v->∃c ob uo,cl.lookup y=cz c/\H c=cz (.frz ob (.own c))/\ob.data=.cell (cz uo)/\RelV v uo
 |[],_,i,y,v,_,e,_=>by simp at e
 |y0::ys,_,0,y,v,h,e1,e2=>by
  obtain⟨v',r,c,ob,uo,rfl,h2,h3,h4,h5,h6⟩:=h;have BU:y0=y:=by simpa using e1
  have BS:v'=v:=by simpa using e2
  subst BU BS;exact⟨c,ob,uo,h2,h3,h4,h5⟩
 |y0::ys,_,i+1,y,v,h,e1,e2=>by
  obtain⟨v',r,c,ob,uo,rfl,h2,h3,h4,h5,h6⟩:=h;exact CellsIn.get h6 (by simpa using e1) (by simpa using e2)
end
def a9f(cl:List (br×au))(H:Hp):Prop:=∀y c,cl.lookup y=cz c->∃ob uo,H c=cz (.frz ob (.own c))/\ob.data=.cell uo
noncomputable def fnE(us:List Ty)(oA:List D)(f:EvE):List D->Option D:=λds=>if argsOk us ds then f (ds++oA) else pz
theorem b1S{K:ae}{H:Hp}:∀{vs:List V} {ds:List D},DenAll K H vs ds->StAll K H [] (aB vs.length (.own .f)) ds (vs.map cz) []
 |_,[],h=>by rw[h.nil_inv];exact G0
 |_,d::ds,h=>by
  obtain⟨v,r,rfl,h1,h2⟩:=h.cons_inv;refine j7 (K:=K) (H:=H) (F:=[]) (m:=.own .f) (f:=[]) (g:=[]) ⟨v,rfl,?_⟩ (b1S h2);simp only[Own,F6];exact⟨trivial,h1⟩
theorem a0q:∀(ps:List α) (us:List β),((ps.zip us).map (·.1)).Sublist ps
 |[],_=>by rw[yZ];exact gj _
 |p::ps,[]=>by rw[List.zip_nil_right];exact List.nil_sublist _
 |p::ps,u::us=>by rw[dX,aA];exact (a0q ps us).cons₂ p
def a1x{ps:List br}{us:List ag}:∀{i:Nat} {y:br} {v:ag},ps.Nodup->ps[i]?=cz y->us[i]?=cz v->(ps.zip us).reverse.lookup y=cz v:=by
 intro i y v nd h1 h2;have hm:(y,v)∈(ps.zip us).reverse:=by
  rw[List.mem_reverse];exact bA (by rw[oE];exact⟨h1,h2⟩)
 have hk:(((ps.zip us).reverse).map (·.1)).Nodup:=by
  rw[List.map_reverse];have h0:((ps.zip us).map (·.1)).Nodup:=nd.sublist (a0q ps us);exact r_.mpr (h0.imp λz=>fx z)
 have key:∀l:List (br×ag),(l.map (·.1)).Nodup->(y,v)∈l->l.lookup y=cz v:=by
  intro l
  induction l with
  |nil=>intro _ h;cases h
  |cons p l ih=>
   intro hn hm;rw[aA,cf]at hn;obtain⟨k,z⟩:=p;rcases aF.mp hm with e|e
   ·cases e;simp[List.lookup]
   ·have:(y==k)=false:=by
     rw[ki];intro q;exact hn.1 (q▸bj.mpr ⟨_,e,rfl⟩)
    rw[eN,this];exact ih hn.2 e
 exact key _ hk hm
def b1e{P:bo}{w:bJ}{K:ae}{mg:br->Option ag}{base:b_}{k:Nat}{q:br}{params:lX}{body:Expr}{scope:fw}{cl:List (br×au)}{N ps ys:List br}{us:List Ty}{u:Ty}{f:EvE}{jA:List V}{oA:List D}{H:Hp}{fa:au}
  (L:LamO q params body scope cl H fa) (S:LamScope N ps ys scope cl) (qO:∀x y c,cl.lookup x=cz c->cl.lookup y=cz c->x=y) (hC:CellsIn cl H ys jA) (uV:a9f cl H) (hD:DenAll K H jA oA) (k_:us.length=ps.length)
  (lj:∀(pm:ag) (c:au) (kh:ag) (us:List ag),us.length=ps.length->oh (PySem.W.kla_fn "<lambda>" q params body scope cl pm (.ref c) kh) ⟨us,[]⟩=pure (ps.zip us))
  (hb:∀(c:au) (A:bH) (outer:List kZ) (s:aj) (H:Hp),Room k (A.deeper (gS q scope s.heap.objs.size fa (.ref c) cl))->PX (a6s P w K mg base N q scope fa (.ref c) cl A outer s H) (us.map .own++aB ys.length (.own .f)) body f (.new u)) :
  FnV P w K mg base (k+1) ps.length u (fnE us oA f) H (.ref fa):=by
 obtain⟨pm,c',kh,oc,zl,t0,b0,l1,l2,l3,l4⟩:=L;refine⟨fa,_,rfl,l1,⟨_,rfl⟩,λA outer s as vs Q E hr e0 rv ⟨ds,d,hl,hd,hm,hq⟩=>?_⟩;obtain⟨C,memC,sE⟩:∃C:List au,(∀c∈C,∃y,cl.lookup y=cz c)/\∀y c,cl.lookup y=cz c->c∈C:=
  ⟨(cl.map (·.1)).filterMap λy=>cl.lookup y,λc hc=>let⟨y,_,e⟩:=df.mp hc;⟨y,e⟩,λy c e=>df.mpr ⟨y,bj.mpr ⟨(y,c),bV e,rfl⟩,e⟩⟩
 have J:Junk H C:=λa ha u e=>by
  obtain⟨y,hy⟩:=memC a ha;obtain⟨ob,uo,h1,_⟩:=uV y a hy;rw[h1]at e;cases e
  exact⟨ob,rfl⟩
 have zQ:∀a∈C,∃u,H a=cz u:=λa ha=>by
  obtain⟨y,hy⟩:=memC a ha;obtain⟨ob,uo,h1,_⟩:=uV y a hy;exact⟨_,h1⟩
 have lim:s.heap.NoLimit:=e0.mod.nolimit.keeps λb o e=>(e0.bs b o e).1
 have ho:s.heap.get? fa=cz (dB "<lambda>" q params body scope cl pm c' kh):=(e0.hok fa _ l1).1;have Be:s.heap.CodeRec (.ref c') q:=⟨c',oc,zl,t0,rfl,(e0.hok c' _ l2).1,l3,l4⟩;have yB:as.length=ps.length:=by rw[<-rv.length];exact hl
 have zM:ps.Nodup:=by have:=S.nd;rw[S.pre]at this;exact this.sublist (pd _ _)
 refine PySem.W.kla_callFunE hr.depth ho rfl S.co S.gen rfl Be ?_;rw[lj pm c' kh as yB];refine aE (wpAny_newFunctionEnv S.ncell (λy hy=>S.par _ (gJ hy).1) (λh₁ mD vP=>⟨lim.fresh _ vP,?_⟩) S.kind);show jk _ _ (.expr body (gS q scope s.heap.objs.size fa (.ref c') cl)) _ _;have mG:∀b o,s.heap.get? b=cz o->h₁.get? b=cz o:=λb o e=>vP.extBut b o (bP (aN e)) (aP _ e)
 have qg:∀b:au,b∉(a6s P w K mg base N q scope fa (.ref c') cl A outer s (VS.cut H C)).ex:=λb z=>absurd (show b∈([]:List au) from z) (by simp)
 have AG:N.length=ps.length+ys.length:=by rw[S.pre,az]
 have I:Inv (a6s P w K mg base N q scope fa (.ref c') cl A outer s (VS.cut H C)) [] (vs.map cz++jA.map cz) (VS.cut H C) {s with heap:=h₁,toks:=s.toks+(ps.zip as).length}:=by
  refine⟨⟨e0.mod,S.kind,rfl,rfl,aG _,qO,λx hx=>?_,λx c hx _=>(nomatch hx),λ_=>hr.hd,bH.frames_deeper e0.frames,.inr ⟨rfl,rfl⟩,λb z=>absurd z (qg b),λb o e=>⟨(e0.bs b o e).1,K2 (e0.bs b o e).2⟩,e0.bsz,λb _ _=>qg b,λb z=>absurd z (qg b),e0.funs,λb hb=>K2 (e0.frf b hb),a7w e0.tabs J⟩,
   rfl,e0.bare,Un.kept mG,⟨_,mD,λi x v h1 h2 h3=>?_⟩,λx c e=>?_,K2 (e0.hok.fresh (aG _)),λx c e=>Y3 (sE x c e),λp hp=>absurd (show p∈([]:List (au×eW)) from hp) (by simp),(a4l e0.hok J).kept mG,?_⟩
  ·have vK:scope.names.lookup x=cz .cell∨scope.names.lookup x=cz .free:=hx;rcases vK with z|z
   ·exact absurd rfl (S.ncell _ (bV z))
   ·have w:=cZ.mp S.has _ (bV z);rw[nv]at w;rcases w with w|w
    ·exact absurd (show (ek !=ek)=true from w) (by decide)
    ·exact eF.mp w
  ·have ng:(ps++ys)[i]?=cz x:=by rw[<-S.pre];exact h1
   by_cases hi:i<ps.length
   ·rw[bK hi]at ng;rw[bK (by rw[ao,hl];exact hi),bE]at h2;have jy:vs[i]?=cz v:=by
     cases e:vs[i]? with
     |none=>rw[e]at h2;cases h2
     |some a=>rw[e]at h2;cases h2;rfl
    obtain⟨u',hu,r⟩:=rv.get jy;exact⟨u',r,.inl ⟨S.par x (bA ng),a1x zM ng hu⟩⟩
   ·rw[bI (by lia)]at ng;rw[bI (by rw[ao,hl];lia),ao,bE,hl]at h2;have jy:jA[i-ps.length]?=cz v:=by
     cases e:jA[i-ps.length]? with
     |none=>rw[e]at h2;cases h2
     |some a=>rw[e]at h2;cases h2;rfl
    obtain⟨c,ob,uo,z1,z2,z3,z4⟩:=hC.get ng jy;exact⟨uo,z4,.inr ⟨.inr (S.fre x (bA ng)),c,z1,ob,mG c ob (e0.hok c _ z2).1,z3⟩⟩
  ·obtain⟨ob,uo,z1,z2⟩:=uV x c e;exact⟨uo,ob,mG c ob (e0.hok c _ z1).1,z2⟩
  ·show _=N.length;rw[az,ao,ao,hl,hC.len,AG]
 obtain⟨t,pt,qt⟩:=(hb c' A outer s (VS.cut H C) (hr.deeper _)).out;unfold fnE at hm;by_cases ha:argsOk us ds=true
 ·rw[aL ha]at hm;have Bd:DenAll K (VS.cut H C) vs ds:=DenAll.junk J ds hd;have Bi:DenAll K (VS.cut H C) jA oA:=DenAll.junk J oA hD;have h0:=O7 (K:=K) (H:=VS.cut H C) ha Bd 0;simp only[fN,bg]at h0;have h1:=b1S Bi;rw[hC.len]at h1;have SE:StE K (us.map .own++aB ys.length (.own .f)) (ds++oA) (vs.map cz++jA.map cz) (VS.cut H C) (VS.cut H C) []:=⟨⟨_,h0.app h1,λa ha=>(nomatch ha)⟩,λa ha=>(nomatch ha),by rw[F6];exact Same.refl _⟩;refine PySem.W.kla_codeExpr (cM (pt [] _ _ (VS.cut H C) (λv H'=>Same (VS.cut H C) H'/\ResR K (.new u) (VS.cut H C) H' [] v d) I (qt (ds++oA) _ (VS.cut H C) (VS.cut H C) [] d _ SE hm λv H' e r=>⟨e,r⟩)) (λv s' hs=>?_) λe s' hs=>(show False from hs).elim);obtain⟨v',H',J',r',e',fp,o,nd,fr⟩:=hs;have mS:∀c∈C,H' c=pz:=λc hc=>by
   obtain⟨y,hy⟩:=memC c hc;exact J'.freeC y c hy
  have vG:∀{b:au} {o:HO},H' b=cz o->b1c C H H' b=cz o:=λ{b o} q=>by
   rw[E3 (λz=>by rw[mS b z]at q;cases q)];exact q
  have nC:∀{b:au},H b=pz->b∉C:=λ{b} n z=>by
   obtain⟨u,hu⟩:=zQ b z;rw[n]at hu;cases hu
  have uX:∀a∈fp,a∉C:=λa ha z=>by
   obtain⟨ys,q⟩:=o.lst u a ha;rw[mS a z]at q;cases q
  refine (show CE outer P w H s Q v s' from⟨v',b1c C H H',J'.os,J'.bare,⟨λb o q n hb hx=>J'.base.keep b o q (K2 n) hb hx,λb o q n hb hx=>J'.base.slot b o q (K2 n) hb hx,λb o q n hx=>?_,J'.base.there,λb xs e=>?_,λb o u e=>?_,λb ps e=>?_⟩,λb o e=>?_,r',hq v' _ fp (λb o e=>?_) ?_ nd λa ha=>?_⟩)
  ·rw[E3 (nC n)];exact J'.base.free b o q (K2 n) hx
  ·have nb:=J.out e λo z=>(nomatch z)
   rw[E3 nb];exact J'.base.tups b xs (l0 nb e)
  ·by_cases hb:b∈C
   ·rw[a3m hb];exact e
   ·rw[E3 hb];exact J'.base.frzs b o u (l0 hb e)
  ·have nb:=J.out e λo z=>(nomatch z)
   obtain⟨more,z⟩:=J'.base.tbls b ps (l0 nb e);exact⟨more,by rw[E3 nb];exact z⟩
  ·by_cases hb:b∈C
   ·rw[a3m hb]at e;obtain⟨ob,rfl⟩:=J b hb o e;have z:=(e0.hok b _ e).1;have z':=J'.base.keep b ob z (Y3 hb) (λy=>by rw[e0.frf b y]at e;cases e) (by intro y;exact absurd (show b∈([]:List au) from y) (by simp));exact⟨z',_,z'⟩
   ·rw[E3 hb]at e;exact (J'.hok b o e).stay (λ_ _ _ q=>q) (λb q=>vG q) λb u q=>vG q
  ·by_cases hb:b∈C
   ·rw[a3m hb];exact e
   ·rw[E3 hb];exact e' b o (l0 hb e)
  ·refine Own.frame (λb o' hb=>?_) u o λa ha=>E3 (uX a ha)
   obtain⟨n1,n2⟩:=t5 hb;exact l0 (λz=>n1 (aw _ z)) (vG n2)
  ·have:=fr a ha;rw[S9 (uX a ha)]at this;exact this
 ·rw[aS ha]at hm;cases hm
def a6t(X:Cx)(cl:List (br×au)):List br->List Nat->Prop
 |[],js=>js=[]
 |y::ys,js=>∃j r c,js=j::r/\X.N[j]?=cz y/\X.env.kindOf y=cz .cell/\X.env.cells.lookup y=cz c/\cl.lookup y=cz c/\a6t X cl ys r
def b5D(X:Cx)(cl:List (br×au)):Prop:=∀p∈cl,X.env.cells.lookup p.1=cz p.2/\X.fn p.1=true
def b1f(σ:L2.St):List Nat->List V->Prop
 |[],vs=>vs=[]
 |j::js,vs=>∃v r,vs=v::r/\σ[j]?=cz (cz v)/\b1f σ js r
def b3C(X:Cx)(cl:List (br×au))(ys:List br)(js:List Nat)(sp:Sp)(t:TA):TE:=λσ H Q=>t σ H λvs H1=>∃jA,b1f σ js jA/\
 ∀(H2:Hp) (C:List au),(∀x y c,cl.lookup x=cz c->cl.lookup y=cz c->x=y)->Same H1 H2->CellsIn cl H2 ys jA->a9f cl H2->Junk H2 C->(∀b,b∉C->H2 b=H1 b)->(∀b∈C,H1 b=pz)->sp vs H2 (λv H'=>Junk H' C->Q v (VS.cut H' C)) E0
theorem a4n{cl:List (br×au)}(I:Inv X pins σ H s)(h2:∀y c,cl.lookup y=cz c->∀ob,s.heap.get? c=cz ob->H2 c=cz (.frz ob (.own c))) :
  ∀{ys:List br} {js:List Nat} {jA:List V},a6t X cl ys js->b1f σ js jA->CellsIn cl H2 ys jA
 |[],js,jA,h,q=>by
  rw[show js=[] from h]at q;exact q
 |y::ys,_,jA,h,q=>by
  obtain⟨j,r,c,rfl,h1,h3,h4,h5,h6⟩:=h;obtain⟨v,rs,rfl,q1,q2⟩:=q;obtain⟨m,hn,hl⟩:=I.loc;obtain⟨u,ru,lk⟩:=hl j y v h1 q1 (.inr (.inl h3));rcases lk with⟨k,_⟩|⟨k,c',e',ob,z1,z2⟩
  ·rw[h3]at k;cases k
  ·rw[h4]at e';cases e'
   exact⟨v,rs,c,ob,u,rfl,h5,h2 y c h5 ob z1,z2,ru,a4n I h2 h6 q2⟩
section
variable {X:Cx}{k:Nat}{f:au}{fd:c_}{ps:List br}{sp:Sp}{x:br}{p pos:eH}{e:Expr}{es:List Expr}{t:TA}{cl:List (br×au)}{ys:List br}{js:List Nat}
def a9g(F:FnOk X.prog X.w X.K X.mg X.base CX0 k f fd ps sp)(hr:Room k X.A)(hg:Gl X x)(hm:X.mg x=cz (.ref f))(hk:dU X.K (.ref f)=true)(hb:Binds X.K fd ps [])(ha:PA X (e::es) t)(qW:a6t X cl ys js)(iV:b5D X cl)
  (jt:(x==("__debug__":br))=false) (he:ax (e::es) X.env=(false,cU e X.env)::ax es X.env) (fB:(dj pos (ax es X.env)).any (·.1)=false) :
  PE X (.Call (.Name x p) (e::es) [] pos) (b3C X cl ys js sp t):=by
 intro pins s0 σ H0 Q I0 h;refine fA (S8 I0 hg hm ?_ jt);refine kT (h₀:=X.base) I0.ok.mod.kin hk (L2.thn (ha pos pins s0 σ H0 _ I0 h) λus s ⟨vs,H,I,r,jA,tP,q⟩=>⟨I.kIn,?_⟩) he fB;obtain⟨C,memC,sE⟩:∃C:List au,(∀c∈C,∃y,cl.lookup y=cz c)/\∀y c,cl.lookup y=cz c->c∈C:=
  ⟨(cl.map (·.1)).filterMap λy=>cl.lookup y,λc hc=>let⟨y,_,e⟩:=df.mp hc;⟨y,e⟩,λy c e=>df.mpr ⟨y,bj.mpr ⟨(y,c),bV e,rfl⟩,e⟩⟩
 have mO:∀c∈C,∃y,X.env.cells.lookup y=cz c/\X.fn y=true:=λc hc=>by
  obtain⟨y,hy⟩:=memC c hc;exact⟨y,iV _ (bV hy)⟩
 have mS:∀c∈C,H c=pz:=λc hc=>by
  obtain⟨y,hy,_⟩:=mO c hc;exact I.freeC y c hy
 have kK:∀c∈C,∃ob v,s.heap.get? c=cz ob/\ob.data=.cell v:=λc hc=>by
  obtain⟨y,hy,_⟩:=mO c hc;obtain⟨v,ob,z1,z2⟩:=I.cell y c hy;exact⟨ob,v,z1,z2⟩
 have pI:∀c∈C,X.s₀.heap.objs.size<=c:=λc hc=>by
  obtain⟨y,hy,hf⟩:=mO c hc;exact I.ok.cab y c hf hy
 obtain⟨H2,n_,kE⟩:∃H2:Hp,(∀c∈C,∀ob,s.heap.get? c=cz ob->H2 c=cz (.frz ob (.own c)))/\∀b,b∉C->H2 b=H b:=
  ⟨λb=>if b∈C then (s.heap.get? b).map (λo=>HO.frz o (.own b)) else H b,λc hc ob z=>by show (if c∈C then _ else _)=_;rw[aL hc,z];rfl,λb hb=>aS hb⟩
 have jB:Same H H2:=λb o e=>by
  rw[kE b (λz=>by rw[mS b z]at e;cases e)];exact e
 have J2:Junk H2 C:=λa hm u e=>by
  obtain⟨ob,v,z1,_⟩:=kK a hm;rw[n_ a hm ob z1]at e;cases e
  exact⟨ob,rfl⟩
 have oO:HOk X.prog X.w H2 s.heap:=λb o e=>by
  by_cases hb:b∈C
  ·obtain⟨ob,v,z1,_⟩:=kK b hb;rw[n_ b hb ob z1]at e;cases e
   exact⟨z1,_,z1⟩
  ·rw[kE b hb]at e;exact (I.hok b o e).stay (λ_ _ _ q=>q) (λb q=>jB _ _ q) λb u q=>jB _ _ q
 have e0:Env0 X.prog X.w X.K X.mg X.base X.A X.stack s H2:=by
  have z:=I.env0;refine⟨z.frames,z.mod,λb o e=>⟨(z.bs b o e).1,?_⟩,z.bsz,z.funs,λb hb=>?_,oO,z.bare,λx hx p e=>?_⟩
  ·rw[kE b λhc=>absurd (aZ (aN e) (bZ I.ok.bsz (pI b hc))) (dN _)];exact (z.bs b o e).2
  ·rw[kE b λhc=>?_]
   ·exact z.frf b hb
   ·rcases aF.mp (I.stkSub b hb) with e|e
    ·obtain⟨y,hy,_⟩:=mO b hc;exact I.cne y b hy e
    ·obtain⟨_,o,ho,_⟩:=I.ok.funs.mem e;exact absurd (aZ (aN ho) (pI b hc)) (dN _)
  ·obtain⟨qs,t',e1,e2⟩:=z.tabs x hx p e;exact⟨qs,t',jB _ _ e1,e2⟩
 have mT:=q H2 C (λx y c z1 z2=>I.ok.inj x y c (iV _ (bV z1)).1 (iV _ (bV z2)).1) jB (a4n I (λy c hy ob z=>n_ c (sE y c hy) ob z) qW tP) (λy c hy=>by
  obtain⟨ob,v,z1,z2⟩:=kK c (sE y c hy);exact⟨ob,v,n_ c (sE y c hy) ob z1,z2⟩) J2 kE mS
 have r2:Vals vs (us++[]):=by rw[bg];exact r
 have hl:(us++[]).length=ps.length:=by rw[<-r2.length];exact F.len _ _ _ _ mT
 refine mR (gB (F.run X.A X.stack s H2 ⟨us,[]⟩ (us++[]) vs _ E0 hr e0 (hb s us I.kIn hl) r2 mT) λr s' hq=>?_);cases r with
 |error e=>exact cJ hq
 |ok fl=>
  cases fl with
  |next=>exact cJ hq
  |brk=>exact cJ hq
  |cont=>exact cJ hq
  |ret u=>
   obtain⟨v,H',os,bare,un,nQ,rv,qv⟩:=(show CE X.stack X.prog X.w H2 s _ u s' from hq);have fz:∀c∈C,∃ob,s.heap.get? c=cz ob/\H' c=cz (.frz ob (.own c))/\s'.heap.get? c=cz ob:=λc hc=>by
    obtain⟨ob,v,z1,_⟩:=kK c hc;have z2:=un.frzs c ob _ (n_ c hc ob z1);exact⟨ob,z1,z2,(nQ c _ z2).1⟩
   have J':Junk H' C:=λa hm u e=>by
    obtain⟨ob,_,z,_⟩:=fz a hm;rw[z]at e;cases e
    exact⟨ob,rfl⟩
   have n2:∀b,H b=pz->b∉C->H2 b=pz:=λb n hb=>by rw[kE b hb];exact n
   have oC:∀b u,H b=cz u->b∉C:=λb u e z=>by rw[mS b z]at e;cases e
   have zq:Un (frs X.stack) [] H (VS.cut H' C) s.heap s'.heap:=by
    refine⟨λb o e n hb hx=>?_,λb o e n hb hx=>?_,λb o e n hx=>?_,un.there,λb xs e=>?_,λb o u e=>?_,λb ps e=>?_⟩
    ·by_cases hc:b∈C
     ·obtain⟨ob,z1,_,z3⟩:=fz b hc;rw[e]at z1;cases z1
      exact z3
     ·exact un.keep b o e (n2 b n hc) hb hx
    ·by_cases hc:b∈C
     ·obtain⟨ob,z1,_,z3⟩:=fz b hc;rw[e]at z1;cases z1
      exact⟨o.slots,z3⟩
     ·exact un.slot b o e (n2 b n hc) hb hx
    ·by_cases hc:b∈C
     ·exact Y3 hc
     ·exact K2 (un.free b o e (n2 b n hc) hx)
    ·exact l0 (oC b _ e) (un.tups b xs (jB _ _ e))
    ·exact l0 (oC b _ e) (un.frzs b o u (jB _ _ e))
    ·obtain⟨more,z⟩:=un.tbls b ps (jB _ _ e);exact⟨more,l0 (oC b _ e) z⟩
   exact⟨v,VS.cut H' C,I.call' os zq (a4l nQ J') bare (λb z=>absurd z (by simp)),rv,qv J'⟩
end
def L6(scope:fw)(env:kZ):List (br×au):=scope.names.foldl (λcs p=>if p.2==.free then (match env.cells.lookup p.1 with|some c=>(p.1,c)::cs|none=>cs) else cs) []
def a5s:∀p∈L6 scope env,env.cells.lookup p.1=cz p.2:=by
 have key:∀(l:List (br×gD)) (cs:List (br×au)),(∀p∈cs,env.cells.lookup p.1=cz p.2)->∀p∈l.foldl (λcs p=>if p.2==.free then (match env.cells.lookup p.1 with|some c=>(p.1,c)::cs|none=>cs) else cs) cs,env.cells.lookup p.1=cz p.2:=by
  intro l
  induction l with
  |nil=>intro cs h;exact h
  |cons a l ih=>
   intro cs h;rw[Dq];refine ih _ λp hp=>?_
   split at hp
   ·split at hp
    ·rename_i c hc
     rcases aF.mp hp with e|e
     ·rw[e];exact hc
     ·exact h p e
    ·exact h p hp
   ·exact h p hp
 exact key _ _ λp hp=>(nomatch hp)
def b1g{X:Cx}(kQ:∀x,X.fn x=true:=by exact λ_=>rfl):b5D X (L6 scope X.env):=λp hp=>⟨a5s p hp,kQ _⟩
section
variable {X:Cx}{M:List Md}{e0:Expr}{es:List Expr}{f:EvA}{u uf:Ty}{x:br}{p pos iJ:eH}{params:lX}{body:Expr}{scope:fw}{ys:List br}{js:List Nat}
def b1h(hx:y∈G9)(hP:w9 X.K y=cz P)(hc:X.env.code=.ref c)(hd:fF X.base c P)(hq:X.env.qual++"<lambda>"=P5 y)
  (nW:nh scope X.env=pure (L6 scope X.env):=by rfl) (qU:defaultsOf params X.env=([],[]):=by rfl) (hs:ax [.Lambda params body scope iJ] X.env=(false,cU (.Lambda params body scope iJ) X.env)::ax [] X.env:=by rfl) :
  PAL X M [.Lambda params body scope iJ] b9 λH v=>∃fa,v=.ref fa/\LamO (P5 y) params body scope (L6 scope X.env) H fa:=by
 refine⟨_,p6 (a7y hx hP hc hd hq nW qU) A6 hs,λZ σ H P F ds Q S hf q=>?_⟩;cases hf
 exact λfa H' e L=>q [] (.ref fa) H' e denAll_nil ⟨fa,rfl,L⟩
def b3D(M:List Md):List Nat->Prop
 |[]=>True
 |j::js=>(∃w,M[j]?=cz (.own w))/\b3D M js
theorem a6u{K:ae}{Z:List D}{σ:L2.St}{H P:Hp}{F:List au}(S:StE K M Z σ H P F):∀{js:List Nat},b3D M js->∃jA,b1f σ js jA/\DenAll K H jA (js.map λj=>Z.getD j .none)
 |[],_=>⟨[],rfl,denAll_nil⟩
 |j::js,h=>by
  obtain⟨⟨w,hw⟩,h2⟩:=h;obtain⟨v,fp,e,o,_⟩:=S.get hw;obtain⟨jA,q1,q2⟩:=a6u S h2;exact⟨v::jA,⟨v,jA,rfl,e,q1⟩,denAll_cons (o.den w) q2⟩
noncomputable def b1i(m:(List D->Option D)->List D->Option D)(us:List Ty)(js:List Nat)(fb:EvE)(f:EvA):EvE:=λZ=>(f Z).bind (m (fnE us (js.map λj=>Z.getD j .none) fb))
def a5t{k kf n:Nat}{ps pl N:List br}{q:br}{us:List Ty}{fb:EvE}{m:(List D->Option D)->List D->Option D}
  (W:Has X.prog X.w X.K X.mg X.base x k ps (spL X.K n (λgm=>FnV X.prog X.w X.K X.mg X.base (kf+1) pl.length uf gm) m u)) (hr:Room k X.A) (h:PAL X M (e0::es) f λH v=>∃fa,v=.ref fa/\LamO q params body scope (L6 scope X.env) H fa)
  (qW:a6t X (L6 scope X.env) ys js) (hM:b3D M js) (S:LamScope N pl ys scope (L6 scope X.env)) (k_:us.length=pl.length)
  (lj:∀(pm:ag) (c:au) (kh:ag) (us:List ag),us.length=pl.length->oh (PySem.W.kla_fn "<lambda>" q params body scope (L6 scope X.env) pm (.ref c) kh) ⟨us,[]⟩=pure (pl.zip us))
  (hb:∀(fa c:au) (A:bH) (outer:List kZ) (s:aj) (H:Hp),Room kf (A.deeper (gS q scope s.heap.objs.size fa (.ref c) (L6 scope X.env)))->PX (a6s X.prog X.w X.K X.mg X.base N q scope fa (.ref c) (L6 scope X.env) A outer s H) (us.map .own++aB ys.length (.own .f)) body fb (.new uf))
  (hfl:∀Z ds,f Z=cz ds->ds.length=n) (hu:u.shut=true:=by rfl) (kQ:∀x,X.fn x=true:=by exact λ_=>rfl)
  (hg:Gl X x:=by rfl) (jt:(x==("__debug__":br))=false:=by decide) (he:ax (e0::es) X.env=(false,cU e0 X.env)::ax es X.env:=by rfl) (fB:(dj pos (ax es X.env)).any (·.1)=false:=by rfl) :
  PX X M (.Call (.Name x p) (e0::es) [] pos) (b1i m us js fb f) (.new u):=by
 obtain⟨t,pa,qa⟩:=h;obtain⟨Df,fd,F,b,kp,zO⟩:=W.ex;refine .mk ⟨_,a9g F hr hg zO kp b pa qW (b1g kQ) jt he fB,λZ σ H P F d Q S' hf q=>?_⟩;obtain⟨ds,h1,hf⟩:=bnd hf;refine qa Z σ H P F ds _ S' h1 λvs v H1 e1 r1 ⟨fa,hv,L⟩=>?_
 subst hv;obtain⟨jA,c1,c2⟩:=a6u (S'.grow e1) hM;refine⟨jA,c1,λH2 C qO s2 ci BX J2 o2 n2=>?_⟩;refine⟨vs,.ref fa,_,ds,d,rfl,by rw[r1.length];exact hfl Z ds h1,r1.up s2,λH' e'=>b1e (L.up (s2.trans e')) S qO (ci.up e') (λy c z=>let⟨ob,uo,w1,w2⟩:=BX y c z;⟨ob,uo,e' _ _ w1,w2⟩) (c2.up (s2.trans e')) k_ lj (hb fa),hf,λv H' fp e o nd fr J'=>?_⟩;have uX:∀a∈fp,a∉C:=λa ha z=>by
  obtain⟨ys,w⟩:=o.lst u a ha;obtain⟨ob,w'⟩:=J' a z _ w;have:=ys.2;rw[w']at this;exact this
 have sm:Same H1 (VS.cut H' C):=λb o' hb=>l0 (λz=>by rw[n2 b z]at hb;cases hb) (e _ _ (s2 _ _ hb))
 refine q v (VS.cut H' C) (e1.trans sm) ⟨fp,(o.junk J' u).shut_out (λa ha=>?_) u hu,nd,λa ha=>?_⟩
 ·rcases ar.mp ha with z|z
  ·exact (o.junk J' u).lst u a z
  ·exact S'.lst' (e1.trans sm) a z
 ·have:=fr a ha;rw[o2 a (uX a ha)]at this;exact e1.free this
end
def a9h{P:bo}{w:bJ}{K:ae}{mg:br->Option ag}{base:b_}{x:br}{st:fH}{f:au}{fd:c_}{N ps:List br}{k n:Nat}{us:List Ty}{u:Ty}{g:EvS}{M':List Md}(F:Fun K x x st f fd)(S:FnScope N ps (g8 st))(k_:us.length=ps.length)(hn:N.length=ps.length+n)
  (hb:∀(A:bH) (outer:List kZ) (s:aj) (H:Hp) (E:XK),Room k (A.deeper (gL x (g8 st) s.heap.objs.size f fd.code))->PSsX (P7 CX0 P w K mg base N x (g8 st) f fd.code A outer s H E).nox u [] (us.map .own++aB n .dead) (t7 st) g M') :
  FnOk P w K mg base CX0 (k+1) f fd ps (spD K ps.length (fnD us n g) u):=by
 obtain⟨oc,od,kV,doc,pm,an,eP,ct,mv,rfl,lk,gu⟩:=F.ex;refine a8d lk gu S (λvs H Q E ⟨ds,d,hl,_⟩=>hl) λA outer s H vs Q E hr ⟨ds,d,hl,hd,hm,q⟩=>?_
 obtain⟨t,p,r⟩:=(hb A outer s H E hr).out;refine⟨t,p.nox,?_⟩;unfold fnD at hm;by_cases ha:argsOk us ds=true
 ·rw[aL ha]at hm;obtain⟨o,h1,h2⟩:=bnd hm;cases o with
  |rt d'=>
   have jy:cz d'=cz d:=h2;cases jy
   have e:L2.start N vs=vs.map cz++aB n pz:=by
    unfold L2.start;rw[show N.length-vs.length=n by lia]
   rw[e];refine r _ (ds++aB n pR) _ H H [] (.rt d) ⟨⟨[],O7 ha hd n,bW,λa ha=>(nomatch ha)⟩,λa ha=>(nomatch ha),by rw[F6];exact Same.refl H⟩ h1 ?_;exact λv H' fp o nd fr e=>q v H' fp e o nd fr
  |_=>cases h2
 ·rw[aS ha]at hm;cases hm
def a9i{K:ae}{base:b_}{fd:c_}(e:(w9 K x).isSome=true)(X:K.In base)(G:base.Ns aY mg)(a:bO K aY x=cz (cz (.ref f)))(l:K.lookup f=cz ⟨oc,od,.func fd,sl⟩) :
  ∃c p,fd.code=.ref c/\w9 K x=cz p/\fF base c p:=by
 obtain⟨p,hp⟩:=eF.mp e;obtain⟨f',CC,CB,yJ,rJ,c,h1,h2,h3,h4⟩:=a2v hp X G;have h5:=fR X G a;rw[h1]at h5;cases h5
 rw[l]at h2;cases h2
 exact⟨c,p,h3,hp,h4⟩
end VS
namespace VS
open PySem PySem.Spec L2
def Itz(K:ae)(a b:au):It:=
 ⟨λi H=>∃xs ys x y,SqL K H a xs/\SqL K H b ys/\xs[i]?=cz x/\ys[i]?=cz y,λi H v H'=>∃T x y,H T=pz/\H'=upd H T (.tup [x,y])/\v=.ref T/\(∀xs,SqL K H a xs->xs[i]?=cz x)/\∀ys,SqL K H b ys->ys[i]?=cz y,λi H=>∃xs ys,SqL K H a xs/\SqL K H b ys/\(xs.length<=i∨ys.length<=i)⟩
structure ZA (z TI TO i1 i2:au):Prop where
 TIz:TI≠z
 TOz:TO≠z
 i1z:i1≠z
 i2z:i2≠z
 TITO:TI≠TO
 TIi1:TI≠i1
 TIi2:TI≠i2
 TOi1:TO≠i1
 TOi2:TO≠i2
 i12:i1≠i2
def zaN(n:Nat):ZA (n+4) (n+2) (n+3) n (n+1):=by
 constructor<;>(intro (h:(_:Nat)=_);lia)
def a3n{h:b_}{a b:au}{o o':eW}(ha:h.get? a=cz o)(hb:h.get? b=cz o')(hc:o.cls≠o'.cls):a≠b:=λz=>by
 rw[z,hb]at ha;cases ha
 exact hc rfl
def ZA.apart{z TI TO i1 i2 a b:au}(D:ZA z TI TO i1 i2){h:b_}{p q:ag}{i j:Nat}{xs ys:Array ag}(hz:IsZip h z TI TO .none)(mK:IsPair h TO p q)(h1:h.IsListIter i1 a i)(h2:h.IsListIter i2 b j)(ha:h.IsList a xs)(hb:h.IsList b ys):ZipApart z TI TO i1 i2 a b:=by
 have key:∀{c:au} {zs:Array ag},h.IsList c zs->c≠z/\c≠TO/\c≠i1/\c≠i2:=λ{c zs} ⟨o,e,hc,_⟩=>by
  obtain⟨o1,e1,c1,_⟩:=h1;obtain⟨o2,e2,c2,_⟩:=h2;exact⟨a3n e hz (by rw[hc];show fQ "list"≠fQ "zip";decide),a3n e mK (by rw[hc];show fQ "list"≠fQ "tuple";decide),a3n e e1 (by rw[hc,c1];decide),a3n e e2 (by rw[hc,c2];decide)⟩
 obtain⟨a1,a2,a3,a4⟩:=key ha;obtain⟨b1,b2,b3,b4⟩:=key hb;exact⟨D.TIz,D.TOz,D.i1z,D.i2z,D.TITO,D.TIi1,D.TIi2,D.TOi1,D.TOi2,D.i12,a1,a2,a3,a4,b1,b2,b3,b4⟩
def a9j{P:bo}{w:bJ}{K:ae}{elts:List Expr}{kk:Nat}{fM:eH}(a b z TI TO i1 i2:au)(D:ZA z TI TO i1 i2) :
  Turn P w K (.Tuple elts kk fM) (Itz K a b) [z,TI,TO,i1,i2] z (λi h=>IsZip h z TI TO .none/\IsPair h TI (.ref i1) (.ref i2)/\(∃p q,IsPair h TO p q)/\h.IsListIter i1 a i/\h.IsListIter i2 b i) where
 mem:=by simp
 obj:=λi h ⟨hz,oy,⟨p,q,mK⟩,⟨o1,e1,_,d1⟩,⟨o2,e2,_,d2⟩⟩ c hc=>by
  simp only[aF,iO,sj]at hc;rcases hc with rfl|rfl|rfl|rfl|rfl
  ·exact⟨_,hz,λv z=>by cases z⟩
  ·exact⟨_,oy,λv z=>by cases z⟩
  ·exact⟨_,mK,λv z=>by cases z⟩
  ·exact⟨o1,e1,λv z=>by rw[d1]at z;cases z⟩
  ·exact⟨o2,e2,λv z=>by rw[d2]at z;cases z⟩
 keep:=λi h h' ⟨hz,oy,⟨p,q,mK⟩,h1,h2⟩ k=>⟨k z (by simp) _ hz,k TI (by simp) _ oy,⟨p,q,k TO (by simp) _ mK⟩,h1.at λo x=>k i1 (by simp) o x,h2.at λo x=>k i2 (by simp) o x⟩
 item:=by
  intro X hP hw hK hc i pins s σ H E I hf st hg;subst hP hw hK;obtain⟨xs,ys,x,y,uH,uG,hx,hy⟩:=hg;obtain⟨cN,rv,pa,_⟩:=I.list uH;obtain⟨sA,p_,pb,_⟩:=I.list uG;obtain⟨u,hu,ru⟩:=rv.get hx;obtain⟨v,hv,zx⟩:=p_.get hy;obtain⟨hz,oy,⟨p,q,mK⟩,h1,h2⟩:=st;have W:=WalksT.zip2 (prog:=X.prog) (w:=X.w) (A:=X.A) (I.ok.hd hc) z TI TO i1 i2 a b (D.apart hz mK h1 h2 pa.isList pb.isList) cN.toArray sA.toArray;have kY:i<min cN.toArray.size sA.toArray.size:=by
   have q1:=(aT.mp hu).1;have q2:=(aT.mp hv).1;simp;lia
  refine W.item i s _ E kY ⟨hz,oy,⟨p,q,mK⟩,h1,h2,pa.isList,pb.isList⟩ λT vals h' tk hP hT qz nZ hk=>⟨.ref T,rfl,W.go elts kk fM i T {s with heap:=h',toks:=tk} _ E nZ λjy jE sZ=>?_⟩
  obtain⟨u',v',sM,sJ,rfl⟩:=hP;have eu:u'=u:=by
   have h1:cN[i]?=cz u':=by simpa using sM
   rw[hu]at h1;exact (aK h1).symm
  have ev:v'=v:=by
   have h1:sA[i]?=cz v':=by simpa using sJ
   rw[hv]at h1;exact (aK h1).symm
  subst eu ev;have rd:=W.apart i T h' nZ;obtain⟨oT,eT,cT⟩:=qz;have hn:H T=pz:=I.hok.fresh hT;have new:ObjOk X.prog X.w (upd H T (.tup [x,y])) jy T (.tup [x,y]):=by
   refine⟨by rw[dD];show 2<=_;decide,[u',v'],?_,oT,sZ T oT rd eT,cT⟩;exact .cons ru (.cons zx .nil)
  refine⟨.ref T,upd H T (.tup [x,y]),a6l (s:=s) (t':=tk) (ch:=[z,TI,TO,i1,i2]) I (λb o hb q=>?_) hf hT new,rfl,⟨T,x,y,hn,rfl,rfl,λzh sF=>by rw[I.list_inj sF uH];exact hx,λzh sF=>by rw[I.list_inj sF uG];exact hy⟩,⟨jE.1,jE.2.1,jE.2.2.1,jE.2.2.2.1,jE.2.2.2.2.1⟩,λb hb=>?_⟩
  ·have pK:b∉[z,TO,i1,i2]:=λz=>hb (by simp only[aF,iO,sj]at z ⊢;rcases z with z|z|z|z<;>simp[z])
   exact sZ b o pK (hk b o pK q)
  ·have gK:b<s.heap.objs.size:=by
    simp only[aF,iO,sj]at hb;rcases hb with e|e|e|e|e<;>rw[e]
    ·exact aN hz
    ·exact aN oy
    ·exact aN mK
    ·obtain⟨_,e,_⟩:=h1;exact aN e
    ·obtain⟨_,e,_⟩:=h2;exact aN e
   rw[g7 (bP (aZ gK hT))];exact (hf b hb).1
 done:=by
  intro X hP hw hK hc i pins s σ H E I hf st hg;subst hP hw hK;obtain⟨xs,ys,uH,uG,hx⟩:=hg;obtain⟨cN,rv,pa,_⟩:=I.list uH;obtain⟨sA,p_,pb,_⟩:=I.list uG;have l1:=rv.length;have l2:=p_.length;obtain⟨hz,oy,⟨p,q,mK⟩,h1,h2⟩:=st;refine wpAny_pyNext_zip_end (I.ok.hd hc) (D.apart hz mK h1 h2 pa.isList pb.isList) hz oy mK h1 h2 pa.isList pb.isList (hx.imp (λh=>dh (by simp;lia)) λh=>dh (by simp;lia)) λh' hk=>⟨rfl,a6m (t':=s.toks) (ch:=[z,TI,TO,i1,i2]) I (λb o hb y=>hk b o ?_ ?_ ?_ ?_ y) hf⟩
  all_goals exact λz=>hb (by simp[z])
 self:=λ_ _ _ _ _ ⟨hz,_⟩ h=>wpAny_pyIter_zip hz h
section
variable {X:Cx}{M:List Md}{a b:Expr}{elts:List Expr}{kk:Nat}{fM pos p:eH}{fa fb:EvE}{ca cb:Cat}
def b5E(K:ae)(ta:TA):TI:=λσ H R=>ta σ H λvs H1=>∃a b xs ys,vs=[.ref a,.ref b]/\SqL K H1 a xs/\SqL K H1 b ys/\R (Itz K a b) H1
open PyProof.Rows in
def b3E{ta:TA}(hg:Gl X "zip")(hm:X.mg "zip"=pz)(ha:PA X [a,b] ta)(hs:ax [a,b] X.env=(false,cU a X.env)::ax [b] X.env:=by rfl)(fB:(dj pos (ax [b] X.env)).any (·.1)=false:=by rfl):PI X (.Tuple elts kk fM) (.Call (.Name "zip" p) [a,b] [] pos) (b5E X.K ta):=by
 intro pins s σ H R I h;refine Call_ (U3 I hg hm PyProof.Rows.Boot.«zip» (dF (L2.thn (ha pos pins s σ H _ I h) λus s1 ⟨vs,H1,I1,r1,q1⟩=>?_) hs fB));obtain⟨l1,l2,xs,ys,e,yc,uI,q⟩:=q1;subst e;cases r1 with
 |cons r rr=>
  cases rr with
  |cons r' rr=>
   cases rr
   cases (show _=bG l1 from r)
   cases (show _=bG l2 from r')
   obtain⟨cN,_,p1,_⟩:=I1.list yc;obtain⟨sA,_,p2,_⟩:=I1.list uI;refine call_zip_2 p1.isList p2.isList λh' hz oy mK oS AR mz hk=>?_
   refine wpAny_pyIter_zip hz ?_;refine⟨s1.heap.objs.size+4,[s1.heap.objs.size+4,s1.heap.objs.size+2,s1.heap.objs.size+3,s1.heap.objs.size,s1.heap.objs.size+1],_,_,H1,rfl,I1.kept (t':=s1.toks) hk,a9j l1 l2 _ _ _ _ _ (zaN _),⟨hz,oy,⟨_,_,mK⟩,oS,AR⟩,λb hb=>?_,q⟩;have pK:s1.heap.objs.size<=b:=by
    simp only[aF,iO,sj]at hb;rcases hb with z|z|z|z|z<;>(rw[z];first|exact aG _|exact Nat.le_add_right _ _)
   exact I1.fpOk pK (I1.hok.fresh pK)
end
def X2:List D->List D->List D
 |x::xs,y::ys=>.tuple [x,y]::X2 xs ys
 |_,_=>[]
theorem a4o:∀xs ys:List D,(X2 xs ys).length=min xs.length ys.length
 |[],_=>by simp[X2]
 |_::_,[]=>by simp[X2]
 |x::xs,y::ys=>by rw[X2,aO,a4o xs ys,aO,aO];lia
theorem a4p:∀{xs ys:List D} {i:Nat} {x y:D},xs[i]?=cz x->ys[i]?=cz y->(X2 xs ys)[i]?=cz (.tuple [x,y])
 |[],_,_,_,_,h,_=>by simp at h
 |_::_,[],_,_,_,_,h=>by simp at h
 |a::xs,b::ys,0,_,_,h1,h2=>by cases h1;cases h2;rfl
 |a::xs,b::ys,i+1,x,y,h1,h2=>a4p (xs:=xs) (ys:=ys) (i:=i) (by simpa using h1) (by simpa using h2)
def a9k{K:ae}{H:Hp}{T:au}{x y:V}{dx dy:D}(h:H T=cz (.tup [x,y]))(hx:Den K H x dx)(hy:Den K H y dy):Den K H (.ref T) (.tuple [dx,dy]):=by
 simp only[Den];exact⟨T,[x,y],rfl,SqT.of h,denAll_cons hx (denAll_cons hy denAll_nil)⟩
section
variable {J:It}{Dl:au}{g:TG}{tt:TT}{te:TE}{σ:L2.St}{H:Hp}{R:Hp->Prop}{n:Nat}
def a5u(Pv:Nat->List V->L2.St->Hp->Prop)(h0:Pv 0 [] σ (upd H Dl (.lst [])))(mY:∀i ys σ H,Pv i ys σ H->i<n->J.go i H)(jf:∀ys σ H,Pv n ys σ H->J.stop n H)
  (hs:∀i x ys σ H H2,i<n->Pv i ys σ H->J.yld i H x H2->g x σ H2 λσ3 H3=>tt σ3 H3 λb H4=>if b=true then te σ3 H4 λy H5=>H5 Dl=cz (.lst ys)/\ys.length<bh/\Pv (i+1) (ys++[y]) σ3 (upd H5 Dl (.lst (ys++[y]))) else Pv (i+1) ys σ3 H4)
  (hd:∀ys σ H,Pv n ys σ H->R H) :
  ∃W:Nat->Nat->List V->L2.St->Hp->Prop,(∃m,W 0 m [] σ (upd H Dl (.lst [])))/\∀i m ys σ' H',W i m ys σ' H'->(J.stop i H'/\R H')∨
   (J.go i H'/\∃(N:V->L2.St->Hp->Prop) (NO:L2.St->Hp->Prop),(∀y σ3 H4,N y σ3 H4->H4 Dl=cz (.lst ys)/\ys.length<bh/\∃m',m'<m/\W (i+1) m' (ys++[y]) σ3 (upd H4 Dl (.lst (ys++[y]))))/\
    (∀σ3 H4,NO σ3 H4->∃m',m'<m/\W (i+1) m' ys σ3 H4)/\∀x H2,J.yld i H' x H2->g x σ' H2 λσ3 H3=>tt σ3 H3 λb H4=>if b=true then te σ3 H4 λy H5=>N y σ3 H5 else NO σ3 H4):=by
 refine⟨λi m ys σ H=>m=n-i/\i<=n/\Pv i ys σ H,⟨n,by simp,cW _,h0⟩,?_⟩;rintro i m ys σ H ⟨rfl,hi,p⟩;by_cases gK:i<n
 ·exact .inr ⟨mY i ys σ H p gK,λy σ3 H4=>H4 Dl=cz (.lst ys)/\ys.length<bh/\Pv (i+1) (ys++[y]) σ3 (upd H4 Dl (.lst (ys++[y]))),λσ3 H4=>Pv (i+1) ys σ3 H4,λy σ3 H4 ⟨r1,r2,r3⟩=>⟨r1,r2,n-(i+1),by lia,rfl,gK,r3⟩,λσ3 H4 r3=>⟨n-(i+1),by lia,rfl,gK,r3⟩,λx H' y=>hs i x ys σ H H' gK p y⟩
 ·have e:i=n:=by lia
  subst e;exact .inl ⟨jf ys σ H p,hd ys σ H p⟩
end
section
variable {X:Cx}{M:List Md}{tn ys:List br}{js:List Nat}{scope:fw}{elt tg iter:Expr}{ifs:List Expr}{pos:eH}{g:TG}{n:Nat}{pt:D->Option (List D)}{fi:EvA}{ft:EvT}{fe:EvE}{u m:Ty}
def a5v{wi:TI}(hi:∀(Z:List D) (σ:L2.St) (H P:Hp) (F:List au) (ds:List D) (R:It->Hp->Prop),StE X.K M Z σ H P F->fi Z=cz ds->
   (∀a b xs ys dx dy H1,Same H H1->(∀H2,Same (cut H1 F) H2->SqL X.K H2 a xs/\SqL X.K H2 b ys)->DenAll X.K (cut H1 F) xs dx->DenAll X.K (cut H1 F) ys dy->ds=X2 dx dy->R (Itz X.K a b) H1)->wi σ H R)
  (hg:TgR X.K g n pt) (hm:m=.i∨m=.f) (nB:m=.i->∀Z ds,fi Z=cz ds->∀d∈ds,∀bs,pt d=cz bs->f8 bs=true) (oH:tn.length=n)
  {Z:List D} {σ:L2.St} {H P:Hp} {F:List au} {d:D} {Q:VK} (S:StE X.K M Z σ H P F) (hf:u8 fi js pt ft fe Z=cz d) (q:∀v H',Same H H'->ResR X.K (.new (.l u)) H H' F v d->Q v H') :
  a0Q wi g (spT X.K (D8 (.own m) n M js) ft) (spE X.K (D8 (.own m) n M js) fe (.new u)) (U5 tn js) σ H Q:=by
 obtain⟨ds,h1,g1⟩:=bnd hf;by_cases hz:ds.length<=1000000
 ·rw[aL hz]at g1;obtain⟨res,h2,g2⟩:=bnd g1;cases g2
  refine hi Z σ H P F ds _ S h1 λaa bb xs ws dx dy H1 e1 oN hx hw yq Dl hD=>?_
  have zS:=a4o dx dy;rw[<-yq]at zS;have rN:=hx.length;have uD:=hw.length;have BE:Dl∉F:=λz=>by obtain⟨zs,w⟩:=S.lst' e1 Dl z;rw[hD]at w;cases w
  refine a5u (J:=Itz X.K aa bb) (n:=ds.length) (λi ys σ' H'=>(∃os:L2.St,os.length=n/\σ'=os++js.map λj=>(σ[j]?).getD pz)/\H' Dl=cz (.lst ys)/\Same H1 H'/\∃(fp:List au) (zs rs:List D),ListAll (Own X.K H' (Dl::fp++F) u) ys zs fp/\fp.Nodup/\(∀a∈fp,H1 a=pz)/\Dl∉fp/\
    J4 pt ft fe (js.map λj=>Z.getD j .none) (ds.drop i)=cz rs/\res=zs++rs/\ys.length<=i) ?_ ?_ ?_ ?_ ?_
  ·exact⟨⟨_,by rw[d_];exact oH,rfl⟩,j8,q9 hD _,[],[],res,p7,bW,λa ha=>(nomatch ha),λh=>(nomatch h),h2,rfl,aG _⟩
  ·rintro i ys σ' H' ⟨_,_,e,_⟩ kY;obtain⟨s1,s2⟩:=oN H' (j5.trans e);exact⟨xs,ws,_,_,s1,s2,ah (by lia),ah (by lia)⟩
  ·rintro ys σ' H' ⟨_,_,e,_⟩;obtain⟨s1,s2⟩:=oN H' (j5.trans e);exact⟨xs,ws,s1,s2,by lia⟩
  ·rintro i x ys σ' H0 H' kY ⟨⟨os,ho,rfl⟩,ud,e0,fp,zs,rs,pL,kA,kB,jK,hc,jG,vJ⟩ ⟨T,xi,Cq,rd,uU,rfl,sH,zY⟩;obtain⟨s1,s2⟩:=oN H0 (j5.trans e0);have nM:=sH _ s1;have xW:=zY _ s2;have eT:Same H0 H':=by rw[uU];exact q9 rd _
   have e2:Same H1 H':=e0.trans eT;have nc:H' Dl=cz (.lst ys):=eT _ _ ud;have tx:∀a∈fp,∃zs:MuO,H0 a=cz zs.1:=pL.lst (u:=u) (λv d f q=>q.lst u);have gI:ListAll (Own X.K H' (Dl::fp++F) u) ys zs fp:=l6 (D7 eT) pL λa ha=>by
    obtain⟨zs,w⟩:=tx a ha;rw[w,eT _ _ w]
   obtain⟨yP,tK,_⟩:=hx.getV nM;obtain⟨yO,tI,_⟩:=hw.getV xW;have m_:ds[i]?=cz (.tuple [yP,yO]):=by rw[yq];exact a4p tK tI
   obtain⟨d,hd⟩:∃d,d=ee [yP,yO]:=⟨_,rfl⟩;rw[<-hd]at m_;have jJ:ds.drop i=d::ds.drop (i+1):=by
    rw[cI kY]
    congr 1;exact (aT.mp m_).2
   rw[jJ]at hc;obtain⟨bs,k,sT,l_,vW⟩:=a1e hc;have hfl:∀a∈Dl::fp,∃zs:MuO,H' a=cz zs.1:=λa ha=>by
    rcases aF.mp ha with z|z
    ·subst z;exact⟨⟨.lst ys,trivial⟩,nc⟩
    ·exact gI.lst (u:=u) (λv d f q=>q.lst u) a z
   have kQ:∀a∈Dl::fp,H1 a=pz:=λa ha=>by
    rcases aF.mp ha with z|z
    ·subst z;exact hD
    ·exact kB a z
   have S1:StE X.K M Z σ H' P (Dl::fp++F):=(S.grow e1).more (fp:=Dl::fp) e2 kQ hfl;obtain⟨d',lh,wC⟩:=(hx.up (N0 (fp:=Dl::fp) e2 kQ)).getV nM;rw[tK]at lh;cases lh
   obtain⟨d',lh,wB⟩:=(hw.up (N0 (fp:=Dl::fp) e2 kQ)).getV xW;rw[tI]at lh;cases lh
   have wM:T∉Dl::fp++F:=λz=>by
    have:∃zs:MuO,H0 T=cz zs.1:=by
     rcases ar.mp z with z|z
     ·rcases aF.mp z with z|z
      ·rw[z];exact⟨⟨.lst ys,trivial⟩,ud⟩
      ·exact tx T z
     ·obtain⟨zs,w⟩:=S.lst' (e1.trans e0) T z;exact⟨zs,w⟩
    obtain⟨zs,w⟩:=this;rw[rd]at w;cases w
   have qT:Den X.K (cut H' (Dl::fp++F)) (.ref T) d:=by
    rw[hd];exact a9k (l0 wM (by rw[uU,j8])) wC wB
   refine hg H' _ (.ref T) d bs _ _ j5 qT sT (by rw[az,ho];lia) λvs pE qw=>?_
   rw[gF (by lia),rE (by lia),cx];have SB:StE X.K (D8 (.own m) n M js) (bs++js.map λj=>Z.getD j .none) (vs.map cz++js.map λj=>(σ[j]?).getD pz) H' P (Dl::fp++F):=
    a3N S1 hm pE (λe=>nB e Z ds h1 d (bA m_) bs sT) qw rfl
   refine⟨_,P,_,k,SB,l_,λH3 e3=>?_⟩;rcases vW with⟨rfl,y,rest,vV,qF,rfl⟩|⟨rfl,qF⟩
   ·refine a2W ⟨_,P,_,y,SB.grow e3,vV,λv H4 e4 ⟨gp,o,nd,fr⟩=>?_⟩;have oW:=e3.trans e4;have tw:Dl∉gp:=λz=>by have w:=fr Dl z;rw[e3 _ _ nc]at w;cases w
    have wx:∀a∈gp,a∉fp:=λa ha z=>by
     obtain⟨zs,w⟩:=hfl a (av _ z);have w2:=fr a ha;rw[e3 _ _ w]at w2;cases w2
    have iV:∀a,a∈Dl::(fp++gp)++F->a∈gp++(Dl::fp++F):=λa ha=>by
     simp only[cw,aF,ar]at ha ⊢;rcases ha with z|(z|z)|z
     ·exact .inr (.inl z)
     ·exact .inr (.inr (.inl z))
     ·exact .inl z
     ·exact .inr (.inr (.inr z))
    have qY:Same (cut H' (Dl::fp++F)) (cut (upd H4 Dl (.lst (ys++[v]))) (Dl::(fp++gp)++F)):=λa o' ha=>by
     obtain⟨n1,n2⟩:=t5 ha;have gU:a≠Dl:=λz=>n1 (by rw[z];exact aw _ aD)
     refine l0 (λz=>?_) (by rw[g7 gU];exact oW _ _ n2);rcases ar.mp (iV a z) with w|w
     ·have:=fr a w;rw[e3 _ _ n2]at this;cases this
     ·exact n1 w
    have wJ:Same (cut H4 (gp++(Dl::fp++F))) (cut (upd H4 Dl (.lst (ys++[v]))) (Dl::(fp++gp)++F)):=λa o' ha=>by
     obtain⟨n1,n2⟩:=t5 ha;have gU:a≠Dl:=λz=>n1 (by rw[z];exact aq _ (aw _ aD))
     exact l0 (λz=>n1 (iV a z)) (by rw[g7 gU];exact n2)
    refine⟨oW _ _ nc,?_,⟨_,by rw[ao];exact qw,rfl⟩,j8,?_,fp++gp,zs++[y],rest,?_,?_,?_,?_,qF,by rw[jG,aI];rfl,by rw[az];simp;lia⟩
    ·exact hU (bZ vJ (bZ (dH kY) hz)) (by rw[dD];decide)
    ·exact a3E (e2.trans oW) hD _
    ·refine (l6 qY gI λa ha=>?_).append ?_
     ·rw[g7 (show a≠Dl from λz=>jK (z▸ha))];obtain⟨zs,w⟩:=hfl a (av _ ha);rw[w,oW _ _ w]
     ·have:=n4 (R:=Own X.K (upd H4 Dl (.lst (ys++[v]))) (Dl::(fp++gp)++F) u) (o.frame wJ u λa ha=>g7 (λz=>tw (z▸ha))) p7
      rwa[bg]at this
    ·rw[cB];exact⟨kA,nd,λa ha b hb e=>wx b hb (e▸ha)⟩
    ·intro a ha;rcases ar.mp ha with z|z
     ·exact kB a z
     ·exact (e2.trans e3).free (fr a z)
    ·intro z;rcases ar.mp z with w|w
     ·exact jK w
     ·exact tw w
   ·refine a2V ?_;have qY:Same (cut H' (Dl::fp++F)) (cut H3 (Dl::fp++F)):=D7 e3;refine⟨⟨_,by rw[ao];exact qw,rfl⟩,e3 _ _ nc,e2.trans e3,fp,zs,rs,l6 qY gI λa ha=>?_,kA,kB,jK,qF,jG,by lia⟩;obtain⟨zs,w⟩:=hfl a (av _ ha);rw[w,e3 _ _ w]
  ·rintro ys σ' H' ⟨_,nc,e2,fp,zs,rs,gI,kA,kB,jK,hc,jG,_⟩;rw[gx]at hc;cases hc
   rw[bg]at jG;subst jG;refine q (.ref Dl) H' (e1.trans e2) ⟨Dl::fp,?_,cf.mpr ⟨jK,kA⟩,λa ha=>?_⟩
   ·simp only[Own];exact .inr ⟨Dl,ys,res,fp,rfl,nc,rfl,rfl,gI⟩
   ·rcases aF.mp ha with z|z
    ·subst z;exact e1.free hD
    ·exact e1.free (kB a z)
 ·rw[aS hz]at g1;cases g1
noncomputable def iZ(fa fb:EvE):EvA:=λZ=>(fa Z).bind λx=>(fb Z).bind λy=>(asL x).bind λdx=>(asL y).bind λdy=>cz (X2 dx dy)
noncomputable def PIZ(X:Cx)(M:List Md)(tg iter:Expr)(f:EvA):Prop:=
 ∃wi,PI X tg iter wi/\∀(Z:List D) (σ:L2.St) (H P:Hp) (F:List au) (ds:List D) (R:It->Hp->Prop),StE X.K M Z σ H P F->f Z=cz ds->
   (∀a b xs ys dx dy H1,Same H H1->(∀H2,Same (cut H1 F) H2->SqL X.K H2 a xs/\SqL X.K H2 b ys)->DenAll X.K (cut H1 F) xs dx->DenAll X.K (cut H1 F) ys dy->ds=X2 dx dy->R (Itz X.K a b) H1)->wi σ H R
def piz{a b:Expr}{fa fb:EvE}{ca cb:Cat}{elts:List Expr}{kk:Nat}{fM p:eH}(hm:X.mg "zip"=pz)(ha:PX X M a fa ca)(hb:PX X M b fb cb)(tU:frozen ca:=by trivial)(Bh:frozen cb:=by trivial)(hg:Gl X "zip":=by rfl)(hs:ax [a,b] X.env=(false,cU a X.env)::ax [b] X.env:=by rfl)(jY:ax [b] X.env=(false,cU b X.env)::ax [] X.env:=by rfl)(fB:(dj pos (ax [b] X.env)).any (·.1)=false:=by rfl) :
  PIZ X M (.Tuple elts kk fM) (.Call (.Name "zip" p) [a,b] [] pos) (iZ fa fb):=by
 obtain⟨ta,pa,qa⟩:=ha.out;obtain⟨tb,pb,qb⟩:=hb.out;refine⟨_,b3E hg hm (p6 pa (p6 pb A6 jY) hs) hs fB,λZ σ H P F ds R S hf k=>?_⟩;obtain⟨x,h1,hf⟩:=bnd hf;obtain⟨y,h2,hf⟩:=bnd hf;obtain⟨dx,h3,hf⟩:=bnd hf;obtain⟨dy,h4,hf⟩:=bnd hf;cases hf
 cases x with
 |list ex=>
  cases h3
  cases y with
  |list ey=>
   cases h4
   refine qa Z σ H P F _ _ S h1 λv H1 e1 r1=>qb Z σ H1 P F _ _ (S.grow e1) h2 λw H2 e2 r2=>?_
   obtain⟨aa,xs,rfl,k1,k2⟩:=(O4 tU r1).list_inv;obtain⟨bb,ws,rfl,k3,k4⟩:=(O4 Bh r2).list_inv;have xf:=D7 (F:=F) e2;exact⟨aa,bb,xs,ws,rfl,(I9 k1 (xf.trans j5)).l,(I9 k3 j5).l,k aa bb xs ws _ _ H2 (e1.trans e2) (λH3 e3=>⟨(I9 k1 (xf.trans e3)).l,(I9 k3 e3).l⟩) (k2.up xf) k4 rfl⟩
  |_=>cases h4
 |_=>cases h3
def PIZ.i(h:PIZ X M tg iter fi):PIZ X M tg iter (iI fi):=by
 obtain⟨w,p,q⟩:=h;exact⟨w,p,λZ σ H P F ds R S hf k=>q Z σ H P F ds R S (a8J hf) k⟩
def a9l(hc:X.calm=true)(hi:PIZ X M tg iter fi)(C:O1 scope X.env.kindOf ys js X.N=true)(hg:∀cl Cl s H fp,PG (E6 X (tn++ys) scope cl Cl s H fp) tg g)(tu:TgR X.K g n pt)(hm:m=.i∨m=.f)
  (nB:m=.i->∀Z ds,fi Z=cz ds->∀d∈ds,∀bs,pt d=cz bs->f8 bs=true) (oH:tn.length=n)
  (ht:∀cl Cl s H fp,PTs (E6 X (tn++ys) scope cl Cl s H fp) ifs (spT X.K (D8 (.own m) n M js) ft)) (he:∀cl Cl s H fp,PX (E6 X (tn++ys) scope cl Cl s H fp) (D8 (.own m) n M js) elt fe (.new u))
  (hs:∀x,dM iter X.env x=pure x:=by intro _;rfl):PX X M (.ListComp elt [⟨tg,iter,ifs,0⟩] scope pos) (u8 fi js pt ft fe) (.new (.l u)):=by
 obtain⟨wi,pi,qi⟩:=hi;exact .mk ⟨_,a3F (te:=spE X.K (D8 (.own m) n M js) fe (.new u)) hc pi C hg ht he hs,λZ σ H P F d Q S hf q=>a5v qi tu hm nB oH S hf q⟩
end
end VS
namespace VS
open PySem PySem.Spec L2 PyProof.Rows
def ObjOk.has(x:ObjOk P w H h a o):∃u,h.get? a=cz u:=by
 cases o with
 |lst xs=>obtain⟨_,_,_,_,e⟩:=x;exact⟨_,e⟩
 |tup xs=>obtain⟨_,_,_,ob,e,_⟩:=x;exact⟨_,e⟩
 |dK kvs=>obtain⟨_,_,_,_,o,_,_,e,_⟩:=x;exact⟨_,e⟩
 |dT kvs=>obtain⟨_,_,_,_,o,_,_,e,_⟩:=x;exact⟨_,e⟩
 |set S n=>obtain⟨o,_,_,_,e,_⟩:=x;exact⟨_,e⟩
 |ins C dx fs=>obtain⟨_,_,_,e,_⟩:=x;exact⟨_,e⟩
 |own y=>exact x
 |xd fs=>obtain⟨_,⟨_,_,_,e,_⟩,_⟩:=x;exact⟨_,e⟩
 |rng lo hi=>obtain⟨_,_,_,e⟩:=x;exact⟨_,e⟩
 |frz ob u=>obtain⟨e,_⟩:=x;exact⟨_,e⟩
 |tbl ps=>obtain⟨_,e,_⟩:=(show a2c H h a ps from x);exact⟨_,e⟩
 |met f y=>exact⟨_,(show h.get? a=cz _ from x)⟩
 |ext φ=>obtain⟨_,e,_⟩:=x;exact e
def a9m{h h':b_}(x:HOk P w H h)(k:∀b u v,H b=cz v->h.get? b=cz u->h'.get? b=cz u):HOk P w H h':=λa o e=>
 ObjOk.stay (x a o e) (λb u hb q=>by
  rcases hb with rfl|hb
  ·exact k _ u _ e q
  ·exact k b u _ hb q) (λ_ q=>q) λ_ _ q=>q
structure Fly (P:bo) (w:bJ) (outer:List kZ) (H:Hp) (s:aj) (a C t:au) (H':Hp) (B h':b_):Prop where
 un:Un (frs outer) [] H H' s.heap h'
 hok:HOk P w H' h'
 na:H' a=pz
 new:s.heap.get? a=pz
 fl:ko B outer a (.ref C) (.ref t) h'
 c1:∀b u,H' b=cz u->∃o,B.get? b=cz o
 c2:∀b o,s.heap.get? b=cz o->H b=pz->b∉frs outer->B.get? b=cz o
 c3:∀b o,s.heap.get? b=cz o->b∉frs outer->∃o',B.get? b=cz o'
section
variable {P:bo}{w:bJ}{outer:List kZ}{H H':Hp}{s:aj}{a C t:au}{B h' uW:b_}
def Fly.step(x:Fly P w outer H s a C t H' B h')(fl:ko B outer a (.ref C) (.ref t) uW)(up:h'.UpToSlots uW):Fly P w outer H s a C t H' B uW:=by
 have slot:∀b o,s.heap.get? b=cz o->H b=pz->b∈frs outer->∃sl,uW.get? b=cz {o with slots:=sl}:=λb o q n hb=>by
  obtain⟨sl,e1⟩:=x.un.slot b o q n hb (by simp);obtain⟨_,o',e2,hd⟩:=x.fl.2.2.1.mem hb;rw[e1]at e2;cases e2
  obtain⟨rJ,e3⟩:=up b _ e1 hd;exact⟨rJ,e3⟩
 refine⟨⟨λb o q n hb _=>fl.1 b o (x.c2 b o q n hb),λb o q n hb _=>slot b o q n hb,x.un.free,λb o q _=>?_,x.un.tups,x.un.frzs,x.un.tbls⟩,a9m x.hok λb u v hv q=>?_,x.na,x.new,fl,x.c1,x.c2,x.c3⟩
 ·by_cases hb:b∈frs outer
  ·obtain⟨_,o',e2,_⟩:=fl.2.2.1.mem hb;exact⟨o',e2⟩
  ·obtain⟨o',e⟩:=x.c3 b o q hb;exact⟨o',fl.1 b o' e⟩
 ·obtain⟨o,e⟩:=x.c1 b v hv;have:=x.fl.1 b o e;rw[q]at this;cases this
  exact fl.1 b u e
end
def CXR(P:bo)(w:bJ):CXT:=λouter H s E e s'=>∃(a C t:au) (H':Hp) (B:b_),e=.ref a/\s'.os=s.os/\ig s'.gens/\Fly P w outer H s a C t H' B s'.heap/\E (.ref C) pz H'
section
variable {X:Cx}{pins:List (au×eW)}{σ:L2.St}{H:Hp}{s:aj}
def a9n(I:Inv X pins σ H s)(jf:X.stack=X.env::X.outer)(hex:X.ex=[])(mk:b_.MadeExcOf s.heap h1 a (.ref C) args)(hB:B=eZ s.heap (frs X.stack))
  (fl:ko B X.outer a (.ref C) (.ref t) h2) (up:h1.UpToSlots h2):Fly X.prog X.w X.outer X.H₀ X.s₀ a C t H B h2:=by
 subst hB;have sq:∀b,b∉X.ex:=λb hb=>by rw[hex]at hb;cases hb
 have sub:∀b,b∉frs X.outer->(∃o,X.s₀.heap.get? b=cz o)->b∉frs X.stack:=λb hb ⟨o,ho⟩ z=>by
  rcases aF.mp (I.stkSub b z) with e|e
  ·have:=aN ho;rw[e]at this;exact absurd (aZ this I.ok.above) (dN _)
  ·exact hb e
 have inB:∀b o,s.heap.get? b=cz o->b∉frs X.stack->(eZ s.heap (frs X.stack)).get? b=cz o:=λb o e hb=>u_ _ e hb
 have xM:∀b v,H b=cz v->b∉frs X.stack:=λb v e z=>by rw[I.stkFree b z]at e;cases e
 have c2:∀b o,X.s₀.heap.get? b=cz o->X.H₀ b=pz->b∉frs X.outer->(eZ s.heap (frs X.stack)).get? b=cz o:=λb o q n hb=>
  inB b o (I.base.keep b o q n hb (sq b)) (sub b hb ⟨o,q⟩)
 have c3:∀b o,X.s₀.heap.get? b=cz o->b∉frs X.outer->∃o',(eZ s.heap (frs X.stack)).get? b=cz o':=λb o q hb=>by
  obtain⟨o',e⟩:=I.base.there b o q (sq b);exact⟨o',inB b o' e (sub b hb ⟨o,q⟩)⟩
 have c1:∀b u,H b=cz u->∃o,(eZ s.heap (frs X.stack)).get? b=cz o:=λb u e=>by
  obtain⟨o,ho⟩:=ObjOk.has (I.hok b u e);exact⟨o,inB b o ho (xM b u e)⟩
 have mem:∀b,b∈frs X.outer->b∈frs X.stack:=λb hb=>by
  rw[jf];unfold frs;rw[gO]
  split
  ·exact hb
  ·exact av _ hb
 refine⟨⟨λb o q n hb _=>fl.1 b o (c2 b o q n hb),λb o q n hb _=>?_,λb o q n _=>I.base.free b o q n (sq b),λb o q _=>?_,I.base.tups,I.base.frzs,I.base.tbls⟩,a9m I.hok λb u v hv q=>?_,?_,?_,fl,c1,c2,c3⟩
 ·obtain⟨sl,e1⟩:=I.base.slot b o q n hb (sq b);obtain⟨_,o',e2,hd⟩:=I.stack.mem (mem b hb);rw[e1]at e2;cases e2
  obtain⟨zu,e4⟩:=up b _ (mk.keeps b _ e1) hd;exact⟨zu,e4⟩
 ·by_cases hb:b∈frs X.outer
  ·obtain⟨_,o',e2,_⟩:=fl.2.2.1.mem hb;exact⟨o',e2⟩
  ·obtain⟨o',e⟩:=c3 b o q hb;exact⟨o',fl.1 b o' e⟩
 ·exact fl.1 b u (inB b u q (xM b v hv))
 ·cases q:H a with
  |none=>rfl
  |some u=>
   obtain⟨o,ho⟩:=ObjOk.has (I.hok a u q);rw[mk.new]at ho;cases ho
 ·cases q:X.s₀.heap.get? a with
  |none=>rfl
  |some o=>
   obtain⟨o',e⟩:=I.base.there a o q (sq a);rw[mk.new]at e;cases e
end
abbrev Wsh:=br->L2.St->Hp->Prop
abbrev EvR:=List D->Option br
def Tk(X:Cx)(W:Wsh):Prop:=∀(pins:List (au×eW)) (σ:L2.St) (H:Hp) (s:aj) (n:br) (C a t:au) (H':Hp) (B:b_) (s':aj),Inv X pins σ H s->bO X.K aY n=cz (cz (.ref C))->
 s'.os=s.os->ig s'.gens->Fly X.prog X.w X.stack H s a C t H' B s'.heap->Same H H'->W n σ H->X.xe (.ref a) s'
structure XeL (X:Cx) (E:XK):Prop where
 xe:X.xe=λe s'=>be (aV X.prog X.w) X.A (leaving X.env e) (λ_ pZ=>CXR X.prog X.w X.outer X.H₀ X.s₀ E e pZ) (λe' pZ=>CXR X.prog X.w X.outer X.H₀ X.s₀ E e' pZ) s'
 stk:X.stack=X.env::X.outer
 ex:X.ex=[]
 fr:X.env.frame=cz X.env.locals
 calm:X.calm=true
def wE(K:ae)(E:XK):Wsh:=λn _ H=>∀C H',bO K aY n=cz (cz (.ref C))->Same H H'->E (.ref C) pz H'
section
variable {X:Cx}{E:XK}
def b1j(K:ae)(n:br)(C:au):Prop:=bO K aY n=cz (cz (.ref C))/\oY K C [.type "ValueError",.type "Exception",.type "BaseException",.type "object"] "ValueError.__new__"=true
def a9o{K:ae}(X:K.In h)(e:b1j K n C):∃bm N nm q bs hdct sn sub ab col dd k0 k1 k2 k3 k5 mN,h.get? C=cz (excClassObj nm q C N bs bm hdct sn sub ab col dd k0 k1 k2 k3 k5 "ValueError.__new__")/\h.Ns N mN/\mN "__init__"=pz/\OwnTail h [.type "ValueError",.type "Exception",.type "BaseException",.type "object"] bm:=by
 have q:=e.2;unfold oY at q
 split at q
 ·rename_i dd cd sl ho
  split at q
  ·rename_i C' bm k0 k1 k2 k3 n k5 hm hs
   simp only[aC,iY,ze]at q;obtain⟨⟨⟨⟨⟨rfl,rfl⟩,tM⟩,ht⟩,hok⟩,ow⟩:=q;obtain⟨nm,bs,mro,ns,qn,hd,sn,sub,ab,col,del⟩:=cd
   dsimp only at hm tM hok ow
   subst hm tM;have rO:sl=#[k0,k1,k2,k3,cz (.builtin "ValueError.__new__"),k5]:=by
    obtain⟨l⟩:=sl;simp only at hs;rw[hs]
   subst rO;exact⟨bm,ns,nm,qn,bs,hd,sn,sub,ab,col,dd,k0,k1,k2,k3,k5,_,X _ _ ho,.of_isNs (PySem.W.isNs_of_in X hok),PySem.W.nsMap_none_of_in X hok ow,PySem.W.tail_of_in X ht⟩
  ·cases q
 ·cases q
variable {W:Wsh}{M:List Md}{r r1 r2:EvR}
noncomputable def tR(K:ae)(W:Wsh)(M:List Md)(r:EvR)(σ:L2.St)(H:Hp):Prop:=∃(Z:List D) (P:Hp) (F:List au) (n:br),StR K M Z σ H P F/\r Z=cz n/\∀σ' H' F',StR K M Z σ' H' P F'->W n σ' H'
noncomputable def PER(X:Cx)(W:Wsh)(M:List Md)(e:Expr)(r:EvR):Prop:=PE X e λσ H _=>tR X.K W M r σ H
noncomputable def PSR(X:Cx)(W:Wsh)(M:List Md)(st:fH)(r:EvR):Prop:=PS X st λ_ σ H=>tR X.K W M r σ H
noncomputable def a5w(X:Cx)(W:Wsh)(M:List Md)(lP:List fH)(r:EvR):Prop:=PSs X lP λ_ σ H=>tR X.K W M r σ H
theorem tR.grow{K:ae}{σ:L2.St}{H H1:Hp}{Z:List D}{P:Hp}{F:List au}{n:br}(S:StR K M Z σ H P F)(h:r Z=cz n)(q:∀σ' H' F',StR K M Z σ' H' P F'->W n σ' H')(e:Same H H1):tR K W M r σ H1:=
 ⟨Z,P,F,n,S.grow e,h,q⟩
def a9p{j np cp eQ pos}(h:XeL X E)(hk:b1j X.K x C)(hg:Gl X x:=by rfl)(hd:(x==("__debug__":br))=false:=by decide)
  (he:ax [.Constant (.str msg) j cp] X.env=(false,cU (.Constant (.str msg) j cp) X.env)::ax [] X.env:=by rfl) :
  PSR X (wE X.K E) M (.Raise (cz (.Call (.Name x np) [.Constant (.str msg) j cp] [] eQ)) pz pos) (λ_=>cz x):=by
 intro pins s σ H D I ⟨Z,P,F,n,S,hr,q⟩;cases hr
 have hm:X.mg x=cz (.ref C):=fR I.mod.kin I.mod.glob hk.1;obtain⟨bm,N,nm,qn,bs,hdct,sn,sub,ab,col,dd,k0,k1,k2,k3,k5,mN,hC,hN,ow,T⟩:=a9o I.mod.kin hk;refine wpAny_Raise_call_subT (C:=C) (nm:=nm) (q:=qn) (N:=N) (bs:=bs) (bm:=bm) (hdct:=hdct) (sn:=sn) (sub:=sub) (ab:=ab) (col:=col) (dd:=dd) (k0:=k0) (k1:=k1) (k2:=k2) (k3:=k3) (k5:=k5)
  PySem.F.excBase_ValueError (mN:=mN) (T.hasType (by decide)) (I.ok.hd h.calm) (by rw[he];rfl) ow (S8 I hg hm ⟨rfl,?_⟩ hd)
 have pa:=p6 (X:=X) (a7V (x:=msg) (j:=j) (pos:=cp)) A6 he;have go:=pa eQ pins s σ H (λvs H'=>vs.length=1/\H'=H) I ⟨rfl,rfl⟩;rw[he]at go ⊢;refine lN (cM go (λus s2 ⟨vs,H2,I2,r2,hl,e2⟩=>?_) λ_ _ y=>y);subst e2;have lu:us.length=1:=by rw[<-r2.length];exact hl
 refine⟨rfl,by show us.length<=bh;rw[lu,dD];decide,I2.bk _ _ hC,hN.keeps I2.bk,T.keeps I2.bk,λh' a mk=>?_⟩;rw[h.xe];have fr:=I2.ok.frames;rw[h.stk]at fr;have AY:=PySem.W.funFrames_hide (as:=frs X.stack) I2.stack λenv he b hb=>df.mpr ⟨env,he,hb⟩
 have tD:=AY;rw[h.stk]at tD;refine wpAny_leaves_madeW (base:=eZ s2.heap (frs X.stack)) (h:=s2.heap) fr h.fr (λb o z=>xq _ z) (by rw[h.stk];exact tD) mk λh2 t fl _ _ up=>?_
 exact⟨a,C,t,H2,_,rfl,I2.os,I2.bare,a9n I2 h.stk h.ex mk rfl fl up,q σ H2 F S C H2 hk.1 (Same.refl H2)⟩
noncomputable def rIf(fc:EvT)(r1 r2:EvR):EvR:=λZ=>(fc Z).bind λb=>if b then r1 Z else r2 Z
noncomputable def rNo:EvR:=λ_=>pz
def b5F:a5w X W M lP rNo:=λ_ _ _ _ _ _ ⟨_,_,_,_,_,h,_⟩=>nomatch h
def b5G{pos}(hc:PTX X M c0 fc)(ha:a5w X W M a r1)(hb:a5w X W M b r2):PSR X W M (.If c0 a b pos) (rIf fc r1 r2):=by
 obtain⟨tc,pc,qc⟩:=hc.out;intro pins s σ H D I ⟨Z,P,F,n,S,hr,q⟩;refine b1K pc ha hb pins s σ H D I ?_;obtain⟨k,h1,h2⟩:=bnd hr;refine qc Z σ H P F k _ S.toE h1 λH1 e1=>?_
 cases k with
 |true=>exact a2W (tR.grow S h2 q e1)
 |false=>exact a2V (tR.grow S h2 q e1)
def a3o{st:fH}{rest:List fH}(h:PSR X W M st r):a5w X W M (st::rest) r:=
 a3A (t:=λ_ σ H=>tR X.K W M r σ H) (u:=λ_ _ _=>False) h λ_ _ _ _ _ _ z=>z.elim
def spR(K:ae)(n:Nat)(r:List D->Option br):Sp:=λvs H _ E=>∃ds x,vs.length=n/\DenAll K H vs ds/\r ds=cz x/\wE K E x [] H
structure HasR (P:bo) (w:bJ) (K:ae) (mg:br->Option ag) (base:b_) (x:br) (k:Nat) (ps:List br) (sp:Sp):Prop where
 ex:∃f fd,FnOk P w K mg base (CXR P w) k f fd ps sp/\Binds K fd ps []/\dU K (.ref f)=true/\mg x=cz (.ref f)
def HasR.up{P:bo}{w:bJ}{K:ae}{mg:br->Option ag}{base:b_}{x:br}{j k:Nat}{ps:List br}{sp:Sp}(h:HasR P w K mg base x j ps sp)(l:j<=k):HasR P w K mg base x k ps sp:=by
 obtain⟨f,fd,a,b⟩:=h.ex;exact⟨f,fd,a.mono l,b⟩
noncomputable def rCl(rf:List D->Option br)(f:EvA):EvR:=λZ=>(f Z).bind rf
def a9q(hT:Tk X W)(h:HasR X.prog X.w X.K X.mg X.base x k ps (spR X.K n rf))(hr:Room k X.A)(ha:PAX X M (e0::es) f)(hl:(e0::es).length=n:=by rfl)(hfl:∀Z ds,f Z=cz ds->ds.length=(e0::es).length)
  (hg:Gl X x:=by rfl) (jt:(x==("__debug__":br))=false:=by decide) (he:ax (e0::es) X.env=(false,cU e0 X.env)::ax es X.env:=by rfl) (fB:(dj pos (ax es X.env)).any (·.1)=false:=by rfl) :
  PER X W M (.Call (.Name x p) (e0::es) [] pos) (rCl rf f):=by
 obtain⟨fa,fd,FF,b,kp,m⟩:=h.ex;obtain⟨t,pa,qa⟩:=ha;intro pins s σ H Q I ⟨Z,P,F,y,S,hf,q⟩;obtain⟨ds,h1,h2⟩:=bnd hf;refine fA (S8 I hg m ?_ jt);have go:=pa pos pins s σ H (λvs H1=>DenAll X.K H1 vs ds/\Same H H1) I (qa Z σ H P F ds _ S.toE h1 λvs H1 e1 r1=>⟨r1,e1⟩);refine kT (h₀:=X.base) I.ok.mod.kin kp (L2.thn go λus s1 ⟨vs,H1,I1,r,r1,e1⟩=>⟨I1.kIn,?_⟩) he fB;have lv:vs.length=ps.length:=by
  have:=FF.len vs H1 (λ_ _=>True) (λ_ _ _=>True) ⟨ds,y,by rw[r1.length,hfl Z ds h1,hl],r1,h2,λ_ _ _ _=>trivial⟩;exact this
 have lu:(us++[]).length=ps.length:=by rw[bg,<-r.length];exact lv
 refine mR (gB (FF.run X.A X.stack s1 H1 ⟨us,[]⟩ us vs (λ_ _=>False) (λc _ H'=>∃C,c=.ref C/\bO X.K aY y=cz (cz (.ref C))/\Same H1 H') hr I1.env0 (by have:=b s1 us I1.kIn lu;rwa[bg]at this) r ⟨ds,y,by rw[r1.length,hfl Z ds h1,hl],r1,h2,λC H' hn hs=>⟨C,rfl,hn,hs⟩⟩) λrr s' hq=>?_);cases rr with
 |error e=>
  obtain⟨a,C,t,H',B,rfl,ho,hb,x,C',ec,hn,hs⟩:=hq;cases ec
  exact hT pins σ H1 s1 y C a t H' B s' I1 hn ho hb x hs (q σ H1 F (S.grow e1))
 |ok fl=>
  cases fl with
  |ret u=>
   obtain⟨_,_,_,_,_,_,_,z⟩:=hq;exact z.elim
  |next=>exact cJ hq
  |brk=>exact cJ hq
  |cont=>exact cJ hq
def b1k{pos:eH}(h:PER X W M e r)(hs:gn e pz pos.line X.env=pure false:=by rfl):PSR X W M (.Expr e pos) r:=a2O (te:=λσ H _=>tR X.K W M r σ H) h hs
end
noncomputable def fnR(us:List Ty)(n:Nat)(r:EvR):List D->Option br:=λds=>if argsOk us ds then r (ds++aB n .none) else pz
def a9r{P:bo}{w:bJ}{K:ae}{mg:br->Option ag}{base:b_}{x:br}{st:fH}{f:au}{fd:c_}{N ps:List br}{k n:Nat}{us:List Ty}{r:EvR}(F:Fun K x x st f fd)(S:FnScope N ps (g8 st))(k_:us.length=ps.length)(hn:N.length=ps.length+n)
  (hb:∀(X:Cx) (E:XK),XeL X E->X.K=K->(∃(eP:ag) (A:bH) (outer:List kZ) (s:aj) (H:Hp),X=P7 (CXR P w) P w K mg base N x (g8 st) f eP A outer s H E)->Room k X.A->a5w X (wE K E) (us.map .own++aB n .dead) (t7 st) r) :
  FnOk P w K mg base (CXR P w) (k+1) f fd ps (spR K ps.length (fnR us n r)):=by
 obtain⟨oc,od,kV,doc,pm,an,eP,ct,mv,rfl,lk,gu⟩:=F.ex;refine a8d lk gu S (λvs H Q E h=>?_) λA outer s H vs Q E hr mT=>?_
 ·obtain⟨ds,d,hl,_⟩:=h;exact hl
 obtain⟨ds,y,hl,hd,hm,q⟩:=mT;have L:XeL (P7 (CXR P w) P w K mg base N x (g8 st) f eP A outer s H E) E:=⟨rfl,rfl,rfl,rfl,rfl⟩;refine⟨_,hb _ E L rfl ⟨eP,A,outer,s,H,rfl⟩ hr,?_⟩;unfold fnR at hm;by_cases ha:argsOk us ds=true
 ·rw[aL ha]at hm;have e:L2.start N vs=vs.map cz++aB n pz:=by
   unfold L2.start;rw[show N.length-vs.length=n by lia]
  rw[e];refine⟨ds++aB n pR,H,[],y,⟨⟨[],O7 ha hd n,bW,λa ha=>(nomatch ha)⟩,λa ha=>(nomatch ha),by rw[F6];exact Same.refl H⟩,hm,λσ' H' F' S' C H2 hC e2=>q C H2 hC ((S'.prot.trans j5).trans e2)⟩
 ·rw[aS ha]at hm;cases hm
def Inv.unbound{h':b_}(I:Inv X pins σ H s)(hN:X.N.Nodup)(hi:X.N[j]?=cz x)(hn:s.heap.Ns X.env.locals m)
  (hl:∀(i:Nat) (x:br) (v:V),X.N[i]?=cz x->σ[i]?=cz (cz v)->Vis X.env.scope x->∃u,RelV v u/\Look X.env s.heap m x u)
  (qJ:h'.Ns X.env.locals (λy=>if y=x then u else m y)) (hs:iB X.env.locals s.heap h'):Inv X pins (σ.set j pz) H {s with heap:=h',toks:=tk}:=by
 have cne:=I.cne;have oR:j<σ.length:=by rw[I.len];exact (aT.mp hi).1
 have tracked:HOk X.prog X.w H h':=λb ob e=>by
  refine (I.hok b ob e).stay (λc w' hc q=>(hs.2 c ?_).trans q) (λ_ q=>q) λ_ _ q=>q
  rintro rfl;have ji:=I.free;rcases hc with rfl|hc
  ·rw[ji]at e;cases e
  ·rw[ji]at hc;cases hc
 refine⟨I.ok,I.os,I.bare,⟨λb o e n hb hx=>?_,λb o e n hb hx=>?_,I.base.free,λb o e hx=>?_,I.base.tups,I.base.frzs,I.base.tbls⟩,⟨_,qJ,λi y v' e1 e2 e3=>?_⟩,λy c e=>?_,I.free,I.freeC,λp hp=>?_,tracked,by simpa using I.len⟩
 ·exact (hs.2 b (bP (aZ (aN e) I.ok.above))).trans (I.base.keep b o e n hb hx)
 ·obtain⟨sl,e1⟩:=I.base.slot b o e n hb hx;exact⟨sl,(hs.2 b (bP (aZ (aN e) I.ok.above))).trans e1⟩
 ·obtain⟨o',e1⟩:=I.base.there b o e hx;exact⟨o',(hs.2 b (bP (aZ (aN e) I.ok.above))).trans e1⟩
 ·by_cases hj:i=j
  ·subst hj;rw[gi oR]at e2;cases e2
  ·rw[dw (fx hj)]at e2;obtain⟨u',r',q⟩:=hl i y v' e1 e2 e3;refine⟨u',r',?_⟩;rcases q with⟨k,e⟩|⟨k,c,e,z⟩
   ·refine .inl ⟨k,?_⟩;have:y≠x:=λe=>hj (a0N hN e1 (e▸hi))
    simp[this,e]
   ·exact .inr ⟨k,c,e,z.sameBut hs (cne y c e)⟩
 ·obtain⟨w',z⟩:=I.cell y c e;exact⟨w',z.sameBut hs (cne y c e)⟩
 ·obtain⟨e,n,ne,nf,d⟩:=I.pin p hp;exact⟨(hs.2 p.1 ne).trans e,n,ne,nf,d⟩
abbrev Cx.hand(X:Cx)(a:au)(E:ag->aj->Prop):Cx:={X with A:=X.A.mark (cz (.ref a)),calm:=false,xe:=E}
theorem Inv.hand(I:Inv X pins σ H s)(a:au)(E:ag->aj->Prop):Inv (Cx.hand X a E) pins σ H s:=
 let ok:=I.ok
 ⟨⟨ok.mod,ok.kind,ok.glob,ok.blt,ok.above,ok.inj,ok.has,ok.cab,λz=>(nomatch z),ok.frames,ok.stk,ok.exf,ok.bs,ok.bsz,ok.noex,ok.exfs,ok.funs,ok.frf,ok.tabs⟩,I.os,I.bare,I.base,I.loc,I.cell,I.free,I.freeC,I.pin,I.hok,I.len⟩
def Inv.unhand{X:Cx}(ok:X.Ok)(I:Inv (Cx.hand X a E) pins σ H s):Inv X pins σ H s:=
 ⟨ok,I.os,I.bare,I.base,I.loc,I.cell,I.free,I.freeC,I.pin,I.hok,I.len⟩
abbrev Cx.trial(X:Cx)(pn:List (au×eW))(E:ag->aj->Prop):Cx:={X with pn:=pn,xe:=E}
theorem Inv.trial(I:Inv X pins σ H s)(E:ag->aj->Prop):Inv (Cx.trial X (X.pn++pins) E) [] σ H s:=
 let ok:=I.ok
 ⟨⟨ok.mod,ok.kind,ok.glob,ok.blt,ok.above,ok.inj,ok.has,ok.cab,ok.hd,ok.frames,ok.stk,ok.exf,ok.bs,ok.bsz,ok.noex,ok.exfs,ok.funs,ok.frf,ok.tabs⟩,I.os,I.bare,I.base,I.loc,I.cell,I.free,I.freeC,λp hp=>I.pin p (by simpa using hp),I.hok,I.len⟩
def Inv.untrial{X:Cx}(ok:X.Ok)(I:Inv (Cx.trial X (X.pn++pins) E) nK σ H s):Inv X pins σ H s:=
 ⟨ok,I.os,I.bare,I.base,I.loc,I.cell,I.free,I.freeC,λp hp=>I.pin p (aw _ hp),I.hok,I.len⟩
section
variable {K:ae}{M:List Md}{Z:List D}{σ:L2.St}{H P:Hp}{F:List au}
def StR.setExc(h:StR K M Z σ H P F)(hm:M[i]?=cz m)(hv:SlotR K H F .exc (cz v) d []):StR K (M.set i .exc) (Z.set i d) (σ.set i (cz v)) H P F:=by
 obtain⟨G,h1,h2,h3⟩:=h.all;obtain⟨d0,o0,f,pre,post,e1,e2,e3,e4,e5⟩:=h1.at_ hm;rw[e4]at h2;exact⟨⟨pre++([]++post),e5 H F .exc d (cz v) [] (λ_ _=>rfl) (Same.refl _) hv,T0 h2,λa ha=>h3 a (by rw[e4];exact mem_mid ha)⟩,h.lst,h.prot⟩
end
noncomputable def a9s(L:List br)(i j:Nat)(g:EvS)(r:EvR):EvS:=λZ=>match r Z with
 |some n=>if L.contains n then cz (.nx ((Z.set j .none).set i (.str n))) else pz
 |none=>(g Z).bind λo=>match o with
  |.nx Z'=>(match Z'.getD i (.bool true) with|.none=>cz (.nx Z')|_=>pz)
  |_=>pz
def a1y(K:ae)(C0:au)(n:br):Bool:=match bO K aY n with
 |some (cz (.ref C))=>PySem.W.exmOne K (.ref C) (.ref C0)==cz true
 |_=>false
def a1z{s s':aj}(I:Inv X pins σ H s)(ho:s'.os=s.os)(hb:ig s'.gens)(x:Fly X.prog X.w X.stack H s a C t H' B h6) :
  Inv X pins σ (upd H' a (ExcAt a C)) {s' with heap:=h6}:=by
 have nt:∀c u,H' c=cz u->c≠a:=λc u q z=>by rw[z,x.na]at q;cases q
 refine I.call' (s':={s' with heap:=h6}) ho ⟨x.un.keep,x.un.slot,λb o q n hx=>?_,x.un.there,λb xs q=>?_,λb o u q=>?_,λb ps q=>?_⟩ (λb u q=>?_) hb λb z=>(nomatch z)
 ·rw[g7 (λz=>by rw[z,x.new]at q;cases q)];exact x.un.free b o q n hx
 ·have q':=x.un.tups b xs q;rw[g7 (nt b _ q')];exact q'
 ·have q':=x.un.frzs b o u q;rw[g7 (nt b _ q')];exact q'
 ·obtain⟨mm,q'⟩:=x.un.tbls b ps q;exact⟨mm,by rw[g7 (nt b _ q')];exact q'⟩
 ·by_cases q_:b=a
  ·subst q_;rw[j8]at q;cases q
   obtain⟨ob,h1,h2⟩:=x.fl.there;exact⟨⟨ob,h1,h2⟩,⟨ob,h1⟩,λh1 h2 ⟨o,e1,e2⟩ k=>⟨o,k o e1,e2⟩⟩
  ·rw[g7 q_]at q;exact (x.hok b u q).stay (λ_ _ _ z=>z) (λc z=>by rw[g7 (nt c _ z)];exact z) λc xs z=>by rw[g7 (nt c _ z)];exact z
def b3F{X:Cx}{L:List br}{np px py apos mU pos:eH}(i j:Nat)
  (jf:X.stack=X.env::X.outer) (kB:X.env.frame=cz X.env.locals) (hN:X.N.Nodup) (gy:i≠j)
  (hb:PSsX X.nox u ML M body g M) (hr:∀pn E W,Tk (Cx.trial X pn E) W->a5w (Cx.trial X pn E) W M body r)
  (oG:bO X.K aY x0=cz (cz (.ref C0))) (hL:L.all (a1y X.K C0)=true)
  (hi:X.N[i]?=cz cn:=by rfl) (hj:X.N[j]?=cz en:=by rfl) (uO:X.env.scope.names.lookup cn=cz .local:=by rfl) (uN:X.env.scope.names.lookup en=cz .local:=by rfl)
  (pF:M[i]?=cz (.own .i):=by rfl) (yh:M[j]?=cz mj:=by rfl)
  (hg:Gl X x0:=by rfl) (hd:(x0==("__debug__":br))=false:=by decide) (Bb:(en==("__debug__":br))=false:=by decide) (gu:(en==("__classdict__":br))=false:=by decide)
  (hs:mq [.Name cn px] (.Name en py) apos.line X.env=pure false:=by rfl) (hw:mr [.Name cn px] (.Name en py) X.env=pure pz:=by rfl) (h1:(fC [.Name cn px] X.env).map (·.2)=[iM (.Name cn px) X.env]:=by rfl) :
  PSX X u ML M (.Try body [.ExceptHandler (cz (.Name x0 np)) (cz en) [.Assign [.Name cn px] (.Name en py) apos] mU] [] [] pos) (a9s L i j g r) ((M.set j .dead).set i .exc):=by
 intro pins s σ H D I ⟨Z,P,F,o,S,mY,k⟩;refine wpAny_Try_except ?_;unfold a9s at mY;cases vQ:r Z with
 |none=>
  rw[vQ]at mY;obtain⟨o1,h2,h3⟩:=bnd mY;cases o1 with
  |nx Z'=>
   have ue:(match Z'.getD i (.bool true) with|.none=>cz (Out.nx Z')|_=>pz)=cz o:=h3
   split at ue
   ·next ow=>
    cases ue
    have run:=hb pins s σ H {nx:=λσ' H'=>∃F',StR X.K M Z' σ' H' P F',rt:=λ_ _=>False} (I.wish _) ⟨Z,P,F,.nx Z',S,h2,λσ' H' F' S'=>⟨F',S'⟩⟩;refine cM run (λf s1 h=>?_) λ_ _ z=>z.elim
    cases f with
    |next=>
     obtain⟨σ',H',I',F',S'⟩:=h;refine ik ⟨σ',H',I'.unwish,?_⟩;have S2:=S'.dead yh;have oP:(M.set j .dead)[i]?=cz (.own .i):=by rw[dw (fx gy)];exact pF
     obtain⟨v,f,e1,o1,_⟩:=S2.toE.get oP;have hZ:Z'[i]?=cz .none:=by
      rw[ai]at ow;cases q:Z'[i]? with
      |none=>rw[q]at ow;cases ow
      |some d=>rw[q]at ow;exact fE cz ow
     rw[D5 hZ]at o1;have o2:Own X.K H' F' .i v .none f:=o1;have hv:v=.non:=((a0V o2).2.2).none_inv;subst hv;have S3:=S2.setExc oP (v:=.non) (d:=.none) ⟨rfl,.non,rfl,.inl ⟨rfl,rfl⟩⟩;rw[set_same hZ,set_same e1]at S3;exact k σ' H' F' S3
    |brk=>obtain⟨_,_,_,z⟩:=h;exact z.elim
    |cont=>obtain⟨_,_,_,z⟩:=h;exact z.elim
    |ret w=>obtain⟨_,_,_,_,_,z⟩:=h;exact z.elim
   ·cases ue
  |rt d=>cases h3
  |bk Z'=>cases h3
  |ct Z'=>cases h3
 |some n=>
  rw[vQ]at mY;have oU:(if L.contains n=true then cz (Out.nx ((Z.set j .none).set i (.str n))) else pz)=cz o:=mY;by_cases hc:L.contains n=true
  ·rw[aL hc]at oU;cases oU
   have jI:n∈L:=by simpa using hc
   have hex:∃C,bO X.K aY n=cz (cz (.ref C))/\PySem.W.exmOne X.K (.ref C) (.ref C0)=cz true:=by
    have:=cZ.mp hL n jI;unfold a1y at this
    split at this
    ·next C hC=>exact⟨C,hC,iY.mp this⟩
    ·cases this
   let E1:ag->aj->Prop:=λe s1=>∃(σ1:L2.St) (H1:Hp) (s0:aj) (C a t:au) (H2:Hp) (B:b_) (F1:List au),e=.ref a/\Inv X pins σ1 H1 s0/\bO X.K aY n=cz (cz (.ref C))/\s1.os=s0.os/\ig s1.gens/\Fly X.prog X.w X.stack H1 s0 a C t H2 B s1.heap/\Same H1 H2/\StR X.K M Z σ1 H1 P F1
   have tk:Tk (Cx.trial X (X.pn++pins) E1) (λn' σ1 H1=>n'=n/\∃F1,StR X.K M Z σ1 H1 P F1):=λnK σ1 H1 s0 n' C a t H2 B s1 I0 hn uL q_ x e ⟨Aw,F1,S1⟩=>by
    subst Aw;exact⟨σ1,H1,s0,C,a,t,H2,B,F1,rfl,Inv.untrial I.ok I0,hn,uL,q_,x,e,S1⟩
   have run:=hr (X.pn++pins) E1 _ tk [] s σ H {nx:=λ_ _=>False,rt:=λ_ _=>False} (Inv.trial I E1) ⟨Z,P,F,n,S,vQ,λσ' H' F' S'=>⟨rfl,F',S'⟩⟩;refine cM run (λf s1 h=>?_) λe s1 h=>?_
   ·cases f with
    |next=>obtain⟨_,_,_,z⟩:=h;exact z.elim
    |brk=>obtain⟨_,_,_,z⟩:=h;exact z.elim
    |cont=>obtain⟨_,_,_,z⟩:=h;exact z.elim
    |ret w=>obtain⟨_,_,_,_,_,z⟩:=h;exact z.elim
   obtain⟨σ1,H1,s0,C,a,t,H2,B,F1,rfl,I0,hn,uL,q_,x,yN,S1⟩:=h;obtain⟨C',yH,wA⟩:=hex;rw[hn]at yH;cases yH
   have fr:=I0.ok.frames;rw[jf]at fr;have x':=x;rw[jf]at x';refine wpAny_looks_onW fr kB x'.fl λh4 held zp=>?_
   refine wpAny_landsW held λh5 xa zo=>?_
   have w_:ko B X.stack a (.ref C) (.ref t) h5:=by rw[jf];exact xa
   have x5:=x.step w_ (zp.trans zo);have I5:=a1z (s':=s1) I0 uL q_ x5;have Cm:Inv (Cx.hand X a (notedBy (aV X.prog X.w) (X.A.mark (cz (.ref a))) X.env (cameBackBy (aV X.prog X.w) X.A X.env X.xe))) pins σ1 (upd H2 a (ExcAt a C)) {s1 with heap:=h5}:=Inv.hand I5 a _;have AB:X.mg x0=cz (.ref C0):=fR I.mod.kin I.mod.glob oG;obtain⟨ob,Au,vZ⟩:=xa.there;refine wpAny_handleBy_cons (codeAny_handlers_test (S8 Cm hg AB ?_ hd)) (by intro q;cases q);have LT:PySem.W.Looks (aV X.prog X.w) h5 (typeOf (.ref a)) (.ref C):=vZ▸(Cc Au).andThen .now;refine (PySem.W.exm_one I5.kIn LT wA).here ?_;refine codeAny_handlers_suite_as ?_;refine lands_againW xa λh6 BL zm=>?_
   have wZ:ko B X.stack a (.ref C) (.ref t) h6:=by rw[jf];exact BL
   have x6:=x5.step wZ zm;have I6:=a1z (s':=s1) I0 uL q_ x6;refine V9 I6 hN hj (.inl uN) (v:=.ref a) (u:=.ref a) rfl (λs7 I7=>?_) (.inr uN);have vm:=a5R (X:=Cx.hand X a λ_ _=>False) (a4M (P6 (i:=j) hj (.inl uN) Bb gu) (y9 (i:=i) hN hi (.inl uO) (.inr uO)) hs hw h1) pins s7 (σ1.set j (cz (.ref a))) (upd H2 a (ExcAt a C))
    {nx:=λσ' H'=>σ'=(σ1.set j (cz (.ref a))).set i (cz (.ref a))/\H'=upd H2 a (ExcAt a C),rt:=λ_ _=>False} (Inv.hand I7 a _) ⟨.ref a,by
     rw[gi];rw[I0.len];exact (aT.mp hj).1,rfl,rfl⟩
   refine cM vm (λf s8 h=>?_) λ_ _ z=>z.elim
   cases f with
   |next=>
    obtain⟨σ8,H8,I8,e8,e9⟩:=h;subst e8 e9;have zd:=Inv.unhand I0.ok I8;obtain⟨m,mD,yi⟩:=id zd.loc;have qV:(X.env.scope.kind==.class||(X.env.scope.kind==.module&&X.env.locals !=X.env.globals))=false:=by rw[I0.ok.kind];rfl
    refine wpAny_nameGoes_keeps uN mD qV λh9 v zK sb=>?_
    have Bg:((σ1.set j (cz (V.ref a))).set i (cz (V.ref a))).set j pz=(σ1.set j pz).set i (cz (V.ref a)):=by
     rw[kF _ _ gy,List.set_set]
    refine⟨_,_,Inv.unbound zd hN hj mD yi zK sb,?_⟩;rw[Bg];have eu:Same H2 (upd H2 a (ExcAt a C)):=λb o q=>by
     rw[g7 (λz=>by rw[z,x.na]at q;cases q)];exact q
    have nF:a∉F1:=λz=>by
     obtain⟨ys,q⟩:=S1.lst a z;have:=yN _ _ q;rw[x.na]at this;cases this
    have S3:=(S1.grow (yN.trans eu)).kill yh .none pz;have oP:(M.set j .dead)[i]?=cz (.own .i):=by rw[dw (fx gy)];exact pF
    exact k _ _ _ (S3.setExc oP (v:=.ref a) (d:=.str n) ⟨rfl,.ref a,rfl,.inr ⟨a,C,n,rfl,rfl,l0 nF j8,hn⟩⟩)
   |brk=>obtain⟨_,_,_,z⟩:=h;exact z.elim
   |cont=>obtain⟨_,_,_,z⟩:=h;exact z.elim
   |ret w=>obtain⟨_,_,_,_,_,z⟩:=h;exact z.elim
  ·rw[aS hc]at oU;cases oU
end VS
namespace PySem.W
open PySem PySem.Spec PySem.Calls PyProof.Rows Builtin Builtin.ObjectAttr Builtin.Getset_descriptor
section
variable {prog:bo}{w:bJ}{A:bH}{E:ag->aj->Prop}{s:aj}{K:Frag}{a C:au}{o:eW}
def R7{h:b_}(hx:h.get? a=cz o)(hc:o.cls=.ref C):Looks M h (typeOf (.ref a)) (.ref C):=hc▸(Looks.ld hx).andThen .now
def a2b(X:K.In s.heap)(hx:s.heap.get? a=cz o)(hc:o.cls=.ref C)(hm:mroIn K C (.type "object")=cz true)
  (h:R (.ok (.ret (.ref C))) s):jk (aV prog w) A (.call (.builtin "getset_descriptor.__get__") ⟨[.builtin "object.__class__",.ref a,tp],[]⟩) R s:=by
 obtain⟨hh,g,dr,t,os⟩:=s;have L0:=R7 (M:=aV prog w) hx hc;have L1:=looks_mroIn (M:=aV prog w) X hm;refine codeAny_call_builtin KF.slot_gs.plain KF.entry_gs (KF.slot_gs.check _ _ _ _ _ _ _ _ KF.type_class (KF.args_gs _ _ _) ?_);unfold Builtin.«getset_descriptor.__get__» descrGet;rw[dga_obj];refine af (aE ?_);unfold descrGetter descrCheckInstance descrNameAndClass isInstance;simp only[KF.owner_class]
 repeat lk
 refine⟨Code.quiet_builtin _ (by decide +kernel),rl KF.entry_class ?_⟩;unfold Builtin.«object.__class__» shownTypeOf
 repeat lk
 exact h
def a7z(X:K.In s.heap)(hx:s.heap.get? a=cz o)(hc:o.cls=.ref C)(hb:subIn K (.ref C) (.type "BaseException")=cz true)(hq:Q () s) :
  be M A (checkBuiltinCall "BaseException.__getattribute__" ⟨[.ref a,sr],[]⟩) Q E s:=by
 obtain⟨hh,g,dr,t,os⟩:=s;have L0:=R7 (M:=M) hx hc;have L1:=looks_subIn (M:=M) X hb;have hk:builtinKind "BaseException.__getattribute__"=cz .slot:=by decide +kernel
 have qA:splitId "BaseException.__getattribute__"=cz ("BaseException","__getattribute__"):=by decide +kernel
 have ha:=F.args_bexc_ga (.ref a) sr;simp only[checkBuiltinCall,hk,qA];refine af ?_;unfold isInstance;refine af (L0.at ?_);refine L1.at ?_
 repeat (any_goals (first|assumption|wp_step))
def a7A(X:K.In s.heap)(hx:s.heap.get? a=cz o)(hc:o.cls=.ref C)(ha:findIn K (.ref C) "__class__"=cz (cz (.builtin "object.__class__")))
  (hm:mroIn K C (.type "object")=cz true) (hq:Q (.done (.ret (.ref C))) s) :
  be (aV prog w) A (Builtin.«object.__getattribute__» ⟨[.ref a,.str "__class__" tk],[]⟩) Q E s:=by
 obtain⟨hh,g,dr,t,os⟩:=s;have L0:=R7 (M:=aV prog w) hx hc;have L1:=looks_findIn (M:=aV prog w) X ha;have Dc:(⟨hh,g,dr,t,os⟩:aj).TypeIs (.builtin "object.__class__") "getset_descriptor":=Ds;have f5:=Ds;have f6:=F.slot_gs_get.lookup;have f7:=F.slot_gs_set.lookup
 repeat (any_goals (first|assumption|(with_reducible refine wpAny_loadPart_at hx ?_;rw[hc])|with_reducible refine Looks.at L1 ?_|wp_step))
 refine a2b X hx hc hm ?_
 repeat (any_goals (first|assumption|wp_step))
def a1A(X:K.In s.heap)(hx:s.heap.get? a=cz o)(hc:o.cls=.ref C)(wy:findIn K (.ref C) "__getattribute__"=cz (cz (.builtin "BaseException.__getattribute__")))
  (tq:findIn K (.ref C) "__getattr__"=cz pz) (ha:findIn K (.ref C) "__class__"=cz (cz (.builtin "object.__class__"))) (hm:mroIn K C (.type "object")=cz true) (hb:subIn K (.ref C) (.type "BaseException")=cz true)
  (h:Q (cz (.ref C)) {s with toks:=s.toks+1}):be (aV prog w) A (getAttr? (.ref a) "__class__") Q E s:=by
 obtain⟨hh,g,dr,t,os⟩:=s;have L0:=R7 (M:=aV prog w) hx hc;have L1:=looks_findIn (M:=aV prog w) X wy;have L2:=looks_findIn (M:=aV prog w) X tq;have f3:=pQ.ga.bind (.ref a);unfold getAttr? getAttrBy? getAttrBy;refine af (wpAny_mkText (af (jr (cK (af (L0.at (af (L1.at ?_))))))));show be _ _ (getAttrByItsOwn _ _ _ _ _ _) _ _ _;unfold getAttrByItsOwn hookBefore;refine af (L2.at (af (jr (cK ?_))));show be _ _ (boundAndCalled _ _ _) _ _ _;unfold boundAndCalled;rw[f3];refine af (aE ?_);refine mR (codeAny_call_builtin pQ.ga.plain F.entry_bexc_ga (a7z X hx hc hb (a7A X hx hc ha hm ?_)));exact handed_on rfl (aE h)
def kitx_exc(nW:(clsIn K C).isSome=true)(wy:findIn K (.ref C) "__getattribute__"=cz (cz (.builtin "BaseException.__getattribute__")))
  (tq:findIn K (.ref C) "__getattr__"=cz pz) (ha:findIn K (.ref C) "__class__"=cz (cz (.builtin "object.__class__"))) (hm:mroIn K C (.type "object")=cz true) (hb:subIn K (.ref C) (.type "BaseException")=cz true) :
  KitX K (.ref a) (.ref C) (λh=>∃o,h.get? a=cz o/\o.cls=.ref C) where
 ty:=λ_ _ _ ⟨_,h1,h2⟩=>R7 h1 h2
 it:=λ_ _ X _=>by
  obtain⟨BY,qX⟩:=eF.mp nW;unfold clsIn at qX
  split at qX
  ·rename_i c' d' BZ rJ ho
   intro A' Q' E' s' k q;unfold isType loadHead;exact af (wpAny_loadPart (k _ _ (X _ _ ho)) (aE q))
  ·cases qX
 ne:=λh tp dd cN n sl X Af=>by
  obtain⟨BY,qX⟩:=eF.mp nW;refine dA.mpr λq=>?_
  have e:C=tp:=bG.inj (iY.mp q);subst e;unfold clsIn at qX
  split at qX
  ·rename_i c' d' BZ rJ ho
   have z:=(X _ _ ho).symm.trans Af;cases z
  ·cases qX
 ca:=λX ⟨_,h1,h2⟩ k=>a1A X h1 h2 wy tq ha hm hb k
end
end PySem.W
namespace VS
open PySem PySem.Spec L2 PyProof.Rows
def b1l(K:ae)(n:br):Bool:=match bO K aY n with
 |some (cz (.ref C))=>(PySem.W.clsIn K C).isSome&&eM K (.ref C) "__getattribute__" == cz (cz (.builtin "BaseException.__getattribute__"))&&eM K (.ref C) "__getattr__" == cz pz
   && eM K (.ref C) "__class__" == cz (cz (.builtin "object.__class__"))&&PySem.W.mroIn K C (.type "object")==cz true&&PySem.W.subIn K (.ref C) (.type "BaseException")==cz true
 |_=>false
def b3G(K:ae)(c:ag)(f:br->Bool)(n:br):Bool:=match bO K aY n with
 |some (cz (.ref C))=>cV K (.ref C) c==cz (f n)
 |_=>false
noncomputable def R8(L:List br)(i:Nat)(f:br->Bool):EvE:=λZ=>match Z.getD i (.bool true) with
 |.none=>cz (.bool false)
 |.str n=>if L.contains n then cz (.bool (f n)) else pz
 |_=>pz
def StE.getExc{K:ae}{M:List Md}{Z:List D}{σ:L2.St}{H P:Hp}{F:List au}{i:Nat}(h:StE K M Z σ H P F)(hm:M[i]?=cz .exc) :
  ∃v,σ[i]?=cz (cz v)/\((v=.non/\Z.getD i (.bool true)=.none)∨∃a C n,v=.ref a/\Z.getD i (.bool true)=.str n/\H a=cz (ExcAt a C)/\bO K aY n=cz (cz (.ref C))):=by
 obtain⟨G,h1,h3⟩:=h.all;obtain⟨d,o,f,pre,post,e1,e2,⟨_,v,rfl,q⟩,e4,_⟩:=h1.at_ hm;refine⟨v,e2,?_⟩;rw[D5 e1];exact q.imp (λz=>z) λ⟨a,C,n,z1,z2,z3,z4⟩=>⟨a,C,n,z1,z2,j5 _ _ z3,z4⟩
structure ExcN (K:ae) (c:ag) (L:List br) (f:br->Bool):Prop where
 ok:L.all (λn=>b1l K n&&b3G K c f n)=true
 non:cV K (.type "NoneType") c=cz false
def b6T(K:ae)(L:List br)(f:br->Bool)(cv:V):List V->Hp->VK->Prop:=λvs H Q=>∃x b,vs=[x,cv]/\((x=.non/\b=false)∨∃a C n,x=.ref a/\H a=cz (ExcAt a C)/\bO K aY n=cz (cz (.ref C))/\n∈L/\b=f n)/\Q (.bl b) H
def a9t{X:Cx}(tP:∀u,RelV cv u->u=c)(hN:ExcN X.K c L f):CallR X (.builtin "isinstance") (b6T X.K L f cv):=by
 intro pins s σ H xs us Q I r ⟨x,b,e,hx,q⟩;subst e;cases r with
 |cons r1 r2=>
  cases r2 with
  |cons r2 r3=>
   cases r3
   cases tP _ r2
   rcases hx with⟨rfl,rfl⟩|⟨a,C,n,rfl,ha,hn,hm,rfl⟩
   ·exact a2d I r1 .non hN.non λtk=>⟨.bl false,H,I.tok tk,rfl,q⟩
   ·have k:=cZ.mp hN.ok n hm;rw[aC]at k;have k1:=k.1;have k2:=k.2;unfold b1l at k1;unfold b3G at k2;rw[hn]at k1 k2;simp only[aC,iY]at k1 k2;obtain⟨⟨⟨⟨⟨y1,y2⟩,y3⟩,y4⟩,y5⟩,y6⟩:=k1;cases (show _=bG a from r1)
    exact cA (PySem.W.kitx_exc y1 y2 y3 y4 y5 y6) I.kIn (I.hok a _ ha).1 k2 (λz=>nomatch z) λtk=>⟨.bl (f n),H,I.tok tk,rfl,q⟩
section
variable {X:Cx}{M:List Md}{L:List br}{f:br->Bool}{x y:br}{px py p pos:eH}
def a1B(i:Nat){cv:V}{c:ag}(tP:∀u,RelV cv u->u=c)(hN:ExcN X.K c L f)(hm:X.mg "isinstance"=pz)(hc:PE X (.Name y py) (tC cv))
  (uc:X.N[i]?=cz x) (hv:Vis X.env.scope x) (pF:M[i]?=cz .exc) (hd:(x==("__debug__":br))=false) (gu:(x==("__classdict__":br))=false)
  (hg:Gl X "isinstance") (he:ax [.Name x px,.Name y py] X.env=(false,cU (.Name x px) X.env)::ax [.Name y py] X.env) (mZ:ax [.Name y py] X.env=(false,cU (.Name y py) X.env)::ax [] X.env) (fB:(dj pos (ax [.Name y py] X.env)).any (·.1)=false) :
  PX X M (.Call (.Name "isinstance" p) [.Name x px,.Name y py] [] pos) (R8 L i f) (.new .i):=by
 refine .mk ⟨_,P8 (a9t tP hN) hg hm PyProof.Rows.Boot.«isinstance» (p6 (P6 uc hv hd gu) (p6 hc A6 mZ) he) (by decide) (by decide) he fB,λZ σ H P F d Q S lU q=>?_⟩;obtain⟨v,e,hx⟩:=S.getExc pF;have fin:∀b,d=.bool b->Q (.bl b) H:=λb hb=>by
  subst hb;exact q _ H (Same.refl H) (Q5 (by simp only[imm]) den_bool (S.lst' (Same.refl H)))
 unfold R8 at lU;rcases hx with⟨rfl,hZ⟩|⟨a,C,n,rfl,hZ,ha,hn⟩
 ·rw[hZ]at lU;cases lU
  exact⟨.non,e,⟨.non,false,rfl,.inl ⟨rfl,rfl⟩,fin false rfl⟩⟩
 ·rw[hZ]at lU;by_cases hl:L.contains n=true
  ·have tE:(if L.contains n=true then cz (fS (f n)) else pz)=cz d:=lU;rw[aL hl]at tE;cases tE
   exact⟨.ref a,e,⟨.ref a,f n,rfl,.inr ⟨a,C,n,rfl,ha,hn,by simpa using hl,rfl⟩,fin _ rfl⟩⟩
  ·have tE:(if L.contains n=true then cz (fS (f n)) else pz)=cz d:=lU;rw[aS hl]at tE;cases tE
def E9(i:Nat)(hN:ExcN X.K (.ref C) L f)(hm:X.mg "isinstance"=pz)(hy:X.mg y=cz (.ref C))(pF:M[i]?=cz .exc:=by rfl)
  (uc:X.N[i]?=cz x:=by rfl) (hv:Vis X.env.scope x:=by first|exact cX rfl|exact cR (cX rfl)|exact cR (cR rfl)) (hd:(x==("__debug__":br))=false:=by decide) (gu:(x==("__classdict__":br))=false:=by decide)
  (hg:Gl X "isinstance":=by rfl) (tm:Gl X y:=by rfl) (tJ:(y==("__debug__":br))=false:=by decide)
  (he:ax [.Name x px,.Name y py] X.env=(false,cU (.Name x px) X.env)::ax [.Name y py] X.env:=by rfl) (mZ:ax [.Name y py] X.env=(false,cU (.Name y py) X.env)::ax [] X.env:=by rfl) (fB:(dj pos (ax [.Name y py] X.env)).any (·.1)=false:=by rfl) :
  PX X M (.Call (.Name "isinstance" p) [.Name x px,.Name y py] [] pos) (R8 L i f) (.new .i):=
 a1B i (cv:=.ref C) (λu r=>r) hN hm (b0b tm hy rfl tJ) uc hv pF hd gu hg he mZ fB
def b3H(i:Nat)(hN:ExcN X.K (.type T) L f)(hm:X.mg "isinstance"=pz)(hy:X.mg y=pz)(hb:eK y=cz (.type T))(pF:M[i]?=cz .exc:=by rfl)
  (uc:X.N[i]?=cz x:=by rfl) (hv:Vis X.env.scope x:=by first|exact cX rfl|exact cR (cX rfl)|exact cR (cR rfl)) (hd:(x==("__debug__":br))=false:=by decide) (gu:(x==("__classdict__":br))=false:=by decide)
  (hg:Gl X "isinstance":=by rfl) (tm:Gl X y:=by rfl) (v_:y≠"__name__":=by decide) (tJ:(y==("__debug__":br))=false:=by decide)
  (he:ax [.Name x px,.Name y py] X.env=(false,cU (.Name x px) X.env)::ax [.Name y py] X.env:=by rfl) (mZ:ax [.Name y py] X.env=(false,cU (.Name y py) X.env)::ax [] X.env:=by rfl) (fB:(dj pos (ax [.Name y py] X.env)).any (·.1)=false:=by rfl) :
  PX X M (.Call (.Name "isinstance" p) [.Name x px,.Name y py] [] pos) (R8 L i f) (.new .i):=
 a1B i (cv:=.ty T) (λu r=>r) hN hm (a5Q tm hy hb rfl v_ tJ) uc hv pF hd gu hg he mZ fB
end
def b6U(K:ae)(cs:List au)(f:br->Bool)(n:br):Bool:=match bO K aY n with
 |some (cz (.ref C))=>PySem.W.kitAny K (.ref C) (cs.map bG)==cz (f n)
 |_=>false
structure ExcT (K:ae) (cs:List au) (L:List br) (f:br->Bool):Prop where
 ok:L.all (λn=>b1l K n&&b6U K cs f n)=true
 non:PySem.W.kitAny K (.type "NoneType") (cs.map bG)=cz false
end VS
namespace L2
open PySem
def Has.u(h:Has P w K mg base x i ps sp)(l:i<=j:=by decide):Has P w K mg base x j ps sp:=h.up l
end L2
namespace VS
open PySem PySem.Spec PyProof.Rows L2
structure DP (K:ae) (mg:br->Option ag) (x:br) (st:fH):Prop where
 ex:∃f fd,Fun K x x st f fd/\bO K aY x=cz (cz (.ref f))/\mg x=cz (.ref f)
section
variable {P:bo}{w:bJ}{K:ae}{mg:br->Option ag}{base h:b_}{x:br}{st:fH}{N ps:List br}{k n:Nat}{us:List Ty}{u wt:Ty}{g:EvS}{sp:Sp}
def b5H{f:au}{oc:ag}{od an:Option au}{mv:Array (Option ag)}{kV doc pm eP ct:ag}(X:K.In h)(G:h.Ns aY mg)(a:bO K aY x=cz (cz (.ref f)))(l:K.lookup f=cz ⟨oc,od,.func (eR x x (O0 st) (t7 st) (g8 st) .none kV doc pm an eP ct),mv⟩)
  (c:jO K eP x=true) (k:dU K (.ref f)=true):DP K mg x st:=⟨_,_,b2J l c k,a,fR X G a⟩
abbrev BBy(x:br)(st:fH)(ps:List br):Prop:=∀(kV doc pm:ag) (an:Option au) (eP ct:ag) (us:List ag),us.length=ps.length->oh (eR x x (O0 st) (t7 st) (g8 st) .none kV doc pm an eP ct) ⟨us,[]⟩=pure (ps.zip us)
def C7(d:DP K mg x st)(h:∀f fd,Fun K x x st f fd->FnOk P w K mg base CX0 k f fd ps sp)(b:BBy x st ps:=by intro _ _ _ _ _ _ us hl;first|(obtain⟨_,rfl⟩:=b0Z hl;rfl)|(obtain⟨_,_,rfl⟩:=b1a hl;rfl)|(obtain⟨_,_,_,rfl⟩:=b3z hl;rfl)|(obtain⟨_,_,_,_,rfl⟩:=b5B hl;rfl)|(obtain⟨_,_,_,_,_,rfl⟩:=b6R hl;rfl)|(obtain⟨_,_,_,_,_,_,rfl⟩:=b6S hl;rfl)):Has P w K mg base x k ps sp:=by
 obtain⟨f,fd,F,a,m⟩:=d.ex;exact⟨f,fd,h f fd F,F.binds b,F.kp,m⟩
def b1m(d:DP K mg x st)(h:∀f fd,Fun K x x st f fd->bO K aY x=cz (cz (.ref f))->FnOk P w K mg base CX0 k f fd ps sp)(b:BBy x st ps:=by intro _ _ _ _ _ _ us hl;first|(obtain⟨_,rfl⟩:=b0Z hl;rfl)|(obtain⟨_,_,rfl⟩:=b1a hl;rfl)|(obtain⟨_,_,_,rfl⟩:=b3z hl;rfl)):Has P w K mg base x k ps sp:=by
 obtain⟨f,fd,F,a,m⟩:=d.ex;exact⟨f,fd,h f fd F a,F.binds b,F.kp,m⟩
def fnF(F:Fun K x x st f fd)(N:List br)(hb:∀(S:FnScope N ps (g8 st)) (eP:ag) (A:bH) (outer:List kZ) (s:aj) (H:Hp) (E:XK),Room k (A.deeper (gL x (g8 st) s.heap.objs.size f eP))->PSsX (P7 CX0 P w K mg base N x (g8 st) f eP A outer s H E).nox u [] (us.map .own++aB n .dead) (t7 st) g [])
  (S:FnScope N ps (g8 st):=by exact⟨rfl,rfl,rfl,by decide +kernel,rfl,by decide +kernel,by decide +kernel⟩) (k_:us.length=ps.length:=by rfl) (hn:N.length=ps.length+n:=by rfl):FnOk P w K mg base CX0 (k+1) f fd ps (spD K ps.length (fnD us n g) u):=b0E F S k_ hn (hb S)
def b6V(F:Fun K x x st f fd)(N:List br)(hb:∀(S:FnScope N ps (g8 st)) (eP:ag) (A:bH) (outer:List kZ) (s:aj) (H:Hp) (E:XK),Room k (A.deeper (gL x (g8 st) s.heap.objs.size f eP))->PSsX (P7 CX0 P w K mg base N x (g8 st) f eP A outer s H E).nox u [] (.own .f::.own wt::aB n .dead) (t7 st) g [])
  (S:FnScope N ps (g8 st):=by exact⟨rfl,rfl,rfl,by decide +kernel,rfl,by decide +kernel,by decide +kernel⟩) (k_:ps.length=2:=by rfl) (hn:N.length=2+n:=by rfl):FnOk P w K mg base CX0 (k+1) f fd ps (spO K (fnO n g) wt u):=a8K F S k_ hn (hb S)
def b6W{Φ:(List D->Option D)->Hp->V->Prop}{g:(List D->Option D)->EvS}(F:Fun K x x st f fd)(N:List br)(hb:∀(S:FnScope N ps (g8 st)) (gm:List D->Option D) (eP:ag) (A:bH) (outer:List kZ) (s:aj) (H:Hp) (E:XK),Room k (A.deeper (gL x (g8 st) s.heap.objs.size f eP))->PSsX (P7 CX0 P w K mg base N x (g8 st) f eP A outer s H E).nox u [] (us.map .own++(.fn (Φ gm)::aB n .dead)) (t7 st) (g gm) [])
  (S:FnScope N ps (g8 st):=by exact⟨rfl,rfl,rfl,by decide +kernel,rfl,by decide +kernel,by decide +kernel⟩) (k_:us.length+1=ps.length:=by rfl) (hn:N.length=ps.length+n:=by rfl) (hj:j=us.length:=by rfl):FnOk P w K mg base CX0 (k+1) f fd ps (spL K j Φ (fnL us n g) u):=hj▸a9c (M':=λ_=>[]) F S k_ hn (hb S)
def b6X(F:Fun K x x st f fd)(N:List br)(lt:(w9 K x).isSome=true)(X:K.In base)(G:base.Ns aY mg)(a:bO K aY x=cz (cz (.ref f)))(hb:∀(S:FnScope N ps (g8 st)) (c:au) (p:au) (hc:fd.code=.ref c) (hp:w9 K x=cz p) (hd:fF base c p) (A:bH) (outer:List kZ) (s:aj) (H:Hp) (E:XK),Room k (A.deeper (gL x (g8 st) s.heap.objs.size f fd.code))->PSsX (P7 CX0 P w K mg base N x (g8 st) f fd.code A outer s H E).nox u [] (us.map .own++aB n .dead) (t7 st) g [])
  (S:FnScope N ps (g8 st):=by exact⟨rfl,rfl,rfl,by decide +kernel,rfl,by decide +kernel,by decide +kernel⟩) (k_:us.length=ps.length:=by rfl) (hn:N.length=ps.length+n:=by rfl):FnOk P w K mg base CX0 (k+1) f fd ps (spD K ps.length (fnD us n g) u):=by
 obtain⟨oc,od,kV,doc,pm,an,eP,ct,mv,e,lk,gu⟩:=F.ex;obtain⟨c,p,h1,h2,h3⟩:=a9i lt X G a lk;exact a9h F S k_ hn (hb S c p h1 h2 h3)
def b3I(wz:mg x=cz (.ref fa))(d:DP K mg x st)(h:∀base:b_,K.In base->base.Ns aY mg->∀fd,Fun K x x st fa fd->FnOk P w K mg base CX0 k fa fd [p] sp)(b:∀(kV doc pm:ag) (an:Option au) (eP ct v:ag),oh (eR x x (O0 st) (t7 st) (g8 st) .none kV doc pm an eP ct) ⟨[v],[]⟩=pure [(p,v)]:=by intros;rfl) :
  ∃fd:c_,(∀(s:aj) (v:ag),lW s fd ⟨[v],[]⟩ [(p,v)])/\∀base:b_,K.In base->base.Ns aY mg->FnOk P w K mg base CX0 k fa fd [p] sp:=by
 obtain⟨f,fd,F,a,m⟩:=d.ex;rw[wz]at m;cases m
 refine⟨fd,λs v=>?_,λbase X G=>h base X G fd F⟩;obtain⟨oc,od,kV,doc,pm,an,eP,ct,mv,rfl,lk,gu⟩:=F.ex;exact .of_eq (b kV doc pm an eP ct v)
end
section
variable {X:Cx}{M:List Md}{e e0:Expr}{es:List Expr}{fe:EvE}{f:EvA}{c:Cat}{u:Ty}{pos p:eH}{x:br}
abbrev mdF:Md:=.own .f
abbrev mdI:Md:=.own .i
abbrev mdL:Md:=.own (.l .i)
abbrev K7:Md:=.own (.l (.l .i))
abbrev mdD:Md:=.dead
def c7(i:Nat)(hN:X.N[i]?=cz x:=by rfl)(hv:Vis X.env.scope x:=by first|exact cX rfl|exact cR (cX rfl)|exact cR (cR rfl))(hd:(x==("__debug__":br))=false:=by decide)(gu:(x==("__classdict__":br))=false:=by decide)(hm:M[i]?=cz (.own .f):=by rfl):PX X M (.Name x pos) (a5 i) (.bor .f):=o9 i hN hv hd gu hm
def c8(i:Nat)(hN:X.N[i]?=cz x:=by rfl)(hv:Vis X.env.scope x:=by first|exact cX rfl|exact cR (cX rfl)|exact cR (cR rfl))(hd:(x==("__debug__":br))=false:=by decide)(gu:(x==("__classdict__":br))=false:=by decide)(hm:M[i]?=cz (.own .i):=by rfl):PX X M (.Name x pos) (a5 i) (.bor .i):=o9 i hN hv hd gu hm
def B6(i:Nat)(hN:X.N[i]?=cz x:=by rfl)(hv:Vis X.env.scope x:=by first|exact cX rfl|exact cR (cX rfl)|exact cR (cR rfl))(hd:(x==("__debug__":br))=false:=by decide)(gu:(x==("__classdict__":br))=false:=by decide)(hm:M[i]?=cz (.own (.l .i)):=by rfl):PX X M (.Name x pos) (a5 i) (.bor (.l .i)):=o9 i hN hv hd gu hm
def y7(i:Nat)(hN:X.N.Nodup)(hi:X.N[i]?=cz x:=by rfl)(hx:Loc X.env.scope x:=by first|exact cX rfl|exact cR rfl)(hf:X.fn x=true∨X.env.scope.names.lookup x=cz .local:=by first|exact .inl rfl|exact .inr rfl|assumption):PG X (.Name x pos) (M7 i):=y9 hN hi hx hf
def o7(hm:X.mg "len"=pz)(h:PX X M e fe c)(hg:Gl X "len":=by rfl)(he:ax [e] X.env=(false,cU e X.env)::ax [] X.env:=by rfl)(fB:(dj pos (ax [] X.env)).any (·.1)=false:=by rfl):PX X M (.Call (.Name "len" p) [e] [] pos) (eCl l8 (a6 fe b9)) (.new .i):=a8s b2P hm PySem.boot_len (a9 h g9 he) hg (by decide) (by decide) he fB
def m9(W:Has X.prog X.w X.K X.mg X.base x k ps (spD X.K n m u))(hr:Room k X.A)(h:PAX X M (e0::es) f)(hu:u.shut=true:=by rfl)(hl:(e0::es).length=n:=by rfl)(hfl:∀Z ds,f Z=cz ds->ds.length=(e0::es).length:=by first|exact t8 V1|exact t8 (t8 V1)|exact t8 (t8 (t8 V1))|exact t8 (t8 (t8 (t8 V1)))|exact t8 (t8 (t8 (t8 (t8 V1)))))
  (hg:Gl X x:=by rfl) (jt:(x==("__debug__":br))=false:=by decide) (he:ax (e0::es) X.env=(false,cU e0 X.env)::ax es X.env:=by rfl) (fB:(dj pos (ax es X.env)).any (·.1)=false:=by rfl) :
  PX X M (.Call (.Name x p) (e0::es) [] pos) (eCl m f) (.new u):=b0B W hr h hu hl hfl hg jt he fB
def w6(hu:X.A.units+64<eh:=by exact Room.units (by assumption)):OpS X (cD .Eq) dEq:=os_eq hu
def L7(hu:X.A.units+64<eh:=by exact Room.units (by assumption)):OpS X (cD .NotEq) dNe:=b4M hu
end
section
variable {P:bo}{w:bJ}{K:ae}{mg:br->Option ag}{base h:b_}{x:br}{st:fH}{N ps:List br}{k n:Nat}{us:List Ty}{sp:Sp}
def HasR.u(h:HasR P w K mg base x i ps sp)(l:i<=j:=by decide):HasR P w K mg base x j ps sp:=h.up l
def b6Y(a:bO K aY x=cz (cz (.ref C)))(b:oY K C [.type "ValueError",.type "Exception",.type "BaseException",.type "object"] "ValueError.__new__"=true):∃C,b1j K x C:=⟨C,a,b⟩
def b6Z{L:List br}(a:bO K aY x=cz (cz (.ref C)))(b:L.all (a1y K C)=true):∃C,bO K aY x=cz (cz (.ref C))/\L.all (a1y K C)=true:=⟨C,a,b⟩
def a0D{L:List br}(X:K.In h)(G:h.Ns aY mg)(a:bO K aY x=cz (cz (.ref C)))(b:L.all (λn=>b1l K n&&b3G K (.ref C) f n)=true)(c:cV K (.type "NoneType") (.ref C)=cz false):∃C,mg x=cz (.ref C)/\ExcN K (.ref C) L f:=⟨C,fR X G a,b,c⟩
def b1n(d:DP K mg x st)(h:∀f fd,Fun K x x st f fd->FnOk P w K mg base (CXR P w) k f fd ps sp)(b:BBy x st ps:=by intro _ _ _ _ _ _ us hl;first|(obtain⟨_,rfl⟩:=b0Z hl;rfl)|(obtain⟨_,_,rfl⟩:=b1a hl;rfl)|(obtain⟨_,_,_,rfl⟩:=b3z hl;rfl)|(obtain⟨_,_,_,_,rfl⟩:=b5B hl;rfl)):HasR P w K mg base x k ps sp:=by
 obtain⟨f,fd,F,a,m⟩:=d.ex;exact⟨f,fd,h f fd F,F.binds b,F.kp,m⟩
def b7a(F:Fun K x x st f fd)(N:List br)
  (hb:∀(S:FnScope N ps (g8 st)) (E:XK) (eP:ag) (A:bH) (outer:List kZ) (s:aj) (H:Hp),let X:=P7 (CXR P w) P w K mg base N x (g8 st) f eP A outer s H E;XeL X E->Room k X.A->a5w X (wE K E) (us.map .own++aB n .dead) (t7 st) r)
  (S:FnScope N ps (g8 st):=by exact⟨rfl,rfl,rfl,by decide +kernel,rfl,by decide +kernel,by decide +kernel⟩) (k_:us.length=ps.length:=by rfl) (hn:N.length=ps.length+n:=by rfl):FnOk P w K mg base (CXR P w) (k+1) f fd ps (spR K ps.length (fnR us n r)):=by
 refine a9r F S k_ hn λX E L hK hX hr=>?_
 obtain⟨eP,A,outer,s,H,hX⟩:=hX;subst hX;exact hb S E eP A outer s H L hr
end
end VS
namespace VS
open PySem L2
section
variable {a b c:EvE}{Z:List D}{d x y:D}
def chE(g':D->D->Option D):Option D->Option D->EvE->List D->Option D
 |some (.bool true),cz y,c,Z=>l2 g' (cz y) (c Z)
 |some (.bool false),cz _,_,_=>cz (.bool false)
 |_,_,_,_=>pz
def b7b:eCh g g' a b c Z=chE g' (l2 g (a Z) (b Z)) (b Z) c Z:=by
 unfold eCh;cases a Z with
 |none=>rfl
 |some x=>
  cases b Z with
  |none=>rfl
  |some y=>
   show (g x y).bind _=chE g' (g x y) (cz y) c Z;cases g x y with
   |none=>rfl
   |some z=>
    cases z with
    |bool k=>
     cases k with
     |false=>rfl
     |true=>cases h:c Z<;>simp[chE,asB,h,l2]
    |_=>rfl
def b5I:chE g' (cz (.bool true)) (cz y) c Z=l2 g' (cz y) (c Z):=rfl
def b5J:chE g' (cz (.bool false)) (cz y) c Z=cz (.bool false):=rfl
def b7c:(true==true)=true:=rfl
def b7d:(true==false)=false:=rfl
def b7e:(false==true)=false:=rfl
def b7f:(false==false)=true:=rfl
def b7g:(true !=true)=false:=rfl
def b7h:(true !=false)=true:=rfl
def b7i:(false !=true)=true:=rfl
def b7j:(false !=false)=false:=rfl
def trB:tr (.bool k)=cz k:=rfl
def b5K:asB (.bool k)=cz k:=rfl
def a9u:isN .none=true:=rfl
def b1o:isN (.int i)=false:=rfl
def a9v:isN (.bool i)=false:=rfl
def a9w:isN (.list ds)=false:=rfl
def b1p:isN (.tuple ds)=false:=rfl
def b3J:b0v k x .none=cz (.bool (k !=isN x)):=rfl
def a7B:isInt (.int i)=true:=rfl
def a5x:isInt (.bool i)=true:=rfl
def a5y:isInt .none=false:=rfl
def a5z:isInt (.list ds)=false:=rfl
def a7C:isInt (.tuple ds)=false:=rfl
def a7D:isInt (.str s)=false:=rfl
def a5A:isInt (.dict s)=false:=rfl
def a5B:isBool (.int i)=false:=rfl
def a4q:isBool (.bool i)=true:=rfl
def a4r:isBool .none=false:=rfl
def a4s:isBool (.list ds)=false:=rfl
def a5C:isBool (.tuple ds)=false:=rfl
def a5D:isBool (.str s)=false:=rfl
def a4t:isBool (.dict s)=false:=rfl
def isList_list:isList (.list ds)=true:=rfl
def isList_int:isList (.int i)=false:=rfl
def a4u:isList .none=false:=rfl
def isList_bool:isList (.bool i)=false:=rfl
def a5E:isList (.tuple ds)=false:=rfl
def isList_str:isList (.str s)=false:=rfl
def isList_dict:isList (.dict s)=false:=rfl
def a4v:O3 (.tuple ds)=true:=rfl
def isTuple_list:O3 (.list ds)=false:=rfl
def isTuple_int:O3 (.int i)=false:=rfl
def lIs:Option D->Option D
 |some d=>a8q d
 |none=>pz
def a0r:eI a Z=lIs (a Z):=by unfold eI;cases a Z<;>rfl
def a6v(h:f8 ds=true):lIs (cz (.list ds))=cz (.list ds):=by
 show (if f8 ds=true then cz (lE ds) else pz)=_;rw[aL h]
def a9x:Option D->Option D
 |some (.list ds)=>cz (.list ds)
 |some (.tuple ds)=>cz (.list ds)
 |_=>pz
def a6w:a1c a Z=a9x (a Z):=by
 unfold a1c;cases a Z with
 |none=>rfl
 |some d=>cases d<;>rfl
def b5L:a9x (cz (.list ds))=cz (.list ds):=rfl
def b5M:a9x (cz (.tuple ds))=cz (.list ds):=rfl
def lL:Option D->Option (List D)
 |some d=>asL d
 |none=>pz
def b5N:iL a Z=lL (a Z):=by unfold iL;cases a Z<;>rfl
def b7k:lL (cz (.list ds))=cz ds:=rfl
def lII:Option (List D)->Option (List D)
 |some ds=>if f8 ds then cz ds else pz
 |none=>pz
def b5O:iI f Z=lII (f Z):=by unfold iI;cases f Z<;>rfl
def a7E(h:f Z=cz ds)(hi:f8 ds=true):iI f Z=cz ds:=by rw[b5O,h];show (if f8 ds=true then cz ds else pz)=_;rw[aL hi]
def b3K{ds:List D}(h:ds.length<1000000):b3s i (.list ds) (cz d) Z=cz (.nx (Z.set i (.list (ds++[d])))):=V2 h
def b3L:n9 i Z d=cz (Z.set i d):=rfl
def b3M:T6 i j Z (.tuple [x,y])=cz ((Z.set i x).set j y):=rfl
def b5P:pt1 d=cz [d]:=rfl
def b5Q:pt2 (.tuple [x,y])=cz [x,y]:=rfl
def b7l:tT Z=cz true:=rfl
end
def a9y(P:List D->Prop)(h1:∃Z,o=cz (.nx Z)/\P Z)(h2:∀Z,P Z->s Z=R):thn o s=R:=by
 obtain⟨Z,rfl,h⟩:=h1;exact h2 Z h
def X3{R:Option D->Prop}(P:List D->Prop)(h1:∃Z,o=cz (.nx Z)/\P Z)(h2:∀Z,P Z->R (a0A (s Z))):R (a0A (thn o s)):=by
 obtain⟨Z,rfl,h⟩:=h1;exact h2 Z h
theorem a4w(f:D->D):∀{ds:List D},(∀d∈ds,∃bs,pt d=cz bs/\g (bs++cs)=cz (f d))->J4 pt tT g cs ds=cz (ds.map f)
 |[],_=>rfl
 |d::ds,h=>by
  obtain⟨bs,h1,h2⟩:=h d aD;have ih:=a4w f (ds:=ds) λe he=>h e (av _ he)
  show (pt d).bind _=_;rw[h1];show (g (bs++cs)).bind _=_;rw[h2];show (J4 pt tT g cs ds).bind _=_;rw[ih];rfl
def b3N{js:List Nat}{Z ds:List D}(f:D->D)(hf:fi Z=cz ds)(hl:ds.length<=1000000)(h:∀d∈ds,∃bs,pt d=cz bs/\g (bs++js.map λj=>Z.getD j .none)=cz (f d)) :
  u8 fi js pt tT g Z=cz (.list (ds.map f)):=by
 unfold u8;rw[hf];show (if ds.length<=1000000 then _ else pz)=_;rw[aL hl,a4w f h];rfl
theorem y8(f:α->D)(h:∀x,imm (f x)=true):∀xs:List α,f8 (xs.map f)=true
 |[]=>by simp only[cY,f8]
 |x::xs=>by simp only[aA,f8,h x,y8 f h xs,eG]
end VS
namespace Prog
open PySem L2 VS
abbrev iD(ns:List Int):D:=.list (ns.map .int)
def k8(ns:List Int)(k:Int):Int:=
 if k<ns.length then ns.getD k.toNat 0 else ((if 0<ns.length then ns.getD (k % ns.length).toNat 0 % 2147483647 else 17)+k*k+1)*(48271+16807*k) % 2147483629
end Prog
namespace VS
open PySem L2
mutual
theorem eqv_refl:∀d:D,d.canLay0=true->aM d d=true
 |.none,_=>by simp[aM]
 |.bool b,_=>by simp[aM]
 |.int i,_=>by simp[aM]
 |.str x,_=>by simp[aM]
 |.list xs,h=>by
  simp only[cH]at h;simp only[aM];exact eqvAll_refl xs h
 |.tuple xs,h=>by
  simp only[cH]at h;simp only[aM];exact eqvAll_refl xs h
 |.dict _,h=>by simp[cH]at h
theorem eqvAll_refl:∀xs:List D,bM xs=true->cL xs xs=true
 |[],_=>by simp only[cL]
 |x::xs,h=>by
  simp only[bM,aC]at h;simp only[cL,aC];exact⟨eqv_refl x h.1,eqvAll_refl xs h.2⟩
end
def b5R{a b:D}(ha:a.canLay0=true)(hb:b.canLay0=true)(hd:a.depth<=60):dEq a b=cz (.bool (aM a b)):=by
 unfold dEq a6T;rw[ha,hb,aU hd];simp
def b5S{a b:D}(ha:a.canLay0=true)(hb:b.canLay0=true)(hd:a.depth<=60):dNe a b=cz (.bool (!aM a b)):=by
 unfold dNe a6T;rw[ha,hb,aU hd];simp
def b1T{a:D}(ha:a.canLay0=true)(hd:a.depth<=60):dEq a a=cz (.bool true):=by rw[b5R ha ha hd,eqv_refl a ha]
def b1U{a:D}(ha:a.canLay0=true)(hd:a.depth<=60):dNe a a=cz (.bool false):=by rw[b5S ha ha hd,eqv_refl a ha];rfl
theorem X4(f:α->D)(h:∀x,(f x).canLay0=true):∀xs:List α,bM (xs.map f)=true
 |[]=>by simp only[cY,bM]
 |x::xs=>by simp only[aA,bM,h x,X4 f h xs,eG]
theorem G6(f:α->D)(n:Nat)(h:∀x,(f x).depth<=n):∀xs:List α,cP (xs.map f)<=n
 |[]=>by simp only[cY,cP];exact cW _
 |x::xs=>by
  simp only[aA,cP];exact Nat.max_le.mpr ⟨h x,G6 f n h xs⟩
def b1q:(aX i).canLay0=true:=by simp only[cH]
def a7F:(aX i).depth=0:=by simp only[ef]
theorem a4x:∀(xs ys:List Int),cL (xs.map aX) (ys.map aX)=decide (xs=ys)
 |[],[]=>by simp[cL]
 |[],_::_=>by simp[cL]
 |_::_,[]=>by simp[cL]
 |x::xs,y::ys=>by
  have:aM (.int x) (.int y)=decide (x=y):=by
   show (x==y)=decide (x=y);exact gs x y
  simp only[aA,cL,this,a4x xs ys,fV];by_cases h1:x=y<;>by_cases h2:xs=ys<;>simp[h1,h2]
def b3O:Option D->Option D->Option D
 |some (.list ds),cz (.list es)=>if ds.length+es.length<=bh then cz (.list (ds++es)) else pz
 |_,_=>pz
def a4y{Z:List D}:O5 a b Z=b3O (a Z) (b Z):=by
 unfold O5;cases a Z with
 |none=>rfl
 |some x=>
  cases x with
  |list ds=>
   cases b Z with
   |none=>rfl
   |some y=>cases y<;>rfl
  |_=>cases b Z<;>rfl
def a1C{ds es:List D}(h:ds.length+es.length<=16777216):b3O (cz (.list ds)) (cz (.list es))=cz (.list (ds++es)):=by
 show (if ds.length+es.length<=bh then _ else _)=_;rw[aL (show ds.length+es.length<=bh from h)]
def lSl:Option D->Option (Option Int)->Option (Option Int)->Option D
 |some (.list ds),cz l,cz h=>cz (.list (cutD ds l h))
 |_,_,_=>pz
def b3P{Z:List D}:eSl a lo hi Z=lSl (a Z) (lo Z) (hi Z):=by
 unfold eSl;cases a Z with
 |none=>rfl
 |some x=>
  cases x with
  |list ds=>
   cases lo Z with
   |none=>rfl
   |some y=>cases hi Z<;>rfl
  |_=>cases lo Z<;>cases hi Z<;>rfl
def a9z:lSl (cz (.list ds)) (cz l) (cz h)=cz (.list (cutD ds l h)):=rfl
def b1V{Z:List D}:oNo Z=cz pz:=rfl
def lO:Option D->Option (Option Int)
 |some (.int i)=>cz (cz i)
 |_=>pz
def b1W{Z:List D}:oSo a Z=lO (a Z):=by
 unfold oSo;cases a Z with
 |none=>rfl
 |some x=>cases x<;>rfl
def b5T:lO (cz (.int i))=cz (cz i):=rfl
def a9A{ds:List D}{k:Int}(h0:0<=k)(h1:k<=ds.length):cutD ds pz (cz k)=ds.take k.toNat:=by
 unfold cutD HT.sIx
 dsimp only
 rw[aS (by lia),List.drop_zero,Nat.sub_zero,nq (by lia)]
def b3Q{ds:List D}{k:Int}(h0:0<=k)(h1:k<=ds.length):cutD ds (cz k) pz=ds.drop k.toNat:=by
 unfold cutD HT.sIx;simp only[aS (show ¬ k<0 by lia),nq (show k.toNat<=ds.length by lia)];exact i_ (by rw[fK];exact aG _)
def a9B{xs ys:List Int}(h:xs.length+ys.length<=16777216):b3O (cz (.list (xs.map .int))) (cz (.list (ys.map .int)))=cz (.list ((xs++ys).map .int)):=by
 rw[a1C (by simpa using h),bu]
def b1r{xs:List Int}:lIs (cz (.list (xs.map .int)))=cz (.list (xs.map .int)):=a6v (a0j _)
def b1s:aM (.int x) (.int y)=decide (x=y):=by
 show (x==y)=decide (x=y);exact gs x y
def at0{α:Type}{x:α}{xs:List α}:L2.atI (x::xs) 0=cz x:=by
 unfold L2.atI ixN;rw[aL (by decide),aL (by simp only[aO];lia)];rfl
def at1{α:Type}{x y:α}{xs:List α}:L2.atI (x::y::xs) 1=cz y:=by
 unfold L2.atI ixN;rw[aL (by decide),aL (by simp only[aO];lia)];rfl
def X5{enc:α->D}{set:List D->D->Option (List D)}{xs:List α}{Z:List D}(I:List α->List D->Prop)(h0:I [] Z)
  (step:∀pre x post,xs=pre++x::post->∀Z,I pre Z->∃Z1 Z2,set Z (enc x)=cz Z1/\g Z1=cz (.nx Z2)/\I (pre++[x]) Z2) :
  ∃Z',D9 set g (xs.map enc) Z=cz (.nx Z')/\I xs Z':=by
 have key:∀(post pre:List α) (Z:List D),xs=pre++post->I pre Z->∃Z',D9 set g (post.map enc) Z=cz (.nx Z')/\I xs Z':=by
  intro post
  induction post with
  |nil=>
   intro pre Z e h;rw[bg]at e;subst e;exact⟨Z,rfl,h⟩
  |cons x post ih=>
   intro pre Z e h;obtain⟨Z1,Z2,h1,h2,h3⟩:=step pre x post e Z h;obtain⟨Z',h4,h5⟩:=ih (pre++[x]) Z2 (by rw[e,aI];rfl) h3;refine⟨Z',?_,h5⟩;show (set Z (enc x)).bind _=_;rw[h1];show (g Z1).bind _=_;rw[h2];exact h4
 exact key xs [] Z rfl h0
def G7:B0 0 n=(aW n).map λ(k:Nat)=>aX k:=by
 unfold B0;refine dE λk _=>?_
 show aX (0+(k:Int))=.int k;rw[Int.zero_add]
def B7(h:aW n=pre++x::post):x=pre.length/\x<n/\pre=aW x:=by
 have hx:(aW n)[pre.length]?=cz x:=by rw[h];simp
 have gK:pre.length<n:=by have:=fE ir h;simp at this;lia
 rw[km gK]at hx;have e:x=pre.length:=(aK hx).symm;refine⟨e,by lia,?_⟩;have:=fE (List.take pre.length) h;rw[List.take_append_of_le_length (aG _),mh,List.take_range,nq (by lia)]at this;rw[e,this]
def C9{set:List D->D->Option (List D)}{Z:List D}(I:Nat->List D->Prop)(h0:I 0 Z)
  (step:∀k,k<n->∀Z,I k Z->∃Z1 Z2,set Z (.int k)=cz Z1/\g Z1=cz (.nx Z2)/\I (k+1) Z2) :
  ∃Z',D9 set g (B0 0 n) Z=cz (.nx Z')/\I n Z':=by
 rw[G7];obtain⟨Z',h1,h2⟩:=X5 (enc:=λ(k:Nat)=>aX k) (set:=set) (g:=g) (xs:=aW n) (Z:=Z) (λpre Z=>I pre.length Z) h0 λpre x post e Z h=>by
  obtain⟨e1,e2,_⟩:=B7 e;subst e1;obtain⟨Z1,Z2,a,b,c⟩:=step pre.length e2 Z h;exact⟨Z1,Z2,a,b,by rw[az];exact c⟩
 rw[cQ]at h2;exact⟨Z',h1,h2⟩
def big:Int:=10^60
def b3R:1000<big:=by decide
abbrev k6:=List (List (Int×Int))
def stD(p:Int×Int):D:=.tuple [.int p.1,.int p.2]
def rwD(r:List (Int×Int)):D:=.list (r.map stD)
def rowAt(m:k6)(s:Int):List (Int×Int):=m.getD s.toNat []
def stp(m:k6)(s a:Int):Int×Int:=(rowAt m s).getD a.toNat (0,0)
structure WF (m:k6) (k:Nat):Prop where
 pos:0<m.length
 le:m.length<=30
 k1:1<=k
 k5:k<=5
 rows:∀r∈m,r.length=k
 next:∀r∈m,∀p∈r,0<=p.2/\p.2<(m.length:Int)
def N7{m:k6}{s:Int}(h0:0<=s)(h1:s<m.length):rowAt m s∈m:=by
 unfold rowAt;rw[ai,ah (by lia)];exact cF _
def WF.row{m:k6}{k:Nat}(w:WF m k){s:Int}(h0:0<=s)(h1:s<m.length):(rowAt m s).length=k:=w.rows _ (N7 h0 h1)
def a3p{m:k6}{k:Nat}(w:WF m k){s a:Int}(h0:0<=s)(h1:s<m.length)(h2:0<=a)(h3:a<k):stp m s a∈rowAt m s:=by
 have:=w.row h0 h1;unfold stp;rw[ai,ah (by lia)];exact cF _
def WF.nx{m:k6}{k:Nat}(w:WF m k){s a:Int}(h0:0<=s)(h1:s<m.length)(h2:0<=a)(h3:a<k):0<=(stp m s a).2/\(stp m s a).2<(m.length:Int):=w.next _ (N7 h0 h1) _ (a3p w h0 h1 h2 h3)
def B8{m:k6}{s:Int}(h0:0<=s)(h1:s<m.length):L2.atI (m.map rwD) s=cz (rwD (rowAt m s)):=by
 rw[a3e h0 (by rw[ao];exact h1),dO];unfold rowAt;rw[ai,ah (by lia)];rfl
def L8{r:List (Int×Int)}{a:Int}(h0:0<=a)(h1:a<r.length):dIx (rwD r) (.int a)=cz (stD (r.getD a.toNat (0,0))):=by
 show L2.atI (r.map stD) a=_;rw[a3e h0 (by rw[ao];exact h1),dO,ai,ah (by lia)];rfl
def b5U{r:List (Int×Int)}{a:Int}(h0:0<=a)(h1:a<r.length):s9 (rwD r) (.int a)=cz (stD (r.getD a.toNat (0,0))):=L8 h0 h1
def b5V:dIx (stD p) (.int 0)=cz (.int p.1):=rfl
def b5W:dIx (stD p) (.int 1)=cz (.int p.2):=rfl
def a3q:imm (stD p)=true:=by unfold stD;simp only[imm,f8,eG]
def b3S:a2Z (stD p)=cz (stD p):=a8G a3q
def b1t:a2Z (.int i)=cz (.int i):=a8G a6k
def b5X:l8 [rwD r]=cz (.int r.length):=by
 show cz (aX ((r.map stD).length:Nat))=_;rw[ao]
def b1u{Z:List D}:a8E i j (cz (stD p)) Z=cz (.nx ((Z.set i (.int p.1)).set j (.int p.2))):=rfl
def b3T(p:Int×Int):(stD p).canLay0=true:=by unfold stD;simp[cH,bM]
def b3U(r:List (Int×Int)):(rwD r).canLay0=true:=by unfold rwD;simp only[cH];exact X4 _ b3T r
def a4z(m:k6):(lE (m.map rwD)).canLay0=true:=by simp only[cH];exact X4 _ b3U m
def a9C(p:Int×Int):(stD p).depth<=1:=by unfold stD;simp[ef,cP]
def a4A(r:List (Int×Int)):(rwD r).depth<=2:=by
 unfold rwD;simp only[ef];have:=G6 stD 1 a9C r;lia
def i8(m:k6):Int->List Int->List Int×Int
 |s,[]=>([],s)
 |s,a::p=>((stp m s a).1::(i8 m (stp m s a).2 p).1,(i8 m (stp m s a).2 p).2)
theorem a2F(m:k6):∀(p q:List Int) (s:Int),i8 m s (p++q)=((i8 m s p).1++(i8 m (i8 m s p).2 q).1,(i8 m (i8 m s p).2 q).2)
 |[],q,s=>rfl
 |a::p,q,s=>by
  show ((stp m s a).1::(i8 m (stp m s a).2 (p++q)).1,(i8 m (stp m s a).2 (p++q)).2)=_;rw[a2F m p q];rfl
theorem Z7{m:k6}{k:Nat}(w:WF m k):∀(p:List Int) (s:Int),0<=s->s<m.length->(∀a∈p,0<=a/\a<(k:Int))->0<=(i8 m s p).2/\(i8 m s p).2<(m.length:Int)
 |[],s,h0,h1,_=>⟨h0,h1⟩
 |a::p,s,h0,h1,h=>by
  have ha:=h a aD;have hn:=w.nx h0 h1 ha.1 ha.2;exact Z7 w p _ hn.1 hn.2 λb hb=>h b (av _ hb)
def a1D(m:k6)(p:List Int)(a s:Int):i8 m s (p++[a])=((i8 m s p).1++[(stp m (i8 m s p).2 a).1],(stp m (i8 m s p).2 a).2):=by
 rw[a2F];rfl
section
variable {i:Nat}{t u2:Ty}{Z ds es:List D}{e d:D}{fe fj fa:EvE}{j a:Int}
def a3r{n:Nat}(h0:0<=j)(h1:j<n):ixN n j=cz j.toNat:=by
 unfold ixN;rw[aL h0,aL h1]
def b7m(h:Z.getD i .none=.list ds)(hf:fe Z=cz d)(ha:fa Z=cz (.int a))(a0:0<=a)(a1:a<ds.length)(he:ds[a.toNat]?=cz (.list es))(hj:fj Z=cz (.int j))(h0:0<=j)(h1:j<es.length) :
  a7a i (.l (.l t)) (pIx i (.l (.l t)) i7 fa) fj fe Z=cz (.nx (Z.set i (.list (ds.set a.toNat (.list (es.set j.toNat d)))))):=by
 unfold a7a pIx i7;rw[hf,h];show (((cz []).bind λp=>(F9 (.l (.l t)) (.list ds) p).bind λiF=>(fa Z).bind λy=>(asI y).bind λk=>(ixN iF.length k).bind λj=>cz (p++[j])).bind _)=_;show (((fa Z).bind λy=>(asI y).bind λk=>(ixN ds.length k).bind λj=>cz ([]++[j])).bind _)=_;rw[ha];show (((ixN ds.length a).bind λj=>cz ([]++[j])).bind _)=_;rw[a3r a0 a1];show (F9 (.l (.l t)) (.list ds) [a.toNat]).bind _=_;have hi:F9 (.l (.l t)) (.list ds) [a.toNat]=cz es:=by
  unfold F9 dAt;rw[he];rfl
 rw[hi];show (fj Z).bind _=_;rw[hj];show (ixN es.length j).bind _=_;rw[a3r h0 h1];show cz (Out.nx (Z.set i (Y5 (.list ds) [a.toNat] (.list (es.set j.toNat d)))))=_;rfl
end
def b3V:a9x (cz (rwD r))=cz (rwD r):=rfl
def a9D:lIs (cz (rwD r))=cz (rwD r):=a6v (y8 _ (λ_=>a3q) r)
def a9E{m:k6}{Z:List D}(h:a Z=cz (.list (m.map rwD)))(hl:m.length<=1000):u8 (iL a) [] pt1 tT (eI (a1c (a5 0))) Z=cz (.list (m.map rwD)):=by
 rw[b3N (ds:=m.map rwD) id]
 ·rw[List.map_id]
 ·rw[b5N,h];rfl
 ·rw[ao];lia
 ·intro d hd;obtain⟨r,_,rfl⟩:=bj.mp hd;refine⟨_,rfl,?_⟩;show eI (a1c (a5 0)) [rwD r]=cz (rwD r);rw[a0r,a6w];show lIs (a9x (cz (rwD r)))=_;rw[b3V,a9D]
def a5F(m:k6)(s a:Nat)(v:Int×Int):k6:=m.set s ((m.getD s []).set a v)
def b1v(w:WF m k){v:Int×Int}(hs:s<m.length)(h0:0<=v.2)(h1:v.2<(m.length:Int)):WF (a5F m s a v) k:=by
 have hl:(a5F m s a v).length=m.length:=by unfold a5F;rw[jl]
 have jI:m.getD s []∈m:=by rw[ai,ah hs];exact cF _
 refine⟨by rw[hl];exact w.pos,by rw[hl];exact w.le,w.k1,w.k5,λr hr=>?_,λr hr p hp=>?_⟩
 ·rcases il hr with z|z
  ·exact w.rows r z
  ·rw[z,jl];exact w.rows _ jI
 ·rw[hl];rcases il hr with z|z
  ·exact w.next r z p hp
  ·rw[z]at hp;rcases il hp with y|y
   ·exact w.next _ jI p y
   ·rw[y];exact⟨h0,h1⟩
def a9F{m:k6}:(m.map rwD).set s (.list (((m.getD s []).map stD).set a (stD v)))=(a5F m s a v).map rwD:=by
 unfold a5F;rw[List.map_set,<-List.map_set];rfl
def b1w{m:k6}(hs:s<m.length):(m.map rwD)[s]?=cz (.list ((m.getD s []).map stD)):=by
 rw[bE,ai,ah hs];rfl
end VS
namespace Prog
open PySem L2 VS
def top(i:Nat):fH:=PySem.Challenge.pw_probewell_k20_whole_compare.main.body.getD i (.Pass ⟨0,0,0,0⟩)
def Lx:List br:=["Unfit"]
structure Bn (K:ae) (mg:br->Option ag):Prop where
 d0:DP K mg "_law_cell" (top 23)
 d1:DP K mg "_law_menu" (top 24)
 d2:DP K mg "_law_machine" (top 25)
 d3:DP K mg "_law_changed" (top 27)
 d4:DP K mg "pairs_behind" (top 20)
 d5:DP K mg "ways_from" (top 15)
 d6:DP K mg "asks_of" (top 17)
 d7:DP K mg "unlike_asks" (top 21)
 d8:DP K mg "compare" (top 19)
 d9:DP K mg "_law_other" (top 26)
 d10:DP K mg "_law_pairs" (top 28)
 d11:DP K mg "_law_parted_within" (top 29)
 d12:DP K mg "_law_first" (top 30)
 d13:DP K mg "_law_told" (top 31)
 d14:DP K mg "_law_unfit" (top 32)
 d15:DP K mg "law" (top 33)
 ValueError_:mg "ValueError"=pz
 bool_:mg "bool"=pz
 enumerate_:mg "enumerate"=pz
 int_:mg "int"=pz
 isinstance_:mg "isinstance"=pz
 len_:mg "len"=pz
 list_:mg "list"=pz
 min_:mg "min"=pz
 range_:mg "range"=pz
 sorted_:mg "sorted"=pz
 tuple_:mg "tuple"=pz
 zip_:mg "zip"=pz
 r_Unfit:∃C,b1j K "Unfit" C
 pe:∃C,bO K aY "ProbeError"=cz (cz (.ref C))/\Lx.all (a1y K C)=true
 i_Ended:∃C,mg "Ended"=cz (.ref C)/\ExcN K (.ref C) Lx (λn=>n=="Ended")
 i_NoAnswers:∃C,mg "NoAnswers"=cz (.ref C)/\ExcN K (.ref C) Lx (λn=>n=="NoAnswers")
 i_NoMachine:∃C,mg "NoMachine"=cz (.ref C)/\ExcN K (.ref C) Lx (λn=>n=="NoMachine")
 i_NoName:∃C,mg "NoName"=cz (.ref C)/\ExcN K (.ref C) Lx (λn=>n=="NoName")
 i_NoProbe:∃C,mg "NoProbe"=cz (.ref C)/\ExcN K (.ref C) Lx (λn=>n=="NoProbe")
 i_NoRow:∃C,mg "NoRow"=cz (.ref C)/\ExcN K (.ref C) Lx (λn=>n=="NoRow")
 i_NoSize:∃C,mg "NoSize"=cz (.ref C)/\ExcN K (.ref C) Lx (λn=>n=="NoSize")
 i_NoState:∃C,mg "NoState"=cz (.ref C)/\ExcN K (.ref C) Lx (λn=>n=="NoState")
 i_NoText:∃C,mg "NoText"=cz (.ref C)/\ExcN K (.ref C) Lx (λn=>n=="NoText")
 i_TooMuch:∃C,mg "TooMuch"=cz (.ref C)/\ExcN K (.ref C) Lx (λn=>n=="TooMuch")
 i_Unfit:∃C,mg "Unfit"=cz (.ref C)/\ExcN K (.ref C) Lx (λn=>n=="Unfit")
 i_Unsteady:∃C,mg "Unsteady"=cz (.ref C)/\ExcN K (.ref C) Lx (λn=>n=="Unsteady")
 i_ValueError:ExcN K (.type "ValueError") Lx (λ_=>true)
structure Bk (P:bo) (w:bJ) (K:ae) (mg:br->Option ag) (base:b_):Prop extends Bn K mg
variable {P:bo}{w:bJ}{K:ae}{mg:br->Option ag}{base:b_}
abbrev HB(_:Bk P w K mg base):=Has P w K mg base
abbrev HR(_:Bk P w K mg base):=HasR P w K mg base
def b5Y:(["step","against"]:List br).Nodup:=by decide +kernel
def b7n:(["ask","row","beside"]:List br).Nodup:=by decide +kernel
def b7o:(["_law_s"]:List br).Nodup:=by decide +kernel
def b7p:(["_law_t","_law_kinds","_law_there"]:List br).Nodup:=by decide +kernel
def b1x:(["_law_row"]:List br).Nodup:=by decide +kernel
def b_law_cell:EvS:=(c6 (sIf (tB (e2 dLt (a5 1) (eCl l8 (a6 (a5 0) b9)))) (k7 (e2 a8 (a5 0) (a5 1))) i6) (c6 (e7 2 (eC (.int 17))) (c6 (sIf (tB (e2 dGt (eCl l8 (a6 (a5 0) b9)) (eC (.int 0)))) (e7 2 (e2 p8 (e2 a8 (a5 0) (e2 p8 (a5 1) (eCl l8 (a6 (a5 0) b9)))) (eC (.int 2147483647)))) i6) (k7 (e2 p8 (e2 M9 (e2 r9 (e2 r9 (a5 2) (e2 M9 (a5 1) (a5 1))) (eC (.int 1))) (e2 r9 (eC (.int 48271)) (e2 M9 (eC (.int 16807)) (a5 1)))) (eC (.int 2147483629)))))))
def m_law_cell:=fnD [.f,.i] 1 b_law_cell
abbrev D0(B:Bk P w K mg base)(k:Nat):=HB B "_law_cell" k ["_law_script","_law_k"] (spD K 2 m_law_cell .i)
def ok_law_cell(B:Bk P w K mg base):D0 B 1:=
 C7 B.d0 λ_ _ F=>fnF F ["_law_script","_law_k","_law_seed"] λsc _ _ _ _ _ _ _=>by exact b8 (q8 (M':=[mdF,mdI,mdD]) (m7 a8k (c8 1) (o7 B.len_ (c7 0))) (f9 (l5 (b7 (i9 (c7 0) (c8 1))))) m6) (b8 (i5 2 (t:=.i) sc.nd (b7 a7)) (b8 (q8 (M':=[mdF,mdI,mdI]) (m7 b1P (o7 B.len_ (c7 0)) a7) (f9 (i5 2 (t:=.i) sc.nd (b7 (i4 o6 (i9 (c7 0) (i4 o6 (c8 1) (o7 B.len_ (c7 0)))) a7)))) m6) (f9 (l5 (b7 (i4 o6 (i4 Q4 (i4 v9 (i4 v9 (c8 2) (i4 Q4 (c8 1) (c8 1))) a7) (i4 v9 a7 (i4 Q4 a7 (c8 1)))) a7))))))
def b_law_menu:EvS:=(c6 (e7 1 (e2 A7 (e2 a8h (eC (.int 10)) (eC (.int 60))) (eC (.int 1)))) (c6 (e7 2 (e2 p8 (eCl m_law_cell (a6 (a5 0) (a6 (eC (.int 4)) b9))) (eC (.int 3)))) (c6 (sIf (tB (e2 dEq (a5 2) (eC (.int 0)))) (k7 (u7 (a6 (eC (.int 0)) (a6 (eC (.int 1)) b9)))) i6) (c6 (sIf (tAn (tB (e2 dEq (a5 2) (eC (.int 1)))) (tB (e2 dEq (e2 p8 (eCl m_law_cell (a6 (a5 0) (a6 (eC (.int 6)) b9))) (eC (.int 3))) (eC (.int 0))))) (k7 (u7 (a6 (eC (.int 1)) (a6 (eC (.int 11)) (a6 (eC (.int 111)) b9))))) i6) (c6 (sIf (tB (e2 dEq (a5 2) (eC (.int 1)))) (k7 (u7 (a6 (e2 A7 (e2 p8 (eCl m_law_cell (a6 (a5 0) (a6 (eC (.int 5)) b9))) (eC (.int 7))) (eC (.int 3))) (a6 (e2 A7 (e2 p8 (eCl m_law_cell (a6 (a5 0) (a6 (eC (.int 6)) b9))) (eC (.int 7))) (eC (.int 3))) (a6 (eC (.int 0)) b9))))) i6) (k7 (u7 (a6 (a5 1) (a6 (e2 A7 (eC (.int 0)) (a5 1)) (a6 (e2 A7 (e2 p8 (eCl m_law_cell (a6 (a5 0) (a6 (eC (.int 5)) b9))) (e2 r9 (e2 M9 (eC (.int 2)) (a5 1)) (eC (.int 1)))) (a5 1)) b9))))))))))
def m_law_menu:=fnD [.f] 2 b_law_menu
abbrev a1E(B:Bk P w K mg base)(k:Nat):=HB B "_law_menu" k ["_law_script"] (spD K 1 m_law_menu (.l .i))
def ok_law_menu(B:Bk P w K mg base)(bB:D0 B 1):a1E B 2:=
 C7 B.d1 λ_ _ F=>fnF F ["_law_script","_law_far","_law_way"] λsc _ _ _ _ _ _ hr=>by exact b8 (i5 1 (t:=.i) sc.nd (b7 (i4 C1 (i4 a8j a7 a7) a7))) (b8 (i5 2 (t:=.i) sc.nd (b7 (i4 o6 (m9 bB hr (a9 (c7 0) (a9 a7 g9))) a7))) (b8 (q8 (M':=[mdF,mdI,mdI]) (m7 w6 (c8 2) a7) (f9 (l5 (b7 (u9 (n:=2) (u:=.i) (c9 (u:=.i) a7 (c9 (u:=.i) a7 j6)))))) m6) (b8 (q8 (M':=[mdF,mdI,mdI]) (PWX.pt (a5X (m7 w6 (c8 2) a7) (a3J (m7 w6 (i4 o6 (m9 bB hr (a9 (c7 0) (a9 a7 g9))) a7) a7)))) (f9 (l5 (b7 (u9 (n:=3) (u:=.i) (c9 (u:=.i) a7 (c9 (u:=.i) a7 (c9 (u:=.i) a7 j6))))))) m6) (b8 (q8 (M':=[mdF,mdI,mdI]) (m7 w6 (c8 2) a7) (f9 (l5 (b7 (u9 (n:=3) (u:=.i) (c9 (u:=.i) (i4 C1 (i4 o6 (m9 bB hr (a9 (c7 0) (a9 a7 g9))) a7) a7) (c9 (u:=.i) (i4 C1 (i4 o6 (m9 bB hr (a9 (c7 0) (a9 a7 g9))) a7) a7) (c9 (u:=.i) a7 j6))))))) m6) (f9 (l5 (b7 (u9 (n:=3) (u:=.i) (c9 (u:=.i) (PX.newi (c8 1)) (c9 (u:=.i) (i4 C1 a7 (c8 1)) (c9 (u:=.i) (i4 C1 (i4 o6 (m9 bB hr (a9 (c7 0) (a9 a7 g9))) (i4 v9 (i4 Q4 a7 (c8 1)) a7)) (c8 1)) j6)))))))))))
def b_law_machine:EvS:=(c6 (e7 1 (e2 r9 (eC (.int 1)) (e2 p8 (eCl m_law_cell (a6 (a5 0) (a6 (eC (.int 0)) b9))) (eC (.int 5))))) (c6 (sIf (tB (e2 dEq (e2 p8 (eCl m_law_cell (a6 (a5 0) (a6 (eC (.int 3)) b9))) (eC (.int 8))) (eC (.int 7)))) (e7 1 (e2 r9 (eC (.int 1)) (e2 p8 (eCl m_law_cell (a6 (a5 0) (a6 (eC (.int 0)) b9))) (eC (.int 12))))) i6) (c6 (e7 2 (e2 r9 (eC (.int 1)) (e2 p8 (eCl m_law_cell (a6 (a5 0) (a6 (eC (.int 1)) b9))) (eC (.int 3))))) (c6 (sIf (tB (e2 dEq (e2 p8 (e2 U7 (eCl m_law_cell (a6 (a5 0) (a6 (eC (.int 3)) b9))) (eC (.int 8))) (eC (.int 8))) (eC (.int 7)))) (e7 2 (e2 r9 (eC (.int 1)) (e2 p8 (eCl m_law_cell (a6 (a5 0) (a6 (eC (.int 1)) b9))) (eC (.int 5))))) i6) (c6 (e7 3 (e2 dEq (e2 p8 (e2 U7 (eCl m_law_cell (a6 (a5 0) (a6 (eC (.int 3)) b9))) (eC (.int 64))) (eC (.int 2))) (eC (.int 1)))) (c6 (e7 4 (eCl m_law_menu (a6 (a5 0) b9))) (c6 (e7 5 (u7 b9)) (c6 (r8 (iR (a5 1)) (n9 6) (c6 (e7 7 (u7 b9)) (c6 (r8 (iR (a5 2)) (n9 8) (c6 (e7 9 (eCl m_law_cell (a6 (a5 0) (a6 (e2 r9 (e2 r9 (eC (.int 12)) (e2 M9 (a5 6) (a5 2))) (a5 8)) b9)))) (c6 (e7 10 (e2 s9 (a5 4) (e2 p8 (a5 9) (eCl l8 (a6 (a5 4) b9))))) (c6 (sIf (tV (a5 3)) (e7 10 (e2 s9 (a5 4) (eCl L4 (a6 (a0z (e2 dEq (a5 6) (e2 A7 (a5 1) (eC (.int 1)))) (e2 dEq (a5 8) (e2 A7 (a5 2) (eC (.int 1))))) b9)))) i6) (c6 (e7 11 (e2 p8 (e2 U7 (a5 9) (eC (.int 6))) (a5 1))) (c6 (sIf (tAn (tV (a5 3)) (tB (e2 dGt (e2 p8 (e2 U7 (a5 9) (eC (.int 2))) (eC (.int 3))) (eC (.int 0))))) (e7 11 (e2 p8 (e2 r9 (a5 6) (eC (.int 1))) (a5 1))) i6) (n6 7 (.l .i) i7 (n8 (a6 (a5 10) (a6 (a5 11) b9)))))))))) (n6 5 (.l (.l .i)) i7 (a5 7))))) (k7 (a5 5))))))))))
def m_law_machine:=fnD [.f] 11 b_law_machine
abbrev U0(B:Bk P w K mg base)(k:Nat):=HB B "_law_machine" k ["_law_script"] (spD K 1 m_law_machine (.l (.l .i)))
def ok_law_machine(B:Bk P w K mg base)(bB:D0 B 2)(iz:a1E B 2):U0 B 3:=
 C7 B.d2 λ_ _ F=>fnF F ["_law_script","_law_many","_law_asks","_law_few","_law_menu_here","_law_rows","_law_s","_law_row","_law_a","_law_cell_here","_law_answer","_law_there"] λsc _ _ _ _ _ _ hr=>by exact b8 (i5 1 (t:=.i) sc.nd (b7 (i4 v9 a7 (i4 o6 (m9 bB hr (a9 (c7 0) (a9 a7 g9))) a7)))) (b8 (q8 (M':=[mdF,mdI,mdD,mdD,mdD,mdD,mdD,mdD,mdD,mdD,mdD,mdD]) (m7 w6 (i4 o6 (m9 bB hr (a9 (c7 0) (a9 a7 g9))) a7) a7) (f9 (i5 1 (t:=.i) sc.nd (b7 (i4 v9 a7 (i4 o6 (m9 bB hr (a9 (c7 0) (a9 a7 g9))) a7))))) m6) (b8 (i5 2 (t:=.i) sc.nd (b7 (i4 v9 a7 (i4 o6 (m9 bB hr (a9 (c7 0) (a9 a7 g9))) a7)))) (b8 (q8 (M':=[mdF,mdI,mdI,mdD,mdD,mdD,mdD,mdD,mdD,mdD,mdD,mdD]) (m7 w6 (i4 o6 (i4 a0U (m9 bB hr (a9 (c7 0) (a9 a7 g9))) a7) a7) a7) (f9 (i5 2 (t:=.i) sc.nd (b7 (i4 v9 a7 (i4 o6 (m9 bB hr (a9 (c7 0) (a9 a7 g9))) a7))))) m6) (b8 (i5 3 (t:=.i) sc.nd (b7 (U8 w6 (i4 o6 (i4 a0U (m9 bB hr (a9 (c7 0) (a9 a7 g9))) a7) a7) a7))) (b8 (i5 4 (t:=(.l .i)) sc.nd (b7 (m9 iz hr (a9 (c7 0) g9)))) (b8 (i5 5 (t:=(.l (.l .i))) sc.nd (b7 (u9 (n:=0) (u:=(.l .i)) j6))) (b8 (C3 (M:=[mdF,mdI,mdI,mdI,mdL,K7,mdD,mdD,mdD,mdD,mdD,mdD]) (MB:=[mdF,mdI,mdI,mdI,mdL,K7,mdI,mdD,mdD,mdD,mdD,mdD]) rfl cg (t9 B.range_ (c8 1)) (y7 6 sc.nd) E8 a1U (PSsX.weak (M2:=[mdF,mdI,mdI,mdI,mdL,K7,mdI,mdD,mdD,mdD,mdD,mdD]) (b8 (i5 7 (t:=(.l .i)) sc.nd (b7 (u9 (n:=0) (u:=.i) j6))) (b8 (C3 (M:=[mdF,mdI,mdI,mdI,mdL,K7,mdI,mdL,mdD,mdD,mdD,mdD]) (MB:=[mdF,mdI,mdI,mdI,mdL,K7,mdI,mdL,mdI,mdD,mdD,mdD]) rfl cg (t9 B.range_ (c8 2)) (y7 8 sc.nd) E8 a1U (PSsX.weak (M2:=[mdF,mdI,mdI,mdI,mdL,K7,mdI,mdL,mdI,mdI,mdI,mdI]) (b8 (i5 9 (t:=.i) sc.nd (b7 (m9 bB hr (a9 (c7 0) (a9 (i4 v9 (i4 v9 a7 (i4 Q4 (c8 6) (c8 2))) (c8 8)) g9))))) (b8 (i5 10 (t:=.i) sc.nd (b7 (PX.newi (x9 (B6 4) (i4 o6 (c8 9) (o7 B.len_ (B6 4))))))) (b8 (q8 (M':=[mdF,mdI,mdI,mdI,mdL,K7,mdI,mdL,mdI,mdI,mdI,mdD]) (m8 (c8 3)) (f9 (i5 10 (t:=.i) sc.nd (b7 (PX.newi (x9 (B6 4) (a8t a8u B.int_ PyProof.Rows.Boot.«int» (a9 (a0X (U8 w6 (c8 6) (i4 C1 (c8 1) a7)) (a0W (U8 w6 (c8 8) (i4 C1 (c8 2) a7)))) g9))))))) m6) (b8 (i5 11 (t:=.i) sc.nd (b7 (i4 o6 (i4 a0U (c8 9) a7) (c8 1)))) (b8 (q8 (M':=[mdF,mdI,mdI,mdI,mdL,K7,mdI,mdL,mdI,mdI,mdI,mdI]) (PWX.pt (a5X (m8 (c8 3)) (a3J (m7 b1P (i4 o6 (i4 a0U (c8 9) a7) a7) a7)))) (f9 (i5 11 (t:=.i) sc.nd (b7 (i4 o6 (i4 v9 (c8 6) a7) (c8 1))))) m6) (f9 (J7 7 (u:=(.l .i)) (t:=.i) (z8 7 (u:=(.l .i))) (b7 (z7 (n:=2) (c9 (u:=.i) (PX.newi (c8 10)) (c9 (u:=.i) (PX.newi (c8 11)) j6)))) W8))))))) o8 ((((l7 8).trans (l7 9)).trans (l7 10)).trans (l7 11)))) (f9 (J7 5 (u:=(.l (.l .i))) (t:=(.l .i)) (z8 5 (u:=(.l (.l .i)))) (K8 7 (u:=(.l .i))) W8)))) o8 (l7 6))) (f9 (l5 (K8 5 (u:=(.l (.l .i)))))))))))))
def b_law_changed:EvS:=(c6 (e7 2 (e2 p8 (eCl m_law_cell (a6 (a5 0) (a6 (eC (.int 9)) b9))) (eCl l8 (a6 (a5 1) b9)))) (c6 (e7 3 (e2 p8 (eCl m_law_cell (a6 (a5 0) (a6 (eC (.int 10)) b9))) (eCl l8 (a6 (e2 s9 (a5 1) (eC (.int 0))) b9)))) (c6 (J6 4 5 (e2 s9 (e2 s9 (a5 1) (a5 2)) (a5 3))) (c6 (e7 6 (e2 p8 (eCl m_law_cell (a6 (a5 0) (a6 (eC (.int 8)) b9))) (eC (.int 4)))) (c6 (sIf (tB (e2 dEq (a5 6) (eC (.int 1)))) (a7a 1 (.l (.l .i)) (pIx 1 (.l (.l .i)) i7 (a5 2)) (a5 3) (n8 (a6 (e2 A7 (e2 r9 (a5 4) (eC (.int 1))) (e2 M9 (eC (.int 2)) (eCl L4 (a6 (e2 dEq (a5 4) (e2 A7 (e2 a8h (eC (.int 10)) (eC (.int 60))) (eC (.int 1)))) b9)))) (a6 (a5 5) b9)))) i6) (c6 (sIf (tB (e2 dEq (a5 6) (eC (.int 2)))) (a7a 1 (.l (.l .i)) (pIx 1 (.l (.l .i)) i7 (a5 2)) (a5 3) (n8 (a6 (a5 4) (a6 (e2 p8 (eCl m_law_cell (a6 (a5 0) (a6 (eC (.int 11)) b9))) (eCl l8 (a6 (a5 1) b9))) b9)))) i6) (k7 (a5 1))))))))
def m_law_changed:=fnO 5 b_law_changed
abbrev U1(B:Bk P w K mg base)(k:Nat):=HB B "_law_changed" k ["_law_script","_law_rows"] (spO K m_law_changed (.l (.l .i)) (.l (.l .i)))
def ok_law_changed(B:Bk P w K mg base)(bB:D0 B 1):U1 B 2:=
 C7 B.d3 λ_ _ F=>b6V F ["_law_script","_law_rows","_law_s","_law_a","_law_answer","_law_there","_law_way"] λsc _ _ _ _ _ _ hr=>by exact b8 (i5 2 (t:=.i) sc.nd (b7 (i4 o6 (m9 bB hr (a9 (c7 0) (a9 a7 g9))) (o7 B.len_ (o9 1 (u:=(.l (.l .i)))))))) (b8 (i5 3 (t:=.i) sc.nd (b7 (i4 o6 (m9 bB hr (a9 (c7 0) (a9 a7 g9))) (o7 B.len_ (x9 (o9 1 (u:=(.l (.l .i)))) a7))))) (b8 (a3b 4 5 (t:=.i) (u1:=.i) (u2:=.i) sc.nd rfl (b7 (PX.newi (x9 (x9 (o9 1 (u:=(.l (.l .i)))) (c8 2)) (c8 3)))) (.inr (.inl ⟨rfl,rfl,rfl⟩)) (hg1:=u6 (y7 4 sc.nd) (u6 (y7 5 sc.nd) N9))) (b8 (i5 6 (t:=.i) sc.nd (b7 (i4 o6 (m9 bB hr (a9 (c7 0) (a9 a7 g9))) a7))) (b8 (q8 (M':=[mdF,K7,mdI,mdI,mdI,mdI,mdI]) (m7 w6 (c8 6) a7) (f9 (a8B 1 (u:=(.l (.l .i))) (t:=.i) (Y6 (u:=(.l (.l .i))) (z8 1 (u:=(.l (.l .i)))) (c8 2)) (c8 3) (b7 (z7 (n:=2) (c9 (u:=.i) (i4 C1 (i4 v9 (c8 4) a7) (i4 Q4 a7 (a8t a8u B.int_ PyProof.Rows.Boot.«int» (a9 (U8 w6 (c8 4) (i4 C1 (i4 a8j a7 a7) a7)) g9)))) (c9 (u:=.i) (PX.newi (c8 5)) j6)))) a6e)) m6) (b8 (q8 (M':=[mdF,K7,mdI,mdI,mdI,mdI,mdI]) (m7 w6 (c8 6) a7) (f9 (a8B 1 (u:=(.l (.l .i))) (t:=.i) (Y6 (u:=(.l (.l .i))) (z8 1 (u:=(.l (.l .i)))) (c8 2)) (c8 3) (b7 (z7 (n:=2) (c9 (u:=.i) (PX.newi (c8 4)) (c9 (u:=.i) (i4 o6 (m9 bB hr (a9 (c7 0) (a9 a7 g9))) (o7 B.len_ (o9 1 (u:=(.l (.l .i)))))) j6)))) a6e)) m6) (f9 (l5 (K8 1 (u:=(.l (.l .i)))))))))))
def R9:EvS:=(k7 (u8 (iI (iZ (a5 0) (a5 1))) [] pt2 tT (n8 (a6 (e2 a8 (a5 0) (eC (.int 1))) (a6 (e2 a8 (a5 1) (eC (.int 1))) b9)))))
def t6:=fnD [.f,.f] 0 R9
abbrev K3(B:Bk P w K mg base)(k:Nat):=HB B "pairs_behind" k ["row","beside"] (spD K 2 t6 (.l .i))
def a0E(B:Bk P w K mg base):K3 B 1:=
 C7 B.d4 λ_ _ F=>fnF F ["row","beside"] λ_ _ _ _ _ _ _ _=>by exact f9 (l5 (b7 (a9l rfl (tn:=["step","against"]) (ys:=[]) (js:=[]) (m:=.i) (PIZ.i (piz B.zip_ (PX.newf (c7 0)) (PX.newf (c7 1)))) rfl (λ_ _ _ _ _=>a2P rfl (u6 (y9 (i:=0) b5Y rfl (cX rfl) (.inr rfl)) (u6 (y9 (i:=1) b5Y rfl (cX rfl) (.inr rfl)) N9))) b0C (.inl rfl) b4T rfl (λ_ _ _ _ _=>T2) (λ_ _ _ _ _=>(z7 (n:=2) (c9 (u:=.i) (i9 (c8 0) a7) (c9 (u:=.i) (i9 (c8 1) a7) j6)))))))
def a0s:(List D->Option D)->EvS:=λgm=>(c6 (e7 2 (eD1 true (a5 0) (u7 b9))) (c6 (e7 3 (u7 (a6 (a5 0) b9))) (c6 (sWh (λ_=>1000000) (tV (a5 3)) (c6 (e7 4 (u7 b9)) (c6 (r8 (iI (iL (a5 3))) (n9 5) (r8 (iI (iEn (eCl gm (a6 (a5 5) b9)))) (T6 6 7) (sIf (tB (e2 (dIn true true) (a5 7) (a5 2))) (c6 (p5 2 true (a5 7) (eI (O5 (e2 (a3f true) (a5 2) (a5 5)) (u7 (a6 (a5 6) b9))))) (n6 4 (.l .i) i7 (a5 7))) i6))) (e7 3 (a5 4))))) (k7 (a5 2)))))
def E4:=fnL [.i] 6 a0s
abbrev S5(B:Bk P w K mg base)(k:Nat):=HB B "ways_from" k ["start","led_to"] (spL K 1 (λgm=>FnV P w K mg base 2 1 (.l .i) gm) E4 (.d true (.l .i)))
def a3s(B:Bk P w K mg base):S5 B 3:=
 C7 B.d5 λ_ _ F=>b6W F ["start","led_to","found","newest","newer","place","ask","after"] λsc gm _ _ _ _ _ _ hr=>by exact b8 (i5 2 (t:=(.d true (.l .i))) sc.nd (b7 (a1n (kt:=true) (u:=(.l .i)) (by exact hr.units) (c8 0) (u9 (n:=0) (u:=.i) j6)))) (b8 (i5 3 (t:=(.l .i)) sc.nd (b7 (u9 (n:=1) (u:=.i) (c9 (u:=.i) (PX.newi (c8 0)) j6)))) (b8 (a3P (M:=[mdI,.fn (FnV P w K mg base 2 1 (.l .i) gm),.own (.d true (.l .i)),mdL,mdD,mdD,mdD,mdD]) (λ_=>1000000) cg (m8 (B6 3)) (b8 (i5 4 (t:=(.l .i)) sc.nd (b7 (u9 (n:=0) (u:=.i) j6))) (b8 (PSX.weak (M1:=[mdI,.fn (FnV P w K mg base 2 1 (.l .i) gm),.own (.d true (.l .i)),mdF,mdL,mdD,mdD,mdD]) (C3 (M:=[mdI,.fn (FnV P w K mg base 2 1 (.l .i) gm),.own (.d true (.l .i)),mdF,mdL,mdD,mdD,mdD]) (MB:=[mdI,.fn (FnV P w K mg base 2 1 (.l .i) gm),.own (.d true (.l .i)),mdF,mdL,mdI,mdD,mdD]) rfl cg (PIX.i (J3 (PX.newf (c7 3)))) (y7 5 sc.nd) E8 b0G (PSsX.weak (M2:=[mdI,.fn (FnV P w K mg base 2 1 (.l .i) gm),.own (.d true (.l .i)),mdF,mdL,mdI,mdD,mdD]) (f9 (b0O (fi:=(iI (iEn (eCl gm (a6 (a5 5) b9))))) (M:=[mdI,.fn (FnV P w K mg base 2 1 (.l .i) gm),.own (.d true (.l .i)),mdF,mdL,mdI,mdD,mdD]) (MB:=[mdI,.fn (FnV P w K mg base 2 1 (.l .i) gm),.own (.d true (.l .i)),mdF,mdL,mdI,mdI,mdI]) rfl cg (b6Q B.enumerate_ (PX.frz (a9b 1 (k:=2) (n:=1) (u:=(.l .i)) (m:=gm) (hr.mono (by decide)) (a9 (c8 5) g9) (hfl:=(t8 V1))))) (a2P rfl (u6 (y7 6 sc.nd) (u6 (y7 7 sc.nd) N9))) (a8z (w:=.i) (.inr rfl)) (λZ ds h d hd _=>b0G Z ds h d hd) a8J (PSsX.weak (M2:=[mdI,.fn (FnV P w K mg base 2 1 (.l .i) gm),.own (.d true (.l .i)),mdF,mdL,mdI,mdI,mdI]) (f9 (q8 (M':=[mdI,.fn (FnV P w K mg base 2 1 (.l .i) gm),.own (.d true (.l .i)),mdF,mdL,mdI,mdI,mdI]) (a5j (kt:=true) (u:=(.l .i)) (Z0 (by exact hr.units)) (c8 7) (o9 2 (u:=(.d true (.l .i))))) (b8 (a3g 2 (kt:=true) (u:=(.l .i)) (by exact hr.units) (c8 7) (b7 (MkL.i (a1d (b3v (kt:=true) (u:=(.l .i)) (by exact hr.units) (o9 2 (u:=(.d true (.l .i)))) (c8 5)) (u9 (n:=1) (u:=.i) (c9 (u:=.i) (PX.newi (c8 6)) j6)))))) (f9 (J7 4 (u:=(.l .i)) (t:=.i) (z8 4 (u:=(.l .i))) (b7 (PX.newi (c8 7))) W8))) m6)) o8 ((l7 6).trans (l7 7))))) o8 (l7 5))) (U9 3) o8) (f9 (i5 3 (t:=(.l .i)) sc.nd (K8 4 (u:=(.l .i)))))))) (f9 (l5 (K8 2 (u:=(.d true (.l .i))))))))
def Z8:EvS:=(k7 (eCl l8 (a6 (e2 dIx (a5 0) (eC (.int 0))) b9)))
def z9:=fnD [.f] 0 Z8
abbrev Z9(B:Bk P w K mg base)(k:Nat):=HB B "asks_of" k ["machine"] (spD K 1 z9 .i)
def a5G(B:Bk P w K mg base):Z9 B 1:=
 C7 B.d6 λ_ _ F=>fnF F ["machine"] λ_ _ _ _ _ _ _ _=>by exact f9 (l5 (b7 (o7 B.len_ (l9 (PX.newf (c7 0)) a7))))
def U2:EvS:=(k7 (u8 (iR (eCl l8 (a6 (a5 0) b9))) [0,1] pt1 (tB (e2 dNe (e2 a8 (e2 a8 (a5 1) (a5 0)) (eC (.int 0))) (e2 a8 (e2 a8 (a5 2) (a5 0)) (eC (.int 0))))) (a5 0)))
def v5:=fnD [.f,.f] 0 U2
abbrev L9(B:Bk P w K mg base)(k:Nat):=HB B "unlike_asks" k ["row","beside"] (spD K 2 v5 (.l .i))
def a1F(B:Bk P w K mg base):L9 B 1:=
 C7 B.d7 λ_ _ F=>fnF F ["row","beside"] λ_ _ _ _ _ _ _ hr=>by exact f9 (l5 (b7 (a0I rfl (tn:=["ask"]) (ys:=["row","beside"]) (js:=[0,1]) (m:=.i) (t9 B.range_ (o7 B.len_ (c7 0))) rfl (λ_ _ _ _ _=>y9 (i:=0) b7n rfl (cX rfl) (.inr rfl)) O6 (.inl rfl) a8x rfl (λ_ _ _ _ _=>a8w (m7 L7 (i9 (i9 (c7 1) (c8 0)) a7) (i9 (i9 (c7 2) (c8 0)) a7))) (λ_ _ _ _ _=>(PX.newi (c8 0))))))
def a2G:EvS:=(c6 (sIf (tB (e2 dNe (eCl z9 (a6 (a5 0) b9)) (eCl z9 (a6 (a5 1) b9)))) sNo i6) (c6 (e7 2 (b1i E4 [.i] [0,1] (eCl t6 (a6 (e2 dIx (a5 1) (e2 a8 (a5 0) (eC (.int 0)))) (a6 (e2 dIx (a5 2) (e2 a8 (a5 0) (eC (.int 1)))) b9))) (a6 (n8 (a6 (eC (.int 0)) (a6 (eC (.int 0)) b9))) b9))) (c6 (r8 (iI (iDk (a5 2))) (n9 3) (c6 (e7 4 (eCl v5 (a6 (e2 dIx (a5 0) (e2 a8 (a5 3) (eC (.int 0)))) (a6 (e2 dIx (a5 1) (e2 a8 (a5 3) (eC (.int 1)))) b9)))) (sIf (tV (a5 4)) (k7 (n8 (a6 (eC (.str "unlike")) (a6 (eI (O5 (e2 (a5k true) (a5 2) (a5 3)) (u7 (a6 (e2 s9 (a5 4) (eC (.int 0))) b9)))) b9)))) i6))) (k7 (n8 (a6 (eC (.str "alike")) (a6 (a5q true (a5 2)) b9)))))))
def D4:=fnD [.f,.f] 3 a2G
abbrev a0a(B:Bk P w K mg base)(k:Nat):=HB B "compare" k ["one","other"] (spD K 2 D4 (.tp [.i,(.l .i)]))
def a5H(B:Bk P w K mg base)(fP:S5 B 3)(fu:Z9 B 3)(eY:L9 B 3)(g_:K3 B 1)(LT:(w9 K "compare").isSome=true)(KB:K.In base)(GB:base.Ns aY mg):a0a B 4:=
 b1m B.d8 λ_ _ F a=>b6X F ["one","other","found","pair","unlike"] LT KB GB a λsc _ _ tW t_ tO A outer s H _ hr=>by exact b8 (q8 (M':=[mdF,mdF,mdD,mdD,mdD]) (m7 L7 (m9 fu hr (a9 (c7 0) g9)) (m9 fu hr (a9 (c7 1) g9))) (f9 (b4U)) m6) (b8 (i5 2 (t:=(.d true (.l .i))) sc.nd (b7 (by exact a5t (kf:=1) (u:=(.d true (.l .i))) (uf:=(.l .i)) (N:=["pair","one","other"]) (pl:=["pair"]) (ys:=["one","other"]) (js:=[0,1]) (us:=[.i]) fP hr (a9e (z7 (n:=2) (c9 (u:=.i) a7 (c9 (u:=.i) a7 j6))) (b1h (by decide) t_ tW tO rfl)) ⟨_,_,_,rfl,rfl,rfl,rfl,rfl,⟨_,_,_,rfl,rfl,rfl,rfl,rfl,rfl⟩⟩ ⟨⟨_,rfl⟩,⟨⟨_,rfl⟩,trivial⟩⟩ (by exact⟨rfl,rfl,rfl,by decide +kernel,rfl,by decide +kernel,by decide +kernel,by decide +kernel,rfl⟩) rfl (λ_ _ _ us hl=>by obtain⟨_,rfl⟩:=VS.b0Z hl;rfl) (λfa c A outer s H hr=>m9 g_ hr (a9 (l9 (PX.newf (c7 1)) (i9 (c8 0) a7)) (a9 (l9 (PX.newf (c7 2)) (i9 (c8 0) a7)) g9))) (hfl:=(a9d b1d))))) (b8 (PSX.weak (M1:=[mdF,mdF,mdF,mdD,mdD]) (C3 (M:=[mdF,mdF,mdF,mdD,mdD]) (MB:=[mdF,mdF,mdF,mdI,mdD]) rfl cg (PIX.i (a8W (PX.newf (c7 2)))) (y7 3 sc.nd) E8 b0G (PSsX.weak (M2:=[mdF,mdF,mdF,mdI,mdL]) (b8 (i5 4 (t:=(.l .i)) sc.nd (b7 (m9 eY hr (a9 (l9 (PX.newf (c7 0)) (i9 (c8 3) a7)) (a9 (l9 (PX.newf (c7 1)) (i9 (c8 3) a7)) g9))))) (f9 (q8 (M':=[mdF,mdF,mdF,mdI,mdL]) (m8 (B6 4)) (f9 (l5 (b7 (a8r (us:=[.i,(.l .i)]) (c9 (u:=.i) a2Y (c9 (u:=(.l .i)) (MkL.i (a1d (b0R (kt:=true) (by exact hr.units) (PX.newf (c7 2)) (c8 3)) (u9 (n:=1) (u:=.i) (c9 (u:=.i) (PX.newi (x9 (B6 4) a7)) j6)))) j6)))))) m6))) o8 ((l7 3).trans (l7 4)))) (U9 2) o8) (f9 (l5 (b7 (a8r (us:=[.i,(.l .i)]) (c9 (u:=.i) a2Y (c9 (u:=(.l .i)) (a8U true rfl B.sorted_ (c7 2)) j6))))))))
noncomputable def a1G:EvR:=(rIf (tB (e2 dNe (eCl z9 (a6 (a5 0) b9)) (eCl z9 (a6 (a5 1) b9)))) (λ_=>cz "Unfit") rNo)
def N8:=fnR [.f,.f] 3 a1G
abbrev a0b(B:Bk P w K mg base)(k:Nat):=HR B "compare" k ["one","other"] (spR K 2 N8)
def a4B(B:Bk P w K mg base)(fP:S5 B 3)(fu:Z9 B 3)(eY:L9 B 3)(g_:K3 B 1)(LT:(w9 K "compare").isSome=true)(KB:K.In base)(GB:base.Ns aY mg):a0b B 4:=
 b1n B.d8 λ_ _ F=>b7a F ["one","other","found","pair","unlike"] λ_ _ _ _ _ _ _ L hr=>by
 obtain⟨_,ot⟩:=B.r_Unfit;exact a3o (b5G (m7 L7 (m9 fu hr (a9 (c7 0) g9)) (m9 fu hr (a9 (c7 1) g9))) (a3o (a9p L ot)) (b5F))
def b_law_other:EvS:=(c6 (e7 2 (eCl l8 (a6 (e2 dIx (a5 1) (eC (.int 0))) b9))) (c6 (e7 3 (u8 (iR2 (eC (.int 1)) (eCl l8 (a6 (a5 1) b9))) [] pt1 tT (a5 0))) (c6 (r8 (iR (e2 p8 (eCl m_law_cell (a6 (a5 0) (a6 (eC (.int 2)) b9))) (e2 r9 (eCl (a0H false) (a6 (e2 M9 (eC (.int 2)) (eCl l8 (a6 (a5 1) b9))) (a6 (e2 A7 (eC (.int 30)) (eCl l8 (a6 (a5 1) b9))) b9))) (eC (.int 1))))) (n9 4) (n6 3 (.l .i) i7 (e2 p8 (eCl m_law_cell (a6 (a5 0) (a6 (e2 r9 (eC (.int 200)) (a5 4)) b9))) (eCl l8 (a6 (a5 1) b9))))) (c6 (e7 5 (e2 p8 (eCl m_law_cell (a6 (a5 0) (a6 (eC (.int 7)) b9))) (e2 r9 (eCl l8 (a6 (a5 3) b9)) (eC (.int 1))))) (c6 (e7 3 (eI (O5 (eI (O5 (u7 (a6 (eC (.int 0)) b9)) (eI (eSl (a5 3) (oSo (a5 5)) oNo)))) (eI (eSl (a5 3) oNo (oSo (a5 5))))))) (c6 (e7 6 (u7 b9)) (c6 (r8 (iR (eCl l8 (a6 (a5 3) b9))) (n9 7) (c6 (e7 8 (u7 b9)) (c6 (r8 (iR (a5 2)) (n9 9) (c6 (J6 10 11 (e2 a8 (e2 dIx (a5 1) (e2 s9 (a5 3) (a5 7))) (a5 9))) (c6 (e7 12 (u8 (iR (eCl l8 (a6 (a5 3) b9))) [3,11] pt1 (tB (e2 dEq (e2 s9 (a5 1) (a5 0)) (a5 2))) (a5 0))) (n6 8 (.l .i) i7 (n8 (a6 (a5 10) (a6 (e2 s9 (a5 12) (e2 p8 (eCl m_law_cell (a6 (a5 0) (a6 (e2 r9 (e2 r9 (eC (.int 300)) (e2 M9 (a5 7) (a5 2))) (a5 9)) b9))) (eCl l8 (a6 (a5 12) b9)))) b9))))))) (n6 6 (.l (.l .i)) i7 (a5 8))))) (k7 (a5 6)))))))))
def m_law_other:=fnD [.f,.f] 11 b_law_other
abbrev a0t(B:Bk P w K mg base)(k:Nat):=HB B "_law_other" k ["_law_script","_law_base"] (spD K 2 m_law_other (.l (.l .i)))
def ok_law_other(B:Bk P w K mg base)(bB:D0 B 1):a0t B 2:=
 C7 B.d9 λ_ _ F=>fnF F ["_law_script","_law_base","_law_asks","_law_kinds","_law_k","_law_turn","_law_rows","_law_s","_law_row","_law_a","_law_answer","_law_there","_law_some"] λsc _ _ _ _ _ _ hr=>by exact b8 (i5 2 (t:=.i) sc.nd (b7 (o7 B.len_ (l9 (PX.newf (c7 1)) a7)))) (b8 (i5 3 (t:=(.l .i)) sc.nd (b7 (a0I rfl (tn:=["_law_s"]) (ys:=[]) (js:=[]) (m:=.i) (a5b B.range_ a7 (o7 B.len_ (c7 1))) rfl (λ_ _ _ _ _=>y9 (i:=0) b7o rfl (cX rfl) (.inr rfl)) O6 (.inl rfl) b2S rfl (λ_ _ _ _ _=>T2) (λ_ _ _ _ _=>(PX.newi (c8 0)))))) (b8 (C3 (M:=[mdF,mdF,mdI,mdL,mdD,mdD,mdD,mdD,mdD,mdD,mdD,mdD,mdD]) (MB:=[mdF,mdF,mdI,mdL,mdI,mdD,mdD,mdD,mdD,mdD,mdD,mdD,mdD]) rfl cg (t9 B.range_ (i4 o6 (m9 bB hr (a9 (c7 0) (a9 a7 g9))) (i4 v9 (a8s (b2R rfl) B.min_ PyProof.Rows.Boot.«min» (a9 (i4 Q4 a7 (o7 B.len_ (c7 1))) (a9 (i4 C1 a7 (o7 B.len_ (c7 1))) g9))) a7))) (y7 4 sc.nd) E8 a1U (PSsX.weak (M2:=[mdF,mdF,mdI,mdL,mdI,mdD,mdD,mdD,mdD,mdD,mdD,mdD,mdD]) (f9 (J7 3 (u:=(.l .i)) (t:=.i) (z8 3 (u:=(.l .i))) (b7 (i4 o6 (m9 bB hr (a9 (c7 0) (a9 (i4 v9 a7 (c8 4)) g9))) (o7 B.len_ (c7 1)))) W8)) o8 (l7 4))) (b8 (i5 5 (t:=.i) sc.nd (b7 (i4 o6 (m9 bB hr (a9 (c7 0) (a9 a7 g9))) (i4 v9 (o7 B.len_ (B6 3)) a7)))) (b8 (i5 3 (t:=(.l .i)) sc.nd (b7 (MkL.i (a1d (MkL.i (a1d (u9 (n:=1) (u:=.i) (c9 (u:=.i) a7 j6)) (MkL.i (a1b (B6 3) (a1a (c8 5)) a0Z)))) (MkL.i (a1b (B6 3) a0Z (a1a (c8 5)))))))) (b8 (i5 6 (t:=(.l (.l .i))) sc.nd (b7 (u9 (n:=0) (u:=(.l .i)) j6))) (b8 (C3 (M:=[mdF,mdF,mdI,mdL,mdD,mdI,K7,mdD,mdD,mdD,mdD,mdD,mdD]) (MB:=[mdF,mdF,mdI,mdL,mdD,mdI,K7,mdI,mdD,mdD,mdD,mdD,mdD]) rfl cg (t9 B.range_ (o7 B.len_ (B6 3))) (y7 7 sc.nd) E8 a1U (PSsX.weak (M2:=[mdF,mdF,mdI,mdL,mdD,mdI,K7,mdI,mdD,mdD,mdD,mdD,mdD]) (b8 (i5 8 (t:=(.l .i)) sc.nd (b7 (u9 (n:=0) (u:=.i) j6))) (b8 (C3 (M:=[mdF,mdF,mdI,mdL,mdD,mdI,K7,mdI,mdL,mdD,mdD,mdD,mdD]) (MB:=[mdF,mdF,mdI,mdL,mdD,mdI,K7,mdI,mdL,mdI,mdD,mdD,mdD]) rfl cg (t9 B.range_ (c8 2)) (y7 9 sc.nd) E8 a1U (PSsX.weak (M2:=[mdF,mdF,mdI,mdL,mdD,mdI,K7,mdI,mdL,mdI,mdI,mdI,mdL]) (b8 (a3b 10 11 (t:=.i) (u1:=.i) (u2:=.i) sc.nd rfl (b7 (i9 (l9 (PX.newf (c7 1)) (x9 (B6 3) (c8 7))) (c8 9))) (.inr (.inl ⟨rfl,rfl,rfl⟩)) (hg1:=u6 (y7 10 sc.nd) (u6 (y7 11 sc.nd) N9))) (b8 (V0 12 (t:=.i) sc.nd rfl (tn:=["_law_t"]) (ys:=["_law_kinds","_law_there"]) (js:=[3,11]) (mm:=.i) (t9 B.range_ (o7 B.len_ (B6 3))) rfl (λ_ _ _ _ _=>y9 (i:=0) b7p rfl (cX rfl) (.inr rfl)) O6 (.inl rfl) a8x rfl (λ_ _ _ _ _=>a8w (m7 w6 (x9 (B6 1) (c8 0)) (c8 2))) (λ_ _ _ _ _=>(PX.newi (c8 0)))) (f9 (J7 8 (u:=(.l .i)) (t:=.i) (z8 8 (u:=(.l .i))) (b7 (z7 (n:=2) (c9 (u:=.i) (PX.newi (c8 10)) (c9 (u:=.i) (PX.newi (x9 (B6 12) (i4 o6 (m9 bB hr (a9 (c7 0) (a9 (i4 v9 (i4 v9 a7 (i4 Q4 (c8 7) (c8 2))) (c8 9)) g9))) (o7 B.len_ (B6 12))))) j6)))) W8)))) o8 ((((l7 9).trans (l7 10)).trans (l7 11)).trans (l7 12)))) (f9 (J7 6 (u:=(.l (.l .i))) (t:=(.l .i)) (z8 6 (u:=(.l (.l .i)))) (K8 8 (u:=(.l .i))) W8)))) o8 (l7 7))) (f9 (l5 (K8 6 (u:=(.l (.l .i))))))))))))
def b_law_pairs:EvS:=(c6 (e7 2 (u7 (a6 (n8 (a6 (eC (.int 0)) (a6 (eC (.int 0)) b9))) b9))) (c6 (e7 3 (eD1 true (n8 (a6 (eC (.int 0)) (a6 (eC (.int 0)) b9))) (eC (.bool true)))) (c6 (e7 4 (eC (.int 0))) (c6 (sWh (λ_=>1000000) (tB (e2 dLt (a5 4) (eCl l8 (a6 (a5 2) b9)))) (c6 (J6 5 6 (e2 s9 (a5 2) (a5 4))) (c6 (r8 (iR (eCl l8 (a6 (e2 dIx (a5 0) (eC (.int 0))) b9))) (n9 7) (c6 (sIf (tB (e2 dNe (e2 a8 (e2 a8 (e2 dIx (a5 0) (a5 5)) (a5 7)) (eC (.int 0))) (e2 a8 (e2 a8 (e2 dIx (a5 1) (a5 6)) (a5 7)) (eC (.int 0))))) (k7 (eC .none)) i6) (c6 (e7 8 (n8 (a6 (e2 a8 (e2 a8 (e2 dIx (a5 0) (a5 5)) (a5 7)) (eC (.int 1))) (a6 (e2 a8 (e2 a8 (e2 dIx (a5 1) (a5 6)) (a5 7)) (eC (.int 1))) b9)))) (sIf (tB (e2 (dIn true true) (a5 8) (a5 3))) (c6 (p5 3 true (a5 8) (eC (.bool true))) (n6 2 (.l .i) i7 (a5 8))) i6)))) (e7 4 (e2 r9 (a5 4) (eC (.int 1))))))) (k7 (a1v true (a5 2)))))))
def m_law_pairs:=fnD [.f,.f] 7 b_law_pairs
abbrev a0u(B:Bk P w K mg base)(k:Nat):=HB B "_law_pairs" k ["_law_one","_law_other_here"] (spD K 2 m_law_pairs (.l .i))
def ok_law_pairs(B:Bk P w K mg base):a0u B 1:=
 C7 B.d10 λ_ _ F=>fnF F ["_law_one","_law_other_here","_law_pairs_here","_law_seen","_law_at","_law_here","_law_there","_law_a","_law_pair"] λsc _ _ _ _ _ _ hr=>by exact b8 (i5 2 (t:=(.l .i)) sc.nd (b7 (u9 (n:=1) (u:=.i) (c9 (u:=.i) (z7 (n:=2) (c9 (u:=.i) a7 (c9 (u:=.i) a7 j6))) j6)))) (b8 (i5 3 (t:=(.d true .i)) sc.nd (b7 (a1n (kt:=true) (u:=.i) (by exact hr.units) (z7 (n:=2) (c9 (u:=.i) a7 (c9 (u:=.i) a7 j6))) C2))) (b8 (i5 4 (t:=.i) sc.nd (b7 a7)) (b8 (a3P (M:=[mdF,mdF,mdL,.own (.d true .i),mdI,mdD,mdD,mdD,mdD]) (λ_=>1000000) cg (m7 a8k (c8 4) (o7 B.len_ (B6 2))) (PSsX.weak (M2:=[mdF,mdF,mdL,.own (.d true .i),mdI,mdI,mdI,mdD,mdD]) (b8 (a3b 5 6 (t:=.i) (u1:=.i) (u2:=.i) sc.nd rfl (b7 (PX.newi (x9 (B6 2) (c8 4)))) (.inr (.inl ⟨rfl,rfl,rfl⟩)) (hg1:=u6 (y7 5 sc.nd) (u6 (y7 6 sc.nd) N9))) (b8 (C3 (M:=[mdF,mdF,mdL,.own (.d true .i),mdI,mdI,mdI,mdD,mdD]) (MB:=[mdF,mdF,mdL,.own (.d true .i),mdI,mdI,mdI,mdI,mdD]) rfl cg (t9 B.range_ (o7 B.len_ (l9 (PX.newf (c7 0)) a7))) (y7 7 sc.nd) E8 a1U (PSsX.weak (M2:=[mdF,mdF,mdL,.own (.d true .i),mdI,mdI,mdI,mdI,mdI]) (b8 (q8 (M':=[mdF,mdF,mdL,.own (.d true .i),mdI,mdI,mdI,mdI,mdD]) (m7 L7 (i9 (i9 (l9 (PX.newf (c7 0)) (c8 5)) (c8 7)) a7) (i9 (i9 (l9 (PX.newf (c7 1)) (c8 6)) (c8 7)) a7)) (f9 (l5 (b7 (PX.itol (u:=.i) a4V)))) m6) (b8 (i5 8 (t:=.i) sc.nd (b7 (z7 (n:=2) (c9 (u:=.i) (i9 (i9 (l9 (PX.newf (c7 0)) (c8 5)) (c8 7)) a7) (c9 (u:=.i) (i9 (i9 (l9 (PX.newf (c7 1)) (c8 6)) (c8 7)) a7) j6))))) (f9 (q8 (M':=[mdF,mdF,mdL,.own (.d true .i),mdI,mdI,mdI,mdI,mdI]) (a5j (kt:=true) (u:=.i) (Z0 (by exact hr.units)) (c8 8) (o9 3 (u:=(.d true .i)))) (b8 (a3g 3 (kt:=true) (u:=.i) (by exact hr.units) (c8 8) (b7 C2)) (f9 (J7 2 (u:=(.l .i)) (t:=.i) (z8 2 (u:=(.l .i))) (b7 (PX.newi (c8 8))) W8))) m6)))) o8 ((l7 7).trans (l7 8)))) (f9 (i5 4 (t:=.i) sc.nd (b7 (i4 v9 (c8 4) a7)))))) o8 ((l7 5).trans (l7 6)))) (f9 (l5 (b7 (a8V true B.sorted_ (B6 2))))))))
def b_law_parted_within:EvS:=(c6 (e7 4 (eD1 true (a5 2) (eC (.bool true)))) (c6 (e7 5 (u7 (a6 (a5 2) b9))) (c6 (r8 (iR (a5 3)) (n9 6) (c6 (e7 7 (u7 b9)) (c6 (r8 (iI (iL (a5 5))) (T6 8 9) (r8 (iR (eCl l8 (a6 (e2 dIx (a5 0) (eC (.int 0))) b9))) (n9 10) (c6 (sIf (tB (e2 dNe (e2 a8 (e2 a8 (e2 dIx (a5 0) (a5 8)) (a5 10)) (eC (.int 0))) (e2 a8 (e2 a8 (e2 dIx (a5 1) (a5 9)) (a5 10)) (eC (.int 0))))) (k7 (eC (.bool true))) i6) (c6 (e7 2 (n8 (a6 (e2 a8 (e2 a8 (e2 dIx (a5 0) (a5 8)) (a5 10)) (eC (.int 1))) (a6 (e2 a8 (e2 a8 (e2 dIx (a5 1) (a5 9)) (a5 10)) (eC (.int 1))) b9)))) (sIf (tB (e2 (dIn true true) (a5 2) (a5 4))) (c6 (p5 4 true (a5 2) (eC (.bool true))) (n6 7 (.l .i) i7 (a5 2))) i6))))) (e7 5 (a5 7))))) (k7 (eC (.bool false))))))
def m_law_parted_within:=fnD [.f,.f,.i,.i] 7 b_law_parted_within
abbrev F0(B:Bk P w K mg base)(k:Nat):=HB B "_law_parted_within" k ["_law_one","_law_other_here","_law_pair","_law_size"] (spD K 4 m_law_parted_within .i)
def ok_law_parted_within(B:Bk P w K mg base):F0 B 1:=
 C7 B.d11 λ_ _ F=>fnF F ["_law_one","_law_other_here","_law_pair","_law_size","_law_seen","_law_layer","_law_turn","_law_further","_law_here","_law_there","_law_a"] λsc _ _ _ _ _ _ hr=>by exact b8 (i5 4 (t:=(.d true .i)) sc.nd (b7 (a1n (kt:=true) (u:=.i) (by exact hr.units) (c8 2) C2))) (b8 (i5 5 (t:=(.l .i)) sc.nd (b7 (u9 (n:=1) (u:=.i) (c9 (u:=.i) (PX.newi (c8 2)) j6)))) (b8 (C3 (M:=[mdF,mdF,mdI,mdI,.own (.d true .i),mdL,mdD,mdD,mdD,mdD,mdD]) (MB:=[mdF,mdF,mdI,mdI,.own (.d true .i),mdL,mdI,mdD,mdD,mdD,mdD]) rfl cg (t9 B.range_ (c8 3)) (y7 6 sc.nd) E8 a1U (PSsX.weak (M2:=[mdF,mdF,mdI,mdI,.own (.d true .i),mdL,mdI,mdD,mdD,mdD,mdD]) (b8 (i5 7 (t:=(.l .i)) sc.nd (b7 (u9 (n:=0) (u:=.i) j6))) (b8 (PSX.weak (M1:=[mdF,mdF,mdI,mdI,.own (.d true .i),mdF,mdI,mdL,mdD,mdD,mdD]) (C3 (M:=[mdF,mdF,mdI,mdI,.own (.d true .i),mdF,mdI,mdL,mdD,mdD,mdD]) (MB:=[mdF,mdF,mdI,mdI,.own (.d true .i),mdF,mdI,mdL,mdI,mdI,mdD]) rfl cg (PIX.i (J3 (PX.newf (c7 5)))) (a2P rfl (u6 (y7 8 sc.nd) (u6 (y7 9 sc.nd) N9))) (a8z (w:=.i) (.inr rfl)) (λZ ds h d hd _=>b0G Z ds h d hd) (PSsX.weak (M2:=[mdF,mdF,mdI,mdI,.own (.d true .i),mdF,mdI,mdL,mdI,mdI,mdD]) (f9 (C3 (M:=[mdF,mdF,mdI,mdI,.own (.d true .i),mdF,mdI,mdL,mdI,mdI,mdD]) (MB:=[mdF,mdF,mdI,mdI,.own (.d true .i),mdF,mdI,mdL,mdI,mdI,mdI]) rfl cg (t9 B.range_ (o7 B.len_ (l9 (PX.newf (c7 0)) a7))) (y7 10 sc.nd) E8 a1U (PSsX.weak (M2:=[mdF,mdF,mdI,mdI,.own (.d true .i),mdF,mdI,mdL,mdI,mdI,mdI]) (b8 (q8 (M':=[mdF,mdF,mdI,mdI,.own (.d true .i),mdF,mdI,mdL,mdI,mdI,mdI]) (m7 L7 (i9 (i9 (l9 (PX.newf (c7 0)) (c8 8)) (c8 10)) a7) (i9 (i9 (l9 (PX.newf (c7 1)) (c8 9)) (c8 10)) a7)) (f9 (l5 (b7 C2))) m6) (b8 (i5 2 (t:=.i) sc.nd (b7 (z7 (n:=2) (c9 (u:=.i) (i9 (i9 (l9 (PX.newf (c7 0)) (c8 8)) (c8 10)) a7) (c9 (u:=.i) (i9 (i9 (l9 (PX.newf (c7 1)) (c8 9)) (c8 10)) a7) j6))))) (f9 (q8 (M':=[mdF,mdF,mdI,mdI,.own (.d true .i),mdF,mdI,mdL,mdI,mdI,mdI]) (a5j (kt:=true) (u:=.i) (Z0 (by exact hr.units)) (c8 2) (o9 4 (u:=(.d true .i)))) (b8 (a3g 4 (kt:=true) (u:=.i) (by exact hr.units) (c8 2) (b7 C2)) (f9 (J7 7 (u:=(.l .i)) (t:=.i) (z8 7 (u:=(.l .i))) (b7 (PX.newi (c8 2))) W8))) m6)))) o8 (l7 10)))) o8 ((l7 8).trans (l7 9)))) (U9 5) o8) (f9 (i5 5 (t:=(.l .i)) sc.nd (K8 7 (u:=(.l .i))))))) o8 (l7 6))) (f9 (l5 (b7 C2)))))
def b_law_first:EvS:=(c6 (sIf (K5 (tNo (tV (e1 (λd=>cz (.bool (isList d))) (a5 2)))) (tV (eCl m_law_parted_within (a6 (a5 0) (a6 (a5 1) (a6 (n8 (a6 (eC (.int 0)) (a6 (eC (.int 0)) b9))) (a6 (e2 A7 (eCl l8 (a6 (a5 2) b9)) (eC (.int 1))) b9))))))) (k7 (eC (.bool false))) i6) (c6 (e7 3 (eC (.int 0))) (c6 (e7 4 (eC (.int 0))) (c6 (r8 (iR (eCl l8 (a6 (a5 2) b9))) (n9 5) (c6 (e7 6 (e2 dIx (a5 2) (a5 5))) (c6 (sIf (K5 (tNo (tV (e1 (λd=>cz (.bool (isInt d))) (a5 6)))) (K5 (tV (e1 (λd=>cz (.bool (isBool d))) (a5 6))) (tNo (tB (eCh dLe dLt (eC (.int 0)) (a5 6) (eCl l8 (a6 (e2 dIx (a5 0) (eC (.int 0))) b9))))))) (k7 (eC (.bool false))) i6) (c6 (r8 (iR (a5 6)) (n9 7) (c6 (e7 8 (n8 (a6 (e2 a8 (e2 a8 (e2 dIx (a5 0) (a5 3)) (a5 7)) (eC (.int 1))) (a6 (e2 a8 (e2 a8 (e2 dIx (a5 1) (a5 4)) (a5 7)) (eC (.int 1))) b9)))) (c6 (sIf (tB (e2 dNe (e2 a8 (e2 a8 (e2 dIx (a5 0) (a5 3)) (a5 7)) (eC (.int 0))) (e2 a8 (e2 a8 (e2 dIx (a5 1) (a5 4)) (a5 7)) (eC (.int 0))))) (k7 (eC (.bool false))) i6) (sIf (tV (eCl m_law_parted_within (a6 (a5 0) (a6 (a5 1) (a6 (a5 8) (a6 (e2 A7 (e2 A7 (eCl l8 (a6 (a5 2) b9)) (eC (.int 1))) (a5 5)) b9)))))) (k7 (eC (.bool false))) i6)))) (c6 (sIf (tB (e2 dNe (e2 a8 (e2 a8 (e2 dIx (a5 0) (a5 3)) (a5 6)) (eC (.int 0))) (e2 a8 (e2 a8 (e2 dIx (a5 1) (a5 4)) (a5 6)) (eC (.int 0))))) (k7 (e2 dEq (a5 5) (e2 A7 (eCl l8 (a6 (a5 2) b9)) (eC (.int 1))))) i6) (c6 (e7 3 (e2 a8 (e2 a8 (e2 dIx (a5 0) (a5 3)) (a5 6)) (eC (.int 1)))) (e7 4 (e2 a8 (e2 a8 (e2 dIx (a5 1) (a5 4)) (a5 6)) (eC (.int 1)))))))))) (k7 (eC (.bool false)))))))
def m_law_first:=fnD [.f,.f,.f] 6 b_law_first
abbrev a0v(B:Bk P w K mg base)(k:Nat):=HB B "_law_first" k ["_law_one","_law_other_here","_law_probe"] (spD K 3 m_law_first .i)
def ok_law_first(B:Bk P w K mg base)(dQ:F0 B 1):a0v B 2:=
 C7 B.d12 λ_ _ F=>fnF F ["_law_one","_law_other_here","_law_probe","_law_here","_law_there","_law_k","_law_ask","_law_a","_law_pair"] λsc _ _ _ _ _ _ hr=>by exact b8 (q8 (M':=[mdF,mdF,mdF,mdD,mdD,mdD,mdD,mdD,mdD]) (PWX.pt (A8 (O2 (m8 (Q7 a3M B.isinstance_ B.list_ PyProof.Rows.Boot.«list» (c7 2)))) (D6 (m8 (m9 dQ hr (a9 (c7 0) (a9 (c7 1) (a9 (z7 (n:=2) (c9 (u:=.i) a7 (c9 (u:=.i) a7 j6))) (a9 (i4 C1 (o7 B.len_ (c7 2)) a7) g9))))))))) (f9 (l5 (b7 C2))) m6) (b8 (i5 3 (t:=.i) sc.nd (b7 a7)) (b8 (i5 4 (t:=.i) sc.nd (b7 a7)) (b8 (C3 (M:=[mdF,mdF,mdF,mdI,mdI,mdD,mdD,mdD,mdD]) (MB:=[mdF,mdF,mdF,mdI,mdI,mdI,mdD,mdD,mdD]) rfl cg (t9 B.range_ (o7 B.len_ (c7 2))) (y7 5 sc.nd) E8 a1U (PSsX.weak (M2:=[mdF,mdF,mdF,mdI,mdI,mdI,mdF,mdD,mdD]) (b8 (i5 6 (t:=.f) sc.nd (b7 (l9 (PX.newf (c7 2)) (c8 5)))) (b8 (q8 (M':=[mdF,mdF,mdF,mdI,mdI,mdI,mdF,mdD,mdD]) (PWX.pt (A8 (O2 (m8 (Q7 b0z B.isinstance_ B.int_ PyProof.Rows.Boot.«int» (c7 6)))) (A8 (m8 (Q7 a0Y B.isinstance_ B.bool_ PyProof.Rows.Boot.«bool» (c7 6))) (D6 (O2 (a6V b4L a8k a7 (c7 6) (o7 B.len_ (l9 (PX.newf (c7 0)) a7)))))))) (f9 (l5 (b7 C2))) m6) (b8 (C3 (M:=[mdF,mdF,mdF,mdI,mdI,mdI,mdF,mdD,mdD]) (MB:=[mdF,mdF,mdF,mdI,mdI,mdI,mdF,mdI,mdD]) rfl cg (t9 B.range_ (c7 6)) (y7 7 sc.nd) E8 a1U (PSsX.weak (M2:=[mdF,mdF,mdF,mdI,mdI,mdI,mdF,mdI,mdI]) (b8 (i5 8 (t:=.i) sc.nd (b7 (z7 (n:=2) (c9 (u:=.i) (i9 (i9 (l9 (PX.newf (c7 0)) (c8 3)) (c8 7)) a7) (c9 (u:=.i) (i9 (i9 (l9 (PX.newf (c7 1)) (c8 4)) (c8 7)) a7) j6))))) (b8 (q8 (M':=[mdF,mdF,mdF,mdI,mdI,mdI,mdF,mdI,mdI]) (m7 L7 (i9 (i9 (l9 (PX.newf (c7 0)) (c8 3)) (c8 7)) a7) (i9 (i9 (l9 (PX.newf (c7 1)) (c8 4)) (c8 7)) a7)) (f9 (l5 (b7 C2))) m6) (f9 (q8 (M':=[mdF,mdF,mdF,mdI,mdI,mdI,mdF,mdI,mdI]) (m8 (m9 dQ hr (a9 (c7 0) (a9 (c7 1) (a9 (c8 8) (a9 (i4 C1 (i4 C1 (o7 B.len_ (c7 2)) a7) (c8 5)) g9)))))) (f9 (l5 (b7 C2))) m6)))) o8 ((l7 7).trans (l7 8)))) (b8 (q8 (M':=[mdF,mdF,mdF,mdI,mdI,mdI,mdF,mdD,mdD]) (m7 L7 (i9 (i9 (l9 (PX.newf (c7 0)) (c8 3)) (c7 6)) a7) (i9 (i9 (l9 (PX.newf (c7 1)) (c8 4)) (c7 6)) a7)) (f9 (l5 (b7 (U8 w6 (c8 5) (i4 C1 (o7 B.len_ (c7 2)) a7))))) m6) (b8 (i5 3 (t:=.i) sc.nd (b7 (i9 (i9 (l9 (PX.newf (c7 0)) (c8 3)) (c7 6)) a7))) (f9 (i5 4 (t:=.i) sc.nd (b7 (i9 (i9 (l9 (PX.newf (c7 1)) (c8 4)) (c7 6)) a7))))))))) o8 ((l7 5).trans (l7 6)))) (f9 (l5 (b7 C2))))))
def b_law_told:EvS:=(c6 (sIf (K5 (tNo (tV (e1 (λd=>cz (.bool (O3 d))) (a5 0)))) (tB (e2 dNe (eCl l8 (a6 (a5 0) b9)) (eC (.int 2))))) (k7 (eC (.bool false))) i6) (c6 (e7 3 (eCl m_law_pairs (a6 (a5 1) (a6 (a5 2) b9)))) (c6 (sIf (tB (e2 (b0v false) (a5 3) (eC .none))) (k7 (a0z (e2 dEq (e2 dIx (a5 0) (eC (.int 0))) (eC (.str "unlike"))) (eCl m_law_first (a6 (a5 1) (a6 (a5 2) (a6 (e2 dIx (a5 0) (eC (.int 1))) b9)))))) i6) (c6 (sIf (K5 (tB (e2 dNe (e2 dIx (a5 0) (eC (.int 0))) (eC (.str "alike")))) (tNo (tV (e1 (λd=>cz (.bool (isList d))) (e2 dIx (a5 0) (eC (.int 1))))))) (k7 (eC (.bool false))) i6) (c6 (r8 (iL (e2 dIx (a5 0) (eC (.int 1)))) (n9 4) (sIf (K5 (tNo (tV (e1 (λd=>cz (.bool (O3 d))) (a5 4)))) (K5 (tV (e1 (λd=>cz (.bool (isBool d))) (e2 dIx (a5 4) (eC (.int 0))))) (tV (e1 (λd=>cz (.bool (isBool d))) (e2 dIx (a5 4) (eC (.int (-1)))))))) (k7 (eC (.bool false))) i6)) (k7 (e2 dEq (e2 dIx (a5 0) (eC (.int 1))) (a5 3))))))))
def m_law_told:=fnD [.f,.f,.f] 2 b_law_told
abbrev a1H(B:Bk P w K mg base)(k:Nat):=HB B "_law_told" k ["_law_found","_law_one","_law_other_here"] (spD K 3 m_law_told .i)
def ok_law_told(B:Bk P w K mg base)(gX:a0u B 2)(gZ:a0v B 2):a1H B 3:=
 C7 B.d13 λ_ _ F=>fnF F ["_law_found","_law_one","_law_other_here","_law_pairs_here","_law_pair"] λsc _ _ _ _ _ _ hr=>by exact b8 (q8 (M':=[mdF,mdF,mdF,mdD,mdD]) (PWX.pt (A8 (O2 (m8 (Q7 a2s B.isinstance_ B.tuple_ PyProof.Rows.Boot.«tuple» (c7 0)))) (D6 (m7 L7 (o7 B.len_ (c7 0)) a7)))) (f9 (l5 (b7 C2))) m6) (b8 (i5 3 (t:=(.l .i)) sc.nd (b7 (m9 gX hr (a9 (c7 1) (a9 (c7 2) g9))))) (b8 (q8 (M':=[mdF,mdF,mdF,mdL,mdD]) (m7 b2M (B6 3) a4V) (f9 (l5 (b7 (a0X (U8 w6 (l9 (PX.newf (c7 0)) a7) a2Y) (a0W (m9 gZ hr (a9 (c7 1) (a9 (c7 2) (a9 (l9 (PX.newf (c7 0)) a7) g9))))))))) m6) (b8 (q8 (M':=[mdF,mdF,mdF,mdL,mdD]) (PWX.pt (A8 (m7 L7 (l9 (PX.newf (c7 0)) a7) a2Y) (D6 (O2 (m8 (Q7 a3M B.isinstance_ B.list_ PyProof.Rows.Boot.«list» (l9 (PX.newf (c7 0)) a7))))))) (f9 (l5 (b7 C2))) m6) (b8 (C3 (M:=[mdF,mdF,mdF,mdL,mdD]) (MB:=[mdF,mdF,mdF,mdL,mdF]) rfl cg (J3 (l9 (PX.newf (c7 0)) a7)) (y7 4 sc.nd) b2T (λ_ _ _ _ _=>trivial) (PSsX.weak (M2:=[mdF,mdF,mdF,mdL,mdF]) (f9 (q8 (M':=[mdF,mdF,mdF,mdL,mdF]) (PWX.pt (A8 (O2 (m8 (Q7 a2s B.isinstance_ B.tuple_ PyProof.Rows.Boot.«tuple» (c7 4)))) (A8 (m8 (Q7 a0Y B.isinstance_ B.bool_ PyProof.Rows.Boot.«bool» (l9 (PX.newf (c7 4)) a7))) (D6 (m8 (Q7 a0Y B.isinstance_ B.bool_ PyProof.Rows.Boot.«bool» (l9 (PX.newf (c7 4)) (b2N)))))))) (f9 (l5 (b7 C2))) m6)) o8 (l7 4))) (f9 (l5 (b7 (U8 w6 (l9 (PX.newf (c7 0)) a7) (B6 3)))))))))
def b_law_unfit:EvS:=(c6 (e7 2 (eC .none)) (c6 (a9s Lx 2 3 (sEx (eCl D4 (a6 (a5 0) (a6 (a5 1) b9)))) (rCl N8 (a6 (a5 0) (a6 (a5 1) b9)))) (c6 (sIf (K5 (tV (R8 Lx 2 λn=>n=="NoMachine")) (K5 (tV (R8 Lx 2 λn=>n=="NoAnswers")) (tV (R8 Lx 2 λn=>n=="NoSize")))) (k7 (eC (.bool false))) i6) (c6 (sIf (K5 (tV (R8 Lx 2 λn=>n=="NoState")) (K5 (tV (R8 Lx 2 λn=>n=="TooMuch")) (tV (R8 Lx 2 λn=>n=="Unsteady")))) (k7 (eC (.bool false))) i6) (c6 (sIf (K5 (tV (R8 Lx 2 λn=>n=="Ended")) (K5 (tV (R8 Lx 2 λn=>n=="NoText")) (tV (R8 Lx 2 λn=>n=="NoRow")))) (k7 (eC (.bool false))) i6) (c6 (sIf (K5 (tV (R8 Lx 2 λn=>n=="NoName")) (tV (R8 Lx 2 λn=>n=="NoProbe"))) (k7 (eC (.bool false))) i6) (k7 (a0z (R8 Lx 2 λn=>n=="Unfit") (R8 Lx 2 λ_=>true)))))))))
def m_law_unfit:=fnD [.f,.f] 2 b_law_unfit
abbrev a0w(B:Bk P w K mg base)(k:Nat):=HB B "_law_unfit" k ["_law_one","_law_other_here"] (spD K 2 m_law_unfit .i)
def ok_law_unfit(B:Bk P w K mg base)(fq:a0a B 4)(gC:a0b B 4):a0w B 5:=
 C7 B.d14 λ_ _ F=>fnF F ["_law_one","_law_other_here","_law_caught","e"] λsc _ _ _ _ _ _ hr=>by
 obtain⟨C0,EP,ET⟩:=B.pe;obtain⟨_,lM⟩:=B.i_Ended;obtain⟨_,iQ⟩:=B.i_NoAnswers;obtain⟨_,iP⟩:=B.i_NoMachine;obtain⟨_,kI⟩:=B.i_NoName;obtain⟨_,jT⟩:=B.i_NoProbe;obtain⟨_,lK⟩:=B.i_NoRow;obtain⟨_,kH⟩:=B.i_NoSize;obtain⟨_,jS⟩:=B.i_NoState;obtain⟨_,kG⟩:=B.i_NoText;obtain⟨_,jR⟩:=B.i_TooMuch;obtain⟨_,lJ⟩:=B.i_Unfit;obtain⟨_,jq⟩:=B.i_Unsteady;have kr:=B.i_ValueError;exact b8 (i5 2 (t:=.i) sc.nd (b7 a4V)) (b8 (b3F (M:=[mdF,mdF,mdI,mdD]) (L:=Lx) 2 3 rfl rfl sc.nd (by decide) (f9 (b0D (m9 fq hr (a9 (c7 0) (a9 (c7 1) g9))))) (λpn EE W T=>a3o (b1k (a9q T gC hr (a9 (c7 0) (a9 (c7 1) g9)) (hfl:=(t8 (t8 V1)))))) EP ET) (b8 (q8 (M':=[mdF,mdF,.exc,mdD]) (PWX.pt (A8 (m8 (E9 2 (f:=λn=>n=="NoMachine") (L:=Lx) iP.2 B.isinstance_ iP.1)) (A8 (m8 (E9 2 (f:=λn=>n=="NoAnswers") (L:=Lx) iQ.2 B.isinstance_ iQ.1)) (D6 (m8 (E9 2 (f:=λn=>n=="NoSize") (L:=Lx) kH.2 B.isinstance_ kH.1)))))) (f9 (l5 (b7 C2))) m6) (b8 (q8 (M':=[mdF,mdF,.exc,mdD]) (PWX.pt (A8 (m8 (E9 2 (f:=λn=>n=="NoState") (L:=Lx) jS.2 B.isinstance_ jS.1)) (A8 (m8 (E9 2 (f:=λn=>n=="TooMuch") (L:=Lx) jR.2 B.isinstance_ jR.1)) (D6 (m8 (E9 2 (f:=λn=>n=="Unsteady") (L:=Lx) jq.2 B.isinstance_ jq.1)))))) (f9 (l5 (b7 C2))) m6) (b8 (q8 (M':=[mdF,mdF,.exc,mdD]) (PWX.pt (A8 (m8 (E9 2 (f:=λn=>n=="Ended") (L:=Lx) lM.2 B.isinstance_ lM.1)) (A8 (m8 (E9 2 (f:=λn=>n=="NoText") (L:=Lx) kG.2 B.isinstance_ kG.1)) (D6 (m8 (E9 2 (f:=λn=>n=="NoRow") (L:=Lx) lK.2 B.isinstance_ lK.1)))))) (f9 (l5 (b7 C2))) m6) (b8 (q8 (M':=[mdF,mdF,.exc,mdD]) (PWX.pt (A8 (m8 (E9 2 (f:=λn=>n=="NoName") (L:=Lx) kI.2 B.isinstance_ kI.1)) (D6 (m8 (E9 2 (f:=λn=>n=="NoProbe") (L:=Lx) jT.2 B.isinstance_ jT.1))))) (f9 (l5 (b7 C2))) m6) (f9 (l5 (b7 (a0X (E9 2 (f:=λn=>n=="Unfit") (L:=Lx) lJ.2 B.isinstance_ lJ.1) (a0W (b3H 2 (f:=λ_=>true) (L:=Lx) kr B.isinstance_ B.ValueError_ PyProof.Rows.Boot.«ValueError»)))))))))))
def b_law:EvS:=(c6 (e7 1 (eCl m_law_machine (a6 (a5 0) b9))) (c6 (e7 2 (b0P m_law_changed (a5 0) (eCl m_law_other (a6 (a5 0) (a6 (a5 1) b9))))) (c6 (sIf (tB (e2 dEq (e2 p8 (e2 U7 (eCl m_law_cell (a6 (a5 0) (a6 (eC (.int 8)) b9))) (eC (.int 4))) (eC (.int 9))) (eC (.int 1)))) (c6 (sIf (tB (e2 dEq (eCl l8 (a6 (e2 s9 (a5 1) (eC (.int 0))) b9)) (eC (.int 5)))) (e7 2 (u8 (iL (a5 2)) [] pt1 tT (eI (eSl (a5 0) oNo (oSo (eC (.int 4))))))) (e7 2 (u8 (iL (a5 2)) [] pt1 tT (eI (O5 (a5 0) (u7 (a6 (e2 a8 (a5 0) (eC (.int 0))) b9))))))) (k7 (a0z (eCl m_law_unfit (a6 (a5 1) (a6 (a5 2) b9))) (eCl m_law_unfit (a6 (a5 2) (a6 (a5 1) b9)))))) i6) (c6 (e7 3 (u7 (a6 (u8 (iL (a5 1)) [] pt1 tT (eI (a1c (a5 0)))) (a6 (u8 (iL (a5 2)) [] pt1 tT (eI (a1c (a5 0)))) b9)))) (c6 (e7 4 (eCl D4 (a6 (e2 s9 (a5 3) (eC (.int 0))) (a6 (e2 s9 (a5 3) (eC (.int 1))) b9)))) (c6 (sIf (K5 (tNo (tV (eCl m_law_told (a6 (a5 4) (a6 (a5 1) (a6 (a5 2) b9)))))) (tB (e2 dNe (a5 3) (u7 (a6 (a5 1) (a6 (a5 2) b9)))))) (k7 (eC (.bool false))) i6) (c6 (n6 4 (.tp [.i,(.l .i)]) (pIx 4 (.tp [.i,(.l .i)]) i7 (eC (.int 1))) (eC (.int 0))) (c6 (e7 5 (eCl D4 (a6 (e2 s9 (a5 3) (eC (.int 0))) (a6 (e2 s9 (a5 3) (eC (.int 1))) b9)))) (c6 (e7 6 (eCl D4 (a6 (e2 s9 (a5 3) (eC (.int 1))) (a6 (e2 s9 (a5 3) (eC (.int 0))) b9)))) (c6 (n6 3 (.l (.l (.l .i))) (pIx 3 (.l (.l (.l .i))) i7 (eC (.int 0))) (u7 b9)) (c6 (n6 3 (.l (.l (.l .i))) (pIx 3 (.l (.l (.l .i))) (pIx 3 (.l (.l (.l .i))) i7 (eC (.int 1))) (eC (.int 0))) (n8 (a6 (eC (.int 0)) (a6 (eC (.int 0)) b9)))) (k7 (a0z (eCl m_law_told (a6 (a5 5) (a6 (a5 1) (a6 (a5 2) b9)))) (eCl m_law_told (a6 (a5 6) (a6 (a5 2) (a6 (a5 1) b9)))))))))))))))))
def m_law:=fnD [.f] 6 b_law
def ok_law(B:Bk P w K mg base)(bB:D0 B 5)(gv:U0 B 5)(gw:U1 B 5)(fq:a0a B 5)(gY:a0t B 5)(gg:a1H B 5)(gr:a0w B 5)(gC:a0b B 5)(F:Fun K "law" "law" (top 33) f fd):FnOk P w K mg base CX0 6 f fd ["_law_script"] (spD K 1 m_law .i):=
 fnF F ["_law_script","_law_one","_law_other_here","_law_handed","_law_found","_law_kept","_law_back"] λsc _ _ _ _ _ _ hr=>by exact b8 (i5 1 (t:=(.l (.l .i))) sc.nd (b7 (m9 gv hr (a9 (c7 0) g9)))) (b8 (i5 2 (t:=(.l (.l .i))) sc.nd (b7 (a8L (wt:=(.l (.l .i))) (u:=(.l (.l .i))) gw hr (c7 0) (m9 gY hr (a9 (c7 0) (a9 (o9 1 (u:=(.l (.l .i)))) g9)))))) (b8 (q8 (M':=[mdF,K7,K7,mdD,mdD,mdD,mdD]) (m7 w6 (i4 o6 (i4 a0U (m9 bB hr (a9 (c7 0) (a9 a7 g9))) a7) a7) a7) (b8 (q8 (M':=[mdF,K7,K7,mdD,mdD,mdD,mdD]) (m7 w6 (o7 B.len_ (x9 (o9 1 (u:=(.l (.l .i)))) a7)) a7) (f9 (PSX.weak (M1:=[mdF,K7,mdF,mdD,mdD,mdD,mdD]) (V0 2 (t:=(.l .i)) sc.nd rfl (tn:=["_law_row"]) (ys:=[]) (js:=[]) (mm:=.f) (J3 (PX.newf (c7 2))) rfl (λ_ _ _ _ _=>y9 (i:=0) b1x rfl (cX rfl) (.inr rfl)) O6 (.inr rfl) a6b rfl (λ_ _ _ _ _=>T2) (λ_ _ _ _ _=>(MkL.i (a1b (PX.newf (c7 0)) a0Z (a1a a7))))) (U9 2) o8)) (f9 (PSX.weak (M1:=[mdF,K7,mdF,mdD,mdD,mdD,mdD]) (V0 2 (t:=(.l .i)) sc.nd rfl (tn:=["_law_row"]) (ys:=[]) (js:=[]) (mm:=.f) (J3 (PX.newf (c7 2))) rfl (λ_ _ _ _ _=>y9 (i:=0) b1x rfl (cX rfl) (.inr rfl)) O6 (.inr rfl) a6b rfl (λ_ _ _ _ _=>T2) (λ_ _ _ _ _=>(MkL.i (a1d (PX.newf (c7 0)) (u9 (n:=1) (u:=.i) (c9 (u:=.i) (i9 (c7 0) a7) j6)))))) (U9 2) o8))) (f9 (l5 (b7 (a0X (m9 gr hr (a9 (o9 1 (u:=(.l (.l .i)))) (a9 (o9 2 (u:=(.l (.l .i)))) g9))) (a0W (m9 gr hr (a9 (o9 2 (u:=(.l (.l .i)))) (a9 (o9 1 (u:=(.l (.l .i)))) g9))))))))) m6) (b8 (PSX.weak (M1:=[mdF,mdF,mdF,mdD,mdD,mdD,mdD]) (i5 3 (t:=(.l (.l (.l .i)))) sc.nd (b7 (u9 (n:=2) (u:=(.l (.l .i))) (c9 (u:=(.l (.l .i))) (a0I rfl (tn:=["_law_row"]) (ys:=[]) (js:=[]) (m:=.f) (J3 (PX.newf (c7 1))) rfl (λ_ _ _ _ _=>y9 (i:=0) b1x rfl (cX rfl) (.inr rfl)) O6 (.inr rfl) a6b rfl (λ_ _ _ _ _=>T2) (λ_ _ _ _ _=>(MkL.i (a6a B.list_ (PX.newf (c7 0)))))) (c9 (u:=(.l (.l .i))) (a0I rfl (tn:=["_law_row"]) (ys:=[]) (js:=[]) (m:=.f) (J3 (PX.newf (c7 2))) rfl (λ_ _ _ _ _=>y9 (i:=0) b1x rfl (cX rfl) (.inr rfl)) O6 (.inr rfl) a6b rfl (λ_ _ _ _ _=>T2) (λ_ _ _ _ _=>(MkL.i (a6a B.list_ (PX.newf (c7 0)))))) j6))))) ((U9 1).trans (U9 2)) o8) (b8 (i5 4 (t:=(.tp [.i,(.l .i)])) sc.nd (b7 (m9 fq hr (a9 (x9 (o9 3 (u:=(.l (.l (.l .i))))) a7) (a9 (x9 (o9 3 (u:=(.l (.l (.l .i))))) a7) g9))))) (b8 (q8 (M':=[mdF,mdF,mdF,.own (.l (.l (.l .i))),.own (.tp [.i,(.l .i)]),mdD,mdD]) (PWX.pt (A8 (O2 (m8 (m9 gg hr (a9 (o9 4 (u:=(.tp [.i,(.l .i)]))) (a9 (c7 1) (a9 (c7 2) g9)))))) (D6 (m7 L7 (o9 3 (u:=(.l (.l (.l .i))))) (u9 (n:=2) (u:=.f) (c9 (u:=.f) (PX.newf (c7 1)) (c9 (u:=.f) (PX.newf (c7 2)) j6))))))) (f9 (l5 (b7 C2))) m6) (b8 (J7 4 (u:=(.tp [.i,(.l .i)])) (t:=.i) (Y6 (u:=(.tp [.i,(.l .i)])) (z8 4 (u:=(.tp [.i,(.l .i)]))) a7) (b7 a7) (b4W (k:=1) rfl λ_=>rfl)) (b8 (i5 5 (t:=(.tp [.i,(.l .i)])) sc.nd (b7 (m9 fq hr (a9 (x9 (o9 3 (u:=(.l (.l (.l .i))))) a7) (a9 (x9 (o9 3 (u:=(.l (.l (.l .i))))) a7) g9))))) (b8 (i5 6 (t:=(.tp [.i,(.l .i)])) sc.nd (b7 (m9 fq hr (a9 (x9 (o9 3 (u:=(.l (.l (.l .i))))) a7) (a9 (x9 (o9 3 (u:=(.l (.l (.l .i))))) a7) g9))))) (b8 (J7 3 (u:=(.l (.l (.l .i)))) (t:=(.l .i)) (Y6 (u:=(.l (.l (.l .i)))) (z8 3 (u:=(.l (.l (.l .i))))) a7) (b7 (u9 (n:=0) (u:=.i) j6)) a6e) (b8 (J7 3 (u:=(.l (.l (.l .i)))) (t:=.i) (Y6 (u:=(.l (.l (.l .i)))) (Y6 (u:=(.l (.l (.l .i)))) (z8 3 (u:=(.l (.l (.l .i))))) a7) a7) (b7 (z7 (n:=2) (c9 (u:=.i) a7 (c9 (u:=.i) a7 j6)))) b4V) (f9 (l5 (b7 (a0X (m9 gg hr (a9 (o9 5 (u:=(.tp [.i,(.l .i)]))) (a9 (c7 1) (a9 (c7 2) g9)))) (a0W (m9 gg hr (a9 (o9 6 (u:=(.tp [.i,(.l .i)]))) (a9 (c7 2) (a9 (c7 1) g9)))))))))))))))))))
end Prog
local macro_rules | `(tactic| walk_at "ev")=>`(tactic| simp -implicitDefEqProofs (disch:=first | omega | assumption | decide) only [VS.v_var,VS.v_c,VS.v_1,VS.v_2,VS.b6G,VS.b3n,VS.a6g,VS.b6H,VS.b6I,VS.b5h,VS.b5i,VS.b5j,VS.v_and,VS.v_or,VS.v_not,VS.b6J,VS.a6h,VS.b5k,VS.v6,VS.a6i,VS.b5l,VS.b6K,VS.b3o,VS.b5m,VS.a6j,VS.b3p,VS.b6B,VS.b6C,VS.b6D,VS.b0I,VS.b6E,VS.b6F,VS.b2W,VS.b2X,VS.b2Y,VS.b5c,VS.b5d,VS.b2Z,VS.b3a,VS.b5e,VS.b5f,VS.b3b,VS.b3c,VS.b3d,VS.b3e,VS.b3f,VS.v4,VS.b3g,VS.b3h,VS.b3i,VS.a3d,VS.b3j,VS.b5g,VS.b0J,VS.b3k,VS.b3l,VS.a0J,VS.b3m,VS.v_add,VS.v_sub,VS.v_lt,VS.b6L,VS.b6M,VS.b6N,VS.b5n,VS.b5o,VS.b3q,VS.b3r,VS.b5p,VS.b5q,VS.b5r,VS.b5s,VS.b5t,VS.b5u,VS.v_mod,VS.v_div,VS.b7b,VS.b5I,VS.b5J,VS.trB,VS.b5K,VS.b3J,VS.a9u,VS.b1o,VS.a9v,VS.a9w,VS.b1p,VS.a7B,VS.a5x,VS.a5y,VS.a5z,VS.a7C,VS.a7D,VS.a5A,VS.a5B,VS.a4q,VS.a4r,VS.a4s,VS.a5C,VS.a5D,VS.a4t,VS.isList_list,VS.isList_int,VS.a4u,VS.isList_bool,VS.a5E,VS.isList_str,VS.isList_dict,VS.a4v,VS.isTuple_list,VS.isTuple_int,VS.a0r,VS.a6v,VS.a6w,VS.b5L,VS.b5M,VS.b5N,VS.b7k,VS.a7E,VS.b3K,VS.b3L,VS.b3M,VS.b5P,VS.b5Q,VS.b7l,VS.at0,VS.at1,VS.b5V,VS.b5W,VS.b3S,VS.b1t,VS.b5X,VS.b1u,List.getD_cons_zero,va,fW,dY,fO,fN,cw,cx,bg,e_,Bool.not_false,Bool.true_and,fU,Bool.false_and,Bool.and_false,VS.b7c,VS.b7d,VS.b7e,VS.b7f,VS.b7g,VS.b7h,VS.b7i,VS.b7j,decide_true,decide_false,ao,aA,cY])
namespace Prog
open PySem L2 VS
def K4{ns:List Int}{j:Int}(a:0<=j)(b:j<ns.length):L2.atI (ns.map aX) j=cz (.int (ns.getD j.toNat 0)):=by
 rw[a3e a (by rw[ao];exact b),dO];rw[ai,ah (by lia)];rfl
def a3t(ns:List Int)(k:Int)(h0:0<=k)(h1:k<=100000):m_law_cell [.list (ns.map .int),.int k]=cz (.int (k8 ns k)):=by
 unfold m_law_cell;rw[T7 (by simp[VS.argsOk,imm])];unfold b_law_cell k8;walk_at "ev";by_cases c:k<(ns.length:Int)
 ·rw[aU c,aL c];walk_at "ev";rw[K4 h0 c];walk_at "ev"
 ·rw[bt c,aS c];walk_at "ev";by_cases c2:0<ns.length
  ·rw[aU (by lia:(0:Int)<ns.length),aL c2];walk_at "ev";rw[K4 (cy _ (by lia)) (bQ _ (by lia))];walk_at "ev";rw[O8 (i:=k) (by lia),O8 (i:=16807) (by decide)];walk_at "ev";rw[a8F (by lia)];walk_at "ev"
  ·rw[bt (by lia:¬ (0:Int)<ns.length),aS c2];walk_at "ev";rw[O8 (i:=k) (by lia),O8 (i:=16807) (by decide)];walk_at "ev";rw[a8F (by lia)];walk_at "ev"
end Prog
namespace VS
open PySem L2
abbrev Ky:=List (Int×Int)
def snoc_ind{P:List α->Prop}(h0:P [])(h1:∀l x,P l->P (l++[x]))(l:List α):P l:=by
 have h:∀r:List α,P r.reverse:=by
  intro r
  induction r with
  |nil=>exact h0
  |cons x r ih=>rw[y_];exact h1 _ _ ih
 have:=h l.reverse
 rwa[List.reverse_reverse]at this
def b7q(seen:List Ky)(x:Ky):List Ky:=if x∈seen then seen else seen++[x]
def ded(ks:List Ky):List Ky:=ks.foldl b7q []
def b7r(ks:List Ky):List Int:=ks.map λx=>(((ded ks).idxOf x:Nat):Int)
def rn(r:Ky)(ls:List Int):Ky:=r.map λp=>(p.1,ls.getD p.2.toNat 0)
def lvl(m:k6):Nat->List Int
 |0=>m.map λ_=>0
 |d+1=>b7r (m.map λr=>rn r (lvl m d))
def kf(m:k6):Nat->Ky->Ky
 |0,_=>[]
 |d+1,r=>rn r (lvl m d)
def cls(m:k6)(d:Nat):Nat:=(ded (m.map (kf m d))).length
def lv(m:k6)(d:Nat)(s:Int):Int:=(lvl m d).getD s.toNat 0
def fp:Ky->Ky->Nat
 |x::xs,y::ys=>if x=y then fp xs ys+1 else 0
 |_,_=>0
def fa(m:k6)(d:Nat)(s t:Int):Int:=(fp (rn (rowAt m s) (lvl m d)) (rn (rowAt m t) (lvl m d)):Nat)
theorem a6x{I:Nat->List D->Prop}{Q:List D->Prop}(B:Nat)(step:∀j Z,I j Z->j<=B/\((c Z=cz false/\Q Z)∨(c Z=cz true/\∃Z',g Z=cz (.nx Z')/\I (j+1) Z'))):∀n j Z,I j Z->B<n+j->∃Z',whL c g n Z=cz (.nx Z')/\Q Z'
 |0,j,Z,h,hn=>absurd (step j Z h).1 (by lia)
 |n+1,j,Z,h,hn=>by
  rcases (step j Z h).2 with⟨e,q⟩|⟨e,Z',e2,h2⟩
  ·refine⟨Z,?_,q⟩;show (c Z).bind _=_;rw[e];rfl
  ·obtain⟨Z2,e3,q⟩:=a6x B step n (j+1) Z' h2 (by lia);refine⟨Z2,?_,q⟩;show (c Z).bind _=_;rw[e];show (g Z).bind _=_;rw[e2];exact e3
def b5Z{Z:List D}:sWh (λ_=>n) c g Z=whL c g n Z:=rfl
def b3W(p q:Int×Int):aM (stD p) (stD q)=decide (p=q):=by
 unfold stD;simp only[aM,cL,b1s];rcases p with⟨a,b⟩
 rcases q with⟨c,d⟩
 by_cases h1:a=c<;>by_cases h2:b=d<;>simp[h1,h2]
theorem a2H(p:α->Bool)(f:α->D):∀{xs:List α},(∀x∈xs,∃bs,pt (enc x)=cz bs/\t (bs++cs)=cz (p x)/\(p x=true->g (bs++cs)=cz (f x)))->J4 pt t g cs (xs.map enc)=cz ((xs.filter p).map f)
 |[],_=>rfl
 |x::xs,h=>by
  obtain⟨bs,h1,h2,h3⟩:=h x aD;have ih:=a2H p f (xs:=xs) λe he=>h e (av _ he)
  show (pt (enc x)).bind _=_;rw[h1];show (t (bs++cs)).bind _=_;rw[h2];cases c:p x with
  |true=>
   rw[List.filter_cons_of_pos c];show (g (bs++cs)).bind _=_;rw[h3 c];show (J4 pt t g cs (xs.map enc)).bind _=_;rw[ih];rfl
  |false=>
   rw[List.filter_cons_of_neg (by rw[c];decide)];exact ih
def a6y{js:List Nat}{Z:List D}(p:Nat->Bool)(f:Nat->D)(hf:fi Z=cz (B0 0 n))(hl:n<=1000000)(h:∀k:Nat,k<n->t (.int k::js.map λj=>Z.getD j .none)=cz (p k)/\(p k=true->g (.int k::js.map λj=>Z.getD j .none)=cz (f k))) :
  u8 fi js pt1 t g Z=cz (.list (((aW n).filter p).map f)):=by
 unfold u8;rw[hf];show (if (B0 0 n).length<=1000000 then _ else pz)=_;rw[aL (by rw[a5d];exact hl),G7,a2H (enc:=λ(k:Nat)=>aX k) p f]
 ·rfl
 ·intro x hx;have:=h x (bX.mp hx);exact⟨[.int x],rfl,this.1,this.2⟩
def S6{ns:List Int}:lIs (cz (.list (ns.map .int)))=cz (.list (ns.map .int)):=a6v (y8 _ (λ_=>a6k) ns)
def T5(ks:List Int)(n k:Nat)(b r:Ky):Prop:=r.length=k/\∀a:Nat,a<k->(r.getD a (0,0)).1=(b.getD a (0,0)).1/\0<=(r.getD a (0,0)).2/\(r.getD a (0,0)).2<(n:Int)/\ks.getD (r.getD a (0,0)).2.toNat 0=(b.getD a (0,0)).2
def X6{α:Type}{l:List α}{x d:α}{i:Nat}(h:i<l.length):(l++[x]).getD i d=l.getD i d:=by
 rw[ai,ai,bK h]
def X7{α:Type}{l:List α}{x d:α}:(l++[x]).getD l.length d=x:=by
 rw[ai,bI (aG _),eS];rfl
def a7G{l:Ky}(h:i<l.length):l.getD i (0,0)∈l:=by
 rw[ai,ah h];exact cF _
def a7H{l:List Int}(h:i<l.length):l.getD i 0∈l:=by
 rw[ai,ah h];exact cF _
theorem a2I(f:α->D):∀{xs:List α},(∀x∈xs,∃bs,pt (enc x)=cz bs/\g (bs++cs)=cz (f x))->J4 pt tT g cs (xs.map enc)=cz (xs.map f)
 |[],_=>rfl
 |x::xs,h=>by
  obtain⟨bs,h1,h2⟩:=h x aD;have ih:=a2I f (xs:=xs) λe he=>h e (av _ he)
  show (pt (enc x)).bind _=_;rw[h1];show (g (bs++cs)).bind _=_;rw[h2];show (J4 pt tT g cs (xs.map enc)).bind _=_;rw[ih];rfl
def a0L{js:List Nat}{Z:List D}{xs:List α}(f:α->D)(hf:fi Z=cz (xs.map enc))(hl:xs.length<=1000000)(h:∀x∈xs,∃bs,pt (enc x)=cz bs/\g (bs++js.map λj=>Z.getD j .none)=cz (f x)) :
  u8 fi js pt tT g Z=cz (.list (xs.map f)):=by
 unfold u8;rw[hf];show (if (xs.map enc).length<=1000000 then _ else pz)=_;rw[aL (by rw[ao];exact hl),a2I f h];rfl
def b7s{Z ds:List D}(h:a Z=cz (.list ds)):iEn a Z=cz (J9 ds 0):=by
 unfold iEn;rw[h];rfl
section
variable {β α:Type}[DecidableEq β]
def dd1(W:List (β×α))(c:β×α):List (β×α):=if c.1∈W.map (·.1) then W else W++[c]
def dd(W C:List (β×α)):List (β×α):=C.foldl dd1 W
variable {W C C':List (β×α)}{c:β×α}{t:β}
def V7(h:c.1∈W.map (·.1)):dd1 W c=W:=aL h
def P1(h:c.1∉W.map (·.1)):dd1 W c=W++[c]:=aS h
def a9G:dd W (C++C')=dd (dd W C) C':=by unfold dd;rw[iu]
def X8:dd W (C++[c])=dd1 (dd W C) c:=by rw[a9G];rfl
def a1I(W C:List (β×α)):∃E,dd W C=W++E:=by
 induction C using snoc_ind with
 |h0=>exact⟨[],(bg _).symm⟩
 |h1 C c ih=>
  obtain⟨E,e⟩:=ih;rw[X8];by_cases h:c.1∈(dd W C).map (·.1)
  ·rw[V7 h];exact⟨E,e⟩
  ·rw[P1 h,e];exact⟨E++[c],aI ..⟩
def a1J(h:(W.map (·.1)).Nodup)(C:List (β×α)):((dd W C).map (·.1)).Nodup:=by
 induction C using snoc_ind with
 |h0=>exact h
 |h1 C c ih=>
  rw[X8];by_cases h:c.1∈(dd W C).map (·.1)
  ·rw[V7 h];exact ih
  ·rw[P1 h,bu,cB];refine⟨ih,by simp,λx hx y hy e=>h ?_⟩;rw[kU,ay]at hy;rw[<-hy,<-e];exact hx
def V8(W C:List (β×α)):(dd W C).Sublist (W++C):=by
 induction C using snoc_ind with
 |h0=>rw[bg];exact gj _
 |h1 C c ih=>
  rw[X8,<-aI];by_cases h:c.1∈(dd W C).map (·.1)
  ·rw[V7 h];exact ih.trans (pd _ _)
  ·rw[P1 h];exact ih.append (gj _)
def b3X(W C:List (β×α)):(dd W C).length<=W.length+C.length:=by
 have:=(V8 W C).length_le
 rwa[az]at this
def a9H{R:α->α->Prop}(hR:(W++C).Pairwise λa b=>R a.2 b.2):∀e∈W++C,∃v,(e.1,v)∈dd W C/\(v=e.2∨R v e.2):=by
 induction C using snoc_ind with
 |h0=>
  intro e he;rw[bg]at he;exact⟨e.2,he,.inl rfl⟩
 |h1 C c ih=>
  intro e he;rw[<-aI]at hR he;obtain⟨h1,h2,h3⟩:=du.mp hR;rw[X8];rcases ar.mp he with z|z
  ·obtain⟨v,hv,r⟩:=ih h1 e z;refine⟨v,?_,r⟩;by_cases h:c.1∈(dd W C).map (·.1)
   ·rw[V7 h];exact hv
   ·rw[P1 h];exact aw _ hv
  ·rw[ay.mp z];by_cases h:c.1∈(dd W C).map (·.1)
   ·rw[V7 h];obtain⟨x,hx,ex⟩:=bj.mp h;refine⟨x.2,by rw[<-ex];exact hx,.inr (h3 x ((V8 W C).subset hx) c (by simp))⟩
   ·rw[P1 h];exact⟨c.2,by simp,.inl rfl⟩
end
def a4C{n:Nat}:∀{l:List Int},l.Nodup->(∀x∈l,0<=x/\x<(n:Int))->l.length<=n:=by
 induction n with
 |zero=>
  intro l _ h;cases l with
  |nil=>exact aG _
  |cons x l=>have:=h x (by simp);lia
 |succ n ih=>
  intro l hd h;have h1:=ih (l:=l.erase (n:Int)) (hd.erase _) λx hx=>by
   have h2:=(List.Nodup.mem_erase_iff hd).mp hx;have:=h x h2.2;have:=h2.1;lia
  have h2:=List.length_erase (a:=(n:Int)) (l:=l);by_cases c:(n:Int)∈l
  ·rw[aL c]at h2;lia
  ·rw[aS c]at h2;lia
def wl:List Int->List Int->Prop
 |a::p,b::q=>a<b∨(a=b/\wl p q)
 |_,_=>False
def bf(p q:List Int):Prop:=p.length<q.length∨(p.length=q.length/\wl p q)
theorem a4D:∀{p q r:List Int},wl p q->wl q r->wl p r
 |[],_,_,h,_=>h.elim
 |_::_,[],_,h,_=>h.elim
 |_::_,_::_,[],_,h=>h.elim
 |a::p,b::q,c::r,h,h'=>by
  rcases h with h|⟨e,h⟩<;>rcases h' with h'|⟨e',h'⟩
  ·exact .inl (by lia)
  ·exact .inl (by lia)
  ·exact .inl (by lia)
  ·exact .inr ⟨by lia,a4D h h'⟩
theorem a9I:∀{p q:List Int} (x y:List Int),wl p q->wl (p++x) (q++y)
 |[],_,_,_,h=>h.elim
 |_::_,[],_,_,h=>h.elim
 |a::p,b::q,x,y,h=>by
  rcases h with h|⟨e,h⟩
  ·exact .inl h
  ·exact .inr ⟨e,a9I x y h⟩
theorem a6z:∀(p:List Int) {x y:List Int},wl x y->wl (p++x) (p++y)
 |[],_,_,h=>h
 |a::p,_,_,h=>.inr ⟨rfl,a6z p h⟩
def a4E(h:bf p q)(h':bf q r):bf p r:=by
 rcases h with h|⟨e,h⟩<;>rcases h' with h'|⟨e',h'⟩
 ·exact .inl (by lia)
 ·exact .inl (by lia)
 ·exact .inl (by lia)
 ·exact .inr ⟨by lia,a4D h h'⟩
def a3u(a b:Int)(h:bf p q):bf (p++[a]) (q++[b]):=by
 rcases h with h|⟨e,h⟩
 ·exact .inl (by simp;lia)
 ·exact .inr ⟨by simp[e],a9I _ _ h⟩
def b3Y(h:a<b):bf (p++[a]) (p++[b]):=.inr ⟨by simp,a6z p (.inl h)⟩
abbrev a7I:=List (Int×List Int)
def b6a(m:k6)(k:Nat)(e:Int×List Int):a7I:=(aW k).map λ(a:Nat)=>((stp m e.1 a).2,e.2++[(a:Int)])
abbrev W0:a7I:=[(0,[])]
abbrev Sor(W:a7I):Prop:=W.Pairwise λa b=>bf a.2 b.2
structure Met (m:k6) (k:Nat) (dn W:a7I):Prop where
 eq:W=dd W0 (dn.flatMap (b6a m k))
 pre:∃nw,W=dn++nw
 sor:Sor W
 ql:∀e∈W,e.2.length<=dn.length
structure AllMet (m:k6) (k:Nat) (W:a7I):Prop where
 eq:W=dd W0 (W.flatMap (b6a m k))
 sor:Sor W
 range:∀e∈W,0<=e.1/\e.1<(m.length:Int)
 ql:∀e∈W,e.2.length<=W.length
def a5I{Z:List D}(hv:fv Z=cz d)(hk:fk Z=cz k)(hd:Z.getD i .none=.dict kvs)(hK:A1 kt k=true)(hl:kvs.length<1000000) :
  p5 i kt fk fv Z=cz (.nx (Z.set i (.dict (P2 kvs k d)))):=by
 unfold p5;rw[hv];show (fk Z).bind _=_;rw[hk];show (match Z.getD i .none with|.dict kvs=>_|_=>_)=_;rw[hd];show (if _ then _ else _)=_;rw[aL (by rw[hK,aU hl];rfl)]
def b3Z{Z:List D}(hk:fk Z=cz k)(hv:fv Z=cz d)(hK:A1 kt k=true):eD1 kt fk fv Z=cz (.dict [(k,d)]):=by
 unfold eD1;rw[hk];show (fv Z).bind _=_;rw[hv];show (if _ then _ else _)=_;rw[hK];rfl
section
variable {β:Type}[DecidableEq β]
abbrev w8(β:Type):=List (β×List Int)
def F5(nx:β->Nat->β)(k:Nat)(e:β×List Int):w8 β:=(aW k).map λ(a:Nat)=>(nx e.1 a,e.2++[(a:Int)])
abbrev WB(s:β):w8 β:=[(s,[])]
abbrev a3v(W:w8 β):Prop:=W.Pairwise λa b=>bf a.2 b.2
variable {nx:β->Nat->β}{k:Nat}{s:β}
def a7J(e:β×List Int):a3v (F5 nx k e):=by
 unfold a3v F5;rw[List.pairwise_map];exact rB.imp λh=>b3Y (by lia)
def a5J{V:w8 β}(h:a3v V):a3v (V.flatMap (F5 nx k)):=by
 induction V with
 |nil=>exact lI
 |cons e V ih=>
  obtain⟨h1,h2⟩:=eU.mp h;rw[zb];refine du.mpr ⟨a7J e,ih h2,λx hx y hy=>?_⟩;obtain⟨f,hf,hy⟩:=fJ.mp hy;obtain⟨a,_,rfl⟩:=bj.mp hx;obtain⟨b,_,rfl⟩:=bj.mp hy;exact a3u _ _ (h1 f hf)
def a1K{V:w8 β}(h:a3v V):a3v (WB s++V.flatMap (F5 nx k)):=by
 refine du.mpr ⟨dg ..,a5J h,λx hx y hy=>?_⟩;rw[ay.mp hx];obtain⟨f,hf,hy⟩:=fJ.mp hy;obtain⟨b,_,rfl⟩:=bj.mp hy;exact .inl (by simp)
structure MetB (nx:β->Nat->β) (k:Nat) (s:β) (P:β->Prop) (dn W:w8 β):Prop where
 eq:W=dd (WB s) (dn.flatMap (F5 nx k))
 pre:∃nw,W=dn++nw
 sor:a3v W
 ql:∀e∈W,e.2.length<=dn.length
 ok:∀e∈W,P e.1
def b6b(h:P s):MetB nx k s P [] (WB s):=⟨rfl,⟨WB s,rfl⟩,dg ..,λe he=>by rw[ay.mp he];exact aG _,λe he=>by rw[ay.mp he];exact h⟩
def MetB.nodup{P:β->Prop}{dn W:w8 β}(h:MetB nx k s P dn W):(W.map (·.1)).Nodup:=by rw[h.eq];exact a1J (by simp) _
def MetB.qlen(h:MetB nx k s P dn W)(he:e∈W):e.2.length<=W.length:=by
 have:=h.ql e he;obtain⟨nw,hn⟩:=h.pre;rw[hn,az];lia
def MetB.step(hP:∀b a,P b->a<k->P (nx b a))(h:MetB nx k s P dn W)(hp:W=dn++e::nw):MetB nx k s P (dn++[e]) (dd W (F5 nx k e)):=by
 have hd:a3v (dn++[e]):=by
  have h1:=h.sor;rw[hp]at h1;exact h1.sublist (vc (gj _) (by simp))
 have he:dd W (F5 nx k e)=dd (WB s) ((dn++[e]).flatMap (F5 nx k)):=by
  rw[vb,zb,List.flatMap_nil,bg,a9G,<-h.eq]
 refine⟨he,?_,?_,λf hf=>?_,λf hf=>?_⟩
 ·obtain⟨E,hE⟩:=a1I W (F5 nx k e);exact⟨nw++E,by rw[hE,hp];simp⟩
 ·rw[he];exact (a1K hd).sublist (V8 _ _)
 ·rw[az,bx];rcases ar.mp ((V8 _ _).subset hf) with z|z
  ·have:=h.ql f z;lia
  ·obtain⟨a,_,rfl⟩:=bj.mp z;have:=h.ql e (by rw[hp];simp);simp;lia
 ·rcases ar.mp ((V8 _ _).subset hf) with z|z
  ·exact h.ok f z
  ·obtain⟨a,ha,rfl⟩:=bj.mp z;exact hP e.1 a (h.ok e (by rw[hp];simp)) (bX.mp ha)
structure AllB (nx:β->Nat->β) (k:Nat) (s:β) (P:β->Prop) (W:w8 β):Prop where
 eq:W=dd (WB s) (W.flatMap (F5 nx k))
 sor:a3v W
 ql:∀e∈W,e.2.length<=W.length
 ok:∀e∈W,P e.1
def MetB.all(h:MetB nx k s P W W):AllB nx k s P W:=⟨h.eq,h.sor,λe he=>h.ql e he,h.ok⟩
end
section
variable {β α:Type}[DecidableEq β]
def kvB(key:β->D)(enc:α->D)(W:List (β×α)):List (D×D):=W.map λe=>(key e.1,enc e.2)
structure KeyB (kt:Bool) (key:β->D):Prop where
 eqv:∀a b,aM (key a) (key b)=decide (a=b)
 ok:∀a,A1 kt (key a)=true
 im:∀a,imm (key a)=true
variable {key:β->D}{enc:α->D}{W:List (β×α)}{t:β}{x:α}{kt:Bool}
def b1y:(kvB key enc W).length=W.length:=ao ..
def b1z{V:List (β×α)}:kvB key enc (W++V)=kvB key enc W++kvB key enc V:=bu ..
def a4F(K:KeyB kt key):L5 (kvB key enc W) (key t)=decide (t∈W.map (·.1)):=by
 induction W with
 |nil=>rfl
 |cons e W ih=>
  show (aM (key e.1) (key t)||L5 (kvB key enc W) (key t))=_;rw[K.eqv,ih];by_cases h1:e.1=t
  ·simp[h1]
  ·have h2:t≠e.1:=λz=>h1 z.symm
   simp[h1,h2]
def a4G(K:KeyB kt key)(hn:(W.map (·.1)).Nodup)(h:(t,x)∈W):P3 (kvB key enc W) (key t)=cz (enc x):=by
 induction W with
 |nil=>cases h
 |cons e W ih=>
  rw[aA,cf]at hn;unfold P3 kvB;rw[aA,jm];show Option.map _ (match aM (key e.1) (key t) with|true=>_|false=>_)=_;rw[K.eqv];rcases aF.mp h with z|z
  ·rw[<-z,aU rfl];rfl
  ·have h1:e.1≠t:=λq=>hn.1 (by rw[q];exact bj.mpr ⟨_,z,rfl⟩)
   rw[bt h1];exact ih hn.2 z
def a7K(K:KeyB kt key)(h:t∉W.map (·.1)):P2 (kvB key enc W) (key t) (enc x)=kvB key enc (W++[(t,x)]):=by
 unfold P2;rw[a4F K,bt h,b1z];rfl
def a9J(K:KeyB kt key):dIn neg kt (key t) (.dict (kvB key enc W))=cz (.bool (neg !=decide (t∈W.map (·.1)))):=by
 show (if A1 kt (key t) then cz (fS (neg !=L5 (kvB key enc W) (key t))) else pz)=_;rw[K.ok,a4F K];rfl
def b4a(K:KeyB kt key)(hn:(W.map (·.1)).Nodup)(h:(t,x)∈W):a3f kt (.dict (kvB key enc W)) (key t)=cz (enc x):=by
 show (if A1 kt (key t) then P3 (kvB key enc W) (key t) else pz)=_;rw[K.ok,a4G K hn h];rfl
end
def a9K{β α:Type}[DecidableEq β]{W:List (β×α)}{c:β×α}(h:L<=W.length):((dd1 W c).drop L).map (·.1)=if c.1∈W.map (·.1) then (W.drop L).map (·.1) else (W.drop L).map (·.1)++[c.1]:=by
 by_cases hc:c.1∈W.map (·.1)
 ·rw[V7 hc,aL hc]
 ·rw[P1 hc,aS hc,gF h,bu,kU]
def a9L[DecidableEq β](W C:List (β×α)):W.length<=(dd W C).length:=by
 obtain⟨E,e⟩:=a1I W C;rw[e,az];lia
def b1A[DecidableEq β](C:List (β×α))(h:e∈W):e∈dd W C:=by
 obtain⟨E,q⟩:=a1I W C;rw[q];exact aw _ h
def b6c(h:argsOk us ds=true):fnL us n g gm ds=a0A (g gm (ds++(.none::aB n .none))):=by
 unfold fnL;rw[aL h];cases g gm (ds++(.none::aB n .none)) with
 |none=>rfl
 |some o=>cases o<;>rfl
def b6d{Z ds:List D}(h:f Z=cz ds):b1i m us js fb f Z=m (fnE us (js.map λj=>Z.getD j .none) fb) ds:=by
 unfold b1i;rw[h];rfl
def b6e(h:argsOk us ds=true):fnE us oA f ds=f (ds++oA):=aL h
def prD(p:Int×Int):D:=.tuple [.int p.1,.int p.2]
def prK(q:List (Int×Int)):List (D×D):=q.map λp=>(prD p,fS true)
def b4b(p q:Int×Int):aM (prD p) (prD q)=decide (p=q):=b3W p q
theorem a3w:∀q:List (Int×Int),L5 (prK q) (prD p)=decide (p∈q)
 |[]=>rfl
 |x::q=>by
  show (aM (prD x) (prD p)||L5 (prK q) (prD p))=_;rw[b4b,a3w q];by_cases h1:x=p
  ·simp[h1]
  ·have h2:p≠x:=λz=>h1 z.symm
   simp[h1,h2]
def X9(p:Int×Int):A1 true (prD p)=true:=rfl
def a9M(h:p∉q):P2 (prK q) (prD p) (.bool true)=prK (q++[p]):=by
 unfold P2;rw[a3w,bt h];unfold prK;rw[bu];rfl
def a9N:dIn neg true (prD p) (.dict (prK q))=cz (.bool (neg !=decide (p∈q))):=by
 show (if A1 true (prD p) then cz (fS (neg !=L5 (prK q) (prD p))) else pz)=_;rw[X9,a3w];rfl
def a6A:(prK q).length=q.length:=ao ..
abbrev PW:=List ((Int×Int)×List Int)
def G8{α:Type}{enc:α->D}{set:List D->D->Option (List D)}{g:EvS}{xs:List α}{Z:List D}(I:List α->List D->Prop)(R:D->Prop)(h0:I [] Z)
  (step:∀pre x post,xs=pre++x::post->∀Z,I pre Z->∃Z1,set Z (enc x)=cz Z1/\((∃Z2,g Z1=cz (.nx Z2)/\I (pre++[x]) Z2)∨∃d,g Z1=cz (.rt d)/\R d)) :
  (∃Z',D9 set g (xs.map enc) Z=cz (.nx Z')/\I xs Z')∨∃d,D9 set g (xs.map enc) Z=cz (.rt d)/\R d:=by
 have key:∀(post pre:List α) (Z:List D),xs=pre++post->I pre Z->(∃Z',D9 set g (post.map enc) Z=cz (.nx Z')/\I xs Z')∨∃d,D9 set g (post.map enc) Z=cz (.rt d)/\R d:=by
  intro post
  induction post with
  |nil=>
   intro pre Z e h;rw[bg]at e;subst e;exact .inl ⟨Z,rfl,h⟩
  |cons x post ih=>
   intro pre Z e h;obtain⟨Z1,h1,h2⟩:=step pre x post e Z h;rcases h2 with⟨Z2,h2,h3⟩|⟨d,h2,h3⟩
   ·rcases ih (pre++[x]) Z2 (by rw[e,aI];rfl) h3 with⟨Z',h4,h5⟩|⟨d,h4,h5⟩
    ·refine .inl ⟨Z',?_,h5⟩;show (set Z (enc x)).bind _=_;rw[h1];show (g Z1).bind _=_;rw[h2];exact h4
    ·refine .inr ⟨d,?_,h5⟩;show (set Z (enc x)).bind _=_;rw[h1];show (g Z1).bind _=_;rw[h2];exact h4
   ·refine .inr ⟨d,?_,h3⟩;show (set Z (enc x)).bind _=_;rw[h1];show (g Z1).bind _=_;rw[h2];rfl
 exact key xs [] Z rfl h0
theorem a4H{c:EvT}{g:EvS}{I:Nat->List D->Prop}{Q:List D->Prop}{R:D->Prop}(B:Nat)(step:∀j Z,I j Z->j<=B/\((c Z=cz false/\Q Z)∨(c Z=cz true/\((∃Z',g Z=cz (.nx Z')/\I (j+1) Z')∨∃d,g Z=cz (.rt d)/\R d)))):∀n j Z,I j Z->B<n+j->(∃Z',whL c g n Z=cz (.nx Z')/\Q Z')∨∃d,whL c g n Z=cz (.rt d)/\R d
 |0,j,Z,h,hn=>absurd (step j Z h).1 (by lia)
 |n+1,j,Z,h,hn=>by
  rcases (step j Z h).2 with⟨e,q⟩|⟨e,⟨Z',e2,h2⟩|⟨d,e2,h2⟩⟩
  ·refine .inl ⟨Z,?_,q⟩;show (c Z).bind _=_;rw[e];rfl
  ·rcases a4H B step n (j+1) Z' h2 (by lia) with⟨Z2,e3,q⟩|⟨d,e3,q⟩
   ·refine .inl ⟨Z2,?_,q⟩;show (c Z).bind _=_;rw[e];show (g Z).bind _=_;rw[e2];exact e3
   ·refine .inr ⟨d,?_,q⟩;show (c Z).bind _=_;rw[e];show (g Z).bind _=_;rw[e2];exact e3
  ·refine .inr ⟨d,?_,h2⟩;show (c Z).bind _=_;rw[e];show (g Z).bind _=_;rw[e2];rfl
def b6f:fnO n g [d0,dl]=a0A (g (d0::dl::aB n .none)):=by
 show (g (d0::dl::aB n .none)).bind _=_;cases g (d0::dl::aB n .none) with
 |none=>rfl
 |some o=>cases o<;>rfl
def b6g(h:argsOk us ds=true):fnR us n r ds=r (ds++aB n .none):=aL h
def b6h{Z:List D}(h:fc Z=cz b):rIf fc r1 r2 Z=if b then r1 Z else r2 Z:=by unfold rIf;rw[h];rfl
def b4c{L:List br}{Z:List D}(h:r Z=cz n)(hc:L.contains n=true):a9s L i j g r Z=cz (.nx ((Z.set j .none).set i (.str n))):=by
 unfold a9s;rw[h];exact aL hc
end VS
namespace Prog
open PySem L2 VS
abbrev GA:=List (List Int×List Int)
def k9(a:List Int):D:=.tuple (a.map .int)
def a9O(a b:List Int):aM (k9 a) (k9 b)=decide (a=b):=by
 unfold k9;simp only[aM];exact a4x a b
theorem a0x:∀a:List Int,p9 (a.map aX)=true
 |[]=>by simp only[cY,p9]
 |n::a=>by simp only[aA,p9,B9,a0x a,eG]
def a1L(a:List Int):(k9 a).depth<=7:=by
 unfold k9;simp only[ef];have:=G6 aX 0 (λ_=>by rw[a7F];exact aG _) a;lia
def a7L(a:List Int):B9 (k9 a)=true:=by
 unfold k9;simp only[B9];exact a0x a
def a0c(a:List Int):A1 true (k9 a)=true:=by
 unfold A1;rw[a7L,aU (a1L a)];rfl
structure DdOk (f:Int->List Int×Int) (ss:List Int) (dd:GA):Prop where
 nd:(dd.map (·.1)).Nodup
 keys:∀a,a∈dd.map (·.1)↔∃s∈ss,(f s).1=a
 mem:∀q∈dd,∀e,e∈q.2↔∃s∈ss,f s=(q.1,e)
 nd2:∀q∈dd,q.2.Nodup
 len:dd.length<=ss.length
 b1a:∀q∈dd,q.2.length<=ss.length
theorem a1M:∀as:List (List Int),a2E true (as.map k9)=cz as
 |[]=>rfl
 |a::as=>by
  have h:intsOf (a.map aX)=cz a:=by
   induction a with
   |nil=>rfl
   |cons n a ih=>rw[aA];show (intsOf (a.map aX)).map (n::·)=_;rw[ih];rfl
  rw[aA];show (intsOf (a.map aX)).bind _=_;rw[h,iN,a1M as];rfl
def a1N(a:List Int):imm (k9 a)=true:=by unfold k9;simp only[imm];exact a0j a
end Prog
namespace VS
open PySem L2
section
variable {β:Type}[DecidableEq β]{nx:β->Nat->β}{k:Nat}{s:β}{P:β->Prop}{W:w8 β}
def E5(nx:β->Nat->β)(b:β)(p:List Int):β:=p.foldl (λb a=>nx b a.toNat) b
def AllB.nodup(h:AllB nx k s P W):(W.map (·.1)).Nodup:=by rw[h.eq];exact a1J (by simp) _
def AllB.head(h:AllB nx k s P W):∃E,W=(s,[])::E:=by
 obtain⟨E,e⟩:=a1I (WB s) (W.flatMap (F5 nx k));exact⟨E,h.eq.trans e⟩
def AllB.next(h:AllB nx k s P W){b:β}{p:List Int}(hb:(b,p)∈W){a:Nat}(ha:a<k):∃q,(nx b a,q)∈W/\(q=p++[(a:Int)]∨bf q (p++[(a:Int)])):=by
 obtain⟨v,h1,h2⟩:=a9H (R:=bf) (a1K (s:=s) (nx:=nx) (k:=k) h.sor) (nx b a,p++[(a:Int)]) (aq _ (fJ.mpr ⟨_,hb,bj.mpr ⟨a,bX.mpr ha,rfl⟩⟩));rw[<-h.eq]at h1;exact⟨v,h1,h2⟩
def AllB.leads(h:AllB nx k s P W):∀(n:Nat) {b:β} {p:List Int},p.length<=n->(b,p)∈W->E5 nx s p=b/\∀a∈p,0<=a/\a<(k:Int):=by
 intro n
 induction n with
 |zero=>
  intro b p hl hb;have hp:p=[]:=pS.mp (by lia);subst hp;rw[h.eq]at hb;rcases ar.mp ((V8 _ _).subset hb) with z|z
  ·cases ay.mp z
   exact⟨rfl,λa ha=>(nomatch ha)⟩
  ·obtain⟨e,_,he⟩:=fJ.mp z;obtain⟨a,_,e2⟩:=bj.mp he;exact absurd (Prod.mk.inj e2).2 (by simp)
 |succ n ih=>
  intro b p hl hb;rw[h.eq]at hb;rcases ar.mp ((V8 _ _).subset hb) with z|z
  ·cases ay.mp z
   exact⟨rfl,λa ha=>(nomatch ha)⟩
  ·obtain⟨e,tH,he⟩:=fJ.mp z;obtain⟨a,ha,e2⟩:=bj.mp he;obtain⟨e3,e4⟩:=Prod.mk.inj e2;subst e3 e4;rw[az,bx]at hl;obtain⟨i1,i2⟩:=ih (b:=e.1) (p:=e.2) (by lia) tH;refine⟨?_,λx hx=>?_⟩
   ·unfold E5 at i1 ⊢;rw[iu,i1];simp
   ·rcases ar.mp hx with y|y
    ·exact i2 x y
    ·rw[ay.mp y];have:=bX.mp ha;lia
def AllB.pass(h:AllB nx k s P W)(p:List Int):(∀a∈p,0<=a/\a<(k:Int))->∃q,(E5 nx s p,q)∈W/\(q=p∨bf q p):=by
 induction p using snoc_ind with
 |h0=>
  intro _;obtain⟨E,e⟩:=h.head;exact⟨[],by rw[e];exact aD,.inl rfl⟩
 |h1 p a ih=>
  intro hp;obtain⟨q,q1,q2⟩:=ih λb hb=>hp b (aw _ hb)
  have ha:=hp a (by simp);obtain⟨q',z1,z2⟩:=h.next q1 (a:=a.toNat) (by lia);rw[bD ha.1]at z2;refine⟨q',by unfold E5 at z1 ⊢;rw[iu];exact z1,?_⟩;rcases q2 with e|e
  ·rw[e]at z2;exact z2
  ·rcases z2 with f|f
   ·rw[f];exact .inr (a3u a a e)
   ·exact .inr (a4E f (a3u a a e))
def b1B(c:β->Bool)(W:w8 β):Option (List Int):=(W.find? λe=>c e.1).map (·.2)
theorem a1O:∀{l:List α},l.Pairwise R->∀x∈l,c x=true->∃y,l.find? c=cz y/\(y=x∨R y x)
 |a::l,hp,x,hx,hc=>by
  rw[eU]at hp;rw[jm];cases h:c a with
  |true=>
   refine⟨a,rfl,?_⟩;rcases aF.mp hx with e|e
   ·exact .inl e.symm
   ·exact .inr (hp.1 x e)
  |false=>
   rcases aF.mp hx with e|e
   ·rw[<-e,hc]at h;cases h
   ·exact a1O hp.2 x e hc
def a5K(h:AllB nx k s P W)(hp:∀a∈p,0<=a/\a<(k:Int))(hc:c (E5 nx s p)=true):∃q,b1B c W=cz q/\(q=p∨bf q p):=by
 obtain⟨q,q1,q2⟩:=h.pass p hp;obtain⟨y,y1,y2⟩:=a1O (c:=λe=>c e.1) h.sor _ q1 hc;refine⟨y.2,by unfold b1B;rw[y1];rfl,?_⟩;rcases y2 with e|e
 ·rw[e];exact q2
 ·rcases q2 with f|f
  ·rw[f]at e;exact .inr e
  ·exact .inr (a4E e f)
end
def b7t(ns:List Int):List Int:=srt (dis ns)
def nxS(m:k6)(b:List Int)(a:Nat):List Int:=b7t (b.map λs=>(stp m s a).2)
theorem b1X[DecidableEq α]:∀{l L:List α},l.Nodup->(∀x∈l,x∈L)->l.length<=L.length
 |[],_,_,_=>cW _
 |a::l,L,hn,h=>by
  rw[cf]at hn;have ha:=h a aD;have:=b1X (l:=l) (L:=L.erase a) hn.2 λx hx=>(List.mem_erase_of_ne (show x≠a from λe=>hn.1 (e▸hx))).mpr (h x (av _ hx))
  rw[List.length_erase_of_mem ha]at this;have:=rD ha;rw[aO];lia
structure Gat (m:k6) (k:Nat) (b:List Int) (o:Option (List Int)):Prop where
 ok:∀q,o=cz q->(∀a∈q,0<=a/\a<(k:Int))/\(E5 (nxS m) b q).length=1
 least:∀p,(∀a∈p,0<=a/\a<(k:Int))->(E5 (nxS m) b p).length=1->∃q,o=cz q/\(q=p∨bf q p)
def nx2(m n:k6)(b:List Int)(a:Nat):List Int:=[(stp m (b.getD 0 0) a).2,(stp n (b.getD 1 0) a).2]
def Pr2(m n:k6)(b:List Int):Prop:=∃x y:Int,b=[x,y]/\0<=x/\x<m.length/\0<=y/\y<n.length
def un1(m n:k6)(b:List Int)(a:Nat):Bool:=!decide ((stp m (b.getD 0 0) a).1=(stp n (b.getD 1 0) a).1)
def un2(m n:k6)(k:Nat)(b:List Int):List Nat:=(aW k).filter (un1 m n b)
def c2(m n:k6)(k:Nat)(b:List Int):Bool:=!(un2 m n k b).isEmpty
def Y0{m n:k6}{k:Nat}{b:List Int}:c2 m n k b=false↔∀a,a<k->un1 m n b a=false:=by
 unfold c2 un2;rw[xx,List.isEmpty_iff,List.filter_eq_nil_iff];exact⟨λh a ha=>by simpa using h a (bX.mpr ha),λh a ha=>by rw[h a (bX.mp ha)];exact bU⟩
def Pr2.nx{m n:k6}{k:Nat}(w:WF m k)(w':WF n k){b:List Int}(h:Pr2 m n b){a:Nat}(ha:a<k):Pr2 m n (nx2 m n b a):=by
 obtain⟨x,y,rfl,x0,x1,y0,y1⟩:=h;have h1:=w.next _ (N7 x0 x1) _ (a3p w x0 x1 (a:=(a:Int)) (by lia) (by lia));have h2:=w'.next _ (N7 y0 y1) _ (a3p w' y0 y1 (a:=(a:Int)) (by lia) (by lia));exact⟨_,_,rfl,h1.1,h1.2,h2.1,h2.2⟩
def S7{m n:k6}(l:List (List Int))(h1:l.Nodup)(h2:∀b∈l,Pr2 m n b):l.length<=m.length*n.length:=by
 have:=b1X (L:=(aW m.length).flatMap λ(x:Nat)=>(aW n.length).map λ(y:Nat)=>[(x:Int),(y:Int)]) h1 (λb hb=>by
  obtain⟨x,y,rfl,x0,x1,y0,y1⟩:=h2 b hb;refine fJ.mpr ⟨x.toNat,bX.mpr (by lia),bj.mpr ⟨y.toNat,bX.mpr (by lia),?_⟩⟩;rw[bD x0,bD y0])
 refine bZ this (Nat.le_of_eq ?_);have:∀j:Nat,((aW j).flatMap λ(x:Nat)=>(aW n.length).map λ(y:Nat)=>[(x:Int),(y:Int)]).length=j*n.length:=λj=>by
  induction j with
  |zero=>simp
  |succ j ih=>rw[List.range_succ,vb,az,ih,Nat.add_mul];simp
 exact this _
theorem a0d{m n:k6}:∀(p:List Int) (x y:Int),(∀a∈p,0<=a)->E5 (nx2 m n) [x,y] p=[(i8 m x p).2,(i8 n y p).2]
 |[],x,y,_=>rfl
 |a::p,x,y,h=>by
  have ha:=h a aD;show E5 (nx2 m n) [(stp m x (a.toNat:Nat)).2,(stp n y (a.toNat:Nat)).2] p=_;rw[bD ha,a0d p _ _ λb hb=>h b (av _ hb)];rfl
def a9P{β:Type}{nx:β->Nat->β}(b:β)(p q:List Int):E5 nx b (p++q)=E5 nx (E5 nx b p) q:=by
 unfold E5;rw[iu]
theorem a1P:∀(l:List D) (j:Nat),J9 l j=(aW l.length).map λ(s:Nat)=>ee [.int ((j+s:Nat):Int),l.getD s .none]
 |[],_=>rfl
 |n::ls,k=>by
  show ee [.int k,n]::J9 ls (k+1)=_;rw[a1P ls (k+1),aO,List.range_succ_eq_map,aA,dI]
  congr 1;refine dE λs _=>?_
  show ee [.int ((k+1+s:Nat):Int),ls.getD s .none]=.tuple [.int ((k+(s+1):Nat):Int),(n::ls).getD (s+1) .none];rw[va,iA,Nat.add_comm 1]
def a3x(f:Nat->D)(k:Nat):J9 ((aW k).map f) 0=(aW k).map λ(a:Nat)=>ee [.int (a:Int),f a]:=by
 rw[a1P,ao,cQ];refine dE λa ha=>?_
 have h:=bX.mp ha;rw[Nat.zero_add,ai,bE,km h];rfl
end VS
namespace Prog
open PySem L2 VS
abbrev iDl:List Int->D:=λns=>.list (ns.map .int)
abbrev kLs{β:Type}(key:β->D)(l:List β):D:=.list (l.map key)
def a9Q[DecidableEq β](K:KeyB true key){gm:List D->Option D}(hk:k<=5){W:w8 β}{q:List Int}(hq:(b,q)∈W)(kA:(W.map (·.1)).Nodup)(hL:L<=W.length)(hW:W.length<=1000)(oM:q.length<=1000)(s0 qf x y:D) :
  ∃x' y',D9 (T6 6 7) ((sIf (tB (e2 (dIn true true) (a5 7) (a5 2))) (c6 (p5 2 true (a5 7) (eI (O5 (e2 (a3f true) (a5 2) (a5 5)) (u7 (a6 (a5 6) b9))))) (n6 4 (.l .i) i7 (a5 7))) i6)) ((aW k).map λ(a:Nat)=>ee [.int (a:Int),key (nx b a)]) [s0,.none,.dict (kvB key iDl W),qf,kLs key ((W.drop L).map (·.1)),key b,x,y] =
   cz (.nx [s0,.none,.dict (kvB key iDl (dd W (F5 nx k (b,q)))),qf,kLs key (((dd W (F5 nx k (b,q))).drop L).map (·.1)),key b,x',y']):=by
 obtain⟨Z',g1,x',y',rfl⟩:=X5 (enc:=λ(a:Nat)=>ee [.int (a:Int),key (nx b a)]) (set:=T6 6 7) (xs:=aW k) (g:=(sIf (tB (e2 (dIn true true) (a5 7) (a5 2))) (c6 (p5 2 true (a5 7) (eI (O5 (e2 (a3f true) (a5 2) (a5 5)) (u7 (a6 (a5 6) b9))))) (n6 4 (.l .i) i7 (a5 7))) i6))
  (Z:=[s0,.none,.dict (kvB key iDl W),qf,kLs key ((W.drop L).map (·.1)),key b,x,y])
  (λpre Z=>∃x y,Z=[s0,.none,.dict (kvB key iDl (dd W (pre.map λ(a:Nat)=>(nx b a,q++[(a:Int)])))),qf,kLs key (((dd W (pre.map λ(a:Nat)=>(nx b a,q++[(a:Int)]))).drop L).map (·.1)),key b,x,y]) ⟨x,y,rfl⟩ (by
   rintro pre a post e Z ⟨x,y,rfl⟩;obtain⟨ea,ha,_⟩:=B7 e;have mW:=a1J kA (pre.map λ(a:Nat)=>(nx b a,q++[(a:Int)]));have jI:=b1A (pre.map λ(a:Nat)=>(nx b a,q++[(a:Int)])) hq;have hlen:=b3X W (pre.map λ(a:Nat)=>(nx b a,q++[(a:Int)]));have Ax:=a9L W (pre.map λ(a:Nat)=>(nx b a,q++[(a:Int)]));have fB:(pre.map λ(a:Nat)=>(nx b a,q++[(a:Int)])).length<=5:=by rw[ao];lia
   rw[bu,kU,X8];generalize dd W (pre.map λ(a:Nat)=>(nx b a,q++[(a:Int)]))=V at mW jI hlen Ax;have wo:=b4a (enc:=iDl) K mW jI;by_cases c:nx b a∈V.map (·.1)
   ·refine⟨_,[s0,.none,.dict (kvB key iDl V),qf,kLs key ((V.drop L).map (·.1)),key b,.int a,key (nx b a)],rfl,?_,_,_,by rw[V7 c]⟩;have jh:dIn true true (key (nx b a)) (.dict (kvB key iDl V))=cz (.bool false):=by rw[a9J K,aU c];rfl
    walk_at "ev";rw[jh];walk_at "ev"
   ·have jh:dIn true true (key (nx b a)) (.dict (kvB key iDl V))=cz (.bool true):=by rw[a9J K,bt c];rfl
    have yr:=a9K (W:=V) (c:=(nx b a,q++[(a:Int)])) (L:=L) (by lia);rw[aS c]at yr;refine⟨_,[s0,.none,.dict (kvB key iDl (dd1 V (nx b a,q++[(a:Int)]))),qf,kLs key (((dd1 V (nx b a,q++[(a:Int)])).drop L).map (·.1)),key b,.int a,key (nx b a)],rfl,?_,_,_,rfl⟩;have we:(((V.drop L).map (·.1)).map key).length<1000000:=by rw[ao,ao,fK];lia
    have qx:eI (O5 (e2 (a3f true) (a5 2) (a5 5)) (u7 (a6 (a5 6) b9))) [s0,.none,.dict (kvB key iDl V),qf,kLs key ((V.drop L).map (·.1)),key b,.int a,key (nx b a)]=cz (iDl (q++[(a:Int)])):=by
     rw[a0r,a4y];walk_at "ev";rw[wo,a1C (by rw[ao];simp;lia)];show lIs (cz (.list (q.map .int++[.int a])))=_;rw[show q.map aX++[aX a]=(q++[(a:Int)]).map .int by rw[bu];rfl,S6]
    walk_at "ev";rw[jh];walk_at "ev";rw[a5I (k:=key (nx b a)) (kvs:=kvB key iDl V) qx (by walk_at "ev") (by rfl) (K.ok _) (by rw[b1y];lia),a7K K c,<-P1 (W:=V) (c:=(nx b a,q++[(a:Int)])) c];walk_at "ev";rw[yr];unfold kLs;rw[bu];rfl)
 exact⟨x',y',g1⟩
def b1C[DecidableEq β](K:KeyB true key)(hk:k<=5)(h0:P s)(hP:∀b a,P b->a<k->P (nx b a))(hg:∀b,P b->gm [key b]=cz (.list ((aW k).map λ(a:Nat)=>key (nx b a))))
  (hB:∀l:List β,l.Nodup->(∀b∈l,P b)->l.length<=B) (Dd:B<=900):∃W:w8 β,E4 gm [key s]=cz (.dict (kvB key iDl W))/\AllB nx k s P W:=by
 have len:∀{dn W:w8 β},MetB nx k s P dn W->W.length<=B:=λ{dn W} h=>by
  have:=hB _ h.nodup λb hb=>by
   obtain⟨e,he,rfl⟩:=bj.mp hb;exact h.ok e he
  rwa[ao]at this
 unfold E4;rw[b6c (by simp[VS.argsOk,K.im])];unfold a0s;have wg:=K.ok s;walk_at "ev";rw[b3Z (k:=key s) (d:=.list []) (by walk_at "ev") (by walk_at "ev") wg];walk_at "ev";refine X3 (R:=λr=>∃W:w8 β,r=cz (.dict (kvB key iDl W))/\AllB nx k s P W) (λZ=>∃W x y z u v,Z=[key s,.none,.dict (kvB key iDl W),x,y,z,u,v]/\AllB nx k s P W) ?_ ?_
 ·rw[b5Z];obtain⟨Z',g1,W,x,y,z,u,v,rfl,hA⟩:=a6x (c:=(tV (a5 3))) (g:=(c6 (e7 4 (u7 b9)) (c6 (r8 (iI (iL (a5 3))) (n9 5) (r8 (iI (iEn (eCl gm (a6 (a5 5) b9)))) (T6 6 7) (sIf (tB (e2 (dIn true true) (a5 7) (a5 2))) (c6 (p5 2 true (a5 7) (eI (O5 (e2 (a3f true) (a5 2) (a5 5)) (u7 (a6 (a5 6) b9))))) (n6 4 (.l .i) i7 (a5 7))) i6))) (e7 3 (a5 4)))))
   (I:=λj Z=>∃(dn nw W:w8 β) (y z u v:D),W=dn++nw/\MetB nx k s P dn W/\j<=dn.length/\Z=[key s,.none,.dict (kvB key iDl W),kLs key (nw.map (·.1)),y,z,u,v])
   (Q:=λZ=>∃W x y z u v,Z=[key s,.none,.dict (kvB key iDl W),x,y,z,u,v]/\AllB nx k s P W) 900 (by
    rintro j Z ⟨dn,nw,W,y,z,u,v,hW,hM,hj,rfl⟩;have Bx:=len hM;have CU:dn.length<=W.length:=by rw[hW,az];lia
    refine⟨by lia,?_⟩;cases nw with
    |nil=>
     rw[bg]at hW;rw[<-hW]at hM;exact .inl ⟨by walk_at "ev";rfl,W,_,_,_,_,_,rfl,hM.all⟩
    |cons e0 nw=>
     refine .inr ⟨by walk_at "ev";rfl,?_⟩;obtain⟨Z',g1,V,z',u',v',rfl,hV,rW⟩:=X5 (enc:=λ(e:β×List Int)=>key e.1) (set:=n9 5) (xs:=e0::nw) (g:=(r8 (iI (iEn (eCl gm (a6 (a5 5) b9)))) (T6 6 7) (sIf (tB (e2 (dIn true true) (a5 7) (a5 2))) (c6 (p5 2 true (a5 7) (eI (O5 (e2 (a3f true) (a5 2) (a5 5)) (u7 (a6 (a5 6) b9))))) (n6 4 (.l .i) i7 (a5 7))) i6)))
      (Z:=[key s,.none,.dict (kvB key iDl W),kLs key ((e0::nw).map (·.1)),.list [],z,u,v])
      (λpre Z=>∃(V:w8 β) (z u v:D),Z=[key s,.none,.dict (kvB key iDl V),kLs key ((e0::nw).map (·.1)),kLs key ((V.drop W.length).map (·.1)),z,u,v]/\(∃E,V=W++E)/\MetB nx k s P (dn++pre) V)
      ⟨W,z,u,v,by rw[gx];rfl,⟨[],by rw[bg]⟩,by rw[bg];exact hM⟩ (by
       rintro pre e post he Z ⟨V,z,u,v,rfl,⟨E,hE⟩,rW⟩;obtain⟨b,q⟩:=e;have x_:(b,q)∈W:=by rw[hW,he];simp
       have ya:(b,q)∈V:=by rw[hE];exact aw _ x_
       have hs:P b:=hM.ok _ x_;have C_:=len rW;have oM:q.length<=1000:=by
        have yc:q.length<=V.length:=rW.qlen ya;lia
       have jf:MetB nx k s P ((dn++pre)++[(b,q)]) (dd V (F5 nx k (b,q))):=rW.step hP (nw:=post++E) (by rw[hE,hW,he];simp);obtain⟨x',y',g⟩:=a9Q K (gm:=gm) (nx:=nx) hk ya rW.nodup (L:=W.length) (by rw[hE,az];lia) (by lia) oM (key s) (kLs key ((e0::nw).map (·.1))) u v;refine⟨_,_,rfl,?_,dd V (F5 nx k (b,q)),key b,x',y',rfl,?_,by rw[<-aI];exact jf⟩
       ·have AS:=hg b hs;walk_at "ev";rw[a7E (ds:=(aW k).map λ(a:Nat)=>ee [.int (a:Int),key (nx b a)]) (by rw[b7s (ds:=(aW k).map λ(a:Nat)=>key (nx b a)) (by walk_at "ev";exact AS),a3x]) (y8 _ (λj=>by simp only[imm,f8,K.im,eG]) _)];walk_at "ev";exact g
       ·obtain⟨E2,BD⟩:=a1I V (F5 nx k (b,q));exact⟨E++E2,by rw[BD,hE,aI]⟩)
     obtain⟨E,hE⟩:=hV;refine⟨[key s,.none,.dict (kvB key iDl V),kLs key (E.map (·.1)),kLs key ((V.drop W.length).map (·.1)),z',u',v'],?_,dn++(e0::nw),E,V,_,_,_,_,by rw[hE,hW],rW,?_,rfl⟩
     ·walk_at "ev";rw[a7E (ds:=(e0::nw).map λe=>key e.1) (by walk_at "ev";rw[dI];rfl) (y8 _ (λ_=>K.im _) _)];walk_at "ev";refine a9y (λZ=>Z=[key s,.none,.dict (kvB key iDl V),kLs key ((e0::nw).map (·.1)),kLs key ((V.drop W.length).map (·.1)),z',u',v']) ⟨_,g1,rfl⟩ ?_;rintro Z rfl;walk_at "ev";rw[hE,List.drop_left]
     ·rw[az,aO];lia) 1000000 0 [key s,.none,.dict [(key s,.list [])],.list [key s],.none,.none,.none,.none] ⟨[],WB s,WB s,_,_,_,_,rfl,b6b h0,aG _,rfl⟩ (by lia)
  exact⟨_,g1,W,x,y,z,u,v,rfl,hA⟩
 ·rintro Z ⟨W,x,y,z,u,v,rfl,hA⟩;walk_at "ev";exact⟨W,rfl,hA⟩
def a9R{m:k6}{k:Nat}(w:WF m k):z9 [.list (m.map rwD)]=cz (.int (k:Nat)):=by
 have mU:=w.pos;have e0:(rowAt m 0).length=k:=w.row (by lia) (by lia);unfold z9;rw[T7 (by simp[VS.argsOk])];unfold Z8;walk_at "ev";rw[B8 (by lia) (by lia)];walk_at "ev";rw[e0]
theorem a4I:∀r s:List (Int×Int),X2 (r.map stD) (s.map stD)=(r.zip s).map λp=>ee [stD p.1,stD p.2]
 |[],_=>by simp[X2]
 |_::_,[]=>by simp[X2]
 |a::r,b::s=>by rw[aA,aA,X2,a4I r s];rfl
def a7M{α:Type}{r s:List (Int×Int)}{k:Nat}(h1:r.length=k)(h2:s.length=k)(f:(Int×Int)×(Int×Int)->α):(r.zip s).map f=(aW k).map λ(a:Nat)=>f (r.getD a (0,0),s.getD a (0,0)):=by
 apply Ci
 ·simp[h1,h2]
 intro i q1 q2;rw[ao,nr]at q1;rw[dO,dO,xt,List.getElem_zip];rw[ai,ai,ah (by lia),ah (by lia)];rfl
def a9S{r s:List (Int×Int)}{k:Nat}(hk:k<=5)(h1:r.length=k)(h2:s.length=k):t6 [rwD r,rwD s]=cz (.list ((aW k).map λ(a:Nat)=>k9 [(r.getD a (0,0)).2,(s.getD a (0,0)).2])):=by
 unfold t6;rw[T7 (by simp[VS.argsOk])];unfold R9;have hz:iZ (a5 0) (a5 1) [rwD r,rwD s]=cz ((r.zip s).map λp=>ee [stD p.1,stD p.2]):=by
  show cz (X2 (r.map stD) (s.map stD))=_;rw[a4I]
 have hc:u8 (iI (iZ (a5 0) (a5 1))) [] pt2 tT (n8 (a6 (e2 a8 (a5 0) (eC (.int 1))) (a6 (e2 a8 (a5 1) (eC (.int 1))) b9))) [rwD r,rwD s]=cz (.list ((r.zip s).map λp=>k9 [p.1.2,p.2.2])):=by
  refine a0L (enc:=λ(p:(Int×Int)×(Int×Int))=>ee [stD p.1,stD p.2]) (xs:=r.zip s) (λp=>k9 [p.1.2,p.2.2]) (a7E hz (y8 _ (λp=>by simp only[stD,imm,f8];rfl) _)) (by rw[nr];lia) λp _=>⟨[stD p.1,stD p.2],rfl,?_⟩
  show n8 (a6 (e2 a8 (a5 0) (eC (.int 1))) (a6 (e2 a8 (a5 1) (eC (.int 1))) b9)) [stD p.1,stD p.2]=_;rfl
 walk_at "ev";rw[hc,a7M h1 h2];rfl
def a9T{r s:List (Int×Int)}{k:Nat}(hk:k<=5)(h1:r.length=k)(h2:s.length=k):v5 [rwD r,rwD s]=cz (.list (((aW k).filter λ(a:Nat)=>!decide ((r.getD a (0,0)).1=(s.getD a (0,0)).1)).map λ(a:Nat)=>aX a)):=by
 unfold v5;rw[T7 (by simp[VS.argsOk])];unfold U2;have hc:u8 (iR (eCl l8 (a6 (a5 0) b9))) [0,1] pt1 (tB (e2 dNe (e2 a8 (e2 a8 (a5 1) (a5 0)) (eC (.int 0))) (e2 a8 (e2 a8 (a5 2) (a5 0)) (eC (.int 0))))) (a5 0) [rwD r,rwD s]=cz (.list (((aW k).filter λ(a:Nat)=>!decide ((r.getD a (0,0)).1=(s.getD a (0,0)).1)).map λ(a:Nat)=>aX a)):=by
  refine a6y (n:=k) (λ(a:Nat)=>!decide ((r.getD a (0,0)).1=(s.getD a (0,0)).1)) (λa=>.int a) (by rw[a0B (n:=k) (by unfold rwD;walk_at "ev";rw[h1]) (by lia) (by lia)];rfl) (by lia) λa ha=>⟨?_,λ_=>rfl⟩
  show tB (e2 dNe (e2 a8 (e2 a8 (a5 1) (a5 0)) (eC (.int 0))) (e2 a8 (e2 a8 (a5 2) (a5 0)) (eC (.int 0)))) [.int a,rwD r,rwD s]=_;walk_at "ev";rw[L8 (by lia) (by lia),L8 (by lia) (by lia)];walk_at "ev";rw[bF]
 walk_at "ev";rw[hc];rfl
def a4J:KeyB true k9:=⟨a9O,a0c,a1N⟩
def a4K{α:Type}{enc:α->D}(W:List (List Int×α)):(kvB k9 enc W).map (·.1)=(W.map (·.1)).map k9:=by unfold kvB;rw[dI,dI];rfl
def a5L(W:List (List Int×α)):keysOk true (kvB k9 enc W)=true:=by
 unfold keysOk kvB;rw[cZ];intro x hx;obtain⟨e,_,rfl⟩:=bj.mp hx;exact a0c _
def b4d{l:List (List Int)}(h:∀b∈l,b.length=2):H9 (l.map k9)=false:=by
 cases l with
 |nil=>rfl
 |cons b l=>
  have hb:=h b aD
  match b,hb with
  |[x,y],_=>
   unfold H9 k9
   split
   ·rename_i q;simp at q
   ·rfl
def b4e{α:Type}{enc:α->D}{W:List (List Int×α)}{f:EvE}{Z:List D}(h:f Z=cz (.dict (kvB k9 enc W)))(hi:∀e∈W,e.1.length=2):iDk f Z=cz (W.map λe=>k9 e.1):=by
 unfold iDk;rw[h];show (if H9 ((kvB k9 enc W).map (·.1)) then pz else cz ((kvB k9 enc W).map (·.1)))=_;rw[a4K,b4d λb hb=>by obtain⟨e,he,rfl⟩:=bj.mp hb;exact hi e he,dI];rfl
def b4f{α:Type}{enc:α->D}{W:List (List Int×α)}(hn:(W.map (·.1)).Nodup){c:List Int}{x:α}(h:(c,x)∈W):a5k true (.dict (kvB k9 enc W)) (k9 c)=cz (enc x):=by
 show (if A1 true (k9 c)&&keysOk true (kvB k9 enc W) then P3 (kvB k9 enc W) (k9 c) else pz)=_;rw[a0c,a5L,a4G a4J hn h];rfl
def b7u{l:List (List Int)}(hl:l.length<65536)(hi:∀b∈l,b.length=2):okK true l=true:=by
 unfold okK;rw[aU hl,Bool.true_and];have:(l.all λns=>!ns.isEmpty)=true:=by
  rw[cZ];intro b hb;have:=hi b hb
  match b,this with
  |[x,y],_=>rfl
 rw[this,Bool.or_true]
def a4L{l:List (List Int)}(hl:l.length<65536)(hi:∀b∈l,b.length=2):Z6 true (l.map k9)=cz (.list ((P4 l).map k9)):=by
 unfold Z6;rw[a1M,iN,aL (b7u hl hi)];rfl
def a0F(m n:k6)(k:Nat)(W:w8 (List Int)):D:=match W.find? λe=>c2 m n k e.1 with
 |some e=>.tuple [.str "unlike",iD (e.2++[(((un2 m n k e.1).getD 0 0:Nat):Int)])]
 |none=>.tuple [.str "alike",.list ((P4 (W.map (·.1))).map k9)]
def a2J{m n:k6}{k:Nat}(w:WF m k)(w':WF n k)(hB:m.length*n.length<=900):∃W:w8 (List Int),AllB (nx2 m n) k [0,0] (Pr2 m n) W/\D4 [.list (m.map rwD),.list (n.map rwD)]=cz (a0F m n k W):=by
 have hk:=w.k5;have hp:=w.pos;have sU:=w'.pos;obtain⟨W,hW,hA⟩:=b1C (key:=k9) a4J (gm:=fnE [.i] ([0,1].map λj=>([.list (m.map rwD),.list (n.map rwD)]:List D).getD j .none) (eCl t6 (a6 (e2 dIx (a5 1) (e2 a8 (a5 0) (eC (.int 0)))) (a6 (e2 dIx (a5 2) (e2 a8 (a5 0) (eC (.int 1)))) b9)))) (nx:=nx2 m n) (k:=k) (by lia) (s:=[0,0]) (P:=Pr2 m n) ⟨0,0,rfl,by lia,by lia,by lia,by lia⟩ (λc a hc ha=>hc.nx w w' ha)
  (λc hc=>by
   obtain⟨x,y,rfl,x0,x1,y0,y1⟩:=hc;rw[b6e (by simp[VS.argsOk,a1N])];show eCl t6 (a6 (e2 dIx (a5 1) (e2 a8 (a5 0) (eC (.int 0)))) (a6 (e2 dIx (a5 2) (e2 a8 (a5 0) (eC (.int 1)))) b9)) [.tuple [.int x,.int y],.list (m.map rwD),.list (n.map rwD)]=_;walk_at "ev";rw[B8 x0 x1]
   try walk_at "ev"
   rw[B8 y0 y1]
   try walk_at "ev"
   rw[a9S hk (w.row x0 x1) (w'.row y0 y1)];rfl) (B:=m.length*n.length) S7 hB
 refine⟨W,hA,?_⟩;have uT:∀e∈W,e.1.length=2:=λe he=>by obtain⟨x,y,h,_⟩:=hA.ok e he;rw[h];rfl
 have Bx:W.length<=900:=by
  have:=S7 (W.map (·.1)) hA.nodup λc hc=>by obtain⟨e,he,rfl⟩:=bj.mp hc;exact hA.ok e he
  rw[ao]at this;lia
 unfold D4;rw[T7 (by simp[VS.argsOk])];unfold a2G;walk_at "ev";rw[a9R w,a9R w'];walk_at "ev";rw[b6d (ds:=[k9 [0,0]]) (by walk_at "ev";rfl)];rw[show E4 (fnE [.i] (List.map (λj=>([.list (m.map rwD),.list (n.map rwD),.none,.none,.none]:List D).getD j .none) [0,1]) (eCl t6 (a6 (e2 dIx (a5 1) (e2 a8 (a5 0) (eC (.int 0)))) (a6 (e2 dIx (a5 2) (e2 a8 (a5 0) (eC (.int 1)))) b9)))) [k9 [0,0]]=_ from hW];walk_at "ev";rw[a7E (ds:=W.map λe=>k9 e.1) (b4e (enc:=iDl) (by walk_at "ev") uT) (y8 _ (λ_=>a1N _) _)];walk_at "ev";rcases G8 (enc:=λ(e:List Int×List Int)=>k9 e.1) (set:=n9 3) (xs:=W) (g:=(c6 (e7 4 (eCl v5 (a6 (e2 dIx (a5 0) (e2 a8 (a5 3) (eC (.int 0)))) (a6 (e2 dIx (a5 1) (e2 a8 (a5 3) (eC (.int 1)))) b9)))) (sIf (tV (a5 4)) (k7 (n8 (a6 (eC (.str "unlike")) (a6 (eI (O5 (e2 (a5k true) (a5 2) (a5 3)) (u7 (a6 (e2 s9 (a5 4) (eC (.int 0))) b9)))) b9)))) i6))) (Z:=[.list (m.map rwD),.list (n.map rwD),.dict (kvB k9 iDl W),.none,.none])
  (λpre Z=>(∃x y,Z=[.list (m.map rwD),.list (n.map rwD),.dict (kvB k9 iDl W),x,y])/\∀e∈pre,c2 m n k e.1=false) (λd=>d=a0F m n k W) ⟨⟨_,_,rfl⟩,λe he=>(nomatch he)⟩ (by
   rintro pre ⟨c,q⟩ post e Z ⟨⟨x,y,rfl⟩,jH⟩;have wI:(c,q)∈W:=by rw[e];simp
   obtain⟨u,v,hc,u0,u1,v0,v1⟩:=hA.ok _ wI;have hc:c=[u,v]:=hc;have Ab:v5 [rwD (rowAt m u),rwD (rowAt n v)]=cz (.list ((un2 m n k c).map λ(a:Nat)=>aX a)):=by
    rw[a9T hk (w.row u0 u1) (w'.row v0 v1),hc];rfl
   refine⟨[.list (m.map rwD),.list (n.map rwD),.dict (kvB k9 iDl W),k9 c,y],rfl,?_⟩;have ll:(e7 4 (eCl v5 (a6 (e2 dIx (a5 0) (e2 a8 (a5 3) (eC (.int 0)))) (a6 (e2 dIx (a5 1) (e2 a8 (a5 3) (eC (.int 1)))) b9)))) [.list (m.map rwD),.list (n.map rwD),.dict (kvB k9 iDl W),k9 c,y]=cz (.nx [.list (m.map rwD),.list (n.map rwD),.dict (kvB k9 iDl W),k9 c,.list ((un2 m n k c).map λ(a:Nat)=>aX a)]):=by
    rw[hc];show (e7 4 _) [.list (m.map rwD),.list (n.map rwD),.dict (kvB k9 iDl W),.tuple [.int u,.int v],y]=_;walk_at "ev";rw[B8 u0 u1]
    try walk_at "ev"
    rw[B8 v0 v1]
    try walk_at "ev"
    rw[Ab,hc];rfl
   rw[v6,ll,v4];have tz:c2 m n k c=true->W.find? (λe=>c2 m n k e.1)=cz (c,q):=λh=>by
    rw[e,List.find?_append,eV.mpr (λx hx=>by rw[jH x hx];exact bU),jm,h];rfl
   cases hu:un2 m n k c with
   |nil=>
    refine .inl ⟨[.list (m.map rwD),.list (n.map rwD),.dict (kvB k9 iDl W),k9 c,.list []],?_,⟨_,_,rfl⟩,λx hx=>?_⟩
    ·rfl
    ·rcases ar.mp hx with z|z
     ·exact jH x z
     ·rw[ay.mp z];show (!(un2 m n k c).isEmpty)=false;rw[hu];rfl
   |cons a0 as=>
    have ht:c2 m n k c=true:=by unfold c2;rw[hu];rfl
    refine .inr ⟨a0F m n k W,?_,rfl⟩
    ·unfold a0F;rw[tz ht];show _=cz (Out.rt (.tuple [.str "unlike",iD (q++[(((un2 m n k c).getD 0 0:Nat):Int)])]));rw[hu];walk_at "ev";have oM:q.length<=W.length:=hA.ql _ wI;have hv:O5 (e2 (a5k true) (a5 2) (a5 3)) (u7 (a6 (e2 s9 (a5 4) (eC (.int 0))) b9)) [.list (m.map rwD),.list (n.map rwD),.dict (kvB k9 iDl W),k9 c,.list (aX a0::as.map λ(a:Nat)=>aX a)]=cz (iD (q++[(a0:Int)])):=by
      have h1:e2 (a5k true) (a5 2) (a5 3) [.list (m.map rwD),.list (n.map rwD),.dict (kvB k9 iDl W),k9 c,.list (aX a0::as.map λ(a:Nat)=>aX a)]=cz (iD q):=b4f hA.nodup wI;have h2:u7 (a6 (e2 s9 (a5 4) (eC (.int 0))) b9) [.list (m.map rwD),.list (n.map rwD),.dict (kvB k9 iDl W),k9 c,.list (aX a0::as.map λ(a:Nat)=>aX a)]=cz (iD [(a0:Int)]):=by
       walk_at "ev";rfl
      rw[a4y,h1,h2,a9B (by simp;lia)]
     rw[show tr (lE (aX a0::as.map λ(a:Nat)=>aX a))=cz true from rfl];walk_at "ev";rw[hv,b1r];rfl) with⟨Z',g1,⟨x,y,rfl⟩,qH⟩|⟨r,g1,rfl⟩
 ·rw[g1];walk_at "ev";have hs:a5q true (a5 2) [.list (m.map rwD),.list (n.map rwD),.dict (kvB k9 iDl W),x,y]=cz (.list ((P4 (W.map (·.1))).map k9)):=by
   show Z6 true ((kvB k9 iDl W).map (·.1))=_;rw[a4K,a4L (by rw[ao];lia) λb hb=>by obtain⟨e,he,rfl⟩:=bj.mp hb;exact uT e he]
  rw[hs];unfold a0F;rw[eV.mpr λe he=>by rw[qH e he];exact bU];rfl
 ·rw[g1];rfl
end Prog
namespace VS
open PySem L2
def a7N{ds:List D}{i:Int}{d:D}(h0:0<=i)(h:ds[i.toNat]?=cz d):L2.atI ds i=cz d:=by
 have hl:=(aT.mp h).1;unfold L2.atI;rw[a3r h0 (by lia)];exact h
def L3{n1 n2:Nat}{l:List (Int×Int)}(h:l.Nodup)(hr:∀p∈l,(0<=p.1/\p.1<(n1:Int))/\0<=p.2/\p.2<(n2:Int)):l.length<=n1*n2:=by
 have h1:(l.map λp=>p.1*(n2:Int)+p.2).Nodup:=by
  refine zc _ ?_ (lH.mpr λ{a b} hs=>?_) (R:=λa b=>a∈l/\b∈l/\a≠b)
  ·rintro a b ⟨ha,hb,Bu⟩ e;have ra:=hr a ha;have rb:=hr b hb;refine Bu ?_;have e1:a.1=b.1:=by
    have q1:(a.1*(n2:Int)+a.2) / (n2:Int)=a.1:=by
     rw[Int.add_comm,rG _ _ (by lia),rF ra.2.1 ra.2.2];lia
    have q2:(b.1*(n2:Int)+b.2) / (n2:Int)=b.1:=by
     rw[Int.add_comm,rG _ _ (by lia),rF rb.2.1 rb.2.2];lia
    have e':a.1*(n2:Int)+a.2=b.1*(n2:Int)+b.2:=e;rw[<-q1,<-q2,e']
   have e2:a.2=b.2:=by
    have e':a.1*(n2:Int)+a.2=b.1*(n2:Int)+b.2:=e;rw[e1]at e';lia
   exact Prod.ext e1 e2
  ·exact⟨hs.subset (by simp),hs.subset (by simp),(lH.mp h) hs⟩
 have h2:=a4C (n:=n1*n2) h1 λx hx=>by
  obtain⟨p,hp,rfl⟩:=bj.mp hx;have rp:=hr p hp;have m1:0<=p.1*(n2:Int):=oq rp.1.1 (by lia);have m2:p.1*(n2:Int)<=((n1:Int)-1)*(n2:Int):=Int.mul_le_mul_of_nonneg_right (by lia) (by lia);have m3:((n1:Int)-1)*(n2:Int)=(n1:Int)*n2-n2:=by rw[Int.sub_mul,Int.one_mul]
  have m4:((n1*n2:Nat):Int)=(n1:Int)*n2:=Int.natCast_mul n1 n2
  constructor
  ·show 0<=p.1*(n2:Int)+p.2;lia
  ·show p.1*(n2:Int)+p.2<((n1*n2:Nat):Int);lia
 rwa[ao]at h2
end VS
namespace Prog
open PySem L2 VS
def RA2(m n:k6)(W:w8 (List Int))(p:Int×Int):Prop:=((0<=p.1/\p.1<(m.length:Int))/\0<=p.2/\p.2<(n.length:Int))/\∃q,([p.1,p.2],q)∈W
section
variable {m n:k6}{k:Nat}{W:w8 (List Int)}
def RA2.zero(hA:AllB (nx2 m n) k [0,0] (Pr2 m n) W)(h1:0<m.length)(h2:0<n.length):RA2 m n W (0,0):=by
 obtain⟨E,e⟩:=hA.head;exact⟨⟨⟨by decide,by show (0:Int)<_;lia⟩,by decide,by show (0:Int)<_;lia⟩,[],by rw[e];exact aD⟩
def RA2.nx(hA:AllB (nx2 m n) k [0,0] (Pr2 m n) W){s t:Int}(h:RA2 m n W (s,t)){i:Nat}(hi:i<k):∃q,([(stp m s i).2,(stp n t i).2],q)∈W:=by
 obtain⟨_,q,hq⟩:=h;obtain⟨q',h1,_⟩:=hA.next hq hi;exact⟨q',h1⟩
def RA2.un{s t:Int}(h:RA2 m n W (s,t)){a:Nat}(ha:a<k)(hc:¬ (stp m s a).1=(stp n t a).1):∃e∈W,c2 m n k e.1=true:=by
 obtain⟨_,q,hq⟩:=h;refine⟨_,hq,?_⟩;cases x:c2 m n k [s,t] with
 |true=>rfl
 |false=>
  have:=Y0.mp x a ha;unfold un1 at this;exact absurd (by simpa using this) hc
def a7O(hA:AllB (nx2 m n) k [0,0] (Pr2 m n) W){q:List (Int×Int)}(hq:q.Nodup)(h0:((0:Int),(0:Int))∈q)(hr:∀p∈q,RA2 m n W p)(hc:∀p∈q,∀a:Int,0<=a->a<k->(stp m p.1 a).1=(stp n p.2 a).1/\((stp m p.1 a).2,(stp n p.2 a).2)∈q) :
  (∀e∈W,c2 m n k e.1=false)/\(W.map (·.1)).Perm (q.map λp=>[p.1,p.2]):=by
 have run:∀(p:List Int) (x y:Int),(x,y)∈q->(∀a∈p,0<=a/\a<(k:Int))->∃u v,E5 (nx2 m n) [x,y] p=[u,v]/\(u,v)∈q:=by
  intro p
  induction p with
  |nil=>exact λx y h _=>⟨x,y,rfl,h⟩
  |cons a p ih=>
   intro x y h hp;have ha:=hp a aD;have h1:=(hc _ h a ha.1 ha.2).2;obtain⟨u,v,e,hm⟩:=ih _ _ h1 λb hb=>hp b (av _ hb)
   refine⟨u,v,?_,hm⟩;rw[<-e];show E5 (nx2 m n) [(stp m x (a.toNat:Nat)).2,(stp n y (a.toNat:Nat)).2] p=_;rw[bD ha.1]
 have sub:∀e∈W,∃u v,e.1=[u,v]/\(u,v)∈q:=λe he=>by
  obtain⟨h1,h2⟩:=hA.leads e.2.length (aG _) (show (e.1,e.2)∈W from he);obtain⟨u,v,h3,h4⟩:=run e.2 0 0 h0 h2;exact⟨u,v,h1.symm.trans h3,h4⟩
 refine⟨λe he=>?_,?_⟩
 ·obtain⟨u,v,h1,h2⟩:=sub e he;rw[h1];refine Y0.mpr λa ha=>?_
  unfold un1;rw[aU (show (stp m ([u,v].getD 0 0) a).1=(stp n ([u,v].getD 1 0) a).1 from (hc _ h2 a (by lia) (by lia)).1)];rfl
 ·have hn:(q.map λp=>[p.1,p.2]).Nodup:=zc (λp:Int×Int=>[p.1,p.2]) (λp p' gU e=>gU (by
   simp only[fV,and_true]at e;exact Prod.ext e.1 e.2)) hq
  refine (List.perm_ext_iff_of_nodup hA.nodup hn).mpr λb=>⟨λhb=>?_,λhb=>?_⟩
  ·obtain⟨e,he,rfl⟩:=bj.mp hb;obtain⟨u,v,h1,h2⟩:=sub e he;exact bj.mpr ⟨_,h2,h1.symm⟩
  ·obtain⟨p,hp,rfl⟩:=bj.mp hb;obtain⟨_,q',h1⟩:=hr p hp;exact bj.mpr ⟨_,h1,rfl⟩
end
def b1D{m n:k6}{k:Nat}(w:WF m k)(w':WF n k){W:w8 (List Int)}(hA:AllB (nx2 m n) k [0,0] (Pr2 m n) W):m_law_pairs [.list (m.map rwD),.list (n.map rwD)]=cz (if (W.find? λe=>c2 m n k e.1).isSome then .none else .list ((P4 (W.map (·.1))).map k9)):=by
 have hle:=w.le;have nS:=w'.le;have mU:=w.pos;have sQ:=w'.pos;have uP:=w.k5;unfold m_law_pairs;rw[T7 (by simp[VS.argsOk,imm])];unfold b_law_pairs;walk_at "ev";rw[b3Z (k:=prD (0,0)) (d:=.bool true) (by walk_at "ev";rfl) (by walk_at "ev") (X9 _)];walk_at "ev";rw[b5Z];have main:=a4H (c:=(tB (e2 dLt (a5 4) (eCl l8 (a6 (a5 2) b9))))) (g:=(c6 (J6 5 6 (e2 s9 (a5 2) (a5 4))) (c6 (r8 (iR (eCl l8 (a6 (e2 dIx (a5 0) (eC (.int 0))) b9))) (n9 7) (c6 (sIf (tB (e2 dNe (e2 a8 (e2 a8 (e2 dIx (a5 0) (a5 5)) (a5 7)) (eC (.int 0))) (e2 a8 (e2 a8 (e2 dIx (a5 1) (a5 6)) (a5 7)) (eC (.int 0))))) (k7 (eC .none)) i6) (c6 (e7 8 (n8 (a6 (e2 a8 (e2 a8 (e2 dIx (a5 0) (a5 5)) (a5 7)) (eC (.int 1))) (a6 (e2 a8 (e2 a8 (e2 dIx (a5 1) (a5 6)) (a5 7)) (eC (.int 1))) b9)))) (sIf (tB (e2 (dIn true true) (a5 8) (a5 3))) (c6 (p5 3 true (a5 8) (eC (.bool true))) (n6 2 (.l .i) i7 (a5 8))) i6)))) (e7 4 (e2 r9 (a5 4) (eC (.int 1)))))))
   (I:=λj Z=>∃(q:List (Int×Int)) (x y z u:D),q.Nodup/\((0:Int),(0:Int))∈q/\(∀p∈q,RA2 m n W p)/\j<=q.length/\(∀i<j,∀p,q[i]?=cz p->∀a:Int,0<=a->a<k->(stp m p.1 a).1=(stp n p.2 a).1/\((stp m p.1 a).2,(stp n p.2 a).2)∈q)/\Z=[.list (m.map rwD),.list (n.map rwD),.list (q.map stD),.dict (prK q),.int j,x,y,z,u])
   (Q:=λZ=>∃(q:List (Int×Int)) (j x y z u:D),q.Nodup/\((0:Int),(0:Int))∈q/\(∀p∈q,RA2 m n W p)/\(∀p∈q,∀a:Int,0<=a->a<k->(stp m p.1 a).1=(stp n p.2 a).1/\((stp m p.1 a).2,(stp n p.2 a).2)∈q)/\Z=[.list (m.map rwD),.list (n.map rwD),.list (q.map stD),.dict (prK q),j,x,y,z,u]) (R:=λd=>d=.none/\∃e∈W,c2 m n k e.1=true) 900 (by
    rintro j Z ⟨q,x,y,z,u,hq,rM,qC,hj,pJ,rfl⟩;have oM:q.length<=30*30:=bZ (L3 hq λp hp=>(qC p hp).1) (dW hle nS);refine⟨by lia,?_⟩;by_cases c:j<q.length
    ·refine .inr ⟨by walk_at "ev";rw[aU (show (j:Int)<q.length by lia)],?_⟩;obtain⟨⟨s,t⟩,hs⟩:∃s,q[j]?=cz s:=⟨_,ah c⟩;have vN:=qC (s,t) (bA hs);obtain⟨s1,t1⟩:=vN.1;have me:=G8 (enc:=λ(i:Nat)=>aX i) (set:=n9 7) (xs:=aW k) (g:=(c6 (sIf (tB (e2 dNe (e2 a8 (e2 a8 (e2 dIx (a5 0) (a5 5)) (a5 7)) (eC (.int 0))) (e2 a8 (e2 a8 (e2 dIx (a5 1) (a5 6)) (a5 7)) (eC (.int 0))))) (k7 (eC .none)) i6) (c6 (e7 8 (n8 (a6 (e2 a8 (e2 a8 (e2 dIx (a5 0) (a5 5)) (a5 7)) (eC (.int 1))) (a6 (e2 a8 (e2 a8 (e2 dIx (a5 1) (a5 6)) (a5 7)) (eC (.int 1))) b9)))) (sIf (tB (e2 (dIn true true) (a5 8) (a5 3))) (c6 (p5 3 true (a5 8) (eC (.bool true))) (n6 2 (.l .i) i7 (a5 8))) i6))))
      (Z:=[.list (m.map rwD),.list (n.map rwD),.list (q.map stD),.dict (prK q),.int j,.int s,.int t,z,u])
      (λpre Z=>∃(q':List (Int×Int)) (z u:D),Z=[.list (m.map rwD),.list (n.map rwD),.list (q'.map stD),.dict (prK q'),.int j,.int s,.int t,z,u]/\q'.Nodup/\(∀p∈q',RA2 m n W p)/\(∃E,q'=q++E)/\∀i<pre.length,(stp m s (i:Nat)).1=(stp n t (i:Nat)).1/\((stp m s (i:Nat)).2,(stp n t (i:Nat)).2)∈q')
      (λd=>d=.none/\∃e∈W,c2 m n k e.1=true)
      ⟨q,z,u,rfl,hq,qC,⟨[],by simp⟩,λi hi=>absurd hi (by simp)⟩ (by
       rintro pre i post e Z ⟨q',z,u,rfl,qD,nN,⟨E,hE⟩,gR⟩;obtain⟨ei,hi,_⟩:=B7 e;have Ap:q'.length<=30*30:=bZ (L3 qD λp hp=>(nN p hp).1) (dW hle nS);have er:(rowAt m s).getD (i:Int).toNat (0,0)=stp m s i:=rfl;have eL:(rowAt n t).getD (i:Int).toNat (0,0)=stp n t i:=rfl;have nD:(0:Int)<=(i:Int):=by lia
       have oS:(i:Int)<k:=by lia
       refine⟨_,rfl,?_⟩;have vp:(c6 (sIf (tB (e2 dNe (e2 a8 (e2 a8 (e2 dIx (a5 0) (a5 5)) (a5 7)) (eC (.int 0))) (e2 a8 (e2 a8 (e2 dIx (a5 1) (a5 6)) (a5 7)) (eC (.int 0))))) (k7 (eC .none)) i6) (c6 (e7 8 (n8 (a6 (e2 a8 (e2 a8 (e2 dIx (a5 0) (a5 5)) (a5 7)) (eC (.int 1))) (a6 (e2 a8 (e2 a8 (e2 dIx (a5 1) (a5 6)) (a5 7)) (eC (.int 1))) b9)))) (sIf (tB (e2 (dIn true true) (a5 8) (a5 3))) (c6 (p5 3 true (a5 8) (eC (.bool true))) (n6 2 (.l .i) i7 (a5 8))) i6))) [.list (m.map rwD),.list (n.map rwD),.list (q'.map stD),.dict (prK q'),.int j,.int s,.int t,.int i,u]=thn (a3c (cz (!decide ((stp m s i).1=(stp n t i).1))) (k7 (eC .none)) i6 [.list (m.map rwD),.list (n.map rwD),.list (q'.map stD),.dict (prK q'),.int j,.int s,.int t,.int i,u]) (λZ=>thn (e7 8 (n8 (a6 (e2 a8 (e2 a8 (e2 dIx (a5 0) (a5 5)) (a5 7)) (eC (.int 1))) (a6 (e2 a8 (e2 a8 (e2 dIx (a5 1) (a5 6)) (a5 7)) (eC (.int 1))) b9))) Z) (sIf (tB (e2 (dIn true true) (a5 8) (a5 3))) (c6 (p5 3 true (a5 8) (eC (.bool true))) (n6 2 (.l .i) i7 (a5 8))) i6)):=by
        rw[v6];have qP:sIf (tB (e2 dNe (e2 a8 (e2 a8 (e2 dIx (a5 0) (a5 5)) (a5 7)) (eC (.int 0))) (e2 a8 (e2 a8 (e2 dIx (a5 1) (a5 6)) (a5 7)) (eC (.int 0))))) (k7 (eC .none)) i6 [.list (m.map rwD),.list (n.map rwD),.list (q'.map stD),.dict (prK q'),.int j,.int s,.int t,.int i,u]=a3c (cz (!decide ((stp m s i).1=(stp n t i).1))) (k7 (eC .none)) i6 [.list (m.map rwD),.list (n.map rwD),.list (q'.map stD),.dict (prK q'),.int j,.int s,.int t,.int i,u]:=by
         walk_at "ev";rw[B8 s1.1 s1.2];walk_at "ev";rw[L8 (by lia) (by rw[w.row s1.1 s1.2];lia),er];walk_at "ev";rw[B8 t1.1 t1.2];walk_at "ev";rw[L8 (by lia) (by rw[w'.row t1.1 t1.2];lia),eL];walk_at "ev"
        rw[qP]
        congr 1
        funext Z
        exact v6
       show (∃Z2,(c6 (sIf (tB (e2 dNe (e2 a8 (e2 a8 (e2 dIx (a5 0) (a5 5)) (a5 7)) (eC (.int 0))) (e2 a8 (e2 a8 (e2 dIx (a5 1) (a5 6)) (a5 7)) (eC (.int 0))))) (k7 (eC .none)) i6) (c6 (e7 8 (n8 (a6 (e2 a8 (e2 a8 (e2 dIx (a5 0) (a5 5)) (a5 7)) (eC (.int 1))) (a6 (e2 a8 (e2 a8 (e2 dIx (a5 1) (a5 6)) (a5 7)) (eC (.int 1))) b9)))) (sIf (tB (e2 (dIn true true) (a5 8) (a5 3))) (c6 (p5 3 true (a5 8) (eC (.bool true))) (n6 2 (.l .i) i7 (a5 8))) i6))) [.list (m.map rwD),.list (n.map rwD),.list (q'.map stD),.dict (prK q'),.int j,.int s,.int t,.int i,u]=cz (.nx Z2)/\_)∨∃d,(c6 (sIf (tB (e2 dNe (e2 a8 (e2 a8 (e2 dIx (a5 0) (a5 5)) (a5 7)) (eC (.int 0))) (e2 a8 (e2 a8 (e2 dIx (a5 1) (a5 6)) (a5 7)) (eC (.int 0))))) (k7 (eC .none)) i6) (c6 (e7 8 (n8 (a6 (e2 a8 (e2 a8 (e2 dIx (a5 0) (a5 5)) (a5 7)) (eC (.int 1))) (a6 (e2 a8 (e2 a8 (e2 dIx (a5 1) (a5 6)) (a5 7)) (eC (.int 1))) b9)))) (sIf (tB (e2 (dIn true true) (a5 8) (a5 3))) (c6 (p5 3 true (a5 8) (eC (.bool true))) (n6 2 (.l .i) i7 (a5 8))) i6))) [.list (m.map rwD),.list (n.map rwD),.list (q'.map stD),.dict (prK q'),.int j,.int s,.int t,.int i,u]=cz (.rt d)/\_;rw[vp];by_cases ca:(stp m s i).1=(stp n t i).1
       ·rw[aU ca];have ll:e7 8 (n8 (a6 (e2 a8 (e2 a8 (e2 dIx (a5 0) (a5 5)) (a5 7)) (eC (.int 1))) (a6 (e2 a8 (e2 a8 (e2 dIx (a5 1) (a5 6)) (a5 7)) (eC (.int 1))) b9))) [.list (m.map rwD),.list (n.map rwD),.list (q'.map stD),.dict (prK q'),.int j,.int s,.int t,.int i,u]=cz (.nx [.list (m.map rwD),.list (n.map rwD),.list (q'.map stD),.dict (prK q'),.int j,.int s,.int t,.int i,prD ((stp m s i).2,(stp n t i).2)]):=by
         walk_at "ev";rw[B8 s1.1 s1.2];walk_at "ev";rw[L8 (by lia) (by rw[w.row s1.1 s1.2];lia),er];walk_at "ev";rw[B8 t1.1 t1.2];walk_at "ev";rw[L8 (by lia) (by rw[w'.row t1.1 t1.2];lia),eL];walk_at "ev";rfl
        show (∃Z2,thn (cz (.nx [.list (m.map rwD),.list (n.map rwD),.list (q'.map stD),.dict (prK q'),.int j,.int s,.int t,.int i,u])) _=cz (.nx Z2)/\_)∨∃d,thn (cz (.nx [.list (m.map rwD),.list (n.map rwD),.list (q'.map stD),.dict (prK q'),.int j,.int s,.int t,.int i,u])) _=cz (.rt d)/\_;rw[v4,ll,v4];have jh:=a9N (neg:=true) (q:=q') (p:=((stp m s i).2,(stp n t i).2))
        left
        by_cases c2:((stp m s i).2,(stp n t i).2)∈q'
        ·refine⟨[.list (m.map rwD),.list (n.map rwD),.list (q'.map stD),.dict (prK q'),.int j,.int s,.int t,.int i,prD ((stp m s i).2,(stp n t i).2)],?_,q',_,_,rfl,qD,nN,⟨E,hE⟩,λi' iT=>?_⟩
         ·walk_at "ev";rw[jh,aU c2];walk_at "ev"
         ·rw[az,bx]at iT;by_cases e2:i'<pre.length
          ·exact gR i' e2
          ·have:i'=i:=by lia
           subst this;exact⟨ca,c2⟩
        ·refine⟨[.list (m.map rwD),.list (n.map rwD),.list ((q'++[((stp m s i).2,(stp n t i).2)]).map stD),.dict (prK (q'++[((stp m s i).2,(stp n t i).2)])),.int j,.int s,.int t,.int i,prD ((stp m s i).2,(stp n t i).2)],?_,q'++[((stp m s i).2,(stp n t i).2)],_,_,rfl,?_,?_,⟨E++[((stp m s i).2,(stp n t i).2)],by rw[hE,aI]⟩,λi' iT=>?_⟩
         ·have we:(q'.map stD).length<1000000:=by rw[ao];lia
          walk_at "ev";rw[jh,bt c2];walk_at "ev";rw[a5I (k:=prD ((stp m s i).2,(stp n t i).2)) (d:=.bool true) (kvs:=prK q') (by walk_at "ev") (by walk_at "ev") (by rfl) (X9 _) (by rw[a6A];lia),a9M c2];walk_at "ev";rw[bu];rfl
         ·rw[cB];exact⟨qD,by simp,λa ha b hb e=>c2 (by rw[ay.mp hb]at e;rw[<-e];exact ha)⟩
         ·intro p hp;rcases ar.mp hp with y|y
          ·exact nN p y
          ·rw[ay.mp y];exact⟨⟨w.nx s1.1 s1.2 nD oS,w'.nx t1.1 t1.2 nD oS⟩,RA2.nx hA vN (by lia)⟩
         ·rw[az,bx]at iT;by_cases e2:i'<pre.length
          ·exact⟨(gR i' e2).1,aw _ (gR i' e2).2⟩
          ·have:i'=i:=by lia
           subst this;exact⟨ca,by simp⟩
       ·rw[bt ca]
        right
        exact⟨.none,by walk_at "ev",rfl,RA2.un vN (a:=i) (by lia) ca⟩)
     have h2:J6 5 6 (e2 s9 (a5 2) (a5 4)) [.list (m.map rwD),.list (n.map rwD),.list (q.map stD),.dict (prK q),.int j,x,y,z,u]=cz (.nx [.list (m.map rwD),.list (n.map rwD),.list (q.map stD),.dict (prK q),.int j,.int s,.int t,z,u]):=by
      walk_at "ev";rw[a7N (i:=(j:Int)) (d:=stD (s,t)) (by lia) (by rw[bF,bE,hs];rfl)];walk_at "ev"
     have h3:∀o,D9 (n9 7) (c6 (sIf (tB (e2 dNe (e2 a8 (e2 a8 (e2 dIx (a5 0) (a5 5)) (a5 7)) (eC (.int 0))) (e2 a8 (e2 a8 (e2 dIx (a5 1) (a5 6)) (a5 7)) (eC (.int 0))))) (k7 (eC .none)) i6) (c6 (e7 8 (n8 (a6 (e2 a8 (e2 a8 (e2 dIx (a5 0) (a5 5)) (a5 7)) (eC (.int 1))) (a6 (e2 a8 (e2 a8 (e2 dIx (a5 1) (a5 6)) (a5 7)) (eC (.int 1))) b9)))) (sIf (tB (e2 (dIn true true) (a5 8) (a5 3))) (c6 (p5 3 true (a5 8) (eC (.bool true))) (n6 2 (.l .i) i7 (a5 8))) i6))) ((aW k).map λ(i:Nat)=>aX i) [.list (m.map rwD),.list (n.map rwD),.list (q.map stD),.dict (prK q),.int j,.int s,.int t,z,u]=o->(c6 (J6 5 6 (e2 s9 (a5 2) (a5 4))) (c6 (r8 (iR (eCl l8 (a6 (e2 dIx (a5 0) (eC (.int 0))) b9))) (n9 7) (c6 (sIf (tB (e2 dNe (e2 a8 (e2 a8 (e2 dIx (a5 0) (a5 5)) (a5 7)) (eC (.int 0))) (e2 a8 (e2 a8 (e2 dIx (a5 1) (a5 6)) (a5 7)) (eC (.int 0))))) (k7 (eC .none)) i6) (c6 (e7 8 (n8 (a6 (e2 a8 (e2 a8 (e2 dIx (a5 0) (a5 5)) (a5 7)) (eC (.int 1))) (a6 (e2 a8 (e2 a8 (e2 dIx (a5 1) (a5 6)) (a5 7)) (eC (.int 1))) b9)))) (sIf (tB (e2 (dIn true true) (a5 8) (a5 3))) (c6 (p5 3 true (a5 8) (eC (.bool true))) (n6 2 (.l .i) i7 (a5 8))) i6)))) (e7 4 (e2 r9 (a5 4) (eC (.int 1)))))) [.list (m.map rwD),.list (n.map rwD),.list (q.map stD),.dict (prK q),.int j,x,y,z,u]=thn o (e7 4 (e2 r9 (a5 4) (eC (.int 1)))):=λo ho=>by
      rw[<-ho,v6,h2,v4,v6]
      congr 1;walk_at "ev";rw[a0B (n:=k) (by walk_at "ev";rw[B8 (by decide) (by lia)];walk_at "ev";rw[w.row (by decide) (by lia)]) (by lia) (by lia),bF,G7];rfl
     rcases me with⟨Z',g1,q',z',u',rfl,qD,nN,⟨E,hE⟩,gR⟩|⟨d,g1,rfl,mD⟩
     ·left
      refine⟨[.list (m.map rwD),.list (n.map rwD),.list (q'.map stD),.dict (prK q'),.int ((j+1:Nat):Int),.int s,.int t,z',u'],?_,q',_,_,_,_,qD,by rw[hE];exact aw _ rM,nN,by rw[hE,az];lia,λi hi p hp a a0 a1=>?_,rfl⟩
      ·rw[h3 _ g1];walk_at "ev";rfl
      ·by_cases e:i<j
       ·have Ar:q[i]?=cz p:=by
         rw[hE,bK (by lia)]at hp;exact hp
        obtain⟨y1,y2⟩:=pJ i e p Ar a a0 a1;exact⟨y1,by rw[hE];exact aw _ y2⟩
       ·have gy:i=j:=by lia
        subst gy;rw[hE,bK (by lia),hs]at hp;cases hp
        have:=gR a.toNat (by rw[cQ];lia);rw[bD a0]at this;exact this
     ·right
      refine⟨.none,?_,rfl,mD⟩;rw[h3 _ g1];rfl
    ·refine .inl ⟨by walk_at "ev";rw[bt (show ¬ (j:Int)<q.length by lia)],q,_,_,_,_,_,hq,rM,qC,λp hp a a0 a1=>?_,rfl⟩;obtain⟨i,hi⟩:=cO.mp hp;have:=(aT.mp hi).1;exact pJ i (by lia) p hi a a0 a1) 1000000 0
   [.list (m.map rwD),.list (n.map rwD),.list [stD (0,0)],.dict [(prD (0,0),.bool true)],.int 0,.none,.none,.none,.none]
   ⟨[((0:Int),(0:Int))],.none,.none,.none,.none,by simp,by simp,λp hp=>by rw[ay.mp hp];exact RA2.zero hA mU sQ,cW _,λi hi=>absurd hi (by lia),rfl⟩ (by lia)
 rcases main with⟨Z',g1,q,j,x,y,z,u,hq,rM,qC,nW,rfl⟩|⟨d,g1,rfl,e,he,hn⟩
 ·show a0A (thn (whL (tB (e2 dLt (a5 4) (eCl l8 (a6 (a5 2) b9)))) (c6 (J6 5 6 (e2 s9 (a5 2) (a5 4))) (c6 (r8 (iR (eCl l8 (a6 (e2 dIx (a5 0) (eC (.int 0))) b9))) (n9 7) (c6 (sIf (tB (e2 dNe (e2 a8 (e2 a8 (e2 dIx (a5 0) (a5 5)) (a5 7)) (eC (.int 0))) (e2 a8 (e2 a8 (e2 dIx (a5 1) (a5 6)) (a5 7)) (eC (.int 0))))) (k7 (eC .none)) i6) (c6 (e7 8 (n8 (a6 (e2 a8 (e2 a8 (e2 dIx (a5 0) (a5 5)) (a5 7)) (eC (.int 1))) (a6 (e2 a8 (e2 a8 (e2 dIx (a5 1) (a5 6)) (a5 7)) (eC (.int 1))) b9)))) (sIf (tB (e2 (dIn true true) (a5 8) (a5 3))) (c6 (p5 3 true (a5 8) (eC (.bool true))) (n6 2 (.l .i) i7 (a5 8))) i6)))) (e7 4 (e2 r9 (a5 4) (eC (.int 1)))))) 1000000 [.list (m.map rwD),.list (n.map rwD),.list [stD (0,0)],.dict [(prD (0,0),.bool true)],.int 0,.none,.none,.none,.none]) (k7 (a1v true (a5 2))))=_;rw[g1];obtain⟨h1,h2⟩:=a7O hA hq rM qC nW;have qH:(W.find? λe=>c2 m n k e.1)=pz:=eV.mpr λe he=>by rw[h1 e he];exact bU
  rw[qH];walk_at "ev";have oM:q.length<=30*30:=bZ (L3 hq λp hp=>(qC p hp).1) (dW hle nS);have hs:a1v true (a5 2) [.list (m.map rwD),.list (n.map rwD),.list (q.map stD),.dict (prK q),j,x,y,z,u]=cz (.list ((P4 (W.map (·.1))).map k9)):=by
   show Z6 true (q.map stD)=_;rw[show q.map stD=(q.map λp=>[p.1,p.2]).map k9 by rw[dI];rfl,a4L (by rw[ao];lia) (λb hb=>by obtain⟨p,_,rfl⟩:=bj.mp hb;rfl),a2D (h2.symm.trans (N6 _).symm).symm (R1 _)]
  rw[hs];rfl
 ·show a0A (thn (whL (tB (e2 dLt (a5 4) (eCl l8 (a6 (a5 2) b9)))) (c6 (J6 5 6 (e2 s9 (a5 2) (a5 4))) (c6 (r8 (iR (eCl l8 (a6 (e2 dIx (a5 0) (eC (.int 0))) b9))) (n9 7) (c6 (sIf (tB (e2 dNe (e2 a8 (e2 a8 (e2 dIx (a5 0) (a5 5)) (a5 7)) (eC (.int 0))) (e2 a8 (e2 a8 (e2 dIx (a5 1) (a5 6)) (a5 7)) (eC (.int 0))))) (k7 (eC .none)) i6) (c6 (e7 8 (n8 (a6 (e2 a8 (e2 a8 (e2 dIx (a5 0) (a5 5)) (a5 7)) (eC (.int 1))) (a6 (e2 a8 (e2 a8 (e2 dIx (a5 1) (a5 6)) (a5 7)) (eC (.int 1))) b9)))) (sIf (tB (e2 (dIn true true) (a5 8) (a5 3))) (c6 (p5 3 true (a5 8) (eC (.bool true))) (n6 2 (.l .i) i7 (a5 8))) i6)))) (e7 4 (e2 r9 (a5 4) (eC (.int 1)))))) 1000000 [.list (m.map rwD),.list (n.map rwD),.list [stD (0,0)],.dict [(prD (0,0),.bool true)],.int 0,.none,.none,.none,.none]) (k7 (a1v true (a5 2))))=_;rw[g1];have:(W.find? λe=>c2 m n k e.1).isSome=true:=List.find?_isSome.mpr ⟨e,he,hn⟩;rw[aL this];rfl
def AL(m n:k6)(k:Nat):Nat->Int×Int->Prop
 |0,_=>True
 |d+1,p=>∀a:Int,0<=a->a<k->(stp m p.1 a).1=(stp n p.2 a).1/\AL m n k d ((stp m p.1 a).2,(stp n p.2 a).2)
theorem AL.le{m n:k6}{k:Nat}:∀{d e:Nat} {p:Int×Int},d<=e->AL m n k e p->AL m n k d p
 |0,_,_,_,_=>trivial
 |d+1,0,_,h,_=>absurd h (by lia)
 |d+1,e+1,p,h,q=>λa a0 a1=>⟨(q a a0 a1).1,AL.le (by lia) (q a a0 a1).2⟩
def Good(m n:k6)(k:Nat)(p:Int×Int)(Q:List (Int×Int)):Prop:=∀a:Int,0<=a->a<k->(stp m p.1 a).1=(stp n p.2 a).1/\((stp m p.1 a).2,(stp n p.2 a).2)∈Q
def b1E(m n:k6)(p:Int×Int):Prop:=(0<=p.1/\p.1<(m.length:Int))/\0<=p.2/\p.2<(n.length:Int)
def RB(m n:k6)(k:Nat)(s0 t0:Int)(j:Nat)(p:Int×Int):Prop:=b1E m n p/\∀d,AL m n k (j+d) (s0,t0)->AL m n k d p
def a2K{m n:k6}{k:Nat}{p:Int×Int}{Q X:List (Int×Int)}(h:Good m n k p Q):Good m n k p (Q++X):=λa a0 a1=>⟨(h a a0 a1).1,aw _ (h a a0 a1).2⟩
def a7P{m n:k6}{k z:Nat}(w:WF m k)(w':WF n k){s t:Int}{q E:List (Int×Int)}{L T u:D}{i:Nat}(jf:b1E m n (s,t))(hi:i<k)(hq:q.length<=900)(hE:E.length<=900) :
  ((stp m s i).1≠(stp n t i).1->(c6 (sIf (tB (e2 dNe (e2 a8 (e2 a8 (e2 dIx (a5 0) (a5 8)) (a5 10)) (eC (.int 0))) (e2 a8 (e2 a8 (e2 dIx (a5 1) (a5 9)) (a5 10)) (eC (.int 0))))) (k7 (eC (.bool true))) i6) (c6 (e7 2 (n8 (a6 (e2 a8 (e2 a8 (e2 dIx (a5 0) (a5 8)) (a5 10)) (eC (.int 1))) (a6 (e2 a8 (e2 a8 (e2 dIx (a5 1) (a5 9)) (a5 10)) (eC (.int 1))) b9)))) (sIf (tB (e2 (dIn true true) (a5 2) (a5 4))) (c6 (p5 4 true (a5 2) (eC (.bool true))) (n6 7 (.l .i) i7 (a5 2))) i6))) [.list (m.map rwD),.list (n.map rwD),u,.int (z:Nat),.dict (prK q),L,T,.list (E.map stD),.int s,.int t,.int i]=cz (.rt (.bool true)))/\
  ((stp m s i).1=(stp n t i).1->((stp m s i).2,(stp n t i).2)∈q->(c6 (sIf (tB (e2 dNe (e2 a8 (e2 a8 (e2 dIx (a5 0) (a5 8)) (a5 10)) (eC (.int 0))) (e2 a8 (e2 a8 (e2 dIx (a5 1) (a5 9)) (a5 10)) (eC (.int 0))))) (k7 (eC (.bool true))) i6) (c6 (e7 2 (n8 (a6 (e2 a8 (e2 a8 (e2 dIx (a5 0) (a5 8)) (a5 10)) (eC (.int 1))) (a6 (e2 a8 (e2 a8 (e2 dIx (a5 1) (a5 9)) (a5 10)) (eC (.int 1))) b9)))) (sIf (tB (e2 (dIn true true) (a5 2) (a5 4))) (c6 (p5 4 true (a5 2) (eC (.bool true))) (n6 7 (.l .i) i7 (a5 2))) i6))) [.list (m.map rwD),.list (n.map rwD),u,.int (z:Nat),.dict (prK q),L,T,.list (E.map stD),.int s,.int t,.int i]=cz (.nx [.list (m.map rwD),.list (n.map rwD),prD ((stp m s i).2,(stp n t i).2),.int (z:Nat),.dict (prK q),L,T,.list (E.map stD),.int s,.int t,.int i]))/\
  ((stp m s i).1=(stp n t i).1->((stp m s i).2,(stp n t i).2)∉q->(c6 (sIf (tB (e2 dNe (e2 a8 (e2 a8 (e2 dIx (a5 0) (a5 8)) (a5 10)) (eC (.int 0))) (e2 a8 (e2 a8 (e2 dIx (a5 1) (a5 9)) (a5 10)) (eC (.int 0))))) (k7 (eC (.bool true))) i6) (c6 (e7 2 (n8 (a6 (e2 a8 (e2 a8 (e2 dIx (a5 0) (a5 8)) (a5 10)) (eC (.int 1))) (a6 (e2 a8 (e2 a8 (e2 dIx (a5 1) (a5 9)) (a5 10)) (eC (.int 1))) b9)))) (sIf (tB (e2 (dIn true true) (a5 2) (a5 4))) (c6 (p5 4 true (a5 2) (eC (.bool true))) (n6 7 (.l .i) i7 (a5 2))) i6))) [.list (m.map rwD),.list (n.map rwD),u,.int (z:Nat),.dict (prK q),L,T,.list (E.map stD),.int s,.int t,.int i]=cz (.nx [.list (m.map rwD),.list (n.map rwD),prD ((stp m s i).2,(stp n t i).2),.int (z:Nat),.dict (prK (q++[((stp m s i).2,(stp n t i).2)])),L,T,.list ((E++[((stp m s i).2,(stp n t i).2)]).map stD),.int s,.int t,.int i])):=by
 obtain⟨s1,t1⟩:=jf;have er:(rowAt m s).getD (i:Int).toNat (0,0)=stp m s i:=rfl;have eL:(rowAt n t).getD (i:Int).toNat (0,0)=stp n t i:=rfl;have qP:(sIf (tB (e2 dNe (e2 a8 (e2 a8 (e2 dIx (a5 0) (a5 8)) (a5 10)) (eC (.int 0))) (e2 a8 (e2 a8 (e2 dIx (a5 1) (a5 9)) (a5 10)) (eC (.int 0))))) (k7 (eC (.bool true))) i6) [.list (m.map rwD),.list (n.map rwD),u,.int (z:Nat),.dict (prK q),L,T,.list (E.map stD),.int s,.int t,.int i]=a3c (cz (!decide ((stp m s i).1=(stp n t i).1))) (k7 (eC (.bool true))) i6 [.list (m.map rwD),.list (n.map rwD),u,.int (z:Nat),.dict (prK q),L,T,.list (E.map stD),.int s,.int t,.int i]:=by
  walk_at "ev";rw[B8 s1.1 s1.2];walk_at "ev";rw[L8 (by lia) (by rw[w.row s1.1 s1.2];lia),er];walk_at "ev";rw[B8 t1.1 t1.2];walk_at "ev";rw[L8 (by lia) (by rw[w'.row t1.1 t1.2];lia),eL];walk_at "ev"
 have ll:e7 2 (n8 (a6 (e2 a8 (e2 a8 (e2 dIx (a5 0) (a5 8)) (a5 10)) (eC (.int 1))) (a6 (e2 a8 (e2 a8 (e2 dIx (a5 1) (a5 9)) (a5 10)) (eC (.int 1))) b9))) [.list (m.map rwD),.list (n.map rwD),u,.int (z:Nat),.dict (prK q),L,T,.list (E.map stD),.int s,.int t,.int i]=cz (.nx [.list (m.map rwD),.list (n.map rwD),prD ((stp m s i).2,(stp n t i).2),.int (z:Nat),.dict (prK q),L,T,.list (E.map stD),.int s,.int t,.int i]):=by
  walk_at "ev";rw[B8 s1.1 s1.2];walk_at "ev";rw[L8 (by lia) (by rw[w.row s1.1 s1.2];lia),er];walk_at "ev";rw[B8 t1.1 t1.2];walk_at "ev";rw[L8 (by lia) (by rw[w'.row t1.1 t1.2];lia),eL];walk_at "ev";rfl
 have jh:=a9N (neg:=true) (q:=q) (p:=((stp m s i).2,(stp n t i).2));refine⟨λh=>?_,λh h2=>?_,λh h2=>?_⟩
 ·rw[v6,qP,bt h];rfl
 ·rw[v6,qP,aU h];show thn (cz (.nx [.list (m.map rwD),.list (n.map rwD),u,.int (z:Nat),.dict (prK q),L,T,.list (E.map stD),.int s,.int t,.int i])) _=_;rw[v4,v6,ll,v4];walk_at "ev";rw[jh,aU h2];walk_at "ev"
 ·rw[v6,qP,aU h];show thn (cz (.nx [.list (m.map rwD),.list (n.map rwD),u,.int (z:Nat),.dict (prK q),L,T,.list (E.map stD),.int s,.int t,.int i])) _=_;rw[v4,v6,ll,v4];have we:(E.map stD).length<1000000:=by rw[ao];lia
  walk_at "ev";rw[jh,bt h2];walk_at "ev";rw[a5I (k:=prD ((stp m s i).2,(stp n t i).2)) (d:=.bool true) (kvs:=prK q) (by walk_at "ev") (by walk_at "ev") (by rfl) (X9 _) (by rw[a6A];lia),a9M h2];walk_at "ev";rw[bu];rfl
def a7Q{m n:k6}{k z:Nat}(w:WF m k)(w':WF n k){s0 t0 s t:Int}{q X:List (Int×Int)}{L T x u:D}{j:Nat}(jf:RB m n k s0 t0 j (s,t))(kA:(q++X).Nodup)(Am:∀p∈q++X,b1E m n p)(hX:∀p∈X,RB m n k s0 t0 (j+1) p) :
  (∃X' x' u',(r8 (iR (eCl l8 (a6 (e2 dIx (a5 0) (eC (.int 0))) b9))) (n9 10) (c6 (sIf (tB (e2 dNe (e2 a8 (e2 a8 (e2 dIx (a5 0) (a5 8)) (a5 10)) (eC (.int 0))) (e2 a8 (e2 a8 (e2 dIx (a5 1) (a5 9)) (a5 10)) (eC (.int 0))))) (k7 (eC (.bool true))) i6) (c6 (e7 2 (n8 (a6 (e2 a8 (e2 a8 (e2 dIx (a5 0) (a5 8)) (a5 10)) (eC (.int 1))) (a6 (e2 a8 (e2 a8 (e2 dIx (a5 1) (a5 9)) (a5 10)) (eC (.int 1))) b9)))) (sIf (tB (e2 (dIn true true) (a5 2) (a5 4))) (c6 (p5 4 true (a5 2) (eC (.bool true))) (n6 7 (.l .i) i7 (a5 2))) i6)))) [.list (m.map rwD),.list (n.map rwD),u,.int (z:Nat),.dict (prK (q++X)),L,T,.list (X.map stD),.int s,.int t,x]=cz (.nx [.list (m.map rwD),.list (n.map rwD),u',.int (z:Nat),.dict (prK (q++X')),L,T,.list (X'.map stD),.int s,.int t,x'])/\(q++X').Nodup/\(∃Y,X'=X++Y)/\(∀p∈X',RB m n k s0 t0 (j+1) p)/\Good m n k (s,t) (q++X'))∨
  ((r8 (iR (eCl l8 (a6 (e2 dIx (a5 0) (eC (.int 0))) b9))) (n9 10) (c6 (sIf (tB (e2 dNe (e2 a8 (e2 a8 (e2 dIx (a5 0) (a5 8)) (a5 10)) (eC (.int 0))) (e2 a8 (e2 a8 (e2 dIx (a5 1) (a5 9)) (a5 10)) (eC (.int 0))))) (k7 (eC (.bool true))) i6) (c6 (e7 2 (n8 (a6 (e2 a8 (e2 a8 (e2 dIx (a5 0) (a5 8)) (a5 10)) (eC (.int 1))) (a6 (e2 a8 (e2 a8 (e2 dIx (a5 1) (a5 9)) (a5 10)) (eC (.int 1))) b9)))) (sIf (tB (e2 (dIn true true) (a5 2) (a5 4))) (c6 (p5 4 true (a5 2) (eC (.bool true))) (n6 7 (.l .i) i7 (a5 2))) i6)))) [.list (m.map rwD),.list (n.map rwD),u,.int (z:Nat),.dict (prK (q++X)),L,T,.list (X.map stD),.int s,.int t,x]=cz (.rt (.bool true))/\¬ AL m n k (j+1) (s0,t0)):=by
 have hle:=w.le;have nS:=w'.le;have mU:=w.pos;have uP:=w.k5;obtain⟨⟨s1,t1⟩,jE⟩:=jf;have me:=G8 (enc:=λ(i:Nat)=>aX i) (set:=n9 10) (xs:=aW k) (g:=(c6 (sIf (tB (e2 dNe (e2 a8 (e2 a8 (e2 dIx (a5 0) (a5 8)) (a5 10)) (eC (.int 0))) (e2 a8 (e2 a8 (e2 dIx (a5 1) (a5 9)) (a5 10)) (eC (.int 0))))) (k7 (eC (.bool true))) i6) (c6 (e7 2 (n8 (a6 (e2 a8 (e2 a8 (e2 dIx (a5 0) (a5 8)) (a5 10)) (eC (.int 1))) (a6 (e2 a8 (e2 a8 (e2 dIx (a5 1) (a5 9)) (a5 10)) (eC (.int 1))) b9)))) (sIf (tB (e2 (dIn true true) (a5 2) (a5 4))) (c6 (p5 4 true (a5 2) (eC (.bool true))) (n6 7 (.l .i) i7 (a5 2))) i6))))
  (Z:=[.list (m.map rwD),.list (n.map rwD),u,.int (z:Nat),.dict (prK (q++X)),L,T,.list (X.map stD),.int s,.int t,x])
  (λpre Z=>∃X' x' u',Z=[.list (m.map rwD),.list (n.map rwD),u',.int (z:Nat),.dict (prK (q++X')),L,T,.list (X'.map stD),.int s,.int t,x']/\(q++X').Nodup/\(∃Y,X'=X++Y)/\(∀p∈X',RB m n k s0 t0 (j+1) p)/\∀i<pre.length,(stp m s (i:Nat)).1=(stp n t (i:Nat)).1/\((stp m s (i:Nat)).2,(stp n t (i:Nat)).2)∈q++X')
  (λd=>d=.bool true/\¬ AL m n k (j+1) (s0,t0))
  ⟨X,x,u,rfl,kA,⟨[],by simp⟩,hX,λi hi=>absurd hi (by simp)⟩ (by
   rintro pre i post e Z ⟨X',x',u',rfl,mW,⟨Y,hY⟩,wL,gR⟩;obtain⟨ei,hi,_⟩:=B7 e;have nD:(0:Int)<=(i:Int):=by lia
   have oS:(i:Int)<k:=by lia
   have vR:∀p∈q++X',b1E m n p:=λp hp=>by
    rcases ar.mp hp with y|y
    ·exact Am p (aw _ y)
    ·exact (wL p y).1
   have hlen:(q++X').length<=30*30:=bZ (L3 mW vR) (dW hle nS);have AF:X'.length<=900:=by rw[az]at hlen;lia
   obtain⟨b1,b2,b3⟩:=a7P (z:=z) (q:=q++X') (E:=X') (L:=L) (T:=T) (u:=u') w w' ⟨s1,t1⟩ hi (by lia) AF;refine⟨_,rfl,?_⟩;by_cases ca:(stp m s i).1=(stp n t i).1
   ·left
    by_cases c2:((stp m s i).2,(stp n t i).2)∈q++X'
    ·refine⟨_,b2 ca c2,X',_,_,rfl,mW,⟨Y,hY⟩,wL,λi' iT=>?_⟩;rw[az,bx]at iT;by_cases e2:i'<pre.length
     ·exact gR i' e2
     ·have:i'=i:=by lia
      subst this;exact⟨ca,c2⟩
    ·refine⟨_,b3 ca c2,X'++[((stp m s i).2,(stp n t i).2)],_,_,by rw[aI],?_,⟨Y++[((stp m s i).2,(stp n t i).2)],by rw[hY,aI]⟩,λp hp=>?_,λi' iT=>?_⟩
     ·rw[<-aI,cB];exact⟨mW,by simp,λa ha b hb e=>c2 (by rw[ay.mp hb]at e;rw[<-e];exact ha)⟩
     ·rcases ar.mp hp with y|y
      ·exact wL p y
      ·rw[ay.mp y];refine⟨⟨w.nx s1.1 s1.2 nD oS,w'.nx t1.1 t1.2 nD oS⟩,λd hd=>?_⟩;have h2:=jE (d+1) (by rw[show j+(d+1)=j+1+d by lia];exact hd);exact (h2 i nD oS).2
     ·rw[az,bx]at iT;by_cases e2:i'<pre.length
      ·refine⟨(gR i' e2).1,?_⟩;rw[<-aI];exact aw _ (gR i' e2).2
      ·have:i'=i:=by lia
       subst this;exact⟨ca,by simp⟩
   ·right
    refine⟨.bool true,b1 ca,rfl,λh=>ca ?_⟩;have h2:=jE 1 h;exact (h2 i nD oS).1)
 have oJ:∀o,D9 (n9 10) (c6 (sIf (tB (e2 dNe (e2 a8 (e2 a8 (e2 dIx (a5 0) (a5 8)) (a5 10)) (eC (.int 0))) (e2 a8 (e2 a8 (e2 dIx (a5 1) (a5 9)) (a5 10)) (eC (.int 0))))) (k7 (eC (.bool true))) i6) (c6 (e7 2 (n8 (a6 (e2 a8 (e2 a8 (e2 dIx (a5 0) (a5 8)) (a5 10)) (eC (.int 1))) (a6 (e2 a8 (e2 a8 (e2 dIx (a5 1) (a5 9)) (a5 10)) (eC (.int 1))) b9)))) (sIf (tB (e2 (dIn true true) (a5 2) (a5 4))) (c6 (p5 4 true (a5 2) (eC (.bool true))) (n6 7 (.l .i) i7 (a5 2))) i6))) ((aW k).map λ(i:Nat)=>aX i) [.list (m.map rwD),.list (n.map rwD),u,.int (z:Nat),.dict (prK (q++X)),L,T,.list (X.map stD),.int s,.int t,x]=o->(r8 (iR (eCl l8 (a6 (e2 dIx (a5 0) (eC (.int 0))) b9))) (n9 10) (c6 (sIf (tB (e2 dNe (e2 a8 (e2 a8 (e2 dIx (a5 0) (a5 8)) (a5 10)) (eC (.int 0))) (e2 a8 (e2 a8 (e2 dIx (a5 1) (a5 9)) (a5 10)) (eC (.int 0))))) (k7 (eC (.bool true))) i6) (c6 (e7 2 (n8 (a6 (e2 a8 (e2 a8 (e2 dIx (a5 0) (a5 8)) (a5 10)) (eC (.int 1))) (a6 (e2 a8 (e2 a8 (e2 dIx (a5 1) (a5 9)) (a5 10)) (eC (.int 1))) b9)))) (sIf (tB (e2 (dIn true true) (a5 2) (a5 4))) (c6 (p5 4 true (a5 2) (eC (.bool true))) (n6 7 (.l .i) i7 (a5 2))) i6)))) [.list (m.map rwD),.list (n.map rwD),u,.int (z:Nat),.dict (prK (q++X)),L,T,.list (X.map stD),.int s,.int t,x]=o:=λo ho=>by
  rw[<-ho];walk_at "ev";rw[a0B (n:=k) (by walk_at "ev";rw[B8 (by decide) (by lia)];walk_at "ev";rw[w.row (by decide) (by lia)]) (by lia) (by lia),bF,G7];rfl
 rcases me with⟨Z',g1,X',x',u',rfl,h1,h2,h3,h4⟩|⟨d,g1,rfl,h⟩
 ·refine .inl ⟨X',x',u',oJ _ g1,h1,h2,h3,λa a0 a1=>?_⟩;have:=h4 a.toNat (by rw[cQ];lia);rw[bD a0]at this;exact this
 ·exact .inr ⟨oJ _ g1,h⟩
def RB.up{m n:k6}{k:Nat}{s0 t0:Int}{j:Nat}{p:Int×Int}(h:RB m n k s0 t0 j p):RB m n k s0 t0 (j+1) p:=⟨h.1,λd hd=>h.2 d (AL.le (by lia) hd)⟩
def a5M{m n:k6}{k z:Nat}(w:WF m k)(w':WF n k){s0 t0:Int}{q Ls:List (Int×Int)}{T x y u v:D}{j:Nat}(kA:q.Nodup)(hq:∀p∈q,RB m n k s0 t0 j p)(hL:∀p∈Ls,p∈q) :
  (∃X x' y' u' v',D9 (T6 8 9) (r8 (iR (eCl l8 (a6 (e2 dIx (a5 0) (eC (.int 0))) b9))) (n9 10) (c6 (sIf (tB (e2 dNe (e2 a8 (e2 a8 (e2 dIx (a5 0) (a5 8)) (a5 10)) (eC (.int 0))) (e2 a8 (e2 a8 (e2 dIx (a5 1) (a5 9)) (a5 10)) (eC (.int 0))))) (k7 (eC (.bool true))) i6) (c6 (e7 2 (n8 (a6 (e2 a8 (e2 a8 (e2 dIx (a5 0) (a5 8)) (a5 10)) (eC (.int 1))) (a6 (e2 a8 (e2 a8 (e2 dIx (a5 1) (a5 9)) (a5 10)) (eC (.int 1))) b9)))) (sIf (tB (e2 (dIn true true) (a5 2) (a5 4))) (c6 (p5 4 true (a5 2) (eC (.bool true))) (n6 7 (.l .i) i7 (a5 2))) i6)))) (Ls.map stD) [.list (m.map rwD),.list (n.map rwD),v,.int (z:Nat),.dict (prK q),.list (Ls.map stD),T,.list [],x,y,u]=cz (.nx [.list (m.map rwD),.list (n.map rwD),v',.int (z:Nat),.dict (prK (q++X)),.list (Ls.map stD),T,.list (X.map stD),x',y',u'])/\(q++X).Nodup/\(∀p∈X,RB m n k s0 t0 (j+1) p)/\∀p∈Ls,Good m n k p (q++X))∨
  (D9 (T6 8 9) (r8 (iR (eCl l8 (a6 (e2 dIx (a5 0) (eC (.int 0))) b9))) (n9 10) (c6 (sIf (tB (e2 dNe (e2 a8 (e2 a8 (e2 dIx (a5 0) (a5 8)) (a5 10)) (eC (.int 0))) (e2 a8 (e2 a8 (e2 dIx (a5 1) (a5 9)) (a5 10)) (eC (.int 0))))) (k7 (eC (.bool true))) i6) (c6 (e7 2 (n8 (a6 (e2 a8 (e2 a8 (e2 dIx (a5 0) (a5 8)) (a5 10)) (eC (.int 1))) (a6 (e2 a8 (e2 a8 (e2 dIx (a5 1) (a5 9)) (a5 10)) (eC (.int 1))) b9)))) (sIf (tB (e2 (dIn true true) (a5 2) (a5 4))) (c6 (p5 4 true (a5 2) (eC (.bool true))) (n6 7 (.l .i) i7 (a5 2))) i6)))) (Ls.map stD) [.list (m.map rwD),.list (n.map rwD),v,.int (z:Nat),.dict (prK q),.list (Ls.map stD),T,.list [],x,y,u]=cz (.rt (.bool true))/\¬ AL m n k (j+1) (s0,t0)):=by
 have me:=G8 (enc:=stD) (set:=T6 8 9) (xs:=Ls) (g:=(r8 (iR (eCl l8 (a6 (e2 dIx (a5 0) (eC (.int 0))) b9))) (n9 10) (c6 (sIf (tB (e2 dNe (e2 a8 (e2 a8 (e2 dIx (a5 0) (a5 8)) (a5 10)) (eC (.int 0))) (e2 a8 (e2 a8 (e2 dIx (a5 1) (a5 9)) (a5 10)) (eC (.int 0))))) (k7 (eC (.bool true))) i6) (c6 (e7 2 (n8 (a6 (e2 a8 (e2 a8 (e2 dIx (a5 0) (a5 8)) (a5 10)) (eC (.int 1))) (a6 (e2 a8 (e2 a8 (e2 dIx (a5 1) (a5 9)) (a5 10)) (eC (.int 1))) b9)))) (sIf (tB (e2 (dIn true true) (a5 2) (a5 4))) (c6 (p5 4 true (a5 2) (eC (.bool true))) (n6 7 (.l .i) i7 (a5 2))) i6))))) (Z:=[.list (m.map rwD),.list (n.map rwD),v,.int (z:Nat),.dict (prK q),.list (Ls.map stD),T,.list [],x,y,u])
  (λpre Z=>∃X x' y' u' v',Z=[.list (m.map rwD),.list (n.map rwD),v',.int (z:Nat),.dict (prK (q++X)),.list (Ls.map stD),T,.list (X.map stD),x',y',u']/\(q++X).Nodup/\(∀p∈X,RB m n k s0 t0 (j+1) p)/\∀p∈pre,Good m n k p (q++X))
  (λd=>d=.bool true/\¬ AL m n k (j+1) (s0,t0))
  ⟨[],x,y,u,v,by rw[bg];rfl,by rw[bg];exact kA,λp hp=>(nomatch hp),λp hp=>(nomatch hp)⟩ (by
   rintro pre ⟨s,t⟩ post e Z ⟨X,x',y',u',v',rfl,h1,h2,h3⟩;have jf:=hq (s,t) (hL _ (by rw[e];simp));refine⟨[.list (m.map rwD),.list (n.map rwD),v',.int (z:Nat),.dict (prK (q++X)),.list (Ls.map stD),T,.list (X.map stD),.int s,.int t,u'],rfl,?_⟩;rcases a7Q (z:=z) (L:=.list (Ls.map stD)) (T:=T) (x:=u') (u:=v') w w' jf h1 (λp hp=>by
    rcases ar.mp hp with c|c
    ·exact (hq p c).1
    ·exact (h2 p c).1) h2 with⟨X',x2,u2,g1,g2,⟨Y,hY⟩,g3,g4⟩|⟨g1,g2⟩
   ·refine .inl ⟨_,g1,X',_,_,_,_,rfl,g2,g3,λp hp=>?_⟩;rcases ar.mp hp with c|c
    ·rw[hY,<-aI];exact a2K (h3 p c)
    ·rw[ay.mp c];exact g4
   ·exact .inr ⟨_,g1,rfl,g2⟩)
 rcases me with⟨Z',g1,X,x',y',u',v',rfl,h1,h2,h3⟩|⟨d,g1,rfl,h⟩
 ·exact .inl ⟨X,x',y',u',v',g1,h1,h2,h3⟩
 ·exact .inr ⟨g1,h⟩
def a9U{m n:k6}{k z:Nat}(w:WF m k)(w':WF n k){s0 t0:Int}(Ak:0<=s0/\s0<(m.length:Int))(Ah:0<=t0/\t0<(n.length:Int))(hz:z<=1000) :
  ∃b,m_law_parted_within [.list (m.map rwD),.list (n.map rwD),prD (s0,t0),.int (z:Nat)]=cz (.bool b)/\(b=true↔¬ AL m n k z (s0,t0)):=by
 unfold m_law_parted_within;rw[T7 (by simp[VS.argsOk,imm,prD,f8])];unfold b_law_parted_within;walk_at "ev";rw[b3Z (k:=prD (s0,t0)) (d:=.bool true) (by walk_at "ev") (by walk_at "ev") (X9 _)];walk_at "ev";rw[a0B (n:=z) (by walk_at "ev") (by lia) (by lia),bF,G7];walk_at "ev";have me:=G8 (enc:=λ(i:Nat)=>aX i) (set:=n9 6) (xs:=aW z) (g:=(c6 (e7 7 (u7 b9)) (c6 (r8 (iI (iL (a5 5))) (T6 8 9) (r8 (iR (eCl l8 (a6 (e2 dIx (a5 0) (eC (.int 0))) b9))) (n9 10) (c6 (sIf (tB (e2 dNe (e2 a8 (e2 a8 (e2 dIx (a5 0) (a5 8)) (a5 10)) (eC (.int 0))) (e2 a8 (e2 a8 (e2 dIx (a5 1) (a5 9)) (a5 10)) (eC (.int 0))))) (k7 (eC (.bool true))) i6) (c6 (e7 2 (n8 (a6 (e2 a8 (e2 a8 (e2 dIx (a5 0) (a5 8)) (a5 10)) (eC (.int 1))) (a6 (e2 a8 (e2 a8 (e2 dIx (a5 1) (a5 9)) (a5 10)) (eC (.int 1))) b9)))) (sIf (tB (e2 (dIn true true) (a5 2) (a5 4))) (c6 (p5 4 true (a5 2) (eC (.bool true))) (n6 7 (.l .i) i7 (a5 2))) i6))))) (e7 5 (a5 7)))))
  (Z:=[.list (m.map rwD),.list (n.map rwD),prD (s0,t0),.int (z:Nat),.dict [(prD (s0,t0),.bool true)],.list [stD (s0,t0)],.none,.none,.none,.none,.none])
  (λpre Z=>∃(q Ls:List (Int×Int)) (a b x y u v:D),Z=[.list (m.map rwD),.list (n.map rwD),v,.int (z:Nat),.dict (prK q),.list (Ls.map stD),a,b,x,y,u]/\q.Nodup/\(∀p∈q,RB m n k s0 t0 pre.length p)/\(∀p∈Ls,p∈q)/\(∀p∈q,p∉Ls->Good m n k p q)/\∀d,(∀p∈q,AL m n k d p)->AL m n k (pre.length+d) (s0,t0))
  (λd=>d=.bool true/\¬ AL m n k z (s0,t0))
  ⟨[(s0,t0)],[(s0,t0)],_,_,_,_,_,_,rfl,by simp,λp hp=>by rw[ay.mp hp];exact⟨⟨Ak,Ah⟩,λd hd=>by simpa using hd⟩,λp hp=>hp,λp hp hn=>absurd hp hn,λd hd=>by simpa using hd (s0,t0) (by simp)⟩ (by
   rintro pre i post e Z ⟨q,Ls,a,b,x,y,u,v,rfl,h1,h2,h3,h4,h5⟩;obtain⟨ei,hi,_⟩:=B7 e;refine⟨[.list (m.map rwD),.list (n.map rwD),v,.int (z:Nat),.dict (prK q),.list (Ls.map stD),.int i,b,x,y,u],rfl,?_⟩;have step:∀o,D9 (T6 8 9) (r8 (iR (eCl l8 (a6 (e2 dIx (a5 0) (eC (.int 0))) b9))) (n9 10) (c6 (sIf (tB (e2 dNe (e2 a8 (e2 a8 (e2 dIx (a5 0) (a5 8)) (a5 10)) (eC (.int 0))) (e2 a8 (e2 a8 (e2 dIx (a5 1) (a5 9)) (a5 10)) (eC (.int 0))))) (k7 (eC (.bool true))) i6) (c6 (e7 2 (n8 (a6 (e2 a8 (e2 a8 (e2 dIx (a5 0) (a5 8)) (a5 10)) (eC (.int 1))) (a6 (e2 a8 (e2 a8 (e2 dIx (a5 1) (a5 9)) (a5 10)) (eC (.int 1))) b9)))) (sIf (tB (e2 (dIn true true) (a5 2) (a5 4))) (c6 (p5 4 true (a5 2) (eC (.bool true))) (n6 7 (.l .i) i7 (a5 2))) i6)))) (Ls.map stD) [.list (m.map rwD),.list (n.map rwD),v,.int (z:Nat),.dict (prK q),.list (Ls.map stD),.int i,.list [],x,y,u]=o->(c6 (e7 7 (u7 b9)) (c6 (r8 (iI (iL (a5 5))) (T6 8 9) (r8 (iR (eCl l8 (a6 (e2 dIx (a5 0) (eC (.int 0))) b9))) (n9 10) (c6 (sIf (tB (e2 dNe (e2 a8 (e2 a8 (e2 dIx (a5 0) (a5 8)) (a5 10)) (eC (.int 0))) (e2 a8 (e2 a8 (e2 dIx (a5 1) (a5 9)) (a5 10)) (eC (.int 0))))) (k7 (eC (.bool true))) i6) (c6 (e7 2 (n8 (a6 (e2 a8 (e2 a8 (e2 dIx (a5 0) (a5 8)) (a5 10)) (eC (.int 1))) (a6 (e2 a8 (e2 a8 (e2 dIx (a5 1) (a5 9)) (a5 10)) (eC (.int 1))) b9)))) (sIf (tB (e2 (dIn true true) (a5 2) (a5 4))) (c6 (p5 4 true (a5 2) (eC (.bool true))) (n6 7 (.l .i) i7 (a5 2))) i6))))) (e7 5 (a5 7)))) [.list (m.map rwD),.list (n.map rwD),v,.int (z:Nat),.dict (prK q),.list (Ls.map stD),.int i,b,x,y,u]=thn o (e7 5 (a5 7)):=λo ho=>by
    rw[<-ho,v6];have h0:e7 7 (u7 b9) [.list (m.map rwD),.list (n.map rwD),v,.int (z:Nat),.dict (prK q),.list (Ls.map stD),.int i,b,x,y,u]=cz (.nx [.list (m.map rwD),.list (n.map rwD),v,.int (z:Nat),.dict (prK q),.list (Ls.map stD),.int i,.list [],x,y,u]):=by walk_at "ev"
    rw[h0,v4,v6,a6j,a7E (ds:=Ls.map stD) (by walk_at "ev") (y8 _ (λ_=>a3q) _)];rfl
   rcases a5M (z:=z) (T:=.int i) (x:=x) (y:=y) (u:=u) (v:=v) w w' h1 h2 h3 with⟨X,x',y',u',v',g1,g2,g3,g4⟩|⟨g1,g2⟩
   ·left
    have nU:∀p∈q,Good m n k p (q++X):=λp hp=>by
     by_cases c:p∈Ls
     ·exact g4 p c
     ·exact a2K (h4 p hp c)
    refine⟨[.list (m.map rwD),.list (n.map rwD),v',.int (z:Nat),.dict (prK (q++X)),.list (X.map stD),.int i,.list (X.map stD),x',y',u'],by rw[step _ g1];walk_at "ev",q++X,X,_,_,_,_,_,_,rfl,g2,λp hp=>?_,λp hp=>aq _ hp,λp hp hn=>?_,λd hd=>?_⟩
    ·rw[az,bx];rcases ar.mp hp with c|c
     ·exact (h2 p c).up
     ·exact g3 p c
    ·rcases ar.mp hp with c|c
     ·exact nU p c
     ·exact absurd c hn
    ·rw[az,bx,show pre.length+1+d=pre.length+(d+1) by lia];refine h5 (d+1) λp hp=>?_
     obtain⟨r1,r2⟩:=(h2 p hp).1;exact λa a0 a1=>⟨(nU p hp a a0 a1).1,hd _ (nU p hp a a0 a1).2⟩
   ·right
    refine⟨.bool true,by rw[step _ g1];rfl,rfl,λh=>g2 ?_⟩;exact AL.le (by lia) h)
 rcases me with⟨Z',g1,q,Ls,a,b,x,y,u,v,rfl,h1,h2,h3,h4,h5⟩|⟨d,g1,rfl,h⟩
 ·have rM:AL m n k z (s0,t0):=by
   have:=h5 0 λp hp=>trivial
   rw[cQ]at this;simpa using this
  refine⟨false,?_,λh=>(nomatch h),λh=>absurd rM h⟩;show a0A (thn (D9 (n9 6) (c6 (e7 7 (u7 b9)) (c6 (r8 (iI (iL (a5 5))) (T6 8 9) (r8 (iR (eCl l8 (a6 (e2 dIx (a5 0) (eC (.int 0))) b9))) (n9 10) (c6 (sIf (tB (e2 dNe (e2 a8 (e2 a8 (e2 dIx (a5 0) (a5 8)) (a5 10)) (eC (.int 0))) (e2 a8 (e2 a8 (e2 dIx (a5 1) (a5 9)) (a5 10)) (eC (.int 0))))) (k7 (eC (.bool true))) i6) (c6 (e7 2 (n8 (a6 (e2 a8 (e2 a8 (e2 dIx (a5 0) (a5 8)) (a5 10)) (eC (.int 1))) (a6 (e2 a8 (e2 a8 (e2 dIx (a5 1) (a5 9)) (a5 10)) (eC (.int 1))) b9)))) (sIf (tB (e2 (dIn true true) (a5 2) (a5 4))) (c6 (p5 4 true (a5 2) (eC (.bool true))) (n6 7 (.l .i) i7 (a5 2))) i6))))) (e7 5 (a5 7)))) ((aW z).map λ(i:Nat)=>aX i) [.list (m.map rwD),.list (n.map rwD),prD (s0,t0),.int (z:Nat),.dict [(prD (s0,t0),.bool true)],.list [stD (s0,t0)],.none,.none,.none,.none,.none]) _)=_;rw[g1];walk_at "ev"
 ·refine⟨true,?_,λ_=>h,λ_=>rfl⟩;show a0A (thn (D9 (n9 6) (c6 (e7 7 (u7 b9)) (c6 (r8 (iI (iL (a5 5))) (T6 8 9) (r8 (iR (eCl l8 (a6 (e2 dIx (a5 0) (eC (.int 0))) b9))) (n9 10) (c6 (sIf (tB (e2 dNe (e2 a8 (e2 a8 (e2 dIx (a5 0) (a5 8)) (a5 10)) (eC (.int 0))) (e2 a8 (e2 a8 (e2 dIx (a5 1) (a5 9)) (a5 10)) (eC (.int 0))))) (k7 (eC (.bool true))) i6) (c6 (e7 2 (n8 (a6 (e2 a8 (e2 a8 (e2 dIx (a5 0) (a5 8)) (a5 10)) (eC (.int 1))) (a6 (e2 a8 (e2 a8 (e2 dIx (a5 1) (a5 9)) (a5 10)) (eC (.int 1))) b9)))) (sIf (tB (e2 (dIn true true) (a5 2) (a5 4))) (c6 (p5 4 true (a5 2) (eC (.bool true))) (n6 7 (.l .i) i7 (a5 2))) i6))))) (e7 5 (a5 7)))) ((aW z).map λ(i:Nat)=>aX i) [.list (m.map rwD),.list (n.map rwD),prD (s0,t0),.int (z:Nat),.dict [(prD (s0,t0),.bool true)],.list [stD (s0,t0)],.none,.none,.none,.none,.none]) _)=_;rw[g1];rfl
def a0M{m n:k6}{x y:Int}{a:Nat}:un1 m n [x,y] a=false↔(stp m x (a:Int)).1=(stp n y (a:Int)).1:=by
 show (!decide ((stp m x (a:Int)).1=(stp n y (a:Int)).1))=false↔_;rw[xx,decide_eq_true_eq]
theorem a9V{m n:k6}{k:Nat}:∀(d:Nat) (x y:Int),(∀p:List Int,p.length<d->(∀a∈p,0<=a/\a<(k:Int))->c2 m n k (E5 (nx2 m n) [x,y] p)=false)->AL m n k d (x,y)
 |0,_,_,_=>trivial
 |d+1,x,y,h=>λa a0 a1=>by
  have h0:un1 m n [x,y] a.toNat=false:=Y0.mp (h [] (by simp) λa ha=>(nomatch ha)) a.toNat (by lia);refine⟨?_,a9V d _ _ λp hp hk=>?_⟩
  ·have:=a0M.mp h0
   rwa[bD a0]at this
  ·have:=h (a::p) (by rw[aO];lia) (λb hb=>(aF.mp hb).elim (λz=>by rw[z];exact⟨a0,a1⟩) (hk b));have e:E5 (nx2 m n) [x,y] (a::p)=E5 (nx2 m n) [(stp m x (a.toNat:Nat)).2,(stp n y (a.toNat:Nat)).2] p:=rfl;rw[e,bD a0]at this;exact this
structure Fst (m n:k6) (k:Nat) (q:List Int) (a0:Nat):Prop where
 ok:∀a∈q,0<=a/\a<(k:Int)
 ak:a0<k
 h1:AL m n k q.length (0,0)
 h2:∀i,i<q.length->∀a:Int,0<=a->a<q.getD i 0->AL m n k (q.length-i) ((stp m (i8 m 0 (q.take i)).2 a).2,(stp n (i8 n 0 (q.take i)).2 a).2)
 h3:∀i,i<q.length->∀a:Int,0<=a->a<k->(stp m (i8 m 0 (q.take i)).2 a).1=(stp n (i8 n 0 (q.take i)).2 a).1
 h4:∀a:Int,0<=a->a<a0->(stp m (i8 m 0 q).2 a).1=(stp n (i8 n 0 q).2 a).1
 h5:¬ (stp m (i8 m 0 q).2 a0).1=(stp n (i8 n 0 q).2 a0).1
def b4g{p:List Int}:∀{a b:Int} {x y:List Int},wl (p++a::x) (p++b::y)->a<=b:=by
 induction p with
 |nil=>
  intro a b x y h;rcases (show a<b∨a=b/\wl x y from h) with z|z<;>lia
 |cons c p ih=>
  intro a b x y h;rcases (show c<c∨c=c/\wl (p++a::x) (p++b::y) from h) with z|z
  ·lia
  ·exact ih z.2
def Fst.of{m n:k6}{k:Nat}{W:w8 (List Int)}(hA:AllB (nx2 m n) k [0,0] (Pr2 m n) W){e:List Int×List Int}(h:W.find? (λe=>c2 m n k e.1)=cz e):Fst m n k e.2 ((un2 m n k e.1).getD 0 0):=by
 obtain⟨b,q⟩:=e;have hm:=fL h;have hc:c2 m n k b=true:=by have:=Dr h;exact this
 obtain⟨oJ,hok⟩:=hA.leads q.length (aG _) hm;have hf:b1B (c2 m n k) W=cz q:=by unfold b1B;rw[h];rfl
 have least:∀p:List Int,(∀a∈p,0<=a/\a<(k:Int))->c2 m n k (E5 (nx2 m n) [0,0] p)=true->q=p∨bf q p:=λp hp tQ=>by
  obtain⟨q',h1,h2⟩:=a5K hA hp tQ;rw[hf]at h1;cases h1
  exact h2
 have short:∀p:List Int,(∀a∈p,0<=a/\a<(k:Int))->p.length<q.length->c2 m n k (E5 (nx2 m n) [0,0] p)=false:=λp hp hl=>by
  cases x:c2 m n k (E5 (nx2 m n) [0,0] p) with
  |false=>rfl
  |true=>
   rcases least p hp x with z|z|z
   ·rw[z]at hl;lia
   ·lia
   ·lia
 have hb:b=[(i8 m 0 q).2,(i8 n 0 q).2]:=by rw[<-oJ,a0d q 0 0 λa ha=>(hok a ha).1]
 have jH:∀i,(∀a∈q.take i,0<=a/\a<(k:Int)):=λi a ha=>hok a (jP ha)
 have yb:∀i,E5 (nx2 m n) [0,0] (q.take i)=[(i8 m 0 (q.take i)).2,(i8 n 0 (q.take i)).2]:=λi=>a0d _ 0 0 λa ha=>(jH i a ha).1
 obtain⟨a1,as,hu⟩:∃a1 as,un2 m n k b=a1::as:=by
  unfold c2 at hc;cases hu:un2 m n k b with
  |nil=>rw[hu]at hc;cases hc
  |cons a as=>exact⟨a,as,rfl⟩
 have jI:a1∈un2 m n k b:=by rw[hu];exact aD
 have pG:a1<k/\un1 m n b a1=true:=by
  obtain⟨x,y⟩:=dC.mp jI;exact⟨bX.mp x,y⟩
 have qR:∀a:Nat,a<a1->un1 m n b a=false:=λa ha=>by
  cases x:un1 m n b a with
  |false=>rfl
  |true=>
   have jh:a∈un2 m n k b:=dC.mpr ⟨bX.mpr (by lia),x⟩;have hs:(un2 m n k b).Pairwise (· < ·):=List.Pairwise.filter _ rB;rw[hu]at jh hs;rcases aF.mp jh with z|z
   ·lia
   ·have:=(eU.mp hs).1 a z;lia
 show Fst m n k q ((un2 m n k b).getD 0 0);rw[hu];show Fst m n k q a1;refine⟨hok,pG.1,a9V _ 0 0 λp hp hk=>short p hk hp,λi hi a x0 x1=>a9V _ _ _ λp hp hk=>?_,λi hi a x0 x1=>?_,λa x0 x1=>?_,?_⟩
 ·have CM:=hok (q.getD i 0) (by rw[ai,ah hi];exact cF _);have sU:∀c∈q.take i++a::p,0<=c/\c<(k:Int):=λc hc=>by
   rcases ar.mp hc with z|z
   ·exact jH i c z
   ·rcases aF.mp z with z|z
    ·rw[z];exact⟨x0,by lia⟩
    ·exact hk c z
  have e:E5 (nx2 m n) [0,0] (q.take i++a::p)=E5 (nx2 m n) [(stp m (i8 m 0 (q.take i)).2 a).2,(stp n (i8 n 0 (q.take i)).2 a).2] p:=by
   rw[a9P,yb];show E5 (nx2 m n) [(stp m _ (a.toNat:Nat)).2,(stp n _ (a.toNat:Nat)).2] p=_;rw[bD x0];rfl
  rw[<-e];cases x:c2 m n k (E5 (nx2 m n) [0,0] (q.take i++a::p)) with
  |false=>rfl
  |true=>
   have hl:(q.take i++a::p).length=i+(1+p.length):=by rw[az,cu,aO];lia
   have uI:q=q.take i++q.getD i 0::q.drop (i+1):=by
    conv=>lhs;rw[<-fg i q]
    rw[cI hi,ai,ah hi];rfl
   rcases least _ sU x with z|z|⟨z1,z2⟩
   ·have:q[i]?=(q.take i++a::p)[i]?:=fE (λl:List Int=>l[i]?) z;rw[bI (by rw[cu];lia),cu,show i-min i q.length=0 by lia,ah hi]at this;have h2:q[i]=a:=by simpa using this
    rw[ai,ah hi]at x1;have h3:a<q[i]:=x1;lia
   ·rw[hl]at z;lia
   ·rw[uI]at z2;have gA:(q.take i++q.getD i 0::q.drop (i+1)).take i=q.take i:=by rw[<-uI]
    rw[gA]at z2;have:=b4g z2;lia
 ·have:=Y0.mp (short (q.take i) (jH i) (by rw[cu];lia)) a.toNat (by lia);rw[yb]at this;have h2:=a0M.mp this
  rwa[bD x0]at h2
 ·have:=qR a.toNat (by lia);rw[hb]at this;have h2:=a0M.mp this
  rwa[bD x0]at h2
 ·have:=pG.2;rw[hb]at this;intro z;rw[a0M.mpr z]at this;cases this
abbrev b4h:EvS:=(sIf (K5 (tNo (tV (e1 (λd=>cz (.bool (isInt d))) (a5 6)))) (K5 (tV (e1 (λd=>cz (.bool (isBool d))) (a5 6))) (tNo (tB (eCh dLe dLt (eC (.int 0)) (a5 6) (eCl l8 (a6 (e2 dIx (a5 0) (eC (.int 0))) b9))))))) (k7 (eC (.bool false))) i6)
abbrev b4i:EvS:=(sIf (tB (e2 dNe (e2 a8 (e2 a8 (e2 dIx (a5 0) (a5 3)) (a5 7)) (eC (.int 0))) (e2 a8 (e2 a8 (e2 dIx (a5 1) (a5 4)) (a5 7)) (eC (.int 0))))) (k7 (eC (.bool false))) i6)
abbrev b4j:EvS:=(sIf (tB (e2 dNe (e2 a8 (e2 a8 (e2 dIx (a5 0) (a5 3)) (a5 6)) (eC (.int 0))) (e2 a8 (e2 a8 (e2 dIx (a5 1) (a5 4)) (a5 6)) (eC (.int 0))))) (k7 (e2 dEq (a5 5) (e2 A7 (eCl l8 (a6 (a5 2) b9)) (eC (.int 1))))) i6)
abbrev a7R:EvS:=(c6 (e7 8 (n8 (a6 (e2 a8 (e2 a8 (e2 dIx (a5 0) (a5 3)) (a5 7)) (eC (.int 1))) (a6 (e2 a8 (e2 a8 (e2 dIx (a5 1) (a5 4)) (a5 7)) (eC (.int 1))) b9)))) (c6 b4i (sIf (tV (eCl m_law_parted_within (a6 (a5 0) (a6 (a5 1) (a6 (a5 8) (a6 (e2 A7 (e2 A7 (eCl l8 (a6 (a5 2) b9)) (eC (.int 1))) (a5 5)) b9)))))) (k7 (eC (.bool false))) i6)))
abbrev a9W:EvS:=(c6 (e7 6 (e2 dIx (a5 2) (a5 5))) (c6 b4h (c6 (r8 (iR (a5 6)) (n9 7) a7R) (c6 b4j (c6 (e7 3 (e2 a8 (e2 a8 (e2 dIx (a5 0) (a5 3)) (a5 6)) (eC (.int 1)))) (e7 4 (e2 a8 (e2 a8 (e2 dIx (a5 1) (a5 4)) (a5 6)) (eC (.int 1)))))))))
def a6B{m n:k6}{k z:Nat}(w:WF m k)(w':WF n k){s t:Int}(hs:0<=s/\s<(m.length:Int))(ht:0<=t/\t<(n.length:Int))(hz:z<=1000)(h:AL m n k z (s,t)):m_law_parted_within [.list (m.map rwD),.list (n.map rwD),.tuple [.int s,.int t],.int (z:Nat)]=cz (.bool false):=by
 obtain⟨b,h1,h2⟩:=a9U w w' hs ht hz;cases b with
 |false=>exact h1
 |true=>exact absurd h (h2.mp rfl)
section
variable {m n:k6}{k:Nat}{q:List Int}{a0:Nat}
def a6C(w:WF m k)(w':WF n k){s t:Int}(hs:0<=s/\s<(m.length:Int))(ht:0<=t/\t<(n.length:Int)){i c:Nat}(hi:i<=q.length)(oM:q.length<=900)(hc:c<k)(h1:∀a:Int,0<=a->a<c->(stp m s a).1=(stp n t a).1)(h2:∀a:Int,0<=a->a<c->AL m n k (q.length-i) ((stp m s a).2,(stp n t a).2))(x y:D) :
  ∃x' y',(r8 (iR (a5 6)) (n9 7) a7R) [.list (m.map rwD),.list (n.map rwD),iD (q++[(a0:Int)]),.int s,.int t,.int i,.int c,x,y]=cz (.nx [.list (m.map rwD),.list (n.map rwD),iD (q++[(a0:Int)]),.int s,.int t,.int i,.int c,x',y']):=by
 have hk:=w.k5;rw[a6j,a0B (n:=c) (by walk_at "ev") (by lia) (by lia),bF];obtain⟨Z',g1,x',y',rfl⟩:=C9 (n:=c) (set:=n9 7) (g:=a7R) (Z:=[.list (m.map rwD),.list (n.map rwD),iD (q++[(a0:Int)]),.int s,.int t,.int i,.int c,x,y])
  (λj Z=>∃x' y',Z=[.list (m.map rwD),.list (n.map rwD),iD (q++[(a0:Int)]),.int s,.int t,.int i,.int c,x',y']) ⟨_,_,rfl⟩ (by
   rintro a ha Z ⟨x',y',rfl⟩;have er:(rowAt m s).getD (a:Int).toNat (0,0)=stp m s a:=rfl;have eL:(rowAt n t).getD (a:Int).toNat (0,0)=stp n t a:=rfl;have yg:=w.nx hs.1 hs.2 (a:=(a:Int)) (by lia) (by lia);have wa:=w'.nx ht.1 ht.2 (a:=(a:Int)) (by lia) (by lia);refine⟨_,[.list (m.map rwD),.list (n.map rwD),iD (q++[(a0:Int)]),.int s,.int t,.int i,.int c,.int a,.tuple [.int (stp m s a).2,.int (stp n t a).2]],rfl,?_,_,_,rfl⟩;show a7R [.list (m.map rwD),.list (n.map rwD),iD (q++[(a0:Int)]),.int s,.int t,.int i,.int c,.int a,y']=_;unfold a7R;have ll:e7 8 (n8 (a6 (e2 a8 (e2 a8 (e2 dIx (a5 0) (a5 3)) (a5 7)) (eC (.int 1))) (a6 (e2 a8 (e2 a8 (e2 dIx (a5 1) (a5 4)) (a5 7)) (eC (.int 1))) b9))) [.list (m.map rwD),.list (n.map rwD),iD (q++[(a0:Int)]),.int s,.int t,.int i,.int c,.int a,y']=cz (.nx [.list (m.map rwD),.list (n.map rwD),iD (q++[(a0:Int)]),.int s,.int t,.int i,.int c,.int a,prD ((stp m s a).2,(stp n t a).2)]):=by
    walk_at "ev";rw[B8 hs.1 hs.2];walk_at "ev";rw[L8 (by lia) (by rw[w.row hs.1 hs.2];lia),er];walk_at "ev";rw[B8 ht.1 ht.2];walk_at "ev";rw[L8 (by lia) (by rw[w'.row ht.1 ht.2];lia),eL];walk_at "ev";rfl
   rw[v6,ll,v4,v6];have qP:b4i [.list (m.map rwD),.list (n.map rwD),iD (q++[(a0:Int)]),.int s,.int t,.int i,.int c,.int a,prD ((stp m s a).2,(stp n t a).2)]=cz (.nx [.list (m.map rwD),.list (n.map rwD),iD (q++[(a0:Int)]),.int s,.int t,.int i,.int c,.int a,prD ((stp m s a).2,(stp n t a).2)]):=by
    unfold b4i;walk_at "ev";rw[B8 hs.1 hs.2];walk_at "ev";rw[L8 (by lia) (by rw[w.row hs.1 hs.2];lia),er];walk_at "ev";rw[B8 ht.1 ht.2];walk_at "ev";rw[L8 (by lia) (by rw[w'.row ht.1 ht.2];lia),eL];walk_at "ev";rw[aU (h1 a (by lia) (by lia))];walk_at "ev"
   rw[qP,v4];walk_at "ev";have hl:((q++[(a0:Int)]).length:Int)-1-i=((q.length-i:Nat):Int):=by rw[az,bx];lia
   have np:m_law_parted_within [.list (m.map rwD),.list (n.map rwD),prD ((stp m s a).2,(stp n t a).2),.int ((q.length-i:Nat):Int)]=cz (.bool false):=a6B w w' yg wa (by lia) (h2 a (by lia) (by lia));rw[hl,np];walk_at "ev";rfl)
 exact⟨_,_,g1⟩
def b1F(w:WF m k)(w':WF n k)(F:Fst m n k q a0)(oM:q.length<=900):m_law_first [.list (m.map rwD),.list (n.map rwD),iD (q++[(a0:Int)])]=cz (.bool true):=by
 have hk:=w.k5;have hp:=w.pos;have sU:=w'.pos;have ym:(q++[(a0:Int)]).length=q.length+1:=by rw[az,bx]
 have ye:∀i,∀a∈q.take i,0<=a/\a<(k:Int):=λi a ha=>F.ok a (jP ha)
 have r1:∀i,_:=λi=>Z7 w (q.take i) 0 (by decide) (by lia) (ye i)
 have r2:∀i,_:=λi=>Z7 w' (q.take i) 0 (by decide) (by lia) (ye i)
 unfold m_law_first;rw[T7 (by simp[VS.argsOk,imm])];unfold b_law_first;walk_at "ev";rw[show ((q++[(a0:Int)]).length:Int)-1=((q.length:Nat):Int) by lia,a6B w w' (s:=0) (t:=0) ⟨by decide,by lia⟩ ⟨by decide,by lia⟩ (by lia) F.h1];walk_at "ev";have main:=G8 (enc:=λ(i:Nat)=>aX i) (set:=n9 5) (xs:=aW (q.length+1)) (g:=a9W) (Z:=[.list (m.map rwD),.list (n.map rwD),iD (q++[(a0:Int)]),.int 0,.int 0,.none,.none,.none,.none])
  (λpre Z=>pre.length<=q.length/\∃u v x y,Z=[.list (m.map rwD),.list (n.map rwD),iD (q++[(a0:Int)]),.int (i8 m 0 (q.take pre.length)).2,.int (i8 n 0 (q.take pre.length)).2,u,v,x,y])
  (λd=>d=.bool true) ⟨cW _,_,_,_,_,rfl⟩ (by
   rintro pre i post e Z ⟨fB,u,v,x,y,rfl⟩;obtain⟨rfl,hi,_⟩:=B7 e;rw[az,bx];generalize pre.length=i at fB hi ⊢;obtain⟨c,hc,yu⟩:∃c:Nat,(q++[(a0:Int)]).getD i 0=(c:Int)/\c<k:=by
    by_cases z:i<q.length
    ·have:=F.ok (q.getD i 0) (by rw[ai,ah z];exact cF _);refine⟨(q.getD i 0).toNat,?_,by lia⟩;rw[bD this.1,ai,bK z,<-ai]
    ·refine⟨a0,?_,F.ak⟩;rw[show i=q.length by lia,ai,bI (aG _),eS];rfl
   have hs:=r1 i;have ht:=r2 i;refine⟨[.list (m.map rwD),.list (n.map rwD),iD (q++[(a0:Int)]),.int (i8 m 0 (q.take i)).2,.int (i8 n 0 (q.take i)).2,.int i,v,x,y],rfl,?_⟩;have s1:∀u,e7 6 (e2 dIx (a5 2) (a5 5)) [.list (m.map rwD),.list (n.map rwD),iD (q++[(a0:Int)]),.int (i8 m 0 (q.take i)).2,.int (i8 n 0 (q.take i)).2,.int i,u,x,y]=cz (.nx [.list (m.map rwD),.list (n.map rwD),iD (q++[(a0:Int)]),.int (i8 m 0 (q.take i)).2,.int (i8 n 0 (q.take i)).2,.int i,.int c,x,y]):=λu=>by
    walk_at "ev";rw[K4 (by lia) (by lia),bF,hc];walk_at "ev"
   have s2:b4h [.list (m.map rwD),.list (n.map rwD),iD (q++[(a0:Int)]),.int (i8 m 0 (q.take i)).2,.int (i8 n 0 (q.take i)).2,.int i,.int c,x,y]=cz (.nx [.list (m.map rwD),.list (n.map rwD),iD (q++[(a0:Int)]),.int (i8 m 0 (q.take i)).2,.int (i8 n 0 (q.take i)).2,.int i,.int c,x,y]):=by
    unfold b4h;walk_at "ev";rw[aU (show (0:Int)<=c by lia)];walk_at "ev";rw[B8 (by decide) (by lia)];walk_at "ev";rw[w.row (by decide) (by lia),aU (show (c:Int)<k by lia)];walk_at "ev"
   have ha:∃x' y',(r8 (iR (a5 6)) (n9 7) a7R) [.list (m.map rwD),.list (n.map rwD),iD (q++[(a0:Int)]),.int (i8 m 0 (q.take i)).2,.int (i8 n 0 (q.take i)).2,.int i,.int c,x,y]=cz (.nx [.list (m.map rwD),.list (n.map rwD),iD (q++[(a0:Int)]),.int (i8 m 0 (q.take i)).2,.int (i8 n 0 (q.take i)).2,.int i,.int c,x',y']):=by
    by_cases z:i<q.length
    ·have ox:q.getD i 0=(c:Int):=by rw[<-hc,ai,ai,bK z]
     exact a6C w w' hs ht fB oM yu (λa x0 x1=>F.h3 i z a x0 (by lia)) (λa x0 x1=>F.h2 i z a x0 (by lia)) x y
    ·have rQ:i=q.length:=by lia
     have tU:c=a0:=by
      rw[rQ,ai,bI (aG _),eS]at hc;have:(a0:Int)=c:=hc;lia
     subst tU;refine a6C w w' hs ht fB oM yu (λa x0 x1=>?_) (λa x0 x1=>by rw[rQ,eS];trivial) x y;have:=F.h4 a x0 x1;rw[rQ,mh];exact this
   obtain⟨x',y',ha⟩:=ha;have er:(rowAt m (i8 m 0 (q.take i)).2).getD (c:Int).toNat (0,0)=stp m (i8 m 0 (q.take i)).2 c:=rfl;have eL:(rowAt n (i8 n 0 (q.take i)).2).getD (c:Int).toNat (0,0)=stp n (i8 n 0 (q.take i)).2 c:=rfl;have s4:b4j [.list (m.map rwD),.list (n.map rwD),iD (q++[(a0:Int)]),.int (i8 m 0 (q.take i)).2,.int (i8 n 0 (q.take i)).2,.int i,.int c,x',y']=a3c (cz (!decide ((stp m (i8 m 0 (q.take i)).2 c).1=(stp n (i8 n 0 (q.take i)).2 c).1))) (k7 (e2 dEq (a5 5) (e2 A7 (eCl l8 (a6 (a5 2) b9)) (eC (.int 1))))) i6 [.list (m.map rwD),.list (n.map rwD),iD (q++[(a0:Int)]),.int (i8 m 0 (q.take i)).2,.int (i8 n 0 (q.take i)).2,.int i,.int c,x',y']:=by
    unfold b4j;generalize (i8 m 0 (q.take i)).2=s at hs er ⊢;generalize (i8 n 0 (q.take i)).2=t at ht eL ⊢;walk_at "ev";rw[B8 hs.1 hs.2];walk_at "ev";rw[L8 (by lia) (by rw[w.row hs.1 hs.2];lia),er];walk_at "ev";rw[B8 ht.1 ht.2];walk_at "ev";rw[L8 (by lia) (by rw[w'.row ht.1 ht.2];lia),eL];walk_at "ev"
   by_cases z:i<q.length
   ·left
    have ox:q.getD i 0=(c:Int):=by rw[<-hc,ai,ai,bK z]
    have uE:q.take (i+1)=q.take i++[(c:Int)]:=by rw[List.take_succ,ah z,<-ox,ai,ah z];rfl
    refine⟨[.list (m.map rwD),.list (n.map rwD),iD (q++[(a0:Int)]),.int (i8 m 0 (q.take (i+1))).2,.int (i8 n 0 (q.take (i+1))).2,.int i,.int c,x',y'],?_,z,_,_,_,_,rfl⟩
    ·rw[uE,a1D,a1D];have hw:a9W [.list (m.map rwD),.list (n.map rwD),iD (q++[(a0:Int)]),.int (i8 m 0 (q.take i)).2,.int (i8 n 0 (q.take i)).2,.int i,v,x,y]=(c6 (e7 3 (e2 a8 (e2 a8 (e2 dIx (a5 0) (a5 3)) (a5 6)) (eC (.int 1)))) (e7 4 (e2 a8 (e2 a8 (e2 dIx (a5 1) (a5 4)) (a5 6)) (eC (.int 1))))) [.list (m.map rwD),.list (n.map rwD),iD (q++[(a0:Int)]),.int (i8 m 0 (q.take i)).2,.int (i8 n 0 (q.take i)).2,.int i,.int c,x',y']:=by
      unfold a9W;rw[v6,s1,v4,v6,s2,v4,v6,ha,v4,v6,s4,aU (F.h3 i z c (by lia) (by lia))];rfl
     rw[hw];generalize (i8 m 0 (q.take i)).2=s at hs er ⊢;generalize (i8 n 0 (q.take i)).2=t at ht eL ⊢;walk_at "ev";rw[B8 hs.1 hs.2];walk_at "ev";rw[L8 (by lia) (by rw[w.row hs.1 hs.2];lia),er];walk_at "ev";rw[B8 ht.1 ht.2];walk_at "ev";rw[L8 (by lia) (by rw[w'.row ht.1 ht.2];lia),eL];walk_at "ev"
   ·right
    have rQ:i=q.length:=by lia
    have tU:c=a0:=by
     rw[rQ,ai,bI (aG _),eS]at hc;have:(a0:Int)=c:=hc;lia
    subst tU;have h5:¬ (stp m (i8 m 0 (q.take i)).2 c).1=(stp n (i8 n 0 (q.take i)).2 c).1:=by
     rw[rQ,mh];exact F.h5
    refine⟨_,?_,rfl⟩;unfold a9W;rw[v6,s1,v4,v6,s2,v4,v6,ha,v4,v6,s4,bt h5];walk_at "ev";rw[aU (by rw[az,bx];lia)])
 have rr:=main.resolve_left λ⟨_,_,h,_⟩=>by rw[cQ]at h;lia
 obtain⟨d,g,rfl⟩:=rr;rw[a0B (n:=((q++[(a0:Int)]).length:Int)) (by walk_at "ev") (by lia) (by lia),bF,ym,G7];show a0A (thn (D9 (n9 5) a9W ((aW (q.length+1)).map λ(i:Nat)=>aX i) [.list (m.map rwD),.list (n.map rwD),iD (q++[(a0:Int)]),.int 0,.int 0,.none,.none,.none,.none]) _)=_;rw[g];rfl
end
abbrev b4k:EvS:=(sIf (K5 (tNo (tV (e1 (λd=>cz (.bool (O3 d))) (a5 4)))) (K5 (tV (e1 (λd=>cz (.bool (isBool d))) (e2 dIx (a5 4) (eC (.int 0))))) (tV (e1 (λd=>cz (.bool (isBool d))) (e2 dIx (a5 4) (eC (.int (-1)))))))) (k7 (eC (.bool false))) i6)
def b1G(b:List Int):(k9 b).canLay0=true:=by
 unfold k9;simp only[cH];exact X4 _ (λ_=>b1q) b
section
variable {m n:k6}{k:Nat}{W:w8 (List Int)}
def a6D(w:WF m k)(w':WF n k)(hA:AllB (nx2 m n) k [0,0] (Pr2 m n) W):W.length<=900:=by
 have:=S7 (W.map (·.1)) hA.nodup λc hc=>by obtain⟨e,he,rfl⟩:=bj.mp hc;exact hA.ok e he
 rw[ao]at this;have h2:m.length*n.length<=30*30:=dW w.le w'.le;lia
def a5N(w:WF m k)(w':WF n k)(hA:AllB (nx2 m n) k [0,0] (Pr2 m n) W):m_law_told [a0F m n k W,.list (m.map rwD),.list (n.map rwD)]=cz (.bool true):=by
 have hl:=a6D w w' hA;have hp:=b1D w w' hA;unfold m_law_told;unfold a0F;cases hf:W.find? λe=>c2 m n k e.1 with
 |some e=>
  rw[hf]at hp;have hp:m_law_pairs [.list (m.map rwD),.list (n.map rwD)]=cz .none:=hp;have he:=fL hf;have hq:=hA.ql e he;have h1:=b1F w w' (Fst.of hA hf) (by lia);show fnD [.f,.f,.f] 2 b_law_told [.tuple [.str "unlike",iD (e.2++[(((un2 m n k e.1).getD 0 0:Nat):Int)])],.list (m.map rwD),.list (n.map rwD)]=_;generalize e.2++[(((un2 m n k e.1).getD 0 0:Nat):Int)]=p at h1 ⊢;rw[T7 (by simp[VS.argsOk,imm])];unfold b_law_told;walk_at "ev";rw[aU (show (([.str "unlike",iD p]:List D).length:Int)=2 by rfl)];walk_at "ev";rw[hp];walk_at "ev";rw[b1T (a:=.str "unlike") (by simp only[cH];decide +kernel) (by simp[ef])];walk_at "ev";rw[h1];walk_at "ev"
 |none=>
  rw[hf]at hp;have h2:∀b∈P4 (W.map (·.1)),b.length=2:=λb hb=>by
   obtain⟨e,he,rfl⟩:=bj.mp ((N6 _).mem_iff.mp hb);obtain⟨x,y,h,_⟩:=hA.ok e he;rw[h];rfl
  show fnD [.f,.f,.f] 2 b_law_told [.tuple [.str "alike",.list ((P4 (W.map (·.1))).map k9)],.list (m.map rwD),.list (n.map rwD)]=_;have hp:m_law_pairs [.list (m.map rwD),.list (n.map rwD)]=cz (.list ((P4 (W.map (·.1))).map k9)):=hp;generalize P4 (W.map (·.1))=L at h2 hp ⊢;rw[T7 (by simp[VS.argsOk,imm])];unfold b_law_told;walk_at "ev";rw[aU (show (([.str "alike",.list (L.map k9)]:List D).length:Int)=2 by rfl)];walk_at "ev";rw[hp];walk_at "ev";rw[b1U (a:=.str "alike") (by simp only[cH];decide +kernel) (by simp[ef])];walk_at "ev";obtain⟨Z',g,x,rfl⟩:=X5 (enc:=k9) (set:=n9 4) (g:=b4k) (xs:=L) (Z:=[.tuple [.str "alike",.list (L.map k9)],.list (m.map rwD),.list (n.map rwD),.list (L.map k9),.none])
   (λ_ Z=>∃x,Z=[.tuple [.str "alike",.list (L.map k9)],.list (m.map rwD),.list (n.map rwD),.list (L.map k9),x]) ⟨_,rfl⟩ (by
    rintro pre b post e Z ⟨x,rfl⟩;have hb:=h2 b (by rw[e];simp)
    match b,hb with
    |[u,v],_=>
     refine⟨_,[.tuple [.str "alike",.list (L.map k9)],.list (m.map rwD),.list (n.map rwD),.list (L.map k9),k9 [u,v]],rfl,?_,_,rfl⟩;unfold b4k k9;walk_at "ev";rw[show L2.atI [aX u,aX v] (-1)=cz (.int v) from rfl];walk_at "ev")
  have g:D9 (n9 4) b4k (L.map k9) [.tuple [.str "alike",.list (L.map k9)],.list (m.map rwD),.list (n.map rwD),.list (L.map k9),.none]=_:=g;rw[g];walk_at "ev";rw[b1T (a:=.list (L.map k9)) (by simp only[cH];exact X4 _ b1G L) (by simp only[ef];have:=G6 k9 7 a1L L;lia)];walk_at "ev"
end
end Prog
local macro_rules | `(tactic| walk_at "evc")=>`(tactic| first | (walk_at "ev";repeat (simp -implicitDefEqProofs (disch:=first | omega | assumption | decide) only [Prog.a3t];try walk_at "ev")) | (simp -implicitDefEqProofs (disch:=first | omega | assumption | decide) only [Prog.a3t];repeat (first | walk_at "ev" | simp -implicitDefEqProofs (disch:=first | omega | assumption | decide) only [Prog.a3t])))
namespace VS
open PySem L2
def a1Q{b:Bool}:L4 [.bool b]=cz (.int (if b then 1 else 0)):=by cases b<;>rfl
end VS
namespace Prog
open PySem L2 VS
def a7S(ns:List Int):∃mn:List Int,m_law_menu [.list (ns.map .int)]=cz (.list (mn.map .int))/\2<=mn.length/\mn.length<=3:=by
 unfold m_law_menu;rw[T7 (by simp[VS.argsOk])];unfold b_law_menu;walk_at "evc";rw[v_pow (i:=10) (j:=60) (by decide)];have xb:(10^(60:Int).toNat:Int)=big:=by decide
 rw[xb];walk_at "evc";have zF:=b3R;generalize big=T at zF;cases decide (k8 ns 4 % 3=0) with
 |true=>
  walk_at "evc";exact⟨[0,1],rfl,by decide,by decide⟩
 |false=>
  walk_at "evc";by_cases c1:k8 ns 4 % 3=1
  ·rw[aU c1];walk_at "evc";cases decide (k8 ns 6 % 3=0) with
   |true=>
    walk_at "evc";exact⟨[1,11,111],rfl,by decide,by decide⟩
   |false=>
    walk_at "evc";rw[aU c1];walk_at "evc";exact⟨[_,_,_],rfl,by simp,by simp⟩
  ·rw[bt c1];walk_at "evc";rw[bt c1];walk_at "evc";rw[O8 (i:=2) (by decide)];walk_at "evc";exact⟨[_,_,_],rfl,by simp,by simp⟩
local macro_rules | `(tactic| walk_at "ev1")=>`(tactic| simp -implicitDefEqProofs only [VS.a6i,VS.a6h,VS.a6g,VS.a0J,VS.a3d,VS.v4,fW,dY])
def a3y(ns:List Int):∃(m:k6) (k:Nat),m_law_machine [.list (ns.map .int)]=cz (.list (m.map rwD))/\WF m k/\m.length<=12:=by
 unfold m_law_machine;rw[T7 (by simp[VS.argsOk])];unfold b_law_machine;walk_at "evc";have many:∃n:Nat,1<=n/\n<=12/\a3c (cz (decide (k8 ns 3 % 8=7))) (e7 1 (e2 r9 (eC (.int 1)) (e2 p8 (eCl m_law_cell (a6 (a5 0) (a6 (eC (.int 0)) b9))) (eC (.int 12))))) i6 [.list (ns.map .int),.int (1+k8 ns 0 % 5),.none,.none,.none,.none,.none,.none,.none,.none,.none,.none]=cz (.nx [.list (ns.map .int),.int n,.none,.none,.none,.none,.none,.none,.none,.none,.none,.none]):=by
  have a0:=cy (k8 ns 0) (show (5:Int)≠0 by decide);have a1:=bQ (k8 ns 0) (show (0:Int)<5 by decide);have b0:=cy (k8 ns 0) (show (12:Int)≠0 by decide);have b1:=bQ (k8 ns 0) (show (0:Int)<12 by decide);cases decide (k8 ns 3 % 8=7) with
  |true=>
   refine⟨(1+k8 ns 0 % 12).toNat,by lia,by lia,?_⟩;walk_at "evc";rw[bD (by lia)]
  |false=>
   refine⟨(1+k8 ns 0 % 5).toNat,by lia,by lia,?_⟩;walk_at "evc";rw[bD (by lia)]
 obtain⟨n,n1,CF,hn⟩:=many;rw[hn];walk_at "evc";have asks:∃k:Nat,1<=k/\k<=5/\a3c (cz (decide (k8 ns 3 / 8 % 8=7))) (e7 2 (e2 r9 (eC (.int 1)) (e2 p8 (eCl m_law_cell (a6 (a5 0) (a6 (eC (.int 1)) b9))) (eC (.int 5))))) i6 [.list (ns.map .int),.int n,.int (1+k8 ns 1 % 3),.none,.none,.none,.none,.none,.none,.none,.none,.none]=cz (.nx [.list (ns.map .int),.int n,.int k,.none,.none,.none,.none,.none,.none,.none,.none,.none]):=by
  have a0:=cy (k8 ns 1) (show (3:Int)≠0 by decide);have a1:=bQ (k8 ns 1) (show (0:Int)<3 by decide);have b0:=cy (k8 ns 1) (show (5:Int)≠0 by decide);have b1:=bQ (k8 ns 1) (show (0:Int)<5 by decide);cases decide (k8 ns 3 / 8 % 8=7) with
  |true=>
   refine⟨(1+k8 ns 1 % 5).toNat,by lia,by lia,?_⟩;walk_at "evc";rw[bD (by lia)]
  |false=>
   refine⟨(1+k8 ns 1 % 3).toNat,by lia,by lia,?_⟩;walk_at "evc";rw[bD (by lia)]
 obtain⟨k,k1,k5,hk⟩:=asks;rw[hk];walk_at "evc";generalize decide (k8 ns 3 / 64 % 2=1)=og;obtain⟨mn,hm,mX,CO⟩:=a7S ns;rw[hm];walk_at "evc";rw[a0B (n:=n) (by walk_at "evc") (by lia) (by lia),bF];walk_at "evc";have row:∀s:Nat,s<n->∀(rows:D) (x y z u:D),∃(r:List (Int×Int)) (x' y' z' u':D),(r.length=k/\(∀p∈r,0<=p.2/\p.2<(n:Int)))/\
   (r8 (iR (a5 2)) (n9 8) (c6 (e7 9 (eCl m_law_cell (a6 (a5 0) (a6 (e2 r9 (e2 r9 (eC (.int 12)) (e2 M9 (a5 6) (a5 2))) (a5 8)) b9)))) (c6 (e7 10 (e2 s9 (a5 4) (e2 p8 (a5 9) (eCl l8 (a6 (a5 4) b9))))) (c6 (sIf (tV (a5 3)) (e7 10 (e2 s9 (a5 4) (eCl L4 (a6 (a0z (e2 dEq (a5 6) (e2 A7 (a5 1) (eC (.int 1)))) (e2 dEq (a5 8) (e2 A7 (a5 2) (eC (.int 1))))) b9)))) i6) (c6 (e7 11 (e2 p8 (e2 U7 (a5 9) (eC (.int 6))) (a5 1))) (c6 (sIf (tAn (tV (a5 3)) (tB (e2 dGt (e2 p8 (e2 U7 (a5 9) (eC (.int 2))) (eC (.int 3))) (eC (.int 0))))) (e7 11 (e2 p8 (e2 r9 (a5 6) (eC (.int 1))) (a5 1))) i6) (n6 7 (.l .i) i7 (n8 (a6 (a5 10) (a6 (a5 11) b9)))))))))) [.list (ns.map .int),.int n,.int k,.bool og,.list (mn.map .int),rows,.int s,.list [],x,y,z,u]=cz (.nx [.list (ns.map .int),.int n,.int k,.bool og,.list (mn.map .int),rows,.int s,rwD r,x',y',z',u']):=by
  intro s hs rows x y z u;walk_at "evc";rw[a0B (n:=k) (by walk_at "evc") (by lia) (by lia),bF];walk_at "evc";obtain⟨Z',h1,r,x',y',z',u',h2,h3,rfl⟩:=C9 (n:=k) (set:=n9 8) (g:=(c6 (e7 9 (eCl m_law_cell (a6 (a5 0) (a6 (e2 r9 (e2 r9 (eC (.int 12)) (e2 M9 (a5 6) (a5 2))) (a5 8)) b9)))) (c6 (e7 10 (e2 s9 (a5 4) (e2 p8 (a5 9) (eCl l8 (a6 (a5 4) b9))))) (c6 (sIf (tV (a5 3)) (e7 10 (e2 s9 (a5 4) (eCl L4 (a6 (a0z (e2 dEq (a5 6) (e2 A7 (a5 1) (eC (.int 1)))) (e2 dEq (a5 8) (e2 A7 (a5 2) (eC (.int 1))))) b9)))) i6) (c6 (e7 11 (e2 p8 (e2 U7 (a5 9) (eC (.int 6))) (a5 1))) (c6 (sIf (tAn (tV (a5 3)) (tB (e2 dGt (e2 p8 (e2 U7 (a5 9) (eC (.int 2))) (eC (.int 3))) (eC (.int 0))))) (e7 11 (e2 p8 (e2 r9 (a5 6) (eC (.int 1))) (a5 1))) i6) (n6 7 (.l .i) i7 (n8 (a6 (a5 10) (a6 (a5 11) b9))))))))))
   (Z:=[.list (ns.map .int),.int n,.int k,.bool og,.list (mn.map .int),rows,.int s,.list [],x,y,z,u])
   (λj Z=>∃(r:List (Int×Int)) (x' y' z' u':D),r.length=j/\(∀p∈r,0<=p.2/\p.2<(n:Int))/\Z=[.list (ns.map .int),.int n,.int k,.bool og,.list (mn.map .int),rows,.int s,rwD r,x',y',z',u'])
   ⟨[],x,y,z,u,rfl,λp hp=>(nomatch hp),rfl⟩ (by
    rintro j hj Z ⟨r,x',y',z',u',hr,hp,rfl⟩;have Ai:(s:Int)*(k:Int)<=30*5:=by
     have:s*k<=30*5:=dW (by lia) k5
     exact_mod_cast this
    have vO:0<=(s:Int)*(k:Int):=oq (by lia) (by lia);have rV:((n:Nat):Int)≠0:=by lia
    have tQ:(0:Int)<(n:Nat):=by lia
    have fin:∃(a b:Int) (x y z u:D),(0<=b/\b<(n:Int))/\(c6 (e7 9 (eCl m_law_cell (a6 (a5 0) (a6 (e2 r9 (e2 r9 (eC (.int 12)) (e2 M9 (a5 6) (a5 2))) (a5 8)) b9)))) (c6 (e7 10 (e2 s9 (a5 4) (e2 p8 (a5 9) (eCl l8 (a6 (a5 4) b9))))) (c6 (sIf (tV (a5 3)) (e7 10 (e2 s9 (a5 4) (eCl L4 (a6 (a0z (e2 dEq (a5 6) (e2 A7 (a5 1) (eC (.int 1)))) (e2 dEq (a5 8) (e2 A7 (a5 2) (eC (.int 1))))) b9)))) i6) (c6 (e7 11 (e2 p8 (e2 U7 (a5 9) (eC (.int 6))) (a5 1))) (c6 (sIf (tAn (tV (a5 3)) (tB (e2 dGt (e2 p8 (e2 U7 (a5 9) (eC (.int 2))) (eC (.int 3))) (eC (.int 0))))) (e7 11 (e2 p8 (e2 r9 (a5 6) (eC (.int 1))) (a5 1))) i6) (n6 7 (.l .i) i7 (n8 (a6 (a5 10) (a6 (a5 11) b9))))))))) [.list (ns.map .int),.int n,.int k,.bool og,.list (mn.map .int),rows,.int s,rwD r,.int j,y',z',u']=cz (.nx [.list (ns.map .int),.int n,.int k,.bool og,.list (mn.map .int),rows,.int s,rwD (r++[(a,b)]),x,y,z,u]):=by
     walk_at "evc";rw[O8 (i:=s) (by lia)];walk_at "evc";generalize k8 ns (12+(s:Int)*k+j)=q;have c0:=cy q (show ((mn.length:Int))≠0 by lia);have c1:=bQ q (show (0:Int)<mn.length by lia);rw[K4 c0 c1];walk_at "evc";generalize mn.getD (q % (mn.length:Int)).toNat 0=a1;cases og with
     |false=>
      walk_at "evc";refine⟨a1,q / 6 % n,.int j,.int q,.int a1,.int (q / 6 % n),⟨cy _ rV,bQ _ tQ⟩,?_⟩;unfold rwD;rw[V2 (by rw[ao];lia),bu];rfl
     |true=>
      walk_at "evc";have wK:∃a:Int,(0<=a/\a<2)/\lc L4 (a8D (b0H (cz (fS (decide ((s:Int)=(n:Int)-1)))) (e2 dEq (a5 8) (e2 A7 (a5 2) (eC (.int 1)))) [.list (ns.map .int),.int n,.int k,.bool true,.list (mn.map .int),rows,.int s,rwD r,.int j,.int q,.int a1,u']) (cz []))=cz (.int a):=by
       cases decide ((s:Int)=(n:Int)-1) with
       |true=>walk_at "evc";rw[a1Q];exact⟨_,by split<;>decide,rfl⟩
       |false=>walk_at "evc";rw[a1Q];exact⟨_,by split<;>decide,rfl⟩
      obtain⟨a,Bw,ha⟩:=wK;rw[ha];walk_at "evc";rw[K4 Bw.1 (by lia)];walk_at "evc";generalize mn.getD a.toNat 0=a;cases decide (0<q / 2 % 3) with
      |true=>
       walk_at "evc";refine⟨a,((s:Int)+1) % n,.int j,.int q,.int a,.int (((s:Int)+1) % n),⟨cy _ rV,bQ _ tQ⟩,?_⟩;unfold rwD;rw[V2 (by rw[ao];lia),bu];rfl
      |false=>
       walk_at "evc";refine⟨a,q / 6 % n,.int j,.int q,.int a,.int (q / 6 % n),⟨cy _ rV,bQ _ tQ⟩,?_⟩;unfold rwD;rw[V2 (by rw[ao];lia),bu];rfl
    obtain⟨a,b,x2,y2,z2,u2,hb,hf⟩:=fin;refine⟨_,_,rfl,hf,_,_,_,_,_,by simp[hr],?_,rfl⟩;intro p sU;rcases ar.mp sU with z|z
    ·exact hp p z
    ·rw[ay.mp z];exact hb)
  exact⟨r,x',y',z',u',⟨h2,h3⟩,h1⟩
 refine X3 (R:=λo=>∃(m:k6) (k:Nat),o=cz (.list (m.map rwD))/\WF m k/\m.length<=12) (λZ=>∃(m:k6) (x y z u v t:D),m.length=n/\(∀r∈m,r.length=k/\∀p∈r,0<=p.2/\p.2<(n:Int))/\Z=[.list (ns.map .int),.int n,.int k,.bool og,.list (mn.map .int),.list (m.map rwD),x,y,z,u,v,t]) ?_ ?_
 ·obtain⟨Z',h1,h2⟩:=C9 (n:=n) (set:=n9 6) (Z:=[.list (ns.map .int),.int n,.int k,.bool og,.list (mn.map .int),.list [],.none,.none,.none,.none,.none,.none])
   (g:=(c6 (e7 7 (u7 b9)) (c6 (r8 (iR (a5 2)) (n9 8) (c6 (e7 9 (eCl m_law_cell (a6 (a5 0) (a6 (e2 r9 (e2 r9 (eC (.int 12)) (e2 M9 (a5 6) (a5 2))) (a5 8)) b9)))) (c6 (e7 10 (e2 s9 (a5 4) (e2 p8 (a5 9) (eCl l8 (a6 (a5 4) b9))))) (c6 (sIf (tV (a5 3)) (e7 10 (e2 s9 (a5 4) (eCl L4 (a6 (a0z (e2 dEq (a5 6) (e2 A7 (a5 1) (eC (.int 1)))) (e2 dEq (a5 8) (e2 A7 (a5 2) (eC (.int 1))))) b9)))) i6) (c6 (e7 11 (e2 p8 (e2 U7 (a5 9) (eC (.int 6))) (a5 1))) (c6 (sIf (tAn (tV (a5 3)) (tB (e2 dGt (e2 p8 (e2 U7 (a5 9) (eC (.int 2))) (eC (.int 3))) (eC (.int 0))))) (e7 11 (e2 p8 (e2 r9 (a5 6) (eC (.int 1))) (a5 1))) i6) (n6 7 (.l .i) i7 (n8 (a6 (a5 10) (a6 (a5 11) b9)))))))))) (n6 5 (.l (.l .i)) i7 (a5 7)))))
   (λj Z=>∃(m:k6) (x y z u v t:D),m.length=j/\(∀r∈m,r.length=k/\∀p∈r,0<=p.2/\p.2<(n:Int))/\Z=[.list (ns.map .int),.int n,.int k,.bool og,.list (mn.map .int),.list (m.map rwD),x,y,z,u,v,t])
   ⟨[],.none,.none,.none,.none,.none,.none,rfl,λr hr=>(nomatch hr),rfl⟩ (by
    rintro j hj Z ⟨m,x,y,z,u,v,t,mX,qK,rfl⟩;obtain⟨r,x',y',z',u',⟨vU,vT⟩,An⟩:=row j hj (.list (m.map rwD)) z u v t;refine⟨_,[.list (ns.map .int),.int n,.int k,.bool og,.list (mn.map .int),.list ((m++[r]).map rwD),.int j,rwD r,x',y',z',u'],rfl,?_,m++[r],_,_,_,_,_,_,by simp[mX],?_,rfl⟩
    ·rw[v6];walk_at "ev1";rw[v6,An];walk_at "evc";rw[V2 (by simp;lia),bu];rfl
    ·intro q hq;rcases ar.mp hq with c|c
     ·exact qK q c
     ·rw[ay.mp c];exact⟨vU,vT⟩)
  exact⟨Z',h1,h2⟩
 ·rintro Z ⟨m,x,y,z,u,v,t,h1,h2,rfl⟩;walk_at "evc";exact⟨m,k,rfl,⟨by lia,by lia,k1,k5,λr hr=>(h2 r hr).1,λr hr p hp=>by rw[h1];exact (h2 r hr).2 p hp⟩,by lia⟩
end Prog
namespace VS
open PySem L2
def b4l:a0H false [.int i,.int j]=cz (.int (min i j)):=by
 show cz (aX (if false=true then (if j>i then j else i) else (if j<i then j else i)))=_;rw[aS (by decide)]
 congr 2;by_cases h:j<i
 ·rw[aL h];lia
 ·rw[aS h];lia
end VS
namespace Prog
open PySem L2 VS
def Kinds(m:k6)(k:Nat)(ks:List Int):Prop:=ks.length=m.length/\∀s t:Int,0<=s->s<m.length->0<=t->t<m.length->ks.getD s.toNat 0=ks.getD t.toNat 0->∀a:Int,0<=a->a<k->(stp m s a).1=(stp m t a).1/\ks.getD (stp m s a).2.toNat 0=ks.getD (stp m t a).2.toNat 0
def a9X{base m:k6}(w:WF base k){ks:List Int}(qM:1<=ks.length)(wm:ks.length<=30)(hl:m.length=ks.length)(h:∀s:Nat,s<m.length->T5 ks ks.length k (rowAt base (ks.getD s 0)) (m.getD s [])):WF m k/\Kinds m k ks:=by
 refine⟨⟨by lia,by lia,w.k1,w.k5,λr hr=>?_,λr hr p hp=>?_⟩,hl.symm,λs t s0 s1 t0 t1 e a a0 a1=>?_⟩
 ·obtain⟨i,hi,rfl⟩:=gN hr;have:=(h i hi).1
  rwa[ai,ah hi]at this
 ·obtain⟨i,hi,rfl⟩:=gN hr;have:=h i hi;rw[ai (l:=m),ah hi]at this;obtain⟨j,hj,rfl⟩:=gN hp;have q:=this.2 j (by have:=this.1;simp only[Cd]at this;lia);simp only[Cd]at q;rw[ai (l:=m[i]),ah hj]at q;rw[hl];exact⟨q.2.1,q.2.2.1⟩
 ·have q1:=(h s.toNat (by lia)).2 a.toNat (by lia);have q2:=(h t.toNat (by lia)).2 a.toNat (by lia);rw[<-e]at q2;have u1:stp m s a=(m.getD s.toNat []).getD a.toNat (0,0):=rfl;have u2:stp m t a=(m.getD t.toNat []).getD a.toNat (0,0):=rfl;rw[u1,u2];exact⟨q1.1.trans q2.1.symm,q1.2.2.2.trans q2.2.2.2.symm⟩
local macro_rules | `(tactic| walk_at "ev1")=>`(tactic| simp -implicitDefEqProofs only [VS.a6i,VS.a6h,VS.a6g,VS.a0J,VS.a3d,VS.v4,fW,dY])
end Prog
namespace VS
open PySem L2
def b6i{Z:List D}(ha:a Z=cz (.int i))(hb:b Z=cz (.int n))(h1:-1000000<=i)(h2:i<=1000000)(h3:-1000000<=n)(h4:n<=1000000):iR2 a b Z=cz (B0 i (n-i).toNat):=by
 unfold iR2;rw[ha];simp only[iN,asI,hb];rw[aL ⟨⟨by lia,by lia⟩,by lia,by lia⟩]
end VS
namespace Prog
open PySem L2 VS
local macro_rules | `(tactic| walk_at "ev1")=>`(tactic| simp -implicitDefEqProofs only [VS.a6i,VS.a6h,VS.a6g,VS.a0J,VS.a3d,VS.v4,fW,dY])
def a5O(ns:List Int){base:k6}{k:Nat}(w:WF base k){ks:List Int}(qM:1<=ks.length)(wm:ks.length<=30)(AH:∀x∈ks,0<=x/\x<(base.length:Int))(AM:∀v:Int,0<=v->v<base.length->v∈ks)(x4 x5:D) :
  ∃m:k6,a0A (thn ((r8 (iR (eCl l8 (a6 (a5 3) b9))) (n9 7) (c6 (e7 8 (u7 b9)) (c6 (r8 (iR (a5 2)) (n9 9) (c6 (J6 10 11 (e2 a8 (e2 dIx (a5 1) (e2 s9 (a5 3) (a5 7))) (a5 9))) (c6 (e7 12 (u8 (iR (eCl l8 (a6 (a5 3) b9))) [3,11] pt1 (tB (e2 dEq (e2 s9 (a5 1) (a5 0)) (a5 2))) (a5 0))) (n6 8 (.l .i) i7 (n8 (a6 (a5 10) (a6 (e2 s9 (a5 12) (e2 p8 (eCl m_law_cell (a6 (a5 0) (a6 (e2 r9 (e2 r9 (eC (.int 300)) (e2 M9 (a5 7) (a5 2))) (a5 9)) b9))) (eCl l8 (a6 (a5 12) b9)))) b9))))))) (n6 6 (.l (.l .i)) i7 (a5 8))))) [.list (ns.map .int),.list (base.map rwD),.int k,.list (ks.map .int),x4,x5,.list [],.none,.none,.none,.none,.none,.none]) (k7 (a5 6)))=cz (.list (m.map rwD))/\m.length=ks.length/\∀s:Nat,s<m.length->T5 ks ks.length k (rowAt base (ks.getD s 0)) (m.getD s []):=by
 have Bs:(0:Int)<base.length:=by have:=w.pos;lia
 have CV:=w.le;have uP:=w.k5;walk_at "evc";rw[a0B (n:=ks.length) (by walk_at "evc") (by lia) (by lia),bF];walk_at "evc";have row:∀s:Nat,s<ks.length->∀(rows x y z u:D),∃(r:Ky) (x' y' z' u':D),T5 ks ks.length k (rowAt base (ks.getD s 0)) r/\
   (r8 (iR (a5 2)) (n9 9) (c6 (J6 10 11 (e2 a8 (e2 dIx (a5 1) (e2 s9 (a5 3) (a5 7))) (a5 9))) (c6 (e7 12 (u8 (iR (eCl l8 (a6 (a5 3) b9))) [3,11] pt1 (tB (e2 dEq (e2 s9 (a5 1) (a5 0)) (a5 2))) (a5 0))) (n6 8 (.l .i) i7 (n8 (a6 (a5 10) (a6 (e2 s9 (a5 12) (e2 p8 (eCl m_law_cell (a6 (a5 0) (a6 (e2 r9 (e2 r9 (eC (.int 300)) (e2 M9 (a5 7) (a5 2))) (a5 9)) b9))) (eCl l8 (a6 (a5 12) b9)))) b9)))))))
    [.list (ns.map .int),.list (base.map rwD),.int k,.list (ks.map .int),x4,x5,rows,.int s,.list [],x,y,z,u]=cz (.nx [.list (ns.map .int),.list (base.map rwD),.int k,.list (ks.map .int),x4,x5,rows,.int s,rwD r,x',y',z',u']):=by
  intro s hs rows x y z u;have mH:=AH _ (a7H hs);have oK:=w.row mH.1 mH.2;walk_at "evc";rw[a0B (n:=k) (by walk_at "evc") (by lia) (by lia),bF];walk_at "evc";obtain⟨Z',h1,r,x',y',z',u',h2,h3,rfl⟩:=C9 (n:=k) (set:=n9 9) (g:=(c6 (J6 10 11 (e2 a8 (e2 dIx (a5 1) (e2 s9 (a5 3) (a5 7))) (a5 9))) (c6 (e7 12 (u8 (iR (eCl l8 (a6 (a5 3) b9))) [3,11] pt1 (tB (e2 dEq (e2 s9 (a5 1) (a5 0)) (a5 2))) (a5 0))) (n6 8 (.l .i) i7 (n8 (a6 (a5 10) (a6 (e2 s9 (a5 12) (e2 p8 (eCl m_law_cell (a6 (a5 0) (a6 (e2 r9 (e2 r9 (eC (.int 300)) (e2 M9 (a5 7) (a5 2))) (a5 9)) b9))) (eCl l8 (a6 (a5 12) b9)))) b9)))))))
   (Z:=[.list (ns.map .int),.list (base.map rwD),.int k,.list (ks.map .int),x4,x5,rows,.int s,.list [],x,y,z,u])
   (λj Z=>∃(r:Ky) (x' y' z' u':D),r.length=j/\(∀a:Nat,a<j->(r.getD a (0,0)).1=((rowAt base (ks.getD s 0)).getD a (0,0)).1/\0<=(r.getD a (0,0)).2/\(r.getD a (0,0)).2<(ks.length:Int)/\ks.getD (r.getD a (0,0)).2.toNat 0=((rowAt base (ks.getD s 0)).getD a (0,0)).2)/\
    Z=[.list (ns.map .int),.list (base.map rwD),.int k,.list (ks.map .int),x4,x5,rows,.int s,rwD r,x',y',z',u'])
   ⟨[],x,y,z,u,rfl,λa ha=>absurd ha (by lia),rfl⟩ (by
    rintro j hj Z ⟨r,x',y',z',u',hr,hp,rfl⟩;have Ai:(s:Int)*(k:Int)<=30*5:=by
     have:s*k<=30*5:=dW (by lia) uP
     exact_mod_cast this
    have vO:0<=(s:Int)*(k:Int):=oq (by lia) (by lia);have oQ:((j:Nat):Int)<((rowAt base (ks.getD s 0)).length:Int):=by rw[oK];lia
    have jf:(rowAt base (ks.getD s 0)).getD j (0,0)∈rowAt base (ks.getD s 0):=a7G (by lia);have hq:=w.next _ (N7 mH.1 mH.2) _ jf;have jh:=AM _ hq.1 hq.2;obtain⟨i0,nD,BR⟩:=gN jh;have gU:0<((aW ks.length).filter λt=>decide (ks.getD t 0=((rowAt base (ks.getD s 0)).getD j (0,0)).2)).length:=by
     refine rD (a:=i0) (dC.mpr ⟨bX.mpr nD,aU ?_⟩);rw[ai,ah nD];exact BR
    generalize hL:(aW ks.length).filter (λt=>decide (ks.getD t 0=((rowAt base (ks.getD s 0)).getD j (0,0)).2))=L at gU;have BB:∀t∈L,t<ks.length/\ks.getD t 0=((rowAt base (ks.getD s 0)).getD j (0,0)).2:=λt ht=>by
     rw[<-hL]at ht;have:=dC.mp ht;exact⟨bX.mp this.1,bN this.2⟩
    have c0:=cy (k8 ns (300+(s:Int)*k+j)) (show ((L.length:Nat):Int)≠0 by lia);have c1:=bQ (k8 ns (300+(s:Int)*k+j)) (show (0:Int)<(L.length:Nat) by lia);have nO:(k8 ns (300+(s:Int)*k+j) % (L.length:Nat)).toNat<L.length:=by lia
    have yd:=BB _ (cF nO);refine⟨_,[.list (ns.map .int),.list (base.map rwD),.int k,.list (ks.map .int),x4,x5,rows,.int s,rwD (r++[(((rowAt base (ks.getD s 0)).getD j (0,0)).1,((L[(k8 ns (300+(s:Int)*k+j) % (L.length:Nat)).toNat]'nO:Nat):Int))]),.int j,.int ((rowAt base (ks.getD s 0)).getD j (0,0)).1,.int ((rowAt base (ks.getD s 0)).getD j (0,0)).2,.list (L.map λ(t:Nat)=>.int t)],rfl,?_,_,_,_,_,_,by simp only[az,bx];lia,?_,rfl⟩
    ·walk_at "evc";rw[K4 (by lia) (by lia),bF];walk_at "evc";rw[B8 mH.1 mH.2];walk_at "evc";rw[L8 (by lia) oQ,bF];walk_at "evc";rw[a6y (n:=ks.length) (λt=>decide (ks.getD t 0=((rowAt base (ks.getD s 0)).getD j (0,0)).2)) (λ(t:Nat)=>.int t) (by rw[a0B (n:=ks.length) (by walk_at "evc") (by lia) (by lia),bF]) (by lia) (λt ht=>⟨by
      show tB _ [.int t,.list (ks.map .int),.int ((rowAt base (ks.getD s 0)).getD j (0,0)).2]=_;walk_at "ev";rw[K4 (by lia) (by lia),bF];walk_at "ev",λ_=>rfl⟩),hL]
     walk_at "evc";rw[O8 (i:=s) (by lia)];walk_at "evc";rw[a3e c0 (by rw[ao];exact c1),dO];walk_at "evc";unfold rwD;rw[V2 (by rw[ao];lia),bu];rfl
    ·intro a ha;rcases dG a j with z|z
     ·rw[X6 (by lia)];exact hp a z
     ·have e:a=r.length:=by lia
      subst e;rw[X7];refine⟨by rw[hr],by lia,by have:=yd.1;lia,?_⟩;rw[hr];show ks.getD ((L[_]'nO:Nat):Int).toNat 0=_;rw[bF];exact yd.2)
  exact⟨r,x',y',z',u',⟨h2,h3⟩,h1⟩
 refine X3 (R:=λo=>∃m:k6,o=cz (.list (m.map rwD))/\m.length=ks.length/\∀s:Nat,s<m.length->T5 ks ks.length k (rowAt base (ks.getD s 0)) (m.getD s [])) (λZ=>∃(m:k6) (x y z u v t:D),m.length=ks.length/\(∀s:Nat,s<m.length->T5 ks ks.length k (rowAt base (ks.getD s 0)) (m.getD s []))/\Z=[.list (ns.map .int),.list (base.map rwD),.int k,.list (ks.map .int),x4,x5,.list (m.map rwD),x,y,z,u,v,t]) ?_ ?_
 ·obtain⟨Z',h1,h2⟩:=C9 (n:=ks.length) (set:=n9 7) (Z:=[.list (ns.map .int),.list (base.map rwD),.int k,.list (ks.map .int),x4,x5,.list [],.none,.none,.none,.none,.none,.none])
   (g:=(c6 (e7 8 (u7 b9)) (c6 (r8 (iR (a5 2)) (n9 9) (c6 (J6 10 11 (e2 a8 (e2 dIx (a5 1) (e2 s9 (a5 3) (a5 7))) (a5 9))) (c6 (e7 12 (u8 (iR (eCl l8 (a6 (a5 3) b9))) [3,11] pt1 (tB (e2 dEq (e2 s9 (a5 1) (a5 0)) (a5 2))) (a5 0))) (n6 8 (.l .i) i7 (n8 (a6 (a5 10) (a6 (e2 s9 (a5 12) (e2 p8 (eCl m_law_cell (a6 (a5 0) (a6 (e2 r9 (e2 r9 (eC (.int 300)) (e2 M9 (a5 7) (a5 2))) (a5 9)) b9))) (eCl l8 (a6 (a5 12) b9)))) b9))))))) (n6 6 (.l (.l .i)) i7 (a5 8)))))
   (λj Z=>∃(m:k6) (x y z u v t:D),m.length=j/\(∀s:Nat,s<m.length->T5 ks ks.length k (rowAt base (ks.getD s 0)) (m.getD s []))/\Z=[.list (ns.map .int),.list (base.map rwD),.int k,.list (ks.map .int),x4,x5,.list (m.map rwD),x,y,z,u,v,t])
   ⟨[],.none,.none,.none,.none,.none,.none,rfl,λs hs=>absurd hs (by simp),rfl⟩ (by
    rintro j hj Z ⟨m,x,y,z,u,v,t,mX,qK,rfl⟩;obtain⟨r,x',y',z',u',vU,vT⟩:=row j hj (.list (m.map rwD)) z u v t;refine⟨_,[.list (ns.map .int),.list (base.map rwD),.int k,.list (ks.map .int),x4,x5,.list ((m++[r]).map rwD),.int j,rwD r,x',y',z',u'],rfl,?_,m++[r],_,_,_,_,_,_,by simp[mX],?_,rfl⟩
    ·rw[v6];walk_at "ev1";rw[v6,vT];walk_at "evc";rw[V2 (by rw[ao];lia),bu];rfl
    ·intro q hq;rcases dG q m.length with c|c
     ·rw[X6 c];exact qK q c
     ·have e:q=m.length:=by simp at hq;lia
      subst e;rw[X7];rw[mX];exact vU)
  exact⟨Z',h1,h2⟩
 ·rintro Z ⟨m,x,y,z,u,v,t,h1,h2,rfl⟩;walk_at "evc";exact⟨m,rfl,h1,h2⟩
def a5P(ns:List Int){base:k6}{k:Nat}(w:WF base k)(Br:base.length<=15):∃m:k6,m_law_other [.list (ns.map .int),.list (base.map rwD)]=cz (.list (m.map rwD))/\WF m k:=by
 have Bs:0<base.length:=w.pos;have e0:(rowAt base 0).length=k:=w.row (by lia) (by lia);unfold m_law_other;rw[T7 (by simp[VS.argsOk])];unfold b_law_other;walk_at "evc";rw[B8 (by lia) (by lia)];walk_at "evc";rw[e0];have tS:(u8 (iR2 (eC (.int 1)) (eCl l8 (a6 (a5 1) b9))) [] pt1 tT (a5 0)) [.list (ns.map .int),.list (base.map rwD),.int k,.none,.none,.none,.none,.none,.none,.none,.none,.none,.none]=cz (iD ((aW (base.length-1)).map λ(i:Nat)=>(1:Int)+i)):=by
  have hi:iR2 (eC (.int 1)) (eCl l8 (a6 (a5 1) b9)) [.list (ns.map .int),.list (base.map rwD),.int k,.none,.none,.none,.none,.none,.none,.none,.none,.none,.none]=cz ((aW (base.length-1)).map λ(i:Nat)=>aX (1+(i:Int))):=by
   rw[b6i (i:=1) (n:=base.length) (by walk_at "ev") (by walk_at "ev") (by lia) (by lia) (by lia) (by lia)];unfold B0;rw[show (((base.length:Nat):Int)-1).toNat=base.length-1 by lia]
  rw[a0L (enc:=λ(i:Nat)=>aX (1+(i:Int))) (xs:=aW (base.length-1)) (λi=>aX (1+(i:Int))) hi (by rw[cQ];lia) λi _=>⟨_,rfl,rfl⟩];show cz (lE ((aW (base.length-1)).map λ(i:Nat)=>aX (1+(i:Int))))=cz (.list (((aW (base.length-1)).map λ(i:Nat)=>(1:Int)+i).map .int));rw[dI];rfl
 rw[tS];walk_at "evc";have q0:=cy (k8 ns 2) (show min (2*(base.length:Int)) (30-(base.length:Int))+1≠0 by lia);have q1:=bQ (k8 ns 2) (show (0:Int)<min (2*(base.length:Int)) (30-(base.length:Int))+1 by lia);rw[a0B (n:=k8 ns 2 % (min (2*(base.length:Int)) (30-(base.length:Int))+1)) (by
  walk_at "evc";rw[O8 (i:=2) (by decide)];walk_at "evc";rw[b4l];walk_at "evc") q0 (by lia)]
 walk_at "evc";generalize hq:(k8 ns 2 % (min (2*(base.length:Int)) (30-(base.length:Int))+1)).toNat=q;have Aq:base.length+q<=30:=by lia
 refine X3 (R:=λo=>∃m:k6,o=cz (.list (m.map rwD))/\WF m k) (λZ=>∃(ks:List Int) (x:D),ks.length=base.length-1+q/\(∀v∈ks,0<=v/\v<(base.length:Int))/\(∀v:Int,1<=v->v<base.length->v∈ks)/\Z=[.list (ns.map .int),.list (base.map rwD),.int k,iD ks,x,.none,.none,.none,.none,.none,.none,.none,.none]) ?_ ?_
 ·obtain⟨Z',g1,ks,x,h1,h2,h3,rfl⟩:=C9 (n:=q) (set:=n9 4) (g:=(n6 3 (.l .i) i7 (e2 p8 (eCl m_law_cell (a6 (a5 0) (a6 (e2 r9 (eC (.int 200)) (a5 4)) b9))) (eCl l8 (a6 (a5 1) b9))))) (Z:=[.list (ns.map .int),.list (base.map rwD),.int k,iD ((aW (base.length-1)).map λ(i:Nat)=>(1:Int)+i),.none,.none,.none,.none,.none,.none,.none,.none,.none])
   (λj Z=>∃(ks:List Int) (x:D),ks.length=base.length-1+j/\(∀v∈ks,0<=v/\v<(base.length:Int))/\(∀v:Int,1<=v->v<base.length->v∈ks)/\Z=[.list (ns.map .int),.list (base.map rwD),.int k,iD ks,x,.none,.none,.none,.none,.none,.none,.none,.none])
   ⟨_,.none,by simp,λv hv=>by
    obtain⟨i,hi,rfl⟩:=bj.mp hv;have:=bX.mp hi;lia,λv v0 v1=>bj.mpr ⟨(v-1).toNat,bX.mpr (by lia),by lia⟩,rfl⟩ (by
    rintro j hj Z ⟨ks,x,h1,h2,h3,rfl⟩;have c0:=cy (k8 ns (200+(j:Int))) (show ((base.length:Nat):Int)≠0 by lia);have c1:=bQ (k8 ns (200+(j:Int))) (show (0:Int)<(base.length:Nat) by lia);have we:(ks.map aX).length<1000000:=by rw[ao];lia
    refine⟨_,[.list (ns.map .int),.list (base.map rwD),.int k,iD (ks++[k8 ns (200+(j:Int)) % (base.length:Nat)]),.int j,.none,.none,.none,.none,.none,.none,.none,.none],rfl,?_,_,_,by rw[az,bx];lia,λv hv=>?_,λv v0 v1=>aw _ (h3 v v0 v1),rfl⟩
    ·walk_at "evc";unfold iD;rw[bu];rfl
    ·rcases ar.mp hv with z|z
     ·exact h2 v z
     ·rw[ay.mp z];exact⟨c0,c1⟩)
  exact⟨_,g1,ks,x,h1,h2,h3,rfl⟩
 ·rintro Z ⟨ks,x,h1,h2,h3,rfl⟩;have d0:=cy (k8 ns 7) (show ((ks.length:Nat):Int)+1≠0 by lia);have d1:=bQ (k8 ns 7) (show (0:Int)<((ks.length:Nat):Int)+1 by lia);walk_at "evc";generalize k8 ns 7 % ((ks.length:Int)+1)=u at d0 d1;have wH:lIs (O5 (eI (O5 (u7 (a6 (eC (.int 0)) b9)) (eI (eSl (a5 3) (oSo (a5 5)) oNo)))) (eI (eSl (a5 3) oNo (oSo (a5 5)))) [.list (ns.map .int),.list (base.map rwD),.int k,iD ks,x,.int u,.none,.none,.none,.none,.none,.none,.none])=cz (iD (0::(ks.drop u.toNat++ks.take u.toNat))):=by
   rw[a4y,a0r,a4y,a0r,b3P,a0r,b3P,b1W,b1V];walk_at "ev";rw[b5T,a9z,a9z,b3Q (by lia) (by rw[ao];lia),a9A (by lia) (by rw[ao];lia),<-List.map_drop,<-List.map_take,S6,S6,a1C (by simp;lia)];rw[show ([aX 0]++(ks.drop u.toNat).map aX)=(0::ks.drop u.toNat).map aX from rfl,S6,a1C (by simp;lia),<-bu,S6];rfl
  rw[wH];walk_at "evc";obtain⟨m,f1,f2,f3⟩:=a5O ns w (ks:=0::(ks.drop u.toNat++ks.take u.toNat)) (by simp) (by simp;lia) (λv hv=>by
   rcases aF.mp hv with z|z
   ·lia
   ·rcases ar.mp z with z|z
    ·exact h2 v (List.mem_of_mem_drop z)
    ·exact h2 v (jP z)) (λv v0 v1=>by
   by_cases e:v=0
   ·rw[e];simp
   ·have:=h3 v (by lia) v1;rw[<-fg u.toNat ks]at this;rcases ar.mp this with z|z
    ·exact av _ (aq _ z)
    ·exact av _ (aw _ z)) x (.int u)
  rw[a6j]at f1;refine⟨m,f1,(a9X w (by simp) (by simp;lia) f2 f3).1⟩
def a3z(ns:List Int){m:k6}{k:Nat}(w:WF m k):∃m':k6,m_law_changed [.list (ns.map .int),.list (m.map rwD)]=cz (.list (m'.map rwD))/\WF m' k:=by
 have hle:=w.le;have mU:=w.pos;have qM:=w.k1;have e0:(rowAt m 0).length=k:=w.row (by lia) (by lia);have s0:=cy (k8 ns 9) (show ((m.length:Nat):Int)≠0 by lia);have s1:=bQ (k8 ns 9) (show (0:Int)<(m.length:Nat) by lia);have a0:=cy (k8 ns 10) (show ((k:Nat):Int)≠0 by lia);have a1:=bQ (k8 ns 10) (show (0:Int)<(k:Nat) by lia);have t0:=cy (k8 ns 11) (show ((m.length:Nat):Int)≠0 by lia);have t1:=bQ (k8 ns 11) (show (0:Int)<(m.length:Nat) by lia);unfold m_law_changed;rw[b6f];unfold b_law_changed
 try walk_at "evc"
 rw[B8 (by decide) (by lia)]
 try walk_at "evc"
 rw[e0]
 try walk_at "evc"
 generalize k8 ns 9 % (m.length:Nat)=s at s0 s1;generalize k8 ns 10 % (k:Nat)=a at a0 a1;have oK:=w.row s0 s1;have yf:=w.nx s0 s1 a0 a1;rw[B8 s0 s1]
 try walk_at "evc"
 rw[b5U a0 (by rw[oK];exact a1),show (rowAt m s).getD a.toNat (0,0)=stp m s a from rfl]
 try walk_at "evc"
 have Al:(m.getD s.toNat []).length=k:=oK;have xD:∀(x t:Int) (fe:EvE) (Z:List D),Z.getD 1 .none=.list (m.map rwD)->a5 2 Z=cz (.int s)->a5 3 Z=cz (.int a)->fe Z=cz (stD (x,t))->a7a 1 (.l (.l .i)) (pIx 1 (.l (.l .i)) i7 (a5 2)) (a5 3) fe Z=cz (.nx (Z.set 1 (.list ((a5F m s.toNat a.toNat (x,t)).map rwD)))):=λx t fe Z h1 h2 h3 h4=>by
  rw[b7m (ds:=m.map rwD) (es:=(m.getD s.toNat []).map stD) (d:=stD (x,t)) (a:=s) (j:=a) h1 h4 h2 s0 (by rw[ao];exact s1) (by exact b1w (by lia)) h3 a0 (by rw[ao,Al];exact a1),a9F]
 have se:∀x t:Int,0<=t->t<(m.length:Int)->WF (a5F m s.toNat a.toNat (x,t)) k:=λx t h0 h1=>b1v w (by lia) h0 h1
 by_cases c1:k8 ns 8 % 4=1
 ·rw[aU c1]
  try walk_at "evc"
  have qx:∃x,n8 (a6 (e2 A7 (e2 r9 (a5 4) (eC (.int 1))) (e2 M9 (eC (.int 2)) (eCl L4 (a6 (e2 dEq (a5 4) (e2 A7 (e2 a8h (eC (.int 10)) (eC (.int 60))) (eC (.int 1)))) b9)))) (a6 (a5 5) b9)) [.list (ns.map .int),.list (m.map rwD),.int s,.int a,.int (stp m s a).1,.int (stp m s a).2,.int (k8 ns 8 % 4)]=cz (stD (x,(stp m s a).2)):=by
   refine⟨(stp m s a).1+1-2*(if decide ((stp m s a).1=big-1) then 1 else 0),?_⟩
   try walk_at "ev"
   rw[v_pow (i:=10) (j:=60) (by decide)];have xb:(10^(60:Int).toNat:Int)=big:=by decide
   rw[xb]
   try walk_at "ev"
   rw[a1Q]
   try walk_at "ev"
   rw[O8 (i:=2) (by decide)]
   try walk_at "ev"
   rfl
  obtain⟨x,hx⟩:=qx;rw[xD x (stp m s a).2 _ _ rfl rfl rfl hx]
  try walk_at "evc"
  rw[bt (show ¬ k8 ns 8 % 4=2 by lia)]
  try walk_at "evc"
  exact⟨_,rfl,se _ _ yf.1 yf.2⟩
 ·rw[bt c1]
  try walk_at "evc"
  by_cases c2:k8 ns 8 % 4=2
  ·rw[aU c2]
   try walk_at "evc"
   rw[xD (stp m s a).1 (k8 ns 11 % (m.length:Nat)) _ _ rfl rfl rfl (by walk_at "evc";rfl)]
   try walk_at "evc"
   exact⟨_,rfl,se _ _ t0 t1⟩
  ·rw[bt c2]
   try walk_at "evc"
   exact⟨m,rfl,w⟩
end Prog
namespace VS
open PySem L2
section
variable {i:Nat}{t u2:Ty}{Z ds es:List D}{e d:D}{fe:EvE}
def b1H(h:Z.getD i .none=.tuple [e,.list ds])(hf:fe Z=cz d)(hl:ds.length<1000000):n6 i (.tp [u2,.l t]) (pIx i (.tp [u2,.l t]) i7 (eC (.int 1))) fe Z=cz (.nx (Z.set i (.tuple [e,.list (ds++[d])]))):=by
 unfold n6 pIx i7;rw[h];show (fe Z).bind _=_;rw[hf];show (if ds.length<1000000 then _ else _)=_;rw[aL hl];rfl
def b4m(h:Z.getD i .none=.list [.list ds,e])(hf:fe Z=cz d)(hl:ds.length<1000000):n6 i (.l (.l t)) (pIx i (.l (.l t)) i7 (eC (.int 0))) fe Z=cz (.nx (Z.set i (.list [.list (ds++[d]),e]))):=by
 unfold n6 pIx i7;rw[h];show (fe Z).bind _=_;rw[hf];show (if ds.length<1000000 then _ else _)=_;rw[aL hl];rfl
def b1I(h:Z.getD i .none=.list [e,.list (.list ds::es)])(hf:fe Z=cz d)(hl:ds.length<1000000):n6 i (.l (.l (.l t))) (pIx i (.l (.l (.l t))) (pIx i (.l (.l (.l t))) i7 (eC (.int 1))) (eC (.int 0))) fe Z=cz (.nx (Z.set i (.list [e,.list (.list (ds++[d])::es)]))):=by
 unfold n6 pIx i7;rw[h];show Option.bind (Option.bind (ixN (es.length+1) 0) _) _=_;rw[a3r (by decide) (by lia)];show (fe Z).bind _=_;rw[hf];show (if ds.length<1000000 then _ else _)=_;rw[aL hl];rfl
end
end VS
namespace Prog
open PySem L2 VS
def b1Y{m:k6}(hp:0<m.length):z9 [.list (m.map rwD)]=cz (.int ((rowAt m 0).length:Nat)):=by
 unfold z9;rw[T7 (by simp[VS.argsOk])];unfold Z8;walk_at "ev";rw[B8 (by lia) (by lia)];walk_at "ev"
def a6E{m n:k6}(h1:0<m.length)(h2:0<n.length)(h:(rowAt m 0).length≠(rowAt n 0).length):m_law_unfit [.list (m.map rwD),.list (n.map rwD)]=cz (.bool true):=by
 have hr:N8 [.list (m.map rwD),.list (n.map rwD)]=cz ("Unfit":br):=by
  unfold N8;rw[b6g (by simp[VS.argsOk])];unfold a1G;rw[b6h (b:=true) (by
   walk_at "ev";rw[b1Y h1,b1Y h2];walk_at "ev";rw[bt (by lia)];rfl)]
  rfl
 unfold m_law_unfit;rw[T7 (by simp[VS.argsOk])];unfold b_law_unfit;walk_at "ev";have e1:rCl N8 (a6 (a5 0) (a6 (a5 1) b9)) [.list (m.map rwD),.list (n.map rwD),.none,.none]=cz ("Unfit":br):=hr;rw[b4c (n:="Unfit") e1 (by rfl)];rfl
def a9Y{m n:k6}{k:Nat}{W:w8 (List Int)}(w:WF m k)(w':WF n k)(hA:AllB (nx2 m n) k [0,0] (Pr2 m n) W):∃(e:D) (ds:List D),a0F m n k W=.tuple [e,.list ds]/\ds.length<1000000:=by
 have hl:=a6D w w' hA;unfold a0F;cases hf:W.find? λe=>c2 m n k e.1 with
 |some e=>
  have hq:=hA.ql e (fL hf);exact⟨_,_,rfl,by rw[ao,az,bx];lia⟩
 |none=>exact⟨_,_,rfl,by rw[ao,(N6 _).length_eq,ao];lia⟩
def law_true(ns:List Int)(mD:ns.length<=63):m_law [.list (ns.map .int)]=cz (.bool true):=by
 obtain⟨m,k,AA,w,BI⟩:=a3y ns;obtain⟨m1,ho,w1⟩:=a5P ns w (by lia);obtain⟨n,nE,wn⟩:=a3z ns w1;have hle:=w.le;have hlen:=wn.le;have hp:=w.pos;have uK:=wn.pos;have uP:=w.k5;have qM:=w.k1;have Ay:m.length*n.length<=900:=bZ (dW hle hlen) (by decide);have uM:n.length*m.length<=900:=bZ (dW hlen hle) (by decide);have e0:(rowAt m 0).length=k:=w.row (by lia) (by lia);have xc:(rowAt n 0).length=k:=wn.row (by lia) (by lia);unfold m_law;rw[T7 (by simp[VS.argsOk])];unfold b_law
 try walk_at "evc"
 rw[AA]
 try walk_at "evc"
 have nW:b0P m_law_changed (a5 0) (eCl m_law_other (a6 (a5 0) (a6 (a5 1) b9))) [.list (ns.map .int),.list (m.map rwD),.none,.none,.none,.none,.none]=cz (.list (n.map rwD)):=by
  unfold b0P;show ((eCl m_law_other (a6 (a5 0) (a6 (a5 1) b9))) _).bind _=_;rw[show eCl m_law_other (a6 (a5 0) (a6 (a5 1) b9)) [.list (ns.map .int),.list (m.map rwD),.none,.none,.none,.none,.none]=cz (.list (m1.map rwD)) from by walk_at "ev";exact ho];exact nE
 rw[nW]
 try walk_at "evc"
 cases decide (k8 ns 8 / 4 % 9=1) with
 |true=>
  try walk_at "evc"
  rw[B8 (by lia) (by lia)]
  try walk_at "evc"
  rw[e0];have fin:∀n2:k6,0<n2.length->(rowAt n2 0).length≠k->m_law_unfit [.list (m.map rwD),.list (n2.map rwD)]=cz (.bool true)/\m_law_unfit [.list (n2.map rwD),.list (m.map rwD)]=cz (.bool true):=λn2 h1 h2=>⟨a6E hp h1 (by lia),a6E h1 hp (by lia)⟩
  obtain⟨r0,n',hn⟩:∃r0 n',n=r0::n':=by cases n with
   |nil=>cases uK
   |cons a b=>exact⟨a,b,rfl⟩
  have CL:r0.length=k:=by rw[hn]at xc;exact xc
  by_cases c5:k=5
  ·rw[aU (show ((k:Nat):Int)=5 by lia)];have tS:u8 (iL (a5 2)) [] pt1 tT (eI (eSl (a5 0) oNo (oSo (eC (.int 4))))) [.list (ns.map .int),.list (m.map rwD),.list (n.map rwD),.none,.none,.none,.none]=cz (.list ((n.map λr=>r.take 4).map rwD)):=by
    rw[a0L (enc:=rwD) (xs:=n) (λr=>rwD (r.take 4)) (by rfl) (by lia) λr hr=>⟨_,rfl,?_⟩]
    ·rw[dI];rfl
    ·show eI (eSl (a5 0) oNo (oSo (eC (.int 4)))) [rwD r]=_;have sO:r.length=k:=wn.rows r hr;rw[a0r,b3P,b1W,b1V];unfold rwD;walk_at "ev";rw[b5T,a9z,a9A (by lia) (by rw[ao];lia),<-List.map_take];exact a9D
   obtain⟨f1,f2⟩:=fin (n.map λr=>r.take 4) (by rw[ao];exact uK) (by
    rw[hn];show (r0.take 4).length≠k;rw[cu];lia)
   walk_at "ev";rw[tS];walk_at "ev";rw[f1];walk_at "ev";rw[f2];walk_at "ev"
  ·rw[bt (show ¬ ((k:Nat):Int)=5 by lia)];have tS:u8 (iL (a5 2)) [] pt1 tT (eI (O5 (a5 0) (u7 (a6 (e2 a8 (a5 0) (eC (.int 0))) b9)))) [.list (ns.map .int),.list (m.map rwD),.list (n.map rwD),.none,.none,.none,.none]=cz (.list ((n.map λr=>r++[r.getD 0 (0,0)]).map rwD)):=by
    rw[a0L (enc:=rwD) (xs:=n) (λr=>rwD (r++[r.getD 0 (0,0)])) (by rfl) (by lia) λr hr=>⟨_,rfl,?_⟩]
    ·rw[dI];rfl
    ·show eI (O5 (a5 0) (u7 (a6 (e2 a8 (a5 0) (eC (.int 0))) b9))) [rwD r]=_;have sO:r.length=k:=wn.rows r hr;rw[a0r,a4y];walk_at "ev";rw[L8 (by decide) (by lia)];have wG:l1 a2Z (cz (stD (r.getD (0:Int).toNat (0,0))))=cz (stD (r.getD 0 (0,0))):=a8G a3q;rw[wG];walk_at "ev";unfold rwD;rw[a1C (by rw[ao];simp;lia),show [stD (r.getD 0 (0,0))]=[r.getD 0 (0,0)].map stD from rfl,<-bu];exact a9D
   obtain⟨f1,f2⟩:=fin (n.map λr=>r++[r.getD 0 (0,0)]) (by rw[ao];exact uK) (by
    rw[hn];show (r0++[r0.getD 0 (0,0)]).length≠k;rw[az,bx];lia)
   walk_at "ev";rw[tS];walk_at "ev";rw[f1];walk_at "ev";rw[f2];walk_at "ev"
 |false=>
  try walk_at "evc"
  rw[a9E (m:=m) (by rfl) (by lia),a9E (m:=n) (by rfl) (by lia)]
  try walk_at "evc"
  obtain⟨W,hA,hW⟩:=a2J w wn Ay;obtain⟨W2,BG,uT⟩:=a2J wn w uM;rw[hW]
  try walk_at "evc"
  rw[a5N w wn hA]
  try walk_at "evc"
  have gU:dNe (.list [.list (m.map rwD),.list (n.map rwD)]) (.list [.list (m.map rwD),.list (n.map rwD)])=cz (.bool false):=by
   refine b1U ?_ ?_
   ·simp only[cH,bM,fU,aC];have h1:=a4z m;have h2:=a4z n;simp only[cH]at h1 h2;exact⟨h1,h2⟩
   ·have h1:=G6 rwD 2 a4A m;have h2:=G6 rwD 2 a4A n;simp only[ef,cP];lia
  rw[gU]
  try walk_at "evc"
  obtain⟨e,ds,he,Ba⟩:=a9Y w wn hA;rw[b1H (i:=4) (Z:=[.list (ns.map .int),.list (m.map rwD),.list (n.map rwD),.list [.list (m.map rwD),.list (n.map rwD)],a0F m n k W,.none,.none]) (fe:=eC (.int 0)) (e:=e) (ds:=ds) (d:=.int 0) he rfl Ba]
  try walk_at "evc"
  rw[hW]
  try walk_at "evc"
  rw[uT]
  try walk_at "evc"
  rw[b4m (ds:=m.map rwD) (e:=.list (n.map rwD)) (d:=.list []) (by rfl) (by rfl) (by rw[ao];lia)]
  try walk_at "evc"
  obtain⟨r0,n',rfl⟩:∃r0 n',n=r0::n':=by cases n with
   |nil=>cases uK
   |cons a b=>exact⟨a,b,rfl⟩
  rw[b1I (ds:=r0.map stD) (es:=n'.map rwD) (e:=.list (m.map rwD++[.list []])) (d:=.tuple [.int 0,.int 0]) (by rfl) (by rfl) (by rw[ao];have:r0.length=k:=xc;lia)]
  try walk_at "evc"
  have t1:m_law_told [a0F m (r0::n') k W,.list (m.map rwD),.list (rwD r0::n'.map rwD)]=cz (.bool true):=a5N w wn hA;have t2:m_law_told [a0F (r0::n') m k W2,.list (rwD r0::n'.map rwD),.list (m.map rwD)]=cz (.bool true):=a5N wn w BG;rw[t1]
  try walk_at "evc"
  rw[t2]
  try walk_at "evc"
def b4n{l:W.OpenLaw}{w:bJ}{K:W.Frag}{mg:br->Option ag}{fa:au}(wz:mg "law"=cz (.ref fa))(b:Bn K mg)(jC:(w9 K "compare").isSome=true)
  : ∃fd:c_,(∀(s:aj) (v:ag),lW s fd ⟨[v],[]⟩ [("_law_script",v)])/\∀base:b_,K.In base->base.Ns aY mg->FnOk l.prog w K mg base CX0 6 fa fd ["_law_script"] (spD K 1 m_law .i):=b3I wz b.d15 λbase KB GB fd F=>by
 have B:Bk l.prog w K mg base:=⟨b⟩;have bB:=ok_law_cell B;have iz:=ok_law_menu B bB.u;have gv:=ok_law_machine B bB.u iz.u;have gw:=ok_law_changed B bB.u;have gW:=a0E B;have fP:=a3s B;have fu:=a5G B;have eY:=a1F B;have gC:=a4B B fP.u fu.u eY.u gW.u jC KB GB;have fq:=a5H B fP.u fu.u eY.u gW.u jC KB GB;have gY:=ok_law_other B bB.u;have gX:=ok_law_pairs B;have dQ:=ok_law_parted_within B;have gZ:=ok_law_first B dQ.u;have gg:=ok_law_told B gX.u gZ.u;have gr:=ok_law_unfit B fq.u gC.u;exact ok_law B bB.u gv.u gw.u fq.u gY.u gg.u gr.u gC.u F
end Prog
namespace PySem.W.Fast
def tw276396920695914557:=0
def tw8812323138086709887:=0
def tw18107172500580505704:=0
def tw3227719921424134458:=0
def tw918237507132219472:=0
def tw6054588109810375698:=0
def tw240546248561960138:=0
def tw13824939382178908097:=0
def tw2459665509808437966:=0
def tw17071032056196177526:=0
def tw11995056530205410550:=0
def tw15330470261406529407:=0
def tw8944180724821607501:=0
def tw5348901491939561558:=0
def tw16277422833599278007:=0
def tw8762315472855184487:=0
def tw13295809563188790686:=0
def tw8933695336806105319:=0
def tw9665855628828864656:=0
def tw3458810805837743003:=0
def tw16286385604453857380:=0
def tw3140658259927329259:=0
def tw12562982717085676377:=0
def tw14092871486895702846:=0
def tw5650351622725041509:=0
def tw13228629816046218477:=0
def tw4410072799525307030:=0
def tw5549700285813834789:=0
def tw7815616053399454780:=0
def tw14421731907789458940:=0
def tw15794625008333412754:=0
def tw13216092864558811945:=0
def tw304367127509858759:=0
def tw6590601990140264856:=0
def tw15079507425256884129:=0
def tw3241385880012732858:=0
def tw13621010586256590780:=0
def tw3448814996162307305:=0
def tw3870960579868403318:=0
def tw13270836468199492427:=0
def tw11193635938737242586:=0
def tw17293634268935267545:=0
def tw9711720935240236792:=0
def tw8109278844097411197:=0
def tw483098983539012:=0
def tw6526981598709689738:=0
def tw1834046817208936252:=0
def tw15660177559866346939:=0
def tw11434408405445855217:=0
def tw7157035692673544508:=0
def tw5750466716285744077:=0
def tw7846262666538495459:=0
def tw17595947671232139248:=0
def tw5421277039866246575:=0
def tw8202165739123166913:=0
def tw2886423155285551606:=0
def tw16217952884858465537:=0
def tw8624505145039174838:=0
def tw15901477855281981713:=0
def tw463028206908523185:=0
def tw6074764848736650969:=0
def tw3228608959372341245:=0
def tw15909231736028548190:=0
def tw7642362597100594596:=0
def tw13743349142992039048:=0
def tw11339936016038479182:=0
def tw8107870411256784910:=0
def tw6676192300187633832:=0
def tw13766293929454146984:=0
def tw17834286855815672384:=0
def tw11343062031562743385:=0
def tw16570820647220348773:=0
def tw13732285739280744395:=0
def tw10519746056006468156:=0
def tw2190832182404379885:=0
def tw7688816143136077570:=0
def tw7821087775867484183:=0
def tw4263870717228022439:=0
def tw18113925202183004271:=0
def tw7238738672333967086:=0
def tw6439250434128011602:=0
def tw6983505021701669000:=0
def tw12461445513694776297:=0
def tw4233699307685174628:=0
def tw8793487219005227:=0
def tw2331513951348174493:=0
def tw11505561909141506705:=0
def tw11449445188778247676:=0
def tw11663311312195509802:=0
def tw5800043426300118561:=0
def tw3939225130823287926:=0
def tw12333492235998892988:=0
def tw5932471955747444749:=0
def tw16542341109324571497:=0
def tw16576701105564067926:=0
def tw950157270554729544:=0
def tw3000130481912602633:=0
def tw2203623654513327418:=0
def tw6641247635424533577:=0
end PySem.W.Fast
end
open PySem PySem.W PyProof.Rows
set_option maxRecDepth 100000 in
set_option maxHeartbeats 0 in
theorem PySem.Challenge.cw_probewell_k20_whole_compare_holds : PySem.Challenge.rw_probewell_k20_whole_compare.Holds := by
 w_on;o_law;k_head;(case hw=>w_witness2)
 k_fill
 refine VS.a7c (k:=6) (x:="_law_script") (m:=Prog.m_law) (l:=PySem.Challenge.rw_probewell_k20_whole_compare) rfl rfl ⟨rfl,by decide,by decide⟩ (fun w h Y=>by first|exact PySem.W.kIn_of Y|exact PySem.W.km_in_of Y) (fun w=>by kernel_rfl) ?F Prog.law_true
 case F=>
  intro w mg fa h KX G hmg
  refine' Prog.b4n hmg ?b ?_
  case b=>
   constructor
   iterate 16 (refine' VS.b5H KX G ?a ?l ?c ?k;(case a=>k_is);(case l=>k_is);(case c=>k_is);(case k=>k_is))
   iterate 12 (refine' PySem.W.mg_none_of KX G ?_;k_is)
   iterate 1 (refine' VS.b6Y ?a ?b;(case a=>k_is);(case b=>kernel_rfl))
   (refine' VS.b6Z ?a ?b;(case a=>k_is);(case b=>kernel_rfl))
   (refine' VS.a0D KX G ?a ?b ?c;(case a=>k_is);(case b=>kernel_rfl);(case c=>kernel_rfl))
   (refine' VS.a0D KX G ?a ?b ?c;(case a=>k_is);(case b=>kernel_rfl);(case c=>kernel_rfl))
   (refine' VS.a0D KX G ?a ?b ?c;(case a=>k_is);(case b=>kernel_rfl);(case c=>kernel_rfl))
   (refine' VS.a0D KX G ?a ?b ?c;(case a=>k_is);(case b=>kernel_rfl);(case c=>kernel_rfl))
   (refine' VS.a0D KX G ?a ?b ?c;(case a=>k_is);(case b=>kernel_rfl);(case c=>kernel_rfl))
   (refine' VS.a0D KX G ?a ?b ?c;(case a=>k_is);(case b=>kernel_rfl);(case c=>kernel_rfl))
   (refine' VS.a0D KX G ?a ?b ?c;(case a=>k_is);(case b=>kernel_rfl);(case c=>kernel_rfl))
   (refine' VS.a0D KX G ?a ?b ?c;(case a=>k_is);(case b=>kernel_rfl);(case c=>kernel_rfl))
   (refine' VS.a0D KX G ?a ?b ?c;(case a=>k_is);(case b=>kernel_rfl);(case c=>kernel_rfl))
   (refine' VS.a0D KX G ?a ?b ?c;(case a=>k_is);(case b=>kernel_rfl);(case c=>kernel_rfl))
   (refine' VS.a0D KX G ?a ?b ?c;(case a=>k_is);(case b=>kernel_rfl);(case c=>kernel_rfl))
   (refine' VS.a0D KX G ?a ?b ?c;(case a=>k_is);(case b=>kernel_rfl);(case c=>kernel_rfl))
   (refine' ⟨?b,?c⟩;(case b=>kernel_rfl);(case c=>kernel_rfl))
  kernel_rfl
