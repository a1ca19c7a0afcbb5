import PyProof.Rows.All
import Wide.All
import OpenK.AllK
import Wide.FinOn
import Lean
import PyProof.EqAt
import PyProof.EqKinds
import PyProof.TupleCall
import PyProof.P3Eq
import PyProof.NeData
import PyProof.P3In
import PyProof.Rows.EnumRows
import PyProof.ZipIter
import PySem.Challenge.RW_evenhues_k08_whole_strips
set_option genSizeOf false
set_option genSizeOfSpec false
set_option bootstrap.genMatcherCode false
set_option Elab.async false
set_option linter.all false
set_option maxRecDepth 100000
set_option maxHeartbeats 4000000
open And renaming intro→Am
open Array renaming length_toList→AD,toList_append→A4,getElem?_toList→BS,perm_iff_toList_perm→Di,toList_push→Dk,toList_extract→Dq,size_setIfInBounds→DA,getD_eq_getD_getElem?→DZ,toList_reverse→D6,toList_setIfInBounds→FY,toList_inj→Gp,eraseIdxIfInBounds→Gq
open Bool renaming and_eq_true→Ab,false_ne_true→An,false_eq_true→AU,or_eq_true→A5,eq_iff_iff→BD,not_eq_true'→B5,or_eq_false_iff→D8,and_eq_true_iff→Ea,false_and→FA,and_self→F0,eq_false_iff→F8,false_or→Ha
open False renaming elim→C0
open ForInStep renaming yield→CG
open Iff renaming rfl→Dv
open Int renaming toNat_natCast→AH,le_trans→A0,natCast_mul→BG,le_refl→Cg,zero_add→CJ,fdiv_eq_ediv_of_nonneg→Eb,fmod_eq_emod_of_nonneg→Ec,le_antisymm→Ek,natCast_add→En,le_of_lt→EA,emod_lt_of_pos→EE,emod_nonneg→Fv,natCast_emod→Gv,not_lt→G3
open Int.ofNat renaming inj→Hb
open LawfulBEq renaming eq_of_beq→Cz
open LawfulMonad renaming pure_bind→FK
open List renaming getElem?_eq_getElem→Aa,getD_eq_getElem?_getD→Ae,length_map→Ag,size_toArray→Ah,range→Ak,getElem?_eq_some_iff→Ap,append_assoc→Ar,mem_map→As,length_append→Aw,mem_range→Ax,getElem?_map→Ay,map_cons→AA,length_cons→AE,mem_cons→AF,mem_cons_of_mem→AJ,lookup_cons→AK,mem_of_getElem?→AM,replicate→AN,getElem?_append_left→AQ,length_range→AV,getElem?_append_right→AW,mem_cons_self→AY,append_nil→AZ,mem_singleton→A1,filterMap_cons→A2,mem_append→A3,take_append_drop→Ba,mem_of_mem_take→Be,mem_append_right→Bh,map_map→Bl,drop_eq_getElem_cons→Bm,length_take→Bn,getElem?_set_self→Bo,getElem_of_mem→Bq,pairwise_cons→Bx,all_eq_true→Bz,mem_append_left→BC,nodup_cons→BE,mem_of_mem_drop→BF,getElem_mem→BI,take_of_length_le→BJ,flatMap_map→BK,pairwise_iff_getElem→BM,map_congr_left→BN,getElem?_take_of_lt→BR,getElem?_eq_none→BW,all_cons→B1,drop_of_length_le→B3,mem_filter→B7,map_append→B8,length_drop→Cb,any_eq_true→Cd,getElem?_set_ne→Ci,pairwise_map→Co,length_nil→Cp,replicate_succ→Cq,length_reverse→Cr,filterMap_map→Cy,drop_zero→CA,extract_eq_drop_take→CB,take_sublist→CK,getElem_drop→CL,getElem_take→CM,flatMap_cons→CN,nodup_range→CY,mem_flatMap→CZ,getElem?_drop→C7,idxOf_lt_length_of_mem→C8,getElem_idxOf→C9,length_set→Dd,nil_append→De,any_cons→Dh,flatten_cons→Dj,getElem?_eq_none_iff→Dl,pairwise_append→Dp,drop_drop→Du,not_mem_nil→Dx,countP_cons→Dy,getElem_map→DB,flatMap_append→DC,find?_cons→DK,length→DL,perm_append_comm→DU,take_take→DV,getElem?_reverse→DX,ext_getElem→D5,reverse_reverse→D7,getElem?_of_mem→D9,getElem?_range→Ei,mem_filterMap→Er,map_nil→Eu,length_filterMap_le→Ey,foldl→EG,take_succ→EI,pairwise_singleton→EL,findIdx?_eq_some_iff_getElem→EX,filter_cons→Fc,length_replicate→Fd,length_singleton→Ff,count_cons→Fp,length_pos_iff→Fy,findIdx?_cons→FO,map_filterMap→FP,set_comm→FT,take_add→FX,drop_sublist→F7,nodup_append→F9,getElem_inj→Gf,map_flatMap→Gu,getElem?_replicate→Gw,getElem?_cons_succ→Gz,of_mem_zip→GG,forIn_cons→GI,range_succ→GO,drop_take→GX,Perm→Hh
open List.Pairwise renaming imp→DQ
open List.Perm renaming eq_of_pairwise→EB
open List.cons renaming inj→G9
open MonadExcept renaming tryCatch→G1
open Nat renaming le_refl→Ai,le_trans→AB,ne_of_lt→AG,lt_of_lt_of_le→AS,zero_le→Bp,lt_succ_of_lt→Bt,lt_of_succ_lt→BP,mul_comm→BU,le_of_eq→BV,mul_le_mul_left→B6,lt_of_le_of_ne→Cc,mul_le_mul_right→Ck,add_zero→CI,lt_irrefl→CO,lt_succ_self→CW,succ_mul→C6,div_le_self→Df,pos_of_ne_zero→DJ,eq_zero_of_not_pos→DN,le_of_lt→DR,succ_pos→DT,zero_add→DW,min_le_right→D2,add_le_add_left→Eh,min_eq_left→Em,add_sub_cancel_left→EK,le_succ→EV,one_pos→EW,succ_le_succ→E6,le_add_right→Fb,le_div_iff_mul_le→Fg,ne_of_gt→Fh,le_add_left→Fs,sub_lt→Ft,zero_mul→Fw,mul_le_mul→FC,sub_le→Ge,sub_zero→Gk
open Ne renaming symm→BZ
open Option renaming none→Ad,map_eq_some_iff→AX,bind_eq_some_iff→DE,getD_some→E9,map_some→Fu,isSome_map→Ga,getD_none→Gh
open Option.some renaming inj→AO
open Prod renaming ext→Es
open PyProof renaming noPylong_small→EN
open PyProof.Rows renaming wpS_bind→Ao,wpS_pure→Aq,pendingOf→AL,slot_tuple_getitem→A8,wpS_forRange→Bu,wpS_modify→Cw,wpS_mono→CH,assignInOrder_cons→C1,SortKind→Dz,callWith_type1→DY,failedOf→Ez,tupleItemsOf_→E1,subscriptTail→E2,get?_update_seq→Fq,entry_tuple_getitem→Fx,kindOf→Fz,wpS_lift→FE,args_tuple_getitem→FH,listUpdate_at→FW,assignInOrder_nil→F3,Subscript_→Gd,boot_sorted→Gs,boot_tuple→Gy,entry_list_sort→GN,seqEpoch_at→GR,slot_list_sort→GV,args_list_sort→GW
open PyProof.Rows.SortSt renaming mk'→G2
open PySem renaming wpAny_bind→Ac,wpAny_pure→Al,sizeLine→Az,starEach→AR,Spec→A6,compareOp→A7,mainGlobals→A9,foldedSetIterable→Bb,sizeLine_eq→Bi,wpAny_newObj_type→Br,sliceBounds→BA,wpAny_holding→BB,binaryOp→BH,sysModules→BO,letOwnedTupleGo→BX,call_meets→B0,wpAny_truthy_bool→B4,FuncData→B9,Env→Ce,swappedStores→Cf,wpAny_mono→Cu,wpAny_rule→Cv,bootBuiltins→CD,wpAny_standAt→CP,mem_of_lookup→CT,NameKind→CV,wpAny_passesOwn→Dc,assignEach→Dm,wpAny_binaryOp_repeat_ref→Dn,wpAny_call_entry→Dw,wpAny_Call_Name_kw→DH,typeIs_int→DI,wpAny_pyIter_list→DO,bindName→D1,attributeBase→Ee,wpAny_loadPart'→Ej,swapsWith→Eo,inplaceOp→Ep,compTurn→Ew,tupleKind_room_in1→EC,wpAny_bindName→EF,wpAny_tryCatch→EH,wpAny_callSpecial?_slot→EJ,keywordEach→EO,wpAny_field→ES,wpAny_Call_method_late→ET,assignInOrder→EY,swapsWithSole→EZ,plainId_quiet→E3,wpAny_newList→E4,noFill_tuple_add→E5,wpAny_typeOf→Fi,codeAny_builtin→Fo,wpAny_seqItems→FD,constantsAlone→FF,PassesOwn→FG,seqIndex?→FJ,seq_tuple_add→FU,foldedForSure→FZ,wpAny_sequenceKey→F4,slot_list_getitem→F5,backToKw→Gg,wpAny_getItem_list_slice→Gi,wpAny_comprehension_free→Gj,Arguments→GA,tupleKind→GC,wpAny_execs_nil→GF,seqItems?→GK,wpAny_updateSeq→GL,subscripted→GP,wpAny_letGo→GQ,behindInMarks→G6,Comprehension→G7,lastMarks→He,slicePick→Hf
open PySem.Around renaming under_plainId→D4
open PySem.AutoSeq1 renaming idx_int→Gm
open PySem.Builtin.Builtins renaming bindParams→FN
open PySem.Builtin.List renaming listTooLong→Et
open PySem.Builtin.Range renaming rangeSize→CQ
open PySem.Builtin.Slice renaming sliceAdjust→Bv,slicePlaces→BL,sliceApplied→Dg,sliceFields→Gb
open PySem.Builtin.Tuple renaming tupleExact→By,tupleItemsOf→Ed,tupleTooMany→Eg,tupleIsExact→FV
open PySem.Calls renaming call_function_entry→El,callWith_builtin→EU,evalArgs_plain→Fj,Name_function_global→FR
open PySem.CmpOf renaming ints_gt→G8
open PySem.Expr renaming Name→Hg
open PySem.F renaming plain_max_loop→Bw,args_tuple_add_2→Ca,entry_tuple_add→Cm,slot_tuple_add→Ct,slot_int_rmul→CF,entry_max_loop→DM,slot_tuple_mul→D3,args_int_rmul_2→EM,slot_int_index→E7,entry_int_rmul→E8,fills_int_mul→Fm,args_tuple_mul_2→FL,entry_tuple_mul→F6,plainAttrs_tuple→Gn,plainAttrs_list→Gx
open PySem.Flow renaming next→Hc
open PySem.Heap renaming get?_push_of_some→Af,lt_size→Au,get?_push_size→AI,get?_update_other→B2,get?_update_ne→CU,get?_push_ne→DP,size_push→DS,get?_update_self→Fe
open PySem.Heap.IsSliceOf renaming new→FI
open PySem.NameKind renaming free→Bg,cell→Ef
open PySem.Obj renaming mapSeq→Bk
open PySem.Paired renaming length→FQ
open PySem.PyData renaming eqv→Cj,depth→ED,depthAll→GJ,canLay0→GY,int→G4
open PySem.SeqAt renaming EqAt→Bj
open PySem.Str renaming ofString→C4
open PySem.Value renaming none→Aj,ref→Bc,int→DG,bool→D0,str→GB,type→GZ
open PySem.W renaming Frag→Av,nsIn→BQ,kia_one→BY,fnOf→CC,codeIn→Dr,keepIn→Dt,mg_of→F1,methodObj→F2,instObj→GD,OpenLaw→GH,lookIn→GS,kitOne→GU,recOk→G5
open PySem.Walks renaming list→G0
open Std.Legacy renaming Range→Gr
open Sum renaming inr→Ds,inl→DF
open True renaming intro→Bd
section
namespace Hd
open PySem
inductive G where
 |int (i:Int)|str (x:Str)|ctup (ns:List Int)
noncomputable def args(s:Stmt):GA:=match s with
 |.FunctionDef _ a _ _ _ _ _ _ _ _=>a
 |_=>{posonlyargs:=[],args:=[],vararg:=none,kwonlyargs:=[],kw_defaults:=[],kwarg:=none,defaults:=[]}
noncomputable def body(s:Stmt):List Stmt:=match s with
 |.FunctionDef _ _ b _ _ _ _ _ _ _=>b
 |_=>[]
noncomputable def scope(s:Stmt):Scope:=match s with
 |.FunctionDef _ _ _ _ _ _ sc _ _ _=>sc
 |_=>{kind:=.function,names:=[],isGenerator:=false,isCoroutine:=false}
noncomputable def posOf(s:Stmt):Pos:=match s with
 |.FunctionDef _ _ _ _ _ _ _ _ _ p=>p
 |_=>⟨0,0,0,0⟩
noncomputable def ZR(x:Str)(st:Stmt):DefRec:=⟨x,args st,body st,scope st,posOf st⟩
noncomputable def Vm:List Str:=["len","all","any","tuple","list","sorted","repr","max","min","sum","int","isinstance","divmod","str","bool","dict","set","range","enumerate","zip"]
noncomputable def om:List Value→Option (List Int)
 |[]=>some []
 |.int i _::r=>(om r).map (i::·)
 |_=>none
noncomputable def nsH(h:Heap)(x:Str):Option (Option Value):=match h.get? A9 with
 |some o=>BQ [(A9,o)] A9 x
 |none=>none
noncomputable def Xs(fd:B9):B9:={fd with kwdefaults:=.none,doc:=.none,pyModule:=.none,annotations:=none,code:=.none,closureTuple:=.none}
noncomputable def hU(h:Heap)(cd:Value)(x:Str):Bool:=match cd with
 |.ref c=>(match h.get? c with
  |some o=>Dr [(c,o)] (.ref c) x
  |none=>false)
 |_=>false
noncomputable def cu(h:Heap)(x:Str):Option B9:=match nsH h x with
 |some (some (.ref f))=>(match h.get? f with
  |some ⟨_,_,.func fd,_⟩=>if hU h fd.code x then some (Xs fd) else none
  |_=>none)
 |_=>none
noncomputable def aN(p:Str × Stmt):Option B9:=some (CC p.1 p.1 (args p.2) (body p.2) (scope p.2) .none .none .none .none none .none .none)
noncomputable def glB(h:Heap)(x:Str):G→Bool
 |.int i=>(match nsH h x with|some (some (.int j _))=>decide (i=j)|_=>false)
 |.str y=>(match nsH h x with|some (some (.str z _))=>decide (y=z)|_=>false)
 |.ctup ns=>(match nsH h x with
  |some (some (.ref a))=>(match h.get? a with
   |some ⟨.type n,_,.seq us _,_⟩=>decide (n="tuple")&&decide (us.toList.length≤1000)&&decide (om us.toList=some ns)
   |_=>false)
  |_=>false)
noncomputable def blB(h:Heap)(x:Str):Bool:=match nsH h x with|some none=>true|_=>false
noncomputable def YT(D:List (Str × Stmt))(gl:List (Str × G))(s:Shared):List (Option B9) × Bool:=(D.map fun p=>cu s.heap p.1,gl.all (fun p=>glB s.heap p.1 p.2)&&Vm.all fun x=>blB s.heap x)
noncomputable def Xd(D:List (Str × Stmt)):List (Option B9) × Bool:=(D.map aN,true)
end Hd
end
section
set_option maxHeartbeats 0
open PySem PySem.W PyProof.Rows
namespace P08
noncomputable def top(i:Nat):Stmt:=PySem.Challenge.pw_evenhues_k08_whole_strips.main.body.getD i (.Pass ⟨0,0,0,0⟩)
noncomputable def D:List (Str × Stmt):=(("is_whole":Str),top 11)::(("are_wholes":Str),top 12)::(("need_whole":Str),top 13)::(("need_size":Str),top 14)::(("need_length":Str),top 15)::(("need_first":Str),top 16)::(("need_step":Str),top 17)::(("places_of":Str),top 19)::(("most_step":Str),top 20)::(("rows_in":Str),top 21)::(("rows_at":Str),top 22)::(("is_strip":Str),top 25)::(("need_strip":Str),top 26)::(("is_order":Str),top 27)::(("backward":Str),top 28)::(("exchanged":Str),top 29)::(("thinned":Str),top 30)::(("joined":Str),top 31)::(("is_one_hue":Str),top 33)::(("whole_rows":Str),top 34)::(("first_whole":Str),top 35)::(("whole_by":Str),top 36)::(("longest":Str),top 37)::(("alike_from":Str),top 38)::(("_law_cell_at":Str),top 40)::(("_law_pen":Str),top 41)::(("_law_draw":Str),top 42)::(("_law_strip":Str),top 43)::(("_law_turned_right":Str),top 44)::(("_law_joined_right":Str),top 45)::(("law":Str),top 46)::[]
noncomputable def gl:List (Str × Hd.G):=[("MOST_PLACES",.int 40),("LEAST_SIZE",.int 2),("MOST_SIZE",.int 8),("HUES",.ctup [0,1,2,3])]
noncomputable def q:Program:={PySem.Challenge.pw_evenhues_k08_whole_strips with main:={PySem.Challenge.pw_evenhues_k08_whole_strips.main with body:=[1,2,3,4,5,6,8,9,10,11,12,13,14,15,16,17,19,20,21,22,24,25,26,27,28,29,30,31,33,34,35,36,37,38,40,41,42,43,44,45,46].map top}}
noncomputable def dd:DefRec:=Hd.ZR "law" (top 46)
theorem left:PySem.W.LeftO PySem.Challenge.rw_evenhues_k08_whole_strips.row.prog q [] (fun s=>G5 PySem.Challenge.rw_evenhues_k08_whole_strips.row.records s) (Hd.YT D gl) (fun _=>Hd.Xd D) 100000:=by
 intro w
 kernel_rfl
theorem XG:PySem.Challenge.rw_evenhues_k08_whole_strips.wellSaid=true:=by kernel_rfl
theorem Zc:PySem.W.defOf q PySem.Challenge.rw_evenhues_k08_whole_strips.row.name=some (dd,[]):=by kernel_rfl
theorem hp:PySem.Challenge.rw_evenhues_k08_whole_strips.row.prog.theDef PySem.Challenge.rw_evenhues_k08_whole_strips.row.name=some (dd.params,dd.body,dd.scope):=by kernel_rfl
theorem hk:PySem.W.kwWritten? dd.params.kwonlyargs dd.params.kw_defaults=some []:=by kernel_rfl
theorem hwr:(!PySem.Challenge.rw_evenhues_k08_whole_strips.row.writes||PySem.Challenge.rw_evenhues_k08_whole_strips.row.records.isEmpty)=true:=by kernel_rfl
theorem ok:(PySem.W.chainsOk q&&PySem.W.opensWell PySem.Challenge.rw_evenhues_k08_whole_strips.row.prog&&(PySem.W.frees PySem.Challenge.rw_evenhues_k08_whole_strips.row.toRowW&&PySem.Challenge.rw_evenhues_k08_whole_strips.row.within.isEmpty))=true:=by kernel_rfl
theorem hdf:dd.params.defaults=[]:=by kernel_rfl
theorem bare:PySem.Challenge.rw_evenhues_k08_whole_strips.row.prog.bare:=⟨rfl,rfl,rfl,rfl,rfl,by decide +kernel⟩
theorem hw:PySem.Challenge.rw_evenhues_k08_whole_strips.row.toRowW.promised:=by w_witness2
end P08
end
section
namespace L2
open PySem PySem.Spec PyProof.Rows
noncomputable abbrev Key:=Sum Int Str
noncomputable def qY:Key→Value→Bool
 |.inl k,v=>Value.isInt k v
 |.inr x,v=>Value.isStrOf x v
noncomputable def Vq(w:World):Key→Int
 |.inl k=>hashInt k
 |.inr x=>hashStr w x
theorem yD:∀{k:Key} {v:Value},qY k v=true→(∃i t,k=DF i∧v=DG i t)∨(∃x t,k=Ds x∧v=GB x t)
 |.inl i,v,h=>by
  obtain⟨t,e⟩:=Value.isInt_shape (k:=i) (v:=v) h
  exact .inl ⟨i,t,rfl,e⟩
 |.inr x,v,h=>by
  obtain⟨t,e⟩:=Value.isStrOf_shape (x:=x) (v:=v) h
  exact .inr ⟨x,t,rfl,e⟩
theorem jZ(i:Int)(t:Tok):qY (.inl i) (.int i t)=true:=by simp[qY,Value.isInt]
theorem jf(x:Str)(t:Tok):qY (.inr x) (.str x t)=true:=by simp[qY,Value.isStrOf]
theorem YI(a b:Int):decide ((DF a:Key)=DF b)=(a == b):=by
 by_cases e:a=b
 . subst e;simp
 . have h:¬(DF a:Key)=DF b:=fun q=>e (DF.inj q)
   rw[decide_eq_false h]
   exact(beq_eq_false_iff_ne.mpr e).symm
theorem YL(a b:Str):decide ((Ds a:Key)=Ds b)=decide (a=b):=by
 by_cases e:a=b
 . subst e;simp
 . have h:¬(Ds a:Key)=Ds b:=fun q=>e (Ds.inj q)
   rw[decide_eq_false h,decide_eq_false e]
theorem YJ(a:Int)(b:Str):decide ((DF a:Key)=Ds b)=false:=decide_eq_false (fun q=>nomatch q)
theorem YK(a:Str)(b:Int):decide ((Ds a:Key)=DF b)=false:=decide_eq_false (fun q=>nomatch q)
noncomputable def yX(prog:Program)(w:World):PySem.KeyKind prog w Key where
 is:=qY
 hash:=Vq w
 inj:=fun v a b ha hb=>by
  rcases yD ha with⟨i,t,rfl,rfl⟩|⟨x,t,rfl,rfl⟩
  . rcases yD hb with⟨j,u,rfl,e⟩|⟨y,u,rfl,e⟩
    . injection e with e1 _;rw[e1]
    . exact nomatch e
  . rcases yD hb with⟨j,u,rfl,e⟩|⟨y,u,rfl,e⟩
    . exact nomatch e
    . injection e with e1 _;rw[e1]
 byValue:=fun k v h=>by
  rcases yD h with⟨i,t,rfl,rfl⟩|⟨x,t,rfl,rfl⟩<;>rfl
 pyHash:=fun hv h=>by
  rcases yD hv with⟨i,t,rfl,rfl⟩|⟨x,t,rfl,rfl⟩
  . exact wpAny_pyHash_int h
  . exact wpAny_pyHash_str h
 eqBool:=fun hu hv h=>by
  rcases yD hu with⟨i,t,rfl,rfl⟩|⟨x,t,rfl,rfl⟩
  . rcases yD hv with⟨j,u,rfl,rfl⟩|⟨y,u,rfl,rfl⟩
    . rw[YI]at h;exact wpAny_eqBool_int h
    . rw[YJ]at h;exact Bj.int_str i t y u _ _ _ _ h
  . rcases yD hv with⟨j,u,rfl,rfl⟩|⟨y,u,rfl,rfl⟩
    . rw[YK]at h;exact Bj.str_int x t j u _ _ _ _ h
    . rw[YL]at h;exact wpAny_eqBool_str h
 «strs»:=fun k x t v h=>by
  rcases yD h with⟨i,u,rfl,e⟩|⟨y,u,rfl,e⟩
  . exact nomatch e
  . injection e with e1 _
    subst e1
    cases v<;>rfl
theorem nA(prog:Program)(w:World)(i:Int)(t:Tok):(yX prog w).is (.inl i) (.int i t)=true:=jZ i t
theorem nB(prog:Program)(w:World)(x:Str)(t:Tok):(yX prog w).is (.inr x) (.str x t)=true:=jf x t
end L2
namespace L2
open PySem PySem.Spec PyProof.Rows
inductive V where
 |non|bl (b:Bool)|int (i:Int)|str (x:Str)|byt (b:Array UInt8)|flt (b:UInt64)|ref (a:Addr)|ty (n:String)
 deriving DecidableEq
noncomputable def RelV:V→Value→Prop
 |.non,u=>u=Aj
 |.bl b,u=>u=D0 b
 |.int i,u=>∃t,u=DG i t
 |.str x,u=>∃t,u=GB x t
 |.byt b,u=>∃t,u=Value.bytes b t
 |.flt b,u=>∃t,u=Value.float b t
 |.ref a,u=>u=Bc a
 |.ty n,u=>u=GZ n
noncomputable abbrev Vals:List V→List Value→Prop:=Paired RelV
theorem Vals.length{xs:List V}{us:List Value}(r:Vals xs us):xs.length=us.length:=FQ r
theorem Vals.get:∀{xs:List V} {us:List Value} {i:Nat} {x:V},Vals xs us→xs[i]?=some x→∃u,us[i]?=some u∧RelV x u
 |_,_,_,_,.nil,e=>by simp at e
 |_,_,0,_,.cons r _,e=>by simp at e;subst e;exact⟨_,rfl,r⟩
 |_,_,i+1,x,.cons _ t,e=>by
  obtain⟨u,h1,h2⟩:=Vals.get (i:=i) (x:=x) t (by simpa using e)
  exact⟨u,by simpa using h1,h2⟩
theorem Vals.set{x:V}{u:Value}(r:RelV x u):∀{xs:List V} {us:List Value} (i:Nat),Vals xs us→Vals (xs.set i x) (us.set i u)
 |_,_,_,.nil=>.nil
 |_,_,0,.cons _ t=>.cons r t
 |_,_,i+1,.cons q t=>.cons q (Vals.set r i t)
theorem Vals.append:∀{xs ys:List V} {us ws:List Value},Vals xs us→Vals ys ws→Vals (xs++ys) (us++ws)
 |_,_,_,_,.nil,s=>s
 |_,_,_,_,.cons r t,s=>.cons r (Vals.append t s)
theorem Vals.take:∀{xs:List V} {us:List Value} (n:Nat),Vals xs us→Vals (xs.take n) (us.take n)
 |_,_,0,_=>.nil
 |_,_,_+1,.nil=>.nil
 |_,_,n+1,.cons r t=>.cons r (Vals.take n t)
theorem Vals.drop:∀{xs:List V} {us:List Value} (n:Nat),Vals xs us→Vals (xs.drop n) (us.drop n)
 |_,_,0,r=>r
 |_,_,_+1,.nil=>.nil
 |_,_,n+1,.cons _ t=>Vals.drop n t
theorem Vals.none_of:∀{xs:List V} {us:List Value} {i:Nat},Vals xs us→xs[i]?=none→us[i]?=none:=fun{xs us i} r e=>by
 have h1:=r.length
 have h2:xs.length≤i:=Dl.mp e
 exact Dl.mpr (by omega)
noncomputable def sJ:Option V→Option Value→Prop
 |some v,some u=>RelV v u
 |none,none=>True
 |_,_=>False
noncomputable def KV{κ:Type}:List (κ × V)→List (κ × Value)→Prop:=Paired fun(p:κ × V) (q:κ × Value)=>p.1=q.1∧RelV p.2 q.2
noncomputable def kV:Key→V
 |.inl i=>.int i
 |.inr x=>.str x
inductive HO where
 /-- a list -/
 |lst (xs:List V)
 /-- a tuple (never changes) -/
 |tup (xs:List V)
 /-- a dict whose keys are ints and texts;one whose keys are tuples of ints and texts (the empty one is both) -/
 |dK (kvs:List (Key × V))|dT (kvs:List (List Key × V))
 /-- a set of ints: its members,its size -/
 |set (S:Int→Bool) (n:Nat)
 /-- an instance of the class at C,its dict at dx,its attributes -/
 |ins (C dx:Addr) (fs:List (Str × V))
 /-- the dict of the instance at x -/
 |own (x:Addr)
 /-- the dict of an exception -/
 |xd (fs:List (Str × V))
 /-- a bound method,f of x -/
 |met (f x:Addr)
 /-- a range object lo,lo+1,.. below hi -/
 |rng (lo hi:Int)
 /-- a thing that is known to the object (the script;a dict while a loop walks it): read,never written while it is so -/
 |frz (o:Obj) (u:HO)
 /-- a code object's table -/
 |tbl (ps:Array Value)
 /-- any other thing,by what is true of its one object (a def of one's own: SetO a S n:=HO.ext fun h=>..) -/
 |ext (φ:Heap→Prop)
noncomputable abbrev Hp:=Addr→Option HO
def uB(h:Heap)(a:Addr)(items:Array Value):Prop:=∃o,h.get? a=some o∧o.cls=.type "tuple"∧∃n,o.data=.seq items n∧o.dict=none
theorem uB.tup{h:Heap}{a:Addr}{items:Array Value}(x:uB h a items):IsTup h a items:=let ⟨o,e,c,n,d,_⟩:=x;⟨o,e,c,n,d⟩
theorem uB.lt{h:Heap}{a:Addr}{items:Array Value}(x:uB h a items):a<h.objs.size:=let ⟨_,e,_⟩:=x;Au e
theorem uB.new(h:Heap)(items:Array Value):uB (h.push {cls:=.type "tuple",data:=.seq items}) h.objs.size items:=⟨_,AI _ rfl,rfl,_,rfl,rfl⟩
noncomputable def upd(H:Hp)(a:Addr)(o:HO):Hp:=fun b=>if b=a then some o else H b
theorem zd{H:Hp}{a:Addr}{o:HO}:upd H a o a=some o:=by unfold upd;rw[if_pos rfl]
theorem zO{H:Hp}{a b:Addr}{o:HO}(h:b≠a):upd H a o b=H b:=by unfold upd;rw[if_neg h]
theorem yz{H:Hp}{a b:Addr}{o u:HO}(h:H a=some o)(h':H b=some u)(d:o≠u):a≠b:=by
 intro e;subst e;rw[h]at h';exact d (AO h')
theorem zU{H:Hp}{a b:Addr}{o:HO}(h:H a=some o)(h':H b=none):a≠b:=by
 intro e;subst e;rw[h]at h';cases h'
section
variable (P:Program)(w:World)
noncomputable def ze(H:Hp)(h:Heap)(a:Addr):HO→Prop
 |.lst xs=>xs.length≤Az∧∃(its:List Value) (n:Nat),Vals xs its∧h.get? a=some {cls:=.type "list",data:=.seq its.toArray n}
 |.tup xs=>xs.length≤Az∧∃its:List Value,Vals xs its∧uB h a its.toArray
 |.dK kvs=>kvs.length≤Az∧(a == BO)=false∧∃vs,KV kvs vs∧h.DictOf (yX P w) a vs
 |.dT kvs=>kvs.length≤Az∧(a == BO)=false∧∃xs:List (List Key × Addr × Value),
  Paired (fun(p:List Key × V) (q:List Key × Addr × Value)=>p.1=q.1∧H q.2.1=some (.tup (p.1.map kV))∧RelV p.2 q.2.2) kvs xs ∧
  ∃o es ep,h.get? a=some o∧o.ExactDict∧o.data=.dict es ep∧es.toList=xs.map (entryOfKey (GC (yX P w)))∧(xs.map (·.1)).Nodup
 |.set S n=>h.SetOf (intKind P w) a S n
 |.ins C dx fs=>H dx=some (.own a)∧fs.length≤1000∧dx≠a∧h.get? a=some (GD C dx) ∧
  ∃mA,h.Ns1 dx mA∧(∀f,sJ (fs.lookup f) (mA f))∧PySem.Within mA (fs.map (·.1))
 |.own _=>∃o,h.get? a=some o
 |.xd fs=>∃mA,h.Ns1 a mA∧∀f,sJ (fs.lookup f) (mA f)
 |.rng lo hi=>∃t u v,h.get? a=some {cls:=.type "range",data:=.fields #[.int lo t,.int hi u,.int 1 v]}
 |.frz o u=>h.get? a=some o∧ze H h a u
 |.tbl ps=>h.get? a=some {cls:=.none,data:=.fields ps}
 |.met f x=>h.get? a=some (F2 (.ref f) (.ref x))
 |.ext φ=>φ h∧(∃o,h.get? a=some o)∧∀h1 h2:Heap,φ h1→(∀o,h1.get? a=some o→h2.get? a=some o)→φ h2
def HOk(H:Hp)(h:Heap):Prop:=∀a o,H a=some o→ze P w H h a o
end
section
variable {P:Program}{w:World}{H H':Hp}{h h':Heap}{a:Addr}{o:HO}
theorem ze.lt(x:ze P w H h a o):a<h.objs.size:=by
 cases o with
 |lst xs=>obtain⟨_,_,_,_,e⟩:=x;exact Au e
 |tup xs=>obtain⟨_,_,_,p⟩:=x;exact p.lt
 |dK kvs=>obtain⟨_,_,_,_,o,_,_,e,_⟩:=x;exact Au e
 |dT kvs=>obtain⟨_,_,_,_,o,_,_,e,_⟩:=x;exact Au e
 |set S n=>obtain⟨o,_,_,_,e,_⟩:=x;exact Au e
 |ins C dx fs=>obtain⟨_,_,_,e,_⟩:=x;exact Au e
 |own y=>obtain⟨_,e⟩:=x;exact Au e
 |xd fs=>obtain⟨_,⟨_,_,_,e,_⟩,_⟩:=x;exact Au e
 |rng lo hi=>obtain⟨_,_,_,e⟩:=x;exact Au e
 |frz ob u=>obtain⟨e,_⟩:=x;exact Au e
 |tbl ps=>exact Au (show h.get? a=some _ from x)
 |met f y=>exact Au (show h.get? a=some _ from x)
 |ext φ=>obtain⟨_,⟨_,e⟩,_⟩:=x;exact Au e
theorem Paired.YR{α β:Type}{F G:α→β→Prop}:∀{l₁:List α} {l₂:List β},Paired F l₁ l₂→(∀a b,F a b→G a b)→Paired G l₁ l₂
 |_,_,.nil,_=>.nil
 |_,_,.cons r t,f=>.cons (f _ _ r) (Paired.YR t f)
theorem ze.iQ(x:ze P w H h a o)(k:∀b u,(b=a∨H b=some (.own a))→h.get? b=some u→h'.get? b=some u)
 (ho:∀b,H b=some (.own a)→H' b=some (.own a)) (ht:∀b xs,H b=some (.tup xs)→H' b=some (.tup xs)):ze P w H' h' a o:=by
 induction o with
 |lst xs=>obtain⟨z,its,n,r,e⟩:=x;exact⟨z,its,n,r,k _ _ (.inl rfl) e⟩
 |tup xs=>obtain⟨z,its,r,ob,e,c⟩:=x;exact⟨z,its,r,ob,k _ _ (.inl rfl) e,c⟩
 |dK kvs=>obtain⟨z,y,vs,r,ob,es,ep,e,c⟩:=x;exact⟨z,y,vs,r,ob,es,ep,k _ _ (.inl rfl) e,c⟩
 |dT kvs=>
  obtain⟨z,y,xs,r,ob,es,ep,e,c⟩:=x
  exact⟨z,y,xs,Paired.YR r fun p q z=>⟨z.1,ht _ _ z.2.1,z.2.2⟩,ob,es,ep,k _ _ (.inl rfl) e,c⟩
 |set S n=>obtain⟨ob,es,ep,t,e,c⟩:=x;exact⟨ob,es,ep,t,k _ _ (.inl rfl) e,c⟩
 |ins C dx fs=>
  obtain⟨d,z,ne,e,mA,⟨od,es,ep,e2,c⟩,r⟩:=x
  exact⟨ho _ d,z,ne,k _ _ (.inl rfl) e,mA,⟨od,es,ep,k _ _ (.inr d) e2,c⟩,r⟩
 |own y=>obtain⟨ob,e⟩:=x;exact⟨ob,k _ _ (.inl rfl) e⟩
 |xd fs=>obtain⟨mA,⟨od,es,ep,e,c⟩,r⟩:=x;exact⟨mA,⟨od,es,ep,k _ _ (.inl rfl) e,c⟩,r⟩
 |rng lo hi=>obtain⟨t,u,v,e⟩:=x;exact⟨t,u,v,k _ _ (.inl rfl) e⟩
 |frz ob u ih=>obtain⟨e,q⟩:=x;exact⟨k _ _ (.inl rfl) e,ih q⟩
 |tbl ps=>
  have e:h.get? a=some {cls:=.none,data:=.fields ps}:=x
  show h'.get? a=some {cls:=.none,data:=.fields ps}
  exact k a _ (.inl rfl) e
 |met f y=>
  have e:h.get? a=some (F2 (.ref f) (.ref y)):=x
  show h'.get? a=some (F2 (.ref f) (.ref y))
  exact k a _ (.inl rfl) e
 |ext φ=>obtain⟨p,⟨o,e⟩,st⟩:=x;exact⟨st _ _ p fun o q=>k _ _ (.inl rfl) q,⟨o,k _ _ (.inl rfl) e⟩,st⟩
theorem HOk.lt(x:HOk P w H h)(e:H a=some o):a<h.objs.size:=(x a o e).lt
theorem HOk.fresh(x:HOk P w H h)(e:h.objs.size≤a):H a=none:=by
 cases q:H a with
 |none=>rfl
 |some u=>exact absurd (AS (x.lt q) e) (CO _)
theorem HOk.kept(x:HOk P w H h)(k:∀b u,h.get? b=some u→h'.get? b=some u):HOk P w H h':=fun a o e=>
 (x a o e).iQ (fun b u _ q=>k b u q) (fun _ q=>q) fun _ _ q=>q
theorem HOk.laid(x:HOk P w H h)(k:∀b u,h.get? b=some u→h'.get? b=some u)(hp:h.objs.size≤a)(new:ze P w (upd H a o) h' a o):HOk P w (upd H a o) h':=fun b u e=>by
 have hn:=x.fresh hp
 by_cases hb:b=a
 . subst hb;rw[zd]at e;cases e;exact new
 . rw[zO hb]at e
   exact(x b u e).iQ (fun c v _ q=>k c v q) (fun c q=>by rw[zO (zU q hn)];exact q) fun c xs q=>by rw[zO (zU q hn)];exact q
end
def Rd(H:Hp)(a:Addr)(u:HO):Prop:=H a=some u∨∃o,H a=some (.frz o u)
theorem Rd.ok{P:Program}{w:World}{H:Hp}{h:Heap}{a:Addr}{u:HO}(r:Rd H a u)(x:HOk P w H h):ze P w H h a u:=by
 rcases r with r|⟨o,r⟩
 . exact x a u r
 . obtain⟨_,q⟩:=x a _ r
   exact q
noncomputable def Mut:Option HO→Prop
 |some (.lst _)=>True
 |some (.dK _)=>True
 |some (.dT _)=>True
 |some (.set _ _)=>True
 |some (.ins _ _ _)=>True
 |some (.ext _)=>True
 |_=>False
section
variable {P:Program}{w:World}{H:Hp}{h h':Heap}{x e:Addr}{o':HO}
theorem HOk.write(ok:HOk P w H h)(mu:Mut (H x))(he:e=x∨H e=some (.own x))(k:∀b u,b≠e→h.get? b=some u→h'.get? b=some u)(heo:∃u,h'.get? e=some u)
 (new:ze P w (upd H x o') h' x o'):HOk P w (upd H x o') h':=fun b u q=>by
 have nown:∀c y,H c=some (.own y)→c≠x:=fun c y r z=>by subst z;rw[r]at mu;exact mu
 have ntup:∀c xs,H c=some (.tup xs)→c≠x:=fun c xs r z=>by subst z;rw[r]at mu;exact mu
 by_cases hb:b=x
 . subst hb;rw[zd]at q;cases q;exact new
 . rw[zO hb]at q
   by_cases hbe:b=e
   . have q':H b=some (.own x):=by
      rcases he with z|z
      . exact absurd (hbe.trans z) hb
      . rw[hbe];exact z
     rw[q]at q';cases q'
     obtain⟨v,hv⟩:=heo
     exact⟨v,by rw[hbe];exact hv⟩
   . refine(ok b u q).iQ (fun c v hc r=>k c v ?_ r) (fun c r=>by rw[zO (nown c b r)];exact r) fun c xs r=>by rw[zO (ntup c xs r)];exact r
     rcases hc with rfl|hc
     . exact hbe
     . rintro rfl
       rcases he with z|z
       . exact nown c b hc z
       . rw[hc]at z;cases z;exact hb rfl
end
structure Un(fs ex:List Addr)(H H':Hp)(h h':Heap):Prop where
 keep:∀b o,h.get? b=some o→H b=none→b ∉ fs→b ∉ ex→h'.get? b=some o
 slot:∀b o,h.get? b=some o→H b=none→b∈fs→b ∉ ex→∃sl,h'.get? b=some {o with slots:=sl}
 free:∀b o,h.get? b=some o→H b=none→b ∉ ex→H' b=none
 there:∀b o,h.get? b=some o→b ∉ ex→∃o',h'.get? b=some o'
 rh:∀b xs,H b=some (.tup xs)→H' b=some (.tup xs)
 frzs:∀b o u,H b=some (.frz o u)→H' b=some (.frz o u)
 tbls:∀b ps,H b=some (.tbl ps)→∃more,H' b=some (.tbl (ps++more))
section
variable {fs fs' ex ex':List Addr}{H H1 H2:Hp}{h h1 h2 h':Heap}{a x e:Addr}{o:HO}
theorem Un.any(u:Un fs ex H H1 h h1){b:Addr}{ob:Obj}(q:h.get? b=some ob)(n:H b=none)(hx:b ∉ ex):∃sl,h1.get? b=some {ob with slots:=sl}:=by
 by_cases hb:b∈fs
 . exact u.slot b ob q n hb hx
 . exact⟨ob.slots,u.keep b ob q n hb hx⟩
theorem Un.kept(k:∀b u,h.get? b=some u→h'.get? b=some u):Un fs ex H H h h':=
 ⟨fun b ob q _ _ _=>k b ob q,fun b ob q _ _ _=>⟨ob.slots,k b ob q⟩,fun _ _ _ n _=>n,fun b ob q _=>⟨ob,k b ob q⟩,fun _ _ q=>q,fun _ _ _ q=>q,fun _ ps q=>⟨#[],by rw[q];simp⟩⟩
theorem Un.refl:Un fs ex H H h h:=Un.kept fun _ _ q=>q
theorem Un.laid(k:∀b u,h.get? b=some u→h'.get? b=some u)(hp:h.objs.size≤a)(hn:H a=none):Un fs ex H (upd H a o) h h' where
 keep:=fun b u q _ _ _=>k b u q
 slot:=fun b u q _ _ _=>⟨u.slots,k b u q⟩
 free:=fun b u q n _=>by rw[zO (AG (AS (Au q) hp))];exact n
 there:=fun b u q _=>⟨u,k b u q⟩
 rh:=fun b xs q=>by rw[zO (zU q hn)];exact q
 frzs:=fun b u xs q=>by rw[zO (zU q hn)];exact q
 tbls:=fun b ps q=>⟨#[],by rw[zO (zU q hn),q];simp⟩
theorem Un.write(mu:Mut (H x))(he:e=x∨H e=some (.own x))(k:∀b u,b≠e→h.get? b=some u→h'.get? b=some u)(heo:∃u,h'.get? e=some u):Un fs ex H (upd H x o) h h':=by
 have hx:∀b,H b=none→b≠x:=fun b n z=>by subst z;rw[n]at mu;exact mu
 have hb:∀b,H b=none→b≠e:=fun b n z=>by
  subst z
  rcases he with r|r
  . exact hx b n r
  . rw[n]at r;cases r
 have hm:∀b u,H b=some u→¬Mut (some u)→b≠x:=fun b u q nm z=>by subst z;rw[q]at mu;exact nm mu
 refine⟨fun b u q n _ _=>k b u (hb b n) q,fun b u q n _ _=>⟨u.slots,k b u (hb b n) q⟩,fun b u q n _=>by rw[zO (hx b n)];exact n,fun b u q _=>?_,
  fun b xs q=>by rw[zO (hm b _ q fun z=>z)];exact q,fun b u xs q=>by rw[zO (hm b _ q fun z=>z)];exact q,fun b ps q=>⟨#[],by rw[zO (hm b _ q fun z=>z),q];simp⟩⟩
 by_cases hbe:b=e
 . subst hbe;exact heo
 . exact⟨u,k b u hbe q⟩
end
noncomputable def trk(h:Heap)(H:Hp):List Addr:=(Ak h.objs.size).filter fun a=>(H a).isSome
noncomputable def pR(h:Heap)(H:Hp):Heap:=PySem.W.hideAll h (trk h H)
theorem jM(h:Heap)(H:Hp):(pR h H).objs.size=h.objs.size:=PySem.W.hideAll_size _ _
theorem gM{h:Heap}{H:Hp}{b:Addr}{o:Obj}(e:h.get? b=some o)(n:H b=none):(pR h H).get? b=some o:=
 PySem.W.hideAll_get _ e fun hm=>by
  have q:(H b).isSome=true:=(B7.mp hm).2
  rw[n]at q;simp at q
theorem cx{h:Heap}{H:Hp}{b:Addr}{o:Obj}(e:(pR h H).get? b=some o):h.get? b=some o∧H b=none:=by
 have e':h.get? b=some o:=PySem.W.of_hideAll (trk h H) e
 refine⟨e',?_⟩
 cases q:H b with
 |none=>rfl
 |some x=>
  have hm:b∈trk h H:=B7.mpr ⟨Ax.mpr (Au e'),by simp[q]⟩
  have z:(pR h H).get? b=none:=PySem.W.hideAll_none (trk h H) hm
  rw[z]at e;cases e
end L2
namespace L2
open PySem PySem.Spec PyProof.Rows
structure Mod(K:Av)(mg:Str→Option Value)(base:Heap):Prop where
 kin:K.In base
 glob:base.Ns A9 mg
 blt:∃mb,base.Ns builtinsNs mb∧∀x:Str,x≠"__name__"→mb x=CD x
 nolimit:base.NoLimit
structure Cx where
 prog:Program
 w:World
 K:Av
 mg:Str→Option Value
 base:Heap
 A:Around
 N:List Str
 s₀:Shared
 H₀:Hp
 env:Env
 outer:List Env
 stack:List Env
 ex:List Addr
 fn:Str→Bool
 calm:Bool
 pn:List (Addr × Obj)
 xe:Value→Shared→Prop
noncomputable def frs(l:List Env):List Addr:=l.filterMap (·.frame)
noncomputable abbrev Cx.fs(X:Cx):List Addr:=frs X.outer
def Vis(sc:Scope)(x:Str):Prop:=sc.names.lookup x=some .local∨sc.names.lookup x=some .cell∨sc.names.lookup x=some .free
def Loc(sc:Scope)(x:Str):Prop:=sc.names.lookup x=some .local∨sc.names.lookup x=some .cell
def Look(env:Env)(h:Heap)(m:Str→Option Value)(x:Str)(u:Value):Prop:=
 (env.kindOf x=some .local∧m x=some u)∨((env.kindOf x=some .cell∨env.kindOf x=some .free)∧∃c,env.cells.lookup x=some c∧h.IsCell c (some u))
structure Cx.Ok(X:Cx):Prop where
 mod:Mod X.K X.mg X.base
 kind:X.env.scope.kind=.function
 glob:X.env.globals=A9
 blt:X.env.builtins=builtinsNs
 above:X.s₀.heap.objs.size≤X.env.locals
 inj:∀x y c,X.env.cells.lookup x=some c→X.env.cells.lookup y=some c→x=y
 has:∀x,(X.env.kindOf x=some .cell∨X.env.kindOf x=some .free)→∃c,X.env.cells.lookup x=some c
 cab:∀x c,X.fn x=true→X.env.cells.lookup x=some c→X.s₀.heap.objs.size≤c
 hd:X.calm=true→X.A.handled=none
 frames:X.A.frames=some X.stack
 stk:X.stack=X.outer∨(X.stack=X.env::X.outer∧X.env.frame=some X.env.locals)
 exf:∀b∈X.ex,b≠X.env.locals∧∀x c,X.env.cells.lookup x=some c→c≠b
 bs:∀b o,X.base.get? b=some o→X.s₀.heap.get? b=some o∧X.H₀ b=none
 bsz:X.base.objs.size≤X.s₀.heap.objs.size
 noex:∀b o,X.base.get? b=some o→b ∉ X.ex
 exfs:∀b∈X.ex,b ∉ X.fs
 sY:X.s₀.heap.FunFrames X.base X.outer
 frf:∀b∈X.fs,X.H₀ b=none
structure Inv(X:Cx)(pins:List (Addr × Obj))(σ:List (Option V))(H:Hp)(s:Shared):Prop where
 ok:X.Ok
 os:s.os=X.s₀.os
 bare:AllBare s.gens
 base:Un X.fs X.ex X.H₀ H X.s₀.heap s.heap
 loc:∃m,s.heap.Ns X.env.locals m∧∀(i:Nat) (x:Str) (v:V),X.N[i]?=some x→σ[i]?=some (some v)→Vis X.env.scope x→∃u,RelV v u∧Look X.env s.heap m x u
 cell:∀x c,X.env.cells.lookup x=some c→∃v,s.heap.IsCell c v
 free:H X.env.locals=none
 freeC:∀x c,X.env.cells.lookup x=some c→H c=none
 pin:∀p∈X.pn++pins,s.heap.get? p.1=some p.2∧H p.1=none∧p.1≠X.env.locals∧p.1 ∉ X.fs∧∀v,p.2.data≠.cell v
 hok:HOk X.prog X.w H s.heap
 len:σ.length=X.N.length
section
variable {X:Cx}{pins:List (Addr × Obj)}{σ:List (Option V)}{H H':Hp}{s:Shared}{h':Heap}
theorem Cx.Ok.Vr(ok:X.Ok){b:Addr}{o:Obj}(e:X.base.get? b=some o):b ∉ X.fs:=fun hb=>by
 have:=(ok.sY.mem hb).1
 rw[e]at this;cases this
theorem Inv.bs(I:Inv X pins σ H s):∀b o,X.base.get? b=some o→s.heap.get? b=some o∧H b=none:=fun b o e=>
 ⟨I.base.keep b o (I.ok.bs b o e).1 (I.ok.bs b o e).2 (I.ok.Vr e) (I.ok.noex b o e),I.base.free b o (I.ok.bs b o e).1 (I.ok.bs b o e).2 (I.ok.noex b o e)⟩
theorem Inv.bk(I:Inv X pins σ H s):∀b o,X.base.get? b=some o→s.heap.get? b=some o:=fun b o e=>(I.bs b o e).1
theorem Inv.mod(I:Inv X pins σ H s):Mod X.K X.mg X.base:=I.ok.mod
theorem Inv.kIn(I:Inv X pins σ H s):X.K.In s.heap:=I.ok.mod.kin.keeps I.bk
theorem Inv.lt(I:Inv X pins σ H s):X.env.locals<s.heap.objs.size:=let ⟨_,hn,_⟩:=I.loc;hn.lt
theorem Inv.sz(I:Inv X pins σ H s):X.s₀.heap.objs.size≤s.heap.objs.size:=AB I.ok.above (DR I.lt)
theorem Inv.Vs(I:Inv X pins σ H s){a:Addr}(h:s.heap.objs.size≤a):a ∉ X.fs:=fun hb=>by
 obtain⟨_,o,ho,_⟩:=I.ok.sY.mem hb
 exact absurd (AS (Au ho) (AB I.sz h)) (CO _)
theorem Inv.cne(I:Inv X pins σ H s):∀x c,X.env.cells.lookup x=some c→c≠X.env.locals:=fun x c e z=>by
 obtain⟨v,o,ho,hd⟩:=I.cell x c e
 obtain⟨m,⟨o',es,ep,ho',hd',_⟩,_⟩:=I.loc
 rw[z,ho']at ho;cases ho;rw[hd']at hd;cases hd
theorem Inv.sY(I:Inv X pins σ H s):s.heap.FunFrames X.base X.outer:=by
 have all:∀(l:List Env),(∀b∈frs l,b∈X.fs)→X.s₀.heap.FunFrames X.base l→s.heap.FunFrames X.base l:=by
  intro l
  induction l with
  |nil=>intro _ _;trivial
  |cons env r ih=>
   intro hs hl
   obtain⟨hk,⟨L,o,hf,hn,ho,hd⟩,hr⟩:=hl
   have hL:L∈X.fs:=hs L (by unfold frs;rw[A2,hf];exact AY)
   obtain⟨sl,e⟩:=I.base.slot L o ho (I.ok.frf L hL) hL fun z=>I.ok.exfs L z hL
   exact⟨hk,⟨L,_,hf,hn,e,hd⟩,ih (fun b hb=>hs b (by unfold frs;rw[A2,hf];exact AJ _ hb)) hr⟩
 exact all X.outer (fun _ hb=>hb) I.ok.sY
theorem Inv.stack(I:Inv X pins σ H s):s.heap.FunFrames X.base X.stack:=by
 rcases I.ok.stk with e|⟨e,hf⟩
 . rw[e];exact I.sY
 . rw[e]
   obtain⟨m,hn,_⟩:=I.loc
   refine .cons (by rw[I.ok.kind];decide) hf hn ?_ I.sY
   exact Heap.get?_none_of_le (AB I.ok.bsz I.ok.above)
theorem Inv.lB(I:Inv X pins σ H s):∀b∈frs X.stack,b∈X.env.locals::X.fs:=fun b hb=>by
 rcases I.ok.stk with e|⟨e,hf⟩
 . rw[e]at hb;exact AJ _ hb
 . rw[e]at hb
   unfold frs at hb
   rw[A2,hf]at hb
   exact hb
theorem Inv.ka(I:Inv X pins σ H s):∀b∈frs X.stack,H b=none:=fun b hb=>by
 rcases AF.mp (I.lB b hb) with e|hb
 . rw[e];exact I.free
 . obtain⟨_,o,ho,_⟩:=I.ok.sY.mem hb
   exact I.base.free b o ho (I.ok.frf b hb) fun z=>I.ok.exfs b z hb
theorem Inv.step{g':Array GenState}{t':Nat}{d':Drawn}{ch:List Addr}(I:Inv X pins σ H s)
 (hch:∀b∈ch,(b∈X.ex∨X.s₀.heap.objs.size≤b)∧b≠X.env.locals∧(∀x c,X.env.cells.lookup x=some c→c≠b)∧∀p∈X.pn++pins,p.1≠b)
 (keep:∀b o,b≠X.env.locals→b ∉ X.fs→b ∉ ch→s.heap.get? b=some o→H b=none→h'.get? b=some o)
 (slot:∀b o,b≠X.env.locals→b∈X.fs→b ∉ ch→s.heap.get? b=some o→H b=none→∃sl,h'.get? b=some {o with slots:=sl}) (free:∀b o,b ∉ ch→s.heap.get? b=some o→H b=none→H' b=none)
 (there:∀b o,b ∉ ch→s.heap.get? b=some o→∃o',h'.get? b=some o')
 (rh:∀b xs,H b=some (.tup xs)→H' b=some (.tup xs)) (frzs:∀b o u,H b=some (.frz o u)→H' b=some (.frz o u)) (tbls:∀b ps,H b=some (.tbl ps)→∃more,H' b=some (.tbl (ps++more)))
 (ns:∀m,s.heap.Ns X.env.locals m→h'.Ns X.env.locals m) (hok:HOk X.prog X.w H' h') (hg:AllBare g') :
 Inv X pins σ H' {s with heap:=h',gens:=g',drawn:=d',toks:=t'}:=by
 have neL:∀b o,X.s₀.heap.get? b=some o→b≠X.env.locals:=fun b o e=>AG (AS (Au e) I.ok.above)
 have neC:∀b o,X.s₀.heap.get? b=some o→b ∉ X.ex→b ∉ ch:=fun b o e hx hb=>by
  rcases (hch b hb).1 with z|z
  . exact hx z
  . exact absurd (AS (Au e) z) (CO _)
 have cellK:∀x c,X.env.cells.lookup x=some c→∀v,s.heap.IsCell c v→h'.IsCell c v:=fun x c e v ⟨o,ho,hd⟩=>by
  have nch:c ∉ ch:=fun z=>(hch c z).2.2.1 x c e rfl
  by_cases hc:c∈X.fs
  . obtain⟨sl,q⟩:=slot c o (I.cne x c e) hc nch ho (I.freeC x c e)
    exact⟨_,q,hd⟩
  . exact⟨o,keep c o (I.cne x c e) hc nch ho (I.freeC x c e),hd⟩
 refine⟨I.ok,I.os,hg,⟨fun b o e n hb hx=>?_,fun b o e n hb hx=>?_,fun b o e n hx=>?_,fun b o e hx=>?_,fun b xs e=>rh b xs (I.base.rh b xs e),fun b o xs e=>frzs b o xs (I.base.frzs b o xs e),fun b ps e=>?_⟩,?_,fun x c e=>?_,?_,fun x c e=>?_,fun p hp=>?_,hok,I.len⟩
 . exact keep b o (neL b o e) hb (neC b o e hx) (I.base.keep b o e n hb hx) (I.base.free b o e n hx)
 . obtain⟨sl,e1⟩:=I.base.slot b o e n hb hx
   obtain⟨sl',e2⟩:=slot b _ (neL b o e) hb (neC b o e hx) e1 (I.base.free b o e n hx)
   exact⟨sl',e2⟩
 . obtain⟨o',e1⟩:=I.base.there b o e hx
   exact free b o' (neC b o e hx) e1 (I.base.free b o e n hx)
 . obtain⟨o',e1⟩:=I.base.there b o e hx
   exact there b o' (neC b o e hx) e1
 . obtain⟨m1,e1⟩:=I.base.tbls b ps e
   obtain⟨m2,e2⟩:=tbls b _ e1
   exact⟨m1++m2,by rw[e2,Array.append_assoc]⟩
 . obtain⟨m,hn,hl⟩:=I.loc
   refine⟨m,ns m hn,fun i x v e1 e2 e3=>?_⟩
   obtain⟨u,r,l⟩:=hl i x v e1 e2 e3
   refine⟨u,r,?_⟩
   rcases l with l|⟨k,c,e,z⟩
   . exact .inl l
   . exact .inr ⟨k,c,e,cellK x c e _ z⟩
 . obtain⟨v,z⟩:=I.cell x c e
   exact⟨v,cellK x c e v z⟩
 . obtain⟨m,⟨o,_,_,ho,_⟩,_⟩:=I.loc
   exact free _ o (fun z=>(hch _ z).2.1 rfl) ho I.free
 . obtain⟨v,o,ho,hd⟩:=I.cell x c e
   exact free c o (fun z=>(hch c z).2.2.1 x c e rfl) ho (I.freeC x c e)
 . obtain⟨e,n,ne,nf,d⟩:=I.pin p hp
   have nch:p.1 ∉ ch:=fun z=>(hch p.1 z).2.2.2 p hp rfl
   exact⟨keep p.1 p.2 ne nf nch e n,free p.1 p.2 nch e n,ne,nf,d⟩
theorem Inv.un{t':Nat}(I:Inv X pins σ H s)(u:Un X.fs [] H H' s.heap h')(hok:HOk X.prog X.w H' h'):Inv X pins σ H' {s with heap:=h',toks:=t'}:=by
 obtain⟨m,⟨o,es,ep,ho,r⟩,_⟩:=id I.loc
 obtain⟨sl,hL⟩:=u.any ho I.free (by simp)
 exact I.step (g':=s.gens) (d':=s.drawn) (ch:=[]) (fun _ z=>nomatch z) (fun b o _ hb _ e n=>u.keep b o e n hb (by simp)) (fun b o _ hb _ e n=>u.slot b o e n hb (by simp)) (fun b o _ e n=>u.free b o e n (by simp)) (fun b o _ e=>u.there b o e (by simp)) u.rh u.frzs u.tbls (fun m' hm=>by
  obtain⟨o',es',ep',ho',r'⟩:=hm
  rw[ho]at ho';cases ho'
  exact⟨_,es',ep',hL,r'⟩) hok I.bare
theorem Inv.call{g':Array GenState}{t':Nat}{d':Drawn}{ch:List Addr}(I:Inv X pins σ H s)(u:Un (frs X.stack) ch H H' s.heap h')(hok:HOk X.prog X.w H' h')(hg:AllBare g')
 (hch:∀b∈ch,(b∈X.ex∨X.s₀.heap.objs.size≤b)∧b≠X.env.locals∧(∀x c,X.env.cells.lookup x=some c→c≠b)∧∀p∈X.pn++pins,p.1≠b) :
 Inv X pins σ H' {s with heap:=h',gens:=g',drawn:=d',toks:=t'}:=by
 obtain⟨m,⟨o,es,ep,ho,r⟩,_⟩:=id I.loc
 obtain⟨sl,hL⟩:=u.any ho I.free fun z=>(hch _ z).2.1 rfl
 exact I.step (ch:=ch) hch (fun b o hL hb hc e n=>u.keep b o e n (fun z=>(AF.mp (I.lB b z)).elim hL hb) hc) (fun b o _ _ hc e n=>u.any e n hc) (fun b o hc e n=>u.free b o e n hc) (fun b o hc e=>u.there b o e hc) u.rh u.frzs u.tbls (fun m' hm=>by
  obtain⟨o',es',ep',ho',r'⟩:=hm
  rw[ho]at ho';cases ho'
  exact⟨_,es',ep',hL,r'⟩) hok hg
theorem Inv.turned{t':Nat}{it:Addr}(I:Inv X pins σ H s)(k:∀b o,b≠it→s.heap.get? b=some o→h'.get? b=some o)(hn:H it=none)(hL:it≠X.env.locals)
 (h1:it∈X.ex∨X.s₀.heap.objs.size≤it) (h2:∀x c,X.env.cells.lookup x=some c→c≠it) (h3:∀p∈X.pn++pins,p.1≠it):Inv X pins σ H {s with heap:=h',toks:=t'}:=by
 have nit:∀b u,H b=some u→b≠it:=fun b u e z=>by rw[z,hn]at e;cases e
 refine I.step (g':=s.gens) (d':=s.drawn) (ch:=[it]) (fun b hb=>?_) (fun b o _ _ hc e _=>k b o (fun z=>hc (by simp[z])) e) (fun b o _ _ hc e _=>⟨o.slots,k b o (fun z=>hc (by simp[z])) e⟩) (fun _ _ _ _ n=>n)
  (fun b o hc e=>⟨o,k b o (fun z=>hc (by simp[z])) e⟩) (fun _ _ e=>e) (fun _ _ _ e=>e) (fun b ps e=>⟨#[],by rw[e];simp⟩) (fun m hm=>?_) (fun b u e=>?_) I.bare
 . have e:b=it:=by simpa using hb
   subst e
   exact⟨h1,hL,h2,h3⟩
 . obtain⟨o,es,ep,ho,r⟩:=hm
   exact⟨o,es,ep,k _ o (BZ hL) ho,r⟩
 . refine(I.hok b u e).iQ (fun c v hc q=>k c v ?_ q) (fun _ q=>q) fun _ _ q=>q
   rcases hc with z|z
   . rw[z];exact nit b u e
   . exact nit c _ z
theorem Inv.tok(I:Inv X pins σ H s)(t:Nat):Inv X pins σ H {s with toks:=t}:=I.un (h':=s.heap) (t':=t) Un.refl I.hok
theorem Inv.kept{t':Nat}(I:Inv X pins σ H s)(k:∀b u,s.heap.get? b=some u→h'.get? b=some u):Inv X pins σ H {s with heap:=h',toks:=t'}:=I.un (Un.kept k) (I.hok.kept k)
theorem Inv.laid{a:Addr}{o:HO}{t':Nat}(I:Inv X pins σ H s)(k:∀b u,s.heap.get? b=some u→h'.get? b=some u)(hp:s.heap.objs.size≤a)(new:ze X.prog X.w (upd H a o) h' a o) :
 Inv X pins σ (upd H a o) {s with heap:=h',toks:=t'}:=I.un (Un.laid k hp (I.hok.fresh hp)) (I.hok.laid k hp new)
theorem Inv.write{x e:Addr}{o:HO}{t':Nat}(I:Inv X pins σ H s)(mu:Mut (H x))(he:e=x∨H e=some (.own x))(k:∀b u,b≠e→s.heap.get? b=some u→h'.get? b=some u)(heo:∃u,h'.get? e=some u)
 (new:ze X.prog X.w (upd H x o) h' x o):Inv X pins σ (upd H x o) {s with heap:=h',toks:=t'}:=I.un (Un.write mu he k heo) (I.hok.write mu he k heo new)
theorem Inv.kU{pins':List (Addr × Obj)}(I:Inv X pins σ H s)(h:∀p∈pins',s.heap.get? p.1=some p.2∧H p.1=none∧p.1≠X.env.locals∧p.1 ∉ X.fs∧∀v,p.2.data≠.cell v):Inv X pins' σ H s:=
 ⟨I.ok,I.os,I.bare,I.base,I.loc,I.cell,I.free,I.freeC,fun p hp=>(A3.mp hp).elim (fun z=>I.pin p (BC _ z)) (h p),I.hok,I.len⟩
theorem nE{N:List Str}(hN:N.Nodup){i j:Nat}{x:Str}(a:N[i]?=some x)(b:N[j]?=some x):i=j:=by
 obtain⟨h1,e1⟩:=Ap.mp a
 obtain⟨h2,e2⟩:=Ap.mp b
 exact(Gf hN).mp (e1.trans e2.symm)
theorem qr{M:Model}{A:Around}{E:Value→Shared→Prop}{i:Nat}{x:Str}{v:V}{u:Value}{Q:Unit→Shared→Prop}(I:Inv X pins σ H s)(hN:X.N.Nodup)(hi:X.N[i]?=some x)(hx:Loc X.env.scope x)(r:RelV v u)
 (h:∀s',Inv X pins (σ.set i (some v)) H s'→(∃a,Heap.SameBut a s.heap s'.heap∧(a=X.env.locals∨X.env.cells.lookup x=some a))→Q () s') (hf:X.fn x=true∨X.env.scope.names.lookup x=some .local:=by first|exact .inl rfl|exact .inr rfl|assumption):wpAny M A (storeName X.env x u) Q E s:=by
 obtain⟨m,hn,hl⟩:=id I.loc
 have hcls:(X.env.scope.kind == .class||(X.env.scope.kind == .module&&X.env.locals != X.env.globals))=false:=by rw[I.ok.kind];rfl
 have hiσ:i<σ.length:=by rw[I.len];exact(Ap.mp hi).1
 have cne:=I.cne
 have tracked:∀{a:Addr} {h':Heap},(∃o,s.heap.get? a=some o∧H a=none)→Heap.SameBut a s.heap h'→HOk X.prog X.w H h':=fun{a h'} ha hs b ob e=>by
  obtain⟨_,_,hfree⟩:=ha
  refine(I.hok b ob e).iQ (fun c w' hc q=>(hs.2 c ?_).trans q) (fun _ q=>q) fun _ _ q=>q
  rintro rfl
  rcases hc with rfl|hc
  . rw[hfree]at e;cases e
  . rw[hfree]at hc;cases hc
 rcases hx with hk|hk
 . refine wpAny_storeName_local hk hn (fun h' hn' hs=>?_) hcls
   obtain⟨oL,_,_,hoL,_⟩:=id hn
   refine h _ ⟨I.ok,I.os,I.bare,⟨fun b o e n hb hx=>?_,fun b o e n hb hx=>?_,I.base.free,fun b o e hx=>?_,I.base.rh,I.base.frzs,I.base.tbls⟩,⟨_,hn',fun j y v' e1 e2 e3=>?_⟩,fun y c e=>?_,I.free,I.freeC,fun p hp=>?_,tracked ⟨oL,hoL,I.free⟩ hs,by simpa using I.len⟩ ⟨_,hs,.inl rfl⟩
   . exact(hs.2 b (AG (AS (Au e) I.ok.above))).trans (I.base.keep b o e n hb hx)
   . obtain⟨sl,e1⟩:=I.base.slot b o e n hb hx
     exact⟨sl,(hs.2 b (AG (AS (Au e) I.ok.above))).trans e1⟩
   . obtain⟨o',e1⟩:=I.base.there b o e hx
     exact⟨o',(hs.2 b (AG (AS (Au e) I.ok.above))).trans e1⟩
   . by_cases hj:j=i
     . subst hj
       rw[hi]at e1;cases e1
       rw[Bo hiσ]at e2
       cases e2
       exact⟨u,r,.inl ⟨hk,by simp⟩⟩
     . rw[Ci (BZ hj)]at e2
       obtain⟨u',r',q⟩:=hl j y v' e1 e2 e3
       refine⟨u',r',?_⟩
       rcases q with⟨k,e⟩|⟨k,c,e,z⟩
       . refine .inl ⟨k,?_⟩
         have:y≠x:=fun e=>hj (nE hN e1 (e▸hi))
         simp[this,e]
       . exact .inr ⟨k,c,e,z.sameBut hs (cne y c e)⟩
   . obtain⟨w',z⟩:=I.cell y c e
     exact⟨w',z.sameBut hs (cne y c e)⟩
   . obtain⟨e,n,ne,nf,d⟩:=I.pin p hp
     exact⟨(hs.2 p.1 ne).trans e,n,ne,nf,d⟩
 . have hfn:X.fn x=true:=by
    rcases hf with z|z
    . exact z
    . rw[z]at hk;cases hk
   obtain⟨c,hc⟩:=I.ok.has x (.inl hk)
   obtain⟨w',z⟩:=I.cell x c hc
   refine wpAny_storeName_cell I.ok.kind hk hc z (fun h' hc' hs=>?_)
   obtain⟨oc,hoc,hocd⟩:=id z
   refine h {s with heap:=h'} ⟨I.ok,I.os,I.bare,⟨fun b o e n hb hx=>?_,fun b o e n hb hx=>?_,I.base.free,fun b o e hx=>?_,I.base.rh,I.base.frzs,I.base.tbls⟩,⟨m,hn.sameBut hs (BZ (cne x c hc)),fun j y v' e1 e2 e3=>?_⟩,fun y c' e=>?_,I.free,I.freeC,fun p hp=>?_,tracked ⟨oc,hoc,I.freeC x c hc⟩ hs,by simpa using I.len⟩ ⟨c,hs,.inr hc⟩
   . exact(hs.2 b (AG (AS (Au e) (I.ok.cab x c hfn hc)))).trans (I.base.keep b o e n hb hx)
   . obtain⟨sl,e1⟩:=I.base.slot b o e n hb hx
     exact⟨sl,(hs.2 b (AG (AS (Au e) (I.ok.cab x c hfn hc)))).trans e1⟩
   . obtain⟨o',e1⟩:=I.base.there b o e hx
     exact⟨o',(hs.2 b (AG (AS (Au e) (I.ok.cab x c hfn hc)))).trans e1⟩
   . by_cases hj:j=i
     . subst hj
       rw[hi]at e1;cases e1
       rw[Bo hiσ]at e2
       cases e2
       exact⟨u,r,.inr ⟨.inl hk,c,hc,hc'⟩⟩
     . rw[Ci (BZ hj)]at e2
       obtain⟨u',r',q⟩:=hl j y v' e1 e2 e3
       refine⟨u',r',?_⟩
       rcases q with q|⟨k,c',e,z'⟩
       . exact .inl q
       . refine .inr ⟨k,c',e,z'.sameBut hs ?_⟩
         rintro rfl
         exact hj (nE hN e1 (I.ok.inj _ _ _ e hc▸hi))
   . by_cases hcc:c'=c
     . subst hcc;exact⟨_,hc'⟩
     . obtain⟨w2,z2⟩:=I.cell y c' e
       exact⟨w2,z2.sameBut hs hcc⟩
   . obtain⟨e,n,ne,nf,d⟩:=I.pin p hp
     refine⟨(hs.2 p.1 ?_).trans e,n,ne,nf,d⟩
     intro q
     rw[q,hoc]at e
     have q':oc=p.2:=AO e
     exact d w' (by rw[←q'];exact hocd)
theorem xX{M:Model}{A:Around}{E:Value→Shared→Prop}{i:Nat}{x:Str}{v:V}{u:Value}{Q:Unit→Shared→Prop}(I:Inv X pins σ H s)(hN:X.N.Nodup)(hi:X.N[i]?=some x)(hx:Loc X.env.scope x)(r:RelV v u)
 (h:∀s',Inv X pins (σ.set i (some v)) H s'→Q () s') (hf:X.fn x=true∨X.env.scope.names.lookup x=some .local:=by first|exact .inl rfl|exact .inr rfl|assumption):wpAny M A (storeName X.env x u) Q E s:=
 qr I hN hi hx r (fun s' I' _=>h s' I') hf
theorem Inv.Xx{s':Shared}{ch:List Addr}(I:Inv X pins σ H s)(ho:s'.os=s.os)(u:Un (frs X.stack) ch H H' s.heap s'.heap)(hok:HOk X.prog X.w H' s'.heap)(hg:AllBare s'.gens)
 (hch:∀b∈ch,(b∈X.ex∨X.s₀.heap.objs.size≤b)∧b≠X.env.locals∧(∀x c,X.env.cells.lookup x=some c→c≠b)∧∀p∈X.pn++pins,p.1≠b):Inv X pins σ H' s':=by
 obtain⟨h',g',d',t',o'⟩:=s'
 have e:o'=s.os:=ho
 subst e
 exact I.call (g':=g') (t':=t') (d':=d') u hok hg hch
end
noncomputable abbrev XK:=Value→Option Addr→Hp→Prop
noncomputable abbrev St:=List (Option V)
noncomputable abbrev VK:=V→Hp→Prop
noncomputable abbrev TE:=St→Hp→VK→Prop
noncomputable abbrev TT:=St→Hp→(Bool→Hp→Prop)→Prop
noncomputable abbrev TA:=St→Hp→(List V→Hp→Prop)→Prop
structure Ends where
 nx:St→Hp→Prop
 rt:VK
 bk:St→Hp→Prop:=fun _ _=>False
 ct:St→Hp→Prop:=fun _ _=>False
noncomputable abbrev TS:=Ends→St→Hp→Prop
def EP(X:Cx)(pins:List (Addr × Obj))(σ:St)(Q:VK)(u:Value)(s':Shared):Prop:=∃v H',Inv X pins σ H' s'∧RelV v u∧Q v H'
def TP(X:Cx)(pins:List (Addr × Obj))(σ:St)(Q:Bool→Hp→Prop)(b:Bool)(s':Shared):Prop:=∃H',Inv X pins σ H' s'∧Q b H'
def AP(X:Cx)(pins:List (Addr × Obj))(σ:St)(Q:List V→Hp→Prop)(us:List Value)(s':Shared):Prop:=∃vs H',Inv X pins σ H' s'∧Vals vs us∧Q vs H'
def SP(X:Cx)(pins:List (Addr × Obj))(D:Ends)(f:Flow)(s':Shared):Prop:=
 match f with
 |.next=>∃σ' H',Inv X pins σ' H' s'∧D.nx σ' H'
 |.brk=>∃σ' H',Inv X pins σ' H' s'∧D.bk σ' H'
 |.cont=>∃σ' H',Inv X pins σ' H' s'∧D.ct σ' H'
 |.ret u=>∃v σ' H',Inv X pins σ' H' s'∧RelV v u∧D.rt v H'
def PE(X:Cx)(e:Expr)(t:TE):Prop:=
 ∀(pins:List (Addr × Obj)) (s:Shared) (σ:St) (H:Hp) (Q:VK),Inv X pins σ H s→t σ H Q→wpAny (model X.prog X.w) X.A (eval e X.env) (EP X pins σ Q) X.xe s
def PT(X:Cx)(e:Expr)(t:TT):Prop:=
 ∀(pins:List (Addr × Obj)) (s:Shared) (σ:St) (H:Hp) (Q:Bool→Hp→Prop),Inv X pins σ H s→t σ H Q→wpAny (model X.prog X.w) X.A (isTrue e X.env (eval e X.env)) (TP X pins σ Q) X.xe s
def PW(X:Cx)(e:Expr)(t:TT):Prop:=
 ∀(whole:Sem Value) (pins:List (Addr × Obj)) (s:Shared) (σ:St) (H:Hp) (Q:Bool→Hp→Prop),Inv X pins σ H s→t σ H Q→wpAny (model X.prog X.w) X.A (isTrue e X.env whole) (TP X pins σ Q) X.xe s
theorem PW.pt{X:Cx}{e:Expr}{t:TT}(h:PW X e t):PT X e t:=h _
def PA(X:Cx)(es:List Expr)(t:TA):Prop:=
 ∀(pos:Pos) (pins:List (Addr × Obj)) (s:Shared) (σ:St) (H:Hp) (Q:List V→Hp→Prop),Inv X pins σ H s→t σ H Q→wpAny (model X.prog X.w) X.A (spliced (backTo pos (AR es X.env))) (AP X pins σ Q) X.xe s
def PS(X:Cx)(st:Stmt)(t:TS):Prop:=
 ∀(pins:List (Addr × Obj)) (s:Shared) (σ:St) (H:Hp) (D:Ends),Inv X pins σ H s→t D σ H→wpAny (model X.prog X.w) X.A (exec st X.env) (SP X pins D) X.xe s
def PSs(X:Cx)(st:List Stmt)(t:TS):Prop:=
 ∀(pins:List (Addr × Obj)) (s:Shared) (σ:St) (H:Hp) (D:Ends),Inv X pins σ H s→t D σ H→wpAny (model X.prog X.w) X.A (execs st X.env) (SP X pins D) X.xe s
theorem thn{α:Type}{t:Sem α}{Q Q':α→Shared→Prop}{M:Model}{A:Around}{E:Value→Shared→Prop}{s:Shared}(h:wpAny M A t Q E s)(hQ:∀a s,Q a s→Q' a s):wpAny M A t Q' E s:=Cu h hQ fun _ _ x=>x
end L2
namespace L2
open PySem PySem.Spec PyProof.Rows
section
variable {X:Cx}
theorem bin{a b:Expr}{ta tb:TE}(ha:PE X a ta)(hb:PE X b tb){pins:List (Addr × Obj)}{s:Shared}{σ:St}{H:Hp}{R:V→V→Hp→Prop}(I:Inv X pins σ H s)(h:ta σ H fun x H1=>tb σ H1 fun y H2=>R x y H2)
 {α:Type} {Q:α→Shared→Prop} {f:Value→Value→Sem α}
 (hf:∀v u s2 x y H2,Inv X pins σ H2 s2→RelV x v→RelV y u→R x y H2→wpAny (model X.prog X.w) X.A (f v u) Q X.xe s2) :
 wpAny (model X.prog X.w) X.A (eval a X.env) (fun v s₁=>wpAny (model X.prog X.w) X.A (eval b X.env) (fun u s₂=>wpAny (model X.prog X.w) X.A (f v u) Q X.xe s₂) X.xe s₁) X.xe s:=by
 refine thn (ha pins s σ H _ I h) fun v s1 ⟨x,H1,I1,r1,q1⟩=>?_
 refine thn (hb pins s1 σ H1 _ I1 q1) fun u s2 ⟨y,H2,I2,r2,q2⟩=>?_
 exact hf v u s2 x y H2 I2 r1 r2 q2
noncomputable def UD(i:Nat):TE:=fun σ H Q=>∃v,σ[i]?=some (some v)∧Q v H
noncomputable def tC(v:V):TE:=fun _ H Q=>Q v H
theorem Y1{i:Nat}{x:Str}{pos:Pos}(hN:X.N[i]?=some x)(hv:Vis X.env.scope x)(hd:(x == ("__debug__":Str))=false:=by decide)(hcd:(x == ("__classdict__":Str))=false:=by decide):PE X (.Name x pos) (UD i):=by
 intro pins s σ H Q I h
 obtain⟨v,e,h⟩:=h
 obtain⟨m,hn,hl⟩:=I.loc
 obtain⟨u,r,l⟩:=hl i x v hN e hv
 have fin:EP X pins σ Q u s:=⟨v,H,I,r,h⟩
 rcases l with⟨hk,hm⟩|⟨hk,c,hc,hcell⟩
 . exact wpAny_Name (wpAny_loadName_local I.ok.kind hk hn hm fin) hd
 . rcases hk with hk|hk
   . exact wpAny_Name (wpAny_loadName_cell I.ok.kind hk hc hcell fin) hd
   . exact wpAny_Name (wpAny_loadName_free I.ok.kind hk hc hcell fin hcd) hd
theorem Yu{i j pos}:PE X (.Constant (.int i) j pos) (tC (.int i)):=fun _ _ _ H _ I h=>wpAny_Constant_int ⟨.int i,H,I.tok _,⟨_,rfl⟩,h⟩
theorem Wt{b j pos}:PE X (.Constant (.bool b) j pos) (tC (.bl b)):=fun _ _ _ H _ I h=>Constant_bool ⟨.bl b,H,I,rfl,h⟩
theorem Yw{j pos}:PE X (.Constant .none j pos) (tC .non):=fun _ _ _ H _ I h=>Constant_none ⟨.non,H,I,rfl,h⟩
theorem Yz{x j pos}:PE X (.Constant (.str x) j pos) (tC (.str x)):=fun _ _ _ H _ I h=>Calls.Constant_str ⟨.str x,H,I.tok _,⟨_,rfl⟩,h⟩
def Gl(X:Cx)(x:Str):Prop:=X.env.kindOf x=some .globalImplicit
theorem pW{E:Value→Shared→Prop}{pins:List (Addr × Obj)}{s:Shared}{σ:St}{H:Hp}{x:Str}{u:Value}{pos:Pos}{Q:Value→Shared→Prop}(I:Inv X pins σ H s)(hg:Gl X x)(hm:X.mg x=some u)(h:Q u s)
 (hd:(x == ("__debug__":Str))=false:=by decide):wpAny (model X.prog X.w) X.A (eval (.Name x pos) X.env) Q E s:=
 FR I.ok.kind hg (Calls.loadGlobal_global (by rw[I.ok.glob];exact I.mod.glob.keeps I.bk) hm h) hd
theorem u6{E:Value→Shared→Prop}{pins:List (Addr × Obj)}{s:Shared}{σ:St}{H:Hp}{x:Str}{u:Value}{pos:Pos}{Q:Value→Shared→Prop}(I:Inv X pins σ H s)(hg:Gl X x)(hm:X.mg x=none)(hv:CD x=some u)(h:Q u s)
 (hn:x≠"__name__":=by decide) (hd:(x == ("__debug__":Str))=false:=by decide):wpAny (model X.prog X.w) X.A (eval (.Name x pos) X.env) Q E s:=by
 obtain⟨mb,h1,h2⟩:=I.mod.blt
 exact FR I.ok.kind hg (Calls.loadGlobal_builtin (by rw[I.ok.glob];exact I.mod.glob.keeps I.bk) hm (by rw[I.ok.blt];exact h1.keeps I.bk) ((h2 x hn).trans hv) h) hd
theorem bR{x:Str}{v:V}{u:Value}{pos:Pos}(hg:Gl X x)(hm:X.mg x=some u)(r:RelV v u)(hd:(x == ("__debug__":Str))=false:=by decide):PE X (.Name x pos) (tC v):=
 fun _ _ _ H _ I h=>pW I hg hm ⟨v,H,I,r,h⟩ hd
theorem bN{x:Str}{v:V}{u:Value}{pos:Pos}(hg:Gl X x)(hm:X.mg x=none)(hv:CD x=some u)(r:RelV v u)(hn:x≠"__name__":=by decide)(hd:(x == ("__debug__":Str))=false:=by decide):PE X (.Name x pos) (tC v):=
 fun _ _ _ H _ I h=>u6 I hg hm hv ⟨v,H,I,r,h⟩ hn hd
variable {a b:Expr}{ta tb:TE}{pos:Pos}
variable {tA tB':TT}{rest:List Expr}
noncomputable def V8(t:TT):TT:=fun σ H Q=>t σ H fun c H1=>Q (!c) H1
theorem Y8(ha:PT X a tA):PT X (.UnaryOp .Not a pos) (V8 tA):=by
 intro pins s σ H Q I h
 exact isTrue_not (ha pins s σ H (fun c H1=>Q (!c) H1) I h)
noncomputable def VO(ta tb:TE):TE:=fun σ H Q=>ta σ H fun x H1=>∃c,x=.bl c∧if c=true then tb σ H1 Q else Q (.bl false) H1
noncomputable def VT(ta:TE):TE:=fun σ H Q=>ta σ H fun x H1=>∃c,x=.bl c∧Q (.bl (!c)) H1
theorem mj{op}{t:TE}(h:PE X a t):PE X (.BoolOp op [a] pos) t:=fun pins s σ H Q I hw=>BoolOp_one (h pins s σ H Q I hw)
theorem Yt(ha:PE X a ta)(hb:PE X (.BoolOp .And (b::rest) pos) tb):PE X (.BoolOp .And (a::b::rest) pos) (VO ta tb):=by
 intro pins s σ H Q I h
 refine BoolOp_and (thn (ha pins s σ H _ I h) fun v s1 ⟨x,H1,I1,r1,q1⟩=>?_)
 obtain⟨c,rfl,q1⟩:=q1
 cases r1
 refine B4 ?_
 cases c with
 |true=>exact hb pins s1 σ H1 Q I1 q1
 |false=>exact⟨.bl false,H1,I1,rfl,q1⟩
theorem Yx(ha:PE X a ta):PE X (.UnaryOp .Not a pos) (VT ta):=by
 intro pins s σ H Q I h
 refine UnaryOp_ (thn (ha pins s σ H _ I h) fun v s1 ⟨x,H1,I1,r1,q1⟩=>?_)
 obtain⟨c,rfl,q1⟩:=q1
 cases r1
 exact not_of (B4 ⟨.bl (!c),H1,I1,rfl,q1⟩)
noncomputable def tIf(t:TT)(ta tb:TE):TE:=fun σ H Q=>t σ H fun c H1=>if c=true then ta σ H1 Q else tb σ H1 Q
theorem fe{c:Expr}(hc:PT X c tA)(ha:PE X a ta)(hb:PE X b tb):PE X (.IfExp c a b pos) (tIf tA ta tb):=by
 intro pins s σ H Q I h
 refine wpAny_IfExp (thn (hc pins s σ H _ I h) fun d s1 ⟨H1,I1,q1⟩=>?_)
 cases d with
 |true=>exact ha pins s1 σ H1 Q I1 q1
 |false=>exact hb pins s1 σ H1 Q I1 q1
end
end L2
namespace L2
open PySem PySem.Spec PyProof.Rows
def SqL(K:Av)(H:Hp)(a:Addr)(xs:List V):Prop:=
 Rd H a (.lst xs) ∨
  ∃(o:Obj) (its:Array Value) (n:Nat),K.lookup a=some o∧o.cls=.type "list"∧o.dict=none∧o.data=.seq its n∧its.size≤Az∧Vals xs its.toList
def SqT(K:Av)(H:Hp)(a:Addr)(xs:List V):Prop:=
 Rd H a (.tup xs) ∨
  ∃(o:Obj) (its:Array Value) (n:Nat),K.lookup a=some o∧o.cls=.type "tuple"∧o.data=.seq its n∧its.size≤Az∧Vals xs its.toList
noncomputable def Vl:Value→Option V
 |.none=>some .non
 |.bool b=>some (.bl b)
 |.int i _=>some (.int i)
 |.str x _=>some (.str x)
 |.bytes b _=>some (.byt b)
 |.float b _=>some (.flt b)
 |.ref a=>some (.ref a)
 |.type n=>some (.ty n)
 |_=>none
theorem RelV.abs{x:V}{u:Value}(r:RelV x u):Vl u=some x:=by
 cases x with
 |non=>cases r;rfl
 |bl _=>cases r;rfl
 |int _=>obtain⟨t,rfl⟩:=r;rfl
 |str _=>obtain⟨t,rfl⟩:=r;rfl
 |byt _=>obtain⟨t,rfl⟩:=r;rfl
 |flt _=>obtain⟨t,rfl⟩:=r;rfl
 |ref _=>cases r;rfl
 |ty _=>cases r;rfl
theorem RelV.inj{x y:V}{u:Value}(r:RelV x u)(q:RelV y u):x=y:=AO (r.abs.symm.trans q.abs)
theorem Vals.inj:∀{xs ys:List V} {us:List Value},Vals xs us→Vals ys us→xs=ys
 |_,_,_,.nil,.nil=>rfl
 |_,_,_,.cons r t,.cons r' t'=>by rw[r.inj r',Vals.inj t t']
section
variable {X:Cx}{pins:List (Addr × Obj)}{σ:St}{H:Hp}{s:Shared}{a:Addr}{xs ys:List V}
theorem SqL.of{K:Av}(h:H a=some (.lst xs)):SqL K H a xs:=.inl (.inl h)
theorem SqT.of{K:Av}(h:H a=some (.tup xs)):SqT K H a xs:=.inl (.inl h)
theorem Inv.list(I:Inv X pins σ H s)(h:SqL X.K H a xs):∃its:List Value,Vals xs its∧PlainL s.heap a its.toArray∧xs.length≤Az:=by
 rcases h with h|⟨o,its,n,hk,hc,hd,hs,hz,r⟩
 . obtain⟨z,its,n,r,e⟩:=h.ok I.hok
   exact⟨its,r,⟨_,n,e,rfl,rfl,rfl⟩,z⟩
 . refine⟨its.toList,r,⟨o,n,I.kIn a o hk,hc,hd,by simpa using hs⟩,?_⟩
   have e:=r.length
   simp only[AD]at e
   omega
theorem Inv.tuple(I:Inv X pins σ H s)(h:SqT X.K H a xs):∃its:List Value,Vals xs its∧IsTup s.heap a its.toArray∧xs.length≤Az:=by
 rcases h with h|⟨o,its,n,hk,hc,hs,hz,r⟩
 . obtain⟨z,its,r,p⟩:=h.ok I.hok
   exact⟨its,r,p.tup,z⟩
 . refine⟨its.toList,r,⟨o,I.kIn a o hk,hc,n,by simpa using hs⟩,?_⟩
   have e:=r.length
   simp only[AD]at e
   omega
theorem Inv.fB(I:Inv X pins σ H s)(h:SqL X.K H a xs)(h':SqL X.K H a ys):xs=ys:=by
 obtain⟨its,r,⟨o,n,e,_,_,d⟩,_⟩:=I.list h
 obtain⟨its',r',⟨o',n',e',_,_,d'⟩,_⟩:=I.list h'
 rw[e]at e';cases e'
 rw[d]at d'
 injection d' with d1 _
 have:its=its':=by simpa using congrArg Array.toList d1
 subst this
 exact r.inj r'
theorem Inv.iT(I:Inv X pins σ H s)(h:SqT X.K H a xs)(h':SqT X.K H a ys):xs=ys:=by
 obtain⟨its,r,⟨o,e,_,n,d⟩,_⟩:=I.tuple h
 obtain⟨its',r',⟨o',e',_,n',d'⟩,_⟩:=I.tuple h'
 rw[e]at e';cases e'
 rw[d]at d'
 injection d' with d1 _
 have:its=its':=by simpa using congrArg Array.toList d1
 subst this
 exact r.inj r'
end
noncomputable abbrev Cx.qI(X:Cx)(E:Value→Shared→Prop):Cx:={X with xe:=E}
noncomputable abbrev Cx.nox(X:Cx):Cx:=X.qI fun _ _=>False
theorem Cx.Ok.qI{X:Cx}(ok:X.Ok)(E:Value→Shared→Prop):(X.qI E).Ok:=
 ⟨ok.mod,ok.kind,ok.glob,ok.blt,ok.above,ok.inj,ok.has,ok.cab,ok.hd,ok.frames,ok.stk,ok.exf,ok.bs,ok.bsz,ok.noex,ok.exfs,ok.sY,ok.frf⟩
theorem Cx.Ok.vN{X:Cx}{E:Value→Shared→Prop}(ok:(X.qI E).Ok):X.Ok:=
 ⟨ok.mod,ok.kind,ok.glob,ok.blt,ok.above,ok.inj,ok.has,ok.cab,ok.hd,ok.frames,ok.stk,ok.exf,ok.bs,ok.bsz,ok.noex,ok.exfs,ok.sY,ok.frf⟩
section
variable {X:Cx}{pins:List (Addr × Obj)}{σ:St}{H:Hp}{s:Shared}{E:Value→Shared→Prop}
theorem Inv.qI(I:Inv X pins σ H s)(E:Value→Shared→Prop):Inv (X.qI E) pins σ H s:=⟨I.ok.qI E,I.os,I.bare,I.base,I.loc,I.cell,I.free,I.freeC,I.pin,I.hok,I.len⟩
theorem Inv.vN(I:Inv (X.qI E) pins σ H s):Inv X pins σ H s:=⟨I.ok.vN,I.os,I.bare,I.base,I.loc,I.cell,I.free,I.freeC,I.pin,I.hok,I.len⟩
theorem SP.vN{D:Ends}{f:Flow}{s':Shared}(h:SP (X.qI E) pins D f s'):SP X pins D f s':=by
 cases f with
 |next=>obtain⟨σ',H',I,q⟩:=h;exact⟨σ',H',I.vN,q⟩
 |brk=>obtain⟨σ',H',I,q⟩:=h;exact⟨σ',H',I.vN,q⟩
 |cont=>obtain⟨σ',H',I,q⟩:=h;exact⟨σ',H',I.vN,q⟩
 |ret u=>obtain⟨v,σ',H',I,r,q⟩:=h;exact⟨v,σ',H',I.vN,r,q⟩
theorem PSs.nox{st:List Stmt}{t:TS}(h:PSs X.nox st t):PSs X st t:=fun pins s σ H D I hw=>
 Cu (h pins s σ H D (I.qI _) hw) (fun _ _ q=>q.vN) fun _ _ z=>C0 z
end
section
variable {X:Cx}{st:Stmt}{rest:List Stmt}{t u:TS}{e:Expr}{te:TE}{pos:Pos}
noncomputable def VS:TS:=fun D σ H=>D.nx σ H
noncomputable def UB(t u:TS):TS:=fun D σ H=>t {D with nx:=u D} σ H
theorem bj:PSs X [] VS:=fun _ _ σ H _ I h=>GF ⟨σ,H,I,h⟩
theorem fz(h1:PS X st t)(h2:PSs X rest u):PSs X (st::rest) (UB t u):=by
 intro pins s σ H D I h
 refine wpAny_execs_cons (thn (h1 pins s σ H {D with nx:=u D} I h) fun f s1 q=>?_)
 cases f with
 |next=>
  obtain⟨σ',H',I',q⟩:=q
  exact h2 pins s1 σ' H' D I' q
 |ret v=>exact q
 |brk=>exact q
 |cont=>exact q
theorem Inv.quiet{pins:List (Addr × Obj)}{σ:St}{H:Hp}{s:Shared}(I:Inv X pins σ H s):interactive X.env=false:=by simp[interactive,I.ok.kind]
noncomputable def VR(te:TE):TS:=fun D σ H=>te σ H fun _ H1=>D.nx σ H1
theorem bg(he:PE X e te)(hs:Eo e none pos.line X.env=pure false:=by rfl):PS X (.Expr e pos) (VR te):=by
 intro pins s σ H D I h
 exact wpAny_Expr_any (thn (he pins s σ H _ I h) fun v s1 ⟨x,H1,I1,r1,q1⟩=>⟨σ,H1,I1,q1⟩) I.quiet hs
noncomputable def UA(te:TE):TS:=fun D σ H=>te σ H D.rt
theorem Y7(he:PE X e te):PS X (.Return (some e) pos) (UA te):=by
 intro pins s σ H D I h
 exact wpAny_Return_some (thn (he pins s σ H _ I h) fun v s1 ⟨x,H1,I1,r1,q1⟩=>⟨x,σ,H1,I1,r1,q1⟩)
noncomputable def V6(c:TT)(t u:TS):TS:=fun D σ H=>c σ H fun b H1=>if b=true then t D σ H1 else u D σ H1
theorem W3{c:Expr}{a b:List Stmt}{tc:TT}(hc:PT X c tc)(ha:PSs X a t)(hb:PSs X b u):PS X (.If c a b pos) (V6 tc t u):=by
 intro pins s σ H D I h
 refine wpAny_If (thn (hc pins s σ H _ I h) fun d s1 ⟨H1,I1,q1⟩=>?_)
 cases d with
 |true=>exact ha pins s1 σ H1 D I1 q1
 |false=>exact hb pins s1 σ H1 D I1 q1
end
noncomputable abbrev TG:=V→St→Hp→(St→Hp→Prop)→Prop
noncomputable abbrev TGs:=List V→St→Hp→(St→Hp→Prop)→Prop
def PG(X:Cx)(target:Expr)(t:TG):Prop:=
 ∀(pins:List (Addr × Obj)) (s:Shared) (σ:St) (H:Hp) (v:V) (u:Value) (Q:St→Hp→Prop),Inv X pins σ H s→RelV v u→t v σ H Q →
  wpAny (model X.prog X.w) X.A (assign target X.env u) (fun _ s'=>∃σ' H',Inv X pins σ' H' s'∧Q σ' H') X.xe s
def PGs(X:Cx)(ts:List Expr)(t:TGs):Prop:=
 ∀(pins:List (Addr × Obj)) (s:Shared) (σ:St) (H:Hp) (vs:List V) (us:List Value) (Q:St→Hp→Prop),Inv X pins σ H s→Vals vs us→t vs σ H Q →
  wpAny (model X.prog X.w) X.A (EY ((Dm ts X.env).map (·.2)) us) (fun _ s'=>∃σ' H',Inv X pins σ' H' s'∧Q σ' H') X.xe s
noncomputable abbrev ZJ:=V→V→V→Hp→(Hp→Prop)→Prop
def Xn(X:Cx)(t:ZJ):Prop:=
 ∀(pins:List (Addr × Obj)) (s:Shared) (σ:St) (H:Hp) (o i v:V) (ov iv u:Value) (Q:Hp→Prop),Inv X pins σ H s→RelV o ov→RelV i iv→RelV v u→t o i v H Q →
  wpAny (model X.prog X.w) X.A (setItem ov iv u) (fun _ s'=>∃H',Inv X pins σ H' s'∧Q H') X.xe s
noncomputable abbrev TIp:=V→V→Hp→VK→Prop
def PIp(X:Cx)(op:Operator)(t:TIp):Prop:=
 ∀(pins:List (Addr × Obj)) (s:Shared) (σ:St) (H:Hp) (x y:V) (v u:Value) (Q:VK),Inv X pins σ H s→RelV x v→RelV y u→t x y H Q →
  wpAny (model X.prog X.w) X.A (Ep op v u) (EP X pins σ Q) X.xe s
section
variable {X:Cx}{pos:Pos}
noncomputable def vD(i:Nat):TG:=fun v σ H Q=>Q (σ.set i (some v)) H
theorem bU{i:Nat}{x:Str}(hN:X.N.Nodup)(hi:X.N[i]?=some x)(hx:Loc X.env.scope x)(hf:X.fn x=true∨X.env.scope.names.lookup x=some .local:=by first|exact .inl rfl|exact .inr rfl|assumption):PG X (.Name x pos) (vD i):=by
 intro pins s σ H v u Q I r h
 exact wpAny_assign_Name (xX I hN hi hx r (fun s' I'=>⟨_,H,I',h⟩) hf)
noncomputable def X3:TGs:=fun vs σ H Q=>vs=[]∧Q σ H
noncomputable def aY(t:TG)(u:TGs):TGs:=fun vs σ H Q=>∃v r,vs=v::r∧t v σ H fun σ' H'=>u r σ' H' Q
theorem bV:PGs X [] X3:=by
 intro pins s σ H vs us Q I r h
 obtain⟨e,h⟩:=h
 subst e
 cases r
 exact F3 ⟨σ,H,I,h⟩
theorem fg{e:Expr}{es:List Expr}{t:TG}{u:TGs}(h1:PG X e t)(h2:PGs X es u)
 (hs:(Dm (e::es) X.env).map (·.2)=assign e X.env::(Dm es X.env).map (·.2):=by rfl):PGs X (e::es) (aY t u):=by
 intro pins s σ H vs us Q I r h
 obtain⟨v,vr,e1,h⟩:=h
 subst e1
 cases r with
 |cons r rr=>
  rw[hs]
  refine C1 (thn (h1 pins s σ H _ _ _ I r h) fun _ s1 ⟨σ1,H1,I1,q1⟩=>?_)
  exact h2 pins s1 σ1 H1 _ _ Q I1 rr q1
noncomputable def X6(K:Av)(n:Nat)(t:TGs):TG:=fun v σ H Q=>∃a xs,v=.ref a∧SqT K H a xs∧xs.length=n∧t xs σ H Q
theorem v8{es:List Expr}{k:Nat}{t:TGs}{n:Nat}(hc:X.calm=true)(h:PGs X es t)
 (hn:(Dm es X.env).length=n:=by rfl) (hst:(Dm es X.env).findIdx? (·.1)=none:=by rfl):PG X (.Tuple es k pos) (X6 X.K n t):=by
 intro pins s σ H v u Q I r hw
 obtain⟨a,xs,e1,hq,hl,hw⟩:=hw
 subst e1
 cases r
 obtain⟨its,rv,ht,hz⟩:=I.tuple hq
 refine assign_Tuple_tuple (I.ok.hd hc) ht (by simp[hn,←hl,rv.length]) hst fun h' hx=>?_
 have I1:Inv X pins σ H {s with heap:=h'}:=I.kept (t':=s.toks) fun b o e=>hx b o (AG (Au e)) e
 exact h pins _ σ H xs _ Q I1 (by simpa using rv) hw
noncomputable def X5(to ti:TE)(t:ZJ):TG:=fun v σ H Q=>to σ H fun o H1=>ti σ H1 fun i H2=>t o i v H2 fun H3=>Q σ H3
theorem Y2{o i:Expr}{to ti:TE}{t:ZJ}(ho:PE X o to)(hi:PE X i ti)(hs:Xn X t)
 (ha:∀v,assign (.Subscript o i pos) X.env v=(do
  let ov ←holding [v] (eval o X.env)
  let iv ←holding [v,ov] (eval i X.env)
  standAt pos
  holding [v,ov,iv] (setItem ov iv v)
  release [v,ov,iv] []):=by intro _;rfl):PG X (.Subscript o i pos) (X5 to ti t):=by
 intro pins s σ H v u Q I r h
 rw[ha]
 refine Ac (BB (thn (ho pins s σ H _ I h) fun ov s1 ⟨x,H1,I1,r1,q1⟩=>?_))
 refine Ac (BB (thn (hi pins s1 σ H1 _ I1 q1) fun iv s2 ⟨y,H2,I2,r2,q2⟩=>?_))
 refine Ac (CP (Ac (BB (thn (hs pins s2 σ H2 x y v ov iv u _ I2 r1 r2 r q2) fun _ s3 ⟨H3,I3,q3⟩=>?_))))
 exact wpAny_release ⟨σ,H3,I3,q3⟩
noncomputable def qG(te:TE)(g:TG):TS:=fun D σ H=>te σ H fun x H1=>g x σ H1 D.nx
theorem mz{tg e:Expr}{te:TE}{g:TG}(he:PE X e te)(hg:PG X tg g)(hs:EZ [tg] e pos.line X.env=pure false:=by rfl)(hw:Cf [tg] e X.env=pure none:=by rfl)
 (h1:(Dm [tg] X.env).map (·.2)=[assign tg X.env]:=by rfl):PS X (.Assign [tg] e pos) (qG te g):=by
 intro pins s σ H D I h
 refine wpAny_Assign_stores (thn (he pins s σ H _ I h) fun v s1 ⟨x,H1,I1,r1,q1⟩=>?_) hs hw
 rw[h1]
 exact thn (hg pins s1 σ H1 x v _ I1 r1 q1) fun _ s2 q=>q
theorem m3{i:Nat}{x:Str}{e:Expr}{te:TE}{pos':Pos}(hN:X.N.Nodup)(hi:X.N[i]?=some x)(hx:Loc X.env.scope x)(he:PE X e te)(hs:Eo e (some (.Name x pos')) pos.line X.env=pure false:=by rfl)(hf:X.fn x=true∨X.env.scope.names.lookup x=some .local:=by first|exact .inl rfl|exact .inr rfl|assumption) :
 PS X (.Assign [.Name x pos'] e pos) (qG te (vD i)):=by
 intro pins s σ H D I h
 refine wpAny_Assign_Name (thn (he pins s σ H _ I h) fun v s1 ⟨y,H1,I1,r1,q1⟩=>?_) hs
 exact xX I1 hN hi hx r1 (fun s2 I2=>⟨_,H1,I2,q1⟩) hf
noncomputable def VV(i j:Nat)(ta:TA):TS:=fun D σ H=>ta σ H fun vs H1=>∃v w,vs=[v,w]∧D.nx ((σ.set i (some v)).set j (some w)) H1
theorem Y6{i j:Nat}{x y:Str}{a b:Expr}{ta:TA}{px py pt:Pos}{kt k2 pt2}(hc:X.calm=true)(hN:X.N.Nodup)(hi:X.N[i]?=some x)(hj:X.N[j]?=some y)(hij:i≠j)
 (hx:X.env.scope.names.lookup x=some .local) (hy:X.env.scope.names.lookup y=some .local) (ha:PA X [a,b] ta)
 (hw:Cf [.Tuple [.Name x px,.Name y py] kt pt] (.Tuple [a,b] k2 pt2) X.env=pure (some [x,y]))
 (hs:EZ [.Tuple [.Name x px,.Name y py] kt pt] (.Tuple [a,b] k2 pt2) pos.line X.env=pure false:=by rfl) :
 PS X (.Assign [.Tuple [.Name x px,.Name y py] kt pt] (.Tuple [a,b] k2 pt2) pos) (VV i j ta):=by
 intro pins s σ H D I h
 rw[exec_Assign_arm]
 refine Ac (CP ?_)
 rw[hs]
 refine Ac (Al ?_)
 rw[if_neg (by decide)]
 refine Ac (Tuple_ (thn (ha _ pins s σ H _ I h) fun us s1 ⟨vs,H1,I1,r1,q1⟩=>?_))
 obtain⟨v,w,e1,q1⟩:=q1
 subst e1
 obtain⟨u1,u2,rfl,rv,rw'⟩:∃u1 u2,us=[u1,u2]∧RelV v u1∧RelV w u2:=by
  cases r1 with
  |cons p q=>
   cases q with
   |cons p' q'=>
    cases q'
    exact⟨_,_,rfl,p,p'⟩
 refine Br ?_ (by show 2≤Az;decide)
 have I2:Inv X pins σ H1 {s1 with heap:=s1.heap.push {cls:=.type "tuple",data:=.seq [u1,u2].toArray}}:=I1.kept (t':=s1.toks) fun b o e=>Af _ e
 rw[hw]
 refine Ac (Al ?_)
 show wpAny (model X.prog X.w) X.A (do rule "assign.swapped-stores";let items ←unpackItems (.ref s1.heap.objs.size) 2 none;EY [fun v=>D1 X.env y v,fun v=>D1 X.env x v] items.reverse;pure Hc) _ _ _
 refine Ac (Cv (Ac (unpackItems_tuple (items:=#[u1,u2]) (I.ok.hd hc) (IsTup.new s1.heap _) fun h' hx'=>?_)))
 have I3:=I2.kept (h':=h') (t':=s1.toks) fun b o e=>hx' b o (AG (Au e)) e
 show wpAny _ _ (EY [fun v=>D1 X.env y v,fun v=>D1 X.env x v] [u2,u1] >>= fun _=>pure Hc) _ _ _
 refine Ac (C1 (EF (xX I3 hN hj (.inl hy) rw' (fun s2 I4=>?_) (.inr hy))))
 refine C1 (EF (xX I4 hN hi (.inl hx) rv (fun s3 I5=>F3 (Al ?_)) (.inr hx)))
 rw[FT _ _ (BZ hij)]at I5
 exact⟨_,H1,I5,q1⟩
noncomputable def V4(i:Nat)(te:TE)(ti:TIp):TS:=fun D σ H=>∃x,σ[i]?=some (some x)∧te σ H fun y H1=>ti x y H1 fun z H2=>D.nx (σ.set i (some z)) H2
theorem ft{i:Nat}{x:Str}{e:Expr}{te:TE}{op:Operator}{ti:TIp}{pos':Pos}(hN:X.N.Nodup)(hi:X.N[i]?=some x)(hx:Loc X.env.scope x)(he:PE X e te)(ho:PIp X op ti)(hf:X.fn x=true∨X.env.scope.names.lookup x=some .local:=by first|exact .inl rfl|exact .inr rfl|assumption) :
 PS X (.AugAssign (.Name x pos') op e pos) (V4 i te ti):=by
 intro pins s σ H D I h
 obtain⟨v,e1,h⟩:=h
 obtain⟨m,hn,hl⟩:=I.loc
 have vis:Vis X.env.scope x:=by rcases hx with k|k;exact .inl k;exact .inr (.inl k)
 obtain⟨u,r,l⟩:=hl i x v hi e1 vis
 refine wpAny_AugAssign_Name ?_
 have go:wpAny (model X.prog X.w) X.A (eval e X.env) (fun w s₂=>wpAny (model X.prog X.w) X.A (Ep op u w) (fun r s₃=>wpAny (model X.prog X.w) X.A (storeName X.env x r) (fun _=>SP X pins D .next) X.xe s₃) X.xe s₂) X.xe s:=by
  refine thn (he pins s σ H _ I h) fun w s1 ⟨y,H1,I1,r1,q1⟩=>?_
  refine thn (ho pins s1 σ H1 v y u w _ I1 r r1 q1) fun z s2 ⟨zv,H2,I2,r2,q2⟩=>?_
  exact xX I2 hN hi hx r2 (fun s3 I3=>⟨_,H2,I3,q2⟩) hf
 rcases l with⟨hk,hm⟩|⟨hk,c,hc,hcell⟩
 . exact wpAny_loadName_local I.ok.kind hk hn hm go
 . rcases hk with hk|hk
   . exact wpAny_loadName_cell I.ok.kind hk hc hcell go
   . rcases hx with k|k
     . have:X.env.scope.names.lookup x=some .free:=hk
       rw[k]at this;cases this
     . have:X.env.scope.names.lookup x=some .free:=hk
       rw[k]at this;cases this
end
section
variable {X:Cx}{pos:Pos}
noncomputable def eZ(c:TT)(tb:TS):TS:=fun D σ H=>∃W:Nat→St→Hp→Prop,(∃m,W m σ H)∧∀m σ H,W m σ H →
 c σ H fun b H1=>if b=true then ∃N:St→Hp→Prop,(∀σ' H',N σ' H'→∃m',m'<m∧W m' σ' H')∧tb {D with nx:=N,ct:=N,bk:=D.nx} σ H1 else D.nx σ H1
theorem fv{c:Expr}{body:List Stmt}{tc:TT}{tb:TS}(hp:FG (model X.prog X.w) X.A X.env X.xe)(hc:PT X c tc)(hb:PSs X body tb):PS X (.While c body [] pos) (eZ tc tb):=by
 intro pins s σ H D I h
 obtain⟨W,⟨m0,w0⟩,turn⟩:=h
 refine wpAny_While (codeAny_whileLoop (fun n s'=>∃σ' H',Inv X pins σ' H' s'∧W n σ' H') ?_ m0 ⟨σ,H,I,w0⟩)
 rintro n s1 ⟨σ1,H1,I1,w1⟩
 refine Dc hp (thn (hc pins s1 σ1 H1 _ I1 (turn n σ1 H1 w1)) fun b s2 ⟨H2,I2,q2⟩=>?_)
 cases b with
 |true=>
  obtain⟨N,hN,q2⟩:=q2
  rw[if_pos rfl]
  refine Dc hp (thn (hb pins s2 σ1 H2 _ I2 q2) fun f s3 q3=>?_)
  cases f with
  |next=>
   obtain⟨σ3,H3,I3,n3⟩:=q3
   obtain⟨m',hm,w3⟩:=hN σ3 H3 n3
   exact⟨m',hm,σ3,H3,I3,w3⟩
  |cont=>
   obtain⟨σ3,H3,I3,n3⟩:=q3
   obtain⟨m',hm,w3⟩:=hN σ3 H3 n3
   exact⟨m',hm,σ3,H3,I3,w3⟩
  |brk=>exact q3
  |ret v=>exact q3
 |false=>
  rw[if_neg An]
  exact GF ⟨σ1,H2,I2,q2⟩
end
structure It where
 go:Nat→Hp→Prop
 yld:Nat→Hp→V→Hp→Prop
 stop:Nat→Hp→Prop
def tm(X:Cx)(pins:List (Addr × Obj))(H:Hp)(b:Addr):Prop:=
 H b=none∧b≠X.env.locals∧b ∉ X.fs∧(b∈X.ex∨X.s₀.heap.objs.size≤b)∧(∀x c,X.env.cells.lookup x=some c→c≠b)∧∀p∈X.pn++pins,p.1≠b
theorem Inv.ZY{X:Cx}{pins:List (Addr × Obj)}{σ:St}{H H':Hp}{s:Shared}{b:Addr}(I:Inv X pins σ H s)(hb:s.heap.objs.size≤b)(hn:H' b=none):tm X pins H' b:=by
 refine⟨hn,Fh (AS I.lt hb),I.Vs hb,.inr (AB I.sz hb),fun x c e z=>?_,fun p hp z=>?_⟩
 . obtain⟨v,q⟩:=I.cell x c e
   exact absurd (AS q.lt (by rw[z];exact hb)) (CO _)
 . exact absurd (AS (Au (I.pin p hp).1) (by rw[z];exact hb)) (CO _)
structure Turn(P:Program)(w:World)(K:Av)(tg:Expr)(J:It)(fp:List Addr)(it:Addr)(tn:Nat→Heap→Prop):Prop where
 mem:it∈fp
 obj:∀i h,tn i h→∀b∈fp,∃o,h.get? b=some o∧∀v,o.data≠.cell v
 keep:∀i h h',tn i h→(∀b∈fp,∀o,h.get? b=some o→h'.get? b=some o)→tn i h'
 item:∀(X:Cx),X.prog=P→X.w=w→X.K=K→X.calm=true→∀(i:Nat) (pins:List (Addr × Obj)) (s:Shared) (σ:St) (H:Hp) (E:Value→Shared→Prop),Inv X pins σ H s→(∀b∈fp,tm X pins H b)→tn i s.heap→J.go i H →
  wpAny (model P w) X.A (pyNext (.ref it)) (fun r s1=>∃u,r=some u ∧
   wpAny (model P w) X.A (BX tg (.ref it) u) (fun _ s2=>∃x H',Inv X pins σ H' s2∧RelV x u∧J.yld i H x H'∧tn (i+1) s2.heap∧∀b∈fp,H' b=none) E s1) E s
 done:∀(X:Cx),X.prog=P→X.w=w→X.K=K→X.calm=true→∀(i:Nat) (pins:List (Addr × Obj)) (s:Shared) (σ:St) (H:Hp) (E:Value→Shared→Prop),Inv X pins σ H s→(∀b∈fp,tm X pins H b)→tn i s.heap→J.stop i H →
  wpAny (model P w) X.A (pyNext (.ref it)) (fun r s1=>r=none∧Inv X pins σ H s1) E s
 self:∀(A:Around) (i:Nat) (s:Shared) (Q:Value→Shared→Prop) (E:Value→Shared→Prop),tn i s.heap→Q (.ref it) s→wpAny (model P w) A (pyIter (.ref it)) Q E s
noncomputable abbrev TI:=St→Hp→(It→Hp→Prop)→Prop
def PIE(X:Cx)(pins:List (Addr × Obj))(σ:St)(tg:Expr)(R:It→Hp→Prop)(itv:Value)(s2:Shared):Prop:=
 ∃(it:Addr) (fp:List Addr) (tn:Nat→Heap→Prop) (J:It) (H':Hp),itv=.ref it∧Inv X pins σ H' s2∧Turn X.prog X.w X.K tg J fp it tn∧tn 0 s2.heap∧(∀b∈fp,tm X pins H' b)∧R J H'
def PI(X:Cx)(tg iter:Expr)(wi:TI):Prop:=
 ∀(pins:List (Addr × Obj)) (s:Shared) (σ:St) (H:Hp) (R:It→Hp→Prop),Inv X pins σ H s→wi σ H R →
  wpAny (model X.prog X.w) X.A (eval iter X.env) (fun v s1=>wpAny (model X.prog X.w) X.A (pyIter v) (PIE X pins σ tg R) X.xe s1) X.xe s
theorem gL{M:Model}{A:Around}{E:Value→Shared→Prop}{s:Shared}{tg:Expr}{it:Addr}{u:Value}{o:Obj}{n:String}{vs:Array Value}{Q:Unit→Shared→Prop}(ho:s.heap.get? it=some o)(hc:o.cls=.type n)(hd:o.data=.fields vs)
 (hn:["enumerate","zip","dict_itemiterator","dict_reverseitemiterator","odict_iterator","itertools.zip_longest","itertools.pairwise"].contains n=false) (hQ:Q () s):wpAny M A (BX tg (.ref it) u) Q E s:=by
 unfold BX
 cases tg<;>first
  |exact Al hQ
  |(cases u<;>first
   |exact Al hQ
   |(refine Ac (wpAny_load ho ?_)
     rw[hc,hd]
     show wpAny M A (if (["enumerate","zip","dict_itemiterator","dict_reverseitemiterator","odict_iterator","itertools.zip_longest","itertools.pairwise"].contains n&&vs[0]? == some (rawInt _))=true then _ else _) Q E s
     rw[if_neg (by intro h;rw[hn,FA]at h;cases h)]
     exact Al hQ))
noncomputable def Itl(K:Av)(a:Addr):It:=
 ⟨fun i H=>∃xs x,SqL K H a xs∧xs[i]?=some x,fun i H x H'=>H'=H∧∀xs,SqL K H a xs→xs[i]?=some x,fun i H=>∃xs,SqL K H a xs∧xs.length≤i⟩
noncomputable def Itt(K:Av)(a:Addr):It:=
 ⟨fun i H=>∃xs x,SqT K H a xs∧xs[i]?=some x,fun i H x H'=>H'=H∧∀xs,SqT K H a xs→xs[i]?=some x,fun i H=>∃xs,SqT K H a xs∧xs.length≤i⟩
noncomputable def Itr(lo:Int)(n:Nat):It:=⟨fun i _=>i<n,fun i H x H'=>H'=H∧x=.int (lo+i),fun i _=>n≤i⟩
theorem iU{P:Program}{w:World}{K:Av}{tg:Expr}(a it:Addr):Turn P w K tg (Itl K a) [it] it (fun i h=>h.IsListIter it a i) where
 mem:=by simp
 obj:=fun i h st b hb=>by
  have e:b=it:=by simpa using hb
  subst e
  obtain⟨o,e,c,d⟩:=st
  exact⟨o,e,fun v z=>by rw[d]at z;cases z⟩
 keep:=fun i h h' st k=>st.at fun o e=>k it (by simp) o e
 item:=by
  intro X hP hw hK hc i pins s σ H E I hf st hg
  subst hP hw hK
  obtain⟨xs,x,hq,hx⟩:=hg
  obtain⟨its,rv,p,hz⟩:=I.list hq
  obtain⟨u,hu,ru⟩:=rv.get hx
  obtain⟨f0,f1,f2,f3,f4,f5⟩:=hf it (by simp)
  refine wpAny_pyNext_list_item st p.isList (x:=u) (by simpa using hu) fun h' st' sb=>?_
  have I1:Inv X pins σ H {s with heap:=h'}:=I.turned (t':=s.toks) (fun b o hb e=>(sb.2 b hb).trans e) f0 f1 f3 f4 f5
  obtain⟨o,e,c,d⟩:=id st'
  exact⟨u,rfl,gL (s:={s with heap:=h'}) e c d (by decide) ⟨x,H,I1,ru,⟨rfl,fun ys hy=>by rw[I.fB hy hq];exact hx⟩,st',fun b hb=>(hf b hb).1⟩⟩
 done:=by
  intro X hP hw hK hc i pins s σ H E I hf st hg
  subst hP hw hK
  obtain⟨xs,hq,hx⟩:=hg
  obtain⟨its,rv,p,hz⟩:=I.list hq
  obtain⟨f0,f1,f2,f3,f4,f5⟩:=hf it (by simp)
  have hl:=rv.length
  exact wpAny_pyNext_list_end (I.ok.hd hc) st p.isList (by simp;omega) fun h' eb=>⟨rfl,I.turned (t':=s.toks) (fun b o hb e=>eb b o hb e) f0 f1 f3 f4 f5⟩
 self:=fun _ _ _ _ _ st h=>wpAny_pyIter_listiter st h
theorem lN{P:Program}{w:World}{K:Av}{tg:Expr}(a it:Addr):Turn P w K tg (Itt K a) [it] it (fun i h=>h.IsTupleIter it a i) where
 mem:=by simp
 obj:=fun i h st b hb=>by
  have e:b=it:=by simpa using hb
  subst e
  obtain⟨o,e,c,d⟩:=st
  exact⟨o,e,fun v z=>by rw[d]at z;cases z⟩
 keep:=fun i h h' st k=>st.at fun o e=>k it (by simp) o e
 item:=by
  intro X hP hw hK hc i pins s σ H E I hf st hg
  subst hP hw hK
  obtain⟨xs,x,hq,hx⟩:=hg
  obtain⟨its,rv,p,hz⟩:=I.tuple hq
  obtain⟨u,hu,ru⟩:=rv.get hx
  obtain⟨f0,f1,f2,f3,f4,f5⟩:=hf it (by simp)
  refine wpAny_pyNext_tuple_item st (show s.heap.IsTuple a its.toArray from p) (x:=u) (by simpa using hu) fun h' st' sb=>?_
  have I1:Inv X pins σ H {s with heap:=h'}:=I.turned (t':=s.toks) (fun b o hb e=>(sb.2 b hb).trans e) f0 f1 f3 f4 f5
  obtain⟨o,e,c,d⟩:=id st'
  exact⟨u,rfl,gL (s:={s with heap:=h'}) e c d (by decide) ⟨x,H,I1,ru,⟨rfl,fun ys hy=>by rw[I.iT hy hq];exact hx⟩,st',fun b hb=>(hf b hb).1⟩⟩
 done:=by
  intro X hP hw hK hc i pins s σ H E I hf st hg
  subst hP hw hK
  obtain⟨xs,hq,hx⟩:=hg
  obtain⟨its,rv,p,hz⟩:=I.tuple hq
  obtain⟨f0,f1,f2,f3,f4,f5⟩:=hf it (by simp)
  have hl:=rv.length
  exact wpAny_pyNext_tuple_end (I.ok.hd hc) st (show s.heap.IsTuple a its.toArray from p) (by simp;omega) fun h' eb=>⟨rfl,I.turned (t':=s.toks) (fun b o hb e=>eb b o hb e) f0 f1 f3 f4 f5⟩
 self:=fun _ _ _ _ _ st h=>wpAny_pyIter_tupleiter st h
theorem lM{P:Program}{w:World}{K:Av}{tg:Expr}(it:Addr)(lo:Int)(n:Nat):Turn P w K tg (Itr lo n) [it] it (fun i h=>IsRangeIter h it (lo+(i:Nat)*1) ((n:Int)-(i:Nat)) 1) where
 mem:=by simp
 obj:=fun i h st b hb=>by
  have e:b=it:=by simpa using hb
  subst e
  exact⟨_,st,fun v z=>by
   have z':Data.fields _=Data.cell v:=z
   cases z'⟩
 keep:=fun i h h' st k=>k it (by simp) _ st
 item:=by
  intro X hP hw hK hc i pins s σ H E I hf st hg
  subst hP hw hK
  obtain⟨f0,f1,f2,f3,f4,f5⟩:=hf it (by simp)
  have W:=Walks.range (prog:=X.prog) (w:=X.w) (I.ok.hd hc) it lo 1 n
  refine W.item i s _ _ hg st fun v h' tk hv st' kk=>?_
  obtain⟨t,rfl⟩:=hv
  have I1:Inv X pins σ H {s with heap:=h',toks:=tk}:=I.turned (fun b o hb e=>kk b o (by simpa using hb) e) f0 f1 f3 f4 f5
  refine⟨_,rfl,gL (s:={s with heap:=h',toks:=tk}) (n:="range_iterator") st' rfl rfl (by decide) ⟨.int (lo+i),H,I1,⟨t,?_⟩,⟨rfl,rfl⟩,st',fun b hb=>(hf b hb).1⟩⟩
  rw[Int.mul_one]
 done:=by
  intro X hP hw hK hc i pins s σ H E I hf st hg
  subst hP hw hK
  obtain⟨f0,f1,f2,f3,f4,f5⟩:=hf it (by simp)
  exact wpAny_pyNext_range_end (I.ok.hd hc) st (by have:n≤i:=hg;omega) fun h' eb=>⟨rfl,I.turned (t':=s.toks) (fun b o hb e=>eb b o hb e) f0 f1 f3 f4 f5⟩
 self:=fun _ _ _ _ _ st h=>wpAny_pyIter_rangeiter st h
end L2
namespace L2
open PySem PySem.Spec PyProof.Rows
section
variable {X:Cx}{tg:Expr}
noncomputable def X9(K:Av)(tl:TE):TI:=fun σ H R=>tl σ H fun x H1=>∃a,x=.ref a∧(∃xs,SqL K H1 a xs)∧R (Itl K a) H1
noncomputable def Vp(K:Av)(tl:TE):TI:=fun σ H R=>tl σ H fun x H1=>∃a,x=.ref a∧(∃xs,SqT K H1 a xs)∧R (Itt K a) H1
theorem kT{l:Expr}{tl:TE}(hl:PE X l tl):PI X tg l (X9 X.K tl):=by
 intro pins s σ H R I h
 refine thn (hl pins s σ H _ I h) fun v s1 ⟨x,H1,I1,r1,q1⟩=>?_
 obtain⟨a,e,⟨xs,hq⟩,q⟩:=q1
 subst e
 cases r1
 obtain⟨its,rv,p,hz⟩:=I1.list hq
 refine DO p.isList ?_
 refine⟨s1.heap.objs.size,[s1.heap.objs.size],_,_,H1,rfl,I1.kept (t':=s1.toks) fun b o e=>Af _ e,iU a _,⟨_,AI _ rfl,rfl,rfl⟩,fun b hb=>?_,q⟩
 have e:b=s1.heap.objs.size:=by simpa using hb
 subst e
 exact I1.ZY (Ai _) (I1.hok.fresh (Ai _))
theorem fh{l:Expr}{tl:TE}(hl:PE X l tl):PI X tg l (Vp X.K tl):=by
 intro pins s σ H R I h
 refine thn (hl pins s σ H _ I h) fun v s1 ⟨x,H1,I1,r1,q1⟩=>?_
 obtain⟨a,e,⟨xs,hq⟩,q⟩:=q1
 subst e
 cases r1
 obtain⟨its,rv,p,hz⟩:=I1.tuple hq
 refine wpAny_pyIter_tuple (show s1.heap.IsTuple a its.toArray from p) ?_
 refine⟨s1.heap.objs.size,[s1.heap.objs.size],_,_,H1,rfl,I1.kept (t':=s1.toks) fun b o e=>Af _ e,lN a _,⟨_,AI _ rfl,rfl,rfl⟩,fun b hb=>?_,q⟩
 have e:b=s1.heap.objs.size:=by simpa using hb
 subst e
 exact I1.ZY (Ai _) (I1.hok.fresh (Ai _))
theorem nY{pins:List (Addr × Obj)}{σ:St}{H:Hp}{s:Shared}{R:It→Hp→Prop}{E:Value→Shared→Prop}{lo hi:Int}{t u v:Tok}{tk:Nat}(I:Inv X pins σ H s)(h1:-(2 ^ 62)≤lo)(h2:lo<2 ^ 62)(h3:-(2 ^ 62)≤hi)(h4:hi<2 ^ 62)
 (q:R (Itr lo (hi-lo).toNat) H):wpAny (model X.prog X.w) X.A (pyIter (.ref s.heap.objs.size)) (PIE X pins σ tg R) E {s with heap:=s.heap.push {cls:=.type "range",data:=.fields #[.int lo t,.int hi u,.int 1 v]},toks:=tk}:=by
 refine wpAny_pyIter_range (IsRange.new ..) (small_one h1 h2 h3 h4) ?_
 have I1:Inv X pins σ H {s with heap:=s.heap.push {cls:=.type "range",data:=.fields #[.int lo t,.int hi u,.int 1 v]},toks:=tk}:=I.kept fun b o e=>Af _ e
 refine⟨(s.heap.push {cls:=.type "range",data:=.fields #[.int lo t,.int hi u,.int 1 v]}).objs.size,[(s.heap.push {cls:=.type "range",data:=.fields #[.int lo t,.int hi u,.int 1 v]}).objs.size],_,_,H,rfl,
  I1.kept (t':=tk) fun b o e=>Af _ e,lM _ lo (hi-lo).toNat,?_,fun b hb=>?_,q⟩
 . have e1:lo+((0:Nat):Int)*1=lo:=by simp
   have e2:(((hi-lo).toNat:Nat):Int)-((0:Nat):Int)=CQ lo hi 1:=by rw[rangeSize_one];split<;>omega
   show IsRangeIter _ _ (lo+((0:Nat):Int)*1) ((((hi-lo).toNat:Nat):Int)-((0:Nat):Int)) 1
   rw[e1,e2]
   exact AI _ rfl
 . have e:b=(s.heap.push {cls:=.type "range",data:=.fields #[.int lo t,.int hi u,.int 1 v]}).objs.size:=by simpa using hb
   subst e
   exact I1.ZY (Ai _) (I1.hok.fresh (Ai _))
noncomputable def WA(ta:TA):TI:=fun σ H R=>ta σ H fun vs H1=>∃j:Int,vs=[.int j]∧-(2 ^ 62)≤j∧j<2 ^ 62∧R (Itr 0 j.toNat) H1
noncomputable def WB(ta:TA):TI:=fun σ H R=>ta σ H fun vs H1=>∃i j:Int,vs=[.int i,.int j]∧(-(2 ^ 62)≤i∧i<2 ^ 62∧-(2 ^ 62)≤j∧j<2 ^ 62)∧R (Itr i (j-i).toNat) H1
theorem iC{a:Expr}{ta:TA}{p pos:Pos}(hg:Gl X "range")(hm:X.mg "range"=none)(ha:PA X [a] ta)(hs:AR [a] X.env=[(false,eval a X.env)]:=by rfl):PI X tg (.Call (.Name "range" p) [a] [] pos) (WA ta):=by
 intro pins s σ H R I h
 refine Call_ (u6 I hg hm boot_range (DY (thn (ha pos pins s σ H _ I h) fun us s1 ⟨vs,H1,I1,r1,q1⟩=>?_) hs rfl))
 obtain⟨j,e,q1,q2,q⟩:=q1
 subst e
 cases r1 with
 |cons r rr=>
  cases rr
  obtain⟨t,rfl⟩:=r
  exact call_range_1 (nY I1 (by omega) (by omega) q1 q2 (by simpa using q))
theorem iD{a b:Expr}{ta:TA}{p pos:Pos}(hg:Gl X "range")(hm:X.mg "range"=none)(ha:PA X [a,b] ta)(hs:AR [a,b] X.env=[(false,eval a X.env),(false,eval b X.env)]:=by rfl)(hs2:AR [b] X.env=[(false,eval b X.env)]:=by rfl) :
 PI X tg (.Call (.Name "range" p) [a,b] [] pos) (WB ta):=by
 intro pins s σ H R I h
 refine Call_ (u6 I hg hm boot_range (DY (thn (ha pos pins s σ H _ I h) fun us s1 ⟨vs,H1,I1,r1,q1⟩=>?_) (by rw[hs,hs2]) (by rw[hs2];rfl)))
 obtain⟨i,j,e,⟨q1,q2,q3,q4⟩,q⟩:=q1
 subst e
 cases r1 with
 |cons r rr=>
  cases rr with
  |cons r' rr=>
   cases rr
   obtain⟨t,rfl⟩:=r
   obtain⟨t',rfl⟩:=r'
   exact call_range_2 (nY I1 q1 q2 q3 q4 q)
noncomputable def V5(wi:TI)(g:TG)(tb:TS):TS:=fun D σ H=>wi σ H fun J H1=>∃W:Nat→Nat→St→Hp→Prop,(∃m,W 0 m σ H1)∧∀i m σ H,W i m σ H →
 (J.stop i H∧D.nx σ H)∨(J.go i H∧∃N:St→Hp→Prop,(∀σ' H',N σ' H'→∃m',m'<m∧W (i+1) m' σ' H')∧∀x H',J.yld i H x H'→g x σ H' fun σ2 H2=>tb {D with nx:=N,ct:=N,bk:=D.nx} σ2 H2)
noncomputable def rL(fp:List Addr)(h:Heap):List (Addr × Obj):=fp.filterMap fun b=>(h.get? b).map fun o=>(b,o)
theorem wq{fp:List Addr}{h:Heap}{b:Addr}{o:Obj}(hb:b∈fp)(e:h.get? b=some o):(b,o)∈rL fp h:=Er.mpr ⟨b,hb,by rw[e];rfl⟩
theorem ju{fp:List Addr}{h:Heap}{p:Addr × Obj}(hp:p∈rL fp h):p.1∈fp∧h.get? p.1=some p.2:=by
 obtain⟨b,hb,e⟩:=Er.mp hp
 cases q:h.get? b with
 |none=>rw[q]at e;cases e
 |some o=>
  rw[q]at e
  have e':(b,o)=p:=AO e
  subst e'
  exact⟨hb,q⟩
theorem Inv.pinned{pins:List (Addr × Obj)}{σ:St}{H:Hp}{s:Shared}{fp:List Addr}(I:Inv X pins σ H s)(hf:∀b∈fp,tm X pins H b)(ho:∀b∈fp,∃o,s.heap.get? b=some o∧∀v,o.data≠.cell v):Inv X (pins++rL fp s.heap) σ H s:=
 I.kU fun p hp=>(A3.mp hp).elim (fun z=>I.pin p (Bh _ z)) fun z=>by
   obtain⟨hb,e⟩:=ju z
   obtain⟨f0,f1,f2,_⟩:=hf p.1 hb
   obtain⟨o,e',d⟩:=ho p.1 hb
   rw[e]at e';cases e'
   exact⟨e,f0,f1,f2,d⟩
theorem Inv.uf{pins pl:List (Addr × Obj)}{σ:St}{H:Hp}{s:Shared}(I:Inv X (pins++pl) σ H s):Inv X pins σ H s:=I.kU fun p hp=>I.pin p (Bh _ (BC _ hp))
theorem Y5{iter:Expr}{body:List Stmt}{wi:TI}{g:TG}{tb:TS}{pos:Pos}(hp:FG (model X.prog X.w) X.A X.env X.xe)(hc:X.calm=true)(hi:PI X tg iter wi)(hg:PG X tg g)(hb:PSs X body tb)
 (hs:∀x,Bb iter X.env x=pure x:=by intro _;rfl):PS X (.For tg iter body [] pos) (V5 wi g tb):=by
 intro pins s σ H D I h
 refine wpAny_For (thn (hi pins s σ H _ I h) fun v s1 h1=>thn h1 fun itv s2 h2=>?_) hs
 obtain⟨it,fp,tn,J,H2,e,I2,T,st2,f2,W,⟨m0,w0⟩,turn⟩:=h2
 subst e
 -- what stays true of the iterator's objects through the loop
 have stat:∀{H':Hp},(∀b∈fp,H' b=none)→∀b∈fp,tm X pins H' b:=fun hn b hb=>⟨hn b hb,(f2 b hb).2⟩
 refine codeAny_forLoop_any (fun n s'=>∃i σ' H',Inv X pins σ' H' s'∧tn i s'.heap∧(∀b∈fp,H' b=none)∧W i n σ' H') ?_ m0 ⟨0,σ,H2,I2,st2,fun b hb=>(f2 b hb).1,w0⟩
 rintro n s3 ⟨i,σ3,H3,I3,st3,fr3,w3⟩
 rcases turn i n σ3 H3 w3 with⟨stop,qn⟩|⟨go,N,hN,step⟩
 . refine Dc hp (thn (T.done X rfl rfl rfl hc i pins s3 σ3 H3 X.xe I3 (stat fr3) st3 stop) fun r s4 ⟨hr,I4⟩=>?_)
   subst hr
   exact GF ⟨σ3,H3,I4,qn⟩
 . refine Dc hp (thn (T.item X rfl rfl rfl hc i pins s3 σ3 H3 X.xe I3 (stat fr3) st3 go) fun r s4 ⟨u,hr,h4⟩=>?_)
   subst hr
   refine Dc hp (thn h4 fun _ s5 ⟨x,H5,I5,r5,y5,st5,fr5⟩=>?_)
   have I5':=I5.pinned (stat fr5) (T.obj _ _ st5)
   refine Dc hp (thn (hg _ s5 σ3 H5 x u _ I5' r5 (step x H5 y5)) fun _ s6 ⟨σ6,H6,I6,q6⟩=>?_)
   refine Dc hp (thn (hb _ s6 σ6 H6 _ I6 q6) fun f s7 q7=>?_)
   have again:∀{σ7:St} {H7:Hp},Inv X (pins++rL fp s5.heap) σ7 H7 s7→N σ7 H7→∃m,m<n∧∃i σ' H',Inv X pins σ' H' s7∧tn i s7.heap∧(∀b∈fp,H' b=none)∧W i m σ' H':=fun{σ7 H7} I7 n7=>by
    obtain⟨m',hm,w7⟩:=hN σ7 H7 n7
    refine⟨m',hm,i+1,σ7,H7,I7.uf,T.keep _ _ _ st5 fun b hb o e=>(I7.pin (b,o) (Bh _ (Bh _ (wq hb e)))).1,fun b hb=>?_,w7⟩
    obtain⟨o,e,d⟩:=T.obj _ _ st5 b hb
    exact(I7.pin (b,o) (Bh _ (Bh _ (wq hb e)))).2.1
   cases f with
   |next=>obtain⟨σ7,H7,I7,n7⟩:=q7;exact again I7 n7
   |cont=>obtain⟨σ7,H7,I7,n7⟩:=q7;exact again I7 n7
   |brk=>obtain⟨σ7,H7,I7,q7⟩:=q7;exact⟨σ7,H7,I7.uf,q7⟩
   |ret v=>obtain⟨x7,σ7,H7,I7,r7,q7⟩:=q7;exact⟨x7,σ7,H7,I7.uf,r7,q7⟩
end
end L2
namespace L2
open PySem PySem.Spec PyProof.Rows
noncomputable abbrev R2:=V→V→Hp→VK→Prop
def OpR(X:Cx)(f:Value→Value→Sem Value)(r:R2):Prop:=
 ∀(pins:List (Addr × Obj)) (s:Shared) (σ:St) (H:Hp) (x y:V) (v u:Value) (Q:VK),Inv X pins σ H s→RelV x v→RelV y u→r x y H Q →
  wpAny (model X.prog X.w) X.A (f v u) (EP X pins σ Q) X.xe s
def UnR(X:Cx)(f:Value→Sem Value)(r:V→Hp→VK→Prop):Prop:=
 ∀(pins:List (Addr × Obj)) (s:Shared) (σ:St) (H:Hp) (x:V) (v:Value) (Q:VK),Inv X pins σ H s→RelV x v→r x H Q →
  wpAny (model X.prog X.w) X.A (f v) (EP X pins σ Q) X.xe s
def yA(X:Cx)(f:Value)(r:List V→Hp→VK→Prop):Prop:=
 ∀(pins:List (Addr × Obj)) (s:Shared) (σ:St) (H:Hp) (xs:List V) (us:List Value) (Q:VK),Inv X pins σ H s→Vals xs us→r xs H Q →
  wpAny (model X.prog X.w) X.A (call f us) (EP X pins σ Q) X.xe s
def Vk(X:Cx)(r:V→Hp→(Bool→Hp→Prop)→Prop):Prop:=
 ∀(pins:List (Addr × Obj)) (s:Shared) (σ:St) (H:Hp) (x:V) (v:Value) (Q:Bool→Hp→Prop),Inv X pins σ H s→RelV x v→r x H Q →
  wpAny (model X.prog X.w) X.A (truthy v) (TP X pins σ Q) X.xe s
noncomputable def tOp(r:R2)(ta tb:TE):TE:=fun σ H Q=>ta σ H fun x H1=>tb σ H1 fun y H2=>r x y H2 Q
noncomputable def tUn(r:V→Hp→VK→Prop)(ta:TE):TE:=fun σ H Q=>ta σ H fun x H1=>r x H1 Q
noncomputable def rI(C:Int→Int→Prop)(g:Int→Int→V):R2:=fun x y H Q=>∃i j,x=.int i∧y=.int j∧C i j∧Q (g i j) H
noncomputable def rI0(g:Int→Int→V):R2:=fun x y H Q=>∃i j,x=.int i∧y=.int j∧Q (g i j) H
noncomputable def rU(g:Int→V):V→Hp→VK→Prop:=fun x H Q=>∃i,x=.int i∧Q (g i) H
section
variable {X:Cx}{a b c:Expr}{ta tb tc:TE}{pos:Pos}
theorem ZN(ha:PE X a ta)(hb:PE X b tb){pins:List (Addr × Obj)}{s:Shared}{σ:St}{H:Hp}{R:V→V→Hp→Prop}(I:Inv X pins σ H s)
 (h:ta σ H fun x H1=>tb σ H1 fun y H2=>R x y H2) {Q:Value→Shared→Prop} {f:Value→Value→Sem Value}
 (hf:∀v u s2 x y H2,Inv X pins σ H2 s2→RelV x v→RelV y u→R x y H2→wpAny (model X.prog X.w) X.A (f v u) Q X.xe s2) :
 wpAny (model X.prog X.w) X.A (eval a X.env) (fun v s₁=>wpAny (model X.prog X.w) X.A (eval b X.env) (fun u s₂=>wpAny (model X.prog X.w) X.A (f v u) Q X.xe s₂) X.xe s₁) X.xe s:=by
 refine thn (ha pins s σ H _ I h) fun v s1 ⟨x,H1,I1,r1,q1⟩=>?_
 refine thn (hb pins s1 σ H1 _ I1 q1) fun u s2 ⟨y,H2,I2,r2,q2⟩=>?_
 exact hf v u s2 x y H2 I2 r1 r2 q2
theorem Ww{op:Operator}{r:R2}(ho:OpR X (BH op) r)(ha:PE X a ta)(hb:PE X b tb):PE X (.BinOp a op b pos) (tOp r ta tb):=by
 intro pins s σ H Q I h
 exact wpAny_BinOp (ZN ha hb I h fun v u s2 x y H2 I2 rx ry q=>ho pins s2 σ H2 x y v u Q I2 rx ry q)
theorem Wy{op:UnaryOp}{r:V→Hp→VK→Prop}(ho:UnR X (unaryOp op) r)(ha:PE X a ta):PE X (.UnaryOp op a pos) (tUn r ta):=by
 intro pins s σ H Q I h
 exact UnaryOp_ (thn (ha pins s σ H _ I h) fun v s1 ⟨x,H1,I1,r1,q1⟩=>ho pins s1 σ H1 x v Q I1 r1 q1)
theorem opI{f:Value→Value→Sem Value}{C:Int→Int→Prop}{g:Int→Int→Int}
 (rule:∀(i j:Int) (t u:Tok) (s:Shared) (Q:Value→Shared→Prop) (E:Value→Shared→Prop),C i j→Q (.int (g i j) s.toks) {s with toks:=s.toks+1}→wpAny (model X.prog X.w) X.A (f (.int i t) (.int j u)) Q E s) :
 OpR X f (rI C fun i j=>.int (g i j)):=by
 intro pins s σ H x y v u Q I rx ry h
 obtain⟨i,j,rfl,rfl,hc,q⟩:=h
 obtain⟨t,rfl⟩:=rx
 obtain⟨t',rfl⟩:=ry
 exact rule i j t t' s _ _ hc ⟨.int (g i j),H,I.tok _,⟨_,rfl⟩,q⟩
theorem bB{f:Value→Value→Sem Value}{g:Int→Int→Int}
 (rule:∀(i j:Int) (t u:Tok) (s:Shared) (Q:Value→Shared→Prop) (E:Value→Shared→Prop),Q (.int (g i j) s.toks) {s with toks:=s.toks+1}→wpAny (model X.prog X.w) X.A (f (.int i t) (.int j u)) Q E s) :
 OpR X f (rI0 fun i j=>.int (g i j)):=by
 intro pins s σ H x y v u Q I rx ry h
 obtain⟨i,j,rfl,rfl,q⟩:=h
 obtain⟨t,rfl⟩:=rx
 obtain⟨t',rfl⟩:=ry
 exact rule i j t t' s _ _ ⟨.int (g i j),H,I.tok _,⟨_,rfl⟩,q⟩
theorem bA{f:Value→Value→Sem Value}{g:Int→Int→Bool}
 (rule:∀(i j:Int) (t u:Tok) (s:Shared) (Q:Value→Shared→Prop) (E:Value→Shared→Prop),Q (.bool (g i j)) s→wpAny (model X.prog X.w) X.A (f (.int i t) (.int j u)) Q E s) :
 OpR X f (rI0 fun i j=>.bl (g i j)):=by
 intro pins s σ H x y v u Q I rx ry h
 obtain⟨i,j,rfl,rfl,q⟩:=h
 obtain⟨t,rfl⟩:=rx
 obtain⟨t',rfl⟩:=ry
 exact rule i j t t' s _ _ ⟨.bl (g i j),H,I,rfl,q⟩
def ZF(i j:Int):Prop:=0<j∧j<1073741824
def Vh(i j:Int):Prop:=0≤j∧j≤1000000∧i.natAbs<2 ^ 64
def dH(i j:Int):Prop:=(-(2 ^ 64)<i∧i<2 ^ 64)∨(-(2 ^ 64)<j∧j<2 ^ 64)
theorem dH.ok{i j:Int}(h:dH i j):IntMulOk i j:=by
 rcases h with⟨h1,h2⟩|⟨h1,h2⟩
 . exact .of_left (intBits_le_64 h1 h2)
 . exact .of_right (intBits_le_64 h1 h2)
theorem YW:OpR X (BH .Add) (rI0 fun i j=>.int (i+j)):=bB fun _ _ _ _ _ _ _ q=>add_int q
theorem Ye:OpR X (BH .Sub) (rI0 fun i j=>.int (i-j)):=bB fun _ _ _ _ _ _ _ q=>sub_int q
theorem Yb:OpR X (BH .Mult) (rI dH fun i j=>.int (i*j)):=opI fun _ _ _ _ _ _ _ hc q=>mul_int q hc.ok
theorem bD:OpR X (BH .FloorDiv) (rI ZF fun i j=>.int (i/j)):=opI fun i j _ _ _ _ _ hc q=>by
 have h1:(0:Int)<j:=hc.1
 have h2:j<1073741824:=hc.2
 exact floordiv_int (by omega) (by rw[Eb i (by omega)];exact q) (.inl (EN (by omega)))
theorem Ya:OpR X (BH .Mod) (rI (fun _ j=>0<j) fun i j=>.int (i%j)):=opI fun i j _ _ _ _ _ hc q=>by
 have h1:(0:Int)<j:=hc
 exact mod_int' (by omega) (by rw[Ec i (by omega)];exact q)
theorem Yc:OpR X (BH .Pow) (rI Vh fun i j=>.int (i ^ j.toNat)):=opI fun _ _ _ _ _ _ _ hc q=>pow_int_small hc.1 hc.2.1 hc.2.2 q
theorem dn:OpR X (Ep .Add) (rI0 fun i j=>.int (i+j)):=bB fun _ _ _ _ _ _ _ q=>iadd_int q
theorem du:OpR X (Ep .Sub) (rI0 fun i j=>.int (i-j)):=bB fun _ _ _ _ _ _ _ q=>isub_int q
theorem dr:OpR X (Ep .Mult) (rI dH fun i j=>.int (i*j)):=opI fun _ _ _ _ _ _ _ hc q=>imul_int q hc.ok
theorem gO:OpR X (Ep .FloorDiv) (rI ZF fun i j=>.int (i/j)):=opI fun i j _ _ _ _ _ hc q=>by
 have h1:(0:Int)<j:=hc.1
 have h2:j<1073741824:=hc.2
 exact ifloordiv_int (by omega) (by rw[Eb i (by omega)];exact q) (.inl (EN (by omega)))
theorem dq:OpR X (Ep .Mod) (rI (fun _ j=>0<j) fun i j=>.int (i%j)):=opI fun i j _ _ _ _ _ hc q=>by
 have h1:(0:Int)<j:=hc
 exact imod_int (by omega) (by rw[Ec i (by omega)];exact q)
theorem unI{f:Value→Sem Value}{g:Int→Int}
 (rule:∀(i:Int) (t:Tok) (s:Shared) (Q:Value→Shared→Prop) (E:Value→Shared→Prop),Q (.int (g i) s.toks) {s with toks:=s.toks+1}→wpAny (model X.prog X.w) X.A (f (.int i t)) Q E s) :
 UnR X f (rU fun i=>.int (g i)):=by
 intro pins s σ H x v Q I rx h
 obtain⟨i,rfl,q⟩:=h
 obtain⟨t,rfl⟩:=rx
 exact rule i t s _ _ ⟨.int (g i),H,I.tok _,⟨_,rfl⟩,q⟩
theorem Xc:UnR X (unaryOp .USub) (rU fun i=>.int (-i)):=unI fun _ _ _ _ _ q=>neg_int q
end
noncomputable def VJ:V→V→Bool
 |.non,.non=>true|.non,.int _=>true|.int _,.non=>true|.non,.bl _=>true|.bl _,.non=>true|.non,.str _=>true|.str _,.non=>true
 |.int _,.int _=>true|.bl _,.bl _=>true|.str _,.str _=>true|.byt _,.byt _=>true
 |.int _,.str _=>true|.str _,.int _=>true|.bl _,.str _=>true|.str _,.bl _=>true
 |_,_=>false
noncomputable def rEq:R2:=fun x y H Q=>VJ x y=true∧Q (.bl (decide (x=y))) H
noncomputable def rNe:R2:=fun x y H Q=>VJ x y=true∧Q (.bl (!decide (x=y))) H
theorem lr{i j:Int}:decide (V.int i=V.int j)=(i == j):=by
 rw[BD]
 simp
theorem gA{i j:Bool}:decide (V.bl i=V.bl j)=(i == j):=by
 rw[BD]
 simp
theorem lu{i j:Str}:decide (V.str i=V.str j)=(i == j):=by
 rw[BD]
 simp
theorem lq{i j:Array UInt8}:decide (V.byt i=V.byt j)=(i.toList == j.toList):=by
 rw[BD]
 cases i
 cases j
 simp
section
variable {X:Cx}{a b c:Expr}{ta tb tc:TE}{pos:Pos}
theorem zb{pins:List (Addr × Obj)}{σ:St}{H:Hp}{s:Shared}{Q:VK}{k k':Bool}(I:Inv X pins σ H s)(q:Q (.bl k) H)(e:k=k'):EP X pins σ Q (.bool k') s:=by
 subst e
 exact⟨.bl k,H,I,rfl,q⟩
theorem WY:OpR X (A7 .Eq) rEq:=by
 intro pins s σ H x y v u Q I rx ry h
 obtain⟨hs,q⟩:=h
 cases x with
 |non=>
  cases rx
  cases y with
  |non=>cases ry;exact PySem.EqNone.eq_none_none (zb I q (by simp))
  |bl j=>cases ry;exact PySem.EqNone.eq_none_bool (zb I q (by simp))
  |int j=>obtain⟨t',rfl⟩:=ry;exact PySem.EqNone.eq_none_int (zb I q (by simp))
  |str j=>obtain⟨t',rfl⟩:=ry;exact PySem.EqNone.eq_none_str (zb I q (by simp))
  |_=>exact absurd (show false=true from hs) An
 |bl i=>
  cases rx
  cases y with
  |non=>cases ry;exact PySem.EqNone.eq_bool_none (zb I q (by simp))
  |bl j=>cases ry;exact eq_bool (zb I q gA)
  |str j=>obtain⟨t',rfl⟩:=ry;exact PySem.EqMixed.eq_bool_str (zb I q (by simp))
  |_=>exact absurd (show false=true from hs) An
 |int i=>
  obtain⟨t,rfl⟩:=rx
  cases y with
  |non=>cases ry;exact PySem.EqNone.eq_int_none (zb I q (by simp))
  |int j=>obtain⟨t',rfl⟩:=ry;exact eq_int (zb I q lr)
  |str j=>obtain⟨t',rfl⟩:=ry;exact PySem.EqMixed.eq_int_str (zb I q (by simp))
  |_=>exact absurd (show false=true from hs) An
 |str i=>
  obtain⟨t,rfl⟩:=rx
  cases y with
  |non=>cases ry;exact PySem.EqNone.eq_str_none (zb I q (by simp))
  |bl j=>cases ry;exact PySem.EqMixed.eq_str_bool (zb I q (by simp))
  |int j=>obtain⟨t',rfl⟩:=ry;exact PySem.EqMixed.eq_str_int (zb I q (by simp))
  |str j=>obtain⟨t',rfl⟩:=ry;exact eq_str (zb I q lu)
  |_=>exact absurd (show false=true from hs) An
 |byt i=>
  obtain⟨t,rfl⟩:=rx
  cases y with
  |byt j=>obtain⟨t',rfl⟩:=ry;exact PySem.W.eq_bytes (zb I q lq)
  |_=>exact absurd (show false=true from hs) An
 |_=>cases y<;>exact absurd (show false=true from hs) An
theorem Wd:OpR X (A7 .NotEq) rNe:=by
 intro pins s σ H x y v u Q I rx ry h
 obtain⟨hs,q⟩:=h
 cases x with
 |non=>
  cases rx
  cases y with
  |non=>cases ry;exact PySem.EqNone.ne_none_none (zb I q (by simp))
  |bl j=>cases ry;exact PySem.EqNone.ne_none_bool (zb I q (by simp))
  |int j=>obtain⟨t',rfl⟩:=ry;exact PySem.EqNone.ne_none_int (zb I q (by simp))
  |str j=>obtain⟨t',rfl⟩:=ry;exact PySem.EqNone.ne_none_str (zb I q (by simp))
  |_=>exact absurd (show false=true from hs) An
 |bl i=>
  cases rx
  cases y with
  |non=>cases ry;exact PySem.EqNone.ne_bool_none (zb I q (by simp))
  |bl j=>cases ry;exact ne_bool (zb I q (congrArg not gA))
  |str j=>obtain⟨t',rfl⟩:=ry;exact PySem.EqMixed.ne_bool_str (zb I q (by simp))
  |_=>exact absurd (show false=true from hs) An
 |int i=>
  obtain⟨t,rfl⟩:=rx
  cases y with
  |non=>cases ry;exact PySem.EqNone.ne_int_none (zb I q (by simp))
  |int j=>obtain⟨t',rfl⟩:=ry;exact ne_int (zb I q (congrArg not lr))
  |str j=>obtain⟨t',rfl⟩:=ry;exact PySem.EqMixed.ne_int_str (zb I q (by simp))
  |_=>exact absurd (show false=true from hs) An
 |str i=>
  obtain⟨t,rfl⟩:=rx
  cases y with
  |non=>cases ry;exact PySem.EqNone.ne_str_none (zb I q (by simp))
  |bl j=>cases ry;exact PySem.EqMixed.ne_str_bool (zb I q (by simp))
  |int j=>obtain⟨t',rfl⟩:=ry;exact PySem.EqMixed.ne_str_int (zb I q (by simp))
  |str j=>obtain⟨t',rfl⟩:=ry;exact ne_str (zb I q (congrArg not lu))
  |_=>exact absurd (show false=true from hs) An
 |byt i=>
  obtain⟨t,rfl⟩:=rx
  cases y with
  |byt j=>obtain⟨t',rfl⟩:=ry;exact PySem.W.ne_bytes (zb I q (congrArg not lq))
  |_=>exact absurd (show false=true from hs) An
 |_=>cases y<;>exact absurd (show false=true from hs) An
theorem Wc:OpR X (A7 .Lt) (rI0 fun i j=>.bl (decide (i<j))):=bA fun _ _ _ _ _ _ _ q=>lt_int q
theorem Wb:OpR X (A7 .LtE) (rI0 fun i j=>.bl (decide (i≤j))):=bA fun _ _ _ _ _ _ _ q=>le_int q
theorem Wa:OpR X (A7 .Gt) (rI0 fun i j=>.bl (decide (j<i))):=bA fun _ _ _ _ _ _ _ q=>gt_int q
theorem WZ:OpR X (A7 .GtE) (rI0 fun i j=>.bl (decide (j≤i))):=bA fun _ _ _ _ _ _ _ q=>ge_int q
theorem YZ:OpR X (A7 .Is) (fun x y H Q=>y=.non∧Q (.bl (decide (x=.non))) H):=by
 intro pins s σ H x y v u Q I rx ry h
 obtain⟨rfl,q⟩:=h
 cases ry
 refine is_none_gen (zb I q ?_)
 cases x<;>first
  |(cases rx;rfl)
  |(obtain⟨t,rfl⟩:=rx;rfl)
theorem bE:OpR X (A7 .IsNot) (fun x y H Q=>y=.non∧Q (.bl (!decide (x=.non))) H):=by
 intro pins s σ H x y v u Q I rx ry h
 obtain⟨rfl,q⟩:=h
 cases ry
 refine isnot_none_gen (zb I q ?_)
 cases x<;>first
  |(cases rx;rfl)
  |(obtain⟨t,rfl⟩:=rx;rfl)
theorem bP{op:CmpOp}{r:R2}(ho:OpR X (A7 op) r)(ha:PE X a ta)(hb:PE X b tb)(hm:G6 op b=false):PE X (.Compare a [op] [b] pos) (tOp r ta tb):=by
 intro pins s σ H Q I h
 exact wpAny_Compare1 (ZN ha hb I h fun v u s2 x y H2 I2 rx ry q=>ho pins s2 σ H2 x y v u Q I2 rx ry q) hm
noncomputable def a8(t:TE):TT:=fun σ H Q=>t σ H fun x H'=>∃k,x=.bl k∧Q k H'
theorem bp{op:CmpOp}{r:R2}(ho:OpR X (A7 op) r)(ha:PE X a ta)(hb:PE X b tb)(hm:G6 op b=false):PT X (.Compare a [op] [b] pos) (a8 (tOp r ta tb)):=by
 intro pins s σ H Q I h
 refine wpAny_isTrue_Compare1 (thn (ha pins s σ H _ I h) fun v s1 ⟨x,H1,I1,r1,q1⟩=>thn (hb pins s1 σ H1 _ I1 q1) fun u s2 ⟨y,H2,I2,r2,q2⟩=>
  thn (ho pins s2 σ H2 x y v u _ I2 r1 r2 q2) fun c s3 ⟨z,H3,I3,r3,k,e,q3⟩=>?_) hm
 subst e
 cases r3
 exact B4 ⟨H3,I3,q3⟩
noncomputable def eY(r r':R2)(ta tb tc:TE):TE:=fun σ H Q=>ta σ H fun x H1=>tb σ H1 fun y H2=>r x y H2 fun z H3=>∃k,z=.bl k ∧
 (if k=true then tc σ H3 fun w' H4=>r' y w' H4 Q else Q (.bl false) H3)
theorem fZ{op op':CmpOp}{r r':R2}(ho:OpR X (A7 op) r)(ho':OpR X (A7 op') r')(ha:PE X a ta)(hb:PE X b tb)(hc:PE X c tc)
 (hm:He [op,op'] [b,c]=false:=by with_unfolding_all rfl):PE X (.Compare a [op,op'] [b,c] pos) (eY r r' ta tb tc):=by
 intro pins s σ H Q I h
 refine Compare_chain (thn (ha pins s σ H _ I h) fun v s1 ⟨x,H1,I1,r1,q1⟩=>chain_link (thn (hb pins s1 σ H1 _ I1 q1) fun u s2 ⟨y,H2,I2,r2,q2⟩=>
  thn (ho pins s2 σ H2 x y v u _ I2 r1 r2 q2) fun d s3 ⟨z,H3,I3,r3,k,e,q3⟩=>?_)) hm
 subst e
 cases r3
 refine B4 ?_
 cases k with
 |false=>exact ite_ff ⟨.bl false,H3,I3,rfl,q3⟩
 |true=>exact ite_tt (chain_last (thn (hc pins s3 σ H3 _ I3 q3) fun w' s4 ⟨z',H4,I4,r4,q4⟩=>ho' pins s4 σ H4 y z' u w' Q I4 r2 r4 q4))
theorem f6{op op':CmpOp}{r r':R2}(ho:OpR X (A7 op) r)(ho':OpR X (A7 op') r')(ha:PE X a ta)(hb:PE X b tb)(hc:PE X c tc)
 (hm:He [op,op'] [b,c]=false:=by with_unfolding_all rfl):PT X (.Compare a [op,op'] [b,c] pos) (a8 (eY r r' ta tb tc)):=by
 intro pins s σ H Q I h
 refine isTrue_chain (thn (ha pins s σ H _ I h) fun v s1 ⟨x,H1,I1,r1,q1⟩=>test_link (thn (hb pins s1 σ H1 _ I1 q1) fun u s2 ⟨y,H2,I2,r2,q2⟩=>
  thn (ho pins s2 σ H2 x y v u _ I2 r1 r2 q2) fun d s3 ⟨z,H3,I3,r3,k,e,q3⟩=>?_)) hm
 subst e
 cases r3
 refine B4 ?_
 cases k with
 |false=>
  obtain⟨k',e',q'⟩:=q3
  cases e'
  exact ite_ff ⟨H3,I3,q'⟩
 |true=>
  refine ite_tt (test_last (thn (hc pins s3 σ H3 _ I3 q3) fun w' s4 ⟨z',H4,I4,r4,q4⟩=>thn (ho' pins s4 σ H4 y z' u w' _ I4 r2 r4 q4) fun d' s5 ⟨z2,H5,I5,r5,k2,e2,q5⟩=>?_))
  subst e2
  cases r5
  exact B4 ⟨H5,I5,q5⟩
def dJ(K:Av)(x:V)(H:Hp)(k:Bool):Prop:=
 match x with
 |.non=>k=false
 |.bl b=>k=b
 |.int i=>k=(i != 0)
 |.str y=>y.length≤Az∧k=((y.length:Int) != 0)
 |.byt y=>y.size≤Az∧k=((y.size:Int) != 0)
 |.ref p=>(∃xs,SqL K H p xs∧k=!xs.isEmpty)∨(∃xs,SqT K H p xs∧k=!xs.isEmpty)∨∃kvs,H p=some (.dK kvs)∧k=!kvs.isEmpty
 |_=>False
theorem mI{κ:Type}{kvs:List (κ × V)}{vs:List (κ × Value)}(r:KV kvs vs):(!vs.isEmpty)=!kvs.isEmpty:=by
 cases r<;>rfl
theorem sg{xs:List V}{its:List Value}(r:Vals xs its):(!its.toArray.isEmpty)=!xs.isEmpty:=by
 cases r<;>simp
theorem v3:(Az:Nat)<2 ^ 63:=by rw[Bi];decide
theorem eo:Vk X (fun x H Q=>∃k,dJ X.K x H k∧Q k H):=by
 intro pins s σ H x v Q I rx h
 obtain⟨k,e,q⟩:=h
 have hl:=v3
 have hs:Az=16777216:=Bi
 cases x with
 |non=>
  cases rx
  have e':k=false:=e
  subst e'
  exact truthy_none ⟨H,I,q⟩
 |bl b=>
  cases rx
  have e':k=b:=e
  subst e'
  exact B4 ⟨H,I,q⟩
 |int i=>
  obtain⟨t,rfl⟩:=rx
  have e':k=(i != 0):=e
  subst e'
  exact PySem.P.truthy_int ⟨H,I,q⟩
 |str y=>
  obtain⟨t,rfl⟩:=rx
  obtain⟨hy,e'⟩:y.length≤Az∧k=((y.length:Int) != 0):=e
  subst e'
  exact PySem.P.truthy_str (by omega) ⟨H,I.tok _,q⟩
 |byt y=>
  obtain⟨t,rfl⟩:=rx
  obtain⟨hy,e'⟩:y.size≤Az∧k=((y.size:Int) != 0):=e
  subst e'
  exact PySem.W.truthy_bytes (by omega) ⟨H,I.tok _,q⟩
 |ref p=>
  cases rx
  have e':(∃xs,SqL X.K H p xs∧k=!xs.isEmpty)∨(∃xs,SqT X.K H p xs∧k=!xs.isEmpty)∨∃kvs,H p=some (.dK kvs)∧k=!kvs.isEmpty:=e
  rcases e' with⟨xs,hx,e'⟩|⟨xs,hx,e'⟩|⟨kvs,hx,e'⟩
  . subst e'
    obtain⟨its,r,pl,hz⟩:=I.list hx
    have hlen:=r.length
    exact wpAny_truthy_list pl.isList (by simp only[Ah];omega) ⟨H,I.tok _,by rw[sg r];exact q⟩
  . subst e'
    obtain⟨its,r,pl,hz⟩:=I.tuple hx
    have hlen:=r.length
    exact truthy_tuple pl (by simp only[Ah];omega) ⟨H,I.tok _,by rw[sg r];exact q⟩
  . subst e'
    obtain⟨hz,hS,vs,r,m⟩:kvs.length≤Az∧(p == BO)=false∧∃vs,KV kvs vs∧s.heap.DictOf (yX X.prog X.w) p vs:=I.hok p _ hx
    have hlen:kvs.length=vs.length:=FQ r
    exact wpAny_truthy_dict hS m (by omega) ⟨H,I.tok _,by rw[mI r];exact q⟩
 |_=>exact(show False from e).elim
theorem f7(ha:PE X a ta)(he:∀whole,isTrue a X.env whole=(do let v ←whole;standAt a.pos;holding [v] (truthy v))) :
 PT X a (fun σ H Q=>ta σ H fun x H'=>∃k,dJ X.K x H' k∧Q k H'):=by
 intro pins s σ H Q I h
 exact isTrue_plain (thn (ha pins s σ H _ I h) fun v s1 ⟨x,H1,I1,r1,q1⟩=>eo pins s1 σ H1 x v Q I1 r1 q1) (he _)
theorem mW:OpR X (BH .Add) (fun x y H Q=>∃i j,x=.str i∧y=.str j∧i.length+j.length≤Az∧Q (.str (i++j)) H):=by
 intro pins s σ H x y v u Q I rx ry h
 obtain⟨i,j,rfl,rfl,hz,q⟩:=h
 obtain⟨t,rfl⟩:=rx
 obtain⟨t',rfl⟩:=ry
 exact add_str (fun t' tk=>⟨.str (i++j),H,I.tok _,⟨_,rfl⟩,q⟩) hz
theorem vals1{x:V}{us:List Value}(r:Vals [x] us):∃u,us=[u]∧RelV x u:=by
 cases r with
 |cons r1 r2=>cases r2;exact⟨_,rfl,r1⟩
theorem vals2{x y:V}{us:List Value}(r:Vals [x,y] us):∃u w',us=[u,w']∧RelV x u∧RelV y w':=by
 cases r with
 |cons r1 r2=>
  cases r2 with
  |cons r3 r4=>cases r4;exact⟨_,_,rfl,r1,r3⟩
theorem ky(hc:X.calm=true):yA X (.builtin "max") (fun xs H Q=>∃i j,xs=[.int i,.int j]∧Q (.int (if j > i then j else i)) H):=by
 intro pins s σ H xs us Q I r h
 obtain⟨i,j,rfl,q⟩:=h
 obtain⟨u,w',rfl,⟨t,rfl⟩,⟨t',rfl⟩⟩:=vals2 r
 refine max_two_ints (I.ok.hd hc) fun h' tk k=>⟨_,H,I.kept k,?_,q⟩
 by_cases hj:j > i
 . rw[if_pos hj,if_pos hj];exact⟨_,rfl⟩
 . rw[if_neg hj,if_neg hj];exact⟨_,rfl⟩
theorem jB(hc:X.calm=true):yA X (.builtin "min") (fun xs H Q=>∃i j,xs=[.int i,.int j]∧Q (.int (if j<i then j else i)) H):=by
 intro pins s σ H xs us Q I r h
 obtain⟨i,j,rfl,q⟩:=h
 obtain⟨u,w',rfl,⟨t,rfl⟩,⟨t',rfl⟩⟩:=vals2 r
 refine min_two_ints (I.ok.hd hc) fun h' tk k=>⟨_,H,I.kept k,?_,q⟩
 by_cases hj:j<i
 . rw[if_pos hj,if_pos hj];exact⟨_,rfl⟩
 . rw[if_neg hj,if_neg hj];exact⟨_,rfl⟩
theorem qQ:yA X (.type "int") (fun xs H Q=>(∃i,xs=[.int i]∧Q (.int i) H)∨∃k,xs=[.bl k]∧Q (.int (if k then 1 else 0)) H):=by
 intro pins s σ H xs us Q I r h
 rcases h with⟨i,rfl,q⟩|⟨k,rfl,q⟩
 . obtain⟨u,rfl,t,rfl⟩:=vals1 r
   exact call_int_int ⟨.int i,H,I,⟨_,rfl⟩,q⟩
 . obtain⟨u,rfl,r1⟩:=vals1 r
   cases r1
   exact call_int_bool ⟨.int (if k then 1 else 0),H,I.tok _,⟨_,rfl⟩,q⟩
theorem vA:yA X (.builtin "divmod") (fun xs H Q=>∃i j,xs=[.int i,.int j]∧ZF i j∧∀p,H p=none→Q (.ref p) (upd H p (.tup [.int (i/j),.int (i%j)]))):=by
 intro pins s σ H xs us Q I r h
 obtain⟨i,j,rfl,⟨h1,h2⟩,q⟩:=h
 obtain⟨u,w',rfl,⟨t,rfl⟩,⟨t',rfl⟩⟩:=vals2 r
 refine divmod_int (by omega) ?_ (.inl (EN (by omega)))
 rw[Eb i (by omega),Ec i (by omega)]
 have hn:H s.heap.objs.size=none:=I.hok.fresh (Ai _)
 refine⟨.ref s.heap.objs.size,_,?_,rfl,q _ hn⟩
 refine I.laid (fun b o e=>Af _ e) (Ai _) ⟨by simp only[AE,Cp];rw[Bi];decide,[.int (i/j) s.toks,.int (i%j) (s.toks+1)],.cons ⟨_,rfl⟩ (.cons ⟨_,rfl⟩ .nil),?_⟩
 exact⟨_,AI s.heap rfl,rfl,0,rfl,rfl⟩
end
end L2
namespace L2
open PySem PySem.Spec PyProof.Rows
structure ZG(h:Heap)(x dx C:Addr)(mA:Str→Option Value):Prop where
 obj:h.get? x=some (GD C dx)
 ns:h.Ns1 dx mA
 ne:dx≠x
theorem jj{h:Heap}{dx:Addr}{mA:Str→Option Value}(n:h.Ns1 dx mA):∃od,h.get? dx=some od∧∀name,GS name od=some (mA name):=by
 obtain⟨o,es,ep,ho,hd,hk,_,hm⟩:=n
 refine⟨o,ho,fun name=>?_⟩
 have e:=hm name
 unfold nsFind findBy at e
 rw[←Array.find?_toList]at e
 unfold GS
 rw[hd]
 dsimp only
 split
 . rename_i y q
   rw[q]at e
   exact congrArg some e
 . rename_i q
   rw[q]at e
   have a:es.toList.any (·.refKey)=false:=by
    rw[List.any_eq_false]
    intro y hy
    obtain⟨z,t,hkey⟩:=hk y (Array.mem_toList_iff.mp hy)
    simp[DictEntry.refKey,hkey]
   have a':¬es.toList.any (·.refKey)=true:=by rw[a];exact An
   rw[if_neg a']
   exact congrArg some e
theorem ZG.look{h:Heap}{x dx C:Addr}{mA:Str→Option Value}(I:ZG h x dx C mA):∃od,PySem.W.InstAt h x (GD C dx) C (some od)∧∀name,GS name od=some (mA name):=
 let ⟨od,ho,hl⟩:=jj I.ns
 ⟨od,⟨I.obj,rfl,rfl,ho⟩,hl⟩
theorem sJ.some_of{v:V}{o:Option Value}(r:sJ (some v) o):∃u,o=some u∧RelV v u:=by
 cases o with
 |none=>exact(show False from r).elim
 |some u=>exact⟨u,rfl,r⟩
section
variable {P:Program}{w:World}{H H':Hp}{h h':Heap}{a C dx:Addr}{fs fs':List (Str × V)}
theorem dm(hok:HOk P w H h)(e:H a=some (.ins C dx fs)):∃mA,ZG h a dx C mA∧(∀f,sJ (fs.lookup f) (mA f))∧PySem.Within mA (fs.map (·.1))∧fs.length≤1000∧H dx=some (.own a):=by
 obtain⟨d,z,ne,ob,mA,n,r,q⟩:=(show ze P w H h a (.ins C dx fs) from hok a _ e)
 exact⟨mA,⟨ob,n,ne⟩,r,q,z,d⟩
end
structure Cls(K:Av)(C:Addr):Prop where
 pg:PySem.W.plainGet K C Str.empty=true
 hd:PySem.W.hasDictIn K C=true
 po:PySem.W.plainOver K C=true
 sa:PySem.W.findIn K (.ref C) "__setattr__"=some (some (.builtin "object.__setattr__"))
theorem Cls.get{K:Av}{C:Addr}(c:Cls K C)(f:Str):PySem.W.plainGet K C f=true:=c.pg
section
variable {X:Cx}{pins:List (Addr × Obj)}{σ:St}{H:Hp}{s:Shared}{A:Around}{E:Value→Shared→Prop}{Q:Value→Shared→Prop}{c:Value}{b:Bool}
inductive uC(K:Av)(H:Hp):V→Value→Prop where
 |non:uC K H .non (.type "NoneType")
 |bl (x:Bool):uC K H (.bl x) (.type "bool")
 |int (i:Int):uC K H (.int i) (.type "int")
 |str (x:Str):uC K H (.str x) (.type "str")
 |flt (x:UInt64):uC K H (.flt x) (.type "float")
 |lst {a:Addr} {xs:List V} (e:H a=some (.lst xs)):uC K H (.ref a) (.type "list")
 |frz {a:Addr} {o:Obj} {xs:List V} (e:H a=some (.frz o (.lst xs))):uC K H (.ref a) (.type "list")
 |tup {a:Addr} {xs:List V} (e:H a=some (.tup xs)):uC K H (.ref a) (.type "tuple")
 |dK {a:Addr} {kvs:List (Key × V)} (e:H a=some (.dK kvs)):uC K H (.ref a) (.type "dict")
 |dT {a:Addr} {kvs:List (List Key × V)} (e:H a=some (.dT kvs)):uC K H (.ref a) (.type "dict")
 |ins {a C dx:Addr} {fs:List (Str × V)} (e:H a=some (.ins C dx fs)) (cl:Cls K C) (ha:PySem.W.findIn K (.ref C) "__class__"=some (some (.builtin "object.__class__")))
  (hn:PySem.W.specialIn K (.builtin "object.__class__") "__get__"=some (some (.builtin "getset_descriptor.__get__"))) (htk:PySem.W.takesIn K (.builtin "object.__class__")=some true)
  (hm:PySem.W.mroIn K C (.type "object")=some true):uC K H (.ref a) (.ref C)
theorem jT{x:V}{u t:Value}(I:Inv X pins σ H s)(rx:RelV x u)(ty:uC X.K H x t)(e:GU X.K t c=some b)(h:∀tk,Q (.bool b) {s with toks:=tk}) :
 wpAny (model X.prog X.w) A (call (.builtin "isinstance") [u,c]) Q E s:=by
 cases ty with
 |non=>cases (show u=Aj from rx);exact BY PySem.W.kitx_none I.kIn Bd e (fun z=>nomatch z) h
 |bl y=>cases (show u=D0 y from rx);exact BY PySem.W.kitx_bool I.kIn Bd e (fun z=>nomatch z) h
 |int i=>obtain⟨t,q⟩:=(show ∃t,u=DG i t from rx);cases q;exact BY PySem.W.kitx_int I.kIn Bd e (fun z=>nomatch z) h
 |str y=>obtain⟨t,q⟩:=(show ∃t,u=GB y t from rx);cases q;exact BY PySem.W.kitx_str I.kIn Bd e (fun z=>nomatch z) h
 |flt y=>obtain⟨t,q⟩:=(show ∃t,u=Value.float y t from rx);cases q;exact BY PySem.W.kitx_float I.kIn Bd e (fun z=>nomatch z) h
 |@lst a xs ea=>
  cases (show u=Bc a from rx)
  obtain⟨_,_,n,_,h1⟩:=(show ze X.prog X.w H s.heap a (.lst xs) from I.hok a _ ea)
  exact BY PySem.W.kitx_list I.kIn ⟨_,h1,rfl⟩ e (fun z=>nomatch z) h
 |@frz a ob xs ea=>
  cases (show u=Bc a from rx)
  obtain⟨_,_,_,n,_,h1⟩:=(show ze X.prog X.w H s.heap a (.frz ob (.lst xs)) from I.hok a _ ea)
  exact BY PySem.W.kitx_list I.kIn ⟨_,h1,rfl⟩ e (fun z=>nomatch z) h
 |@tup a xs ea=>
  cases (show u=Bc a from rx)
  obtain⟨_,_,_,p⟩:=(show ze X.prog X.w H s.heap a (.tup xs) from I.hok a _ ea)
  obtain⟨o,h1,h2,_⟩:=p
  exact BY PySem.W.kitx_tuple I.kIn ⟨o,h1,h2⟩ e (fun z=>nomatch z) h
 |@dK a kvs ea=>
  cases (show u=Bc a from rx)
  obtain⟨_,_,vs,_,p⟩:=(show ze X.prog X.w H s.heap a (.dK kvs) from I.hok a _ ea)
  obtain⟨o,es,ep,h1,h2,_⟩:=p
  exact BY PySem.W.kitx_dict I.kIn ⟨o,h1,h2.1⟩ e (fun z=>nomatch z) h
 |@dT a kvs ea=>
  cases (show u=Bc a from rx)
  obtain⟨_,_,xs,_,o,es,ep,h1,h2,_⟩:=(show ze X.prog X.w H s.heap a (.dT kvs) from I.hok a _ ea)
  exact BY PySem.W.kitx_dict I.kIn ⟨o,h1,h2.1⟩ e (fun z=>nomatch z) h
 |@ins a C dx fs ea cl ha hn htk hm=>
  cases (show u=Bc a from rx)
  obtain⟨mA,O,_⟩:=dm I.hok ea
  obtain⟨od,J,_⟩:=O.look
  exact BY (PySem.W.kitx_own (cl.get _) cl.hd ha hn htk hm) I.kIn J e (fun z=>nomatch z) h
end
end L2
namespace L2
open PySem PySem.Spec PyProof.Rows
structure yp(k:Nat)(A:Around):Prop where
 hd:A.handled=none
 dp:A.depth+3*k+5<recursionLimit
 un:A.units+16*k+200<cLine
 gd:A.guards=some []
theorem yp.deeper{k:Nat}{A:Around}(r:yp (k+1) A)(env:Env):yp k (A.deeper env):=
 ⟨r.hd,by have:=r.dp;show A.depth+1+3*k+5<_;omega,by have:=r.un;show A.units+3+16*k+200<_;omega,r.gd⟩
theorem yp.depth{k:Nat}{A:Around}(r:yp k A):A.depth<recursionLimit:=by have:=r.dp;omega
noncomputable def lE:TA:=fun _ H Q=>Q [] H
noncomputable def rV(ta:TE)(tr:TA):TA:=fun σ H Q=>ta σ H fun x H1=>tr σ H1 fun xs H2=>Q (x::xs) H2
section
variable {X:Cx}{e:Expr}{es:List Expr}{te:TE}{t:TA}{pos:Pos}
theorem vK:PA X [] lE:=fun _ _ _ _ H Q I h=>Calls.spliced_nil ⟨[],H,I,.nil,h⟩
theorem bM(ha:PE X e te)(hr:PA X es t)(hs:AR (e::es) X.env=(false,eval e X.env)::AR es X.env:=by rfl):PA X (e::es) (rV te t):=by
 intro pos pins s σ H Q I h
 rw[hs]
 show wpAny _ _ (spliced ((false,eval e X.env)::backTo pos (AR es X.env))) _ _ s
 refine Calls.spliced_cons (thn (ha pins s σ H _ I h) fun u s1 ⟨x,H1,I1,r1,q1⟩=>?_)
 exact thn (hr pos pins s1 σ H1 _ I1 q1) fun us s2 ⟨xs,H2,I2,r2,q2⟩=>⟨x::xs,H2,I2,.cons r1 r2,q2⟩
noncomputable def UC(t:TA):TE:=fun σ H Q=>t σ H fun xs H1=>xs.length≤Az∧∀p,H1 p=none→Q (.ref p) (upd H1 p (.tup xs))
noncomputable def V7(t:TA):TE:=fun σ H Q=>t σ H fun xs H1=>xs.length≤Az∧∀p,H1 p=none→Q (.ref p) (upd H1 p (.lst xs))
theorem Y0{x1}(h:PA X es t):PE X (.Tuple es x1 pos) (UC t):=by
 intro pins s σ H Q I hq
 refine wpAny_Tuple_spliced (thn (h pos pins s σ H _ I hq) fun us s1 ⟨xs,H1,I1,r,z,q⟩=>⟨by rw[←r.length];exact z,?_⟩)
 have hf:H1 s1.heap.objs.size=none:=I1.hok.fresh (Ai _)
 refine⟨.ref s1.heap.objs.size,upd H1 s1.heap.objs.size (.tup xs),I1.laid (t':=s1.toks) (fun b u e=>Af _ e) (Ai _) ?_,rfl,q _ hf⟩
 exact⟨z,us,r,⟨_,AI _ rfl,rfl,_,rfl,rfl⟩⟩
theorem Yv(h:PA X es t):PE X (.List es pos) (V7 t):=by
 intro pins s σ H Q I hq
 refine wpAny_List_spliced (thn (h pos pins s σ H _ I hq) fun us s1 ⟨xs,H1,I1,r,z,q⟩=>⟨by rw[←r.length];exact z,?_⟩)
 have hf:H1 s1.heap.objs.size=none:=I1.hok.fresh (Ai _)
 refine⟨.ref s1.heap.objs.size,upd H1 s1.heap.objs.size (.lst xs),I1.laid (t':=s1.toks) (fun b u e=>Af _ e) (Ai _) ?_,rfl,q _ hf⟩
 exact⟨z,us,0,r,AI _ rfl⟩
end
noncomputable abbrev Sp:=List V→Hp→VK→XK→Prop
noncomputable abbrev CXT:=List Env→Hp→Shared→XK→Value→Shared→Prop
structure dI(P:Program)(w:World)(K:Av)(mg:Str→Option Value)(base:Heap)(A:Around)(outer:List Env)(s:Shared)(H:Hp):Prop where
 frames:A.frames=some outer
 mod:Mod K mg base
 bs:∀b o,base.get? b=some o→s.heap.get? b=some o∧H b=none
 bsz:base.objs.size≤s.heap.objs.size
 sY:s.heap.FunFrames base outer
 frf:∀b∈frs outer,H b=none
 hok:HOk P w H s.heap
 bare:AllBare s.gens
def CE(outer:List Env)(P:Program)(w:World)(H:Hp)(s:Shared)(Q:VK)(u:Value)(s':Shared):Prop:=
 ∃v H',s'.os=s.os∧AllBare s'.gens∧Un (frs outer) [] H H' s.heap s'.heap∧HOk P w H' s'.heap∧RelV v u∧Q v H'
def CR(CX:CXT)(outer:List Env)(P:Program)(w:World)(H:Hp)(s:Shared)(Q:VK)(E:XK)(r:Result)(s':Shared):Prop:=
 match r with
 |.ok (.ret u)=>CE outer P w H s Q u s'
 |.ok _=>False
 |.error e=>CX outer H s E e s'
structure tj(P:Program)(w:World)(K:Av)(mg:Str→Option Value)(base:Heap)(CX:CXT)(k:Nat)(f:Addr)(fd:B9)(ps:List Str)(sp:Sp):Prop where
 len:∀vs H Q E,sp vs H Q E→vs.length=ps.length
 run:∀(A:Around) (outer:List Env) (s:Shared) (H:Hp) (args:Args) (us:List Value) (vs:List V) (Q:VK) (E:XK),yp k A→dI P w K mg base A outer s H→BindsTo s fd args (ps.zip us)→Vals vs us→sp vs H Q E →
  codeAny (model P w) A (.call (.ref f) args) (CR CX outer P w H s Q E) s
theorem tj.imp{P:Program}{w:World}{K:Av}{mg:Str→Option Value}{base:Heap}{CX:CXT}{k:Nat}{f:Addr}{fd:B9}{ps:List Str}{sp sp':Sp}(F:tj P w K mg base CX k f fd ps sp)
 (h:∀vs H Q E,sp' vs H Q E→sp vs H Q E):tj P w K mg base CX k f fd ps sp':=
 ⟨fun vs H Q E q=>F.len vs H Q E (h _ _ _ _ q),fun A outer s H args us vs Q E hr he hb hv hs=>F.run A outer s H args us vs Q E hr he hb hv (h _ _ _ _ hs)⟩
section
variable {X:Cx}{pins:List (Addr × Obj)}{σ:St}{H:Hp}{s s':Shared}
theorem Inv.Vo(I:Inv X pins σ H s):dI X.prog X.w X.K X.mg X.base X.A X.stack s H:=
 ⟨I.ok.frames,I.ok.mod,I.bs,AB I.ok.bsz I.sz,I.stack,I.ka,I.hok,I.bare⟩
theorem Inv.after{Q:VK}{u:Value}(I:Inv X pins σ H s)(h:CE X.stack X.prog X.w H s Q u s'):EP X pins σ Q u s':=by
 obtain⟨v,H',os,bare,un,hok,r,q⟩:=h
 obtain⟨hh,g,d,t,os'⟩:=s'
 obtain rfl:os'=s.os:=os
 exact⟨v,H',I.call (h':=hh) (g':=g) (d':=d) (t':=t) (ch:=[]) un hok bare (fun b z=>absurd z (by simp)),r,q⟩
end
noncomputable def ay(sp:Sp)(dvs:List V)(E:XK)(t:TA):TE:=fun σ H Q=>t σ H fun vs H1=>sp (vs++dvs) H1 Q E
def Binds(K:Av)(fd:B9)(ps:List Str)(ds:List Value):Prop:=
 ∀(s:Shared) (us:List Value),K.In s.heap→(us++ds).length=ps.length→BindsTo s fd ⟨us,[]⟩ (ps.zip (us++ds))
theorem Binds.all{K:Av}{fd:B9}{ps:List Str}(h:∀us:List Value,us.length=ps.length→bindArgs fd ⟨us,[]⟩=pure (ps.zip us)):Binds K fd ps []:=fun s us _ hl=>by
 rw[AZ]at hl ⊢
 exact .of_eq (h us hl)
def Passes(CX:CXT)(X:Cx)(E:XK):Prop:=∀(pins:List (Addr × Obj)) (σ:St) (H:Hp) (s:Shared) (e:Value) (s':Shared),Inv X pins σ H s→CX X.stack H s E e s'→X.xe e s'
section
variable {X:Cx}{CX:CXT}{k:Nat}{f C:Addr}{fd:B9}{ps:List Str}{sp:Sp}{dvs:List V}{ds:List Value}{E:XK}{x m:Str}{p pos apos:Pos}{e o:Expr}{es:List Expr}{ta:TE}{t:TA}
theorem eL{pins:List (Addr × Obj)}{σ:St}{H:Hp}{s:Shared}{Q:VK}{us:List Value}{vs:List V}(F:tj X.prog X.w X.K X.mg X.base CX k f fd ps sp)(hr:yp k X.A)(hb:Binds X.K fd ps ds)(hd:Vals dvs ds)(hx:Passes CX X E)
 (I:Inv X pins σ H s) (r:Vals vs us) (h:sp (vs++dvs) H Q E):wpAny (model X.prog X.w) X.A (call (.ref f) us) (EP X pins σ Q) X.xe s:=by
 have r2:Vals (vs++dvs) (us++ds):=r.append hd
 have hl:(us++ds).length=ps.length:=by rw[←r2.length];exact F.len _ _ _ _ h
 refine wpAny_call (codeAny_mono (F.run X.A X.stack s H ⟨us,[]⟩ (us++ds) (vs++dvs) Q E hr I.Vo (hb s us I.kIn hl) r2 h) fun r s' hq=>?_)
 cases r with
 |error e=>exact hx pins σ H s e s' I hq
 |ok fl=>
  cases fl with
  |ret u=>exact I.after hq
  |next=>exact C0 hq
  |brk=>exact C0 hq
  |cont=>exact C0 hq
theorem bO(F:tj X.prog X.w X.K X.mg X.base CX k f fd ps sp)(hr:yp k X.A)(hg:Gl X x)(hm:X.mg x=some (.ref f))(hk:Dt X.K (.ref f)=true)(hb:Binds X.K fd ps ds)(hd:Vals dvs ds)(hx:Passes CX X E)
 (ha:PA X (e::es) t) (hdb:(x == ("__debug__":Str))=false:=by decide) (he:AR (e::es) X.env=(false,eval e X.env)::AR es X.env:=by rfl) (hpl:(backTo pos (AR es X.env)).any (·.1)=false:=by rfl) :
 PE X (.Call (.Name x p) (e::es) [] pos) (ay sp dvs E t):=by
 intro pins s σ H Q I h
 refine DH (pW I hg hm ?_ hdb)
 refine PySem.W.callWith_K (h₀:=X.base) I.ok.mod.kin hk (thn (ha pos pins s σ H _ I h) fun us s1 ⟨vs,H1,I1,r,q⟩=>⟨I1.kIn,?_⟩) he hpl
 exact eL F hr hb hd hx I1 r q
theorem fX(F:tj X.prog X.w X.K X.mg X.base CX k f fd ps sp)(hr:yp k X.A)(hg:Gl X x)(hm:X.mg x=some (.ref f))(hk:Dt X.K (.ref f)=true)(hb:Binds X.K fd ps ds)(hd:Vals dvs ds)(hx:Passes CX X E)
 (hdb:(x == ("__debug__":Str))=false:=by decide):PE X (.Call (.Name x p) [] [] pos) (ay sp dvs E lE):=by
 intro pins s σ H Q I h
 refine DH (pW I hg hm ?_ hdb)
 exact PySem.W.callWith_K0 I.kIn hk (eL (us:=[]) F hr hb hd hx I .nil h)
end
def PK(X:Cx)(kws:List Keyword)(t:TA):Prop:=
 ∀(pos:Pos) (pins:List (Addr × Obj)) (s:Shared) (σ:St) (H:Hp) (Q:List V→Hp→Prop),Inv X pins σ H s→t σ H Q→wpAny (model X.prog X.w) X.A (evalAll ((Gg pos (EO kws X.env)).map (·.2))) (AP X pins σ Q) X.xe s
section
variable {X:Cx}{CX:CXT}{k:Nat}{f C:Addr}{fd:B9}{ps ks:List Str}{sp:Sp}{E:XK}{x m:Str}{p pos apos kpos:Pos}{e o:Expr}{es:List Expr}{kws:List Keyword}{te ta:TE}{t tk:TA}{nm:Option Str}
theorem Y3:PK X [] lE:=fun _ _ _ _ H Q I h=>wpAny_evalAll_nil ⟨[],H,I,.nil,h⟩
theorem bX(ha:PE X e te)(hr:PK X kws t):PK X (⟨nm,e,kpos⟩::kws) (rV te t):=by
 intro pos pins s σ H Q I h
 show wpAny _ _ (evalAll ((do let v ←eval e X.env;standAt pos;pure v)::(Gg pos (EO kws X.env)).map (·.2))) _ _ s
 refine wpAny_evalAll_cons (Ac (thn (ha pins s σ H _ I h) fun u s1 ⟨x,H1,I1,r1,q1⟩=>Ac (CP (Al ?_))))
 exact thn (hr pos pins s1 σ H1 _ I1 q1) fun us s2 ⟨xs,H2,I2,r2,q2⟩=>⟨x::xs,H2,I2,.cons r1 r2,q2⟩
variable {g:List Value→List Value→List Value}{gV:List V→List V→List V}
end
structure t5(N P:List Str)(sc:Scope):Prop where
 kind:sc.kind=.function
 co:sc.isCoroutine=false
 gen:sc.isGenerator=false
 nd:N.Nodup
 pre:N.take P.length=P
 par:∀x∈P,sc.names.lookup x=some .local∨sc.names.lookup x=some .cell
 nofree:∀y∈sc.names,y.2≠.free
theorem qP{kindOf:Str→Option CV}{x:Str}:∀{binds:List (Str × Value)} {m:Str→Option Value},(∀v,(x,v) ∉ binds)→bindL kindOf binds m x=m x
 |[],_,_=>rfl
 |(n,v)::r,m,h=>by
  unfold bindL
  rw[qP fun w hw=>h w (AJ _ hw)]
  split
  . have:x≠n:=by rintro rfl;exact h v AY
    simp[this]
  . rfl
theorem qN{kindOf:Str→Option CV}{x:Str}:∀{binds:List (Str × Value)} {m:Str→Option Value},(∀v,(x,v) ∉ binds)→bindC kindOf binds m x=m x
 |[],_,_=>rfl
 |(n,v)::r,m,h=>by
  unfold bindC
  rw[qN fun w hw=>h w (AJ _ hw)]
  split
  . rfl
  . have:x≠n:=by rintro rfl;exact h v AY
    simp[this]
theorem qO{kindOf:Str→Option CV}{x:Str}{v:Value}:∀{P:List Str} {vs:List Value} {i:Nat} {m:Str→Option Value},P.Nodup→P[i]?=some x→vs[i]?=some v→kindOf x=some .local →
 bindL kindOf (P.zip vs) m x=some v
 |[],_,_,_,_,h,_,_=>by simp at h
 |_::_,[],_,_,_,_,h,_=>by simp at h
 |p::P,w::vs,0,m,nd,h1,h2,hk=>by
  simp at h1 h2;subst h1;subst h2
  show bindL kindOf ((p,w)::P.zip vs) m p=_
  unfold bindL
  rw[qP fun v hv=>(BE.mp nd).1 (GG hv).1,if_pos hk]
  simp
 |p::P,w::vs,i+1,m,nd,h1,h2,hk=>by
  show bindL kindOf ((p,w)::P.zip vs) m x=_
  unfold bindL
  exact qO (i:=i) (BE.mp nd).2 (by simpa using h1) (by simpa using h2) hk
theorem qM{kindOf:Str→Option CV}{x:Str}{v:Value}:∀{P:List Str} {vs:List Value} {i:Nat} {m:Str→Option Value},P.Nodup→P[i]?=some x→vs[i]?=some v→kindOf x≠some .local →
 bindC kindOf (P.zip vs) m x=some v
 |[],_,_,_,_,h,_,_=>by simp at h
 |_::_,[],_,_,_,_,h,_=>by simp at h
 |p::P,w::vs,0,m,nd,h1,h2,hk=>by
  simp at h1 h2;subst h1;subst h2
  show bindC kindOf ((p,w)::P.zip vs) m p=_
  unfold bindC
  rw[qN fun v hv=>(BE.mp nd).1 (GG hv).1,if_neg hk]
  simp
 |p::P,w::vs,i+1,m,nd,h1,h2,hk=>by
  show bindC kindOf ((p,w)::P.zip vs) m x=_
  unfold bindC
  exact qM (i:=i) (BE.mp nd).2 (by simpa using h1) (by simpa using h2) hk
noncomputable def start(N:List Str)(vs:List V):St:=vs.map some++AN (N.length-vs.length) none
noncomputable def mC(CX:CXT)(P:Program)(w:World)(K:Av)(mg:Str→Option Value)(base:Heap)(N:List Str)(qual:Str)(scope:Scope)(f:Addr)(cd:Value)(A:Around)(outer:List Env)(s:Shared)(H:Hp)(E:XK):Cx where
 prog:=P
 w:=w
 K:=K
 mg:=mg
 base:=base
 A:=A.deeper (envOfC qual scope s.heap.objs.size f cd)
 N:=N
 s₀:=s
 H₀:=H
 env:=envOfC qual scope s.heap.objs.size f cd
 outer:=outer
 stack:=envOfC qual scope s.heap.objs.size f cd::outer
 ex:=[]
 calm:=true
 fn:=fun _=>true
 pn:=[]
 xe:=fun e s'=>wpAny (model P w) (A.deeper (envOfC qual scope s.heap.objs.size f cd)) (leaving (envOfC qual scope s.heap.objs.size f cd) e) (fun _ s''=>CX outer H s E e s'') (fun e' s''=>CX outer H s E e' s'') s'
theorem oV{sc:Scope}{n:Nat}{x:Str}(h:sc.names.lookup x=some .cell):∃c,(cellsFrom n sc.names []).lookup x=some c:=by
 have q:=PySem.W.cellsFrom_some sc.names n [] (.inl h)
 exact Option.isSome_iff_exists.mp q
theorem jQ{CX:CXT}{P:Program}{w:World}{K:Av}{mg:Str→Option Value}{base:Heap}{N ps:List Str}{qual:Str}{scope:Scope}{f:Addr}{cd:Value}{A:Around}{outer:List Env}{s s1:Shared}{H:Hp}{E:XK}{us:List Value}{vs:List V}
 (S:t5 N ps scope) (hd:A.handled=none) (e0:dI P w K mg base A outer s H) (hl:vs.length=ps.length) (r:Vals vs us)
 (x:InCallC s s.heap.objs.size (bindL (envOfC qual scope s.heap.objs.size f cd).kindOf (ps.zip us) fun _=>none) (cellsFrom (s.heap.objs.size+1) scope.names []) (bindC (envOfC qual scope s.heap.objs.size f cd).kindOf (ps.zip us) fun _=>none) s1) :
 Inv (mC CX P w K mg base N qual scope f cd A outer s H E) [] (start N vs) H s1:=by
 have hpl:ps.length≤N.length:=by have:=congrArg DL S.pre;rw[Bn]at this;omega
 obtain⟨h1,tk,rfl,hk⟩:=x.done
 have noA:∀b:Addr,b ∉ (mC CX P w K mg base N qual scope f cd A outer s H E).ex:=fun b z=>absurd (show b∈([]:List Addr) from z) (by simp)
 refine⟨⟨e0.mod,S.kind,rfl,rfl,Ai _,fun y z c h1 h2=>?_,fun y hy=>?_,fun y c _ h=>?_,fun _=>hd,Around.frames_deeper e0.frames,.inr ⟨rfl,rfl⟩,fun b z=>absurd z (noA b),e0.bs,e0.bsz,fun b _ _=>noA b,fun b z=>absurd z (noA b),e0.sY,e0.frf⟩,
  rfl,e0.bare,Un.kept hk,⟨_,x.toInCall.ns,fun i y v h1 h2 h3=>?_⟩,fun y c h=>⟨_,x.cell y c h⟩,e0.hok.fresh (Ai _),fun y c h=>?_,fun p hp=>absurd (show p∈([]:List (Addr × Obj)) from hp) (by simp),e0.hok.kept hk,?_⟩
 . exact name_of_addr x.apart (CT h1) (CT h2)
 . have hy:scope.names.lookup y=some .cell∨scope.names.lookup y=some .free:=hy
   rcases hy with hy|hy
   . exact oV hy
   . exact absurd rfl (S.nofree _ (CT hy))
 . exact DR (x.above y c (CT h))
 . have hi:i<vs.length:=by
    unfold start at h2
    by_cases hi:i<vs.length
    . exact hi
    . rw[AW (by simpa using hi)]at h2
      rw[Gw]at h2
      split at h2<;>cases h2
   have ha:vs[i]?=some v:=by
    unfold start at h2
    rw[AQ (by simpa using hi),Ay]at h2
    cases e:vs[i]? with
    |none=>rw[e]at h2;cases h2
    |some a=>rw[e]at h2;cases h2;rfl
   obtain⟨u,hu,rv⟩:=r.get ha
   have hp:ps[i]?=some y:=by
    rw[←S.pre,BR (by omega)];exact h1
   have ndP:ps.Nodup:=by rw[←S.pre];exact S.nd.sublist (CK _ _)
   refine⟨u,rv,?_⟩
   rcases S.par y (AM hp) with k|k
   . exact .inl ⟨k,qO ndP hp hu k⟩
   . obtain⟨c,e⟩:=oV (n:=s.heap.objs.size+1) k
     refine .inr ⟨.inl k,c,e,?_⟩
     have q:=x.cell y c e
     rw[qM ndP hp hu (by show scope.names.lookup y≠_;rw[k];decide)]at q
     exact q
 . exact e0.hok.fresh (DR (x.above y c (CT h)))
 . unfold start
   show _=N.length
   rw[Aw,Ag,Fd]
   omega
theorem X2{CX:CXT}{P:Program}{w:World}{K:Av}{mg:Str→Option Value}{base:Heap}{k:Nat}{f:Addr}{name qual:Str}{params:GA}{body:List Stmt}{scope:Scope}{dV kV doc pm cdv ct oc:Value}{an od:Option Addr}
 {osl:Array (Option Value)} {N ps:List Str} {sp:Sp} (lk:K.lookup f=some ⟨oc,od,.func (CC name qual params body scope dV kV doc pm an cdv ct),osl⟩) (hcd:Dr K cdv qual=true) (S:t5 N ps scope)
 (len:∀vs H Q E,sp vs H Q E→vs.length=ps.length)
 (hbody:∀(A:Around) (outer:List Env) (s:Shared) (H:Hp) (vs:List V) (Q:VK) (E:XK),yp k (A.deeper (envOfC qual scope s.heap.objs.size f cdv))→sp vs H Q E →
  ∃t,PSs (mC CX P w K mg base N qual scope f cdv A outer s H E) body t∧t {nx:=fun _ H'=>Q .non H',rt:=Q} (start N vs) H) :
 tj P w K mg base CX (k+1) f (CC name qual params body scope dV kV doc pm an cdv ct) ps sp:=by
 refine⟨len,fun A outer s H args us vs Q E hr e0 hb r hsp=>?_⟩
 have hl:=len _ _ _ _ hsp
 have KX:K.In s.heap:=e0.mod.kin.keeps fun b o e=>(e0.bs b o e).1
 have lim:s.heap.NoLimit:=e0.mod.nolimit.keeps fun b o e=>(e0.bs b o e).1
 have hkind:∀y∈ps.zip us,scope.names.lookup y.1=some .local∨(scope.names.lookup y.1=some .cell∧((cellsFrom (s.heap.objs.size+1) scope.names []).lookup y.1).isSome=true):=fun⟨n,v⟩ hy=>by
  rcases S.par n (GG hy).1 with q|q
  . exact .inl q
  . exact .inr ⟨q,PySem.W.cellsFrom_some _ _ _ (.inl q)⟩
 refine codeAny_call_function hr.depth (KX _ _ lk) rfl S.co S.gen rfl (PySem.W.codeRec_of KX hcd) (hb _ _ _ _ ?_)
 refine wpAny_newFunctionEnv_cells S.kind hkind fun env he s1 x=>?_
 subst he
 refine⟨lim.keeps x.toInCall.keep,codeAny_func ?_⟩
 obtain⟨t,ht,hq⟩:=hbody A outer s H vs Q E (hr.deeper _) hsp
 have I:Inv (mC CX P w K mg base N qual scope f cdv A outer s H E) [] (start N vs) H s1:=jQ S hr.hd e0 hl r x
 refine Cu (ht [] s1 (start N vs) H _ I hq) (fun fl s' hs=>?_) fun e s' hs=>hs
 have fin:∀{σ':St} {H':Hp} {v:V} {u:Value},Inv (mC CX P w K mg base N qual scope f cdv A outer s H E) [] σ' H' s'→RelV v u→Q v H'→CE outer P w H s Q u s':=
  fun{σ' H' v u} J rv q=>⟨v,H',J.os,J.bare,J.base,J.hok,rv,q⟩
 cases fl with
 |ret u=>
  obtain⟨v,σ',H',J,rv,q⟩:=hs
  exact fin J rv q
 |next=>
  obtain⟨σ',H',J,q⟩:=hs
  exact fin (v:=V.non) (u:=Aj) J rfl q
 |brk=>
  obtain⟨_,_,_,q⟩:=hs
  exact C0 q
 |cont=>
  obtain⟨_,_,_,q⟩:=hs
  exact C0 q
end L2
namespace L2
open PySem PySem.Spec PyProof.Rows
section
variable {X:Cx}{x:Str}{p pos:Pos}{e:Expr}{es:List Expr}{t:TA}{id T:String}{r:List V→Hp→VK→Prop}
noncomputable def tCB(r:List V→Hp→VK→Prop)(t:TA):TE:=fun σ H Q=>t σ H fun vs H1=>r vs H1 Q
theorem fY(hc:yA X (.builtin id) r)(hg:Gl X x)(hm:X.mg x=none)(hv:CD x=some (.builtin id))(ha:PA X (e::es) t)(hn:x≠"__name__":=by decide)(hdb:(x == ("__debug__":Str))=false:=by decide)
 (he:AR (e::es) X.env=(false,eval e X.env)::AR es X.env:=by rfl) (hpl:(backTo pos (AR es X.env)).any (·.1)=false:=by rfl):PE X (.Call (.Name x p) (e::es) [] pos) (tCB r t):=by
 intro pins s σ H Q I h
 refine DH (u6 I hg hm hv ?_ hn hdb)
 exact PyProof.Rows.callWith_builtin1 (thn (ha pos pins s σ H _ I h) fun us s1 ⟨vs,H1,I1,r1,q1⟩=>hc pins s1 σ H1 vs us Q I1 r1 q1) he hpl
theorem vW(hc:yA X (.type T) r)(hg:Gl X x)(hm:X.mg x=none)(hv:CD x=some (.type T))(ha:PA X (e::es) t)(hn:x≠"__name__":=by decide)(hdb:(x == ("__debug__":Str))=false:=by decide)
 (he:AR (e::es) X.env=(false,eval e X.env)::AR es X.env:=by rfl) (hpl:(backTo pos (AR es X.env)).any (·.1)=false:=by rfl):PE X (.Call (.Name x p) (e::es) [] pos) (tCB r t):=by
 intro pins s σ H Q I h
 refine DH (u6 I hg hm hv ?_ hn hdb)
 exact DY (thn (ha pos pins s σ H _ I h) fun us s1 ⟨vs,H1,I1,r1,q1⟩=>hc pins s1 σ H1 vs us Q I1 r1 q1) he hpl
end
end L2
namespace HT
open PySem PyProof.Rows
section
variable {prog:Program}{w:World}{A:Around}{E:Value→Shared→Prop}{s:Shared}
theorem dY{t b:Addr}{vs ws:List Value}{Q:Value→Shared→Prop}(ht:IsTup s.heap t vs.toArray)(hb:IsTup s.heap b ws.toArray)(hv:vs≠[])
 (h1:ws=[]→Q (.ref t) s) (h2:ws≠[]→Q (.ref s.heap.objs.size) {s with heap:=s.heap.push {cls:=.type "tuple",data:=.seq (vs++ws).toArray}})
 (hsz:vs.length+ws.length≤Az):wpAny (model prog w) A (BH .Add (.ref t) (.ref b)) Q E s:=by
 obtain⟨⟨cls,dd,data,sl⟩,ho,hc,n,hd⟩:=id ht
 obtain⟨⟨cls2,dd2,data2,sl2⟩,ho2,hc2,n2,hd2⟩:=id hb
 simp only at hc hd hc2 hd2
 subst hc hd hc2 hd2
 have e:vs.toArray++ws.toArray=(vs++ws).toArray:=by simp
 by_cases hw:ws=[]
 . exact concat_meets ⟨_,ho,rfl⟩ ⟨_,ho2,rfl⟩ E5 FU Ct Cm (Ca _ _)
    (tuple_addW1 t b vs.toArray ws.toArray n n2 dd dd2 sl sl2 (by simpa using hv) (by simp[hw])) ⟨ho,ho2,h1 hw⟩
 . refine concat_meets ⟨_,ho,rfl⟩ ⟨_,ho2,rfl⟩ E5 FU Ct Cm (Ca _ _)
    (tuple_addW2 t b vs.toArray ws.toArray n n2 dd dd2 sl sl2 (by simpa using hv) (by simpa using hw) (by rw[Ah,Ah];exact hsz)) ⟨ho,ho2,?_⟩
   rw[e]
   exact h2 hw
noncomputable def sIx(n d:Nat):Option Int→Nat
 |none=>d
 |some v=>if v<0 then (v+(n:Int)).toNat else min v.toNat n
theorem b5(n d k:Nat):sIx n d (some (k:Int))=min k n:=by
 show (if (k:Int)<0 then ((k:Int)+(n:Int)).toNat else min (k:Int).toNat n)=min k n
 rw[if_neg (by omega),AH]
theorem XF(n d:Nat)(hd:d≤n)(o:Option Int):sIx n d o≤n:=by
 cases o with
 |none=>exact hd
 |some v=>
  show (if v<0 then (v+(n:Int)).toNat else min v.toNat n)≤n
  by_cases hv:v<0
  . rw[if_pos hv];omega
  . rw[if_neg hv];exact D2 _ _
theorem lg(v:Int)(n d:Nat):(if v<0 then max (v+(n:Int)) 0 else min v (n:Int))=((sIx n d (some v):Nat):Int):=by
 show (if v<0 then max (v+(n:Int)) 0 else min v (n:Int))=(((if v<0 then (v+(n:Int)).toNat else min v.toNat n):Nat):Int)
 by_cases hv:v<0
 . simp only[if_pos hv];omega
 . simp only[if_neg hv];omega
theorem ny(lo hi:Option Int)(n:Nat):Bv lo hi 1 (n:Int)=(((sIx n 0 lo:Nat):Int),((sIx n n hi:Nat):Int)):=by
 have h1:¬((1:Int)<0):=by omega
 unfold Bv
 simp only[h1,if_false]
 refine Es ?_ ?_
 . cases lo with
   |none=>rfl
   |some v=>exact lg v n 0
 . cases hi with
   |none=>rfl
   |some v=>exact lg v n n
theorem mq(i j:Nat):BL (i:Int) (j:Int) 1=j-i:=by
 unfold BL
 have h1:(1:Int) > 0:=by omega
 simp only[h1,if_true,Int.ediv_one]
 split<;>omega
theorem wB{v:Value}{o:Option Int}{Q:Option Int→Shared→Prop}(p:IsPart v o)(h:Q o s):wpAny (model prog w) A (Builtin.Slice.slicePartIndex v) Q E s:=by
 cases p with
 |none=>exact slicePart_none h
 |int i t=>exact slicePart_int h
theorem wa{sl:Addr}{vl vu:Value}{lo hi:Option Int}{n:Nat}{Q:Int × Int × Nat→Shared→Prop}(hs:s.heap.IsSliceOf sl vl vu .none)(pl:IsPart vl lo)(pu:IsPart vu hi)
 (h:Q (((sIx n 0 lo:Nat):Int),1,sIx n n hi-sIx n 0 lo) s):wpAny (model prog w) A (Dg (.ref sl) (pure (n:Int))) Q E s:=by
 obtain⟨os,hos,hcs,hds⟩:=id hs
 unfold Dg Gb
 refine Ac (Ac (ES hos hds (x:=vl) rfl (Ac (ES hos hds (x:=vu) rfl (Ac (ES hos hds (x:=.none) rfl (Al ?_)))))))
 refine Ac (slicePart_none ?_)
 show wpAny _ _ (if ((1:Int) == 0)=true then _ else _) _ _ s
 rw[if_neg (by decide)]
 refine Ac (wB pl (Ac (wB pu (Ac (Al ?_)))))
 show wpAny _ _ (match Bv lo hi 1 (n:Int) with|(lo,hi)=>pure (lo,(1:Int),BL lo hi 1)) _ _ s
 rw[ny lo hi n]
 show wpAny _ _ (pure (((sIx n 0 lo:Nat):Int),(1:Int),BL ((sIx n 0 lo:Nat):Int) ((sIx n n hi:Nat):Int) 1)) _ _ s
 rw[mq]
 exact Al h
theorem fi(xs:Array Value)(i k:Nat):((Ak k).filterMap fun(m:Nat)=>xs[((i:Int)+(m:Int)*1).toNat]?).toArray=((xs.toList.drop i).take k).toArray:=by
 have e:(fun(m:Nat)=>xs[((i:Int)+(m:Int)*1).toNat]?)=fun m=>xs[i+m]?:=by
  funext m
  have:((i:Int)+(m:Int)*1).toNat=i+m:=by omega
  rw[this]
 rw[e]
 have:=pick_run xs i k
 rw[Cy]at this
 have e2:((fun x=>xs[x]?)∘fun x=>i+x)=fun m=>xs[i+m]?:=rfl
 rw[e2]at this
 rw[this]
theorem uO{t sl:Addr}{items:Array Value}{vl vu:Value}{lo hi:Option Int}{Q:Value→Shared→Prop}(ht:IsTup s.heap t items)(hs:s.heap.IsSliceOf sl vl vu .none)(pl:IsPart vl lo)(pu:IsPart vu hi)
 (hw:¬(sIx items.size 0 lo=0∧sIx items.size items.size hi=items.size))
 (h:Q (.ref s.heap.objs.size) {s with heap:=s.heap.push {cls:=.type "tuple",data:=.seq ((items.toList.drop (sIx items.size 0 lo)).take (sIx items.size items.size hi-sIx items.size 0 lo)).toArray}})
 (hsz:items.size≤Az):wpAny (model prog w) A (getItem (.ref t) (.ref sl)) Q E s:=by
 have htake:sizeOk (.seq ((items.toList.drop (sIx items.size 0 lo)).take (sIx items.size items.size hi-sIx items.size 0 lo)).toArray):=by
  show ((items.toList.drop (sIx items.size 0 lo)).take (sIx items.size items.size hi-sIx items.size 0 lo)).toArray.size≤Az
  rw[Ah,Bn,Cb,AD]
  omega
 have hj:sIx items.size items.size hi≤items.size:=XF _ _ (Ai _) hi
 obtain⟨os,hos,hcs,hds⟩:=id hs
 have hTs:s.TypeIs (.ref sl) "slice":=⟨os,hos,hcs⟩
 unfold getItem
 try with_reducible refine BB ?_
 first|refine Ac (Al ?_)|skip
 refine Ac (F4 ht.typeIs (by decide) ?_)
 refine Ac (EJ (name:=C4 "__getitem__") ht.typeIs A8
  (Dw A8 ht.typeIs Fx ?_ (FH _ _)))
 show wpAny _ _ (Ed (.ref t) >>= _) _ _ s
 refine Ac (E1 ht ?_)
 refine Ac (Fi hTs ?_)
 rw[if_pos (by decide)]
 refine Ac (wa hs pl pu ?_)
 have hno:¬((((sIx items.size 0 lo:Nat):Int) == 0&&(1:Int) == 1&&(sIx items.size items.size hi-sIx items.size 0 lo) == items.size)=true):=by
  intro q
  rw[Ab,Ab]at q
  have q1:((sIx items.size 0 lo:Nat):Int)=0:=Cz q.1.1
  have q2:sIx items.size items.size hi-sIx items.size 0 lo=items.size:=Cz q.2
  exact hw ⟨by omega,by omega⟩
 show wpAny _ _ (if (((sIx items.size 0 lo:Nat):Int) == 0&&(1:Int) == 1&&(sIx items.size items.size hi-sIx items.size 0 lo) == items.size)=true then _ else _) _ _ s
 rw[if_neg hno,fi]
 first
  |exact Ac (m:=By _) (Br (Al ⟨_,rfl,Al h⟩) htake)
  |exact Ac (m:=By _) (Br (Ac (Al (Al ⟨_,rfl,Al h⟩))) htake)
  |exact Ac (Ac (m:=By _) (Br (Al (Al ⟨_,rfl,Al h⟩)) htake))
  |exact Ac (Ac (m:=By _) (Br (Al ⟨_,rfl,Al h⟩) htake))
end
end HT
namespace L2
open PySem PySem.Spec PyProof.Rows
noncomputable abbrev TO:=St→Hp→(Option Int→Hp→Prop)→Prop
def PO(X:Cx)(e:Option Expr)(t:TO):Prop:=
 ∀(pins:List (Addr × Obj)) (s:Shared) (σ:St) (H:Hp) (Q:Option Int→Hp→Prop),Inv X pins σ H s→t σ H Q →
  wpAny (model X.prog X.w) X.A (evalPart e X.env) (fun u s'=>∃o H',Inv X pins σ H' s'∧IsPart u o∧Q o H') X.xe s
noncomputable def aG:TO:=fun _ H Q=>Q none H
noncomputable def VW(t:TE):TO:=fun σ H Q=>t σ H fun x H1=>∃i,x=.int i∧Q (some i) H1
section
variable {X:Cx}{e:Expr}{te:TE}{lo hi:Option Expr}{tl th:TO}{pos p2:Pos}
theorem bZ:PO X none aG:=by
 intro pins s σ H Q I h
 rw[evalPart_none]
 exact Al ⟨none,H,I,.none,h⟩
theorem ba(h:PE X e te):PO X (some e) (VW te):=by
 intro pins s σ H Q I hw
 rw[evalPart_some]
 refine thn (h pins s σ H _ I hw) fun u s1 ⟨x,H1,I1,r1,q1⟩=>?_
 obtain⟨i,rfl,q⟩:=q1
 obtain⟨t,rfl⟩:=r1
 exact⟨some i,H1,I1,.int i t,q⟩
def SlR(X:Cx)(r:V→Option Int→Option Int→Hp→VK→Prop):Prop:=
 ∀(pins:List (Addr × Obj)) (s:Shared) (σ:St) (H:Hp) (x:V) (v vl vu:Value) (lo hi:Option Int) (sl:Addr) (Q:VK),Inv X pins σ H s→RelV x v→s.heap.IsSliceOf sl vl vu .none→IsPart vl lo→IsPart vu hi→r x lo hi H Q →
  ∃T id,typeLookup (.type T) "__getitem__"=pure (some (.builtin id))∧s.TypeIs v T∧wpAny (model X.prog X.w) X.A (getItem v (.ref sl)) (EP X pins σ Q) X.xe s
noncomputable def tSl(r:V→Option Int→Option Int→Hp→VK→Prop)(te:TE)(tl th:TO):TE:=fun σ H Q=>te σ H fun x H1=>tl σ H1 fun l H2=>th σ H2 fun u H3=>r x l u H3 Q
theorem ff{r:V→Option Int→Option Int→Hp→VK→Prop}(hr:SlR X r)(he:PE X e te)(hl:PO X lo tl)(hu:PO X hi th):PE X (.Subscript e (.Slice lo hi none p2) pos) (tSl r te tl th):=by
 intro pins s σ H Q I h
 refine Gd (thn (he pins s σ H _ I h) fun v s1 ⟨x,H1,I1,r1,q1⟩=>?_)
 refine wpAny_Slice (thn (hl pins s1 σ H1 _ I1 q1) fun vl s2 ⟨l,H2,I2,pl,q2⟩=>thn (hu pins s2 σ H2 _ I2 q2) fun vu s3 ⟨u,H3,I3,pu,q3⟩=>?_)
 rw[evalPart_none]
 refine Al ?_
 have I4:Inv X pins σ H3 {s3 with heap:=s3.heap.push {cls:=.type "slice",data:=.fields #[vl,vu,.none]}}:=I3.kept (t':=s3.toks) fun b ob q=>Af _ q
 obtain⟨T,id,hT,ht,hg⟩:=hr pins {s3 with heap:=s3.heap.push {cls:=.type "slice",data:=.fields #[vl,vu,.none]}} σ H3 x v vl vu l u s3.heap.objs.size Q I4 r1 (FI ..) pl pu q3
 show wpAny (model X.prog X.w) X.A (E2 e (.Slice lo hi none p2) v (.ref s3.heap.objs.size)) (EP X pins σ Q) X.xe {s3 with heap:=s3.heap.push {cls:=.type "slice",data:=.fields #[vl,vu,.none]}}
 exact tail_any (ops:=[.ref s3.heap.objs.size,v]) ht hT hg (by with_unfolding_all rfl)
noncomputable def rn(xs:List V)(lo hi:Option Int):List V:=(xs.drop (HT.sIx xs.length 0 lo)).take (HT.sIx xs.length xs.length hi-HT.sIx xs.length 0 lo)
theorem tS(xs:List V)(lo hi:Option Int):(rn xs lo hi).length≤xs.length:=by
 unfold rn
 rw[Bn,Cb]
 omega
noncomputable def V2(K:Av):V→Option Int→Option Int→Hp→VK→Prop:=fun x lo hi H Q=>∃a xs,x=.ref a∧SqT K H a xs ∧
 ¬(HT.sIx xs.length 0 lo=0∧HT.sIx xs.length xs.length hi=xs.length)∧∀p,H p=none→Q (.ref p) (upd H p (.tup (rn xs lo hi)))
theorem XH:SlR X (V2 X.K):=by
 intro pins s σ H x v vl vu lo hi sl Q I rx hs pl pu h
 obtain⟨a,xs,rfl,hx,hw,q⟩:=h
 cases rx
 obtain⟨its,r,ht,hz⟩:=I.tuple hx
 have hlen:its.toArray.size=xs.length:=by rw[Ah];exact r.length.symm
 refine⟨"tuple",_,A8.lookup,ht.typeIs,?_⟩
 refine HT.uO ht hs pl pu (by rw[hlen];exact hw) ?_ (by rw[hlen];exact hz)
 rw[hlen]
 refine⟨.ref s.heap.objs.size,_,I.laid (t':=s.toks) (o:=.tup (rn xs lo hi)) (fun b ob q=>Af _ q) (Ai _) ?_,rfl,q _ (I.hok.fresh (Ai _))⟩
 exact⟨AB (tS xs lo hi) hz,_,(r.drop (HT.sIx xs.length 0 lo)).take (HT.sIx xs.length xs.length hi-HT.sIx xs.length 0 lo),uB.new _ _⟩
noncomputable def W9(K:Av):R2:=fun x y H Q=>∃a b xs ys,x=.ref a∧y=.ref b∧SqT K H a xs∧SqT K H b ys∧xs≠[]∧xs.length+ys.length≤Az ∧
 (ys=[]→Q (.ref a) H)∧(ys≠[]→∀p,H p=none→Q (.ref p) (upd H p (.tup (xs++ys))))
theorem Vals.wH{xs:List V}{us:List Value}(r:Vals xs us):us=[]↔xs=[]:=by
 cases r with
 |nil=>simp
 |cons _ _=>simp
theorem bC:OpR X (BH .Add) (W9 X.K):=by
 intro pins s σ H x y v u Q I rx ry h
 obtain⟨a,b,xs,ys,rfl,rfl,ha,hb,hx,hz,q1,q2⟩:=h
 cases rx
 cases ry
 obtain⟨its,r1,p1,_⟩:=I.tuple ha
 obtain⟨its2,r2,p2,_⟩:=I.tuple hb
 refine HT.dY p1 p2 (fun z=>hx (r1.wH.mp z)) (fun z=>⟨.ref a,H,I,rfl,q1 (r2.wH.mp z)⟩) (fun z=>?_) (by rw[←r1.length,←r2.length];exact hz)
 refine⟨.ref s.heap.objs.size,_,I.laid (t':=s.toks) (o:=.tup (xs++ys)) (fun b ob q=>Af _ q) (Ai _) ?_,rfl,q2 (fun w=>z (r2.wH.mpr w)) _ (I.hok.fresh (Ai _))⟩
 exact⟨by rw[Aw];exact hz,_,r1.append r2,uB.new _ _⟩
end
end L2
namespace L2
open PySem PySem.Spec PyProof.Rows
noncomputable def ixN(n:Nat)(i:Int):Option Nat:=if 0≤i then (if i<n then some i.toNat else none) else if -(n:Int)≤i then some (i+n).toNat else none
noncomputable def atI{α:Type}(xs:List α)(i:Int):Option α:=(ixN xs.length i).bind fun j=>xs[j]?
theorem kI{n:Nat}{i:Int}{j:Nat}(h:ixN n i=some j):FJ i n=some j∧j<n∧-(n:Int)≤i∧i<n:=by
 unfold ixN at h
 by_cases h0:0≤i
 . rw[if_pos h0]at h
   by_cases h1:i<n
   . rw[if_pos h1]at h
     have e:i.toNat=j:=AO h
     exact⟨by rw[seqIndex_of h0 h1,e],by omega,by omega,h1⟩
   . rw[if_neg h1]at h;cases h
 . rw[if_neg h0]at h
   by_cases h1:-(n:Int)≤i
   . rw[if_pos h1]at h
     have e:(i+n).toNat=j:=AO h
     exact⟨by rw[seqIndex_neg (by omega) h1,e],by omega,h1,by omega⟩
   . rw[if_neg h1]at h;cases h
theorem pC{α:Type}{xs:List α}{i:Int}{v:α}(h:atI xs i=some v):∃j,FJ i xs.length=some j∧xs[j]?=some v∧j<xs.length∧-(xs.length:Int)≤i∧i<xs.length:=by
 unfold atI at h
 cases e:ixN xs.length i with
 |none=>rw[e]at h;cases h
 |some j=>
  rw[e]at h
  obtain⟨h1,h2,h3,h4⟩:=kI e
  exact⟨j,h1,h,h2,h3,h4⟩
theorem t9{α:Type}{xs:List α}{j:Nat}{v:α}(h:xs[j]?=some v):atI xs (j:Int)=some v:=by
 have hj:j<xs.length:=(Ap.mp h).1
 have e:ixN xs.length (j:Int)=some j:=by
  unfold ixN
  rw[if_pos (by omega),if_pos (by omega)];simp
 unfold atI;rw[e];exact h
def lV(b:Expr):Prop:=∀o i,GP b false o i=operate [o,i] (getItem o i)
def IxR(X:Cx)(r:R2):Prop:=
 ∀(value slice:Expr) (pins:List (Addr × Obj)) (s:Shared) (σ:St) (H:Hp) (x y:V) (v u:Value) (Q:VK),Inv X pins σ H s→RelV x v→RelV y u→r x y H Q →
  GP slice false v u=operate [v,u] (getItem v u)→wpAny (model X.prog X.w) X.A (E2 value slice v u) (EP X pins σ Q) X.xe s
def MtR(X:Cx)(id:String)(r:V→List V→Hp→VK→Prop):Prop:=
 ∀(pins:List (Addr × Obj)) (s:Shared) (σ:St) (H:Hp) (x:V) (xs:List V) (v:Value) (us:List Value) (Q:VK),Inv X pins σ H s→RelV x v→Vals xs us→r x xs H Q →
  wpAny (model X.prog X.w) X.A (call (.builtin id) (v::us)) (EP X pins σ Q) X.xe s
section
variable {X:Cx}{a b:Expr}{ta tb:TE}{pos:Pos}
theorem IxR.or{r r':R2}(h:IxR X r)(h':IxR X r'):IxR X (fun x y H Q=>r x y H Q∨r' x y H Q):=by
 intro value slice pins s σ H x y v u Q I rx ry q hs
 rcases q with q|q
 . exact h value slice pins s σ H x y v u Q I rx ry q hs
 . exact h' value slice pins s σ H x y v u Q I rx ry q hs
theorem Wu{r:R2}(hr:IxR X r)(ha:PE X a ta)(hb:PE X b tb)(hs:lV b):PE X (.Subscript a b pos) (tOp r ta tb):=by
 intro pins s σ H Q I h
 exact Gd (ZN ha hb I h fun v u s2 x y H2 I2 rx ry q=>hr a b pins s2 σ H2 x y v u Q I2 rx ry q (hs _ _))
noncomputable def VA(K:Av):R2:=fun x y H Q=>∃p xs i v,x=.ref p∧y=.int i∧SqL K H p xs∧atI xs i=some v∧Q v H
noncomputable def VC(K:Av):R2:=fun x y H Q=>∃p xs i v,x=.ref p∧y=.int i∧SqT K H p xs∧atI xs i=some v∧Q v H
noncomputable def VB:R2:=fun x y H Q=>∃z i c,x=.str z∧y=.int i∧z.length≤Az∧atI z.cps.toList i=some c∧Q (.str ⟨#[c]⟩) H
theorem dw:IxR X (VA X.K):=by
 intro value slice pins s σ H x y v u Q I rx ry h hs
 obtain⟨p,xs,i,z,rfl,rfl,hq,he,q⟩:=h
 cases rx
 obtain⟨t,rfl⟩:=ry
 obtain⟨its,r,pl,hz⟩:=I.list hq
 obtain⟨j,h1,h2,h3,h4,h5⟩:=pC he
 obtain⟨w,ew,rw'⟩:=r.get h2
 have hl:=r.length
 have hn:=v3
 have fin:EP X pins σ Q w s:=⟨z,H,I,rw',q⟩
 by_cases h0:0≤i
 . have hj:i.toNat=j:=by
    rw[seqIndex_of h0 h5]at h1
    exact AO h1
   exact item_listR pl.isList h0 (by omega) (by rw[hj];simpa using ew) fin hs
 . have hj:(i+(its.toArray.size:Int)).toNat=j:=by
    rw[seqIndex_neg (by omega) h4]at h1
    rw[Ah,←hl]
    exact AO h1
   exact subscriptTail_builtinR (x:=w) pl.isList.typeIs F5.lookup
    (wpAny_getItem_list_neg (Q:=fun r s'=>r=w∧EP X pins σ Q r s') pl.isList (by omega) (by rw[Ah]<;>omega) (by omega) (by rw[hj];simpa using ew) ⟨rfl,fin⟩) hs
theorem Zh:IxR X (VC X.K):=by
 intro value slice pins s σ H x y v u Q I rx ry h hs
 obtain⟨p,xs,i,z,rfl,rfl,hq,he,q⟩:=h
 cases rx
 obtain⟨t,rfl⟩:=ry
 obtain⟨its,r,pl,hz⟩:=I.tuple hq
 obtain⟨j,h1,h2,h3,h4,h5⟩:=pC he
 obtain⟨w,ew,rw'⟩:=r.get h2
 have hl:=r.length
 have hn:=v3
 have fin:EP X pins σ Q w s:=⟨z,H,I,rw',q⟩
 exact subscriptTail_builtinR (x:=w) pl.typeIs slot_tuple_getitem.lookup
  (getItem_tuple (j:=j) (Q:=fun r s'=>r=w∧EP X pins σ Q r s') pl (by omega) (by omega) (by rw[Ah,←hl];exact h1) (by simpa using ew) ⟨rfl,fin⟩) hs
theorem Zg:IxR X VB:=by
 intro value slice pins s σ H x y v u Q I rx ry h hs
 obtain⟨z,i,c,rfl,rfl,hz,he,q⟩:=h
 obtain⟨t,rfl⟩:=rx
 obtain⟨t',rfl⟩:=ry
 obtain⟨j,h1,h2,h3,h4,h5⟩:=pC he
 have hl:z.cps.toList.length=z.length:=by simp[Str.length]
 rw[hl]at h1 h4 h5
 have hn:=v3
 exact tail_any (typeIs_str s z t) slot_str_getitem.lookup (getItem_str (c:=c) (by
  have e1:decide (i < -(2 ^ 63:Int))=false:=decide_eq_false (by omega)
  have e2:decide (i ≥ 2 ^ 63)=false:=decide_eq_false (by omega)
  rw[e1,e2,Bool.or_false]) (by rw[h1];simpa using h2) ⟨.str ⟨#[c]⟩,H,I.tok _,⟨_,rfl⟩,q⟩) hs
noncomputable def rIx(K:Av):R2:=fun x y H Q=>VA K x y H Q∨VC K x y H Q∨VB x y H Q
theorem Zf:IxR X (rIx X.K):=dw.or (Zh.or Zg)
theorem mO(its:List Value)(n j:Nat)(u:Value):Bk (·.setIfInBounds j u) {cls:=.type "list",data:=.seq its.toArray n}={cls:=.type "list",data:=.seq (its.set j u).toArray n}:=by
 simp[Bk]
theorem Inv.lst{pins:List (Addr × Obj)}{σ:St}{H:Hp}{s:Shared}{p:Addr}{xs:List V}(I:Inv X pins σ H s)(h:H p=some (.lst xs)) :
 ∃(its:List Value) (n:Nat),Vals xs its∧s.heap.get? p=some {cls:=.type "list",data:=.seq its.toArray n}∧xs.length≤Az:=by
 obtain⟨z,its,n,r,e⟩:=I.hok p _ h
 exact⟨its,n,r,e,z⟩
theorem Inv.YQ{pins:List (Addr × Obj)}{σ:St}{H:Hp}{s:Shared}{p:Addr}{xs ys:List V}{its its':List Value}{n n':Nat}{f:Obj→Obj}(I:Inv X pins σ H s)(h:H p=some (.lst xs))
 (ho:s.heap.get? p=some {cls:=.type "list",data:=.seq its.toArray n}) (hf:f {cls:=.type "list",data:=.seq its.toArray n}={cls:=.type "list",data:=.seq its'.toArray n'}) (r:Vals ys its') (hz:ys.length≤Az) (t:Nat) :
 Inv X pins σ (upd H p (.lst ys)) {s with heap:=s.heap.update p f,toks:=t}:=by
 have e:(s.heap.update p f).get? p=some {cls:=.type "list",data:=.seq its'.toArray n'}:=by
  rw[Fe f ho (by rw[hf]<;>rfl),hf]
 refine I.write (x:=p) (e:=p) (by rw[h];trivial) (.inl rfl) (fun b u hb q=>(B2 _ _ (BZ hb)).trans q) ⟨_,e⟩ ?_
 exact⟨hz,its',n',r,e⟩
noncomputable def aq:V→V→V→Hp→(Hp→Prop)→Prop:=fun o i v H Q=>∃p xs k j,o=.ref p∧i=.int k∧H p=some (.lst xs)∧ixN xs.length k=some j∧Q (upd H p (.lst (xs.set j v)))
theorem set_list:Xn X aq:=by
 intro pins s σ H o i v ov iv u Q I ro ri rv h
 obtain⟨p,xs,k,j,rfl,rfl,hp,hj,q⟩:=h
 cases ro
 obtain⟨t,rfl⟩:=ri
 obtain⟨its,n,r,ho,hz⟩:=I.lst hp
 obtain⟨h1,h2,h3,h4⟩:=kI hj
 have hl:=r.length
 have hn:=v3
 have I':Inv X pins σ (upd H p (.lst (xs.set j v))) {s with heap:=s.heap.update p (Bk (·.setIfInBounds j u))}:=
  I.YQ hp ho (mO its n j u) (r.set rv j) (by rw[Dd];exact hz) s.toks
 by_cases h0:0≤k
 . have hk:k.toNat=j:=by
    rw[seqIndex_of h0 h4]at h1
    exact AO h1
   exact PySem.W.ki_setAt ho h0 (by omega) (by rw[Ah,←hl];exact h4) (by rw[hk];exact⟨_,I',q⟩)
 . have hk:(k+(its.toArray.size:Int)).toNat=j:=by
    rw[seqIndex_neg (by omega) h3]at h1
    rw[Ah,←hl]
    exact AO h1
   exact PySem.W.ki_setBack ho (by omega) (by rw[Ah,←hl];exact h3) (by omega) (by rw[hk];exact⟨_,I',q⟩)
theorem oC(lo hi:Option Int)(n:Nat):(BA lo hi none n).1=((HT.sIx n 0 lo:Nat):Int)∧(BA lo hi none n).2.1=((HT.sIx n n hi:Nat):Int)∧(BA lo hi none n).2.2=1:=by
 refine⟨?_,?_,rfl⟩
 . cases lo with
   |none=>simp[BA,HT.sIx]
   |some i=>
    simp only[BA,HT.sIx,Gh,show (1:Int) > 0 by decide,if_true]
    by_cases h:i<0
    . simp only[h,if_true]<;>omega
    . simp only[h,if_false]<;>omega
 . cases hi with
   |none=>simp[BA,HT.sIx]
   |some i=>
    simp only[BA,HT.sIx,Gh,show (1:Int) > 0 by decide,if_true]
    by_cases h:i<0
    . simp only[h,if_true]<;>omega
    . simp only[h,if_false]<;>omega
theorem qE(its:List Value)(lo hi:Option Int):Hf its.toArray lo hi none=((its.drop (HT.sIx its.length 0 lo)).take (HT.sIx its.length its.length hi-HT.sIx its.length 0 lo)).toArray:=by
 obtain⟨h1,h2,h3⟩:=oC lo hi its.toArray.size
 unfold Hf
 rw[h1,h2,h3]
 simp only[sliceRange_one,pick_run,Ah]<;>rfl
noncomputable def V1(K:Av):V→Option Int→Option Int→Hp→VK→Prop:=fun x lo hi H Q=>∃a xs,x=.ref a∧SqL K H a xs∧∀p,H p=none→Q (.ref p) (upd H p (.lst (rn xs lo hi)))
theorem b8:SlR X (V1 X.K):=by
 intro pins s σ H x v vl vu lo hi sl Q I rx hs pl pu h
 obtain⟨a,xs,rfl,hx,q⟩:=h
 cases rx
 obtain⟨its,r,ht,hz⟩:=I.list hx
 have hlen:=r.length
 refine⟨"list",_,F5.lookup,ht.isList.typeIs,?_⟩
 refine Gi ht.isList hs pl pu .none (by simp) ?_ (by rw[Ah]<;>omega)
 rw[qE,←hlen]
 refine⟨.ref s.heap.objs.size,_,I.laid (t':=s.toks) (o:=.lst (rn xs lo hi)) (fun b ob q=>Af _ q) (Ai _) ?_,rfl,q _ (I.hok.fresh (Ai _))⟩
 exact⟨AB (tS xs lo hi) hz,_,0,(r.drop (HT.sIx xs.length 0 lo)).take (HT.sIx xs.length xs.length hi-HT.sIx xs.length 0 lo),AI _ rfl⟩
noncomputable def xS:V→Bool
 |.non=>true
 |.bl _=>true
 |.int _=>true
 |.str _=>true
 |_=>false
noncomputable def eqV:V→V→Bool
 |.non,.non=>true
 |.bl a,.bl b=>a == b
 |.bl a,.int b=>(if a then 1 else 0) == b
 |.int a,.bl b=>a == (if b then 1 else 0)
 |.int a,.int b=>a == b
 |.str a,.str b=>a == b
 |_,_=>false
theorem ZV{A:Around}{s:Shared}{y x:V}{u v:Value}(ry:RelV y u)(rx:RelV x v)(fy:xS y=true)(fx:xS x=true):Bj A s u v (eqV y x):=by
 cases y with
 |non=>
  cases ry
  cases x with
  |non=>cases rx;exact Bj.same _
  |bl b=>cases rx;exact Bj.none_bool b
  |int b=>obtain⟨t,rfl⟩:=rx;exact Bj.none_int b t
  |str b=>obtain⟨t,rfl⟩:=rx;exact Bj.none_str b t
  |_=>exact absurd (show false=true from fx) An
 |bl a=>
  cases ry
  cases x with
  |non=>cases rx;exact Bj.bool_none a
  |bl b=>cases rx;exact Bj.bool_bool a b
  |int b=>obtain⟨t,rfl⟩:=rx;exact Bj.bool_int a b t
  |str b=>obtain⟨t,rfl⟩:=rx;exact Bj.bool_str a b t
  |_=>exact absurd (show false=true from fx) An
 |int a=>
  obtain⟨t',rfl⟩:=ry
  cases x with
  |non=>cases rx;exact Bj.int_none a t'
  |bl b=>cases rx;exact Bj.int_bool a t' b
  |int b=>obtain⟨t,rfl⟩:=rx;exact Bj.int_int a t' b t
  |str b=>obtain⟨t,rfl⟩:=rx;exact Bj.int_str a t' b t
  |_=>exact absurd (show false=true from fx) An
 |str a=>
  obtain⟨t',rfl⟩:=ry
  cases x with
  |non=>cases rx;exact Bj.str_none a t'
  |bl b=>cases rx;exact Bj.str_bool a t' b
  |int b=>obtain⟨t,rfl⟩:=rx;exact Bj.str_int a t' b t
  |str b=>obtain⟨t,rfl⟩:=rx;exact Bj.str_str a t' b t
  |_=>exact absurd (show false=true from fx) An
 |_=>exact absurd (show false=true from fy) An
noncomputable def eqU(x:V)(u:Value):Bool:=match u with
 |.none=>eqV .non x
 |.bool b=>eqV (.bl b) x
 |.int i _=>eqV (.int i) x
 |.str z _=>eqV (.str z) x
 |_=>false
theorem pN{x y:V}{u:Value}(r:RelV y u)(f:xS y=true):eqU x u=eqV y x:=by
 cases y with
 |non=>cases r;rfl
 |bl b=>cases r;rfl
 |int i=>obtain⟨t,rfl⟩:=r;rfl
 |str z=>obtain⟨t,rfl⟩:=r;rfl
 |_=>exact absurd (show false=true from f) An
theorem uD{x:V}:∀{xs:List V} {us:List Value},Vals xs us→xs.all xS=true→us.any (eqU x)=xs.any fun y=>eqV y x
 |_,_,.nil,_=>rfl
 |y::xs,u::us,.cons r t,f=>by
  rw[B1,Ab]at f
  rw[Dh,Dh,pN r f.1,uD t f.2]
theorem xT{A:Around}{s:Shared}{x:V}{v:Value}(rx:RelV x v)(fx:xS x=true):∀{xs:List V} {us:List Value},Vals xs us→xs.all xS=true→∀u∈us,Bj A s u v (eqU x u)
 |_,_,.nil,_=>fun u hu=>by cases hu
 |y::xs,u::us,.cons r t,f=>fun u' hu=>by
  rw[B1,Ab]at f
  rcases AF.mp hu with rfl|hu
  . rw[pN r f.1];exact ZV r rx f.1 fx
  . exact xT rx fx t f.2 u' hu
noncomputable def inV(x:V)(xs:List V):Bool:=xs.any fun y=>eqV y x
noncomputable def rIn(K:Av)(neg:Bool):R2:=fun x y H Q=>∃p xs,y=.ref p∧(SqL K H p xs∨SqT K H p xs)∧xS x=true∧xs.all xS=true∧Q (.bl (if neg then !inV x xs else inV x xs)) H
theorem j7:OpR X (A7 .In) (rIn X.K false):=by
 intro pins s σ H x y v u Q I rx ry h
 obtain⟨p,xs,rfl,hq,fx,fs,q⟩:=h
 cases ry
 rcases hq with hq|hq
 . obtain⟨its,r,pl,hz⟩:=I.list hq
   refine SeqAt.in_listAt (eqU x) pl.isList (fun w hw=>xT rx fx r fs w (by simpa using hw)) ⟨.bl _,H,I,rfl,?_⟩
   rw[show its.toArray.any (eqU x)=its.any (eqU x) by simp,uD r fs]
   exact q
 . obtain⟨its,r,pl,hz⟩:=I.tuple hq
   refine SeqAt.in_tupleAt (eqU x) pl (fun w hw=>xT rx fx r fs w (by simpa using hw)) ⟨.bl _,H,I,rfl,?_⟩
   rw[show its.toArray.any (eqU x)=its.any (eqU x) by simp,uD r fs]
   exact q
theorem pq:OpR X (A7 .NotIn) (rIn X.K true):=by
 intro pins s σ H x y v u Q I rx ry h
 obtain⟨p,xs,rfl,hq,fx,fs,q⟩:=h
 cases ry
 rcases hq with hq|hq
 . obtain⟨its,r,pl,hz⟩:=I.list hq
   refine SeqAt.notIn_listAt (eqU x) pl.isList (fun w hw=>xT rx fx r fs w (by simpa using hw)) ⟨.bl _,H,I,rfl,?_⟩
   rw[show its.toArray.any (eqU x)=its.any (eqU x) by simp,uD r fs]
   exact q
 . obtain⟨its,r,pl,hz⟩:=I.tuple hq
   refine SeqAt.notIn_tupleAt (eqU x) pl (fun w hw=>xT rx fx r fs w (by simpa using hw)) ⟨.bl _,H,I,rfl,?_⟩
   rw[show its.toArray.any (eqU x)=its.any (eqU x) by simp,uD r fs]
   exact q
theorem pE:yA X (.builtin "len") (fun xs H Q=>∃p ys,xs=[.ref p]∧(SqL X.K H p ys∨SqT X.K H p ys)∧Q (.int ys.length) H):=by
 intro pins s σ H xs us Q I r h
 obtain⟨p,ys,rfl,hq,q⟩:=h
 obtain⟨u,rfl,rx⟩:=vals1 r
 cases rx
 have hn:=v3
 rcases hq with hq|hq
 . obtain⟨its,r',pl,hz⟩:=I.list hq
   have hlen:=r'.length
   exact Calls.call_len_list pl.isList (by simp only[Ah]<;>omega) ⟨.int ys.length,H,I.tok _,⟨s.toks+1,by rw[Ah,hlen]⟩,q⟩
 . obtain⟨its,r',pl,hz⟩:=I.tuple hq
   have hlen:=r'.length
   exact len_tuple pl (by simp only[Ah]<;>omega) ⟨.int ys.length,H,I.tok _,⟨s.toks+1,by rw[Ah,hlen]⟩,q⟩
theorem pF:yA X (.builtin "len") (fun xs H Q=>∃z,xs=[.str z]∧z.length≤Az∧Q (.int z.length) H):=by
 intro pins s σ H xs us Q I r h
 obtain⟨z,rfl,hz,q⟩:=h
 obtain⟨u,rfl,t,rfl⟩:=vals1 r
 have hn:=v3
 exact len_str (by omega) ⟨.int z.length,H,I.tok _,⟨_,rfl⟩,q⟩
theorem pG:yA X (.type "list") (fun xs H Q=>∃p ys,xs=[.ref p]∧(SqL X.K H p ys∨SqT X.K H p ys)∧∀l,H l=none→Q (.ref l) (upd H l (.lst ys))):=by
 intro pins s σ H xs us Q I r h
 obtain⟨p,ys,rfl,hq,q⟩:=h
 obtain⟨u,rfl,rx⟩:=vals1 r
 cases rx
 have fin:∀(its:List Value),Vals ys its→ys.length≤Az→∀(h':Heap) (c':Nat),(∀b o',s.heap.get? b=some o'→h'.get? b=some o') →
  h'.get? s.heap.objs.size=some {cls:=.type "list",dict:=none,data:=.seq its.toArray c',slots:=#[]}→EP X pins σ Q (.ref s.heap.objs.size) {s with heap:=h'}:=fun its r' hz h' c' kp e=>
  ⟨.ref s.heap.objs.size,_,I.laid (t':=s.toks) kp (Ai _) (show ze X.prog X.w _ h' _ (.lst ys) from ⟨hz,its,c',r',e⟩),rfl,q _ (I.hok.fresh (Ai _))⟩
 rcases hq with hq|hq
 . obtain⟨its,r',pl,hz⟩:=I.list hq
   have hlen:=r'.length
   obtain⟨o,ho,hc,n,hd⟩:=pl.isList
   exact call_list_seq p (.inl rfl) ho hc hd (fun h' c' kp e=>fin its r' hz h' c' kp e) (by simp only[Ah]<;>omega)
 . obtain⟨its,r',pl,hz⟩:=I.tuple hq
   have hlen:=r'.length
   obtain⟨o,ho,hc,n,hd⟩:=pl
   exact call_list_seq p (.inr rfl) ho hc hd (fun h' c' kp e=>fin its r' hz h' c' kp e) (by simp only[Ah]<;>omega)
theorem vi:yA X (.type "tuple") (fun xs H Q=>∃p ys,xs=[.ref p]∧((SqL X.K H p ys∧∀l,H l=none→Q (.ref l) (upd H l (.tup ys)))∨(SqT X.K H p ys∧Q (.ref p) H))):=by
 intro pins s σ H xs us Q I r h
 obtain⟨p,ys,rfl,h⟩:=h
 obtain⟨u,rfl,rx⟩:=vals1 r
 cases rx
 rcases h with⟨hq,q⟩|⟨hq,q⟩
 . obtain⟨its,r',pl,hz⟩:=I.list hq
   have hlen:=r'.length
   refine call_tuple_list pl.isList (fun h' kp=>?_) (by simp only[Ah]<;>omega)
   have I1:Inv X pins σ H {s with heap:=h'}:=I.kept (t':=s.toks) kp
   have I2:Inv X pins σ (upd H h'.objs.size (.tup ys)) {s with heap:=h'.push {cls:=.type "tuple",data:=.seq its.toArray}}:=
    I1.laid (t':=s.toks) (fun b o e=>Af _ e) (Ai _) (show ze X.prog X.w _ _ _ (.tup ys) from ⟨hz,its,r',uB.new _ _⟩)
   exact⟨.ref h'.objs.size,_,I2,rfl,q _ (I1.hok.fresh (Ai _))⟩
 . obtain⟨its,r',pl,hz⟩:=I.tuple hq
   exact call_tuple_same pl ⟨.ref p,H,I,rfl,q⟩
def tyV(K:Av)(T:String)(x:V)(H:Hp):Prop:=match x with
 |.str _=>T="str"
 |.int _=>T="int"
 |.ref p=>(T="list"∧∃xs,SqL K H p xs)∨(T="tuple"∧∃o,K.lookup p=some o∧o.cls=.type "tuple"∧o.dict=none) ∨
  (T="dict"∧((∃kvs,H p=some (.dK kvs))∨∃kvs,H p=some (.dT kvs)))∨(T="set"∧∃S n,H p=some (.set S n))
 |_=>False
theorem Xb{pins:List (Addr × Obj)}{σ:St}{H:Hp}{s:Shared}{T:String}{x:V}{v:Value}(I:Inv X pins σ H s)(r:RelV x v)(ty:tyV X.K T x H) :
 s.TypeIs v T∧∀a,v=.ref a→∃ob,s.heap.get? a=some ob∧ob.dict=none:=by
 cases x with
 |str z=>
  obtain⟨t,rfl⟩:=r
  cases (show T="str" from ty)
  exact⟨typeIs_str s z t,fun _ e=>nomatch e⟩
 |int i=>
  obtain⟨t,rfl⟩:=r
  cases (show T="int" from ty)
  exact⟨DI s i t,fun _ e=>nomatch e⟩
 |ref p=>
  cases r
  rcases ty with⟨rfl,xs,hq⟩|⟨rfl,o,hk,hc,hd⟩|⟨rfl,hk⟩|⟨rfl,S,n,hk⟩
  . obtain⟨its,_,pl,_⟩:=I.list hq
    refine⟨pl.isList.typeIs,fun a e=>?_⟩
    cases e
    obtain⟨o,n,e,c,hd,_⟩:=pl
    exact⟨o,e,hd⟩
  . refine⟨⟨o,I.kIn p o hk,hc⟩,fun a e=>?_⟩
    cases e
    exact⟨o,I.kIn _ o hk,hd⟩
  . have z:∃o,s.heap.get? p=some o∧o.ExactDict:=by
     rcases hk with⟨kvs,hk⟩|⟨kvs,hk⟩
     . obtain⟨_,_,_,_,o,_,_,e,ex,_⟩:=I.hok p _ hk
       exact⟨o,e,ex⟩
     . obtain⟨_,_,_,_,o,_,_,e,ex,_⟩:=I.hok p _ hk
       exact⟨o,e,ex⟩
    obtain⟨o,e,ex⟩:=z
    refine⟨⟨o,e,ex.1⟩,fun a e2=>?_⟩
    cases e2
    exact⟨o,e,ex.2.1⟩
  . obtain⟨o,_,_,_,e,ex,_⟩:=I.hok p _ hk
    refine⟨⟨o,e,ex.1⟩,fun a e2=>?_⟩
    cases e2
    exact⟨o,e,ex.2.1⟩
 |_=>exact C0 ty
noncomputable def tBM(K:Av)(T:String)(r:V→List V→Hp→VK→Prop)(to:TE)(t:TA):TE:=fun σ H Q=>to σ H fun x H1=>tyV K T x H1∧t σ H1 fun xs H2=>r x xs H2 Q
variable {o e:Expr}{es:List Expr}{to:TE}{t:TA}{name:Str}{apos cpos:Pos}{T id:String}{r:V→List V→Hp→VK→Prop}
theorem ai(pa:PlainAttrs T)(slot:Slot T name id)(hty:typeOf (.builtin id)=pure (.type "method_descriptor"))(hm:MtR X id r)(ho:PE X o to)(ha:PA X (e::es) t)
 (hbase:Ee o name X.env (eval o X.env)=eval o X.env:=by rfl)
 (hfew:((backTo cpos (AR (e::es) X.env)).all (fun x=>!x.1)&&(Gg cpos (EO [] X.env)).all (fun x=>x.1.isSome)
  && decide ((e::es).length+([]:List Keyword).length+(if ([]:List Keyword).isEmpty then 0 else 1)<30))=true:=by rfl)
 (hline:(apos.endLine == cpos.line)=true:=by rfl) (hs:AR (e::es) X.env=(false,eval e X.env)::AR es X.env:=by rfl) (hplain:(backTo cpos (AR es X.env)).any (·.1)=false:=by rfl) :
 PE X (.Call (.Attribute o name apos) (e::es) [] cpos) (tBM X.K T r to t):=by
 intro pins s σ H Q I h
 refine ET hbase hfew hline rfl (thn (ho pins s σ H _ I h) fun v s1 ⟨x,H1,I1,r1,ty,q1⟩=>?_)
 obtain⟨h1,h2⟩:=Xb I1 r1 ty
 refine⟨T,id,pa,slot,hty,h1,h2,?_⟩
 have hA:=ha cpos pins s1 σ H1 _ I1 q1
 rw[hs]at hA ⊢
 refine EU (by show (false||(backTo cpos (AR es X.env)).any (·.1))=false;rw[hplain]<;>rfl) (Fj ?_)
 exact thn hA fun us s2 ⟨vs,H2,I2,r2,q2⟩=>hm pins s2 σ H2 x vs v us Q I2 r1 r2 q2
/- xs.append(e),list.index on a module's tuple .. are MtR facts of 06m -/
end
end L2
namespace L2
open PySem PySem.Spec PyProof.Rows
def MtM(X:Cx)(id:String)(r:V→List V→Hp→VK→Prop):Prop:=
 ∀(pins:List (Addr × Obj)) (s:Shared) (σ:St) (H:Hp) (x:V) (xs:List V) (v:Value) (us:List Value) (Q:VK),Inv X pins σ H s→RelV x v→Vals xs us→r x xs H Q →
  wpAny (model X.prog X.w) X.A (call (.builtin id) (v::us)) (EP X pins σ Q) X.xe s
theorem Vals.one:∀{x:V} {us:List Value},Vals [x] us→∃u,us=[u]∧RelV x u
 |_,_,.cons r .nil=>⟨_,rfl,r⟩
theorem Vals.eraseIdx:∀{xs:List V} {us:List Value} (i:Nat),Vals xs us→Vals (xs.eraseIdx i) (us.eraseIdx i)
 |_,_,_,.nil=>.nil
 |_,_,0,.cons _ t=>t
 |_,_,i+1,.cons r t=>.cons r (Vals.eraseIdx i t)
theorem Vals.rep{xs:List V}{us:List Value}(h:Vals xs us):∀k:Nat,Vals (AN k xs).flatten (AN k us).flatten
 |0=>.nil
 |k+1=>by
  rw[Cq,Cq,Dj,Dj]
  exact Vals.append h (Vals.rep h k)
theorem qc{α:Type}:∀(l:List α) (i:Nat),(l.eraseIdx i).length≤l.length
 |[],_=>Ai _
 |_::_,0=>EV _
 |_::r,i+1=>E6 (qc r i)
theorem foldl_rep(its:List Value):∀(k:Nat) (acc:List Value),
 EG (fun x1 x2=>x1++x2) acc.toArray (AN k its.toArray)=(acc++(AN k its).flatten).toArray
 |0,acc=>by simp
 |k+1,acc=>by
  have e:acc.toArray++its.toArray=(acc++its).toArray:=by simp
  have e2:(acc++its)++(AN k its).flatten=acc++(AN (k+1) its).flatten:=by
   rw[Cq,Dj,Ar]
  rw[←e2,←foldl_rep its k (acc++its),←e,Cq,List.foldl_cons]
section
variable {X:Cx}{pins:List (Addr × Obj)}{σ:St}{H:Hp}{s:Shared}{l b:Addr}{xs ys zs:List V}
theorem Inv.WW{its its':List Value}{n:Nat}{f:Array Value→Array Value}{t':Nat}(I:Inv X pins σ H s)(hH:H l=some (.lst xs))
 (e:s.heap.get? l=some {cls:=.type "list",data:=.seq its.toArray n}) (hf:f its.toArray=its'.toArray) (hv:Vals ys its') (hz:ys.length≤Az) :
 Inv X pins σ (upd H l (.lst ys)) {s with heap:=s.heap.update l (Bk f),toks:=t'}:=by
 have q:=PySem.IsL.update e f
 rw[hf]at q
 refine I.write (x:=l) (e:=l) (by rw[hH];exact trivial) (.inl rfl) (fun b' u hb hu=>(B2 s.heap (Bk f) (BZ hb)).trans hu) ⟨_,q⟩ ?_
 exact⟨hz,its',_,hv,q⟩
theorem Inv.WU{its:List Value}{t':Nat}(I:Inv X pins σ H s)(hv:Vals ys its)(hz:ys.length≤Az) :
 Inv X pins σ (upd H s.heap.objs.size (.lst ys)) {s with heap:=s.heap.push {cls:=.type "list",data:=.seq its.toArray},toks:=t'}:=
 I.laid (fun _ _ q=>Af _ q) (Ai _) ⟨hz,its,0,hv,AI _ rfl⟩
theorem Inv.fresh(I:Inv X pins σ H s):H s.heap.objs.size=none:=I.hok.fresh (Ai _)
theorem Inv.fF(I:Inv X pins σ H s)(hH:H l=some (.lst xs)):xs.length≤Az∧∃(its:List Value) (n:Nat),Vals xs its∧xs.length=its.length∧s.heap.get? l=some {cls:=.type "list",data:=.seq its.toArray n}:=by
 obtain⟨z,its,n,r,e⟩:=I.hok l _ hH
 exact⟨z,its,n,r,r.length,e⟩
theorem fJ{n:Nat}(h:n≤Az):Et n=false:=by
 unfold Et
 exact decide_eq_false (by omega)
end
section
variable {X:Cx}
noncomputable def br:V→List V→Hp→VK→Prop:=fun x vs H Q=>∃l xs y,x=.ref l∧vs=[y]∧H l=some (.lst xs)∧xs.length<Az∧Q .non (upd H l (.lst (xs++[y])))
theorem jq:MtM X "list.append" br:=by
 intro pins s σ H x vs v us Q I rx rv h
 obtain⟨l,xs,y,rfl,rfl,hH,hz,q⟩:=h
 cases rx
 obtain⟨u,rfl,ru⟩:=rv.one
 obtain⟨z,its,n,r,hl,e⟩:=I.fF hH
 refine B0 F.slot_list_append ⟨_,e,rfl⟩ F.entry_list_append (F.args_list_append_2 _ _) (PySem.list_append l its.toArray n u (by rw[Ah];omega)) ⟨e,?_⟩
 refine⟨.non,_,I.WW (its':=its++[u]) hH e (by simp) (r.append (.cons ru .nil)) ?_,rfl,q⟩
 rw[Aw,Ff]
 omega
noncomputable def eA:V→List V→Hp→VK→Prop:=fun x vs H Q=>∃l xs i k y,x=.ref l∧vs=[.int i]∧H l=some (.lst xs)∧-(2 ^ 63)≤i∧i<2 ^ 63∧FJ i xs.length=some k∧xs[k]?=some y∧Q y (upd H l (.lst (xs.eraseIdx k)))
theorem fH:MtM X "list.pop" eA:=by
 intro pins s σ H x vs v us Q I rx rv h
 obtain⟨l,xs,i,k,y,rfl,rfl,hH,h1,h2,hk,hy,q⟩:=h
 cases rx
 obtain⟨u,rfl,ru⟩:=rv.one
 obtain⟨t,rfl⟩:=ru
 obtain⟨z,its,n,r,hl,e⟩:=I.fF hH
 obtain⟨w,hw,rw'⟩:=r.get hy
 refine B0 F.slot_list_pop ⟨_,e,rfl⟩ F.entry_list_pop (F.args_list_pop_2 _ _)
  (MeetsSeq.list_pop_at l its.toArray n i t k w (fitsIndex_both h1 h2) (by rw[Ah,←hl];exact hk) (by rw[←BS];exact hw) (by rw[Ah];omega)) ⟨e,?_⟩
 refine⟨y,_,I.WW (its':=its.eraseIdx k) hH e ?_ (r.eraseIdx k) ?_,rw',q⟩
 . show its.toArray.eraseIdxIfInBounds k=(its.eraseIdx k).toArray
   rw[List.eraseIdxIfInBounds_toArray]
 . have:=qc xs k
   omega
noncomputable def Vx:R2:=fun x y H Q=>∃l b xs zs,x=.ref l∧y=.ref b∧H l=some (.lst xs)∧H b=some (.lst zs)∧xs.length+zs.length≤Az∧∀p,H p=none→Q (.ref p) (upd H p (.lst (xs++zs)))
theorem YY:OpR X (BH .Add) Vx:=by
 intro pins s σ H x y v u Q I rx ry h
 obtain⟨l,b,xs,zs,rfl,rfl,hH,hB,hz,q⟩:=h
 cases rx
 cases ry
 obtain⟨z,its,n,r,hl,e⟩:=I.fF hH
 obtain⟨z2,its2,n2,r2,hl2,e2⟩:=I.fF hB
 refine PySem.P.add_list e e2 ?_ (by rw[Ah,Ah];omega)
 have ea:its.toArray++its2.toArray=(its++its2).toArray:=by simp
 rw[ea]
 exact⟨.ref _,_,I.WU (t':=s.toks) (r.append r2) (by rw[Aw];omega),rfl,q _ I.fresh⟩
noncomputable def Vy:R2:=fun x y H Q=>∃l k xs,x=.ref l∧y=.int k∧H l=some (.lst xs)∧-(2 ^ 63)≤k∧k<2 ^ 63∧xs.length*k.toNat≤Az ∧
 ∀p,H p=none→Q (.ref p) (upd H p (.lst (AN k.toNat xs).flatten))
theorem len_rep{α:Type}(xs:List α)(k:Nat):(AN k xs).flatten.length=k*xs.length:=by
 induction k with
 |zero=>simp
 |succ k ih=>rw[Cq,Dj,Aw,ih,C6,Nat.add_comm]
theorem Yd:OpR X (BH .Mult) Vy:=by
 intro pins s σ H x y v u Q I rx ry h
 obtain⟨l,k,xs,rfl,rfl,hH,h1,h2,hz,q⟩:=h
 cases rx
 obtain⟨t,rfl⟩:=ry
 obtain⟨z,its,n,r,hl,e⟩:=I.fF hH
 have hlen:its.toArray.size*k.toNat≤Az:=by rw[Ah,←hl];exact hz
 have hcap:¬its.toArray.size*k.toNat > (2 ^ 63-1)/8:=by
  have:(Az:Nat)≤(2 ^ 63-1)/8:=by decide
  omega
 have hfit:¬(!Builtin.List.listFitsIndex k)=true:=by
  rw[fitsIndex_both h1 h2]
  exact An
 have hlong:¬Et (its.toArray.size*k.toNat)=true:=by
  rw[fJ hlen]
  exact An
 have hnew:EG (fun x1 x2=>x1++x2) #[] (AN (if its.toArray.isEmpty=true then 0 else k.toNat) its.toArray)=(AN k.toNat its).flatten.toArray:=by
  have f0:∀m:Nat,EG (fun x1 x2=>x1++x2) #[] (AN m its.toArray)=(AN m its).flatten.toArray:=fun m=>by
   have:=foldl_rep its m []
   rw[De]at this
   exact this
  rw[f0]
  cases its with
  |nil=>simp
  |cons a r'=>rw[if_neg (by simp)]
 refine Dn (T:="list") (U:="int") (by decide) ⟨_,e,rfl⟩ (fun s'=>DI s' k t) noFill_list_mul Fm CF repeat_list E7.lookup
  (B0 CF (DI s k t) E8 (EM _ _) (int___rmul___int_list k t l its.toArray n)
   ⟨e,rfl,⟨_,e,rfl⟩,B0 F.slot_list_mul ⟨_,e,rfl⟩ F.entry_list_mul (F.args_list_mul_2 _ _) (AutoListH.list___mul___list_int_3 l its.toArray n k t hfit hcap hlong) ⟨e,?_⟩⟩)
 rw[hnew]
 exact⟨.ref _,_,I.WU (t':=s.toks) (r.rep k.toNat) (by rw[len_rep,BU];exact hz),rfl,q _ I.fresh⟩
end
end L2
namespace Att
open PySem PySem.W PySem.Calls PyProof.Rows
theorem tu{P:Params}{h:Heap}:∀(ns:List Int) (vs:List Value),WellAll P h vs (ns.map WData.int)→IntsAre vs ns:=by
 intro ns
 induction ns with
 |nil=>
  intro vs w
  rw[Eu]at w
  cases w
  exact .nil
 |cons n ns ih=>
  intro vs w
  rw[AA]at w
  cases w with
  |cons a b=>
   cases a
   exact .cons _ _ (ih _ b)
theorem iO{l:OpenLaw}{n:Nat}(hn:l.most=some n){P:Params}{h:Heap}{args:List WData}{vals:List Value}
 (hpre:l.row.toRowW.claim.pre args=true) (hwl:WellAll P h vals args) :
 ∃a vs ns,vals=[Bc a]∧args=[WData.list (ns.map WData.int)]∧h.get? a=some {cls:=.type "list",data:=.seq vs.toArray}∧IntsAre vs ns∧ns.length≤n:=by
 have hsh:WShape.hasAll [] args [.list .int]=true:=(pre_splitW hpre).1
 have hc:l.pre.holds [] {args:=args}=true:=(pre_splitW hpre).2
 obtain⟨d,r,rfl,h1,h2⟩:=hasAllW_cons hsh
 obtain rfl:=hasAllW_nil h2
 obtain⟨xs,rfl,h3⟩:=hasW_list h1
 obtain⟨ns,rfl⟩:=items_int h3
 have hlen:ns.length≤n:=by
  unfold OpenLaw.pre at hc
  have h4:(WTm.not (.lt (.lit (.int (n:Int))) (.len (.arg 0)))).holds [] {args:=[.list (ns.map .int)]}=true:=by
   have h4:=(holds_andW hc).1
   rw[hn]at h4
   exact h4
  have h5:=condW_of h4 (w_not (w_lt w_lit (w_len_list (w_arg rfl))))
  rw[Ag]at h5
  refine Nat.le_of_not_lt fun q=>?_
  have q':(n:Int)<((ns.length:Nat):Int):=by omega
  first
   |(rw[decide_eq_true q']at h5;exact absurd h5 (by decide))
   |(simp at h5;omega)
 cases hwl with
 |cons w1 w2=>
  cases w2
  cases w1 with
  |list ho hall=>exact⟨_,_,ns,rfl,rfl,ho,tu ns _ hall,hlen⟩
theorem iG(l:OpenLaw)(args:List WData):l.row.toRowW.claim.post args (.bool true) args=true:=
 postW_of (r:=l.row.toRowW) (X:=(true == true))
  (show WShape.has [] (.bool true) .bool=true by first|rfl|decide|simp[WShape.has,WShape.arms,WShape.armsAll])
  (show (WTm.eq .res (.lit (.bool true))).value [] {args:=args,res:=some (.bool true),after:=args}=some (.bool (true == true)) from w_eq_bool (w_res rfl) w_lit) rfl
theorem oP{l:OpenLaw}{n:Nat}{q:Program}{loose:List Str}{XP:(Str→Option Value)→Heap→Prop}{YP:World→Heap→Prop}{d:DefRec}
 (hn:l.most=some n) (hdf:d.params.defaults=[])
 (call:∀(w:World) (s₀ s₁:Shared) (mg mb:Str→Option Value) (fa:Addr) (o:Obj) (pm cd doc:Value) (a:Addr) (vs:List Value) (ns:List Int),
  Ground q loose [] XP w s₀ mg mb s₁.heap→YP w s₁.heap →
  s₁.heap.get? fa=some o→o.data=.func (docDef d.name d.params d.body d.scope pm cd doc)→s₁.heap.CodeRec cd d.name→mg d.name=some (.ref fa) →
  s₁.heap.get? a=some {cls:=.type "list",data:=.seq vs.toArray}→IntsAre vs ns→ns.length≤n→s₁.gens=#[] →
  codeAny (model l.prog w) callerA (.call (.ref fa) ⟨[.ref a],[]⟩) (fun r s'=>r=.ok (.ret (.bool true))∧OldK s₁.heap s'.heap∧s'.os=s₁.os∧AllBare s'.gens) s₁) :
 WalkO q loose XP YP l.row.toRowW d [] (fun f vs=>PySem.call f vs):=by
 intro w s₀ s₁ mg mb G Y fa o pm cd doc dV kV ho hd hcd hD hmg hg args vals as hpre hlay hrd hwl hlo
 obtain rfl:dV=.none:=Dflts.none hD hdf
 obtain rfl:kV=.none:=Dflts.noKw hD
 obtain⟨a,vs,ns,rfl,rfl,hobj,hints,hlen⟩:=iO hn hpre hwl
 refine enter_call (codeAny_mono (call w s₀ s₁ mg mb fa o pm cd doc a vs ns G Y ho (fd_plain hd) hcd hmg hobj hints hlen hg) fun r s' hq=>?_)
 obtain⟨rfl,h2,h3,h4⟩:=hq
 exact⟨.inl ⟨.bool true,.bool true,[],rfl,fun _=>rfl,.bool true,iG l _,fun _=>⟨List.Pairwise.nil,fun _ hm=>(nomatch hm)⟩⟩,h2,h3,h4⟩
end Att
namespace L2
open PySem PySem.Spec PyProof.Rows
theorem qv:∀{vs:List Value} {ns:List Int},IntsAre vs ns→Vals (ns.map V.int) vs
 |_,_,.nil=>.nil
 |_,_,.cons n t h=>.cons ⟨t,rfl⟩ (qv h)
def ZH(H:Hp):Prop:=∀b,H b=none∨∃o xs,H b=some (.frz o (.lst xs))
theorem g8{P:Program}{w:World}{K:Av}{mg mb:Str→Option Value}{CX:CXT}{k:Nat}{fa a:Addr}{fd:B9}{x:Str}{sp:Sp}{s₁:Shared}{vs:List Value}{ns:List Int}
 (KX:K.In s₁.heap) (hns:s₁.heap.Ns A9 mg) (hb:s₁.heap.Ns builtinsNs mb) (hbb:∀x:Str,x≠"__name__"→mb x=CD x) (hlim:s₁.heap.NoLimit) (hg:s₁.gens=#[])
 (ha:s₁.heap.get? a=some {cls:=.type "list",data:=.seq vs.toArray}) (hi:IntsAre vs ns) (hl:ns.length≤Az) (hr:yp k callerA)
 (F:∀base:Heap,K.In base→base.Ns A9 mg→tj P w K mg base CX k fa fd [x] sp) (hbind:∀(s:Shared) (u:Value),BindsTo s fd ⟨[u],[]⟩ [(x,u)])
 (hsp:∀H:Hp,ZH H→SqL K H a (ns.map V.int)→sp [.ref a] H (fun v _=>v=.bl true) fun _ _ _=>False)
 (hCX:∀H e s',CX [] H s₁ (fun _ _ _=>False) e s'→False) :
 codeAny (model P w) callerA (.call (.ref fa) ⟨[.ref a],[]⟩) (fun r s'=>r=.ok (.ret (.bool true))∧OldK s₁.heap s'.heap∧s'.os=s₁.os∧AllBare s'.gens) s₁:=by
 have rv:=qv hi
 have lenV:=hi.length
 -- from an abstract heap in which nothing but the script may be tracked
 have core:∀H:Hp,ZH H→SqL K H a (ns.map V.int)→HOk P w H s₁.heap→(∀b,H b≠none→b=a)→(H a≠none→K.lookup a=none) →
  codeAny (model P w) callerA (.call (.ref fa) ⟨[.ref a],[]⟩) (fun r s'=>r=.ok (.ret (.bool true))∧OldK s₁.heap s'.heap∧s'.os=s₁.os∧AllBare s'.gens) s₁:=by
  intro H hO hS hok hA hK
  have wc:∀{b:Addr} {o:Obj},s₁.heap.get? b=some o→H b=none→(pR s₁.heap H).get? b=some o:=fun e n=>gM e n
  have noA:∀{b:Addr} {o:Obj} {es:Array DictEntry} {ep:Nat},s₁.heap.get? b=some o→o.data=.dict es ep→H b=none:=fun{b o es ep} e d=>by
   cases q:H b with
   |none=>rfl
   |some u=>
    have e':b=a:=hA b (by rw[q];simp)
    subst e'
    rw[ha]at e;cases e
    have d':Data.seq vs.toArray _=Data.dict es ep:=d
    cases d'
  have nsK:∀{b:Addr} {m:Str→Option Value},s₁.heap.Ns b m→(pR s₁.heap H).Ns b m:=fun{b m} ⟨o,es,ep,e,d,r⟩=>⟨o,es,ep,wc e (noA e d),d,r⟩
  have hKb:K.In (pR s₁.heap H):=fun b o e=>wc (KX b o e) (by
   cases q:H b with
   |none=>rfl
   |some u=>
    have e':b=a:=hA b (by rw[q];simp)
    subst e'
    rw[hK (by rw[q];simp)]at e;cases e)
  have hM:Mod K mg (pR s₁.heap H):=⟨hKb,nsK hns,⟨mb,nsK hb,hbb⟩,let ⟨mc,h1,h2⟩:=hlim;⟨mc,nsK h1,h2⟩⟩
  have e0:dI P w K mg (pR s₁.heap H) callerA [] s₁ H:=⟨rfl,hM,fun b o e=>cx e,BV (jM _ _),trivial,fun b hb=>absurd (show b∈([]:List Addr) from hb) (by simp),hok,.of_eq hg⟩
  refine codeAny_mono ((F _ hKb (nsK hns)).run callerA [] s₁ H ⟨[.ref a],[]⟩ [.ref a] [.ref a] _ _ hr e0 (hbind s₁ (.ref a)) (.cons rfl .nil) (hsp H hO hS)) fun r s' h=>?_
  cases r with
  |error e=>exact(hCX H e s' h).elim
  |ok fl=>
   cases fl with
   |next=>exact C0 h
   |brk=>exact C0 h
   |cont=>exact C0 h
   |ret u=>
    obtain⟨v,H',os,bare,un,hok',r',q⟩:=h
    have q':v=.bl true:=q
    subst q'
    obtain rfl:u=D0 true:=r'
    refine⟨rfl,OldK.of_keep fun b o e=>?_,os,bare⟩
    cases q:H b with
    |none=>exact un.keep b o e q (by intro z;exact absurd (show b∈([]:List Addr) from z) (by simp)) (by simp)
    |some u=>
     rcases hO b with z|⟨ob,xs,z⟩
     . rw[q]at z;cases z
     . have z2:=un.frzs b ob _ z
       obtain⟨e1,_⟩:=hok b _ z
       obtain⟨e2,_⟩:=hok' b _ z2
       rw[e]at e1;cases e1
       exact e2
 cases hk:K.lookup a with
 |some o=>
  -- the script is one of the module's own objects
  have e:=KX a o hk
  rw[ha]at e
  cases e
  refine core (fun _=>none) (fun _=>.inl rfl) (.inr ⟨_,vs.toArray,_,hk,rfl,rfl,rfl,by rw[Ah,lenV];exact hl,by simpa using rv⟩) (fun b u z=>by have z':(none:Option HO)=some u:=z;cases z') (fun b z=>absurd rfl z) fun z=>absurd rfl z
 |none=>
  refine core (fun b=>if b=a then some (.frz {cls:=.type "list",data:=.seq vs.toArray} (.lst (ns.map V.int))) else none) (fun b=>?_) (.inl (.inr ⟨{cls:=.type "list",data:=.seq vs.toArray},if_pos rfl⟩)) (fun b u z=>?_) (fun b z=>?_) fun _=>hk
  . by_cases hb:b=a
    . exact .inr ⟨_,_,if_pos hb⟩
    . exact .inl (if_neg hb)
  . by_cases hb:b=a
    . have z':=(if_pos hb).symm.trans z
      cases z'
      subst hb
      exact⟨ha,by rw[Ag];exact hl,vs,_,rv,ha⟩
    . have z':=(if_neg hb).symm.trans z
      cases z'
  . by_cases hb:b=a
    . exact hb
    . exact absurd (if_neg hb) z
end L2
namespace L2
open PySem PySem.Spec PyProof.Rows
theorem aO{l:GH}{n k:Nat}{q:Program}{loose:List Str}{XP:(Str→Option Value)→Heap→Prop}{YP:World→Heap→Prop}{d:DefRec}{K:Params→Av}{CX:World→CXT}{sp:World→Sp}{x:Str}
 (hn:l.most=some n) (hn2:n≤Az) (hdf:d.params.defaults=[]) (hr:yp k callerA)
 (hY:∀(w:World) (h:Heap),YP w h→(K w.params).In h)
 (F:∀(w:World) (mg:Str→Option Value) (fa:Addr) (h:Heap),(K w.params).In h→h.Ns A9 mg→mg d.name=some (.ref fa) →
  ∃fd:B9,(∀(s:Shared) (u:Value),BindsTo s fd ⟨[u],[]⟩ [(x,u)]) ∧
   ∀base:Heap,(K w.params).In base→base.Ns A9 mg→tj l.prog w (K w.params) mg base (CX w) k fa fd [x] (sp w))
 (hsp:∀(w:World) (H:Hp) (a:Addr) (ns:List Int),ns.length≤n→ZH H→SqL (K w.params) H a (ns.map V.int)→sp w [.ref a] H (fun v _=>v=.bl true) fun _ _ _=>False)
 (hCX:∀(w:World) (H:Hp) (s:Shared) (e:Value) (s':Shared),CX w [] H s (fun _ _ _=>False) e s'→False) :
 PySem.W.WalkO q loose XP YP l.row.toRowW d [] (fun f vs=>PySem.call f vs):=by
 refine Att.oP hn hdf fun w s₀ s₁ mg mb fa o pm cd doc a vs ns G Y ho hd hcd hmg hobj hints hlen hg=>?_
 have KX:=hY w _ Y
 obtain⟨fd,hb,hF⟩:=F w mg fa _ KX G.T.g hmg
 exact g8 KX G.T.g G.T.b G.T.builtins G.T.nolimit hg hobj hints (AB hlen hn2) hr hF hb (fun H hO hS=>hsp w H a ns hlen hO hS) fun H e s'=>hCX w H s₁ e s'
end L2
/- THE LAST THEOREM (shape;LID,My.* are yours):
   My.Adr: a structure of the addresses that your layer names (classes,functions);My.Txt K t: a structure (Prop) of the equations over K;
   My.txt_mk:{K} {implicit addresses ..} (e1:nsIn K A9 "law"=some (some (.ref f))) (e2:K.lookup f=some ⟨oc,od,.func (fnOf "law" "law" params body scope dV kV doc pm an cdv ct),sl⟩) (e3:codeIn K cdv "law"=true) ..:∃t,My.Txt K t
(the tactic k_is has no namespace: write k_is) -/
namespace L2
open PySem PySem.Spec PyProof.Rows
noncomputable def we(s:Stmt):GA:=match s with
 |.FunctionDef _ a _ _ _ _ _ _ _ _=>a
 |_=>{posonlyargs:=[],args:=[],vararg:=none,kwonlyargs:=[],kw_defaults:=[],kwarg:=none,defaults:=[]}
noncomputable def xO(s:Stmt):List Stmt:=match s with
 |.FunctionDef _ _ b _ _ _ _ _ _ _=>b
 |_=>[]
noncomputable def zk(s:Stmt):Scope:=match s with
 |.FunctionDef _ _ _ _ _ _ sc _ _ _=>sc
 |_=>{kind:=.function,names:=[],isGenerator:=false,isCoroutine:=false}
noncomputable abbrev CX0:CXT:=fun _ _ _ _ _ _=>False
noncomputable abbrev E0:XK:=fun _ _ _=>False
theorem ah{X:Cx}:Passes CX0 X E0:=fun _ _ _ _ _ _ _ h=>h.elim
structure Fun(K:Av)(x qual:Str)(st:Stmt)(f:Addr)(fd:B9):Prop where
 ex:∃(oc:Value) (od:Option Addr) (kV doc pm:Value) (an:Option Addr) (cdv ct:Value) (osl:Array (Option Value)),
  fd=CC x qual (we st) (xO st) (zk st) .none kV doc pm an cdv ct∧K.lookup f=some ⟨oc,od,.func fd,osl⟩∧Dr K cdv qual=true
 kp:Dt K (.ref f)=true
section
variable {P:Program}{w:World}{K:Av}{mg:Str→Option Value}{base:Heap}
theorem Fun.ok{x qual:Str}{st:Stmt}{f:Addr}{fd:B9}{N ps:List Str}{k:Nat}{sp:Sp}(F:Fun K x qual st f fd)(S:t5 N ps (zk st))(len:∀vs H Q E,sp vs H Q E→vs.length=ps.length)
 (hbody:∀(cdv:Value) (A:Around) (outer:List Env) (s:Shared) (H:Hp) (vs:List V) (Q:VK) (E:XK),yp k (A.deeper (envOfC qual (zk st) s.heap.objs.size f cdv))→sp vs H Q E →
  ∃t,PSs (mC CX0 P w K mg base N qual (zk st) f cdv A outer s H E).nox (xO st) t∧t {nx:=fun _ H'=>Q .non H',rt:=Q} (start N vs) H):tj P w K mg base CX0 (k+1) f fd ps sp:=by
 obtain⟨oc,od,kV,doc,pm,an,cdv,ct,osl,rfl,lk,hcd⟩:=F.ex
 refine X2 lk hcd S len fun A outer s H vs Q E hr hsp=>?_
 obtain⟨t,h,q⟩:=hbody cdv A outer s H vs Q E hr hsp
 exact⟨t,h.nox,q⟩
theorem Fun.binds{x qual:Str}{st:Stmt}{f:Addr}{fd:B9}{ps:List Str}(F:Fun K x qual st f fd)
 (h:∀(kV doc pm:Value) (an:Option Addr) (cdv ct:Value) (us:List Value),us.length=ps.length→bindArgs (CC x qual (we st) (xO st) (zk st) .none kV doc pm an cdv ct) ⟨us,[]⟩=pure (ps.zip us)):Binds K fd ps []:=by
 obtain⟨oc,od,kV,doc,pm,an,cdv,ct,osl,rfl,lk,hcd⟩:=F.ex
 exact .all (h kV doc pm an cdv ct)
theorem ZZ{x qual:Str}{st:Stmt}{f:Addr}{oc:Value}{od an:Option Addr}{osl:Array (Option Value)}{kV doc pm cdv ct:Value}(l:K.lookup f=some ⟨oc,od,.func (CC x qual (we st) (xO st) (zk st) .none kV doc pm an cdv ct),osl⟩)
 (c:Dr K cdv qual=true) (k:Dt K (.ref f)=true):Fun K x qual st f (CC x qual (we st) (xO st) (zk st) .none kV doc pm an cdv ct):=⟨⟨oc,od,kV,doc,pm,an,cdv,ct,osl,rfl,l,c⟩,k⟩
end
theorem r0{A B:Prop}(h:B):if false=true then A else B:=by
 rw[if_neg An]
 exact h
theorem r8{A B:Prop}(h:A):if true=true then A else B:=by
 rw[if_pos rfl]
 exact h
def um(H H':Hp):Prop:=∀b o,H b=some o→H' b=some o
theorem um.refl(H:Hp):um H H:=fun _ _ h=>h
end L2
end
section
namespace L2
open PySem PySem.Spec PyProof.Rows
noncomputable def vt(cells:List (Str × Addr)):List (Str × CV)→List (Str × Addr)→List (Str × Addr)
 |[],acc=>acc
 |(n,k)::r,acc=>if k == .free then (match cells.lookup n with|some c=>vt cells r ((n,c)::acc)|none=>vt cells r acc) else vt cells r acc
theorem vv{env:Env}:∀(names:List (Str × CV)) (acc:List (Str × Addr)),(∀x∈names,x.2=.free→∃c,env.cells.lookup x.1=some c) →
 (forIn names acc fun(x:Str × CV) (cs:List (Str × Addr))=>(if x.2 == .free then do let a ←cellOf env x.1;pure (CG ((x.1,a)::cs)) else pure (CG cs):Sem (ForInStep (List (Str × Addr)))))=pure (vt env.cells names acc)
 |[],acc,_=>rfl
 |(n,k)::r,acc,h=>by
  rw[GI]
  dsimp only
  unfold vt
  by_cases hk:(k == Bg)=true
  . have hk':k=.free:=by simpa using hk
    obtain⟨c,hc⟩:=h (n,k) AY hk'
    have hc':env.cells.lookup n=some c:=hc
    have hcell:cellOf env n=pure c:=by unfold cellOf;rw[hc']
    rw[if_pos hk,if_pos hk,hcell,hc',FK,FK]
    exact vv r _ fun x hx=>h x (AJ _ hx)
  . rw[if_neg hk,if_neg hk,FK]
    exact vv r _ fun x hx=>h x (AJ _ hx)
theorem vj{scope:Scope}{env:Env}(h:∀x∈scope.names,x.2=.free→∃c,env.cells.lookup x.1=some c):closureFor scope env=pure (vt env.cells scope.names []):=by
 have e:=vv (env:=env) scope.names [] h
 show (do let cs ←forIn scope.names [] _;pure cs)=_
 refine Eq.trans ?_ e
 refine Eq.trans (bind_pure _) ?_
 congr 1
theorem vB{cells:List (Str × Addr)}:∀(names:List (Str × CV)) (acc:List (Str × Addr)),(∀x c,acc.lookup x=some c→cells.lookup x=some c)→∀x c,(vt cells names acc).lookup x=some c→cells.lookup x=some c
 |[],acc,h,x,c,e=>h x c e
 |(n,k)::r,acc,h,x,c,e=>by
  unfold vt at e
  by_cases hk:(k == Bg)=true
  . rw[if_pos hk]at e
    cases hc:cells.lookup n with
    |none=>rw[hc]at e;exact vB r acc h x c e
    |some d=>
     rw[hc]at e
     refine vB r _ (fun y z q=>?_) x c e
     rw[AK]at q
     cases hy:(y == n) with
     |true=>rw[hy]at q;have hy':y=n:=by simpa using hy
            cases q;rw[hy'];exact hc
     |false=>rw[hy]at q;exact h y z q
  . rw[if_neg hk]at e;exact vB r acc h x c e
theorem wR{cells:List (Str × Addr)}:∀(names:List (Str × CV)) (acc:List (Str × Addr)) (x:Str) (c:Addr),cells.lookup x=some c→(acc.lookup x=some c∨(x,Bg)∈names)→(∀y d,acc.lookup y=some d→cells.lookup y=some d)→(vt cells names acc).lookup x=some c
 |[],acc,x,c,_,h,_=>by
  rcases h with h|h
  . exact h
  . cases h
 |(n,k)::r,acc,x,c,hc,h,ha=>by
  unfold vt
  by_cases hk:(k == Bg)=true
  . rw[if_pos hk]
    cases hn:cells.lookup n with
    |none=>
     refine wR r acc x c hc ?_ ha
     rcases h with h|h
     . exact .inl h
     . rcases AF.mp h with e|e
       . cases e;rw[hn]at hc;cases hc
       . exact .inr e
    |some d=>
     have ha':∀y z,((n,d)::acc).lookup y=some z→cells.lookup y=some z:=fun y z q=>by
      rw[AK]at q
      cases hy:(y == n) with
      |true=>rw[hy]at q;have hy':y=n:=by simpa using hy
             cases q;rw[hy'];exact hn
      |false=>rw[hy]at q;exact ha y z q
     by_cases hx:x=n
     . subst hx
       refine wR r _ x c hc (.inl ?_) ha'
       rw[hn]at hc;cases hc
       simp[AK]
     . refine wR r _ x c hc ?_ ha'
       rcases h with h|h
       . refine .inl ?_
         have:(x == n)=false:=by simpa using hx
         rw[AK,this];exact h
       . rcases AF.mp h with e|e
         . cases e;exact absurd rfl hx
         . exact .inr e
  . rw[if_neg hk]
    refine wR r acc x c hc ?_ ha
    rcases h with h|h
    . exact .inl h
    . rcases AF.mp h with e|e
      . cases e;exact absurd (by decide) hk
      . exact .inr e
noncomputable abbrev Cx.comp(X:Cx)(N:List Str)(sc:Scope)(C:Addr)(s:Shared)(H:Hp)(ex:List Addr):Cx:=
 {X with N:=N,s₀:=s,H₀:=H,env:=compEnvC sc (vt X.env.cells sc.names []) C X.env,outer:=X.stack,ex:=ex,fn:=fun _=>false,pn:=[],xe:=fun _ _=>False}
structure zo(X:Cx)(N:List Str)(sc:Scope)(fr:List (Option Nat)):Prop where
 kind:sc.kind=.function
 nocell:∀x∈sc.names,x.2≠.cell
 locals:∀x∈sc.names,x.2=.local→sc.names.lookup x.1=some .local
 free:∀x∈sc.names,x.2=.free→X.env.kindOf x.1=some .cell∨X.env.kindOf x.1=some .free
 len:fr.length=N.length
 from_:∀(i j:Nat) (x:Str),N[i]?=some x→fr[i]?=some (some j)→X.N[j]?=some x∧(x,Bg)∈sc.names
 one:∀x,sc.names.lookup x=some .local→(x,Bg)∈sc.names→False
noncomputable def zT(fr:List (Option Nat))(σ:St):St:=fr.map fun o=>match o with|some j=>(σ[j]?).join|none=>none
theorem p7{sc:Scope}{env:Env}{x:Str}(hn:∀y∈sc.names,y.2≠.cell)(h:(relabel sc env).names.lookup x=some .cell∨(relabel sc env).names.lookup x=some .free):(x,Bg)∈sc.names:=by
 have key:∀(names:List (Str × CV)),(∀y∈names,y.2≠.cell)→((names.map fun(n,k)=>if (k == Bg&&env.scope.kind == .function&&env.kindOf n == some .cell) then (n,Ef) else (n,k)).lookup x=some .cell ∨
  (names.map fun(n,k)=>if (k == Bg&&env.scope.kind == .function&&env.kindOf n == some .cell) then (n,Ef) else (n,k)).lookup x=some .free)→(x,Bg)∈names:=by
  intro names
  induction names with
  |nil=>intro _ h;simp at h
  |cons p r ih=>
   obtain⟨n,k⟩:=p
   intro hn h
   have hr:=fun y hy=>hn y (AJ _ hy)
   have hk:=hn (n,k) AY
   rw[AA]at h
   dsimp only at h
   by_cases hx:x=n
   . subst hx
     by_cases hf:k=.free
     . subst hf;exact AY
     . have hf':(k == Bg)=false:=by simpa using hf
       rw[hf']at h
       simp only[FA,AU,if_false,AK,beq_self_eq_true]at h
       rcases h with h|h
       . cases h;exact absurd rfl hk
       . cases h;exact absurd rfl hf
   . refine AJ _ (ih hr ?_)
     have hx':(x == n)=false:=by simpa using hx
     split at h<;>simpa only[AK,hx'] using h
 exact key sc.names hn h
theorem uW{sc:Scope}{env:Env}{x:Str}(hl:∀y∈sc.names,y.2=.local→sc.names.lookup y.1=some .local)(h:sc.names.lookup x=some .free) :
 (relabel sc env).names.lookup x=some .cell∨(relabel sc env).names.lookup x=some .free:=by
 have key:∀(names:List (Str × CV)),names.lookup x=some .free→((names.map fun(n,k)=>if (k == Bg&&env.scope.kind == .function&&env.kindOf n == some .cell) then (n,Ef) else (n,k)).lookup x=some .cell ∨
  (names.map fun(n,k)=>if (k == Bg&&env.scope.kind == .function&&env.kindOf n == some .cell) then (n,Ef) else (n,k)).lookup x=some .free):=by
  intro names
  induction names with
  |nil=>intro h;simp at h
  |cons p r ih=>
   obtain⟨n,k⟩:=p
   intro h
   rw[AA]
   dsimp only
   cases hx:(x == n) with
   |true=>
    rw[AK,hx]at h
    cases h
    split
    . left;simp only[AK,hx]
    . right;simp only[AK,hx]
   |false=>
    rw[AK,hx]at h
    have:=ih h
    split<;>simpa only[AK,hx] using this
 exact key sc.names h
section
variable {X:Cx}{pins:List (Addr × Obj)}{σ:St}{H:Hp}{s:Shared}{N:List Str}{sc:Scope}{fr:List (Option Nat)}{fp:List Addr}
theorem zo.cells(S:zo X N sc fr)(ok:X.Ok):∀x∈sc.names,x.2=.free→∃c,X.env.cells.lookup x.1=some c:=fun x hx hk=>ok.has x.1 (S.free x hx hk)
theorem dZ(I:Inv X pins σ H s)(S:zo X N sc fr)(hf:∀b∈fp,tm X pins H b)(hlt:∀b∈fp,b<s.heap.objs.size):(X.comp N sc s.heap.objs.size s H fp).Ok:=by
 have sub:∀x c,(vt X.env.cells sc.names []).lookup x=some c→X.env.cells.lookup x=some c:=vB sc.names [] (fun x c e=>by simp at e)
 refine⟨I.ok.mod,S.kind,I.ok.glob,I.ok.blt,Ai _,fun x y c e1 e2=>I.ok.inj x y c (sub x c e1) (sub y c e2),fun x h=>?_,fun x c h=>(nomatch h),I.ok.hd,I.ok.frames,.inl rfl,fun b hb=>?_,fun b o e=>I.bs b o e,?_,fun b o e hb=>?_,fun b hb z=>?_,I.stack,I.ka⟩
 . have m:(x,Bg)∈sc.names:=p7 S.nocell h
   obtain⟨c,hc⟩:=S.cells I.ok (x,.free) m rfl
   exact⟨c,wR sc.names [] x c hc (.inr m) (fun y d e=>by simp at e)⟩
 . obtain⟨f0,f1,f2,f3,f4,f5⟩:=hf b hb
   exact⟨AG (hlt b hb),fun x c e=>f4 x c (sub x c e)⟩
 . exact AB I.ok.bsz I.sz
 . obtain⟨f0,f1,f2,f3,f4,f5⟩:=hf b hb
   rcases f3 with f3|f3
   . exact I.ok.noex b o e f3
   . exact absurd (AS (Au e) (AB I.ok.bsz f3)) (CO _)
 . obtain⟨f0,f1,f2,f3,f4,f5⟩:=hf b hb
   rcases AF.mp (I.lB b z) with e|e
   . exact f1 e
   . exact f2 e
theorem mB{h':Heap}{tk:Nat}(I:Inv X pins σ H s)(S:zo X N sc fr)(hf:∀b∈fp,tm X pins H b)(hlt:∀b∈fp,b<s.heap.objs.size)
 (hns:h'.Ns s.heap.objs.size (fun _=>none)) (k:∀b o,s.heap.get? b=some o→h'.get? b=some o):Inv (X.comp N sc s.heap.objs.size s H fp) [] (zT fr σ) H {s with heap:=h',toks:=tk}:=by
 have sub:∀x c,(vt X.env.cells sc.names []).lookup x=some c→X.env.cells.lookup x=some c:=vB sc.names [] (fun x c e=>by simp at e)
 refine⟨dZ I S hf hlt,rfl,I.bare,Un.kept k,⟨_,hns,fun i x v e1 e2 e3=>?_⟩,fun x c e=>?_,I.hok.fresh (Ai _),fun x c e=>I.freeC x c (sub x c e),fun p hp=>(by simp at hp),I.hok.kept k,?_⟩
 . have e2':(fr.map fun o=>match o with|some j=>(σ[j]?).join|none=>none)[i]?=some (some v):=e2
   rw[Ay]at e2'
   cases hfi:fr[i]? with
   |none=>rw[hfi]at e2';cases e2'
   |some o=>
    rw[hfi]at e2'
    cases o with
    |none=>cases e2'
    |some j=>
     obtain⟨n1,n2⟩:=S.from_ i j x e1 hfi
     have e3':σ[j]?=some (some v):=by
      have q:(σ[j]?).join=some v:=AO e2'
      cases hσ:σ[j]? with
      |none=>rw[hσ]at q;cases q
      |some w=>rw[hσ]at q;cases w with
       |none=>cases q
       |some w'=>have:w'=v:=AO q
                 rw[this]
     have hk:=S.free (x,.free) n2 rfl
     obtain⟨m,hn,hl⟩:=I.loc
     obtain⟨u,r,l⟩:=hl j x v n1 e3' (hk.elim (fun z=>.inr (.inl z)) fun z=>.inr (.inr z))
     refine⟨u,r,?_⟩
     rcases l with⟨hk',_⟩|⟨_,c,hc,z⟩
     . rcases hk with hk|hk<;>(rw[hk]at hk';cases hk')
     . refine .inr ⟨?_,c,wR sc.names [] x c hc (.inr n2) (fun y d e=>by simp at e),?_⟩
       . rcases e3 with e3|e3|e3
         . -- a local of that name: cannot be,the name is free in the block
           exfalso
           have hloc:sc.names.lookup x=some .local:=by
            have key:∀(names:List (Str × CV)),(names.map fun(n,k)=>if (k == Bg&&X.env.scope.kind == .function&&X.env.kindOf n == some .cell) then (n,Ef) else (n,k)).lookup x=some .local→names.lookup x=some .local:=by
             intro names
             induction names with
             |nil=>intro h;simp at h
             |cons p r ih=>
              obtain⟨n,kk⟩:=p
              intro h
              rw[AA]at h
              dsimp only at h
              cases hx:(x == n) with
              |true=>
               split at h
               . simp only[AK,hx]at h;cases h
               . simp only[AK,hx]at h ⊢;exact h
              |false=>
               rw[AK,hx]
               refine ih ?_
               split at h<;>simpa only[AK,hx] using h
            exact key sc.names e3
           exact S.one x hloc n2
         . exact .inl e3
         . exact .inr e3
       . obtain⟨o,ho,hd⟩:=z
         exact⟨o,k _ _ ho,hd⟩
 . obtain⟨v,o,ho,hd⟩:=I.cell x c (sub x c e)
   exact⟨v,o,k _ _ ho,hd⟩
 . show (fr.map _).length=N.length
   rw[Ag];exact S.len
end
end L2
end
section
namespace L2
open PySem PySem.Spec PyProof.Rows
noncomputable def oH:List TT→TT
 |[]=>fun _ H Q=>Q true H
 |t::ts=>fun σ H Q=>t σ H fun c H1=>if c=true then oH ts σ H1 Q else Q false H1
inductive PTs(X:Cx):List Expr→List TT→Prop
 |nil:PTs X [] []
 |cons {c:Expr} {cs:List Expr} {t:TT} {ts:List TT}:PT X c t→PTs X cs ts→PTs X (c::cs) (t::ts)
theorem tZ{X:Cx}{Q:Bool→Shared→Prop}{E:Value→Shared→Prop}{s:Shared}(h:Q false s):∀cs:List Expr,
 wpAny (model X.prog X.w) X.A (forIn cs false fun c r=>if r=true then do let ok ←isTrue c X.env (eval c X.env);pure (CG ok) else pure (CG r)) Q E s
 |[]=>Al h
 |c::cs=>by
  rw[GI]
  exact Ac (Al (tZ h cs))
theorem PTs.run{X:Cx}:∀{cs:List Expr} {ts:List TT},PTs X cs ts→∀{pins:List (Addr × Obj)} {s:Shared} {σ:St} {H:Hp} {Q:Bool→Hp→Prop},Inv X pins σ H s→oH ts σ H Q →
 wpAny (model X.prog X.w) X.A (forIn cs true fun c r=>if r=true then do let ok ←isTrue c X.env (eval c X.env);pure (CG ok) else pure (CG r)) (TP X pins σ Q) X.xe s
 |_,_,.nil,pins,s,σ,H,Q,I,h=>Al ⟨H,I,h⟩
 |_,_,.cons hc hs,pins,s,σ,H,Q,I,h=>by
  rw[GI]
  refine Ac (Ac (thn (hc pins s σ H _ I h) fun c s1 ⟨H1,I1,q1⟩=>Al ?_))
  cases c with
  |true=>exact hs.run I1 q1
  |false=>exact tZ ⟨H1,I1,q1⟩ _
noncomputable abbrev TB:=(St→Hp→Prop)→St→Hp→Prop
def PB(X:Cx)(B:Sem PUnit)(tb:TB):Prop:=
 ∀(pins:List (Addr × Obj)) (s:Shared) (σ:St) (H:Hp) (Nx:St→Hp→Prop),Inv X pins σ H s→tb Nx σ H→wpAny (model X.prog X.w) X.A B (fun _ s'=>∃σ' H',Inv X pins σ' H' s'∧Nx σ' H') X.xe s
noncomputable def tTB(ts:List TT)(tb:TB):TS:=fun D σ H=>oH ts σ H fun c H1=>if c=true then tb D.nx σ H1 else D.nx σ H1
def qk(J:It)(g:TG)(tb:TS)(D:Ends)(σ:St)(H:Hp):Prop:=∃W:Nat→Nat→St→Hp→Prop,(∃m,W 0 m σ H)∧∀i m σ H,W i m σ H →
 (J.stop i H∧D.nx σ H)∨(J.go i H∧∃N:St→Hp→Prop,(∀σ' H',N σ' H'→∃m',m'<m∧W (i+1) m' σ' H')∧∀x H',J.yld i H x H'→g x σ H' fun σ2 H2=>tb {D with nx:=N,ct:=N,bk:=D.nx} σ2 H2)
theorem wU{X:Cx}{elt:Expr}{gens:List G7}{csc:Scope}{cpos:Pos}{d:Nat}{tg:Expr}{p:Pos}{ifs:List Expr}{B:Sem PUnit}{acc:Value}{it:Addr}{fp:List Addr}{tn:Nat→Heap→Prop}{J:It}{g:TG}{ts:List TT}{tb:TB}{D:Ends}
 {pins:List (Addr × Obj)} {σ:St} {H:Hp} {s:Shared} {R:Result→Shared→Prop}
 (heq:Ew (.ListComp elt gens csc cpos) d (.ref it) acc X.env=(do
  standAt p
  match ←pyNext (.ref it) with
  |none=>pure (.done .next)
  |some v=>
   BX tg (.ref it) v
   assign tg X.env v
   let mut ok:=true
   for c in ifs do
    if ok then ok ←isTrue c X.env (eval c X.env)
   if ok then B
   again (.compLoop (.ListComp elt gens csc cpos) d (.ref it) acc X.env)))
 (hx:X.xe=fun _ _=>False) (hc:X.calm=true) (T:Turn X.prog X.w X.K tg J fp it tn) (hg:PG X tg g) (ht:PTs X ifs ts) (hb:PB X B tb)
 (I:Inv X pins σ H s) (st:tn 0 s.heap) (f:∀b∈fp,tm X pins H b) (h:qk J g (tTB ts tb) D σ H)
 (hR:∀σ' H' s',Inv X pins σ' H' s'→D.nx σ' H'→(∀b∈fp,H' b=none)→R (.ok .next) s') :
 codeAny (model X.prog X.w) X.A (.compLoop (.ListComp elt gens csc cpos) d (.ref it) acc X.env) R s:=by
 obtain⟨W,⟨m0,w0⟩,turn⟩:=h
 have stat:∀{H':Hp},(∀b∈fp,H' b=none)→∀b∈fp,tm X pins H' b:=fun hn b hb=>⟨hn b hb,(f b hb).2⟩
 have no:∀{α:Type} {t:Sem α} {Q:α→Shared→Prop} {E':Value→Shared→Prop} {s:Shared},wpAny (model X.prog X.w) X.A t Q X.xe s→wpAny (model X.prog X.w) X.A t Q E' s:=fun h=>Cu h (fun _ _ q=>q) fun _ _ z=>by rw[hx]at z;exact z.elim
 refine codeAny_loop rfl (fun n s'=>∃i σ' H',Inv X pins σ' H' s'∧tn i s'.heap∧(∀b∈fp,H' b=none)∧W i n σ' H') (fun n s3 hI=>?_) m0 ⟨0,σ,H,I,st,fun b hb=>(f b hb).1,w0⟩
 obtain⟨i,σ3,H3,I3,st3,fr3,w3⟩:=hI
 show wpAny _ _ ((Ew (.ListComp elt gens csc cpos) d (.ref it) acc X.env).onRaise (fun x=>do noteFrame x X.env;theTreesLotGoes x)) _ _ s3
 refine wpAny_noted ?_
 rw[heq]
 refine Ac (CP (Ac ?_))
 rcases turn i n σ3 H3 w3 with⟨stop,qn⟩|⟨go,N,hN,step⟩
 . refine no (thn (T.done X rfl rfl rfl hc i pins s3 σ3 H3 X.xe I3 (stat fr3) st3 stop) fun r s4 ⟨hr,I4⟩=>?_)
   subst hr
   exact Al (hR σ3 H3 s4 I4 qn fr3)
 . refine no (thn (T.item X rfl rfl rfl hc i pins s3 σ3 H3 X.xe I3 (stat fr3) st3 go) fun r s4 ⟨u,hr,h4⟩=>?_)
   subst hr
   refine Ac (no (thn h4 fun _ s5 ⟨x,H5,I5,r5,y5,st5,fr5⟩=>?_))
   have I5':=I5.pinned (stat fr5) (T.obj _ _ st5)
   refine Ac (no (thn (hg _ s5 σ3 H5 x u _ I5' r5 (step x H5 y5)) fun _ s6 ⟨σ6,H6,I6,q6⟩=>?_))
   refine Ac (no (thn (ht.run I6 q6) fun ok s7 ⟨H7,I7,q7⟩=>?_))
   have again':∀{σ7:St} {H7:Hp} {s7:Shared},Inv X (pins++rL fp s5.heap) σ7 H7 s7→N σ7 H7→∃m,m<n∧∃i σ' H',Inv X pins σ' H' s7∧tn i s7.heap∧(∀b∈fp,H' b=none)∧W i m σ' H':=fun{σ7 H7 s7} I7 n7=>by
    obtain⟨m',hm,w7⟩:=hN σ7 H7 n7
    refine⟨m',hm,i+1,σ7,H7,I7.uf,T.keep _ _ _ st5 fun b hb o e=>(I7.pin (b,o) (Bh _ (Bh _ (wq hb e)))).1,fun b hb=>?_,w7⟩
    obtain⟨o,e,d⟩:=T.obj _ _ st5 b hb
    exact(I7.pin (b,o) (Bh _ (Bh _ (wq hb e)))).2.1
   cases ok with
   |false=>exact Al ⟨rfl,again' I7 q7⟩
   |true=>exact Ac (no (thn (hb _ s7 σ6 H7 N I7 q7) fun _ s8 ⟨σ8,H8,I8,n8⟩=>Al ⟨rfl,again' I8 n8⟩))
noncomputable def vn(acc:Addr)(te:TE):TB:=fun Nx σ H=>te σ H fun y H1=>∃ys,H1 acc=some (.lst ys)∧ys.length<Az∧Nx σ (upd H1 acc (.lst (ys++[y])))
theorem sG{X:Cx}{acc:Addr}{elt:Expr}{te:TE}(he:PE X elt te):PB X (do let _ ←call (.builtin "list.append") [.ref acc,←eval elt X.env]) (vn acc te):=by
 intro pins s σ H Nx I h
 refine Ac (thn (he pins s σ H _ I h) fun u s1 ⟨y,H1,I1,r1,ys,hl,hz,q⟩=>?_)
 refine Ac (thn (jq pins s1 σ H1 (.ref acc) [y] (.ref acc) [u] (fun _ H'=>Nx σ H') I1 rfl (.cons r1 .nil) ⟨acc,ys,y,rfl,rfl,hl,hz,q⟩) fun _ s2 ⟨_,H2,I2,_,q2⟩=>?_)
 exact Al ⟨σ,H2,I2,q2⟩
end L2
end
section
namespace L2
open PySem PySem.Spec PyProof.Rows
def vL(fr:List (Option Nat))(wi:TI)(g:TG)(ts:List TT)(tb:Addr→TB)(σ:St)(H:Hp)(Q:VK):Prop:=
 wi σ H fun J H1=>∀acc,H1 acc=none→qk J g (tTB ts (tb acc)) ⟨fun _ H'=>Q (.ref acc) H',fun _ _=>False,fun _ _=>False,fun _ _=>False⟩ (zT fr σ) (upd H1 acc (.lst []))
section
variable {X:Cx}{pins:List (Addr × Obj)}{σ:St}{H:Hp}{s:Shared}{N:List Str}{csc:Scope}{fr:List (Option Nat)}{elt tg iter:Expr}{ifs:List Expr}{rest:List G7}{cpos:Pos}{wi:TI}{g:TG}{ts:List TT}{tb:Addr→TB}
theorem qT{use:Option (Value→Sem Unit)}{QQ:Value→Shared→Prop}{Qv:VK}{B:Value→Env→Sem PUnit}{E:Value→Shared→Prop}(hE:E=X.xe)(hc:X.calm=true)(S:zo X N csc fr)(hi:PI X tg iter wi)
 (hturn:∀(it:Addr) (acc:Value) (env:Env),Ew (.ListComp elt (⟨tg,iter,ifs,0⟩::rest) csc cpos) 0 (.ref it) acc env=(do
  standAt iter.pos
  match ←pyNext (.ref it) with
  |none=>pure (.done .next)
  |some v=>
   BX tg (.ref it) v
   assign tg env v
   let mut ok:=true
   for c in ifs do
    if ok then ok ←isTrue c env (eval c env)
   if ok then B acc env
   again (.compLoop (.ListComp elt (⟨tg,iter,ifs,0⟩::rest) csc cpos) 0 (.ref it) acc env)))
 (hg:∀C s0 H0 ex,PG (X.comp N csc C s0 H0 ex) tg g) (ht:∀C s0 H0 ex,PTs (X.comp N csc C s0 H0 ex) ifs ts)
 (hb:∀C s0 H0 ex acc,PB (X.comp N csc C s0 H0 ex) (B (.ref acc) (X.comp N csc C s0 H0 ex).env) (tb acc))
 (I:Inv X pins σ H s) (h:vL fr wi g ts tb σ H Qv)
 (hfin:∀acc C H' s',Inv X pins σ H' s'→Qv (.ref acc) H'→(∃m,s'.heap.Ns C m)→H' C=none→C≠X.env.locals→X.s₀.heap.objs.size≤C→(∀x c,X.env.cells.lookup x=some c→c≠C)→(∀p∈X.pn++pins,p.1≠C) →
  compPost (model X.prog X.w) X.A X.xe use QQ (.ref acc) C (.ok .next) s') :
 wpAny (model X.prog X.w) X.A (eval iter X.env) (fun x s₁=>wpAny (model X.prog X.w) X.A (pyIter x) (fun it s₂=>wpAny (model X.prog X.w) X.A (newList []) (fun acc s₃=>
  wpAny (model X.prog X.w) X.A (newFunctionEnv csc X.env.globals (vt X.env.cells csc.names []) [] X.env.qual none .none (some X.env)) (fun cenv s₄=>
   codeAny (model X.prog X.w) X.A (.compStart (.ListComp elt (⟨tg,iter,ifs,0⟩::rest) csc cpos) 0 it acc {cenv with scope:=relabel csc X.env}) (compPost (model X.prog X.w) X.A E use QQ acc cenv.locals) s₄) E s₃) E s₂) E s₁) E s:=by
 subst hE
 refine thn (hi pins s σ H _ I h) fun v s1 h1=>thn h1 fun itv s2 h2=>?_
 obtain⟨it,fp,tn,J,H2,e,I2,T,st2,f2,q2⟩:=h2
 subst e
 refine Br ?_
 have hfr:H2 s2.heap.objs.size=none:=I2.hok.fresh (Ai _)
 have q3:=q2 s2.heap.objs.size hfr
 generalize hs3:({s2 with heap:=s2.heap.push {cls:=.type "list",dict:=none,data:=.seq ([]:List Value).toArray}}:Shared)=s3
 have k23:∀b u,s2.heap.get? b=some u→s3.heap.get? b=some u:=fun b u e=>by rw[←hs3];exact Af _ e
 have new3:s3.heap.get? s2.heap.objs.size=some {cls:=.type "list",dict:=none,data:=.seq ([]:List Value).toArray}:=by rw[←hs3];exact AI _ rfl
 have I3:Inv X pins σ (upd H2 s2.heap.objs.size (.lst [])) s3:=by
  rw[←hs3]
  exact I2.laid (t':=s2.toks) (fun b u e=>Af _ e) (Ai _) ⟨Bp _,[],0,.nil,AI _ rfl⟩
 have lt2:∀b∈fp,b<s2.heap.objs.size:=fun b hb=>by obtain⟨o,e,_⟩:=T.obj _ _ st2 b hb;exact Au e
 have hsz:s3.heap.objs.size=s2.heap.objs.size+1:=by rw[←hs3];exact DS ..
 have f3:∀b∈fp,tm X pins (upd H2 s2.heap.objs.size (.lst [])) b:=fun b hb=>⟨by rw[zO (AG (lt2 b hb))];exact(f2 b hb).1,(f2 b hb).2⟩
 have lt3:∀b∈fp,b<s3.heap.objs.size:=fun b hb=>by rw[hsz];exact Bt (lt2 b hb)
 refine wpAny_newFunctionEnv S.nocell (by intro y hy;simp at hy) (fun h4 hns4 hsb4=>?_) S.kind
 have k34:∀b o,s3.heap.get? b=some o→h4.get? b=some o:=fun b o e=>hsb4.extBut b o (AG (Au e)) (Af _ e)
 have hns4':h4.Ns s3.heap.objs.size (fun _=>none):=by simpa using hns4
 have I4:=mB (tk:=s3.toks+([]:List (Str × Value)).length) I3 S f3 lt3 hns4' k34
 have st4:tn 0 h4:=T.keep _ _ _ st2 fun b hb o e=>k34 b o (k23 b o e)
 have f4:∀b∈fp,tm (X.comp N csc s3.heap.objs.size s3 (upd H2 s2.heap.objs.size (.lst [])) fp) [] (upd H2 s2.heap.objs.size (.lst [])) b:=fun b hb=>by
  have ok:=I4.ok
  obtain⟨g1,g2⟩:=ok.exf b hb
  exact⟨(f3 b hb).1,g1,ok.exfs b hb,.inl hb,g2,fun p hp=>by simp at hp⟩
 have fin:∀σ' H' s',Inv (X.comp N csc s3.heap.objs.size s3 (upd H2 s2.heap.objs.size (.lst [])) fp) [] σ' H' s'→Qv (.ref s2.heap.objs.size) H'→(∀b∈fp,H' b=none) →
  compPost (model X.prog X.w) X.A X.xe use QQ (.ref s2.heap.objs.size) s3.heap.objs.size (.ok .next) s':=fun σ' H' s' I' q' _=>by
  have IX:Inv X pins σ H' s':=I3.Xx I'.os I'.base I'.hok I'.bare fun b hb=>by
   obtain⟨g0,g1,g2,g3,g4,g5⟩:=f3 b hb
   exact⟨g3,g1,g4,g5⟩
  obtain⟨m,hn,_⟩:=I'.loc
  refine hfin _ _ H' s' IX q' ⟨m,hn⟩ I'.free (Fh I3.lt) I3.sz (fun x c e=>?_) fun p hp=>?_
  . obtain⟨w',z⟩:=I3.cell x c e
    exact AG z.lt
  . exact AG (Au (I3.pin p hp).1)
 have loop:codeAny (model X.prog X.w) X.A (.compLoop (.ListComp elt (⟨tg,iter,ifs,0⟩::rest) csc cpos) 0 (.ref it) (.ref s2.heap.objs.size) (compEnvC csc (vt X.env.cells csc.names []) s3.heap.objs.size X.env))
  (compPost (model X.prog X.w) X.A X.xe use QQ (.ref s2.heap.objs.size) s3.heap.objs.size) {s3 with heap:=h4,toks:=s3.toks+([]:List (Str × Value)).length}:=
  wU (X:=X.comp N csc s3.heap.objs.size s3 (upd H2 s2.heap.objs.size (.lst [])) fp) (hturn it _ _) rfl hc T (hg _ _ _ _) (ht _ _ _ _) (hb _ _ _ _ _) I4 st4 f4 q3 fin
 exact codeAny_compStart_list loop (T.self X.A 0 _ _ _ st4 loop)
theorem nP{B:Value→Env→Sem PUnit}(hc:X.calm=true)(S:zo X N csc fr)(hi:PI X tg iter wi)
 (hturn:∀(it:Addr) (acc:Value) (env:Env),Ew (.ListComp elt (⟨tg,iter,ifs,0⟩::rest) csc cpos) 0 (.ref it) acc env=(do
  standAt iter.pos
  match ←pyNext (.ref it) with
  |none=>pure (.done .next)
  |some v=>
   BX tg (.ref it) v
   assign tg env v
   let mut ok:=true
   for c in ifs do
    if ok then ok ←isTrue c env (eval c env)
   if ok then B acc env
   again (.compLoop (.ListComp elt (⟨tg,iter,ifs,0⟩::rest) csc cpos) 0 (.ref it) acc env)))
 (hg:∀C s0 H0 ex,PG (X.comp N csc C s0 H0 ex) tg g) (ht:∀C s0 H0 ex,PTs (X.comp N csc C s0 H0 ex) ifs ts)
 (hb:∀C s0 H0 ex acc,PB (X.comp N csc C s0 H0 ex) (B (.ref acc) (X.comp N csc C s0 H0 ex).env) (tb acc))
 (hs:∀x,Bb iter X.env x=pure x:=by intro _;rfl) :
 PE X (.ListComp elt (⟨tg,iter,ifs,0⟩::rest) csc cpos) (vL fr wi g ts tb):=by
 intro pins s σ H Q I h
 rw[eval_ListComp]
 refine Gj (use:=none) rfl hs (vj (S.cells I.ok)) S.kind S.locals ?_
 refine qT (use:=none) rfl hc S hi hturn hg ht hb I h fun acc C H' s' I' q' hn hC hL h0 hcl hpn=>?_
 obtain⟨m,hn⟩:=hn
 refine⟨m,hn,fun h' sb=>⟨.ref acc,H',?_,rfl,q'⟩⟩
 exact I'.turned (t':=s'.toks) (fun b o hb e=>(sb.2 b hb).trans e) hC (BZ (BZ hL)) (.inr h0) hcl hpn
theorem nU{B:Value→Env→Sem PUnit}{y:Str}{py spos:Pos}{i:Nat}(hc:X.calm=true)(S:zo X N csc fr)(hi:PI X tg iter wi)
 (hturn:∀(it:Addr) (acc:Value) (env:Env),Ew (.ListComp elt (⟨tg,iter,ifs,0⟩::rest) csc cpos) 0 (.ref it) acc env=(do
  standAt iter.pos
  match ←pyNext (.ref it) with
  |none=>pure (.done .next)
  |some v=>
   BX tg (.ref it) v
   assign tg env v
   let mut ok:=true
   for c in ifs do
    if ok then ok ←isTrue c env (eval c env)
   if ok then B acc env
   again (.compLoop (.ListComp elt (⟨tg,iter,ifs,0⟩::rest) csc cpos) 0 (.ref it) acc env)))
 (hg:∀C s0 H0 ex,PG (X.comp N csc C s0 H0 ex) tg g) (ht:∀C s0 H0 ex,PTs (X.comp N csc C s0 H0 ex) ifs ts)
 (hb:∀C s0 H0 ex acc,PB (X.comp N csc C s0 H0 ex) (B (.ref acc) (X.comp N csc C s0 H0 ex).env) (tb acc))
 (hN:X.N.Nodup) (hy:X.N[i]?=some y) (hx:Loc X.env.scope y)
 (hsw:Eo (.ListComp elt (⟨tg,iter,ifs,0⟩::rest) csc cpos) (some (.Name y py)) spos.line X.env=pure true:=by rfl)
 (hf:X.fn y=true∨X.env.scope.names.lookup y=some .local:=by first|exact .inl rfl|exact .inr rfl|assumption)
 (hs:∀x,Bb iter X.env x=pure x:=by intro _;rfl) :
 PS X (.Assign [.Name y py] (.ListComp elt (⟨tg,iter,ifs,0⟩::rest) csc cpos) spos) (qG (vL fr wi g ts tb) (vD i)):=by
 intro pins s σ H D I h
 rw[exec_Assign_Name_used _ _ _ _ hsw]
 refine Ac (CP (Ac ?_))
 show wpAny _ X.A (do let _ ←comprehension (.ListComp elt (⟨tg,iter,ifs,0⟩::rest) csc cpos) csc X.env _ (newList []) false (eval iter X.env) (some (assign (.Name y py) X.env))) _ _ s
 refine Ac (Cu (Gj (use:=some (assign (.Name y py) X.env)) (Q:=fun _ s'=>SP X pins D .next s') rfl hs (vj (S.cells I.ok)) S.kind S.locals ?_) (fun _ s' hq=>Al (Al hq)) fun _ _ e=>e)
 refine qT (use:=some (assign (.Name y py) X.env)) rfl hc S hi hturn hg ht hb I h fun acc C H' s' I' q' hn hC hL h0 hcl hpn=>?_
 obtain⟨m,hn⟩:=hn
 show wpAny _ X.A (assign (.Name y py) X.env (.ref acc)) _ _ _
 refine wpAny_assign_Name (qr I' hN hy hx (show RelV (.ref acc) (.ref acc) from rfl) (fun s2 I2 ⟨a,sb,ha⟩=>?_) hf)
 have haC:C≠a:=by
  rcases ha with ha|ha
  . rw[ha];exact hL
  . exact BZ (hcl y a ha)
 refine⟨m,hn.sameBut sb haC,fun h' sb'=>⟨_,H',?_,q'⟩⟩
 exact I2.turned (t':=s2.toks) (fun b o hb e=>(sb'.2 b hb).trans e) hC hL (.inr h0) hcl hpn
theorem a9(elt tg iter:Expr)(ifs:List Expr)(csc:Scope)(cpos:Pos)(it:Addr)(acc:Value)(env:Env) :
 Ew (.ListComp elt [⟨tg,iter,ifs,0⟩] csc cpos) 0 (.ref it) acc env=(do
  standAt iter.pos
  match ←pyNext (.ref it) with
  |none=>pure (.done .next)
  |some v=>
   BX tg (.ref it) v
   assign tg env v
   let mut ok:=true
   for c in ifs do
    if ok then ok ←isTrue c env (eval c env)
   if ok then (do let _ ←call (.builtin "list.append") [acc,←eval elt env])
   again (.compLoop (.ListComp elt [⟨tg,iter,ifs,0⟩] csc cpos) 0 (.ref it) acc env)):=by rfl
theorem ZA(elt tg iter:Expr)(ifs:List Expr)(tg2 iter2:Expr)(ifs2:List Expr)(csc:Scope)(cpos:Pos)(it:Addr)(acc:Value)(env:Env) :
 Ew (.ListComp elt [⟨tg,iter,ifs,0⟩,⟨tg2,iter2,ifs2,0⟩] csc cpos) 0 (.ref it) acc env=(do
  standAt iter.pos
  match ←pyNext (.ref it) with
  |none=>pure (.done .next)
  |some v=>
   BX tg (.ref it) v
   assign tg env v
   let mut ok:=true
   for c in ifs do
    if ok then ok ←isTrue c env (eval c env)
   if ok then (do
    let x ←eval iter2 env
    standAt iter2.pos
    let x ←Bb iter2 env x
    let _ ←runOwn (.compStart (.ListComp elt [⟨tg,iter,ifs,0⟩,⟨tg2,iter2,ifs2,0⟩] csc cpos) 1 (←holding [x] (pyIter x)) acc env) env)
   again (.compLoop (.ListComp elt [⟨tg,iter,ifs,0⟩,⟨tg2,iter2,ifs2,0⟩] csc cpos) 0 (.ref it) acc env)):=by
 have e:Ew (.ListComp elt [⟨tg,iter,ifs,0⟩,⟨tg2,iter2,ifs2,0⟩] csc cpos) 0 (.ref it) acc env=(do
  standAt iter.pos
  match ←pyNext (.ref it) with
  |none=>pure (.done .next)
  |some v=>
   BX tg (.ref it) v
   assign tg env v
   let mut ok:=true
   for c in ifs do
    if ok then ok ←isTrue c env (eval c env)
   if ok then
    let x ←eval iter2 env
    standAt iter2.pos
    let x ←Bb iter2 env x
    let _ ←runOwn (.compStart (.ListComp elt [⟨tg,iter,ifs,0⟩,⟨tg2,iter2,ifs2,0⟩] csc cpos) 1 (←holding [x] (pyIter x)) acc env) env
   again (.compLoop (.ListComp elt [⟨tg,iter,ifs,0⟩,⟨tg2,iter2,ifs2,0⟩] csc cpos) 0 (.ref it) acc env)):=by rfl
 rw[e]
 simp only[bind_assoc,FK]
theorem Xa(elt tg iter:Expr)(ifs:List Expr)(tg2 iter2:Expr)(ifs2:List Expr)(csc:Scope)(cpos:Pos)(it:Addr)(acc:Value)(env:Env) :
 Ew (.ListComp elt [⟨tg,iter,ifs,0⟩,⟨tg2,iter2,ifs2,0⟩] csc cpos) 1 (.ref it) acc env=(do
  standAt iter2.pos
  match ←pyNext (.ref it) with
  |none=>pure (.done .next)
  |some v=>
   BX tg2 (.ref it) v
   assign tg2 env v
   let mut ok:=true
   for c in ifs2 do
    if ok then ok ←isTrue c env (eval c env)
   if ok then (do let _ ←call (.builtin "list.append") [acc,←eval elt env])
   again (.compLoop (.ListComp elt [⟨tg,iter,ifs,0⟩,⟨tg2,iter2,ifs2,0⟩] csc cpos) 1 (.ref it) acc env)):=by rfl
end
end L2
end
section
namespace L2
open PySem PySem.Spec PyProof.Rows
theorem n9{prog:Program}{w:World}{A:Around}{R:Result→Shared→Prop}{s:Shared}{elt tg iter tg2 iter2:Expr}{ifs ifs2:List Expr}{csc:Scope}{cpos:Pos}{it acc:Value}{env:Env}
 (h0:codeAny (model prog w) A (.compLoop (.ListComp elt [⟨tg,iter,ifs,0⟩,⟨tg2,iter2,ifs2,0⟩] csc cpos) 1 it acc env) R s)
 (h:wpAny (model prog w) A (pyIter it) (fun it' s'=>codeAny (model prog w) A (.compLoop (.ListComp elt [⟨tg,iter,ifs,0⟩,⟨tg2,iter2,ifs2,0⟩] csc cpos) 1 it' acc env) R s')
  (notedBy (model prog w) A env fun x s'=>R (.error x) s') s) :
 codeAny (model prog w) A (.compStart (.ListComp elt [⟨tg,iter,ifs,0⟩,⟨tg2,iter2,ifs2,0⟩] csc cpos) 1 it acc env) R s:=by
 refine codeAny_of_tree ?_
 show wpAny _ _ ((compStart (.ListComp elt [⟨tg,iter,ifs,0⟩,⟨tg2,iter2,ifs2,0⟩] csc cpos) 1 it acc env).onRaise (fun x=>do noteFrame x env;standAt theWindowsPlace)) _ _ s
 refine wpAny_notedAt ?_
 unfold compStart
 show wpAny _ _ (ask >>= _) _ _ s
 refine Ac (wpAny_askSetting (wpAny_ite ?_))
 split
 . first
    |exact Ac (Al (Al (Am rfl h0)))
    |exact Al (Am rfl h0)
 . first
    |exact Ac (Cv (Ac (CP (Ac (Cu h (fun it' s' h'=>Al (Am rfl h')) fun _ _ x=>x)))))
    |(refine Ac (Cv ?_);show wpAny _ _ (standAt iter2.pos >>= _) _ _ s;exact Ac (CP (Ac (Cu h (fun it' s' h'=>Al (Am rfl h')) fun _ _ x=>x))))
noncomputable def rW(wi:TI)(g:TG)(ts:List TT)(tb:TB):TB:=fun Nx σ H=>wi σ H fun J H1=>qk J g (tTB ts tb) ⟨Nx,fun _ _=>False,fun _ _=>False,fun _ _=>False⟩ σ H1
theorem nN{X:Cx}{acc:Addr}{elt tg iter tg2 iter2:Expr}{ifs ifs2:List Expr}{csc:Scope}{cpos:Pos}{wi:TI}{g:TG}{ts:List TT}{tb:TB}
 (hx:X.xe=fun _ _=>False) (hc:X.calm=true) (hi:PI X tg2 iter2 wi) (hg:PG X tg2 g) (ht:PTs X ifs2 ts) (hb:PB X (do let _ ←call (.builtin "list.append") [.ref acc,←eval elt X.env]) tb)
 (hs:∀x,Bb iter2 X.env x=pure x:=by intro _;rfl) :
 PB X (do
       let x ←eval iter2 X.env
       standAt iter2.pos
       let x ←Bb iter2 X.env x
       let _ ←runOwn (.compStart (.ListComp elt [⟨tg,iter,ifs,0⟩,⟨tg2,iter2,ifs2,0⟩] csc cpos) 1 (←holding [x] (pyIter x)) (.ref acc) X.env) X.env) (rW wi g ts tb):=by
 intro pins s σ H Nx I h
 refine Ac (thn (hi pins s σ H _ I h) fun v s1 h1=>Ac (CP (Ac (wpAny_of_eq (hs v) (Ac (BB (thn h1 fun itv s2 h2=>?_)))))))
 obtain⟨it,fp,tn,J,H2,e,I2,T,st2,f2,q2⟩:=h2
 subst e
 refine Ac (wpAny_runOwn ?_)
 have loop:codeAny (model X.prog X.w) X.A (.compLoop (.ListComp elt [⟨tg,iter,ifs,0⟩,⟨tg2,iter2,ifs2,0⟩] csc cpos) 1 (.ref it) (.ref acc) X.env)
  (fun r s'=>match r with|.ok f=>wpAny (model X.prog X.w) X.A (pure PUnit.unit:Sem PUnit) (fun _ s'=>∃σ' H',Inv X pins σ' H' s'∧Nx σ' H') X.xe s'|.error e=>cameBackBy (model X.prog X.w) X.A X.env X.xe e s') s2:=
  wU (Xa ..) hx hc T hg ht hb I2 st2 f2 q2 fun σ' H' s' I' n' _=>Al ⟨σ',H',I',n'⟩
 exact n9 loop (T.self X.A 0 _ _ _ st2 loop)
section
variable {X:Cx}{N:List Str}{csc:Scope}{fr:List (Option Nat)}{elt tg iter tg2 iter2:Expr}{ifs ifs2:List Expr}{cpos:Pos}{wi wi2:TI}{g g2:TG}{ts ts2:List TT}{te:TE}
theorem kS(hc:X.calm=true)(S:zo X N csc fr)(hi:PI X tg iter wi)(hg:∀C s0 H0 ex,PG (X.comp N csc C s0 H0 ex) tg g)(ht:∀C s0 H0 ex,PTs (X.comp N csc C s0 H0 ex) ifs ts)
 (he:∀C s0 H0 ex,PE (X.comp N csc C s0 H0 ex) elt te) (hs:∀x,Bb iter X.env x=pure x:=by intro _;rfl) :
 PE X (.ListComp elt [⟨tg,iter,ifs,0⟩] csc cpos) (vL fr wi g ts fun acc=>vn acc te):=
 nP hc S hi (B:=fun acc env=>(do let _ ←call (.builtin "list.append") [acc,←eval elt env])) (a9 elt tg iter ifs csc cpos) hg ht (fun C s0 H0 ex acc=>sG (he C s0 H0 ex)) hs
theorem bb{y:Str}{py spos:Pos}{i:Nat}(hc:X.calm=true)(S:zo X N csc fr)(hi:PI X tg iter wi)(hg:∀C s0 H0 ex,PG (X.comp N csc C s0 H0 ex) tg g)(ht:∀C s0 H0 ex,PTs (X.comp N csc C s0 H0 ex) ifs ts)
 (he:∀C s0 H0 ex,PE (X.comp N csc C s0 H0 ex) elt te) (hN:X.N.Nodup) (hy:X.N[i]?=some y) (hx:Loc X.env.scope y)
 (hsw:Eo (.ListComp elt [⟨tg,iter,ifs,0⟩] csc cpos) (some (.Name y py)) spos.line X.env=pure true:=by rfl)
 (hf:X.fn y=true∨X.env.scope.names.lookup y=some .local:=by first|exact .inl rfl|exact .inr rfl|assumption)
 (hs:∀x,Bb iter X.env x=pure x:=by intro _;rfl) :
 PS X (.Assign [.Name y py] (.ListComp elt [⟨tg,iter,ifs,0⟩] csc cpos) spos) (qG (vL fr wi g ts fun acc=>vn acc te) (vD i)):=
 nU hc S hi (B:=fun acc env=>(do let _ ←call (.builtin "list.append") [acc,←eval elt env])) (a9 elt tg iter ifs csc cpos) hg ht (fun C s0 H0 ex acc=>sG (he C s0 H0 ex)) hN hy hx hsw hf hs
theorem nO(hc:X.calm=true)(S:zo X N csc fr)(hi:PI X tg iter wi)(hg:∀C s0 H0 ex,PG (X.comp N csc C s0 H0 ex) tg g)(ht:∀C s0 H0 ex,PTs (X.comp N csc C s0 H0 ex) ifs ts)
 (hi2:∀C s0 H0 ex,PI (X.comp N csc C s0 H0 ex) tg2 iter2 wi2) (hg2:∀C s0 H0 ex,PG (X.comp N csc C s0 H0 ex) tg2 g2) (ht2:∀C s0 H0 ex,PTs (X.comp N csc C s0 H0 ex) ifs2 ts2)
 (he:∀C s0 H0 ex,PE (X.comp N csc C s0 H0 ex) elt te) (hs:∀x,Bb iter X.env x=pure x:=by intro _;rfl)
 (hs2:∀env x,Bb iter2 env x=pure x:=by intro _ _;rfl) :
 PE X (.ListComp elt [⟨tg,iter,ifs,0⟩,⟨tg2,iter2,ifs2,0⟩] csc cpos) (vL fr wi g ts fun acc=>rW wi2 g2 ts2 (vn acc te)):=
 nP hc S hi (B:=fun acc env=>(do
         let x ←eval iter2 env
         standAt iter2.pos
         let x ←Bb iter2 env x
         let _ ←runOwn (.compStart (.ListComp elt [⟨tg,iter,ifs,0⟩,⟨tg2,iter2,ifs2,0⟩] csc cpos) 1 (←holding [x] (pyIter x)) acc env) env)) (ZA elt tg iter ifs tg2 iter2 ifs2 csc cpos) hg ht
  (fun C s0 H0 ex acc=>nN rfl hc (hi2 C s0 H0 ex) (hg2 C s0 H0 ex) (ht2 C s0 H0 ex) (sG (he C s0 H0 ex)) (hs2 _)) hs
end
end L2
end
section
namespace L2
open PySem PySem.Spec PyProof.Rows
section
variable {X:Cx}
theorem sP:yA X (.builtin "isinstance") (fun xs H Q=>∃x c t b,xs=[x,.ty c]∧uC X.K H x (.type t)∧GU X.K (.type t) (.type c)=some b∧Q (.bl b) H):=by
 intro pins s σ H xs us Q I r h
 obtain⟨x,c,t,b,rfl,ty,e,q⟩:=h
 obtain⟨u,w',rfl,rx,rc⟩:=vals2 r
 cases (show w'=GZ c from rc)
 exact jT I rx ty e fun tk=>⟨.bl b,H,I.tok _,rfl,q⟩
end
inductive Kd where
 |non|bl|int|str|lst|tup|dct
 deriving DecidableEq
noncomputable def Kd.nm:Kd→String
 |.non=>"NoneType"|.bl=>"bool"|.int=>"int"|.str=>"str"|.lst=>"list"|.tup=>"tuple"|.dct=>"dict"
noncomputable def Kd.sub(a c:Kd):Bool:=decide (a=c)||(decide (a=.bl)&&decide (c=.int))
theorem YM(K:Av)(a c:Kd)(hc:c≠.non):GU K (.type a.nm) (.type c.nm)=some (a.sub c):=by
 cases c with
 |non=>exact absurd rfl hc
 |bl=>cases a<;>rfl
 |int=>cases a<;>rfl
 |str=>cases a<;>rfl
 |lst=>cases a<;>rfl
 |tup=>cases a<;>rfl
 |dct=>cases a<;>rfl
section
variable {X:Cx}
theorem all_range:∀(bs:List Bool),((Ak bs.length).all fun i=>bs.getD i false)=bs.all id:=by
 intro bs
 induction bs with
 |nil=>rfl
 |cons b bs ih=>
  rw[AE,List.range_succ_eq_map,B1,B1,List.all_map]
  exact congrArg (b&&·) (Eq.trans (by congr 1) ih)
theorem Vals.bools:∀{bs:List Bool} {us:List Value},Vals (bs.map V.bl) us→us=bs.map D0
 |[],us,r=>by cases r;rfl
 |b::bs,us,r=>by
  rw[AA]at r
  cases r with
  |cons r1 r2=>
   cases (show _=D0 b from r1)
   rw[Vals.bools r2,AA]
theorem sO(hc:X.calm=true):yA X (.builtin "all") (fun xs H Q=>∃(a:Addr) (bs:List Bool),xs=[.ref a]∧SqL X.K H a (bs.map V.bl)∧Q (.bl (bs.all id)) H):=by
 intro pins s σ H xs us Q I r h
 obtain⟨a,bs,rfl,ha,q⟩:=h
 obtain⟨u,rfl,ru⟩:=vals1 r
 cases ru
 obtain⟨its,rv,pl,hz⟩:=I.list ha
 have hits:=rv.bools
 have alt:a<s.heap.objs.size:=by obtain⟨o,ho,_⟩:=pl.isList;exact Au ho
 refine call_all_walk (DO pl.isList ?_)
 refine⟨s.heap.objs.size,_,_,_,_,_,fun i=>bs.getD i false,rfl,G0 (A:=X.A.in1) (I.ok.hd hc) s.heap.objs.size a (AG alt) its.toArray,⟨⟨_,AI _ rfl,rfl,rfl⟩,?_⟩,?_,fun h' tk hk=>?_⟩
 . obtain⟨o,ho,hc',n,hd⟩:=pl.isList
   exact⟨o,Af _ ho,hc',n,hd⟩
 . intro i v s' Q' E' hv hq
   have hv':(bs.map D0)[i]?=some v:=by rw[←hits];simpa using hv
   rw[Ay]at hv'
   cases hb:bs[i]? with
   |none=>rw[hb]at hv';cases hv'
   |some b=>
    rw[hb]at hv'
    have:v=D0 b:=(AO hv').symm
    subst this
    have e:bs.getD i false=b:=by rw[Ae,hb];rfl
    have hq':Q' (bs.getD i false) s':=hq
    rw[e]at hq'
    exact B4 hq'
 . have e:(Ak its.toArray.size).all (fun i=>bs.getD i false)=bs.all id:=by
    rw[Ah,hits,Ag];exact all_range bs
   rw[e]
   refine⟨.bl (bs.all id),H,I.kept fun b o ho=>hk b o ?_ (Af _ ho),rfl,q⟩
   simpa using AG (Au ho)
end
end L2
end
section
namespace L2
open PySem PySem.Spec PyProof.Rows
theorem eP{H:Hp}{p:Addr}(h:H p=none)(o:HO):um H (upd H p o):=fun b u q=>by rw[zO (zU q h)];exact q
def tR(H:Hp)(ys:List V)(Q:VK):Prop:=∀p H',um H H'→H' p=some (.tup ys)→Q (.ref p) H'
theorem tR.new{H:Hp}{ys:List V}{Q:VK}(g:tR H ys Q):∀p,H p=none→Q (.ref p) (upd H p (.tup ys)):=fun p hp=>g p _ (eP hp _) zd
noncomputable def Vz:V→Option Int→Option Int→Hp→VK→Prop:=fun x lo hi H Q=>∃a xs,x=.ref a∧H a=some (.tup xs)∧tR H (rn xs lo hi) Q
noncomputable def ao:R2:=fun x y H Q=>∃a b xs ys,x=.ref a∧y=.ref b∧H a=some (.tup xs)∧H b=some (.tup ys)∧xs.length+ys.length≤Az∧tR H (xs++ys) Q
noncomputable def VE:R2:=fun x y H Q=>∃a k xs,x=.ref a∧y=.int k∧H a=some (.tup xs)∧2≤k∧k≤1000∧xs≠[]∧xs.length≤1000∧tR H (AN k.toNat xs).flatten Q
section
variable {X:Cx}
theorem jH{t sl:Addr}{items:Array Value}{vl vu:Value}{lo hi:Option Int}{Q:Value→Shared→Prop}{A:Around}{E:Value→Shared→Prop}{s:Shared}{prog:Program}{w:World}(ht:IsTup s.heap t items)(hs:s.heap.IsSliceOf sl vl vu .none)(pl:IsPart vl lo)(pu:IsPart vu hi)
 (h0:HT.sIx items.size 0 lo=0) (h1:HT.sIx items.size items.size hi=items.size) (h:Q (.ref t) s):wpAny (model prog w) A (getItem (.ref t) (.ref sl)) Q E s:=by
 obtain⟨os,hos,hcs,hds⟩:=id hs
 have hTs:s.TypeIs (.ref sl) "slice":=⟨os,hos,hcs⟩
 unfold getItem
 try with_reducible refine BB ?_
 first|refine Ac (Al ?_)|skip
 refine Ac (F4 ht.typeIs (by decide) ?_)
 refine Ac (EJ (name:=C4 "__getitem__") ht.typeIs A8
  (Dw A8 ht.typeIs Fx ?_ (FH _ _)))
 show wpAny _ _ (Ed (.ref t) >>= _) _ _ s
 refine Ac (E1 ht ?_)
 refine Ac (Fi hTs ?_)
 rw[if_pos (by decide)]
 refine Ac (HT.wa hs pl pu ?_)
 have hyes:(((HT.sIx items.size 0 lo:Nat):Int) == 0&&(1:Int) == 1&&(HT.sIx items.size items.size hi-HT.sIx items.size 0 lo) == items.size)=true:=by
  rw[h0,h1];simp
 show wpAny _ _ (if (((HT.sIx items.size 0 lo:Nat):Int) == 0&&(1:Int) == 1&&(HT.sIx items.size items.size hi-HT.sIx items.size 0 lo) == items.size)=true then _ else _) _ _ s
 rw[if_pos hyes]
 unfold FV
 refine Ac (Ac (Fi ht.typeIs (Al ?_)))
 rw[if_pos (by decide)]
 exact Ac (Cv (Al ⟨_,rfl,Al h⟩))
theorem b9:SlR X Vz:=by
 intro pins s σ H x v vl vu lo hi sl Q I rx hs pl pu h
 obtain⟨a,xs,rfl,hx,g⟩:=h
 by_cases hw:HT.sIx xs.length 0 lo=0∧HT.sIx xs.length xs.length hi=xs.length
 . cases rx
   obtain⟨its,r,ht,hz⟩:=I.tuple (.inl (.inl hx))
   have hlen:its.toArray.size=xs.length:=by rw[Ah];exact r.length.symm
   refine⟨"tuple",_,A8.lookup,ht.typeIs,?_⟩
   refine jH ht hs pl pu (by rw[hlen];exact hw.1) (by rw[hlen];exact hw.2) ⟨.ref a,H,I,rfl,g a H (um.refl H) ?_⟩
   rw[hx]
   unfold rn
   rw[hw.1,hw.2,CA,Gk,List.take_length]
 . exact XH pins s σ H (.ref a) v vl vu lo hi sl Q I rx hs pl pu ⟨a,xs,rfl,.inl (.inl hx),hw,g.new⟩
theorem fL:OpR X (BH .Add) ao:=by
 intro pins s σ H x y v u Q I rx ry h
 obtain⟨a,b,xs,ys,rfl,rfl,ha,hb,hz,g⟩:=h
 by_cases hx:xs=[]
 . cases rx
   cases ry
   subst hx
   obtain⟨its,r1,p1,_⟩:=I.tuple (.inl (.inl ha))
   obtain⟨its2,r2,p2,_⟩:=I.tuple (.inl (.inl hb))
   cases r1
   obtain⟨⟨cls,dd,data,sl⟩,ho,hc,n,hd⟩:=id p1
   obtain⟨⟨cls2,dd2,data2,sl2⟩,ho2,hc2,n2,hd2⟩:=id p2
   simp only at hc hd hc2 hd2
   subst hc hd hc2 hd2
   exact concat_meets ⟨_,ho,rfl⟩ ⟨_,ho2,rfl⟩ E5 FU Ct Cm (Ca _ _)
    (tuple_addW0 a b #[] its2.toArray n n2 dd dd2 sl sl2 rfl) ⟨ho,ho2,⟨.ref b,H,I,rfl,g b H (um.refl H) hb⟩⟩
 . refine bC pins s σ H (.ref a) (.ref b) v u Q I rx ry ⟨a,b,xs,ys,rfl,rfl,.inl (.inl ha),.inl (.inl hb),hx,hz,fun e=>?_,fun _=>g.new⟩
   subst e
   rw[AZ]at g
   exact g a H (um.refl H) ha
theorem xK:fillsNumberSlot (.type "tuple") "mul"=pure false:=
 PySem.fillsNumberSlot_seq (id:="tuple.__mul__") (r:=some (.builtin "tuple.__rmul__")) D3.lookup (by decide +kernel) F.slot_tuple_rmul.lookup (by decide +kernel)
theorem wy:seqRepeat? (.type "tuple")=pure (some (.builtin "tuple.__mul__")):=by
 unfold seqRepeat?
 rw[PySem.seqSlot_of (T:="tuple") (name:="__mul__") (id:="tuple.__mul__") D3.lookup (by decide +kernel),PySem.seqSlot_of (T:="tuple") (name:="__rmul__") (id:="tuple.__rmul__") F.slot_tuple_rmul.lookup (by decide +kernel)]
 rfl
theorem x6(a:Int)(t:Tok)(l:Addr)(items:Array Value)(n:Nat)(dd:Option Addr)(sl:Array (Option Value)) :
 Meets (Builtin.«int.__rmul__» ⟨[.int a t,.ref l],[]⟩) (fun _ R s=>s.heap.get? l=some {cls:=.type "tuple",dict:=dd,data:=.seq items n,slots:=sl}∧R (.ok (.ret Value.notImplemented)) s):=
 .of_wp fun prog w A R s h=>by obtain⟨hp,g,d,tk,os⟩:=s;obtain⟨hl,h⟩:=h;wp_walk;exact⟨_,rfl,h⟩
theorem lL(l:Addr)(items:Array Value)(n:Nat)(x:Int)(u:Tok)(dd:Option Addr)(sl:Array (Option Value))(h1:2≤x)(h2:x≤1000)(h3:¬items.isEmpty=true)(h4:items.size≤1000) :
 Meets (Builtin.«tuple.__mul__» ⟨[.ref l,.int x u],[]⟩) (fun _ R s=>s.heap.get? l=some {cls:=.type "tuple",dict:=dd,data:=.seq items n,slots:=sl} ∧
  R (.ok (.ret (Bc s.heap.objs.size))) {s with heap:=s.heap.push {cls:=GZ "tuple",data:=Data.seq (EG (fun x1 x2=>x1++x2) #[] (AN x.toNat items))},toks:=s.toks}):=
 .of_wp fun prog w A R s h=>by
  obtain⟨hp,g,d,tk,os⟩:=s;obtain⟨hl,h⟩:=h
  have f1:=Gm
  have c1:¬((decide (x < -(2 ^ 63))||decide (x ≥ 2 ^ 63))=true):=by simp;omega
  have c2:¬((items.isEmpty||x == 1)=true):=by simp at h3 ⊢;exact⟨h3,by omega⟩
  have c3:¬((decide (x≤0)||items.isEmpty)=true):=by simp at h3 ⊢;exact⟨by omega,h3⟩
  have hprod:(items.size:Int)*x≤1000*1000:=Int.mul_le_mul (by omega) h2 (by omega) (by omega)
  have c4:¬((items.size:Int)*x > (2 ^ 63-1)/8):=by omega
  have hL:Az=16777216:=Bi
  have c5:¬(Eg ((items.size:Int)*x)=true):=by
   unfold Eg
   rw[hL]
   simp only[decide_eq_true_eq]
   omega
  have hn:(EG (fun x1 x2=>x1++x2) #[] (AN x.toNat items)).size=x.toNat*items.size:=by
   have e:=foldl_rep items.toList x.toNat []
   simp only[Array.toArray_toList,De]at e
   rw[e,Ah,len_rep,AD]
  have htake:sizeOk (.seq (EG (fun x1 x2=>x1++x2) #[] (AN x.toNat items))):=by
   show (EG (fun x1 x2=>x1++x2) #[] (AN x.toNat items)).size≤Az
   rw[hn,hL]
   have:x.toNat*items.size≤1000*1000:=FC (by omega) h4
   omega
  wp_walk using Ej hl
  rw[if_neg c1]
  refine Ac (E1 (items:=items) ⟨_,hl,rfl,n,rfl⟩ ?_)
  rw[if_neg c2]
  show wpAny _ _ (if (decide (x≤0)||items.isEmpty)=true then _ else _) _ _ _
  rw[if_neg c3]
  show wpAny _ _ (if (items.size:Int)*x > (2 ^ 63-1)/8 then _ else _) _ _ _
  rw[if_neg c4]
  show wpAny _ _ (if Eg ((items.size:Int)*x)=true then _ else _) _ _ _
  rw[if_neg c5]
  exact Ac (m:=By _) (Br (Al ⟨_,rfl,h⟩) htake)
theorem bG:OpR X (BH .Mult) VE:=by
 intro pins s σ H x y v u Q I rx ry h
 obtain⟨a,k,xs,rfl,rfl,ha,h1,h2,h3,h4,g⟩:=h
 cases rx
 obtain⟨t,rfl⟩:=ry
 obtain⟨its,r,p1,_⟩:=I.tuple (.inl (.inl ha))
 obtain⟨⟨cls,dd,data,sl⟩,ho,hc,n,hd⟩:=id p1
 simp only at hc hd
 subst hc hd
 have hl:=r.length
 have hne:¬its.toArray.isEmpty=true:=by
  simp
  intro e
  exact h3 (r.wH.mp e)
 refine Dn (T:="tuple") (U:="int") (by decide) ⟨_,ho,rfl⟩ (fun s'=>DI s' k t) xK Fm CF wy E7.lookup
  (B0 CF (DI s k t) E8 (EM _ _) (x6 k t a its.toArray n dd sl)
   ⟨ho,rfl,⟨_,ho,rfl⟩,B0 D3 ⟨_,ho,rfl⟩ F6 (FL _ _) (lL a its.toArray n k t dd sl h1 h2 hne (by rw[Ah,←hl];exact h4)) ⟨ho,?_⟩⟩)
 have e:=foldl_rep its k.toNat []
 rw[De]at e
 have hz:(AN k.toNat xs).flatten.length≤Az:=by
  rw[len_rep,Bi]
  have:k.toNat*xs.length≤1000*1000:=FC (by omega) h4
  omega
 refine⟨.ref s.heap.objs.size,_,I.laid (t':=s.toks) (o:=.tup (AN k.toNat xs).flatten) (fun b ob q=>Af _ q) (Ai _) ⟨hz,(AN k.toNat its).flatten,r.rep k.toNat,?_⟩,rfl,g.new _ (I.hok.fresh (Ai _))⟩
 rw[show (#[]:Array Value)=([]:List Value).toArray from rfl,e]
 exact uB.new _ _
end
end L2
end
section
namespace L2
open PySem PySem.Spec PyProof.Rows
section
variable {X:Cx}{pos:Pos}
noncomputable def az(i j k:Nat)(ta:TA):TS:=fun D σ H=>ta σ H fun vs H1=>∃v w z,vs=[v,w,z]∧D.nx (((σ.set i (some v)).set j (some w)).set k (some z)) H1
theorem vals3{x y z:V}{us:List Value}(r:Vals [x,y,z] us):∃u1 u2 u3,us=[u1,u2,u3]∧RelV x u1∧RelV y u2∧RelV z u3:=by
 cases r with
 |cons r1 r2=>
  cases r2 with
  |cons r3 r4=>
   cases r4 with
   |cons r5 r6=>cases r6;exact⟨_,_,_,rfl,r1,r3,r5⟩
theorem bh{i j k:Nat}{x y z:Str}{a b c:Expr}{ta:TA}{px py pz pt:Pos}{kt k2 pt2}(hc:X.calm=true)(hN:X.N.Nodup)(hi:X.N[i]?=some x)(hj:X.N[j]?=some y)(hk:X.N[k]?=some z)(hij:i≠j)(hik:i≠k)(hjk:j≠k)
 (hx:X.env.scope.names.lookup x=some .local) (hy:X.env.scope.names.lookup y=some .local) (hz:X.env.scope.names.lookup z=some .local) (ha:PA X [a,b,c] ta)
 (hw:Cf [.Tuple [.Name x px,.Name y py,.Name z pz] kt pt] (.Tuple [a,b,c] k2 pt2) X.env=pure (some [x,y,z]))
 (hs:EZ [.Tuple [.Name x px,.Name y py,.Name z pz] kt pt] (.Tuple [a,b,c] k2 pt2) pos.line X.env=pure false:=by rfl) :
 PS X (.Assign [.Tuple [.Name x px,.Name y py,.Name z pz] kt pt] (.Tuple [a,b,c] k2 pt2) pos) (az i j k ta):=by
 intro pins s σ H D I h
 rw[exec_Assign_arm]
 refine Ac (CP ?_)
 rw[hs]
 refine Ac (Al ?_)
 rw[if_neg (by decide)]
 refine Ac (Tuple_ (thn (ha _ pins s σ H _ I h) fun us s1 ⟨vs,H1,I1,r1,q1⟩=>?_))
 obtain⟨v,w,zz,e1,q1⟩:=q1
 subst e1
 obtain⟨u1,u2,u3,rfl,rv,rw',rz⟩:=vals3 r1
 refine Br ?_ (by show 3≤Az;decide)
 have I2:Inv X pins σ H1 {s1 with heap:=s1.heap.push {cls:=.type "tuple",data:=.seq [u1,u2,u3].toArray}}:=I1.kept (t':=s1.toks) fun b o e=>Af _ e
 rw[hw]
 refine Ac (Al ?_)
 show wpAny (model X.prog X.w) X.A (do rule "assign.swapped-stores";let items ←unpackItems (.ref s1.heap.objs.size) 3 none;EY [fun v=>D1 X.env z v,fun v=>D1 X.env y v,fun v=>D1 X.env x v] items.reverse;pure Hc) _ _ _
 refine Ac (Cv (Ac (unpackItems_tuple (items:=#[u1,u2,u3]) (I.ok.hd hc) (IsTup.new s1.heap _) fun h' hx'=>?_)))
 have I3:=I2.kept (h':=h') (t':=s1.toks) fun b o e=>hx' b o (AG (Au e)) e
 show wpAny _ _ (EY [fun v=>D1 X.env z v,fun v=>D1 X.env y v,fun v=>D1 X.env x v] [u3,u2,u1] >>= fun _=>pure Hc) _ _ _
 refine Ac (C1 (EF (xX I3 hN hk (.inl hz) rz (fun s2 I4=>?_) (.inr hz))))
 refine C1 (EF (xX I4 hN hj (.inl hy) rw' (fun s3 I5=>?_) (.inr hy)))
 refine C1 (EF (xX I5 hN hi (.inl hx) rv (fun s4 I6=>F3 (Al ?_)) (.inr hx)))
 refine⟨_,H1,?_,q1⟩
 have e:((σ.set k (some zz)).set j (some w)).set i (some v)=((σ.set i (some v)).set j (some w)).set k (some zz):=by
  rw[FT _ _ (BZ hij),FT _ _ (BZ hik),FT _ _ (BZ hjk)]
 rw[←e]
 exact I6
end
end L2
namespace L2
open PySem PySem.Spec PyProof.Rows
mutual
inductive DD(H:Hp)(p:Addr):V→PyData→Prop
 |non:DD H p .non .none
 |bl (b:Bool):DD H p (.bl b) (.bool b)
 |int (i:Int):DD H p (.int i) (.int i)
 |str (x:Str):DD H p (.str x) (.str x)
 |lst {a:Addr} {xs:List V} {ds:List PyData}:H a=some (.lst xs)→a≠p→DDs H p xs ds→DD H p (.ref a) (.list ds)
 |tup {a:Addr} {xs:List V} {ds:List PyData}:H a=some (.tup xs)→a≠p→DDs H p xs ds→DD H p (.ref a) (.tuple ds)
 |dct {a:Addr}:H a=some (.dK [])→a≠p→DD H p (.ref a) (.dict [])
inductive DDs(H:Hp)(p:Addr):List V→List PyData→Prop
 |nil:DDs H p [] []
 |cons {x:V} {xs:List V} {d:PyData} {ds:List PyData}:DD H p x d→DDs H p xs ds→DDs H p (x::xs) (d::ds)
end
theorem DDs.length{H:Hp}{p:Addr}:∀{vs:List V} {ds:List PyData},DDs H p vs ds→vs.length=ds.length
 |_,_,.nil=>rfl
 |_,_,.cons _ rs=>by rw[AE,AE,rs.length]
theorem DDs.append{H:Hp}{p:Addr}:∀{vs ws:List V} {ds es:List PyData},DDs H p vs ds→DDs H p ws es→DDs H p (vs++ws) (ds++es)
 |_,_,_,_,.nil,r=>r
 |_,_,_,_,.cons r rs,q=>.cons r (rs.append q)
mutual
noncomputable def xj:PyData→Bool
 |.none|.bool _|.int _|.str _=>false
 |.list _=>true
 |.tuple xs=>xI xs
 |.dict _=>false
noncomputable def xI:List PyData→Bool
 |[]=>false
 |x::xs=>xj x||xI xs
end
end L2
end
section
namespace L2
open PySem PySem.Spec PyProof.Rows
theorem uq{k:Nat}:∀{ds:List PyData},(∀d∈ds,d.depth≤k)→GJ ds≤k
 |[],_=>Bp _
 |d::ds,h=>by rw[GJ];exact Nat.max_le.mpr ⟨h d AY,uq fun x hx=>h x (AJ _ hx)⟩
end L2
end
section
namespace L2
open PySem PySem.Spec PyProof.Rows
section
variable {X:Cx}{pos:Pos}
theorem Wx{x:Str}{n:String}(hg:Gl X x)(hm:X.mg x=none)(hv:CD x=some (.type n))(hn:x≠"__name__":=by decide)(hd:(x == ("__debug__":Str))=false:=by decide):PE X (.Name x pos) (tC (.ty n)):=
 bN hg hm hv (show RelV (.ty n) (.type n) from rfl) hn hd
noncomputable def noStar:Expr→Bool
 |.Starred ..=>false
 |_=>true
theorem zx{e:Expr}{es:List Expr}{env:Env}(h:noStar e=true):AR (e::es) env=(false,eval e env)::AR es env:=by
 cases e<;>first|rfl|cases h
theorem pac{X:Cx}{e:Expr}{es:List Expr}{te:TE}{t:TA}(ha:PE X e te)(hr:PA X es t)(hs:noStar e=true:=by rfl):PA X (e::es) (rV te t):=bM ha hr (zx hs)
noncomputable def pJ(sc0:Scope)(N0 N:List Str)(csc:Scope)(fr:List (Option Nat)):Bool:=
 decide (csc.kind=.function)&&csc.names.all (fun x=>decide (x.2≠.cell))&&csc.names.all (fun x=>decide (x.2≠.local)||decide (csc.names.lookup x.1=some .local)) &&
 csc.names.all (fun x=>decide (x.2≠.free)||(decide (sc0.names.lookup x.1=some .cell)||decide (sc0.names.lookup x.1=some .free)))&&decide (fr.length=N.length) &&
 (Ak N.length).all (fun i=>match fr[i]?,N[i]? with|some (some j),some x=>decide (N0[j]?=some x)&&csc.names.any (fun y=>decide (y.1=x)&&decide (y.2=.free))|_,_=>true) &&
 csc.names.all (fun x=>decide (x.2≠.free)||decide (csc.names.lookup x.1≠some .local))
end
end L2
end
section
namespace L2
open PySem PySem.Spec PyProof.Rows
noncomputable def za{α:Type}(xs:List α)(lo st:Int)(n:Nat):List α:=(Ak n).filterMap fun(k:Nat)=>xs[(lo+(k:Int)*st).toNat]?
theorem Vals.pick{xs:List V}{us:List Value}(r:Vals xs us):∀(is:List Nat),Vals (is.filterMap fun i=>xs[i]?) (is.filterMap fun i=>us[i]?)
 |[]=>.nil
 |i::is=>by
  rw[A2,A2]
  cases hx:xs[i]? with
  |none=>rw[r.none_of hx];exact Vals.pick r is
  |some x=>
   obtain⟨u,hu,ru⟩:=r.get hx
   rw[hu]
   exact .cons ru (Vals.pick r is)
theorem Vals.za{xs:List V}{us:List Value}(r:Vals xs us)(lo st:Int)(n:Nat):Vals (za xs lo st n) (L2.za us lo st n):=by
 have h:=r.pick ((Ak n).map fun(k:Nat)=>(lo+(k:Int)*st).toNat)
 rw[Cy,Cy]at h
 exact h
theorem nQ{α:Type}(xs:List α)(lo st:Int)(n:Nat):(za xs lo st n).length≤n:=by
 have:=Ey (fun(k:Nat)=>xs[(lo+(k:Int)*st).toNat]?) (Ak n)
 rw[AV]at this
 exact this
noncomputable def yH(n:Nat)(lo hi:Option Int)(st:Int):Int × Nat:=((Bv lo hi st (n:Int)).1,BL (Bv lo hi st (n:Int)).1 (Bv lo hi st (n:Int)).2 st)
section
variable {prog:Program}{w:World}{A:Around}{E:Value→Shared→Prop}{s:Shared}
theorem qD{sl:Addr}{vl vu vc:Value}{lo hi:Option Int}{st:Int}{n:Nat}{Q:Int × Int × Nat→Shared→Prop}(hs:s.heap.IsSliceOf sl vl vu vc)(pl:IsPart vl lo)(pu:IsPart vu hi)(pc:IsPart vc (some st))(h0:st≠0)
 (h:Q ((yH n lo hi st).1,st,(yH n lo hi st).2) s):wpAny (model prog w) A (Dg (.ref sl) (pure (n:Int))) Q E s:=by
 obtain⟨os,hos,hcs,hds⟩:=id hs
 unfold Dg Gb
 refine Ac (Ac (ES hos hds (x:=vl) rfl (Ac (ES hos hds (x:=vu) rfl (Ac (ES hos hds (x:=vc) rfl (Al ?_)))))))
 refine Ac (HT.wB pc ?_)
 show wpAny _ _ (if (st == 0)=true then _ else _) _ _ s
 rw[if_neg (by simpa using h0)]
 exact Ac (HT.wB pl (Ac (HT.wB pu (Ac (Al (Al h))))))
theorem eu{t sl:Addr}{items:Array Value}{vl vu vc:Value}{lo hi:Option Int}{st:Int}{Q:Value→Shared→Prop}(ht:IsTup s.heap t items)(hs:s.heap.IsSliceOf sl vl vu vc)(pl:IsPart vl lo)(pu:IsPart vu hi)(pc:IsPart vc (some st))(h0:st≠0)
 (hq1:(yH items.size lo hi st).1=0→st=1→(yH items.size lo hi st).2=items.size→Q (.ref t) s)
 (hq2:Q (.ref s.heap.objs.size) {s with heap:=s.heap.push {cls:=.type "tuple",data:=.seq (za items.toList (yH items.size lo hi st).1 st (yH items.size lo hi st).2).toArray}})
 (hsz:(yH items.size lo hi st).2≤Az):wpAny (model prog w) A (getItem (.ref t) (.ref sl)) Q E s:=by
 obtain⟨os,hos,hcs,hds⟩:=id hs
 have hTs:s.TypeIs (.ref sl) "slice":=⟨os,hos,hcs⟩
 have htake:sizeOk (.seq (za items.toList (yH items.size lo hi st).1 st (yH items.size lo hi st).2).toArray):=by
  show (za items.toList (yH items.size lo hi st).1 st (yH items.size lo hi st).2).toArray.size≤Az
  rw[Ah]
  exact AB (nQ _ _ _ _) hsz
 have epick:((Ak (yH items.size lo hi st).2).filterMap fun(k:Nat)=>items[((yH items.size lo hi st).1+(k:Int)*st).toNat]?).toArray=(za items.toList (yH items.size lo hi st).1 st (yH items.size lo hi st).2).toArray:=by
  unfold za
  simp only[BS]
 unfold getItem
 try with_reducible refine BB ?_
 first|refine Ac (Al ?_)|skip
 refine Ac (F4 ht.typeIs (by decide) ?_)
 refine Ac (EJ (name:=C4 "__getitem__") ht.typeIs A8
  (Dw A8 ht.typeIs Fx ?_ (FH _ _)))
 show wpAny _ _ (Ed (.ref t) >>= _) _ _ s
 refine Ac (E1 ht ?_)
 refine Ac (Fi hTs ?_)
 rw[if_pos (by decide)]
 refine Ac (qD (n:=items.size) hs pl pu pc h0 ?_)
 by_cases hw:((yH items.size lo hi st).1 == 0&&st == 1&&(yH items.size lo hi st).2 == items.size)=true
 . show wpAny _ _ (if ((yH items.size lo hi st).1 == 0&&st == 1&&(yH items.size lo hi st).2 == items.size)=true then _ else _) _ _ s
   rw[if_pos hw]
   simp only[Ab,beq_iff_eq]at hw
   unfold FV
   refine Ac (Ac (Fi ht.typeIs (Al ?_)))
   rw[if_pos (by decide)]
   exact Ac (Cv (Al ⟨_,rfl,Al (hq1 hw.1.1 hw.1.2 hw.2)⟩))
 . show wpAny _ _ (if ((yH items.size lo hi st).1 == 0&&st == 1&&(yH items.size lo hi st).2 == items.size)=true then _ else _) _ _ s
   rw[if_neg hw,epick]
   first
    |exact Ac (m:=By _) (Br (Al ⟨_,rfl,Al hq2⟩) htake)
    |exact Ac (Ac (m:=By _) (Br (Al ⟨_,rfl,Al hq2⟩) htake))
end
theorem nR{α:Type}:∀xs:List α,(Ak xs.length).filterMap (fun k=>xs[k]?)=xs
 |[]=>rfl
 |x::xs=>by
  rw[AE,List.range_succ_eq_map,A2,Cy]
  show x::_=_
  refine congrArg (x::·) (Eq.trans ?_ (nR xs))
  congr 1
theorem mn{α:Type}(xs:List α):za xs 0 1 xs.length=xs:=by
 unfold za
 have e:(fun(k:Nat)=>xs[(0+(k:Int)*1).toNat]?)=fun k=>xs[k]?:=by
  funext k
  rw[show (0+(k:Int)*1).toNat=k by omega]
 rw[e]
 exact nR xs
noncomputable def V0:V→Option Int→Option Int→Option Int→Hp→VK→Prop:=fun x lo hi st H Q=>∃a xs c,x=.ref a∧H a=some (.tup xs)∧st=some c∧c≠0∧(yH xs.length lo hi c).2≤Az∧tR H (za xs (yH xs.length lo hi c).1 c (yH xs.length lo hi c).2) Q
noncomputable def VX(r:V→Option Int→Option Int→Option Int→Hp→VK→Prop)(te:TE)(tl th tc:TO):TE:=fun σ H Q=>te σ H fun x H1=>tl σ H1 fun l H2=>th σ H2 fun u H3=>tc σ H3 fun c H4=>r x l u c H4 Q
theorem iB{X:Cx}{e:Expr}{te:TE}{lo hi:Option Expr}{st:Expr}{tl th tc:TO}{pos p2:Pos}(he:PE X e te)(hl:PO X lo tl)(hu:PO X hi th)(hc:PO X (some st) tc):PE X (.Subscript e (.Slice lo hi (some st) p2) pos) (VX V0 te tl th tc):=by
 intro pins s σ H Q I h
 refine Gd (thn (he pins s σ H _ I h) fun v s1 ⟨x,H1,I1,r1,q1⟩=>?_)
 refine wpAny_Slice (thn (hl pins s1 σ H1 _ I1 q1) fun vl s2 ⟨l,H2,I2,pl,q2⟩=>thn (hu pins s2 σ H2 _ I2 q2) fun vu s3 ⟨u,H3,I3,pu,q3⟩=>thn (hc pins s3 σ H3 _ I3 q3) fun vc s4 ⟨c,H4,I4,pc,q4⟩=>?_)
 obtain⟨a,xs,cc,rfl,hx,ec,h0,hsz,g⟩:=q4
 subst ec
 cases r1
 have I5:Inv X pins σ H4 {s4 with heap:=s4.heap.push {cls:=.type "slice",data:=.fields #[vl,vu,vc]}}:=I4.kept (t':=s4.toks) fun b ob q=>Af _ q
 obtain⟨its,r,ht,hz⟩:=I5.tuple (.inl (.inl hx))
 have hlen:its.toArray.size=xs.length:=by rw[Ah];exact r.length.symm
 show wpAny (model X.prog X.w) X.A (E2 e (.Slice lo hi (some st) p2) (.ref a) (.ref s4.heap.objs.size)) (EP X pins σ Q) X.xe {s4 with heap:=s4.heap.push {cls:=.type "slice",data:=.fields #[vl,vu,vc]}}
 refine tail_any (ops:=[.ref a,.ref s4.heap.objs.size]) ht.typeIs A8.lookup (eu ht (FI ..) pl pu pc h0 (fun z1 z2 z3=>?_) ?_ (by rw[hlen];exact hsz)) (by with_unfolding_all rfl)
 . refine⟨.ref a,H4,I5,rfl,g a H4 (um.refl H4) ?_⟩
   rw[hlen]at z1 z3
   rw[hx,z1,z3,z2,mn]
 . rw[hlen]
   refine⟨.ref _,_,I5.laid (t':=s4.toks) (o:=.tup (za xs (yH xs.length l u cc).1 cc (yH xs.length l u cc).2)) (fun b ob q=>Af _ q) (Ai _) ?_,rfl,g.new _ (I5.hok.fresh (Ai _))⟩
   refine⟨AB (nQ _ _ _ _) hsz,_,r.za _ _ _,?_⟩
   exact uB.new _ _
end L2
end
section
namespace L2
open PySem PyProof.Rows
theorem jm(a d:Value):argsOk "max" ⟨[a],[(C4 "default",d)]⟩:=by unfold argsOk;kernel_rfl
section
variable {prog:Program}{w:World}{A:Around}{R:Result→Shared→Prop}{I S:Addr}{fp wr:List Addr}{n:Nat}{P:Nat→Value→Prop}{St:Nat→Heap→Prop}{bt:Nat→Nat→Bool}{kw:List (Str × Value)}
theorem sE:(toString "max"++toString ".loop":String)="max.loop":=by decide
theorem cm(W:Walks prog w A.in1 I fp wr n P St)(hcmp:CmpOf prog w A.in1 .Gt P bt)(hSf:S ∉ fp):∀(k j:Nat) (s:Shared) (vb:Value) (c:Nat),n-(j+1)=k→j+1≤n→St (j+1) s.heap→P (argBest bt j) vb →
 s.heap.get? S=some (seqObj "list" #[vb,vb] c) →
 (∀v h' tk,P (argBest bt (n-1)) v→(∀b o,b ∉ wr→b≠S→s.heap.get? b=some o→h'.get? b=some o)→R (.ok (.ret v)) {s with heap:=h',toks:=tk}) →
 codeAny (model prog w) A (.builtin "max.loop" ⟨[.ref I,.none,.ref S],kw⟩) R s:=by
 have hSw:S ∉ wr:=fun h=>hSf (W.sub _ h)
 intro k
 induction k with
 |zero=>
  intro j s vb c hk hj hst hPb hS hR
  have hin:j+1=n:=by omega
  refine Fo DM ?_
  rw[D4 Bw _]
  refine(show wpAny _ A.in1 (GK (.ref S) >>= _) _ _ s from Ac (FD hS rfl ?_))
  refine(show wpAny _ A.in1 (G1 (pyNext (.ref I)) _ >>= _) _ _ s from Ac (EH (W.done s _ _ (hin▸hst) fun h' tk hk'=>?_)))
  refine(show wpAny _ A.in1 (updateSeq S (fun _=>#[]) >>= _) _ _ _ from Ac (GL (hk' S _ hSw hS) rfl (Ac (GQ (Al ?_)))))
  exact hR vb _ tk (by rw[←hin];exact hPb) fun b o hbw hbS e=>(B2 _ _ (BZ hbS)).trans (hk' b o hbw e)
 |succ k ih=>
  intro j s vb c hk hj hst hPb hS hR
  have hlt:j+1<n:=by omega
  refine Fo DM ?_
  rw[D4 Bw _]
  refine(show wpAny _ A.in1 (GK (.ref S) >>= _) _ _ s from Ac (FD hS rfl ?_))
  refine(show wpAny _ A.in1 (G1 (pyNext (.ref I)) _ >>= _) _ _ s from Ac (EH (W.item (j+1) s _ _ hlt hst fun v h' tk hP hst' hk'=>?_)))
  have hS':=hk' S _ hSw hS
  refine(show wpAny _ A.in1 (G1 (holding [v,v] (richCompare .Gt v vb >>= _)) _ >>= _) _ _ _ from Ac (EH (BB (Ac (hcmp (j+1) (argBest bt j) v vb _ _ _ hP hPb ?_)))))
  refine Ac (BB (B4 (Ac (GQ (Al ?_)))))
  cases hb:bt (j+1) (argBest bt j) with
  |true=>
   refine(show wpAny _ A.in1 (updateSeq S (fun _=>#[v,v]) >>= _) _ _ _ from Ac (GL hS' rfl (Ac (GQ ?_))))
   rw[sE]
   refine Al ⟨E3 Bw _,ih (j+1) _ v _ (by omega) hlt (W.frame _ _ _ hst' fun b hbf o e=>?_) (by unfold argBest;rw[hb];exact hP) (Fe _ hS' rfl) fun v' h'' tk'' hP' hk''=>?_⟩
   . exact(B2 _ _ (fun h:S=b=>hSf (by rw[h];exact hbf))).trans e
   . exact hR v' h'' tk'' hP' fun b o hbw hbS e=>hk'' b o hbw hbS ((B2 _ _ (BZ hbS)).trans (hk' b o hbw e))
  |false=>
   refine(show wpAny _ A.in1 (letGo [v,v] >>= _) _ _ _ from Ac (GQ ?_))
   rw[sE]
   exact Al ⟨E3 Bw _,ih (j+1) _ vb c (by omega) hlt hst' (by unfold argBest;rw[hb];exact hPb) hS' fun v' h'' tk'' hP' hk''=>hR v' h'' tk'' hP' fun b o hbw hbS e=>hk'' b o hbw hbS (hk' b o hbw e)⟩
theorem mP(W:Walks prog w A.in1 I fp wr n P St)(hcmp:CmpOf prog w A.in1 .Gt P bt)(hSf:S ∉ fp)(hn:0<n){s:Shared}{c:Nat}(hst:St 0 s.heap)(hS:s.heap.get? S=some (seqObj "list" #[] c))
 (hR:∀v h' tk,P (argBest bt (n-1)) v→(∀b o,b ∉ wr→b≠S→s.heap.get? b=some o→h'.get? b=some o)→R (.ok (.ret v)) {s with heap:=h',toks:=tk}) :
 codeAny (model prog w) A (.builtin "max.loop" ⟨[.ref I,.none,.ref S],kw⟩) R s:=by
 have hSw:S ∉ wr:=fun h=>hSf (W.sub _ h)
 refine Fo DM ?_
 rw[D4 Bw _]
 refine(show wpAny _ A.in1 (GK (.ref S) >>= _) _ _ s from Ac (FD hS rfl ?_))
 refine(show wpAny _ A.in1 (G1 (pyNext (.ref I)) _ >>= _) _ _ s from Ac (EH (W.item 0 s _ _ hn hst fun v h' tk hP hst' hk'=>?_)))
 have hS':=hk' S _ hSw hS
 refine(show wpAny _ A.in1 (updateSeq S (fun _=>#[v,v]) >>= _) _ _ _ from Ac (GL hS' rfl ?_))
 rw[sE]
 refine Al ⟨E3 Bw _,cm W hcmp hSf _ 0 _ v _ rfl hn (W.frame _ _ _ hst' fun b hbf o e=>?_) hP (Fe _ hS' rfl) fun v' h'' tk'' hP' hk''=>?_⟩
 . exact(B2 _ _ (fun h:S=b=>hSf (by rw[h];exact hbf))).trans e
 . exact hR v' h'' tk'' hP' fun b o hbw hbS e=>hk'' b o hbw hbS ((B2 _ _ (BZ hbS)).trans (hk' b o hbw e))
theorem jn(W:Walks prog w A.in1 I fp wr 0 P St)(hSf:S ∉ fp){s:Shared}{c:Nat}{d:Value}(hst:St 0 s.heap)(hS:s.heap.get? S=some (seqObj "list" #[] c))
 (hR:∀h' tk,(∀b o,b ∉ wr→s.heap.get? b=some o→h'.get? b=some o)→R (.ok (.ret d)) {s with heap:=h',toks:=tk}) :
 codeAny (model prog w) A (.builtin "max.loop" ⟨[.ref I,.none,.ref S],[(C4 "default",d)]⟩) R s:=by
 refine Fo DM ?_
 rw[D4 Bw _]
 refine(show wpAny _ A.in1 (GK (.ref S) >>= _) _ _ s from Ac (FD hS rfl ?_))
 refine(show wpAny _ A.in1 (G1 (pyNext (.ref I)) _ >>= _) _ _ s from Ac (EH (W.done s _ _ hst fun h' tk hk'=>?_)))
 exact Ac (Cv (Al (hR h' tk hk')))
end
section
variable {X:Cx}
noncomputable def yy(d:Int):List Int→Int
 |[]=>d
 |n::ns=>ns.foldl (fun a b=>if b > a then b else a) n
theorem sU:∀(ns:List Int) (a:Int),a≤ns.foldl (fun a b=>if b > a then b else a) a∧(∀x∈ns,x≤ns.foldl (fun a b=>if b > a then b else a) a)∧(ns.foldl (fun a b=>if b > a then b else a) a=a∨ns.foldl (fun a b=>if b > a then b else a) a∈ns)
 |[],a=>⟨Cg _,fun _ h=>(nomatch h),.inl rfl⟩
 |n::ns,a=>by
  obtain⟨h1,h2,h3⟩:=sU ns (if n > a then n else a)
  show a≤ns.foldl _ (if n > a then n else a)∧_
  have hc:a≤(if n > a then n else a)∧n≤(if n > a then n else a):=by split<;>omega
  refine⟨A0 hc.1 h1,fun x hx=>?_,?_⟩
  . rcases AF.mp hx with e|hx
    . rw[e];exact A0 hc.2 h1
    . exact h2 x hx
  . rcases h3 with h3|h3
    . show ns.foldl _ (if n > a then n else a)=a∨ns.foldl _ (if n > a then n else a)∈n::ns
      rw[h3]
      split
      . exact .inr (AY ..)
      . exact .inl rfl
    . exact .inr (AJ _ h3)
theorem wo{d:Int}{ns:List Int}(h:ns≠[]):yy d ns∈ns∧∀x∈ns,x≤yy d ns:=by
 cases ns with
 |nil=>exact absurd rfl h
 |cons n ns=>
  obtain⟨h1,h2,h3⟩:=sU ns n
  refine⟨?_,fun x hx=>?_⟩
  . rcases h3 with h3|h3
    . show ns.foldl _ n∈_;rw[h3];exact AY ..
    . exact AJ _ h3
  . rcases AF.mp hx with e|hx
    . rw[e];exact h1
    . exact h2 x hx
theorem sr{d M:Int}{ns:List Int}(h1:M∈ns)(h2:∀x∈ns,x≤M):yy d ns=M:=by
 have hne:ns≠[]:=fun e=>by rw[e]at h1;exact nomatch h1
 obtain⟨a,b⟩:=wo (d:=d) hne
 exact Ek (h2 _ a) (b _ h1)
theorem Vals.ints:∀{ns:List Int} {us:List Value},Vals (ns.map V.int) us→∀{i:Nat} {v:Value},us[i]?=some v→∃t,v=.int (ns.getD i 0) t
 |[],_,.nil,_,_,h=>by cases h
 |n::ns,_,.cons r rs,0,v,h=>by
  obtain⟨t,e⟩:=r
  have:v=.int n t:=(AO h).symm.trans e
  exact⟨t,this⟩
 |n::ns,_,.cons r rs,i+1,v,h=>by
  have:=Vals.ints rs (i:=i) (v:=v) h
  exact this
noncomputable def VD(K:Av):List V→List V→Hp→VK→Prop:=fun xs zs H Q=>∃(a:Addr) (ns:List Int) (d:Int),xs=[.ref a]∧zs=[.int d]∧SqL K H a (ns.map V.int)∧Q (.int (yy d ns)) H
theorem bS(hc:X.calm=true){x:Str}{e:Expr}{es:List Expr}{kws:List Keyword}{t tk:TA}{p pos:Pos}(hx:x="max")(hg:Gl X x)(hm:X.mg x=none)(hv:CD x=some (.builtin "max"))(ha:PA X (e::es) t)(hkw:PK X kws tk)
 (hks:∀pos:Pos,(Gg pos (EO kws X.env)).filterMap (·.1)=[C4 "default"]:=by intro _;rfl)
 (he:backTo pos (AR (e::es) X.env)=(false,eval e X.env)::backTo pos (AR es X.env):=by rfl) (hp:(backTo pos (AR (e::es) X.env)).any (·.1)=false:=by rfl)
 (hall:(Gg pos (EO kws X.env)).all (·.1.isSome)=true:=by rfl) (hnk:(Gg pos (EO kws X.env)).any (·.1.isNone)=false:=by rfl) :
 PE X (.Call (.Name x p) (e::es) kws pos) (fun σ H Q=>t σ H fun xs H1=>tk σ H1 fun zs H2=>VD X.K xs zs H2 Q):=by
 intro pins s σ H Q I h
 subst hx
 refine DH (u6 I hg hm hv ?_ (by decide) (by decide))
 refine callWith_kw (thn (ha pos pins s σ H _ I h) fun us s1 ⟨vs,H1,I1,r1,q1⟩=>?_) he hp hall hnk
 refine thn (hkw pos pins s1 σ H1 _ I1 q1) fun ws s2 ⟨zs,H2,I2,rz,q2⟩=>?_
 rw[hks]
 obtain⟨a,ns,d,rfl,rfl,hS,q⟩:=q2
 obtain⟨u,rfl,ru⟩:=vals1 r1
 obtain⟨dv,rfl,⟨dt,rfl⟩⟩:=vals1 rz
 cases ru
 obtain⟨its,rv,pl,hz⟩:=I2.list hS
 have hlen:=rv.length
 have alt:a<s2.heap.objs.size:=by obtain⟨o,ho,_⟩:=pl.isList;exact Au ho
 show wpAny _ _ (call (.builtin "max") [.ref a] [(C4 "default",.int d dt)]) _ _ s2
 refine kmk_tree PySem.F.kind_max PySem.F.plain_max PySem.F.entry_max (jm _ _) ?_
 refine(show wpAny _ X.A.in1 (FN "max" ["key","default"] 0 ⟨[],[(C4 "default",.int d dt)]⟩ >>= _) _ _ s2 from
  Ac (wpAny_of_eq (show FN "max" ["key","default"] 0 ⟨[],[(C4 "default",.int d dt)]⟩=pure [none,some (.int d dt)] from rfl) (Ac (Al ?_))))
 refine Ac (DO pl.isList ?_)
 refine Ac (Br ?_)
 have W:=G0 (prog:=X.prog) (w:=X.w) (A:=X.A.in1) (I2.ok.hd hc) s2.heap.objs.size a (AG alt) its.toArray
 rw[sE]
 have hst:∀ob:Obj,((s2.heap.push {cls:=.type "list_iterator",data:=.fields #[.ref a,.int 0 0]}).push ob).IsListIter s2.heap.objs.size a 0∧((s2.heap.push {cls:=.type "list_iterator",data:=.fields #[.ref a,.int 0 0]}).push ob).IsList a its.toArray:=fun ob=>by
  refine⟨⟨_,Af _ (AI _ rfl),rfl,rfl⟩,?_⟩
  obtain⟨o,ho,hc',n,hd⟩:=pl.isList
  exact⟨o,Af _ (Af _ ho),hc',n,hd⟩
 have hSf:(s2.heap.push {cls:=.type "list_iterator",data:=.fields #[.ref a,.int 0 0]}).objs.size ∉ [s2.heap.objs.size,a]:=by
  rw[DS]
  intro hm
  simp only[AF,Dx,or_false]at hm
  rcases hm with e|e
  . exact absurd e (Fh (CW _))
  . exact absurd e (Fh (Bt alt))
 have old:∀{b:Addr} {o:Obj},s2.heap.get? b=some o→b ∉ [s2.heap.objs.size]∧b≠(s2.heap.push {cls:=.type "list_iterator",data:=.fields #[.ref a,.int 0 0]}).objs.size:=fun{b o} e=>by
  have:=Au e
  rw[DS]
  refine⟨fun hm=>?_,?_⟩
  . rw[A1.mp hm]at this;exact CO _ this
  . exact AG (Bt this)
 cases hn:ns with
 |nil=>
  subst hn
  have e0:its=[]:=List.eq_nil_of_length_eq_zero (by rw[←hlen];rfl)
  subst e0
  refine Al ⟨E3 Bw _,jn W hSf (hst _) (AI _ rfl) fun h' tk hk=>?_⟩
  exact⟨.int d,H2,I2.kept fun b o ho=>hk b o (old ho).1 (Af _ (Af _ ho)),⟨_,rfl⟩,q⟩
 |cons n0 ns0=>
  have hpos:0<its.toArray.size:=by rw[Ah,←hlen,hn];exact DT _
  have hat:∀(i:Nat) (v:Value),its.toArray[i]?=some v→∃t,v=.int (ns.getD i 0) t:=fun i v hv=>rv.ints (by simpa using hv)
  refine Al ⟨E3 Bw _,mP W (G8 (fun i=>ns.getD i 0) hat) hSf hpos (hst _) (AI _ rfl) fun v h' tk hP hk=>?_⟩
  obtain⟨t,rfl⟩:=hat _ _ hP
  obtain⟨b1,b2⟩:=argBest_gt (fun i=>ns.getD i 0) (its.toArray.size-1)
  have hl:its.toArray.size=ns.length:=by rw[Ah,←hlen,Ag]
  have e:ns.getD (argBest (fun i j=>decide (ns.getD i 0 > ns.getD j 0)) (its.toArray.size-1)) 0=yy d ns:=by
   symm
   refine sr ?_ fun x hx=>?_
   . have:argBest (fun i j=>decide (ns.getD i 0 > ns.getD j 0)) (its.toArray.size-1)<ns.length:=by omega
     rw[Ae,Aa this];exact BI this
   . obtain⟨i,hi,rfl⟩:=Bq hx
     have:=b2 i (by omega)
     simpa [Ae,Aa hi] using this
  refine⟨.int (yy d ns),H2,I2.kept fun b o ho=>hk b o (old ho).1 (old ho).2 (Af _ (Af _ ho)),⟨t,by rw[←e]⟩,q⟩
end
end L2
end
section
namespace L2
open PySem PyProof PyProof.Rows
section
variable {X:Cx}
theorem lK(l:Addr)(items:Array Value)(n:Nat)(u:Tok)(dd:Option Addr)(sl:Array (Option Value)) :
 Meets (Builtin.«tuple.__mul__» ⟨[.ref l,.int 1 u],[]⟩) (fun _ R s=>s.heap.get? l=some {cls:=.type "tuple",dict:=dd,data:=.seq items n,slots:=sl}∧R (.ok (.ret (Bc l))) s):=
 .of_wp fun prog w A R s h=>by
  obtain⟨hp,g,d,tk,os⟩:=s;obtain⟨hl,h⟩:=h
  have f1:=Gm
  have c1:¬((decide ((1:Int) < -(2 ^ 63))||decide ((1:Int) ≥ 2 ^ 63))=true):=by decide
  have c2:((items.isEmpty||((1:Int) == 1))=true):=by simp
  wp_walk using Ej hl
  exact⟨_,rfl,h⟩
theorem lJ(l:Addr)(items:Array Value)(n:Nat)(x:Int)(u:Tok)(dd:Option Addr)(sl:Array (Option Value))(h1:x≤0)(h2:-1000≤x)(h3:¬items.isEmpty=true) :
 Meets (Builtin.«tuple.__mul__» ⟨[.ref l,.int x u],[]⟩) (fun _ R s=>s.heap.get? l=some {cls:=.type "tuple",dict:=dd,data:=.seq items n,slots:=sl} ∧
  R (.ok (.ret (Bc s.heap.objs.size))) {s with heap:=s.heap.push {cls:=GZ "tuple",data:=Data.seq #[]},toks:=s.toks}):=
 .of_wp fun prog w A R s h=>by
  obtain⟨hp,g,d,tk,os⟩:=s;obtain⟨hl,h⟩:=h
  have f1:=Gm
  have c1:¬((decide (x < -(2 ^ 63))||decide (x ≥ 2 ^ 63))=true):=by simp;omega
  have c2:¬((items.isEmpty||x == 1)=true):=by simp at h3 ⊢;exact⟨h3,by omega⟩
  have c3:((decide (x≤0)||items.isEmpty)=true):=by simp;exact .inl h1
  wp_walk using Ej hl
  rw[if_neg c1]
  refine Ac (E1 (items:=items) ⟨_,hl,rfl,n,rfl⟩ ?_)
  rw[if_neg c2]
  show wpAny _ _ (if (decide (x≤0)||items.isEmpty)=true then _ else _) _ _ _
  rw[if_pos c3]
  exact Ac (m:=By _) (Br (Al ⟨_,rfl,h⟩))
noncomputable def VF:R2:=fun x y H Q=>∃a k xs,x=.ref a∧y=.int k∧H a=some (.tup xs)∧-1000≤k∧k≤1000∧xs≠[]∧xs.length≤1000∧tR H (AN k.toNat xs).flatten Q
theorem bF:OpR X (BH .Mult) VF:=by
 intro pins s σ H x y v u Q I rx ry h
 obtain⟨a,k,xs,rfl,rfl,ha,h1,h2,h3,h4,g⟩:=h
 by_cases hk2:2≤k
 . exact bG pins s σ H _ _ v u Q I rx ry ⟨a,k,xs,rfl,rfl,ha,hk2,h2,h3,h4,g⟩
 cases rx
 obtain⟨t,rfl⟩:=ry
 obtain⟨its,r,p1,_⟩:=I.tuple (.inl (.inl ha))
 obtain⟨⟨cls,dd,data,sl⟩,ho,hc,n,hd⟩:=id p1
 simp only at hc hd
 subst hc hd
 by_cases hk1:k=1
 . subst hk1
   refine Dn (T:="tuple") (U:="int") (by decide) ⟨_,ho,rfl⟩ (fun s'=>DI s' 1 t) xK Fm CF wy E7.lookup
    (B0 CF (DI s 1 t) E8 (EM _ _) (x6 1 t a its.toArray n dd sl)
     ⟨ho,rfl,⟨_,ho,rfl⟩,B0 D3 ⟨_,ho,rfl⟩ F6 (FL _ _) (lK a its.toArray n t dd sl) ⟨ho,?_⟩⟩)
   refine⟨.ref a,H,I,rfl,g a H (um.refl H) ?_⟩
   rw[ha];simp
 . have hne:¬its.toArray.isEmpty=true:=by
    simp
    intro e
    exact h3 (r.wH.mp e)
   have e0:k.toNat=0:=by omega
   refine Dn (T:="tuple") (U:="int") (by decide) ⟨_,ho,rfl⟩ (fun s'=>DI s' k t) xK Fm CF wy E7.lookup
    (B0 CF (DI s k t) E8 (EM _ _) (x6 k t a its.toArray n dd sl)
     ⟨ho,rfl,⟨_,ho,rfl⟩,B0 D3 ⟨_,ho,rfl⟩ F6 (FL _ _) (lJ a its.toArray n k t dd sl (by omega) h1 hne) ⟨ho,?_⟩⟩)
   rw[e0]at g
   refine⟨.ref s.heap.objs.size,_,I.laid (t':=s.toks) (o:=.tup []) (fun b ob q=>Af _ q) (Ai _) ⟨Bp _,[],.nil,uB.new _ _⟩,rfl,g.new _ (I.hok.fresh (Ai _))⟩
noncomputable def tH(a b c:Int):List Int:=(Ak (CQ a b c).toNat).map fun(i:Nat)=>a+(i:Int)*c
end
end L2
end
section
namespace L2
open PySem PyProof PyProof.Rows
section
variable {X:Cx}
theorem uv{x:V}:∀{xs:List V} {us:List Value},Vals xs us→xs.all xS=true→us.countP (eqU x)=xs.countP fun y=>eqV y x
 |_,_,.nil,_=>rfl
 |y::ys,u::us,.cons r rs,h=>by
  rw[B1,Ab]at h
  rw[Dy,Dy,uv rs h.2,pN r h.1]
noncomputable def p6(K:Av)(tup:Bool):V→List V→Hp→VK→Prop:=fun x vs H Q=>∃t xs y,x=.ref t∧vs=[y]∧(if tup=true then SqT K H t xs else SqL K H t xs)∧xS y=true∧xs.all xS=true∧Q (.int (xs.countP fun z=>eqV z y:Nat)) H
theorem js:MtR X "tuple.count" (p6 X.K true):=by
 intro pins s σ H x xs v us Q I rx rs h
 obtain⟨t,ys,y,rfl,rfl,ht,fy,fs,q⟩:=h
 cases rx
 obtain⟨u,rfl,ru⟩:=vals1 rs
 obtain⟨its,r,p1,_⟩:=I.tuple ht
 obtain⟨⟨cls,dd,data,sl⟩,ho,hc,n,hd⟩:=id p1
 simp only at hc hd
 subst hc hd
 refine B0 F.slot_tuple_count ⟨_,ho,rfl⟩ F.entry_tuple_count (F.args_tuple_count_2 _ _) (SeqAt.tuple_countAt t its.toArray n dd sl u (eqU y)) ⟨ho,fun w hw=>xT ru fy r fs w (by simpa using hw),?_⟩
 rw[show its.toArray.toList=its from rfl,uv r fs]
 exact⟨.int _,H,I.tok _,⟨s.toks,rfl⟩,q⟩
theorem jr:MtR X "list.count" (p6 X.K false):=by
 intro pins s σ H x xs v us Q I rx rs h
 obtain⟨t,ys,y,rfl,rfl,ht,fy,fs,q⟩:=h
 cases rx
 obtain⟨u,rfl,ru⟩:=vals1 rs
 obtain⟨its,r,p1,_⟩:=I.list ht
 obtain⟨⟨cls,dd,data,sl⟩,ho,hc,n,hd⟩:=id p1.isList
 simp only at hc hd
 subst hc hd
 refine B0 F.slot_list_count ⟨_,ho,rfl⟩ F.entry_list_count (F.args_list_count_2 _ _) (SeqAt.list_countAt t its.toArray n dd sl u (eqU y)) ⟨ho,fun w hw=>xT ru fy r fs w (by simpa using hw),?_⟩
 rw[show its.toArray.toList=its from rfl,uv r fs]
 exact⟨.int _,H,I.tok _,⟨s.toks,rfl⟩,q⟩
theorem vw(h:Int):∀ns:List Int,((ns.map V.int).countP fun z=>eqV z (.int h))=ns.count h
 |[]=>rfl
 |n::ns=>by
  rw[AA,Dy,vw h ns,Fp]
  rfl
theorem ux:∀ns:List Int,(ns.map V.int).all xS=true
 |[]=>rfl
 |n::ns=>by rw[AA,B1,ux ns];rfl
noncomputable def rC(d:Int):List Int→Int
 |[]=>d
 |n::ns=>ns.foldl (fun a b=>if b<a then b else a) n
theorem sV:∀(ns:List Int) (a:Int),ns.foldl (fun a b=>if b<a then b else a) a≤a∧(∀x∈ns,ns.foldl (fun a b=>if b<a then b else a) a≤x)∧(ns.foldl (fun a b=>if b<a then b else a) a=a∨ns.foldl (fun a b=>if b<a then b else a) a∈ns)
 |[],a=>⟨Cg _,fun _ h=>(nomatch h),.inl rfl⟩
 |n::ns,a=>by
  obtain⟨h1,h2,h3⟩:=sV ns (if n<a then n else a)
  show ns.foldl _ (if n<a then n else a)≤a∧_
  have hc:(if n<a then n else a)≤a∧(if n<a then n else a)≤n:=by split<;>omega
  refine⟨A0 h1 hc.1,fun x hx=>?_,?_⟩
  . rcases AF.mp hx with e|hx
    . rw[e];exact A0 h1 hc.2
    . exact h2 x hx
  . rcases h3 with h3|h3
    . show ns.foldl _ (if n<a then n else a)=a∨ns.foldl _ (if n<a then n else a)∈n::ns
      rw[h3]
      split
      . exact .inr (AY ..)
      . exact .inl rfl
    . exact .inr (AJ _ h3)
theorem mT{d:Int}{ns:List Int}(h:ns≠[]):rC d ns∈ns∧∀x∈ns,rC d ns≤x:=by
 cases ns with
 |nil=>exact absurd rfl h
 |cons n ns=>
  obtain⟨h1,h2,h3⟩:=sV ns n
  refine⟨?_,fun x hx=>?_⟩
  . rcases h3 with h3|h3
    . show ns.foldl _ n∈_;rw[h3];exact AY ..
    . exact AJ _ h3
  . rcases AF.mp hx with e|hx
    . rw[e];exact h1
    . exact h2 x hx
theorem fG{d M:Int}{ns:List Int}(h1:M∈ns)(h2:∀x∈ns,M≤x):rC d ns=M:=by
 have hne:ns≠[]:=fun e=>by rw[e]at h1;exact nomatch h1
 obtain⟨a,b⟩:=mT (d:=d) hne
 exact Ek (b _ h1) (h2 _ a)
noncomputable def aj(K:Av)(g:List Int→Int):List V→Hp→VK→Prop:=fun xs H Q=>∃(a:Addr) (ns:List Int),xs=[.ref a]∧SqL K H a (ns.map V.int)∧ns≠[]∧Q (.int (g ns)) H
theorem kz(hc:X.calm=true):yA X (.builtin "max") (aj X.K (yy 0)):=by
 intro pins s σ H xs us Q I r h
 obtain⟨a,ns,rfl,ha,hne,q⟩:=h
 obtain⟨u,rfl,ru⟩:=vals1 r
 cases ru
 obtain⟨its,rv,pl,hz⟩:=I.list ha
 have hlen:=rv.length
 have alt:a<s.heap.objs.size:=by obtain⟨o,ho,_⟩:=pl.isList;exact Au ho
 have hl:its.toArray.size=ns.length:=by rw[Ah,←hlen,Ag]
 have hpos:0<ns.length:=Fy.mpr hne
 have hat:∀(i:Nat) (v:Value),its.toArray[i]?=some v→∃t,v=.int (ns.getD i 0) t:=fun i v hv=>rv.ints (by simpa using hv)
 refine call_max_walk (DO pl.isList ?_)
 refine⟨s.heap.objs.size,_,_,_,_,_,_,rfl,G0 (A:=X.A.in1) (I.ok.hd hc) s.heap.objs.size a (AG alt) its.toArray,⟨⟨_,AI _ rfl,rfl,rfl⟩,?_⟩,fun b hb=>?_,by omega,G8 (fun i=>ns.getD i 0) hat,fun v h' tk hP hk=>?_⟩
 . obtain⟨o,ho,hc',n,hd⟩:=pl.isList
   exact⟨o,Af _ ho,hc',n,hd⟩
 . rw[DS]
   simp only[AF,Dx,or_false]at hb
   rcases hb with e|e
   . rw[e];exact CW _
   . rw[e];exact Bt alt
 . obtain⟨t,rfl⟩:=hat _ _ hP
   obtain⟨b1,b2⟩:=argBest_gt (fun i=>ns.getD i 0) (its.toArray.size-1)
   have e:yy 0 ns=ns.getD (argBest (fun i j=>decide (ns.getD i 0 > ns.getD j 0)) (its.toArray.size-1)) 0:=by
    refine sr ?_ fun x hx=>?_
    . have:argBest (fun i j=>decide (ns.getD i 0 > ns.getD j 0)) (its.toArray.size-1)<ns.length:=by omega
      rw[Ae,Aa this];exact BI this
    . obtain⟨i,hi,rfl⟩:=Bq hx
      have:=b2 i (by omega)
      simpa [Ae,Aa hi] using this
   refine⟨.int (yy 0 ns),H,I.kept fun b o ho=>hk b o ?_ (Af _ ho),⟨t,by rw[e]⟩,q⟩
   simpa using AG (Au ho)
theorem jD(hc:X.calm=true):yA X (.builtin "min") (aj X.K (rC 0)):=by
 intro pins s σ H xs us Q I r h
 obtain⟨a,ns,rfl,ha,hne,q⟩:=h
 obtain⟨u,rfl,ru⟩:=vals1 r
 cases ru
 obtain⟨its,rv,pl,hz⟩:=I.list ha
 have hlen:=rv.length
 have alt:a<s.heap.objs.size:=by obtain⟨o,ho,_⟩:=pl.isList;exact Au ho
 have hl:its.toArray.size=ns.length:=by rw[Ah,←hlen,Ag]
 have hpos:0<ns.length:=Fy.mpr hne
 have hat:∀(i:Nat) (v:Value),its.toArray[i]?=some v→∃t,v=.int (ns.getD i 0) t:=fun i v hv=>rv.ints (by simpa using hv)
 refine call_min_walk (DO pl.isList ?_)
 refine⟨s.heap.objs.size,_,_,_,_,_,_,rfl,G0 (A:=X.A.in1) (I.ok.hd hc) s.heap.objs.size a (AG alt) its.toArray,⟨⟨_,AI _ rfl,rfl,rfl⟩,?_⟩,fun b hb=>?_,by omega,CmpOf.ints_lt (fun i=>ns.getD i 0) hat,fun v h' tk hP hk=>?_⟩
 . obtain⟨o,ho,hc',n,hd⟩:=pl.isList
   exact⟨o,Af _ ho,hc',n,hd⟩
 . rw[DS]
   simp only[AF,Dx,or_false]at hb
   rcases hb with e|e
   . rw[e];exact CW _
   . rw[e];exact Bt alt
 . obtain⟨t,rfl⟩:=hat _ _ hP
   obtain⟨b1,b2⟩:=argBest_lt (fun i=>ns.getD i 0) (its.toArray.size-1)
   have e:rC 0 ns=ns.getD (argBest (fun i j=>decide (ns.getD i 0<ns.getD j 0)) (its.toArray.size-1)) 0:=by
    refine fG ?_ fun x hx=>?_
    . have:argBest (fun i j=>decide (ns.getD i 0<ns.getD j 0)) (its.toArray.size-1)<ns.length:=by omega
      rw[Ae,Aa this];exact BI this
    . obtain⟨i,hi,rfl⟩:=Bq hx
      have:=b2 i (by omega)
      simpa [Ae,Aa hi] using this
   refine⟨.int (rC 0 ns),H,I.kept fun b o ho=>hk b o ?_ (Af _ ho),⟨t,by rw[e]⟩,q⟩
   simpa using AG (Au ho)
theorem j8{o e:Expr}{to te:TE}{apos cpos:Pos}(ho:PE X o to)(he:PE X e te)(hbase:Ee o "count" X.env (eval o X.env)=eval o X.env:=by rfl)(hst:noStar e=true:=by rfl)(hline:(apos.endLine == cpos.line)=true:=by rfl) :
 PE X (.Call (.Attribute o "count" apos) [e] [] cpos) (tBM X.K "list" (p6 X.K false) to (rV te lE)):=by
 have hs1:AR [e] X.env=(false,eval e X.env)::AR [] X.env:=zx hst
 refine ai Gx PySem.F.slot_list_count PySem.F.type_list_count jr ho (pac he vK hst) hbase ?_ hline hs1 rfl
 rw[hs1];rfl
noncomputable def VP(r:V→List V→Hp→VK→Prop)(to:TE)(t:TA):TE:=fun σ H Q=>to σ H fun x H1=>(∃a xs,x=.ref a∧H1 a=some (.tup xs))∧t σ H1 fun xs H2=>r x xs H2 Q
theorem j9{o e:Expr}{to te:TE}{apos cpos:Pos}(ho:PE X o to)(he:PE X e te)(hbase:Ee o "count" X.env (eval o X.env)=eval o X.env:=by rfl)(hst:noStar e=true:=by rfl)(hline:(apos.endLine == cpos.line)=true:=by rfl) :
 PE X (.Call (.Attribute o "count" apos) [e] [] cpos) (VP (p6 X.K true) to (rV te lE)):=by
 have hs1:AR [e] X.env=(false,eval e X.env)::AR [] X.env:=zx hst
 intro pins s σ H Q I h
 refine ET hbase (by rw[hs1];rfl) hline rfl (thn (ho pins s σ H _ I h) fun v s1 ⟨x,H1,I1,r1,ty,q1⟩=>?_)
 obtain⟨a,xs,rfl,hx⟩:=ty
 cases r1
 obtain⟨z,its,rv,ob,e1,c1,n,d1,nd⟩:=(show ze X.prog X.w H1 s1.heap a (.tup xs) from I1.hok a _ hx)
 refine⟨"tuple",_,Gn,PySem.F.slot_tuple_count,PySem.F.type_tuple_count,⟨ob,e1,c1⟩,fun b hb=>?_,?_⟩
 . cases hb;exact⟨ob,e1,nd⟩
 have hA:=(pac he vK hst:PA X [e] _) cpos pins s1 σ H1 _ I1 q1
 rw[hs1]at hA ⊢
 refine EU rfl (Fj ?_)
 exact thn hA fun us s2 ⟨vs,H2,I2,r2,q2⟩=>js pins s2 σ H2 (.ref a) vs _ us Q I2 rfl r2 q2
end
end L2
namespace L2
open PySem
end L2
namespace L2
open PySem
end L2
end
section
namespace L2
open PySem PySem.W PySem.Calls PyProof PyProof.Rows
def Vj(K:Av)(H:Hp)(ys:List V)(zs:List (Int × Int)):Prop:=ys.length=zs.length∧∀(i:Nat) (z:Int × Int),zs[i]?=some z→∃b,ys[i]?=some (V.ref b)∧SqT K H b [.int z.1,.int z.2]
noncomputable def zp(z:Int × Int):Int:=z.1*1000+z.2
theorem hJ{a b:Int × Int}(ha:0≤a.2∧a.2<1000)(hb:0≤b.2∧b.2<1000):zp a<zp b↔a.1<b.1∨a.1=b.1∧a.2<b.2:=by
 unfold zp;omega
theorem qS{a b:Int × Int}(ha:0≤a.2∧a.2<1000)(hb:0≤b.2∧b.2<1000)(e:zp a=zp b):a=b:=by
 unfold zp at e
 have h1:a.1=b.1:=by omega
 have h2:a.2=b.2:=by omega
 exact Es h1 h2
end L2
end
section
namespace L2
open PySem PySem.W PySem.Calls PyProof PyProof.Rows
section
variable {prog:Program}{w:World}{A:Around}{E:Value→Shared→Prop}{s:Shared}
theorem oE{l:Addr}{vs:List Value}{Q:Value→Shared→Prop}(hl:s.heap.IsList l vs.toArray)(h2:vs.length<2)
 (h:∀(h':Heap) (c:Nat),(∀b o,s.heap.get? b=some o→h'.get? b=some o)→h'.get? (s.heap.objs.size+1)=some (seqObj "list" vs.toArray c)→Q (.ref (s.heap.objs.size+1)) {s with heap:=h'}) :
 wpAny (model prog w) A (call (.builtin "sorted") [.ref l]) Q E s:=by
 refine El kind_sorted plain_sorted entry_sorted (args_sorted1 _) ?_
 unfold Builtin.«sorted»
 refine Ac (m:=checkCount "sorted" 1 1 _) (Al ?_)
 refine Ac (collect_list hl ?_ (by rw[Bi];omega))
 refine Ac (E4 ?_ (by rw[Bi];omega))
 have hsz:((s.heap.push (seqObj "list" #[] 0)).update s.heap.objs.size (Bk (·++vs.toArray))).objs.size=s.heap.objs.size+1:=by
  rw[Heap.size_update,size_push']
 have hoL:(((s.heap.push (seqObj "list" #[] 0)).update s.heap.objs.size (Bk (·++vs.toArray))).push (seqObj "list" vs.toArray 0)).get? (s.heap.objs.size+1)=some (seqObj "list" vs.toArray 0):=by
  rw[←hsz];exact AI _ rfl
 have keep:∀b o,s.heap.get? b=some o→(((s.heap.push (seqObj "list" #[] 0)).update s.heap.objs.size (Bk (·++vs.toArray))).push (seqObj "list" vs.toArray 0)).get? b=some o:=fun b o q=>by
  have hlt:b<s.heap.objs.size:=Au q
  rw[DP _ _ _ (by rw[hsz];exact AG (Bt hlt)),CU _ _ _ _ (AG hlt),DP _ _ _ (AG hlt)]
  exact q
 show wpAny _ _ _ _ _ {s with heap:=((s.heap.push (seqObj "list" #[] 0)).update s.heap.objs.size (Bk (·++vs.toArray))).push (seqObj "list" vs.toArray 0)}
 rw[hsz]
 generalize hg:((s.heap.push (seqObj "list" #[] 0)).update s.heap.objs.size (Bk (·++vs.toArray))).push (seqObj "list" vs.toArray 0)=g at hoL keep ⊢
 refine Ac (BB (Dw GV ⟨_,hoL,rfl⟩ GN ?body (GW _)))
 case body=>
  have ha:s.heap.objs.size+1<g.objs.size:=Au hoL
  rw[list_sort_plain]
  refine Ac (listItems_at hoL rfl ?_)
  refine Ac (FW hoL rfl ?_ (by rw[Ah,Bi];omega) (Bp _))
  obtain⟨e1,ho1⟩:∃e1,(g.update (s.heap.objs.size+1) (Bk fun _=>(#[]:Array Value))).get? (s.heap.objs.size+1)=some (seqObj "list" #[] e1):=⟨_,Fq hoL fun _=>#[]⟩
  refine Ac (GR ho1 rfl ?_)
  refine Ac (wpAny_newTuple ?_ (by show vs.length≤_;rw[Bi];omega))
  refine Ac (E4 ?_ (Bp _))
  refine BB ?_
  have ho6:(((g.update (s.heap.objs.size+1) (Bk fun _=>(#[]:Array Value))).push (seqObj "tuple" vs.toArray 0)).push (seqObj "list" #[] 0)).get? (s.heap.objs.size+1)=some (seqObj "list" #[] e1):=
   Af _ (Af _ ho1)
  show wpAny (model prog w) _ _ _ _ {s with heap:=((g.update (s.heap.objs.size+1) (Bk fun _=>(#[]:Array Value))).push (seqObj "tuple" vs.toArray 0)).push (seqObj "list" #[] 0)}
  dsimp only
  have h2':vs.toArray.size<2:=by rw[Ah];exact h2
  rw[if_pos h2',if_pos h2']
  refine Ac (Al ?_)
  rw[StateT.run_pure]
  refine Ac (Al ?_)
  dsimp only
  refine Ac (GR ho6 rfl ?_)
  have hout:(arrOf (G2 general' (vs.toArray.zip vs.toArray) #[] 7 none)).map (·.2)=vs.toArray:=by
   show (vs.toArray.zip vs.toArray).map (·.2)=vs.toArray
   apply Gp.mp
   simp[List.map_snd_zip]
  rw[hout]
  refine Ac (FW ho6 rfl ?_ (Bp _) (by rw[Ah,Bi];omega))
  simp only[bne_self_eq_false,AU,if_false]
  refine Al ⟨_,rfl,Al ⟨_,rfl,?_⟩⟩
  have hc:=Fq ho6 fun _=>vs.toArray
  refine h _ _ (fun b o e=>?_) hc
  have hlt:b<s.heap.objs.size:=Au e
  have hb:b≠s.heap.objs.size+1:=AG (Bt hlt)
  rw[CU _ _ _ _ hb]
  refine Af _ (Af _ ?_)
  rw[CU _ _ _ _ hb]
  exact keep b o e
end
section
variable {P:Program}{w:World}{H:Hp}{h:Heap}{a:Addr}{o:HO}
theorem ze.got(x:ze P w H h a o):∃u,h.get? a=some u:=by
 cases o with
 |lst xs=>obtain⟨_,_,_,_,e⟩:=x;exact⟨_,e⟩
 |tup xs=>obtain⟨_,_,_,_,e,_⟩:=x;exact⟨_,e⟩
 |dK kvs=>obtain⟨_,_,_,_,o,_,_,e,_⟩:=x;exact⟨_,e⟩
 |dT kvs=>obtain⟨_,_,_,_,o,_,_,e,_⟩:=x;exact⟨_,e⟩
 |set S n=>obtain⟨o,_,_,_,e,_⟩:=x;exact⟨_,e⟩
 |ins C dx fs=>obtain⟨_,_,_,e,_⟩:=x;exact⟨_,e⟩
 |own y=>exact x
 |xd fs=>obtain⟨_,⟨_,_,_,e,_⟩,_⟩:=x;exact⟨_,e⟩
 |rng lo hi=>obtain⟨_,_,_,e⟩:=x;exact⟨_,e⟩
 |frz ob u=>obtain⟨e,_⟩:=x;exact⟨_,e⟩
 |tbl ps=>exact⟨_,x⟩
 |met f y=>exact⟨_,x⟩
 |ext φ=>exact x.2.1
end
end L2
end
section
namespace L2
open PySem PySem.W PySem.Calls PyProof PyProof.Rows
theorem qw{ys:List V}{its:List Value}(r:Vals ys its):∀(l:List Nat),(∀i∈l,i<ys.length)→Vals (l.map fun i=>ys.getD i .non) (l.map fun i=>its.getD i Aj)
 |[],_=>.nil
 |i::l,h=>by
  have hi:i<ys.length:=h i (.head _)
  obtain⟨u,e,ru⟩:=r.get (i:=i) (x:=ys[i]) (by simp[hi])
  refine .cons ?_ (qw r l fun j hj=>h j (.tail _ hj))
  show RelV (ys.getD i .non) (its.getD i Aj)
  rw[Ae,Ae,e]
  simp only[Aa hi,E9]
  exact ru
section
variable {X:Cx}{pins:List (Addr × Obj)}{σ:St}{H:Hp}{s:Shared}
theorem iE{α:Type}(d:α){zs:List α}{l:List Nat}(h:l.Perm (Ak zs.length)):(l.map fun i=>zs.getD i d).Perm zs:=by
 have e:(Ak zs.length).map (fun i=>zs.getD i d)=zs:=by
  apply D5
  . simp
  . intro i h1 h2
    simp[Aa h2]
 exact(h.map _).trans (.of_eq e)
theorem Inv.nz{D:Addr}{ys:List V}{its:List Value}{c:Nat}{h':Heap}(I:Inv X pins σ H s)(hz:ys.length≤Az)(r:Vals ys its)(hD:s.heap.get? D=none)(keep:∀b o,b≠X.env.locals→s.heap.get? b=some o→h'.get? b=some o)
 (ns:∀m,s.heap.Ns X.env.locals m→h'.Ns X.env.locals m) (e:h'.get? D=some {cls:=.type "list",data:=.seq its.toArray c}):H D=none∧Inv X pins σ (upd H D (.lst ys)) {s with heap:=h'}:=by
 have hn:H D=none:=by
  cases q:H D with
  |none=>rfl
  |some o=>
   obtain⟨u,hu⟩:=ze.got (I.hok D o q)
   rw[hD]at hu;cases hu
 have ne:∀b o,H b=some o→b≠D:=fun b o q z=>by rw[z,hn]at q;cases q
 have neo:∀b o,s.heap.get? b=some o→b≠D:=fun b o q z=>by rw[z,hD]at q;cases q
 refine⟨hn,I.step (g':=s.gens) (d':=s.drawn) (t':=s.toks) (ch:=[]) (fun _ z=>nomatch z) (fun b o hL _ _ q _=>keep b o hL q) (fun b o hL _ _ q _=>⟨o.slots,keep b o hL q⟩) (fun b o _ q n=>?_) (fun b o _ q=>?_) (fun b xs q=>?_) (fun b o u q=>?_) (fun b ps q=>?_) ns (fun b o q=>?_) I.bare⟩
 . rw[zO (neo b o q)];exact n
 . by_cases hb:b=X.env.locals
   . subst hb
     obtain⟨m,hm,_⟩:=I.loc
     obtain⟨o',_,_,ho',_⟩:=ns m hm
     exact⟨o',ho'⟩
   . exact⟨o,keep b o hb q⟩
 . rw[zO (ne b _ q)];exact q
 . rw[zO (ne b _ q)];exact q
 . exact⟨#[],by rw[zO (ne b _ q),q];simp⟩
 . by_cases hb:b=D
   . subst hb
     rw[zd]at q
     cases q
     exact⟨hz,its,c,r,e⟩
   . rw[zO hb]at q
     refine(I.hok b o q).iQ (fun x u hx hu=>keep x u ?_ hu) (fun x hx=>by rw[zO (ne x _ hx)];exact hx) (fun x xs hx=>by rw[zO (ne x _ hx)];exact hx)
     rcases hx with rfl|hx
     . intro z;rw[z,I.free]at q;cases q
     . intro z;rw[z,I.free]at hx;cases hx
end
end L2
end
section
namespace L2
open PySem PySem.W PySem.Calls PyProof PyProof.Rows Att
theorem qi{α:Type}{zs:List α}(d:α):(Ak zs.length).map (fun i=>zs.getD i d)=zs:=by
 apply D5
 . simp
 . intro i h1 h2
   simp[Aa h2]
theorem wz:∀{l l':List (Int × Int)},l.Pairwise (fun a b=>zp a<zp b)→l'.Pairwise (fun a b=>zp a<zp b)→(∀x,x∈l↔x∈l')→l=l'
 |[],[],_,_,_=>rfl
 |[],y::t',_,_,h=>by have:=(h y).mpr (.head _);cases this
 |x::t,[],_,_,h=>by have:=(h x).mp (.head _);cases this
 |x::t,y::t',h1,h2,h=>by
  rw[Bx]at h1 h2
  have exy:x=y:=by
   rcases AF.mp ((h x).mp (.head _)) with e|m
   . exact e
   . rcases AF.mp ((h y).mpr (.head _)) with e|m'
     . exact e.symm
     . have a:=h2.1 x m
       have b:=h1.1 y m'
       omega
  subst exy
  congr 1
  refine wz h1.2 h2.2 fun a=>⟨fun m=>?_,fun m=>?_⟩
  . rcases AF.mp ((h a).mp (.tail _ m)) with e|m'
    . have:=h1.1 a m
      rw[e]at this;omega
    . exact m'
  . rcases AF.mp ((h a).mpr (.tail _ m)) with e|m'
    . have:=h2.1 a m
      rw[e]at this;omega
    . exact m'
end L2
end
section
namespace L2
open PySem PySem.W PySem.Calls PyProof PyProof.Rows
inductive vh:List Value→List Int→Prop
 |nil:vh [] []
 |cons {i:Int} {t:Tok} {us:List Value} {ns:List Int}:vh us ns→vh (.int i t::us) (i::ns)
theorem aZ:∀{ns:List Int} {us:List Value},Vals (ns.map V.int) us→vh us ns
 |[],_,.nil=>.nil
 |n::ns,_,.cons r rs=>by
  obtain⟨t,rfl⟩:=(show ∃t,_=DG n t from r)
  exact .cons (aZ rs)
def dM(K:Av)(H:Hp)(ys:List V)(zs:List (List Int)):Prop:=ys.length=zs.length∧∀(i:Nat) (z:List Int),zs[i]?=some z→∃b,ys[i]?=some (V.ref b)∧SqT K H b (z.map V.int)
def TV(h:Heap)(its:List Value)(zs:List (List Int)):Prop:=
 its.length=zs.length∧∀(i:Nat) (z:List Int),zs[i]?=some z→∃b o n us,its[i]?=some (Bc b)∧h.get? b=some o∧o.cls=.type "tuple"∧o.data=.seq (List.toArray us) n∧vh us z
theorem dM.tv{X:Cx}{pins:List (Addr × Obj)}{σ:St}{H:Hp}{s:Shared}(I:Inv X pins σ H s){ys:List V}{its:List Value}{zs:List (List Int)}(h:dM X.K H ys zs)(r:Vals ys its):TV s.heap its zs:=by
 refine⟨by rw[←r.length];exact h.1,fun i z e=>?_⟩
 obtain⟨b,e1,e2⟩:=h.2 i z e
 obtain⟨u,e3,ru⟩:=r.get e1
 obtain⟨us,rt,⟨o,ho,hc,n,hd⟩,_⟩:=I.tuple e2
 have ru':u=Bc b:=ru
 subst ru'
 exact⟨b,o,n,us,e3,ho,hc,hd,aZ rt⟩
theorem TV.rh{h:Heap}:∀{its:List Value} {zs:List (List Int)},TV h its zs→(∀z∈zs,z≠[])→∃fs,KatTups h its fs∧fs.length=its.length∧∀v∈fs,∃i t,v=DG i t
 |[],[],_,_=>⟨[],KatTups.nil,rfl,fun _ x=>nomatch x⟩
 |[],_::_,⟨l,_⟩,_=>by cases l
 |_::_,[],⟨l,_⟩,_=>by cases l
 |v::its,z::zs,⟨l,f⟩,hn=>by
  obtain⟨b,o,n,us,e,ho,hc,hd,iv⟩:=f 0 z rfl
  have e':v=Bc b:=by simpa using e
  subst e'
  obtain⟨fs,k,kl,ki⟩:=TV.rh (h:=h) (its:=its) (zs:=zs) ⟨by simpa using l,fun i z' e=>by simpa using f (i+1) z' (by simpa using e)⟩ fun z' hz=>hn z' (.tail _ hz)
  cases iv with
  |nil=>exact absurd rfl (hn [] (.head _))
  |@cons i t us ns r=>
   refine⟨DG i t::fs,KatTups.cons ho hc hd (by simp) k,by simp[kl],fun v hv=>?_⟩
   rcases AF.mp hv with rfl|hv
   . exact⟨_,_,rfl⟩
   . exact ki v hv
theorem qW{us:List Value}{ns:List Int}(h:vh us ns):us.length=ns.length:=by
 induction h with
 |nil=>rfl
 |cons _ ih=>simp[ih]
end L2
end
section
namespace L2.Tim
open PySem PySem.W PySem.Calls PyProof PyProof.Rows
section
variable {prog:Program}{w:World}{A:Around}{E:Value→Shared→Prop}{s:Shared}{κ:Dz}{a₀:Array Keyed}{key:Keyed→Int}
noncomputable def kk(key:Keyed→Int)(a:Array Keyed)(i:Nat):Int:=key (a.getD i (Aj,Aj))
def SIn(key:Keyed→Int)(a:Array Keyed)(lo n:Nat):Prop:=∀i j,i≤j→j<n→kk key a (lo+i)≤kk key a (lo+j)
def NIn(key:Keyed→Int)(a:Array Keyed)(lo n:Nat):Prop:=∀i j,i≤j→j<n→kk key a (lo+j)≤kk key a (lo+i)
def Pre(lo:Nat)(a b:Array Keyed):Prop:=∀i,i<lo→b[i]?=a[i]?
theorem Pre.refl{lo:Nat}{a:Array Keyed}:Pre lo a a:=fun _ _=>rfl
theorem Pre.trans{lo:Nat}{a b c:Array Keyed}(h:Pre lo a b)(k:Pre lo b c):Pre lo a c:=fun i hi=>(k i hi).trans (h i hi)
structure Bs(κ:Dz)(a₀:Array Keyed)(st:SortSt):Prop where
 kind:kindOf st=κ
 perm:(arrOf st).Perm a₀
 fail:Ez st=none
theorem Bs.size{st:SortSt}(h:Bs κ a₀ st):(arrOf st).size=a₀.size:=h.perm.size_eq
theorem Bs.set{st:SortSt}{xs:Array Keyed}(h:Bs κ a₀ st)(hp:xs.Perm (arrOf st)):Bs κ a₀ (setArr st xs):=⟨h.kind,hp.trans h.perm,h.fail⟩
def sI(prog:Program)(w:World)(A:Around)(E:Value→Shared→Prop)(s:Shared)(κ:Dz)(a₀:Array Keyed)(key:Keyed→Int):Prop:=
 ∀(x y:Keyed) (st:SortSt) (Q:Option Bool→SortSt→Prop),x∈a₀.toList→y∈a₀.toList→kindOf st=κ→Q (some (decide (key x<key y))) st→wpS (model prog w) A E s (lt' x y) Q st
theorem y4{a b:Array Keyed}{i j:Nat}(h:a[i]?=b[j]?):kk key a i=kk key b j:=by
 unfold kk;rw[DZ,DZ,h]
theorem Bs.at{st:SortSt}(h:Bs κ a₀ st){i:Nat}(hi:i<a₀.size):∃x,(arrOf st)[i]?=some x∧x∈a₀.toList∧kk key (arrOf st) i=key x:=by
 have hi':i<(arrOf st).size:=by rw[h.size];exact hi
 refine⟨(arrOf st)[i],by simp[hi'],?_,?_⟩
 . exact(Di.mp h.perm).mem_iff.mp (by simp)
 . unfold kk;simp[Array.getD,hi']
theorem zg{arr:Array Keyed}{i:Nat}{x:Keyed}{st:SortSt}{Q:Keyed→SortSt→Prop}(h:arr[i]?=some x)(q:Q x st):wpS (model prog w) A E s (elem' arr i) Q st:=by
 rw[elem'_eq,h];exact Aq q
theorem nt(L:sI prog w A E s κ a₀ key){st:SortSt}{i j:Nat}{Q:Option Bool→SortSt→Prop}(hB:Bs κ a₀ st)(hi:i<a₀.size)(hj:j<a₀.size)
 (h:Q (some (decide (kk key (arrOf st) i<kk key (arrOf st) j))) st):wpS (model prog w) A E s (ltAt' i j) Q st:=by
 obtain⟨x,e1,m1,k1⟩:=hB.at (key:=key) hi
 obtain⟨y,e2,m2,k2⟩:=hB.at (key:=key) hj
 rw[ltAt'_eq]
 refine Ao (wpS_get ?_)
 refine Ao (zg e1 (Ao (zg e2 ?_)))
 rw[k1,k2]at h
 exact L x y st Q m1 m2 hB.kind h
theorem qb{xs:Array Keyed}{i j:Nat}(hj:j≤xs.size)(k:Nat):kk key (mirror xs i j ((j-i)/2)) k=if i≤k∧k<j then kk key xs (i+j-1-k) else kk key xs k:=by
 have e:=getElem?_mirror_all (i:=i) hj k
 by_cases h1:i≤k∧k<j
 . rw[if_pos h1]at e ⊢;exact y4 e
 . rw[if_neg h1]at e ⊢;exact y4 e
theorem mw{xs:Array Keyed}{lo i j:Nat}(hj:j≤xs.size)(hi:lo≤i):Pre lo xs (mirror xs i j ((j-i)/2)):=fun k hk=>by
 rw[getElem?_mirror_all (i:=i) hj k,if_neg (by omega)]
theorem qa{xs:Array Keyed}{src d:Nat}(hs:src<xs.size)(hd:d≤src)(k:Nat):kk key (bubble xs src d) k=if k=src-d then kk key xs src else if src-d<k∧k≤src then kk key xs (k-1) else kk key xs k:=by
 have e:=getElem?_bubble hs d hd k
 by_cases h1:k=src-d
 . rw[if_pos h1]at e ⊢;exact y4 e
 . rw[if_neg h1]at e ⊢
   by_cases h2:src-d<k∧k≤src
   . rw[if_pos h2]at e ⊢;exact y4 e
   . rw[if_neg h2]at e ⊢;exact y4 e
theorem Xf{st:SortSt}{i j:Nat}{Q:Unit→SortSt→Prop}(h:Q () (setArr st (mirror (arrOf st) i j ((j-i)/2)))):wpS (model prog w) A E s (reverseSlice' i j) Q st:=by
 rw[reverseSlice'_eq];exact Cw h
theorem Xe(L:sI prog w A E s κ a₀ key){st:SortSt}{lo n ok:Nat}{Q:Bool→SortSt→Prop}(hn:lo+n≤a₀.size)(hok:ok≤n)(hB:Bs κ a₀ st)(hs:SIn key (arrOf st) lo ok)
 (h:∀st',Bs κ a₀ st'→Pre lo (arrOf st) (arrOf st')→AL st'=AL st→SIn key (arrOf st') lo n→Q true st'):wpS (model prog w) A E s (binarySort' lo n ok) Q st:=by
 rw[binarySort'_eq]
 refine Ao (CH (Bu (I:=fun k c st'=>c=(none,())∧Bs κ a₀ st'∧Pre lo (arrOf st) (arrOf st')∧AL st'=AL st∧SIn key (arrOf st') lo (min k n))
  (Q:=fun c st'=>c=(none,())∧Bs κ a₀ st'∧Pre lo (arrOf st) (arrOf st')∧AL st'=AL st∧SIn key (arrOf st') lo n) ?step ?fin ?init) ?post)
 case post=>
  rintro c st' ⟨rfl,hB',hp,hpe,hs'⟩
  exact Aq (h st' hB' hp hpe hs')
 case init=>
  refine⟨rfl,hB,.refl,rfl,fun i j hij hj=>?_⟩
  by_cases h1:ok=0
  . have:i=j:=by omega
    subst this;exact Cg _
  . exact hs i j hij (by omega)
 case fin=>
  rintro c st' ⟨hc,hB',hp,hpe,hs'⟩
  refine⟨hc,hB',hp,hpe,?_⟩
  rwa [show min (max (max ok 1) n) n=n by omega]at hs'
 case step=>
  rintro k c st' hak hkn ⟨rfl,hB',hp,hpe,hs'⟩
  rw[show min k n=k by omega]at hs'
  have hk:lo+k<a₀.size:=by omega
  refine Ao (CH (Bu (I:=fun x c st''=>st''=st'∧∃l r,c=(none,l,r)∧l≤r∧r≤k∧r-l≤k-x ∧
   (∀i,i<l→kk key (arrOf st') (lo+i)≤kk key (arrOf st') (lo+k))∧(∀i,r≤i→i<k→kk key (arrOf st') (lo+k)<kk key (arrOf st') (lo+i)))
   (Q:=fun c st''=>st''=st'∧∃l r,c=(none,l,r)∧l≤k ∧
    (∀i,i<l→kk key (arrOf st') (lo+i)≤kk key (arrOf st') (lo+k))∧(∀i,l≤i→i<k→kk key (arrOf st') (lo+k)<kk key (arrOf st') (lo+i))) ?istep ?ifin ?iinit) ?ipost)
  case iinit=>exact⟨rfl,0,k,rfl,by omega,by omega,by omega,fun i hi=>by omega,fun i h1 h2=>by omega⟩
  case ifin=>
   rintro c st'' ⟨rfl,l,r,rfl,hlr,hrk,hm,hlo,hhi⟩
   have:l=r:=by omega
   subst this
   exact⟨rfl,l,l,rfl,hrk,hlo,hhi⟩
  case istep=>
   rintro x c st'' _ hxk ⟨rfl,l,r,rfl,hlr,hrk,hm,hlo,hhi⟩
   dsimp only
   by_cases hge:l ≥ r
   . rw[if_pos hge]
     have:l=r:=by omega
     subst this
     exact Aq ⟨rfl,l,l,rfl,hrk,hlo,hhi⟩
   . rw[if_neg hge]
     refine Ao (nt L hB' hk (by omega) ?_)
     by_cases hless:kk key (arrOf st'') (lo+k)<kk key (arrOf st'') (lo+(l+r)/2)
     . simp only[hless,decide_true,if_true]
       refine Aq ⟨rfl,l,(l+r)/2,rfl,by omega,by omega,by omega,hlo,fun i h1 h2=>?_⟩
       exact Int.lt_of_lt_of_le hless (hs' _ _ h1 h2)
     . simp only[hless,decide_false,AU,if_false]
       refine Aq ⟨rfl,(l+r)/2+1,r,rfl,by omega,by omega,by omega,fun i h1=>?_,hhi⟩
       exact A0 (hs' i ((l+r)/2) (by omega) (by omega)) (G3.mp hless)
  case ipost=>
   rintro c st'' ⟨rfl,l,r,rfl,hlk,hlo,hhi⟩
   show wpS _ _ _ _ (do moveDown' (lo+k) (lo+l);pure (CG (none,()))) _ _
   rw[moveDown'_eq]
   have hks:lo+k<(arrOf st'').size:=by rw[hB'.size];exact hk
   refine Ao (Cw (Aq ⟨rfl,hB'.set (bubble_perm _ _ _),hp.trans fun i hi=>?_,hpe,?_⟩))
   . show (bubble (arrOf st'') (lo+k) (lo+k-(lo+l)))[i]?=_
     rw[getElem?_bubble hks _ (by omega),if_neg (by omega),if_neg (by omega)]
   rw[show min (k+1) n=k+1 by omega]
   intro i j hij hj
   show kk key (bubble (arrOf st'') (lo+k) (lo+k-(lo+l))) (lo+i)≤kk key (bubble (arrOf st'') (lo+k) (lo+k-(lo+l))) (lo+j)
   rw[qa hks (by omega),qa hks (by omega),show lo+k-(lo+k-(lo+l))=lo+l by omega]
   have e1:lo+i-1=lo+(i-1)∨i=0:=by omega
   have e2:lo+j-1=lo+(j-1)∨j=0:=by omega
   repeat' split
   all_goals first
    |(exfalso;omega)
    |exact Cg _
    |(rcases e1 with e1|e1<;>rcases e2 with e2|e2<;>first|(exfalso;omega)|(simp only[e1,e2];first|exact Cg _|exact hlo _ (by omega)|exact EA (hhi _ (by omega) (by omega))|exact hs' _ _ (by omega) (by omega)))
    |exact hlo _ (by omega)
    |exact EA (hhi _ (by omega) (by omega))
    |exact hs' _ _ (by omega) (by omega)
end
end L2.Tim
end
section
namespace L2.Tim
open PySem PySem.W PySem.Calls PyProof PyProof.Rows
section
variable {prog:Program}{w:World}{A:Around}{E:Value→Shared→Prop}{s:Shared}{κ:Dz}{a₀:Array Keyed}{key:Keyed→Int}
def Dis(key:Keyed→Int)(a₀:Array Keyed):Prop:=∀a:Array Keyed,a.Perm a₀→∀i j,i<a₀.size→j<a₀.size→i≠j→kk key a i≠kk key a j
theorem dE(L:sI prog w A E s κ a₀ key)(D:Dis key a₀){st:SortSt}{lo nrem:Nat}{Q:Option Nat→SortSt→Prop}(hn:lo+nrem≤a₀.size)(h1:1≤nrem)(hB:Bs κ a₀ st)
 (h:∀m st',Bs κ a₀ st'→Pre lo (arrOf st) (arrOf st')→AL st'=AL st→1≤m→m≤nrem→SIn key (arrOf st') lo m→Q (some m) st') :
 wpS (model prog w) A E s (countRun' lo nrem) Q st:=by
 rw[countRun'_eq]
 have asc:∀(a:Nat) (st1:SortSt) (Q':Option (Option Nat) × Nat→SortSt→Prop) (body:Nat→Option (Option Nat) × Nat→StateT SortSt Sem (ForInStep (Option (Option Nat) × Nat))),1≤a→a≤nrem→Bs κ a₀ st1→SIn key (arrOf st1) lo a →
  (∀i c,body i c=(do
   let __x ←ltAt' (lo+c.snd) (lo+c.snd-1)
   match __x with
   |some smaller=>if smaller=true then pure (ForInStep.done (none,c.snd)) else pure (CG (none,c.snd+1))
   |_=>pure (ForInStep.done (some none,c.snd)))) →
  (∀n,a≤n→n≤nrem→SIn key (arrOf st1) lo n→(n=nrem∨kk key (arrOf st1) (lo+n)<kk key (arrOf st1) (lo+n-1))→Q' (none,n) st1) →
  wpS (model prog w) A E s (forIn [a:nrem] ((none,a):Option (Option Nat) × Nat) body) Q' st1:=by
  intro a st1 Q' body ha han hB1 hs1 hb hq
  refine Bu (I:=fun x c st'=>st'=st1∧c=(none,x)∧SIn key (arrOf st1) lo x) ?step ?fin ⟨rfl,rfl,hs1⟩
  case fin=>
   rintro c st' ⟨rfl,rfl,hs'⟩
   rw[show max a nrem=nrem by omega]at hs' ⊢
   exact hq nrem han (Ai _) hs' (.inl rfl)
  case step=>
   rintro x c st' hax hxn ⟨rfl,rfl,hs'⟩
   rw[hb]
   dsimp only
   refine Ao (nt L hB1 (by omega) (by omega) ?_)
   by_cases hless:kk key (arrOf st') (lo+x)<kk key (arrOf st') (lo+x-1)
   . simp only[hless,decide_true,if_true]
     exact Aq (hq x hax (by omega) hs' (.inr hless))
   . simp only[hless,decide_false,AU,if_false]
     refine Aq ⟨rfl,rfl,fun i j hij hj=>?_⟩
     by_cases hjx:j<x
     . exact hs' i j hij hjx
     . have hj':j=x:=by omega
       subst hj'
       by_cases hi':i=j
       . subst hi';exact Cg _
       . rw[show lo+j-1=lo+(j-1) by omega]at hless
         exact A0 (hs' i (j-1) (by omega) (by omega)) (G3.mp hless)
 refine Ao (asc 1 st _ _ (Ai _) h1 hB (fun i j hij hj=>by cases (show i=j by omega);exact Cg _) (fun i c=>rfl) fun n hn1 hn2 hsn hor=>?_)
 dsimp only
 by_cases hnn:n=nrem
 . rw[if_pos (by simpa using hnn)]
   exact Aq (h n st hB .refl rfl hn1 hn2 hsn)
 . rw[if_neg (by simpa using hnn)]
   have hlt:kk key (arrOf st) (lo+n)<kk key (arrOf st) (lo+n-1):=hor.resolve_left hnn
   by_cases hgt:n > 1
   . rw[if_pos hgt]
     refine Ao (nt L hB (by omega) (by omega) ?_)
     have hrose:kk key (arrOf st) lo<kk key (arrOf st) (lo+n-1):=by
      have a1:=hsn 0 (n-1) (by omega) (by omega)
      rw[CI,show lo+(n-1)=lo+n-1 by omega]at a1
      have a2:=D _ hB.perm lo (lo+n-1) (by omega) (by omega) (by omega)
      omega
     simp only[hrose,decide_true,if_true]
     exact Aq (h n st hB .refl rfl hn1 hn2 hsn)
   . rw[if_neg hgt]
     have hn1':n=1:=by omega
     subst hn1'
     refine Ao (FE (Cv ⟨rfl,?_⟩))
     refine Ao (CH (Bu (I:=fun x c st'=>st'=st∧c=(none,x,0)∧NIn key (arrOf st) lo x) (Q:=fun c st'=>st'=st∧∃m,2≤m∧m≤nrem∧c=(none,m,0)∧NIn key (arrOf st) lo m) ?step ?fin ⟨rfl,rfl,?_⟩) ?post)
     case fin=>
      rintro c st' ⟨rfl,rfl,hs'⟩
      exact⟨rfl,max (1+1) nrem,by omega,by omega,rfl,hs'⟩
     case step=>
      rintro x c st' hax hxn ⟨rfl,rfl,hs'⟩
      dsimp only
      refine Ao (nt L hB (by omega) (by omega) ?_)
      by_cases hless:kk key (arrOf st') (lo+x)<kk key (arrOf st') (lo+x-1)
      . simp only[hless,decide_true,if_true]
        rw[if_neg (by omega)]
        refine Aq ⟨rfl,rfl,fun i j hij hj=>?_⟩
        by_cases hjx:j<x
        . exact hs' i j hij hjx
        . have hj':j=x:=by omega
          subst hj'
          by_cases hi':i=j
          . subst hi';exact Cg _
          . rw[show lo+j-1=lo+(j-1) by omega]at hless
            exact A0 (EA hless) (hs' i (j-1) (by omega) (by omega))
      . simp only[hless,decide_false,AU,if_false]
        refine Ao (nt L hB (by omega) (by omega) ?_)
        have hl:kk key (arrOf st') (lo+x-1)<kk key (arrOf st') (lo+x):=by
         have:=D _ hB.perm (lo+x) (lo+x-1) (by omega) (by omega) (by omega)
         omega
        simp only[hl,decide_true,if_true]
        exact Aq ⟨rfl,x,by omega,by omega,rfl,hs'⟩
     . intro i j hij hj
       by_cases hi':i=j
       . subst hi';exact Cg _
       . have hi0:i=0:=by omega
         have hj1:j=1:=by omega
         subst hi0;subst hj1
         rw[show lo+1-1=lo+0 by omega]at hlt
         exact EA hlt
     case post=>
      rintro c st' ⟨rfl,m,hm2,hmn,rfl,hs'⟩
      dsimp only
      rw[if_neg (by omega)]
      refine Ao (Xf ?_)
      have hsz:lo+m≤(arrOf st').size:=by rw[hB.size];omega
      have hB':=hB.set (mirror_perm (arrOf st') lo (lo+m) ((lo+m-lo)/2))
      refine Ao (asc m _ _ _ (by omega) hmn hB' ?_ (fun i c=>rfl) fun k hk1 hk2 hsk _=>?_)
      . intro i j hij hj
        show kk key (mirror (arrOf st') lo (lo+m) ((lo+m-lo)/2)) (lo+i)≤kk key (mirror (arrOf st') lo (lo+m) ((lo+m-lo)/2)) (lo+j)
        rw[qb hsz,qb hsz,if_pos (by omega),if_pos (by omega)]
        have:=hs' (m-1-j) (m-1-i) (by omega) (by omega)
        rwa [show lo+(m-1-j)=lo+(lo+m)-1-(lo+j) by omega,show lo+(m-1-i)=lo+(lo+m)-1-(lo+i) by omega]at this
      . exact Aq (h k _ hB' (mw hsz (Ai _)) rfl (by omega) hk2 hsk)
end
end L2.Tim
end
section
namespace L2.Tim
open PySem PySem.W PySem.Calls PyProof PyProof.Rows
section
variable {prog:Program}{w:World}{A:Around}{E:Value→Shared→Prop}{s:Shared}{κ:Dz}{a₀:Array Keyed}{key:Keyed→Int}
noncomputable def kB:Bool→Keyed→Array Keyed→Nat→Nat→Nat→StateT SortSt Sem (Option Nat):=sortPriv% PySem.Builtin.gallop
def Cut(a₀:Array Keyed)(key:Keyed→Int)(left:Bool)(x:Keyed)(arr:Array Keyed)(base n k0:Nat):Prop:=
 ∀i,i<n→∃y,arr[base+i]?=some y∧y∈a₀.toList∧(if left=true then decide (key y<key x) else !decide (key x<key y))=decide (i<k0)
theorem wb(L:sI prog w A E s κ a₀ key){left:Bool}{x:Keyed}{arr:Array Keyed}{base n k0 i:Nat}(hc:Cut a₀ key left x arr base n k0)(hx:x∈a₀.toList){st:SortSt}(hk:kindOf st=κ)(hi:i<n){Q:Option Bool→SortSt→Prop}(h:Q (some (decide (i<k0))) st)
 {m:StateT SortSt Sem (Option Bool)} (hm:m=(elem' arr (base+i) >>= fun y=>if left=true then lt' y x else lt' x y >>= fun r=>pure (r.map (!·)))):wpS (model prog w) A E s m Q st:=by
 obtain⟨y,e1,e2,e3⟩:=hc i hi
 rw[hm]
 refine Ao (zg e1 ?_)
 cases left with
 |true=>
  rw[if_pos rfl]at e3 ⊢
  refine L y x st _ e2 hx hk ?_
  rw[e3];exact h
 |false=>
  rw[if_neg An]at e3 ⊢
  refine Ao (L x y st _ hx e2 hk (Aq ?_))
  show Q (some (!decide (key x<key y))) st
  rw[e3];exact h
theorem qx{n k0:Nat}{st:SortSt}{body:Nat→Option (Option Nat) × Nat × Nat→StateT SortSt Sem (ForInStep (Option (Option Nat) × Nat × Nat))}
 (h1:∀i lo hi (Q':ForInStep (Option (Option Nat) × Nat × Nat)→SortSt→Prop),lo ≥ hi→Q' (.done (none,lo,hi)) st→wpS (model prog w) A E s (body i (none,lo,hi)) Q' st)
 (h2:∀i lo hi (Q':ForInStep (Option (Option Nat) × Nat × Nat)→SortSt→Prop),lo<hi→hi≤n→Q' (if lo+(hi-lo)/2<k0 then .yield (none,lo+(hi-lo)/2+1,hi) else .yield (none,lo,lo+(hi-lo)/2)) st→wpS (model prog w) A E s (body i (none,lo,hi)) Q' st)
 {lo hi:Nat} (a1:lo≤k0) (a2:k0≤hi) (a3:hi≤n) {Q:Option (Option Nat) × Nat × Nat→SortSt→Prop} (q:∀l,Q (none,l,k0) st):wpS (model prog w) A E s (forIn [:n] ((none,lo,hi):Option (Option Nat) × Nat × Nat) body) Q st:=by
 refine Bu (I:=fun x c st'=>st'=st∧∃lo hi,c=(none,lo,hi)∧lo≤k0∧k0≤hi∧hi≤n∧hi-lo≤n-x) ?step ?fin ⟨rfl,lo,hi,rfl,a1,a2,a3,by omega⟩
 case fin=>
  rintro c st' ⟨rfl,lo,hi,rfl,b1,b2,b3,b4⟩
  have:hi=k0:=by omega
  subst this;exact q lo
 case step=>
  rintro x c st' _ hx ⟨rfl,lo,hi,rfl,b1,b2,b3,b4⟩
  by_cases hge:lo ≥ hi
  . refine h1 x lo hi _ hge ?_
    have:hi=k0:=by omega
    subst this;exact q lo
  . refine h2 x lo hi _ (by omega) b3 ?_
    by_cases hm:lo+(hi-lo)/2<k0
    . rw[if_pos hm]
      exact⟨rfl,_,_,rfl,by omega,by omega,by omega,by omega⟩
    . rw[if_neg hm]
      exact⟨rfl,_,_,rfl,by omega,by omega,by omega,by omega⟩
theorem xu(L:sI prog w A E s κ a₀ key){left:Bool}{x:Keyed}{arr:Array Keyed}{base n hint k0:Nat}(hh:hint<n)(h0:k0≤n)(hc:Cut a₀ key left x arr base n k0)(hx:x∈a₀.toList){st:SortSt}(hk:kindOf st=κ){Q:Option Nat→SortSt→Prop}(h:Q (some k0) st) :
 wpS (model prog w) A E s (kB left x arr base n hint) Q st:=by
 unfold kB
 refine Ao (wb L hc hx hk hh ?_ rfl)
 by_cases hr:hint<k0
 . rw[decide_eq_true hr]
   dsimp only
   rw[if_pos rfl]
   refine Ao (CH (Bu (I:=fun y c st'=>st'=st∧∃la o,c=(none,la,o)∧la<o∧hint+la<k0∧y<o) (Q:=fun c st'=>st'=st∧∃la o,c=(none,la,o)∧hint+la<k0∧k0≤hint+min o (n-hint)) ?step ?fin ⟨rfl,0,1,rfl,by omega,by omega,by omega⟩) ?post)
   case fin=>
    rintro c st' ⟨rfl,la,o,rfl,b1,b2,b3⟩
    exact⟨rfl,la,o,rfl,b2,by omega⟩
   case step=>
    rintro y c st' _ hy ⟨rfl,la,o,rfl,b1,b2,b3⟩
    dsimp only
    by_cases hge:o ≥ n-hint
    . rw[if_pos hge]
      exact Aq ⟨rfl,la,o,rfl,b2,by omega⟩
    . rw[if_neg hge]
      refine Ao (wb L hc hx hk (show hint+o<n by omega) ?_ rfl)
      by_cases hm:hint+o<k0
      . rw[decide_eq_true hm]
        dsimp only
        rw[if_neg (by simp)]
        exact Aq ⟨rfl,o,2*o+1,rfl,by omega,hm,by omega⟩
      . rw[decide_eq_false hm]
        dsimp only
        rw[if_pos (by simp)]
        exact Aq ⟨rfl,la,o,rfl,b2,by omega⟩
   case post=>
    rintro c st' ⟨rfl,la,o,rfl,b1,b2⟩
    dsimp only
    refine Ao (qx (n:=n) (k0:=k0) (fun i lo hi Q' hge q=>?_) (fun i lo hi Q' hl hn q=>?_) (by omega) b2 (by omega) fun l=>Aq h)
    . dsimp only
      rw[if_pos hge]
      exact Aq q
    . dsimp only
      rw[if_neg (by omega)]
      refine Ao (wb L hc hx hk (show lo+(hi-lo)/2<n by omega) ?_ rfl)
      by_cases hm:lo+(hi-lo)/2<k0
      . rw[decide_eq_true hm];rw[if_pos hm]at q
        dsimp only
        rw[if_pos rfl];exact Aq q
      . rw[decide_eq_false hm];rw[if_neg hm]at q
        dsimp only
        rw[if_neg An];exact Aq q
 . rw[decide_eq_false hr]
   dsimp only
   rw[if_neg An]
   refine Ao (CH (Bu (I:=fun y c st'=>st'=st∧∃la o,c=(none,la,o)∧la<o∧k0≤hint-la∧y<o∧la≤hint) (Q:=fun c st'=>st'=st∧∃la o,c=(none,la,o)∧k0≤hint-la∧hint+1-min o (hint+1)≤k0) ?step ?fin ⟨rfl,0,1,rfl,by omega,by omega,by omega,by omega⟩) ?post)
   case fin=>
    rintro c st' ⟨rfl,la,o,rfl,b1,b2,b3,b4⟩
    exact⟨rfl,la,o,rfl,b2,by omega⟩
   case step=>
    rintro y c st' _ hy ⟨rfl,la,o,rfl,b1,b2,b3,b4⟩
    dsimp only
    by_cases hge:o ≥ hint+1
    . rw[if_pos hge]
      exact Aq ⟨rfl,la,o,rfl,b2,by omega⟩
    . rw[if_neg hge]
      refine Ao (wb L hc hx hk (show hint-o<n by omega) ?_ rfl)
      by_cases hm:hint-o<k0
      . rw[decide_eq_true hm]
        dsimp only
        rw[if_pos rfl]
        exact Aq ⟨rfl,la,o,rfl,b2,by omega⟩
      . rw[decide_eq_false hm]
        dsimp only
        rw[if_neg An]
        exact Aq ⟨rfl,o,2*o+1,rfl,by omega,by omega,by omega,by omega⟩
   case post=>
    rintro c st' ⟨rfl,la,o,rfl,b1,b2⟩
    dsimp only
    refine Ao (qx (n:=n) (k0:=k0) (fun i lo hi Q' hge q=>?_) (fun i lo hi Q' hl hn q=>?_) b2 b1 (by omega) fun l=>Aq h)
    . dsimp only
      rw[if_pos hge]
      exact Aq q
    . dsimp only
      rw[if_neg (by omega)]
      refine Ao (wb L hc hx hk (show lo+(hi-lo)/2<n by omega) ?_ rfl)
      by_cases hm:lo+(hi-lo)/2<k0
      . rw[decide_eq_true hm];rw[if_pos hm]at q
        dsimp only
        rw[if_pos rfl];exact Aq q
      . rw[decide_eq_false hm];rw[if_neg hm]at q
        dsimp only
        rw[if_neg An];exact Aq q
end
end L2.Tim
end
section
namespace L2.Tim
open PySem PySem.W PySem.Calls PyProof PyProof.Rows
section
variable {prog:Program}{w:World}{A:Around}{E:Value→Shared→Prop}{s:Shared}{κ:Dz}{a₀:Array Keyed}{key:Keyed→Int}
def Srt(key:Keyed→Int)(l:List Keyed):Prop:=l.Pairwise fun x y=>key x≤key y
theorem oG{o p q r:List Keyed}(h1:Srt key (o++(p++q)))(h2:Srt key (o++r))(h:∀u∈p,∀v∈r,key u≤key v):Srt key ((o++p)++r):=by
 unfold Srt at *
 rw[Dp]at h1 h2 ⊢
 have h3:=Dp.mp h1.2.1
 refine⟨Dp.mpr ⟨h1.1,h3.1,fun a ha b hb=>h1.2.2 a ha b (BC _ hb)⟩,h2.2.1,fun a ha b hb=>?_⟩
 rcases A3.mp ha with ha|ha
 . exact h2.2.2 a ha b hb
 . exact h a ha b hb
structure Mg(key:Keyed→Int)(X Y:List Keyed)(out:Array Keyed)(ia ib:Nat):Prop where
 sx:Srt key (out.toList++X.drop ia)
 sy:Srt key (out.toList++Y.drop ib)
 pm:out.toList.Perm (X.take ia++Y.take ib)
theorem Mg.qj{X Y:List Keyed}{out:Array Keyed}{ia ib:Nat}{y:Keyed}(h:Mg key X Y out ia ib)(hy:Y[ib]?=some y)(hx:∀u∈X.drop ia,key y≤key u):Mg key X Y (out.push y) ia (ib+1):=by
 obtain⟨hlt,e⟩:=Ap.mp hy
 have ed:Y.drop ib=[y]++Y.drop (ib+1):=by rw[Bm hlt,e];rfl
 have et:Y.take (ib+1)=Y.take ib++[y]:=by rw[EI,hy];rfl
 have sy:=h.sy
 rw[ed]at sy
 refine⟨?_,?_,?_⟩
 . rw[Dk]
   exact oG sy h.sx fun u hu v hv=>by rw[A1.mp hu];exact hx v hv
 . rw[Dk,Ar];exact sy
 . rw[Dk,et,←Ar]
   exact h.pm.append_right _
theorem Mg.qf{X Y:List Keyed}{out:Array Keyed}{ia ib k:Nat}{mid:List Keyed}(h:Mg key X Y out ia ib)(hm:X.drop ia=mid++X.drop (ia+k))(ht:X.take (ia+k)=X.take ia++mid)(hle:∀u∈mid,∀v∈Y.drop ib,key u≤key v){out':Array Keyed}(ho:out'.toList=out.toList++mid):Mg key X Y out' (ia+k) ib:=by
 have sx:=h.sx
 rw[hm]at sx
 refine⟨?_,?_,?_⟩
 . rw[ho,Ar];exact sx
 . rw[ho];exact oG sx h.sy hle
 . rw[ho,ht]
   refine(h.pm.append_right mid).trans ?_
   rw[Ar,Ar]
   exact(DU).append_left _
theorem Mg.nC{X Y:List Keyed}{out:Array Keyed}{ia ib k:Nat}{mid:List Keyed}(h:Mg key X Y out ia ib)(hm:Y.drop ib=mid++Y.drop (ib+k))(ht:Y.take (ib+k)=Y.take ib++mid)(hle:∀u∈mid,∀v∈X.drop ia,key u≤key v){out':Array Keyed}(ho:out'.toList=out.toList++mid):Mg key X Y out' ia (ib+k):=by
 have sy:=h.sy
 rw[hm]at sy
 refine⟨?_,?_,?_⟩
 . rw[ho];exact oG sy h.sx hle
 . rw[ho,Ar];exact sy
 . rw[ho,ht,←Ar]
   exact h.pm.append_right mid
theorem Mg.pushX{X Y:List Keyed}{out:Array Keyed}{ia ib:Nat}{x:Keyed}(h:Mg key X Y out ia ib)(hx:X[ia]?=some x)(hy:∀u∈Y.drop ib,key x≤key u):Mg key X Y (out.push x) (ia+1) ib:=by
 obtain⟨hlt,e⟩:=Ap.mp hx
 refine h.qf (mid:=[x]) (by rw[Bm hlt,e];rfl) (by rw[EI,hx];rfl) (fun u hu v hv=>by rw[A1.mp hu];exact hy v hv) (Dk)
structure Res(key:Keyed→Int)(X Y:List Keyed)(r:Array Keyed):Prop where
 srt:Srt key r.toList
 perm:r.toList.Perm (X++Y)
theorem Mg.tp{X Y:List Keyed}{out r:Array Keyed}{ia ib:Nat}(h:Mg key X Y out ia ib)(hb:Y.length≤ib)(hr:r.toList=out.toList++X.drop ia):Res key X Y r:=by
 refine⟨by rw[hr];exact h.sx,?_⟩
 have:=h.pm
 rw[BJ hb]at this
 rw[hr]
 refine(this.append_right _).trans ?_
 rw[Ar]
 refine(DU.append_left _).trans ?_
 rw[←Ar,Ba]
theorem Mg.rq{X Y:List Keyed}{out r:Array Keyed}{ia ib:Nat}(h:Mg key X Y out ia ib)(hl:∀u∈Y,∀v∈X.drop ia,key u≤key v)(hr:r.toList=out.toList++Y.drop ib++X.drop ia):Res key X Y r:=by
 have m:=h.nC (k:=Y.length) (mid:=Y.drop ib) (by rw[B3 (show Y.length≤ib+Y.length by omega),AZ]) (by rw[BJ (by omega),Ba]) (fun u hu v hv=>hl u (BF hu) v hv) (out':=(out.toList++Y.drop ib).toArray) rfl
 exact m.tp (by omega) hr
theorem xV{l:List Keyed}(h:Srt key l){i:Nat}{x:Keyed}(hx:l[i]?=some x):∀u∈l.drop i,key x≤key u:=fun u hu=>by
 obtain⟨hlt,e⟩:=Ap.mp hx
 rw[Bm hlt,e]at hu
 rcases AF.mp hu with rfl|hu
 . exact Cg _
 . obtain⟨j,hj,rfl⟩:=Bq hu
   rw[CL]
   rw[←e]
   rw[Cb]at hj
   exact BM.mp h i (i+1+j) hlt (by omega) (by omega)
theorem zZ{α:Type}{c:Prop} [Decidable c] {m1 m2:StateT SortSt Sem α}{Q:α→SortSt→Prop}{st:SortSt}(h1:c→wpS (model prog w) A E s m1 Q st)(h2:¬c→wpS (model prog w) A E s m2 Q st):wpS (model prog w) A E s (if c then m1 else m2) Q st:=by
 by_cases h:c
 . rw[if_pos h];exact h1 h
 . rw[if_neg h];exact h2 h
structure Sm(st st':SortSt):Prop where
 kind:kindOf st'=kindOf st
 arr:arrOf st'=arrOf st
 pend:AL st'=AL st
 fail:Ez st'=Ez st
theorem Sm.refl{st:SortSt}:Sm st st:=⟨rfl,rfl,rfl,rfl⟩
theorem Sm.trans{a b c:SortSt}(h:Sm a b)(k:Sm b c):Sm a c:=⟨k.kind.trans h.kind,k.arr.trans h.arr,k.pend.trans h.pend,k.fail.trans h.fail⟩
theorem Mg.X0{X Y:List Keyed}{out r:Array Keyed}{ia ib:Nat}(h:Mg key X Y out ia ib)(hb:X.length≤ia)(hr:r.toList=out.toList++Y.drop ib):Res key X Y r:=by
 refine⟨by rw[hr];exact h.sy,?_⟩
 have:=h.pm
 rw[BJ hb]at this
 rw[hr]
 refine(this.append_right _).trans ?_
 rw[Ar,Ba]
theorem vR{a:Array Keyed}{i:Nat}:(a.extract i).toList=a.toList.drop i:=by
 rw[Dq,CB]
 exact BJ (by rw[Cb,AD];exact Ai _)
theorem pP{a:Array Keyed}{i k:Nat}:(a.extract i (i+k)).toList=(a.toList.drop i).take k:=by
 rw[Dq,CB,EK]
theorem vx{l:List Keyed}{i k:Nat}:l.drop i=(l.drop i).take k++l.drop (i+k):=by
 rw[←Du,Ba]
theorem Mg.Za{a b out:Array Keyed}{ia ib k:Nat}(h:Mg key a.toList b.toList out ia ib)(hle:∀u∈(a.toList.drop ia).take k,∀v∈b.toList.drop ib,key u≤key v):Mg key a.toList b.toList (out++a.extract ia (ia+k)) (ia+k) ib:=
 h.qf vx FX hle (by rw[A4,pP])
theorem Mg.Zb{a b out:Array Keyed}{ia ib k:Nat}(h:Mg key a.toList b.toList out ia ib)(hle:∀u∈(b.toList.drop ib).take k,∀v∈a.toList.drop ia,key u≤key v):Mg key a.toList b.toList (out++b.extract ib (ib+k)) ia (ib+k):=
 h.nC vx FX hle (by rw[A4,pP])
theorem oY(left:Bool)(x:Keyed):∀{l:List Keyed},Srt key l→∃k0,k0≤l.length∧∀i (hi:i<l.length),(if left=true then decide (key l[i]<key x) else !decide (key x<key l[i]))=decide (i<k0)
 |[],_=>⟨0,Ai _,fun i hi=>absurd hi (Nat.not_lt_zero _)⟩
 |y::t,h=>by
  unfold Srt at h
  rw[Bx]at h
  by_cases hp:(if left=true then decide (key y<key x) else !decide (key x<key y))=true
  . obtain⟨k0,h1,h2⟩:=oY left x (l:=t) h.2
    refine⟨k0+1,by rw[AE];omega,fun i hi=>?_⟩
    cases i with
    |zero=>rw[show decide (0<k0+1)=true from decide_eq_true (by omega)];exact hp
    |succ i=>
     rw[AE]at hi
     have:=h2 i (by omega)
     rw[List.getElem_cons_succ,this]
     exact decide_eq_decide.mpr (by omega)
  . refine⟨0,Bp _,fun i hi=>?_⟩
    rw[decide_eq_false (Nat.not_lt_zero _)]
    have hle:key y≤key (y::t)[i]:=by
     cases i with
     |zero=>exact Cg _
     |succ i=>
      rw[AE]at hi
      exact h.1 _ (BI _)
    cases left with
    |true=>
     simp only[if_true,decide_eq_true_eq]at hp ⊢
     exact decide_eq_false (by omega)
    |false=>
     simp only[AU,if_false,B5,decide_eq_false_iff_not]at hp ⊢
     rw[Bool.not_eq_false',decide_eq_true_eq]
     omega
theorem uH{left:Bool}{x:Keyed}{arr:Array Keyed}{base n:Nat}(hn:base+n≤arr.size)(hs:Srt key ((arr.toList.drop base).take n))(hm:∀u∈(arr.toList.drop base).take n,u∈a₀.toList) :
 ∃k0,k0≤n∧Cut a₀ key left x arr base n k0∧(∀u∈(arr.toList.drop base).take k0,key u≤key x)∧∀u∈((arr.toList.drop base).take n).drop k0,key x≤key u:=by
 have hl:((arr.toList.drop base).take n).length=n:=by rw[Bn,Cb,AD];omega
 obtain⟨k0,h1,h2⟩:=oY (key:=key) left x hs
 rw[hl]at h1
 have g:∀i (hi:i<((arr.toList.drop base).take n).length),arr[base+i]?=some ((arr.toList.drop base).take n)[i]:=fun i hi=>by
  rw[CM,CL,←BS,Aa]
 refine⟨k0,h1,fun i hi=>⟨((arr.toList.drop base).take n)[i]'(by omega),g i (by omega),hm _ (BI _),h2 i (by omega)⟩,fun u hu=>?_,fun u hu=>?_⟩
 . have e:(arr.toList.drop base).take k0=((arr.toList.drop base).take n).take k0:=by rw[DV,Em h1]
   rw[e]at hu
   obtain⟨i,hi,rfl⟩:=Bq hu
   rw[Bn]at hi
   rw[CM]
   have:=h2 i (by omega)
   rw[decide_eq_true (show i<k0 by omega)]at this
   cases left with
   |true=>simp only[if_true,decide_eq_true_eq]at this;omega
   |false=>simp only[AU,if_false,B5,decide_eq_false_iff_not]at this;omega
 . obtain⟨i,hi,rfl⟩:=Bq hu
   rw[Cb]at hi
   rw[CL]
   have:=h2 (k0+i) (by omega)
   rw[decide_eq_false (show ¬k0+i<k0 by omega)]at this
   cases left with
   |true=>simp only[if_true,decide_eq_false_iff_not]at this;omega
   |false=>simp only[AU,if_false,Bool.not_eq_false',decide_eq_true_eq]at this;omega
theorem oX{left:Bool}{x:Keyed}{arr:Array Keyed}{base:Nat}(hn:base≤arr.size)(hs:Srt key arr.toList)(hm:∀u∈arr.toList,u∈a₀.toList) :
 ∃k0,k0≤arr.size-base∧Cut a₀ key left x arr base (arr.size-base) k0∧(∀u∈(arr.toList.drop base).take k0,key u≤key x)∧∀u∈arr.toList.drop (base+k0),key x≤key u:=by
 have e:(arr.toList.drop base).take (arr.size-base)=arr.toList.drop base:=BJ (by rw[Cb,AD];exact Ai _)
 obtain⟨k0,h1,h2,h3,h4⟩:=uH (a₀:=a₀) (key:=key) (left:=left) (x:=x) (arr:=arr) (base:=base) (n:=arr.size-base) (by omega) (by rw[e];exact hs.sublist (F7 _ _)) (by rw[e];exact fun u hu=>hm u (BF hu))
 rw[e,Du]at h4
 exact⟨k0,h1,h2,h3,h4⟩
theorem yI{a:Array Keyed}{i:Nat}(h:i<a.size):a[i]?=some (a.getD i (Aj,Aj))∧a.toList[i]?=some (a.getD i (Aj,Aj))∧a.getD i (Aj,Aj)∈a.toList:=by
 have e:a.getD i (Aj,Aj)=a[i]:=by simp[Array.getD,h]
 rw[e]
 exact⟨by simp[h],by simp[h],by simp⟩
noncomputable def vm:Nat→StateT SortSt Sem Unit:=sortPriv% PySem.Builtin.setMinGallop
theorem kg{g:Nat}{st:SortSt}{Q:Unit→SortSt→Prop}(h:∀st2,Sm st st2→Q () st2):wpS (model prog w) A E s (vm g) Q st:=by
 unfold vm
 exact Cw (h _ ⟨rfl,rfl,rfl,rfl⟩)
noncomputable def oz:Array Keyed→Array Keyed→StateT SortSt Sem (Array Keyed):=sortPriv% PySem.Builtin.mergeLo
structure LoI(key:Keyed→Int)(a b:Array Keyed)(c:Option (Array Keyed))(out:Array Keyed)(ia ib x:Nat):Prop where
 no:c=none
 mg:Mg key a.toList b.toList out ia ib
 la:ia+1<a.size
 lb:ib<b.size
 lt:x≤ia+ib
theorem LoI.mono{a b out:Array Keyed}{c:Option (Array Keyed)}{ia ib x x':Nat}(h:LoI key a b c out ia ib x)(k:x'≤x):LoI key a b c out ia ib x':=⟨h.no,h.mg,h.la,h.lb,AB k h.lt⟩
inductive LoQ(key:Keyed→Int)(a b:Array Keyed)(c:Option (Array Keyed))(out:Array Keyed)(ia ib x:Nat):Prop where
 |res (r:Array Keyed) (h:c=some r) (hr:Res key a.toList b.toList r):LoQ key a b c out ia ib x
 |go (h:LoI key a b c out ia ib x):LoQ key a b c out ia ib x
theorem zt{i j:Nat}(h:(i == j)=true):i=j:=Cz h
theorem yz{i j:Nat}(h:¬(i == j)=true):i≠j:=fun e=>h (beq_iff_eq.mpr e)
theorem lt2{i k n:Nat}(h:k≤n-i)(h':i+1<n)(e:i+k+1≠n)(e':i+k≠n):i+k+1<n:=by omega
theorem lt3{i k n:Nat}(h:k≤n-i)(h':i<n)(e:i+k≠n):i+k<n:=by omega
theorem Ve(L:sI prog w A E s κ a₀ key){a b:Array Keyed}(ha:0<a.size)(hb:0<b.size)(ma:∀x∈a.toList,x∈a₀.toList)(mb:∀x∈b.toList,x∈a₀.toList)(sa:Srt key a.toList)(sb:Srt key b.toList)
 (h1:∀u∈a.toList,key (b.getD 0 (Aj,Aj))≤key u) (h2:∀u∈b.toList,key u≤key (a.getD (a.size-1) (Aj,Aj))) {st:SortSt} (hk:kindOf st=κ) {Q:Array Keyed→SortSt→Prop} (q:∀r st',Sm st st'→Res key a.toList b.toList r→Q r st') :
 wpS (model prog w) A E s (oz a b) Q st:=by
 have lastA:∀{i:Nat},i+1=a.size→∀u∈b.toList,∀v∈a.toList.drop i,key u≤key v:=fun{i} hi u hu v hv=>by
  have gl:=yI (show i<a.size by omega)
  have:a.toList.drop i=[a.getD i (Aj,Aj)]:=by
   obtain⟨hlt,e⟩:=Ap.mp gl.2.1
   rw[Bm hlt,e,B3 (by rw[AD];omega)]
  rw[this,A1]at hv
  rw[hv,show i=a.size-1 by omega]
  exact h2 u hu
 have endB:∀{out:Array Keyed} {i j:Nat},b.size≤j→(out++a.extract i++b.extract j).toList=out.toList++a.toList.drop i:=fun{out i j} hj=>by
  rw[A4,A4,vR,vR,B3 (show b.toList.length≤j by rw[AD];exact hj),AZ]
 have endA:∀{out:Array Keyed} {i j:Nat},(out++b.extract j++a.extract i).toList=out.toList++b.toList.drop j++a.toList.drop i:=fun{out i j}=>by
  rw[A4,A4,vR,vR]
 have tp:∀{out:Array Keyed} {i j:Nat},Mg key a.toList b.toList out i j→j=b.size→Res key a.toList b.toList (out++a.extract i++b.extract j):=fun{out i j} h e=>h.tp (by rw[AD,e];exact Ai _) (endB (BV e.symm))
 have endA0:∀{out:Array Keyed} {i j:Nat},i=a.size→(out++a.extract i++b.extract j).toList=out.toList++b.toList.drop j:=fun{out i j} hj=>by
  rw[A4,A4,vR,vR,B3 (show a.toList.length≤i by rw[AD,hj];exact Ai _),AZ]
 have gb0:=yI hb
 have J0:Mg key a.toList b.toList #[b.getD 0 (Aj,Aj)] 0 1:=by
  have:Mg key a.toList b.toList #[] 0 0:=⟨sa,sb,.refl _⟩
  exact this.qj gb0.2.1 h1
 unfold oz
 refine Ao (FE (Cv ⟨rfl,?_⟩))
 refine Ao (zg gb0.1 ?_)
 refine zZ (fun e1=>Aq (q _ _ .refl (tp J0 (zt e1)))) fun e1=>?_
 refine zZ (fun e2=>Aq (q _ _ .refl (J0.rq (lastA (zt e2)) endA))) fun e2=>?_
 refine Ao (wpS_get ?_)
 refine Ao (CH (Bu (I:=fun x c st'=>Sm st st'∧LoI key a b c.1 c.2.1 c.2.2.1 c.2.2.2.1 (x+1)) (Q:=fun c st'=>Sm st st'∧∃r,c.1=some r∧Res key a.toList b.toList r) ?step ?fin ⟨.refl,⟨rfl,J0,Cc ha (yz e2),Cc hb (yz e1),Ai _⟩⟩) ?post)
 case fin=>
  intro c st' h
  have h1:=h.2.la
  have h2:=h.2.lb
  have h3:=h.2.lt
  omega
 case post=>
  rintro ⟨c1,c⟩ st' ⟨hS,r,hr,hR⟩
  cases hr
  exact Aq (q r _ hS hR)
 case step=>
  intro x c st' _ hx ⟨hS,I⟩
  refine Ao (CH (Bu (I:=fun y c' st''=>Sm st st''∧LoI key a b c'.1 c'.2.1 c'.2.2.1 c'.2.2.2.1 (c.2.2.1+c.2.2.2.1+y)) (Q:=fun c' st''=>Sm st st''∧LoQ key a b c'.1 c'.2.1 c'.2.2.1 c'.2.2.2.1 (c.2.2.1+c.2.2.2.1+1)) ?istep ?ifin ⟨hS,⟨rfl,I.mg,I.la,I.lb,Ai _⟩⟩) ?ipost)
  case ifin=>exact fun c st'' h=>⟨h.1,.go (h.2.mono (Eh (AB ha (AB (Fb _ _) (Nat.le_max_right _ _))) _))⟩
  case istep=>
   intro y c' st'' _ hy ⟨hS2,I'⟩
   have gx:=yI (BP I'.la)
   have gy:=yI I'.lb
   refine Ao (zg gy.1 (Ao (zg gx.1 (Ao (L _ _ _ _ (mb _ gy.2.2) (ma _ gx.2.2) (hS2.kind.trans hk) ?_)))))
   refine zZ (fun hlt=>Ao (zg gy.1 ?_)) (fun hlt=>Ao (zg gx.1 ?_))
   . have J2:=I'.mg.qj gy.2.1 fun u hu=>A0 (EA (of_decide_eq_true hlt)) (xV sa gx.2.1 u hu)
     refine zZ (fun e3=>Aq ⟨hS2,.res _ rfl (tp J2 (zt e3))⟩) fun e3=>?_
     have I2:LoI key a b none _ _ _ (c.2.2.1+c.2.2.2.1+(y+1)):=⟨rfl,J2,I'.la,Cc I'.lb (yz e3),E6 I'.lt⟩
     exact zZ (fun _=>Aq ⟨hS2,.go (I2.mono (Eh (Fs 1 y) _))⟩) fun _=>Aq ⟨hS2,I2⟩
   . have J2:=I'.mg.pushX gx.2.1 fun u hu=>A0 (G3.mp (of_decide_eq_false (F8.mpr hlt))) (xV sb gy.2.1 u hu)
     refine zZ (fun e3=>Aq ⟨hS2,.res _ rfl (J2.rq (lastA (zt e3)) endA)⟩) fun e3=>?_
     have I2:LoI key a b none _ _ _ (c.2.2.1+c.2.2.2.1+(y+1)):=⟨rfl,J2,Cc I'.la (yz e3),I'.lb,AB (E6 I'.lt) (BV (Nat.add_right_comm _ _ 1))⟩
     exact zZ (fun _=>Aq ⟨hS2,.go (I2.mono (Eh (Fs 1 y) _))⟩) fun _=>Aq ⟨hS2,I2⟩
  case ipost=>
   rintro ⟨c1,c'⟩ st'' ⟨hS2,hQ⟩
   cases hQ with
   |res r hr hR=>cases hr;exact Aq ⟨hS2,r,rfl,hR⟩
   |go I'=>
    have hc:=I'.no
    cases hc
    refine Ao (FE (Cv ⟨rfl,?_⟩))
    refine Ao (CH (Bu (I:=fun y c1 st3=>Sm st st3∧LoI key a b c1.1 c1.2.1 c1.2.2.1 c1.2.2.2.1 (c.2.2.1+c.2.2.2.1+1)) (Q:=fun c1 st3=>Sm st st3∧LoQ key a b c1.1 c1.2.1 c1.2.2.1 c1.2.2.2.1 (c.2.2.1+c.2.2.2.1+1)) ?gstep (fun c st3 h=>⟨h.1,.go h.2⟩) ⟨hS2,⟨rfl,I'.mg,I'.la,I'.lb,I'.lt⟩⟩) ?gpost)
    case gpost=>
     rintro ⟨c2,c3⟩ st3 ⟨hS3,hQ⟩
     cases hQ with
     |res r hr hR=>cases hr;exact Aq ⟨hS3,r,rfl,hR⟩
     |go I3=>
      have hc:=I3.no
      cases hc
      exact Ao (Cw (Aq ⟨hS3.trans ⟨rfl,rfl,rfl,rfl⟩,⟨rfl,I3.mg,I3.la,I3.lb,AB (E6 I.lt) I3.lt⟩⟩))
    case gstep=>
     intro y c1 st1 _ hy ⟨Sm1,I1⟩
     have gy:=yI I1.lb
     have la:=I1.la
     extract_lets s1 out s2 ia s3 ib s4 mg s5 ac bc ib1 jp mg1
     refine have hjp:∀g st2,Sm st st2→wpS (model prog w) A E s (jp () g) _ st2:=?_;zZ (fun _=>hjp _ _ Sm1) fun _=>hjp _ _ Sm1
     intro g st0 Sm0
     refine Ao (kg fun st2 Sm2=>?_)
     have Sm':=Sm0.trans Sm2
     obtain⟨k,d1,d2,d3,d4⟩:=oX (a₀:=a₀) (key:=key) (left:=false) (x:=b.getD ib (Aj,Aj)) (arr:=a) (base:=ia) (DR (BP la)) sa ma
     refine Ao (zg gy.1 (Ao (xu L (Nat.sub_pos_of_lt (BP la)) d1 d2 (mb _ gy.2.2) (Sm'.kind.trans hk) ?_)))
     clear_value jp
     dsimp -zeta only
     extract_lets ak jp2 out1 ia1
     have J1:=I1.mg.Za (k:=k) fun u hu v hv=>A0 (d3 u hu) (xV sb gy.2.1 v hv)
     have gl:c.2.2.1+c.2.2.2.1+1≤ia+ib:=I1.lt
     refine have h2:∀out ia,Mg key a.toList b.toList out ia ib→ia+1<a.size→(∀u∈a.toList.drop ia,key (b.getD ib (Aj,Aj))≤key u)→c.2.2.1+c.2.2.2.1+1≤ia+ib→wpS (model prog w) A E s (jp2 () out ia) _ st2:=?_
      zZ (fun _=>zZ (fun e=>Aq ⟨Sm',.res _ rfl (J1.rq (lastA (zt e)) endA)⟩) fun e=>zZ (fun e'=>Aq ⟨Sm',.res _ rfl (J1.X0 (by rw[AD];exact BV (zt e').symm) (endA0 (zt e')))⟩) fun e'=>h2 _ _ J1 (lt2 d1 la (yz e) (yz e')) d4 (AB gl (Nat.add_le_add_right (Fb _ _) _)))
       fun hk=>h2 _ _ I1.mg la (by rw[DN hk]at d4;exact d4) gl
     intro out0 ia0 J la0 d5 gl0
     have J2:=J.qj gy.2.1 d5
     have gx:=yI (BP la0)
     refine Ao (zg gy.1 (zZ (fun e=>Aq ⟨Sm',.res _ rfl (tp J2 (zt e))⟩) fun e=>Ao (zg gx.1 ?_)))
     have lb1:ib+1<b.size:=Cc I1.lb (yz e)
     obtain⟨k1,c1,c2,c3,c4⟩:=oX (a₀:=a₀) (key:=key) (left:=true) (x:=a.getD ia0 (Aj,Aj)) (arr:=b) (base:=ib+1) (DR lb1) sb mb
     refine Ao (xu L (Nat.sub_pos_of_lt lb1) c1 c2 (ma _ gx.2.2) (Sm'.kind.trans hk) ?_)
     clear_value jp2
     dsimp -zeta only
     extract_lets bk ia3 jp3 out3 ib3
     have J3:=J2.Zb (k:=k1) fun u hu v hv=>A0 (c3 u hu) (xV sa gx.2.1 v hv)
     refine have h3:∀out ib',Mg key a.toList b.toList out ia0 ib'→ib'<b.size→(∀u∈b.toList.drop ib',key (a.getD ia0 (Aj,Aj))≤key u)→ib≤ib'→wpS (model prog w) A E s (jp3 () out ib') _ st2:=?_
      zZ (fun _=>zZ (fun e=>Aq ⟨Sm',.res _ rfl (tp J3 (zt e))⟩) fun e=>h3 _ _ J3 (lt3 c1 lb1 (yz e)) c4 (AB (EV _) (Fb _ _)))
       fun hk=>h3 _ _ J2 lb1 (by rw[DN hk]at c4;exact c4) (EV _)
     intro out4 ib4 J' lb4 d6 g4
     have J4:=J'.pushX gx.2.1 d6
     refine Ao (zg gx.1 (zZ (fun e=>Aq ⟨Sm',.res _ rfl (J4.rq (lastA (zt e)) endA)⟩) fun e=>?_))
     have I4:LoI key a b none _ _ _ (c.2.2.1+c.2.2.2.1+1):=⟨rfl,J4,Cc la0 (yz e),lb4,AB gl0 (Nat.add_le_add (EV _) g4)⟩
     exact zZ (fun _=>Aq ⟨Sm',.go I4⟩) fun _=>Aq ⟨Sm',I4⟩
end
end L2.Tim
end
section
namespace L2.Tim
open PySem PySem.W PySem.Calls PyProof PyProof.Rows
section
variable {prog:Program}{w:World}{A:Around}{E:Value→Shared→Prop}{s:Shared}{κ:Dz}{a₀:Array Keyed}{key:Keyed→Int}
structure Mh(key:Keyed→Int)(X Y:List Keyed)(out:Array Keyed)(na nb:Nat):Prop where
 sx:Srt key (X.take na++out.toList.reverse)
 sy:Srt key (Y.take nb++out.toList.reverse)
 pm:out.toList.reverse.Perm (X.drop na++Y.drop nb)
theorem nj{o p q r:List Keyed}(h1:Srt key ((p++q)++o))(h2:Srt key (r++o))(h:∀u∈r,∀v∈q,key u≤key v):Srt key (r++(q++o)):=by
 unfold Srt at *
 rw[Ar]at h1
 rw[Dp]at h1 h2 ⊢
 refine⟨h2.1,h1.2.1,fun a ha b hb=>?_⟩
 rcases A3.mp hb with hb|hb
 . exact h a ha b hb
 . exact h2.2.2 a ha b hb
theorem Mh.qf{X Y:List Keyed}{out out':Array Keyed}{na nb na':Nat}{mid:List Keyed}(h:Mh key X Y out na nb)(hm:X.take na=X.take na'++mid)(hd:X.drop na'=mid++X.drop na)(hle:∀u∈Y.take nb,∀v∈mid,key u≤key v)(ho:out'.toList.reverse=mid++out.toList.reverse):Mh key X Y out' na' nb:=by
 have sx:=h.sx
 rw[hm]at sx
 refine⟨?_,?_,?_⟩
 . rw[ho,←Ar];exact sx
 . rw[ho];exact nj sx h.sy hle
 . rw[ho,hd,Ar];exact h.pm.append_left _
theorem Mh.nC{X Y:List Keyed}{out out':Array Keyed}{na nb nb':Nat}{mid:List Keyed}(h:Mh key X Y out na nb)(hm:Y.take nb=Y.take nb'++mid)(hd:Y.drop nb'=mid++Y.drop nb)(hle:∀u∈X.take na,∀v∈mid,key u≤key v)(ho:out'.toList.reverse=mid++out.toList.reverse):Mh key X Y out' na nb':=by
 have sy:=h.sy
 rw[hm]at sy
 refine⟨?_,?_,?_⟩
 . rw[ho];exact nj sy h.sx hle
 . rw[ho,←Ar];exact sy
 . rw[ho,hd]
   refine(h.pm.append_left mid).trans ?_
   rw[←Ar,←Ar]
   exact DU.append_right _
theorem nW{out:Array Keyed}{x:Keyed}:(out.push x).toList.reverse=[x]++out.toList.reverse:=by
 rw[Dk,List.reverse_append];rfl
theorem vZ{X:List Keyed}{na:Nat}{x:Keyed}(h0:0<na)(hx:X[na-1]?=some x):X.take na=X.take (na-1)++[x]∧X.drop (na-1)=[x]++X.drop na:=by
 obtain⟨hlt,e⟩:=Ap.mp hx
 refine⟨?_,?_⟩
 . have:=EI (l:=X) (i:=na-1)
   rw[show na-1+1=na by omega,hx]at this
   exact this
 . rw[Bm hlt,e,show na-1+1=na by omega];rfl
theorem Mh.pushX{X Y:List Keyed}{out:Array Keyed}{na nb:Nat}{x:Keyed}(h:Mh key X Y out na nb)(h0:0<na)(hx:X[na-1]?=some x)(hle:∀u∈Y.take nb,key u≤key x):Mh key X Y (out.push x) (na-1) nb:=
 h.qf (vZ h0 hx).1 (vZ h0 hx).2 (fun u hu v hv=>by rw[A1.mp hv];exact hle u hu) nW
theorem Mh.qj{X Y:List Keyed}{out:Array Keyed}{na nb:Nat}{y:Keyed}(h:Mh key X Y out na nb)(h0:0<nb)(hy:Y[nb-1]?=some y)(hle:∀u∈X.take na,key u≤key y):Mh key X Y (out.push y) na (nb-1):=
 h.nC (vZ h0 hy).1 (vZ h0 hy).2 (fun u hu v hv=>by rw[A1.mp hv];exact hle u hu) nW
theorem lY{out a:Array Keyed}{i n:Nat}:(out++(a.extract i n).reverse).toList.reverse=(a.toList.take n).drop i++out.toList.reverse:=by
 rw[A4,D6,List.reverse_append,D7,Dq,CB,←GX]
theorem wC{X:List Keyed}{i n:Nat}(h:i≤n):X.take n=X.take i++(X.take n).drop i∧X.drop i=(X.take n).drop i++X.drop n:=by
 refine⟨?_,?_⟩
 . have:=(Ba i (X.take n)).symm
   rwa [DV,Em h]at this
 . have:X.drop n=(X.drop i).drop (n-i):=by rw[Du];congr 1;omega
   rw[GX,this,Ba]
theorem Mh.Za{a b out:Array Keyed}{na nb k:Nat}(h:Mh key a.toList b.toList out na nb)(hk:k≤na)(hle:∀u∈b.toList.take nb,∀v∈(a.toList.take na).drop k,key u≤key v):Mh key a.toList b.toList (out++(a.extract k na).reverse) k nb:=
 h.qf (wC hk).1 (wC hk).2 hle lY
theorem Mh.Zb{a b out:Array Keyed}{na nb k:Nat}(h:Mh key a.toList b.toList out na nb)(hk:k≤nb)(hle:∀u∈a.toList.take na,∀v∈(b.toList.take nb).drop k,key u≤key v):Mh key a.toList b.toList (out++(b.extract k nb).reverse) na k:=
 h.nC (wC hk).1 (wC hk).2 hle lY
theorem Mh.rq{X Y:List Keyed}{out r:Array Keyed}{na nb:Nat}(h:Mh key X Y out na nb)(h0:na=0)(hr:r.toList=Y.take nb++out.toList.reverse):Res key X Y r:=by
 subst h0
 refine⟨by rw[hr];exact h.sy,?_⟩
 rw[hr]
 refine(h.pm.append_left _).trans ?_
 rw[CA,←Ar]
 refine(DU.append_right _).trans ?_
 rw[Ar,Ba]
theorem Mh.X1{X Y:List Keyed}{out r:Array Keyed}{na nb:Nat}(h:Mh key X Y out na nb)(h0:nb=0)(hr:r.toList=X.take na++out.toList.reverse):Res key X Y r:=by
 subst h0
 refine⟨by rw[hr];exact h.sx,?_⟩
 rw[hr]
 refine(h.pm.append_left _).trans ?_
 rw[CA,←Ar,Ba]
theorem Mh.tp{X Y:List Keyed}{out r:Array Keyed}{na nb:Nat}(h:Mh key X Y out na nb)(hl:∀u∈Y.take nb,∀v∈X,key u≤key v)(hr:r.toList=Y.take nb++X.take na++out.toList.reverse):Res key X Y r:=by
 have m:=h.qf (na':=0) (mid:=X.take na) (by simp) (by rw[CA,Ba]) (fun u hu v hv=>hl u hu v (Be hv)) (out':=(X.take na++out.toList.reverse).reverse.toArray) (by simp)
 refine m.rq rfl ?_
 rw[hr];simp
theorem xW{l:List Keyed}(h:Srt key l){i:Nat}{x:Keyed}(hx:l[i]?=some x):∀u∈l.take (i+1),key u≤key x:=fun u hu=>by
 obtain⟨hlt,e⟩:=Ap.mp hx
 obtain⟨j,hj,rfl⟩:=Bq hu
 rw[Bn]at hj
 rw[CM,←e]
 by_cases hji:j=i
 . subst hji;exact Cg _
 . exact BM.mp h j i (by omega) hlt (by omega)
theorem wV{a:Array Keyed}{n:Nat}:(a.extract 0 n).toList=a.toList.take n:=by
 rw[Dq,CB,CA,Gk]
noncomputable def oy:Array Keyed→Array Keyed→StateT SortSt Sem (Array Keyed):=sortPriv% PySem.Builtin.mergeHi
theorem le0{m n:Nat}(h:0<m):m-1+n+(0+1)≤m+n:=by omega
theorem le1{m n y t:Nat}(h:0<m)(h':m+n+y≤t):m-1+n+(y+1)≤t:=by omega
theorem le2{m n y t:Nat}(h:1<n)(h':m+n+y≤t):m+(n-1)+(y+1)≤t:=by omega
theorem le3{m t x u:Nat}(h:m+1≤t)(h':t+(x+1)≤u):m+(x+1+1)≤u:=by omega
theorem le4{m n m' n' t:Nat}(h:m'≤m)(h':n'≤n-1)(g:m+n+1≤t):m'-1+n'+1≤t:=by omega
theorem gt1{n:Nat}(h:1<n)(h':n-1≠1):1<n-1:=by omega
theorem kW{l:List Keyed}{n:Nat}{u:Keyed}(h:0<n)(hu:u∈l.take n):u∈l.take (n-1+1):=by rwa [Nat.sub_add_cancel h]
structure HiI(key:Keyed→Int)(a b:Array Keyed)(c:Option (Array Keyed))(na nb:Nat)(out:Array Keyed)(x t:Nat):Prop where
 no:c=none
 mg:Mh key a.toList b.toList out na nb
 la:0<na
 lb:1<nb
 ua:na≤a.size
 ub:nb≤b.size
 lt:na+nb+x≤t
theorem HiI.mono{a b out:Array Keyed}{c:Option (Array Keyed)}{na nb x x' t:Nat}(h:HiI key a b c na nb out x t)(k:x'≤x):HiI key a b c na nb out x' t:=⟨h.no,h.mg,h.la,h.lb,h.ua,h.ub,AB (Eh k _) h.lt⟩
inductive HiQ(key:Keyed→Int)(a b:Array Keyed)(c:Option (Array Keyed))(na nb:Nat)(out:Array Keyed)(x t:Nat):Prop where
 |res (r:Array Keyed) (h:c=some r) (hr:Res key a.toList b.toList r):HiQ key a b c na nb out x t
 |go (h:HiI key a b c na nb out x t):HiQ key a b c na nb out x t
theorem Vd(L:sI prog w A E s κ a₀ key){a b:Array Keyed}(ha:0<a.size)(hb:0<b.size)(ma:∀x∈a.toList,x∈a₀.toList)(mb:∀x∈b.toList,x∈a₀.toList)(sa:Srt key a.toList)(sb:Srt key b.toList)
 (h1:∀u∈a.toList,key (b.getD 0 (Aj,Aj))≤key u) (h2:∀u∈b.toList,key u≤key (a.getD (a.size-1) (Aj,Aj))) {st:SortSt} (hk:kindOf st=κ) {Q:Array Keyed→SortSt→Prop} (q:∀r st',Sm st st'→Res key a.toList b.toList r→Q r st') :
 wpS (model prog w) A E s (oy a b) Q st:=by
 have gb0:=yI hb
 have firstB:∀{n:Nat},n≤1→∀u∈b.toList.take n,∀v∈a.toList,key u≤key v:=fun{n} hn u hu v hv=>by
  have hu:u∈b.toList.take 1:=Be (i:=n) (by rwa [DV,Em hn])
  have e:b.toList.take 1=[b.getD 0 (Aj,Aj)]:=by
   have:=EI (l:=b.toList) (i:=0)
   rw[gb0.2.1]at this
   exact this
  rw[e,A1]at hu
  rw[hu];exact h1 v hv
 have endA:∀{out:Array Keyed} {n m:Nat},n=0→(a.extract 0 n++b.extract 0 m++out.reverse).toList=b.toList.take m++out.toList.reverse:=fun{out n m} hn=>by
  subst hn
  rw[A4,A4,wV,wV,D6,List.take_zero,De]
 have endZ:∀{out:Array Keyed} {n m:Nat},m=0→(a.extract 0 n++b.extract 0 m++out.reverse).toList=a.toList.take n++out.toList.reverse:=fun{out n m} hn=>by
  subst hn
  rw[A4,A4,wV,wV,D6,List.take_zero,AZ]
 have endF:∀{out:Array Keyed} {n m:Nat},(b.extract 0 m++a.extract 0 n++out.reverse).toList=b.toList.take m++a.toList.take n++out.toList.reverse:=fun{out n m}=>by
  rw[A4,A4,wV,wV,D6]
 have ga0:=yI (show a.size-1<a.size by omega)
 have J0:Mh key a.toList b.toList #[a.getD (a.size-1) (Aj,Aj)] (a.size-1) b.size:=by
  have:Mh key a.toList b.toList #[] a.size b.size:=by
   have ea:a.toList.take a.size=a.toList:=BJ (by rw[AD];exact Ai _)
   have eb:b.toList.take b.size=b.toList:=BJ (by rw[AD];exact Ai _)
   refine⟨?_,?_,?_⟩
   . rw[ea];simpa using sa
   . rw[eb];simpa using sb
   . rw[B3 (by rw[AD];exact Ai _),B3 (by rw[AD];exact Ai _)];exact .refl _
  exact this.pushX ha ga0.2.1 fun u hu=>h2 u (Be hu)
 unfold oy
 refine Ao (FE (Cv ⟨rfl,?_⟩))
 refine Ao (zg ga0.1 ?_)
 refine zZ (fun e1=>Aq (q _ _ .refl (J0.rq (zt e1) (endA (zt e1))))) fun e1=>?_
 refine zZ (fun e2=>Aq (q _ _ .refl (J0.tp (firstB (BV (zt e2))) endF))) fun e2=>?_
 refine Ao (wpS_get ?_)
 refine Ao (CH (Bu (I:=fun x c st'=>Sm st st'∧HiI key a b c.1 c.2.1 c.2.2.1 c.2.2.2.1 (x+1) (a.size+b.size)) (Q:=fun c st'=>Sm st st'∧∃r,c.1=some r∧Res key a.toList b.toList r) ?step ?fin ⟨.refl,⟨rfl,J0,DJ (yz e1),Cc hb (yz e2).symm,Ge _ _,Ai _,le0 ha⟩⟩) ?post)
 case fin=>
  intro c st' h
  have h3:=h.2.lt
  omega
 case post=>
  rintro ⟨c1,c⟩ st' ⟨hS,r,hr,hR⟩
  cases hr
  exact Aq (q r _ hS hR)
 case step=>
  intro x c st' _ hx ⟨hS,I⟩
  refine Ao (CH (Bu (I:=fun y c' st''=>Sm st st''∧HiI key a b c'.1 c'.2.1 c'.2.2.1 c'.2.2.2.1 y (c.2.1+c.2.2.1)) (Q:=fun c' st''=>Sm st st''∧HiQ key a b c'.1 c'.2.1 c'.2.2.1 c'.2.2.2.1 1 (c.2.1+c.2.2.1)) ?istep ?ifin ⟨hS,⟨rfl,I.mg,I.la,I.lb,I.ua,I.ub,Ai _⟩⟩) ?ipost)
  case ifin=>exact fun c st'' h=>⟨h.1,.go (h.2.mono (AB ha (AB (Fb _ _) (Nat.le_max_right _ _))))⟩
  case istep=>
   intro y c' st'' _ hy ⟨hS2,I'⟩
   have gx:=yI (AS (Ft I'.la EW) I'.ua)
   have gy:=yI (AS (Ft (BP I'.lb) EW) I'.ub)
   refine Ao (zg gy.1 (Ao (zg gx.1 (Ao (L _ _ _ _ (mb _ gy.2.2) (ma _ gx.2.2) (hS2.kind.trans hk) ?_)))))
   refine zZ (fun hlt=>Ao (zg gx.1 ?_)) (fun hlt=>Ao (zg gy.1 ?_))
   . have J2:=I'.mg.pushX I'.la gx.2.1 fun u hu=>A0 (xW sb gy.2.1 u (kW (BP I'.lb) hu)) (EA (of_decide_eq_true hlt))
     refine zZ (fun e3=>Aq ⟨hS2,.res _ rfl (J2.rq (zt e3) (endA (zt e3)))⟩) fun e3=>?_
     have I2:HiI key a b none _ _ _ (y+1) (c.2.1+c.2.2.1):=⟨rfl,J2,DJ (yz e3),I'.lb,AB (Ge _ _) I'.ua,I'.ub,le1 I'.la I'.lt⟩
     exact zZ (fun _=>Aq ⟨hS2,.go (I2.mono (Fs 1 y))⟩) fun _=>Aq ⟨hS2,I2⟩
   . have J2:=I'.mg.qj (BP I'.lb) gy.2.1 fun u hu=>A0 (xW sa gx.2.1 u (kW I'.la hu)) (G3.mp (of_decide_eq_false (F8.mpr hlt)))
     refine zZ (fun e3=>Aq ⟨hS2,.res _ rfl (J2.tp (firstB (BV (zt e3))) endF)⟩) fun e3=>?_
     have I2:HiI key a b none _ _ _ (y+1) (c.2.1+c.2.2.1):=⟨rfl,J2,I'.la,gt1 I'.lb (yz e3),I'.ua,AB (Ge _ _) I'.ub,le2 I'.lb I'.lt⟩
     exact zZ (fun _=>Aq ⟨hS2,.go (I2.mono (Fs 1 y))⟩) fun _=>Aq ⟨hS2,I2⟩
  case ipost=>
   rintro ⟨c1,c'⟩ st'' ⟨hS2,hQ⟩
   cases hQ with
   |res r hr hR=>cases hr;exact Aq ⟨hS2,r,rfl,hR⟩
   |go I'=>
    have hc:=I'.no
    cases hc
    refine Ao (FE (Cv ⟨rfl,?_⟩))
    refine Ao (CH (Bu (I:=fun y c1 st3=>Sm st st3∧HiI key a b c1.1 c1.2.1 c1.2.2.1 c1.2.2.2.1 1 (c.2.1+c.2.2.1)) (Q:=fun c1 st3=>Sm st st3∧HiQ key a b c1.1 c1.2.1 c1.2.2.1 c1.2.2.2.1 1 (c.2.1+c.2.2.1)) ?gstep (fun c st3 h=>⟨h.1,.go h.2⟩) ⟨hS2,⟨rfl,I'.mg,I'.la,I'.lb,I'.ua,I'.ub,I'.lt⟩⟩) ?gpost)
    case gpost=>
     rintro ⟨c2,c3⟩ st3 ⟨hS3,hQ⟩
     cases hQ with
     |res r hr hR=>cases hr;exact Aq ⟨hS3,r,rfl,hR⟩
     |go I3=>
      have hc:=I3.no
      cases hc
      exact Ao (Cw (Aq ⟨hS3.trans ⟨rfl,rfl,rfl,rfl⟩,⟨rfl,I3.mg,I3.la,I3.lb,I3.ua,I3.ub,le3 I3.lt I.lt⟩⟩))
    case gstep=>
     intro y c1 st1 _ hy ⟨Sm1,I1⟩
     have gy:=yI (AS (Ft (BP I1.lb) EW) I1.ub)
     extract_lets s1 na s2 nb s3 out s4 mg s5 ac bc nb1 jp mg1
     have gl:na+nb+1≤c.2.1+c.2.2.1:=I1.lt
     have la:0<na:=I1.la
     have lb:0<nb:=BP I1.lb
     have ua:na≤a.size:=I1.ua
     refine have hjp:∀g st2,Sm st st2→wpS (model prog w) A E s (jp () g) _ st2:=?_;zZ (fun _=>hjp _ _ Sm1) fun _=>hjp _ _ Sm1
     intro g st0 Sm0
     refine Ao (kg fun st2 Sm2=>?_)
     have Sm':=Sm0.trans Sm2
     obtain⟨k,d1,d2,d3,d4⟩:=uH (a₀:=a₀) (key:=key) (left:=false) (x:=b.getD (nb-1) (Aj,Aj)) (arr:=a) (base:=0) (n:=na) (AB (BV (DW _)) ua) (sa.sublist (CK _ _)) (fun u hu=>ma u (Be hu))
     refine Ao (zg gy.1 (Ao (xu L (Ft la EW) d1 d2 (mb _ gy.2.2) (Sm'.kind.trans hk) ?_)))
     clear_value jp
     dsimp -zeta only
     extract_lets kk ak jp2 out1 na1
     have J1:=I1.mg.Za d1 fun u hu v hv=>A0 (xW sb gy.2.1 u (kW lb hu)) (d4 v hv)
     refine have h2:∀na' out,Mh key a.toList b.toList out na' nb→0<na'→(∀u∈a.toList.take na',key u≤key (b.getD (nb-1) (Aj,Aj)))→na'≤na→wpS (model prog w) A E s (jp2 () na' out) _ st2:=?_
      zZ (fun _=>zZ (fun e=>Aq ⟨Sm',.res _ rfl (J1.rq (zt e) (endA (zt e)))⟩) fun e=>h2 _ _ J1 (DJ (yz e)) d3 d1)
       fun hk=>h2 _ _ I1.mg la (Nat.le_antisymm d1 (Nat.le_of_sub_eq_zero (DN hk))▸d3) (Ai _)
     intro na0 out0 J la0 d5 g0
     have J2:=J.qj lb gy.2.1 d5
     have gx:=yI (AS (Ft la0 EW) (AB g0 ua))
     refine Ao (zg gy.1 (zZ (fun e=>Aq ⟨Sm',.res _ rfl (J2.tp (firstB (BV (zt e))) endF)⟩) fun e=>Ao (zg gx.1 ?_)))
     have lb1:1<nb-1:=gt1 I1.lb (yz e)
     have ub1:nb-1≤b.size:=AB (Ge _ _) I1.ub
     obtain⟨k1,c1,c2,c3,c4⟩:=uH (a₀:=a₀) (key:=key) (left:=true) (x:=a.getD (na0-1) (Aj,Aj)) (arr:=b) (base:=0) (n:=nb-1) (AB (BV (DW _)) ub1) (sb.sublist (CK _ _)) (fun u hu=>mb u (Be hu))
     refine Ao (xu L (Ft (BP lb1) EW) c1 c2 (ma _ gx.2.2) (Sm'.kind.trans hk) ?_)
     clear_value jp2
     dsimp -zeta only
     extract_lets kk1 bk na3 jp3 out3 nb3
     have J3:=J2.Zb c1 fun u hu v hv=>A0 (xW sa gx.2.1 u (kW la0 hu)) (c4 v hv)
     refine have h3:∀nb' out,Mh key a.toList b.toList out na0 nb'→1<nb'→(∀u∈b.toList.take nb',key u≤key (a.getD (na0-1) (Aj,Aj)))→nb'≤nb-1→wpS (model prog w) A E s (jp3 () nb' out) _ st2:=?_
      zZ (fun _=>zZ (fun e=>Aq ⟨Sm',.res _ rfl (J3.tp (firstB (BV (zt e))) endF)⟩) fun e=>zZ (fun e'=>Aq ⟨Sm',.res _ rfl (J3.X1 (zt e') (endZ (zt e')))⟩) fun e'=>h3 _ _ J3 (Cc (DJ (yz e')) (yz e).symm) c3 c1)
       fun hk=>h3 _ _ J2 lb1 ((congrArg (fun n=>∀u∈b.toList.take n,key u≤key (a.getD (na0-1) (Aj,Aj))) (Nat.le_antisymm c1 (Nat.le_of_sub_eq_zero (DN hk)))).mp c3) (Ai _)
     intro nb4 out4 J' lb4 d6 g4
     have J4:=J'.pushX la0 gx.2.1 d6
     refine Ao (zg gx.1 (zZ (fun e=>Aq ⟨Sm',.res _ rfl (J4.rq (zt e) (endA (zt e)))⟩) fun e=>?_))
     have I4:HiI key a b none _ _ _ 1 (c.2.1+c.2.2.1):=⟨rfl,J4,DJ (yz e),lb4,AB (Ge _ _) (AB g0 ua),AB g4 ub1,le4 g0 g4 gl⟩
     exact zZ (fun _=>Aq ⟨Sm',.go I4⟩) fun _=>Aq ⟨Sm',I4⟩
end
end L2.Tim
end
section
namespace L2.Tim
open PySem PySem.W PySem.Calls PyProof PyProof.Rows
section
variable {prog:Program}{w:World}{A:Around}{E:Value→Shared→Prop}{s:Shared}{κ:Dz}{a₀:Array Keyed}{key:Keyed→Int}
theorem aS{σ:Type}{M:Model}{x:σ}{Q:PUnit→σ→Prop}{st:σ}(h:Q ⟨⟩ x):wpS M A E s (set x:StateT σ Sem PUnit) Q st:=by
 unfold wpS;rw[StateT.run_set];exact Al ⟨rfl,h⟩
theorem pV{a:Array Keyed}{i:Nat}(h:i<a.size):kk key a i=key (a.toList[i]'(by rw[AD];exact h)):=by
 unfold kk
 congr 1
 simp[Array.getD,h]
theorem xt{a:Array Keyed}{lo n:Nat}(h:lo+n≤a.size):((a.toList.drop lo).take n).length=n:=by rw[Bn,Cb,AD];omega
theorem eV{a:Array Keyed}{lo n:Nat}(h:lo+n≤a.size)(hs:SIn key a lo n):Srt key ((a.toList.drop lo).take n):=by
 unfold Srt
 rw[BM]
 intro i j hi hj hij
 rw[xt h]at hi hj
 have e1:=pV (key:=key) (a:=a) (i:=lo+i) (by omega)
 have e2:=pV (key:=key) (a:=a) (i:=lo+j) (by omega)
 rw[CM,CL,CM,CL,←e1,←e2]
 exact hs i j (by omega) hj
theorem fK{a:Array Keyed}{lo n:Nat}(h:lo+n≤a.size)(hs:Srt key ((a.toList.drop lo).take n)):SIn key a lo n:=fun i j hij hj=>by
 by_cases e:i=j
 . subst e;exact Cg _
 . have:=BM.mp hs i j (by rw[xt h];omega) (by rw[xt h];omega) (by omega)
   have e1:=pV (key:=key) (a:=a) (i:=lo+i) (by omega)
   have e2:=pV (key:=key) (a:=a) (i:=lo+j) (by omega)
   rw[CM,CL,CM,CL,←e1,←e2]at this
   exact this
theorem nX(o:Nat):∀(m:List Keyed) (j:Nat) (a:Array Keyed),o+j+m.length≤a.size→((m.zipIdx j).foldl (fun a p=>a.setIfInBounds (o+p.2) p.1) a).toList=a.toList.take (o+j)++m++a.toList.drop (o+j+m.length)
 |[],j,a,_=>by simp
 |x::t,j,a,h=>by
  rw[AE]at h
  rw[List.zipIdx_cons,List.foldl_cons,nX o t (j+1) _ (by rw[DA];omega)]
  have hl:o+j<a.toList.length:=by rw[AD];omega
  show ((a.setIfInBounds (o+j) x).toList.take (o+(j+1))++t)++_=_
  rw[FY]
  have e1:(a.toList.set (o+j) x).take (o+(j+1))=a.toList.take (o+j)++[x]:=by
   rw[show o+(j+1)=(o+j)+1 by omega,EI,List.take_set_of_le (Ai _),Bo hl];rfl
  have e2:(a.toList.set (o+j) x).drop (o+(j+1)+t.length)=a.toList.drop (o+j+(x::t).length):=by
   rw[List.drop_set_of_lt (by omega),AE];congr 1;omega
  rw[e1,e2,Ar,Ar,Ar];rfl
theorem eX{a a':Array Keyed}{sa n:Nat}{M:List Keyed}(hz:sa+n≤a.size)(hM:M.Perm ((a.toList.drop sa).take n))(e:a'.toList=a.toList.take sa++M++a.toList.drop (sa+n)):a'.Perm a∧(a'.toList.drop sa).take n=M∧∀j,j<sa∨sa+n≤j→a'[j]?=a[j]?:=by
 have hl:M.length=n:=by rw[hM.length_eq,xt hz]
 have ht:(a.toList.take sa).length=sa:=by rw[Bn,AD];omega
 refine⟨?_,?_,fun j hj=>?_⟩
 . rw[Di,e]
   have e2:a.toList=a.toList.take sa++(a.toList.drop sa).take n++a.toList.drop (sa+n):=by
    rw[Ar,←vx,Ba]
   refine Hh.trans ?_ (.of_eq e2.symm)
   exact(hM.append_left _).append_right _
 . rw[e,Ar,List.drop_append_of_le_length (by omega),B3 (by omega),De,List.take_append_of_le_length (by omega),BJ (by omega)]
 . rw[←BS,←BS,e,Ar]
   rcases hj with hj|hj
   . rw[AQ (by omega),BR hj]
   . rw[AW (by omega),AW (by omega),C7]
     congr 1;omega
theorem oF{l m:List Keyed}(h1:Srt key l)(h2:Srt key m)(h:∀u∈l,∀v∈m,key u≤key v):Srt key (l++m):=Dp.mpr ⟨h1,h2,h⟩
theorem mR(L:sI prog w A E s κ a₀ key){st:SortSt}{i sa na sb nb p1 p2:Nat}{Q:Bool→SortSt→Prop}(hB:Bs κ a₀ st)(h1:(AL st)[i]?=some (sa,na,p1))(h2:(AL st)[i+1]?=some (sb,nb,p2))(hs:sb=sa+na)(ha:0<na)(hb:0<nb)(hz:sb+nb≤a₀.size)(sA:SIn key (arrOf st) sa na)(sB:SIn key (arrOf st) sb nb)
 (h:∀st',Bs κ a₀ st'→AL st'=((AL st).setIfInBounds i (sa,na+nb,p1)).eraseIdxIfInBounds (i+1)→SIn key (arrOf st') sa (na+nb)→(∀j,j<sa∨sa+(na+nb)≤j→(arrOf st')[j]?=(arrOf st)[j]?)→Q true st') :
 wpS (model prog w) A E s (mergeAt' i) Q st:=by
 subst hs
 have hsz:=hB.size
 have mem:∀x∈(arrOf st).toList,x∈a₀.toList:=fun x hx=>(Di.mp hB.perm).mem_iff.mp hx
 have hkd:=hB.kind
 have hfl:=hB.fail
 have hpm:=hB.perm
 cases st with
 |mk kd a pd mg fl=>
 dsimp only[arrOf,AL,Fz,Ez]at *
 have srA:=eV (by omega) sA
 have srB:=eV (by omega) sB
 have gb:=yI (a:=a) (i:=sa+na) (by omega)
 have gl:=yI (a:=a) (i:=sa+na-1) (by omega)
 obtain⟨k,d1,d2,d3,d4⟩:=uH (a₀:=a₀) (key:=key) (left:=false) (x:=a.getD (sa+na) (Aj,Aj)) (arr:=a) (base:=sa) (n:=na) (by omega) srA (fun u hu=>mem u (BF (Be hu)))
 obtain⟨k1,c1,c2,c3,c4⟩:=uH (a₀:=a₀) (key:=key) (left:=true) (x:=a.getD (sa+na-1) (Aj,Aj)) (arr:=a) (base:=sa+na) (n:=nb) (by omega) srB (fun u hu=>mem u (BF (Be hu)))
 -- the two runs as lists
 have hAB:(a.toList.drop sa).take (na+nb)=(a.toList.drop sa).take na++(a.toList.drop (sa+na)).take nb:=by rw[FX,Du]
 have fst:∀u∈(a.toList.drop (sa+na)).take nb,key (a.getD (sa+na) (Aj,Aj))≤key u:=fun u hu=>by
  have e0:((a.toList.drop (sa+na)).take nb)[0]?=some (a.getD (sa+na) (Aj,Aj)):=by rw[BR hb,C7,CI];exact gb.2.1
  exact xV srB e0 u hu
 have lst:∀u∈(a.toList.drop sa).take na,key u≤key (a.getD (sa+na-1) (Aj,Aj)):=fun u hu=>by
  have e0:((a.toList.drop sa).take na)[na-1]?=some (a.getD (sa+na-1) (Aj,Aj)):=by rw[BR (by omega),C7,show sa+(na-1)=sa+na-1 by omega];exact gl.2.1
  exact xW srA e0 u (by rw[show na-1+1=na by omega,DV,Nat.min_self];exact hu)
 have whole:(∀u∈(a.toList.drop sa).take na,∀v∈(a.toList.drop (sa+na)).take nb,key u≤key v)→SIn key a sa (na+nb):=fun hh=>fK (by omega) (by rw[hAB];exact oF srA srB hh)
 unfold mergeAt'
 refine Ao (wpS_get ?_)
 dsimp only
 rw[h1,h2]
 dsimp only
 refine Ao (aS ?_)
 refine Ao (zg gb.1 (Ao (xu L ha d1 d2 (mem _ gb.2.2) hkd ?_)))
 dsimp only
 by_cases e1:na-k=0
 . rw[if_pos (by simpa using e1)]
   refine Aq (h _ ⟨hkd,hpm,hfl⟩ rfl (whole fun u hu v hv=>?_) fun j _=>rfl)
   rw[show na=k by omega]at hu
   exact A0 (d3 u hu) (fst v hv)
 . rw[if_neg (by simpa using e1)]
   rw[show sa+k+(na-k)-1=sa+na-1 by omega]
   refine Ao (zg gl.1 (Ao (xu L (show nb-1<nb by omega) c1 c2 (mem _ gl.2.2) hkd ?_)))
   dsimp only
   by_cases e2:k1=0
   . rw[if_pos (by simpa using e2)]
     refine Aq (h _ ⟨hkd,hpm,hfl⟩ rfl (whole fun u hu v hv=>?_) fun j _=>rfl)
     rw[e2,CA]at c4
     exact A0 (lst u hu) (c4 v hv)
   . rw[if_neg (by simpa using e2)]
     have ex:(a.extract (sa+k) (sa+na)).toList=((a.toList.drop sa).take na).drop k:=by
      rw[Dq,CB,GX,Du,show sa+na-(sa+k)=na-k by omega]
     have ey:(a.extract (sa+na) (sa+na+k1)).toList=(a.toList.drop (sa+na)).take k1:=pP
     have eyy:(a.toList.drop (sa+na)).take k1=((a.toList.drop (sa+na)).take nb).take k1:=by rw[DV,Em c1]
     have lx:(a.extract (sa+k) (sa+na)).size=na-k:=by rw[←AD,ex,Cb,xt (by omega)]
     have ly:(a.extract (sa+na) (sa+na+k1)).size=k1:=by rw[←AD,ey,xt (by omega)]
     have y0:(a.extract (sa+na) (sa+na+k1)).getD 0 (Aj,Aj)=a.getD (sa+na) (Aj,Aj):=by
      have:=(yI (a:=a.extract (sa+na) (sa+na+k1)) (i:=0) (by omega)).2.1
      rw[ey,BR (by omega),C7,CI,gb.2.1]at this
      exact(AO this).symm
     have xl:(a.extract (sa+k) (sa+na)).getD ((a.extract (sa+k) (sa+na)).size-1) (Aj,Aj)=a.getD (sa+na-1) (Aj,Aj):=by
      have:=(yI (a:=a.extract (sa+k) (sa+na)) (i:=(a.extract (sa+k) (sa+na)).size-1) (by omega)).2.1
      rw[lx]at this ⊢
      rw[ex,C7,BR (by omega),C7,show sa+(k+(na-k-1))=sa+na-1 by omega,gl.2.1]at this
      exact(AO this).symm
     have fin:∀(r:Array Keyed) (st2:SortSt),Sm (G2 kd a ((pd.setIfInBounds i (sa,na+nb,p1)).eraseIdxIfInBounds (i+1)) mg fl) st2→Res key (a.extract (sa+k) (sa+na)).toList (a.extract (sa+na) (sa+na+k1)).toList r →
      Q (Ez st2).isNone (G2 (Fz st2) (r.toList.zipIdx.foldl (fun a p=>a.setIfInBounds (sa+k+p.2) p.1) (arrOf st2)) (AL st2) (gallopOf st2) (Ez st2)):=fun r st2 S R=>by
      have f1:=S.fail
      have f2:=S.arr
      have f3:=S.pend
      have f4:=S.kind
      dsimp only[arrOf,AL,Fz,Ez]at f1 f2 f3 f4
      have hrl:r.toList.length=na-k+k1:=by rw[R.perm.length_eq,Aw,AD,AD,lx,ly]
      have pl:=nX (sa+k) r.toList 0 a (by omega)
      rw[CI,hrl,show sa+k+(na-k+k1)=sa+na+k1 by omega]at pl
      have sp:a.toList.take (sa+k)=a.toList.take sa++(a.toList.drop sa).take k:=FX
      have sq:a.toList.drop (sa+na+k1)=((a.toList.drop (sa+na)).take nb).drop k1++a.toList.drop (sa+(na+nb)):=by
       have:=(wC (X:=a.toList.drop (sa+na)) c1).2
       rw[Du,Du]at this
       rw[this];congr 2;omega
      rw[sp,sq]at pl
      have pl2:(r.toList.zipIdx.foldl (fun a p=>a.setIfInBounds (sa+k+p.2) p.1) a).toList=a.toList.take sa++((a.toList.drop sa).take k++r.toList++((a.toList.drop (sa+na)).take nb).drop k1)++a.toList.drop (sa+(na+nb)):=by
       rw[pl];simp only[Ar]
      have rp:=R.perm
      rw[ex,ey,eyy]at rp
      have ekk:(a.toList.drop sa).take k=((a.toList.drop sa).take na).take k:=by rw[DV,Em d1]
      have hMp:((a.toList.drop sa).take k++r.toList++((a.toList.drop (sa+na)).take nb).drop k1).Perm ((a.toList.drop sa).take (na+nb)):=by
       rw[hAB]
       refine((rp.append_left _).append_right _).trans ?_
       rw[ekk,←Ar,Ba,Ar,Ba]
      obtain⟨w1,w2,w3⟩:=eX (n:=na+nb) (by omega) hMp pl2
      have hsrt:Srt key ((a.toList.drop sa).take k++r.toList++((a.toList.drop (sa+na)).take nb).drop k1):=by
       have inr:∀u∈r.toList,u∈((a.toList.drop sa).take na).drop k∨u∈((a.toList.drop (sa+na)).take nb).take k1:=fun u hu=>A3.mp (rp.mem_iff.mp hu)
       refine oF (oF (by rw[ekk];exact srA.sublist (CK _ _)) R.srt fun u hu v hv=>?_) (srB.sublist (F7 _ _)) fun u hu v hv=>?_
       . rcases inr v hv with hv|hv
         . exact A0 (d3 u hu) (d4 v hv)
         . exact A0 (d3 u hu) (fst v (Be hv))
       . rcases A3.mp hu with hu|hu
         . exact A0 (d3 u hu) (fst v (BF hv))
         . rcases inr u hu with hu|hu
           . exact A0 (lst u (BF hu)) (c4 v hv)
           . rw[←eyy]at hu
             exact A0 (c3 u hu) (c4 v hv)
      have f0:Ez st2=none:=f1.trans hfl
      have q0:(Ez st2).isNone=true:=by rw[f0];rfl
      rw[q0]
      refine h _ ⟨f4.trans hkd,?_,f0⟩ f3 ?_ ?_
      . show (r.toList.zipIdx.foldl _ (arrOf st2)).Perm a₀
        rw[show arrOf st2=a from f2]
        exact w1.trans hpm
      . show SIn key (r.toList.zipIdx.foldl _ (arrOf st2)) sa (na+nb)
        rw[show arrOf st2=a from f2]
        exact fK (by rw[w1.size_eq];omega) (by rw[w2];exact hsrt)
      . show ∀j,_→(r.toList.zipIdx.foldl _ (arrOf st2))[j]?=_
        rw[show arrOf st2=a from f2]
        exact w3
     have mx:∀x∈(a.extract (sa+k) (sa+na)).toList,x∈a₀.toList:=fun x hx=>mem x (by rw[ex]at hx;exact BF (Be (BF hx)))
     have my:∀x∈(a.extract (sa+na) (sa+na+k1)).toList,x∈a₀.toList:=fun x hx=>mem x (by rw[ey]at hx;exact BF (Be hx))
     have sx:Srt key (a.extract (sa+k) (sa+na)).toList:=by rw[ex];exact srA.sublist (F7 _ _)
     have sy:Srt key (a.extract (sa+na) (sa+na+k1)).toList:=by rw[ey,eyy];exact srB.sublist (CK _ _)
     have hx1:∀u∈(a.extract (sa+k) (sa+na)).toList,key ((a.extract (sa+na) (sa+na+k1)).getD 0 (Aj,Aj))≤key u:=by
      rw[y0,ex];exact d4
     have hy1:∀u∈(a.extract (sa+na) (sa+na+k1)).toList,key u≤key ((a.extract (sa+k) (sa+na)).getD ((a.extract (sa+k) (sa+na)).size-1) (Aj,Aj)):=by
      rw[xl,ey];exact c3
     refine zZ (fun _=>?_) fun _=>?_
     . exact Ao (Ve L (by omega) (by omega) mx my sx sy hx1 hy1 hkd fun r st2 S R=>Ao (Cw (Ao (wpS_get (Aq (fin r st2 S R))))))
     . exact Ao (Vd L (by omega) (by omega) mx my sx sy hx1 hy1 hkd fun r st2 S R=>Ao (Cw (Ao (wpS_get (Aq (fin r st2 S R))))))
end
end L2.Tim
end
section
namespace L2.Tim
open PySem PySem.W PySem.Calls PyProof PyProof.Rows
section
variable {prog:Program}{w:World}{A:Around}{E:Value→Shared→Prop}{s:Shared}{κ:Dz}{a₀:Array Keyed}{key:Keyed→Int}
noncomputable def Runs(key:Keyed→Int)(a:Array Keyed):Nat→List (Nat × Nat × Nat)→Nat→Prop
 |st,[],fin=>st=fin
 |st,(x,n,_)::r,fin=>x=st∧0<n∧SIn key a x n∧Runs key a (st+n) r fin
theorem uY{a:Array Keyed}:∀{l r:List (Nat × Nat × Nat)} {st fin:Nat},Runs key a st (l++r) fin↔∃m,Runs key a st l m∧Runs key a m r fin
 |[],r,st,fin=>⟨fun h=>⟨st,rfl,h⟩,fun⟨m,h1,h2⟩=>by cases h1;exact h2⟩
 |(x,n,p)::l,r,st,fin=>by
  show (x=st∧0<n∧SIn key a x n∧Runs key a (st+n) (l++r) fin)↔_
  rw[uY (l:=l)]
  exact⟨fun⟨h1,h2,h3,m,h4,h5⟩=>⟨m,⟨h1,h2,h3,h4⟩,h5⟩,fun⟨m,⟨h1,h2,h3,h4⟩,h5⟩=>⟨h1,h2,h3,m,h4,h5⟩⟩
theorem uZ{a:Array Keyed}:∀{l:List (Nat × Nat × Nat)} {st fin:Nat},Runs key a st l fin→st+l.length≤fin
 |[],st,fin,h=>by cases h;exact Ai _
 |(x,n,p)::l,st,fin,h=>by
  have:=uZ h.2.2.2
  have:=h.2.1
  rw[AE];omega
theorem x9{a b:Array Keyed}:∀{l:List (Nat × Nat × Nat)} {st fin:Nat},(∀j,st≤j→j<fin→b[j]?=a[j]?)→Runs key a st l fin→Runs key b st l fin
 |[],st,fin,_,h=>h
 |(x,n,p)::l,st,fin,hc,h=>by
  have hl:=uZ h.2.2.2
  refine⟨h.1,h.2.1,fun i j hij hj=>?_,x9 (fun j h1 h2=>hc j (by omega) h2) h.2.2.2⟩
  have hx:=h.1
  rw[y4 (hc (x+i) (by omega) (by omega)),y4 (hc (x+j) (by omega) (by omega))]
  exact h.2.2.1 i j hij hj
structure Rn(κ:Dz)(a₀:Array Keyed)(key:Keyed→Int)(lo:Nat)(st:SortSt):Prop where
 bs:Bs κ a₀ st
 runs:Runs key (arrOf st) 0 (AL st).toList lo
theorem qp{a b:Array Keyed}{lo n:Nat}(h:∀j,lo≤j→b[j]?=a[j]?)(hs:SIn key a lo n):SIn key b lo n:=fun i j hij hj=>by
 rw[y4 (h (lo+i) (by omega)),y4 (h (lo+j) (by omega))];exact hs i j hij hj
theorem qm{a:Array Keyed}:∀{l l':List (Nat × Nat × Nat)} {st fin:Nat},l.map (fun x=>(x.1,x.2.1))=l'.map (fun x=>(x.1,x.2.1))→Runs key a st l fin→Runs key a st l' fin
 |[],[],st,fin,_,h=>h
 |[],_::_,st,fin,e,h=>by cases e
 |_::_,[],st,fin,e,h=>by cases e
 |(x,n,p)::l,(x',n',p')::l',st,fin,e,h=>by
  rw[AA,AA]at e
  injection e with e1 e2
  injection e1 with e3 e4
  dsimp only at e3 e4
  subst e3 e4
  exact⟨h.1,h.2.1,h.2.2.1,qm e2 h.2.2.2⟩
theorem sH{st:SortSt}{lo n:Nat}(h:Rn κ a₀ key lo st)(hs:SIn key (arrOf st) lo n)(hn:0<n):Rn κ a₀ key (lo+n) (setPending st ((AL st).push (lo,n,0))):=by
 refine⟨⟨h.bs.kind,h.bs.perm,h.bs.fail⟩,?_⟩
 show Runs key (arrOf st) 0 ((AL st).push (lo,n,0)).toList (lo+n)
 rw[Dk,uY]
 exact⟨lo,h.runs,rfl,hn,hs,rfl⟩
theorem fo{st:SortSt}{lo k pw:Nat}(h:Rn κ a₀ key lo st):Rn κ a₀ key lo (setPending st ((AL st).modify k fun x=>(x.1,x.2.1,pw))):=by
 refine⟨⟨h.bs.kind,h.bs.perm,h.bs.fail⟩,?_⟩
 show Runs key (arrOf st) 0 ((AL st).modify k fun x=>(x.1,x.2.1,pw)).toList lo
 refine qm ?_ h.runs
 rw[Array.toList_modify]
 refine List.ext_getElem? fun i=>?_
 rw[Ay,Ay,List.getElem?_modify]
 cases (AL st).toList[i]? with
 |none=>rfl
 |some v=>
  show some (v.1,v.2.1)=some ((if k=i then (v.1,v.2.1,pw) else v).1,(if k=i then (v.1,v.2.1,pw) else v).2.1)
  split<;>rfl
theorem gR{c:Prop} [Decidable c] {a b n:Nat}(ha:a+1<n)(hb:b+1<n):(if c then a else b)+1<n:=by
 by_cases h:c
 . rw[if_pos h];exact ha
 . rw[if_neg h];exact hb
theorem XM{α:Type}{l:List α}{i:Nat}(h:i+1<l.length):∃l1 x y l2,l=l1++x::y::l2∧l1.length=i:=by
 refine⟨l.take i,l[i],l[i+1],l.drop (i+2),?_,by rw[Bn];omega⟩
 rw[←Bm,←Bm,Ba]
theorem rB(L:sI prog w A E s κ a₀ key){st:SortSt}{i lo:Nat}{Q:Bool→SortSt→Prop}(h:Rn κ a₀ key lo st)(hlo:lo≤a₀.size)(hi:i+1<(AL st).size)
 (q:∀st',Rn κ a₀ key lo st'→(AL st').size+1=(AL st).size→(∀j,lo≤j→(arrOf st')[j]?=(arrOf st)[j]?)→Q true st'):wpS (model prog w) A E s (mergeAt' i) Q st:=by
 obtain⟨l1,⟨xa,na,pa⟩,⟨xb,nb,pb⟩,l2,el,hl1⟩:=XM (l:=(AL st).toList) (i:=i) (by rw[AD];exact hi)
 have hr:=h.runs
 rw[el,uY]at hr
 obtain⟨m,r1,ea,ha,sA,eb,hb,sB,r2⟩:=hr
 subst ea
 subst eb
 have hr2:=uZ r2
 have hr1:=uZ r1
 have g1:(AL st)[i]?=some (xa,na,pa):=by rw[←BS,el,AW (by omega),hl1,Nat.sub_self];rfl
 have g2:(AL st)[i+1]?=some (xa+na,nb,pb):=by rw[←BS,el,AW (by omega),hl1,EK];rfl
 refine mR L h.bs g1 g2 rfl ha hb (by omega) sA sB fun st' hB' hp hs hk=>q st' ⟨hB',?_⟩ ?_ fun j hj=>hk j (.inr (by omega))
 . have ep:(AL st').toList=l1++(xa,na+nb,pa)::l2:=by
    rw[hp,Gq,dif_pos (by rw[DA];exact hi),Array.toList_eraseIdx,FY,el]
    rw[List.set_append_right _ _ (by omega),hl1,Nat.sub_self,List.set_cons_zero,List.eraseIdx_append_of_length_le (by omega),hl1,EK]
    rfl
   rw[ep,uY]
   refine⟨xa,x9 (fun j _ hj=>hk j (.inl hj)) r1,rfl,by omega,hs,?_⟩
   rw[←Nat.add_assoc]
   exact x9 (fun j hj _=>hk j (.inr (by omega))) r2
 . rw[hp,Gq,dif_pos (by rw[DA];exact hi),Array.size_eraseIdx,DA]
   omega
theorem b0(L:sI prog w A E s κ a₀ key)(D:Dis key a₀){st:SortSt}{Q:Unit→SortSt→Prop}(hB:Bs κ a₀ st)(hp:AL st=#[])(h2:2≤a₀.size)
 (q:∀st',Bs κ a₀ st'→SIn key (arrOf st') 0 a₀.size→Q () st'):wpS (model prog w) A E s sortRuns' Q st:=by
 rw[sortRuns'_eq]
 refine Ao (wpS_get ?_)
 dsimp only
 rw[hB.size]
 generalize minRun' a₀.size a₀.size 0=mr
 refine Ao (CH (Bu (I:=fun x c st'=>∃lo,c=(none,lo)∧x≤lo∧lo≤a₀.size∧Rn κ a₀ key lo st') (Q:=fun c st'=>c=(none,a₀.size)∧Rn κ a₀ key a₀.size st') ?step ?fin ⟨0,rfl,Ai _,Bp _,hB,by rw[hp];rfl⟩) ?post)
 case fin=>
  rintro c st' ⟨lo,rfl,h1,h2,hR⟩
  have:lo=a₀.size:=by omega
  subst this
  exact⟨rfl,hR⟩
 case step=>
  rintro x c st' _ hx ⟨lo,rfl,h1,hlo,hR⟩
  dsimp only
  by_cases hge:lo ≥ a₀.size
  . rw[if_pos hge]
    have:lo=a₀.size:=by omega
    subst this
    exact Aq ⟨rfl,hR⟩
  . rw[if_neg hge]
    refine Ao (dE L D (by omega) (by omega) hR.bs fun m st2 hB2 pre2 pe2 m1 m2 s2=>?_)
    dsimp only
    have hR2:Rn κ a₀ key lo st2:=⟨hB2,by rw[pe2];exact x9 (fun j _ hj=>pre2 j hj) hR.runs⟩
    by_cases hm:m<mr
    . rw[if_pos hm]
      refine Ao (FE (Cv ⟨rfl,?_⟩))
      refine Ao (Xe L (show lo+min (a₀.size-lo) mr≤a₀.size by omega) (by omega) hB2 s2 fun st3 hB3 pre3 pe3 s3=>?_)
      rw[if_neg (by simp)]
      have hR3:Rn κ a₀ key lo st3:=⟨hB3,by rw[pe3];exact x9 (fun j _ hj=>pre3 j hj) hR2.runs⟩
      refine Ao (wpS_get ?_)
      cases hbk:(AL st3).back? with
      |none=>
       dsimp only
       exact Ao (Cw (Aq ⟨lo+min (a₀.size-lo) mr,rfl,by omega,by omega,sH hR3 s3 (by omega)⟩))
      |some v=>
       obtain⟨s1,n1,p1⟩:=v
       dsimp only
       refine Ao (CH (Bu (I:=fun y c st4=>c=(none,())∧Rn κ a₀ key lo st4∧SIn key (arrOf st4) lo (min (a₀.size-lo) mr)) (Q:=fun c st4=>c=(none,())∧Rn κ a₀ key lo st4∧SIn key (arrOf st4) lo (min (a₀.size-lo) mr)) (fun y c st4 _ _ hI=>?_) (fun c st4 hI=>hI) ⟨rfl,hR3,s3⟩) ?_)
       . obtain⟨rfl,hR4,hs4⟩:=hI
         refine Ao (wpS_get ?_)
         by_cases hp1:(AL st4).size > 1
         . rw[if_pos hp1,getElem?_pos (AL st4) ((AL st4).size-2) (by omega)]
           dsimp only
           refine zZ (fun _=>Aq ⟨rfl,hR4,hs4⟩) fun _=>Ao (rB L hR4 (by omega) (by omega) fun st5 hR5 _ hk5=>?_)
           rw[if_neg (by simp)]
           exact Aq ⟨rfl,hR5,qp (fun j hj=>hk5 j hj) hs4⟩
         . rw[if_neg hp1]
           exact Aq ⟨rfl,hR4,hs4⟩
       . rintro c st4 ⟨rfl,hR4,hs4⟩
         dsimp only
         exact Ao (Cw (Ao (Cw (Aq ⟨lo+min (a₀.size-lo) mr,rfl,by omega,by omega,sH (fo hR4) hs4 (by omega)⟩))))
    . rw[if_neg hm]
      refine Ao (wpS_get ?_)
      cases hbk:(AL st2).back? with
      |none=>
       dsimp only
       exact Ao (Cw (Aq ⟨lo+m,rfl,by omega,by omega,sH hR2 s2 (by omega)⟩))
      |some v=>
       obtain⟨s1,n1,p1⟩:=v
       dsimp only
       refine Ao (CH (Bu (I:=fun y c st4=>c=(none,())∧Rn κ a₀ key lo st4∧SIn key (arrOf st4) lo (m)) (Q:=fun c st4=>c=(none,())∧Rn κ a₀ key lo st4∧SIn key (arrOf st4) lo (m)) (fun y c st4 _ _ hI=>?_) (fun c st4 hI=>hI) ⟨rfl,hR2,s2⟩) ?_)
       . obtain⟨rfl,hR4,hs4⟩:=hI
         refine Ao (wpS_get ?_)
         by_cases hp1:(AL st4).size > 1
         . rw[if_pos hp1,getElem?_pos (AL st4) ((AL st4).size-2) (by omega)]
           dsimp only
           refine zZ (fun _=>Aq ⟨rfl,hR4,hs4⟩) fun _=>Ao (rB L hR4 (by omega) (by omega) fun st5 hR5 _ hk5=>?_)
           rw[if_neg (by simp)]
           exact Aq ⟨rfl,hR5,qp (fun j hj=>hk5 j hj) hs4⟩
         . rw[if_neg hp1]
           exact Aq ⟨rfl,hR4,hs4⟩
       . rintro c st4 ⟨rfl,hR4,hs4⟩
         dsimp only
         exact Ao (Cw (Ao (Cw (Aq ⟨lo+m,rfl,by omega,by omega,sH (fo hR4) hs4 (by omega)⟩))))
 case post=>
  rintro c st' ⟨rfl,hR⟩
  dsimp only
  have hle:=uZ hR.runs
  rw[AD]at hle
  refine Ao (CH (Bu (I:=fun x c st4=>c=(none,())∧Rn κ a₀ key a₀.size st4∧((AL st4).size≤1∨(AL st4).size+x≤a₀.size)) (Q:=fun c st4=>c=(none,())∧Rn κ a₀ key a₀.size st4∧(AL st4).size≤1) (fun y c st4 _ _ hI=>?_) (fun c st4 hI=>⟨hI.1,hI.2.1,by have:=hI.2.2;omega⟩) ⟨rfl,hR,.inr (by omega)⟩) ?_)
  . obtain⟨rfl,hR4,hs4⟩:=hI
    refine Ao (wpS_get ?_)
    refine zZ (fun h1=>Aq ⟨rfl,hR4,h1⟩) fun h1=>Ao (rB L hR4 (Ai _) (gR (by omega) (by omega)) fun st5 hR5 hz5 _=>?_)
    rw[if_neg (by simp)]
    exact Aq ⟨rfl,hR5,.inr (by omega)⟩
  . rintro c st4 ⟨rfl,hR4,h1⟩
    refine Aq (q st4 hR4.bs ?_)
    have hr:=hR4.runs
    rw[←AD]at h1
    match hl:(AL st4).toList,hr,h1 with
    |[],hr,_=>exact absurd (show 0=a₀.size from hr) (by omega)
    |[(x,n,p)],hr,_=>
     obtain⟨rfl,_,hs,he⟩:=hr
     have he':0+n=a₀.size:=he
     rw[←he',DW];exact hs
    |_::_::_,_,h1=>rw[AE,AE]at h1;omega
end
end L2.Tim
end
section
namespace L2
open PySem PySem.W PySem.Calls PyProof PyProof.Rows
noncomputable def y8:List Int→List Int→Bool
 |x::xs,y::ys=>if x=y then y8 xs ys else decide (x<y)
 |[],_::_=>true
 |_,[]=>false
noncomputable def fA(d:Bool):List Int→List Int→Bool
 |x::xs,y::ys=>if x=y then fA d xs ys else decide (x<y)
 |_,_=>d
theorem kK:∀xs ys:List Int,fA (decide (xs.length<ys.length)) xs ys=y8 xs ys
 |[],[]=>rfl
 |[],_::_=>decide_eq_true (DT _)
 |_::_,[]=>rfl
 |x::xs,y::ys=>by
  have:=kK xs ys
  have e:decide ((x::xs).length<(y::ys).length)=decide (xs.length<ys.length):=decide_eq_decide.mpr Nat.add_lt_add_iff_right
  unfold fA y8
  rw[e,this]
theorem rJ{α β:Type}{f:α→β}:∀{l:List α} {l':List β},l'.Perm (l.map f)→∃m:List α,m.Perm l∧m.map f=l'
 |[],l',h=>⟨[],.refl _,(List.perm_nil.mp h).symm⟩
 |a::t,l',h=>by
  obtain⟨s,r,rfl⟩:=List.append_of_mem (h.mem_iff.mpr (.head _))
  obtain⟨m,h1,h2⟩:=rJ (l:=t) (List.perm_cons (f a) |>.mp ((List.perm_middle.symm).trans h))
  obtain⟨m1,m2,rfl,rfl,rfl⟩:=List.map_eq_append_iff.mp h2
  exact⟨m1++a::m2,List.perm_middle.trans (h1.cons a),by rw[B8,AA]⟩
section
variable {prog:Program}{w:World}{A:Around}{E:Value→Shared→Prop}{κ:Dz}{s:Shared}
theorem ox{d:Bool}{Q:Bool→Shared→Prop}:∀{us vs:List Value} {xs ys:List Int} (i:Nat),vh us xs→vh vs ys→Q (fA d xs ys) s→KatLex prog w A true d Q (us.zip vs) i s
 |_,_,_,_,i,.nil,.nil,h=>h
 |_,_,_,_,i,.nil,.cons _,h=>h
 |_,_,_,_,i,.cons _,.nil,h=>h
 |_,_,_,_,i,.cons (i:=a) (t:=t) (us:=us) (ns:=xs) r,.cons (i:=b) (t:=u) (us:=vs) (ns:=ys) r',h=>by
  show KatLex prog w A true d Q ((DG a t,DG b u)::us.zip vs) i s
  unfold fA at h
  refine kat_cons (wpAny_eqBool_int (kat_go (fun e=>?_) fun e=>?_))
  . rw[if_pos (of_decide_eq_true e)]at h
    exact kat_yes (ox (i+1) r r' h)
  . rw[if_neg (of_decide_eq_false e)]at h
    refine kat_no ?_
    cases i with
    |zero=>exact oneLt_int h
    |succ i=>exact kat_one _ _ (lt_int h)
noncomputable def itm(vs:List Value)(i:Nat):Keyed:=(vs.getD i Aj,vs.getD i Aj)
theorem kH(vs:List Value):(vs.toArray.zip vs.toArray).toList=(Ak vs.length).map (itm vs):=by
 rw[Array.toList_zip]
 apply D5
 . simp
 . intro i h1 h2
   have hi:i<vs.length:=by simpa using h2
   simp[itm,Ae,Aa hi]
theorem eU{l:Addr}{vs:List Value}{key:Keyed→Int}{Q:Value→Shared→Prop}(hl:s.heap.IsList l vs.toArray)(h2:2≤vs.length)(hz:vs.length≤16777216)
 (kind:∀h' (Q':Dz→Shared→Prop),(∀b o,s.heap.get? b=some o→h'.get? b=some o)→Q' κ {s with heap:=h'}→wpAny (model prog w) A.in1.in1 (keyKind' vs.toArray) Q' (fun _ _=>False) {s with heap:=h'})
 (ask:∀h' i j C,(∀b o,s.heap.get? b=some o→h'.get? b=some o)→i<vs.length→j<vs.length→C (decide (key (itm vs i)<key (itm vs j))) {s with heap:=h'}→wpAny (model prog w) A.in1.in1 (keyLt' κ (vs.getD i Aj) (vs.getD j Aj)) C (fun _ _=>False) {s with heap:=h'})
 (dis:∀i j,i<vs.length→j<vs.length→key (itm vs i)=key (itm vs j)→i=j)
 (h:∀(h':Heap) (c:Nat) (ix:List Nat),(∀b o,s.heap.get? b=some o→h'.get? b=some o)→ix.Perm (Ak vs.length)→ix.Pairwise (fun i j=>key (itm vs i)<key (itm vs j)) →
  h'.get? (s.heap.objs.size+1)=some (seqObj "list" (ix.map fun i=>vs.getD i Aj).toArray c)→Q (.ref (s.heap.objs.size+1)) {s with heap:=h'}) :
 wpAny (model prog w) A (call (.builtin "sorted") [.ref l]) Q E s:=by
 have hs0:(vs.toArray.zip vs.toArray).size=vs.length:=by simp
 have un:∀{a:Array Keyed},a.Perm (vs.toArray.zip vs.toArray)→∃ix:List Nat,ix.Perm (Ak vs.length)∧ix.map (itm vs)=a.toList:=fun{a} hp=>rJ (by rw[←kH];exact Di.mp hp)
 have kk_at:∀{a:Array Keyed} {ix:List Nat} (i:Nat) (hi:i<ix.length),ix.map (itm vs)=a.toList→Tim.kk key a i=key (itm vs ix[i]):=fun{a ix} i hi e=>by
  unfold Tim.kk
  rw[DZ,←BS,←e,Ay,Aa hi]
  rfl
 have ixl:∀{ix:List Nat},ix.Perm (Ak vs.length)→ix.length=vs.length:=fun hp=>by rw[hp.length_eq,AV]
 have ixm:∀{ix:List Nat},ix.Perm (Ak vs.length)→∀i (hi:i<ix.length),ix[i]<vs.length:=fun hp i hi=>Ax.mp (hp.mem_iff.mp (BI hi))
 have hD:Tim.Dis key (vs.toArray.zip vs.toArray):=fun a hp i j hi hj hij e=>by
  obtain⟨ix,p1,p2⟩:=un hp
  rw[hs0,←ixl p1]at hi hj
  rw[kk_at i hi p2,kk_at j hj p2]at e
  exact hij ((Gf (p1.nodup_iff.mpr CY)).mp (dis _ _ (ixm p1 i hi) (ixm p1 j hj) e))
 refine El kind_sorted plain_sorted entry_sorted (args_sorted1 _) ?_
 unfold Builtin.«sorted»
 refine Ac (m:=checkCount "sorted" 1 1 _) (Al ?_)
 refine Ac (collect_list hl ?_ (by rw[Bi];omega))
 refine Ac (E4 ?_ (by rw[Bi];omega))
 have hsz:((s.heap.push (seqObj "list" #[] 0)).update s.heap.objs.size (Bk (·++vs.toArray))).objs.size=s.heap.objs.size+1:=by
  rw[Heap.size_update,size_push']
 have hoL:(((s.heap.push (seqObj "list" #[] 0)).update s.heap.objs.size (Bk (·++vs.toArray))).push (seqObj "list" vs.toArray 0)).get? (s.heap.objs.size+1)=some (seqObj "list" vs.toArray 0):=by
  rw[←hsz];exact AI _ rfl
 have keep:∀b o,s.heap.get? b=some o→(((s.heap.push (seqObj "list" #[] 0)).update s.heap.objs.size (Bk (·++vs.toArray))).push (seqObj "list" vs.toArray 0)).get? b=some o:=fun b o q=>by
  have hlt:b<s.heap.objs.size:=Au q
  rw[DP _ _ _ (by rw[hsz];exact AG (Bt hlt)),CU _ _ _ _ (AG hlt),DP _ _ _ (AG hlt)]
  exact q
 show wpAny _ _ _ _ _ {s with heap:=((s.heap.push (seqObj "list" #[] 0)).update s.heap.objs.size (Bk (·++vs.toArray))).push (seqObj "list" vs.toArray 0)}
 rw[hsz]
 generalize hg:((s.heap.push (seqObj "list" #[] 0)).update s.heap.objs.size (Bk (·++vs.toArray))).push (seqObj "list" vs.toArray 0)=g at hoL keep ⊢
 refine Ac (BB (Dw GV ⟨_,hoL,rfl⟩ GN ?body (GW _)))
 case body=>
  rw[list_sort_plain]
  refine Ac (listItems_at hoL rfl ?_)
  refine Ac (FW hoL rfl ?_ (by rw[Ah,Bi];omega) (Bp _))
  obtain⟨e1,ho1⟩:∃e1,(g.update (s.heap.objs.size+1) (Bk fun _=>(#[]:Array Value))).get? (s.heap.objs.size+1)=some (seqObj "list" #[] e1):=⟨_,Fq hoL fun _=>#[]⟩
  refine Ac (GR ho1 rfl ?_)
  refine Ac (wpAny_newTuple ?_ (by show vs.length≤_;rw[Bi];omega))
  refine Ac (E4 ?_ (Bp _))
  refine BB ?_
  have keep6:∀b o,s.heap.get? b=some o→(((g.update (s.heap.objs.size+1) (Bk fun _=>(#[]:Array Value))).push (seqObj "tuple" vs.toArray 0)).push (seqObj "list" #[] 0)).get? b=some o:=fun b o e=>by
   have hlt:b<s.heap.objs.size:=Au e
   refine Af _ (Af _ ?_)
   rw[CU _ _ _ _ (AG (Bt hlt))]
   exact keep b o e
  have ho6:(((g.update (s.heap.objs.size+1) (Bk fun _=>(#[]:Array Value))).push (seqObj "tuple" vs.toArray 0)).push (seqObj "list" #[] 0)).get? (s.heap.objs.size+1)=some (seqObj "list" #[] e1):=
   Af _ (Af _ ho1)
  show wpAny (model prog w) _ _ _ _ {s with heap:=((g.update (s.heap.objs.size+1) (Bk fun _=>(#[]:Array Value))).push (seqObj "tuple" vs.toArray 0)).push (seqObj "list" #[] 0)}
  generalize ((g.update (s.heap.objs.size+1) (Bk fun _=>(#[]:Array Value))).push (seqObj "tuple" vs.toArray 0)).push (seqObj "list" #[] 0)=g6 at ho6 keep6 ⊢
  dsimp only
  have h2':¬vs.toArray.size<2:=by rw[Ah];omega
  rw[if_neg h2',if_neg h2']
  refine Ac (Cu (kind g6 (fun κ' s'=>κ'=κ∧s'={s with heap:=g6}) keep6 ⟨rfl,rfl⟩) (fun κ' s' hk=>?_) fun _ _ x=>x.elim)
  obtain⟨rfl,rfl⟩:=hk
  have L:Tim.sI prog w A.in1.in1 (fun _ _=>False) {s with heap:=g6} κ' (vs.toArray.zip vs.toArray) key:=fun x y st Q' hx hy hk hq=>by
   rw[kH]at hx hy
   obtain⟨i,hi,rfl⟩:=As.mp hx
   obtain⟨j,hj,rfl⟩:=As.mp hy
   rw[lt'_eq]
   refine Ao (wpS_get ?_)
   rw[hk]
   refine Ao (FE (wpAny_attempt (Cu (ask g6 i j (fun c s'=>s'={s with heap:=g6}∧c=decide (key (itm vs i)<key (itm vs j))) keep6 (Ax.mp hi) (Ax.mp hj) ⟨rfl,rfl⟩) (fun c s' hc=>?_) fun _ _ hF=>hF.elim)))
   obtain⟨rfl,rfl⟩:=hc
   exact⟨rfl,Aq hq⟩
  refine Ac (Cu (Tim.b0 L hD (st:=G2 κ' (vs.toArray.zip vs.toArray) #[] 7 none) (Q:=fun _ st'=>Tim.Bs κ' (vs.toArray.zip vs.toArray) st'∧Tim.SIn key (arrOf st') 0 (vs.toArray.zip vs.toArray).size) ⟨rfl,.refl _,rfl⟩ rfl (by rw[hs0];exact h2) fun st' a b=>⟨a,b⟩) ?_ fun _ _ x=>x.elim)
  rintro ⟨⟨⟩,st'⟩ s' ⟨rfl,hB,hS⟩
  dsimp only at hB hS ⊢
  obtain⟨ix,p1,p2⟩:=un hB.perm
  have hout:(arrOf st').map (·.2)=(ix.map fun i=>vs.getD i Aj).toArray:=by
   apply Gp.mp
   rw[Array.toList_map,←p2,Bl]
   rfl
  have hixl:(ix.map fun i=>vs.getD i Aj).toArray.size≤Az:=by rw[Ah,Ag,ixl p1,Bi];omega
  rw[show (arrOf st').map (·.2)=_ from hout]
  refine Ac (GR ho6 rfl ?_)
  refine Ac (FW ho6 rfl ?_ (Bp _) (Nat.le_succ_of_le hixl))
  rw[hB.fail]
  simp only[bne_self_eq_false,AU,if_false]
  refine Al ⟨_,rfl,Al ⟨_,rfl,?_⟩⟩
  refine h _ _ ix (fun b o e=>?_) p1 (BM.mpr fun i j hi hj hij=>?_) (Fq ho6 fun _=>(ix.map fun i=>vs.getD i Aj).toArray)
  . have hlt:b<s.heap.objs.size:=Au e
    rw[CU _ _ _ _ (AG (Bt hlt))]
    exact keep6 b o e
  . have:=hS i j (DR hij) (by rw[hs0,←ixl p1];exact hj)
    rw[DW,DW,kk_at i hi p2,kk_at j hj p2]at this
    rcases Int.lt_or_eq_of_le this with z|z
    . exact z
    . have:=(Gf (p1.nodup_iff.mpr CY)).mp (dis _ _ (ixm p1 i hi) (ixm p1 j hj) z)
      exact absurd this (AG hij)
end
theorem jP{us:List Value}:∀{a b:List Int},vh us a→vh us b→a=b:=by
 induction us with
 |nil=>intro a b h k;cases h;cases k;rfl
 |cons u us ih=>
  intro a b h k
  cases h with
  |cons h=>
   cases k with
   |cons k=>rw[ih h k]
noncomputable def keyOf(its:List Value)(zs:List (List Int))(K:List Int→Int)(x:Keyed):Int:=
 open Classical in K (zs.getD (its.findIdx fun v=>decide (v=x.1)) [])
theorem wX{h:Heap}{its:List Value}{zs:List (List Int)}{K:List Int→Int}(tv:TV h its zs){i:Nat}{z:List Int}(hz:zs[i]?=some z):keyOf its zs K (itm its i)=K z:=by
 classical
 obtain⟨b,o,n,us,f1,f2,f3,f4,f5⟩:=tv.2 i z hz
 have e1:its.getD i Aj=.ref b:=by rw[Ae,f1];rfl
 have hlt:its.findIdx (fun v=>decide (v=its.getD i Aj))<its.length:=List.findIdx_lt_length_of_exists ⟨.ref b,AM f1,by rw[e1];exact decide_eq_true rfl⟩
 have hp:=List.findIdx_getElem (w:=hlt)
 have hj:=of_decide_eq_true hp
 have hlt':its.findIdx (fun v=>decide (v=its.getD i Aj))<zs.length:=by rw[←tv.1];exact hlt
 obtain⟨b',o',n',us',g1,g2,g3,g4,g5⟩:=tv.2 _ _ (Aa hlt')
 have e2:Bc b'=.ref b:=by
  rw[Aa hlt]at g1
  rw[←e1,←hj];exact(AO g1).symm
 cases e2
 rw[f2]at g2
 cases g2
 rw[f4]at g4
 injection g4 with g4
 have g4:=Gp.mpr g4
 have g4:us=us':=g4
 subst g4
 unfold keyOf
 show K (zs.getD (its.findIdx fun v=>decide (v=its.getD i Aj)) [])=K z
 rw[Ae,Aa hlt',E9,jP g5 f5]
theorem TV.up{h h':Heap}{its:List Value}{zs:List (List Int)}(tv:TV h its zs)(keep:∀b o,h.get? b=some o→h'.get? b=some o):TV h' its zs:=⟨tv.1,fun i z e=>by
 obtain⟨b,o,n,us,f1,f2,f3⟩:=tv.2 i z e
 exact⟨b,o,n,us,f1,keep _ _ f2,f3⟩⟩
theorem sQ{X:Cx}:yA X (.builtin "sorted") (fun xs H Q=>∃p ys zs,∃K:List Int→Int,xs=[.ref p]∧SqL X.K H p ys∧dM X.K H ys zs∧(zs.length<2∨∀z∈zs,z≠[])∧zs.Nodup∧(∀a∈zs,∀b∈zs,y8 a b=decide (K a<K b))∧(∀a∈zs,∀b∈zs,K a=K b→a=b) ∧
 ∀(l:Addr) (ix:List Nat),H l=none→ix.Perm (Ak zs.length)→(ix.map fun i=>zs.getD i []).Pairwise (fun a b=>K a<K b)→Q (.ref l) (upd H l (.lst (ix.map fun i=>ys.getD i .non)))):=by
 intro pins s σ H xs us Q I r h
 obtain⟨p,ys,zs,K,rfl,hq,hP,hne,hnd,hK,hKi,q⟩:=h
 obtain⟨u,rfl,rx⟩:=vals1 r
 cases rx
 obtain⟨its,rv,pl,hz⟩:=I.list hq
 have hlen:=rv.length
 have hl:s.heap.IsList p its.toArray:=pl.isList
 have tv:=hP.tv I rv
 have hn:its.length=zs.length:=tv.1
 have hD:s.heap.get? (s.heap.objs.size+1)=none:=Heap.get?_none_of_le (EV _)
 by_cases h2:its.length<2
 . refine oE hl h2 fun h' c keep e=>?_
   obtain⟨hn',I'⟩:=I.nz (h':=h') hz rv hD (fun b o _ e=>keep b o e) (fun m ⟨o,es,ep,ho,r⟩=>⟨o,es,ep,keep _ o ho,r⟩) e
   have ey:(Ak zs.length).map (fun i=>ys.getD i .non)=ys:=by rw[←hn,←hlen];exact qi _
   have:=q _ (Ak zs.length) hn' (.refl _) (by
    rw[qi]
    match zs,show zs.length<2 by omega with
    |[],_=>exact .nil
    |[_],_=>exact EL _ _)
   rw[ey]at this
   exact⟨V.ref _,_,I',rfl,this⟩
 . have hne:∀z∈zs,z≠[]:=hne.resolve_left (by omega)
   have hzl:its.length≤16777216:=by rw[Bi]at hz;omega
   have gz:∀{i:Nat},i<its.length→∃z,zs[i]?=some z∧zs.getD i []=z∧z∈zs:=fun{i} hi=>by
    rw[hn]at hi
    exact⟨zs[i],Aa hi,by rw[Ae,Aa hi];rfl,BI hi⟩
   refine eU (κ:=tuples' true) (key:=keyOf its zs K) hl (by omega) hzl (fun h' Q' keep hq'=>?_) (fun h' i j C keep hi hj hc=>?_) (fun i j hi hj e=>?_) fun h' c ix keep hp hw e=>?_
   . obtain⟨fs,kt,kl,ki⟩:=(tv.up keep).rh hne
     refine kat_kind (s:={s with heap:=h'}) (T:=.type "int") kt (by omega) (fun v hv=>?_) rfl hq'
     obtain⟨i,t,rfl⟩:=ki v hv
     exact Looks.of_pure rfl
   . obtain⟨z,a1,a2,a3⟩:=gz hi
     obtain⟨z',b1,b2,b3⟩:=gz hj
     rw[wX tv a1,wX tv b1,←hK z a3 z' b3,←kK]at hc
     obtain⟨b,o,n,us,f1,f2,f3,f4,f5⟩:=(tv.up keep).2 i z a1
     obtain⟨b',o',n',us',f1',f2',f3',f4',f5'⟩:=(tv.up keep).2 j z' b1
     rw[Ae,Ae,f1,f1']
     refine kat_lt (s:={s with heap:=h'}) f2 f4 f2' f4' ?_
     rw[Ah,Ah,qW f5,qW f5']
     exact ox (s:={s with heap:=h'}) 0 f5 f5' hc
   . obtain⟨z,a1,a2,a3⟩:=gz hi
     obtain⟨z',b1,b2,b3⟩:=gz hj
     rw[wX tv a1,wX tv b1]at e
     have ez:=hKi z a3 z' b3 e
     subst ez
     exact(List.getElem?_inj (by omega) hnd).mp (a1.trans b1.symm)
   . have hlt:∀i∈ix,i<its.length:=fun i hi=>Ax.mp (hp.mem_iff.mp hi)
     obtain⟨hn',I'⟩:=I.nz (h':=h') (ys:=ix.map fun i=>ys.getD i .non) (by rw[Ag,hp.length_eq,AV];omega) (qw rv ix fun i hi=>by have:=hlt i hi;omega) hD (fun b o _ e=>keep b o e) (fun m ⟨o,es,ep,ho,r⟩=>⟨o,es,ep,keep _ o ho,r⟩) e
     refine⟨V.ref _,_,I',rfl,q _ ix hn' (by rw[←hn];exact hp) ?_⟩
     rw[Co]
     refine hw.imp_of_mem fun{i j} hi hj w=>?_
     obtain⟨z,a1,a2,a3⟩:=gz (hlt i hi)
     obtain⟨z',b1,b2,b3⟩:=gz (hlt j hj)
     rw[wX tv a1,wX tv b1]at w
     rw[a2,b2]
     exact w
theorem sk:∀a:List Int,y8 a a=false
 |[]=>rfl
 |x::xs=>by unfold y8;rw[if_pos rfl];exact sk xs
theorem ow:∀{a b:List Int},y8 a b=false→a≠b→y8 b a=true
 |[],[],_,h=>absurd rfl h
 |[],_::_,h,_=>by cases h
 |_::_,[],_,_=>rfl
 |x::xs,y::ys,h,n=>by
  unfold y8 at h ⊢
  by_cases e:x=y
  . subst e
    rw[if_pos rfl]at h ⊢
    exact ow h fun e=>n (by rw[e])
  . rw[if_neg e]at h
    rw[if_neg (fun z=>e z.symm)]
    have:=of_decide_eq_false h
    exact decide_eq_true (by omega)
theorem pX:∀{a b c:List Int},y8 a b=true→y8 b c=true→y8 a c=true
 |[],[],_,h,_=>by cases h
 |_::_,[],_,h,_=>by cases h
 |_,_::_,[],_,h=>by cases h
 |[],_::_,_::_,_,_=>rfl
 |x::xs,y::ys,z::zs,h,k=>by
  unfold y8 at h k ⊢
  by_cases e:x=y
  . subst e
    rw[if_pos rfl]at h
    by_cases e':x=z
    . rw[if_pos e']at k ⊢;exact pX h k
    . rw[if_neg e']at k ⊢;exact k
  . rw[if_neg e]at h
    have h:=of_decide_eq_true h
    by_cases e':y=z
    . subst e'
      rw[if_neg e];exact decide_eq_true h
    . rw[if_neg e']at k
      have k:=of_decide_eq_true k
      rw[if_neg (by omega)]
      exact decide_eq_true (by omega)
noncomputable def jN(z:List Int):List (List Int)→List (List Int)
 |[]=>[z]
 |y::ys=>if y8 y z then y::jN z ys else z::y::ys
noncomputable def wJ:List (List Int)→List (List Int)
 |[]=>[]
 |z::zs=>jN z (wJ zs)
theorem u0(z:List Int):∀l,(jN z l).Perm (z::l)
 |[]=>.refl _
 |y::ys=>by
  unfold jN
  by_cases h:y8 y z=true
  . rw[if_pos h];exact((u0 z ys).cons y).trans (.swap z y ys)
  . rw[if_neg h]
theorem yr:∀l,(wJ l).Perm l
 |[]=>.refl _
 |z::zs=>(u0 z _).trans ((yr zs).cons z)
theorem kF(z:List Int):∀l,z ∉ l→l.Pairwise (fun a b=>y8 a b=true)→(jN z l).Pairwise (fun a b=>y8 a b=true)
 |[],_,_=>EL _ _
 |y::ys,hz,h=>by
  rw[Bx]at h
  rw[AF,not_or]at hz
  unfold jN
  by_cases e:y8 y z=true
  . rw[if_pos e]
    refine Bx.mpr ⟨fun a ha=>?_,kF z ys hz.2 h.2⟩
    rcases AF.mp ((u0 z ys).mem_iff.mp ha) with q|q
    . rw[q];exact e
    . exact h.1 a q
  . rw[if_neg e]
    have e:=ow (F8.mpr e) fun q=>hz.1 q.symm
    refine Bx.mpr ⟨fun a ha=>?_,Bx.mpr h⟩
    rcases AF.mp ha with q|q
    . rw[q];exact e
    . exact pX e (h.1 a q)
theorem rR:∀{l:List (List Int)},l.Nodup→(wJ l).Pairwise (fun a b=>y8 a b=true)
 |[],_=>.nil
 |z::zs,h=>by
  rw[BE]at h
  exact kF z _ (fun q=>h.1 ((yr zs).mem_iff.mp q)) (rR h.2)
theorem qd{a b:List Int}(h:y8 a b=true):y8 b a=false:=by
 cases e:y8 b a with
 |false=>rfl
 |true=>rw[←sk a];exact(pX h e).symm
theorem ni{zs:List (List Int)}(hn:zs.Nodup){a b:List Int}(ha:a∈zs)(hb:b∈zs):y8 a b=decide (((wJ zs).idxOf a:Int)<(wJ zs).idxOf b):=by
 have hs:=rR hn
 have i1:=C8 ((yr zs).mem_iff.mpr ha)
 have i2:=C8 ((yr zs).mem_iff.mpr hb)
 have e1:=C9 i1
 have e2:=C9 i2
 rcases Nat.lt_trichotomy ((wJ zs).idxOf a) ((wJ zs).idxOf b) with h|h|h
 . have:=BM.mp hs _ _ i1 i2 h
   rw[e1,e2]at this
   rw[this];exact(decide_eq_true (by omega)).symm
 . have:a=b:=by rw[←e1,←e2];exact getElem_congr_idx h
   rw[this,sk];exact(decide_eq_false (by omega)).symm
 . have:=BM.mp hs _ _ i2 i1 h
   rw[e1,e2]at this
   rw[qd this];exact(decide_eq_false (by omega)).symm
theorem eT{zs:List (List Int)}{a b:List Int}(ha:a∈zs)(hb:b∈zs)(h:((wJ zs).idxOf a:Int)=(wJ zs).idxOf b):a=b:=by
 have i1:=C8 ((yr zs).mem_iff.mpr ha)
 have i2:=C8 ((yr zs).mem_iff.mpr hb)
 rw[←C9 i1,←C9 i2]
 exact getElem_congr_idx (by omega)
theorem eS{zs l:List (List Int)}(hn:zs.Nodup)(hp:l.Perm zs)(h:l.Pairwise fun a b=>((wJ zs).idxOf a:Int)<(wJ zs).idxOf b):l=wJ zs:=by
 refine EB (le:=fun a b=>y8 a b=true) (fun a b _ _ h k=>?_) (h.imp_of_mem fun{a b} ha hb w=>?_) (rR hn) (hp.trans (yr zs).symm)
 . rw[qd h]at k;cases k
 . rw[ni hn (hp.mem_iff.mp ha) (hp.mem_iff.mp hb)];exact decide_eq_true w
noncomputable def plI(z:Int × Int):List Int:=[z.1,z.2]
noncomputable def gw:List Int→Int
 |[a,b]=>zp (a,b)
 |_=>0
theorem cb{a b:Int × Int}(ha:0≤a.2∧a.2<1000)(hb:0≤b.2∧b.2<1000):y8 (plI a) (plI b)=decide (gw (plI a)<gw (plI b)):=by
 rw[show gw (plI a)=zp a from rfl,show gw (plI b)=zp b from rfl,decide_eq_decide.mpr (hJ ha hb)]
 unfold plI y8 y8 y8
 by_cases h1:a.1=b.1
 . rw[if_pos h1]
   by_cases h2:a.2=b.2
   . rw[if_pos h2];exact(decide_eq_false (by omega)).symm
   . rw[if_neg h2];exact decide_eq_decide.mpr (by omega)
 . rw[if_neg h1];exact decide_eq_decide.mpr (by omega)
theorem bY{a b:Int × Int}(h:plI a=plI b):a=b:=by
 unfold plI at h
 injection h with h1 h2
 injection h2 with h2 _
 exact Es h1 h2
end L2
end
section
namespace L2
open PySem PyProof.Rows
section
variable {X:Cx}{N:List Str}{csc:Scope}{fr:List (Option Nat)}{elt tg iter tg2 iter2:Expr}{ifs ifs2:List Expr}{cpos:Pos}{wi wi2:TI}{g g2:TG}{ts ts2:List TT}{te:TE}
theorem fu{y:Str}{py spos:Pos}{i:Nat}(hc:X.calm=true)(S:zo X N csc fr)(hi:PI X tg iter wi)(hg:∀C s0 H0 ex,PG (X.comp N csc C s0 H0 ex) tg g)(ht:∀C s0 H0 ex,PTs (X.comp N csc C s0 H0 ex) ifs ts)
 (hi2:∀C s0 H0 ex,PI (X.comp N csc C s0 H0 ex) tg2 iter2 wi2) (hg2:∀C s0 H0 ex,PG (X.comp N csc C s0 H0 ex) tg2 g2) (ht2:∀C s0 H0 ex,PTs (X.comp N csc C s0 H0 ex) ifs2 ts2)
 (he:∀C s0 H0 ex,PE (X.comp N csc C s0 H0 ex) elt te) (hN:X.N.Nodup) (hy:X.N[i]?=some y) (hx:Loc X.env.scope y)
 (hsw:Eo (.ListComp elt [⟨tg,iter,ifs,0⟩,⟨tg2,iter2,ifs2,0⟩] csc cpos) (some (.Name y py)) spos.line X.env=pure true:=by rfl)
 (hf:X.fn y=true∨X.env.scope.names.lookup y=some .local:=by first|exact .inl rfl|exact .inr rfl|assumption)
 (hs:∀x,Bb iter X.env x=pure x:=by intro _;rfl)
 (hs2:∀env x,Bb iter2 env x=pure x:=by intro _ _;rfl) :
 PS X (.Assign [.Name y py] (.ListComp elt [⟨tg,iter,ifs,0⟩,⟨tg2,iter2,ifs2,0⟩] csc cpos) spos) (qG (vL fr wi g ts fun acc=>rW wi2 g2 ts2 (vn acc te)) (vD i)):=
 nU hc S hi (B:=fun acc env=>(do
         let x ←eval iter2 env
         standAt iter2.pos
         let x ←Bb iter2 env x
         let _ ←runOwn (.compStart (.ListComp elt [⟨tg,iter,ifs,0⟩,⟨tg2,iter2,ifs2,0⟩] csc cpos) 1 (←holding [x] (pyIter x)) acc env) env)) (ZA elt tg iter ifs tg2 iter2 ifs2 csc cpos) hg ht
  (fun C s0 H0 ex acc=>nN rfl hc (hi2 C s0 H0 ex) (hg2 C s0 H0 ex) (ht2 C s0 H0 ex) (sG (he C s0 H0 ex)) (hs2 _)) hN hy hx hsw hf hs
end
end L2
end
section
namespace L2
open PySem PyProof.Rows
noncomputable def intsOf:List Expr→Option (List Int)
 |[]=>some []
 |.Constant (.int i) _ _::es=>(intsOf es).map fun r=>i::r
 |.UnaryOp .USub (.Constant (.int i) _ _) _::es=>(intsOf es).map fun r=>-i::r
 |_=>none
end L2
end
section
namespace L2
open PySem PyProof.Rows
section
variable {X:Cx}{a b:Expr}{rest:List Expr}{ta tb:TE}{pos:Pos}
noncomputable def V9(K:Av)(ta tb:TE):TE:=fun σ H Q=>ta σ H fun x H1=>∃c,dJ K x H1 c∧if c=true then Q x H1 else tb σ H1 Q
theorem Yy(ha:PE X a ta)(hb:PE X (.BoolOp .Or (b::rest) pos) tb):PE X (.BoolOp .Or (a::b::rest) pos) (V9 X.K ta tb):=by
 intro pins s σ H Q I h
 refine BoolOp_or (thn (ha pins s σ H _ I h) fun v s1 ⟨x,H1,I1,r1,c,ht,q1⟩=>?_)
 refine thn (eo pins s1 σ H1 x v (fun k H2=>if k=true then Q x H2 else tb σ H2 Q) I1 r1 ⟨c,ht,q1⟩) fun k s2 ⟨H2,I2,q2⟩=>?_
 cases k with
 |false=>exact hb pins s2 σ H2 Q I2 q2
 |true=>exact⟨x,H2,I2,r1,q2⟩
end
noncomputable def vC(n:Nat)(lo hi:Option Int)(c:Int):Int × Nat:=((BA lo hi (some c) n).1,(if c > 0 then (if (BA lo hi (some c) n).1<(BA lo hi (some c) n).2.1 then ((BA lo hi (some c) n).2.1-(BA lo hi (some c) n).1+c-1)/c else 0) else (if (BA lo hi (some c) n).1 > (BA lo hi (some c) n).2.1 then ((BA lo hi (some c) n).1-(BA lo hi (some c) n).2.1-c-1)/(-c) else 0):Int).toNat)
theorem vM(its:List Value)(lo hi:Option Int)(c:Int):Hf its.toArray lo hi (some c)=(za its (vC its.length lo hi c).1 c (vC its.length lo hi c).2).toArray:=by
 unfold Hf sliceRange za vC
 rw[Cy]
 refine congrArg List.toArray ?_
 have e:(BA lo hi (some c) its.toArray.size).2.2=c:=rfl
 rw[e]
 simp only[Ah]
 refine congrArg (fun f=>List.filterMap f _) ?_
 funext k
 show its.toArray[_]?=_
 rw[List.getElem?_toArray,Int.mul_comm]
noncomputable def VG(K:Av):V→Option Int→Option Int→Option Int→Hp→VK→Prop:=fun x lo hi st H Q=>∃a xs c,x=.ref a∧SqL K H a xs∧st=some c∧c≠0∧∀p,H p=none→Q (.ref p) (upd H p (.lst (za xs (vC xs.length lo hi c).1 c (vC xs.length lo hi c).2)))
theorem ml{X:Cx}{e:Expr}{te:TE}{lo hi:Option Expr}{st:Expr}{tl th tc:TO}{pos p2:Pos}(he:PE X e te)(hl:PO X lo tl)(hu:PO X hi th)(hc:PO X (some st) tc):PE X (.Subscript e (.Slice lo hi (some st) p2) pos) (VX (VG X.K) te tl th tc):=by
 intro pins s σ H Q I h
 refine Gd (thn (he pins s σ H _ I h) fun v s1 ⟨x,H1,I1,r1,q1⟩=>?_)
 refine wpAny_Slice (thn (hl pins s1 σ H1 _ I1 q1) fun vl s2 ⟨l,H2,I2,pl,q2⟩=>thn (hu pins s2 σ H2 _ I2 q2) fun vu s3 ⟨u,H3,I3,pu,q3⟩=>thn (hc pins s3 σ H3 _ I3 q3) fun vc s4 ⟨c,H4,I4,pc,q4⟩=>?_)
 obtain⟨a,xs,cc,rfl,hx,ec,h0,g⟩:=q4
 subst ec
 cases r1
 have I5:Inv X pins σ H4 {s4 with heap:=s4.heap.push {cls:=.type "slice",data:=.fields #[vl,vu,vc]}}:=I4.kept (t':=s4.toks) fun b ob q=>Af _ q
 obtain⟨its,r,ht,hz⟩:=I5.list hx
 have hlen:=r.length
 show wpAny (model X.prog X.w) X.A (E2 e (.Slice lo hi (some st) p2) (.ref a) (.ref s4.heap.objs.size)) (EP X pins σ Q) X.xe {s4 with heap:=s4.heap.push {cls:=.type "slice",data:=.fields #[vl,vu,vc]}}
 refine tail_any (ops:=[.ref a,.ref s4.heap.objs.size]) ht.isList.typeIs F5.lookup (Gi ht.isList (FI ..) pl pu pc (fun z=>h0 (AO z)) ?_ (by rw[Ah]<;>omega)) (by with_unfolding_all rfl)
 rw[vM,←hlen]
 refine⟨.ref _,_,I5.laid (t':=s4.toks) (o:=.lst (za xs (vC xs.length l u cc).1 cc (vC xs.length l u cc).2)) (fun b ob q=>Af _ q) (Ai _) ?_,rfl,g _ (I5.hok.fresh (Ai _))⟩
 have rp:=r.za (vC xs.length l u cc).1 cc (vC xs.length l u cc).2
 have bound:(za xs (vC xs.length l u cc).1 cc (vC xs.length l u cc).2).length≤xs.length:=by
  have:=slicePick_size_le its.toArray l u (some cc)
  rw[vM,Ah,Ah,←hlen,←rp.length]at this
  exact this
 exact⟨AB bound hz,_,0,rp,AI _ rfl⟩
end L2
end
section
namespace L2
open PySem PyProof PyProof.Rows
section
variable {X:Cx}
noncomputable def WR(z:Str)(ys:List Str):Str:=Txt.join z ys
end
end L2
end
section
namespace L2
open PySem PySem.Spec PyProof PyProof.Rows
theorem nD:typeLookup (.type "tuple") (dunderI "add")=(pure none:Sem (Option Value)):=rfl
section
variable {X:Cx}
theorem jR:OpR X (Ep .Add) ao:=by
 intro pins s σ H x y v u Q I rx ry h
 obtain⟨a,b,xs,ys,rfl,rfl,ha,hb,hz,g⟩:=h
 cases rx
 cases ry
 obtain⟨its,r1,p1,_⟩:=I.tuple (.inl (.inl ha))
 obtain⟨its2,r2,p2,_⟩:=I.tuple (.inl (.inl hb))
 obtain⟨⟨cls,dd,data,sl⟩,ho,hc,n,hd⟩:=id p1
 obtain⟨⟨cls2,dd2,data2,sl2⟩,ho2,hc2,n2,hd2⟩:=id p2
 simp only at hc hd hc2 hd2
 subst hc hd hc2 hd2
 have e:its.toArray++its2.toArray=(its++its2).toArray:=by simp
 have tA:s.TypeIs (.ref a) "tuple":=⟨_,ho,rfl⟩
 have tB:s.TypeIs (.ref b) "tuple":=⟨_,ho2,rfl⟩
 refine inplaceOp_concat tA tB nD E5 FU ?_
 by_cases hx:xs=[]
 . subst hx
   cases r1
   exact B0 Ct tA Cm (Ca _ _) (tuple_addW0 a b #[] its2.toArray n n2 dd dd2 sl sl2 rfl) ⟨ho,ho2,⟨.ref b,H,I,rfl,g b H (um.refl H) hb⟩⟩
 . have hv:its≠[]:=fun z=>hx (r1.wH.mp z)
   by_cases hy:ys=[]
   . have hw:its2=[]:=r2.wH.mpr hy
     subst hy
     rw[AZ]at g
     exact B0 Ct tA Cm (Ca _ _) (tuple_addW1 a b its.toArray its2.toArray n n2 dd dd2 sl sl2 (by simpa using hv) (by simp[hw])) ⟨ho,ho2,⟨.ref a,H,I,rfl,g a H (um.refl H) ha⟩⟩
   . have hw:its2≠[]:=fun z=>hy (r2.wH.mp z)
     refine B0 Ct tA Cm (Ca _ _) (tuple_addW2 a b its.toArray its2.toArray n n2 dd dd2 sl sl2 (by simpa using hv) (by simpa using hw) (by rw[Ah,Ah,←r1.length,←r2.length];exact hz)) ⟨ho,ho2,?_⟩
     rw[e]
     refine⟨.ref s.heap.objs.size,_,I.laid (t':=s.toks) (o:=.tup (xs++ys)) (fun b ob q=>Af _ q) (Ai _) ?_,rfl,g.new _ (I.hok.fresh (Ai _))⟩
     exact⟨by rw[Aw];exact hz,_,r1.append r2,uB.new _ _⟩
noncomputable def VN(ns:List Int):Bool:=decide (ns.length≤1000)&&ns.all fun n=>decide (-1000000≤n)&&decide (n≤1000000)
end
end L2
end
section
namespace L2
open PySem PySem.W PySem.Calls PyProof PyProof.Rows
open AutoSeq1 (wpAny_loadPart')
open SeqAt
theorem tx{M:Model}{A:Around}{E:Value→Shared→Prop}{s:Shared}{β:Type}(f:Nat→β→Sem (ForInStep β))(I:List Nat→β→Shared→Prop)(Q:β→Shared→Prop)
 (turn:∀x rest b s,I (x::rest) b s→wpAny M A (f x b) (fun r s'=>match r with|.yield b'=>I rest b' s'|.done b'=>Q b' s') E s)
 (fin:∀b s,I [] b s→Q b s) (r:Gr) (b:β) (h:I (List.range' r.start r.size r.step) b s):wpAny M A (forIn r b f) Q E s:=by
 rw[Gr.forIn_eq_forIn_range']
 exact wpAny_forIn_list f I Q turn fin _ b h
theorem qH(l:Addr)(items:Array Value)(n:Nat)(dd:Option Addr)(sl:Array (Option Value))(x:Value)(e:Value→Bool)(j:Nat)(hj:j<items.size)(hit:e items[j]=true)(hno:∀m (hm:m<items.size),m<j→e items[m]=false) :
 Meets (Builtin.«tuple.index» ⟨[.ref l,x],[]⟩)
  (fun A R s=>s.heap.get? l=some {cls:=.type "tuple",dict:=dd,data:=.seq items n,slots:=sl}∧(∀y,y∈items→EqAt A.in1 s y x (e y))∧R (.ok (.ret (.int j s.toks))) {s with toks:=s.toks+1}):=
 .of_wp fun prog w A R s h=>by
  obtain⟨hp,g,d,tk,os⟩:=s;obtain⟨hl,he,h⟩:=h
  wp_walk using Ej hl,tx _ (fun rest b s'=>b.1=none∧s'=⟨hp,g,d,tk,os⟩∧∃i,i≤j∧rest=List.range' i (items.size-i)) _
  case turn=>
   rintro y rest b s' ⟨hb,rfl,i,hij,hr⟩
   have hlt:i<items.size:=Nat.lt_of_le_of_lt hij hj
   rw[show items.size-i=(items.size-(i+1))+1 by omega,List.range'_succ]at hr
   obtain⟨rfl,rfl⟩:=G9 hr
   simp only[Array.getElem?_eq_getElem hlt]
   refine Ac (he _ (Array.getElem_mem hlt) prog w _ _ ?_)
   by_cases hy:y=j
   . subst hy
     rw[hit]
     wp_walk
     exact⟨_,rfl,h⟩
   . rw[hno y hlt (by omega)]
     wp_walk
     exact⟨rfl,rfl,y+1,by omega,rfl⟩
  case fin=>
   rintro b s' ⟨hb,rfl,i,hij,hr⟩
   rw[show items.size-i=(items.size-(i+1))+1 by omega,List.range'_succ]at hr
   cases hr
  case h=>
   refine⟨rfl,rfl,0,Bp _,?_⟩
   simp[Gr.size]
noncomputable def f9(K:Av):V→List V→Hp→VK→Prop:=fun x vs H Q=>∃t xs y j,x=.ref t∧vs=[y]∧SqT K H t xs∧xS y=true∧xs.all xS=true∧xs.findIdx? (fun z=>eqV z y)=some j∧Q (.int (j:Nat)) H
theorem gE{x:V}:∀{xs:List V} {us:List Value},Vals xs us→xs.all xS=true→us.map (eqU x)=xs.map fun y=>eqV y x
 |_,_,.nil,_=>rfl
 |y::ys,u::us,.cons r rs,h=>by
  rw[B1,Ab]at h
  rw[AA,AA,gE rs h.2,pN r h.1]
section
variable {X:Cx}
theorem jt:MtR X "tuple.index" (f9 X.K):=by
 intro pins s σ H x xs v us Q I rx rs h
 obtain⟨t,ys,y,j,rfl,rfl,ht,fy,fs,hx,q⟩:=h
 cases rx
 obtain⟨u,rfl,ru⟩:=vals1 rs
 obtain⟨its,r,p1,_⟩:=I.tuple ht
 obtain⟨⟨cls,dd,data,sl⟩,ho,hc,n,hd⟩:=id p1
 simp only at hc hd
 subst hc hd
 have hm:=gE (x:=y) r fs
 have at_:∀(i:Nat) (h1:i<its.length) (h2:i<ys.length),eqU y its[i]=eqV ys[i] y:=fun i h1 h2=>by
  have:=congrArg (·[i]?) hm
  simp only[Ay,Aa h1,Aa h2,Fu,Option.some.injEq]at this
  exact this
 have hl:=r.length
 obtain⟨hj,hit,hno⟩:=EX.mp hx
 refine B0 F.slot_tuple_index ⟨_,ho,rfl⟩ F.entry_tuple_index (F.args_tuple_index_2 _ _) (qH t its.toArray n dd sl u (eqU y) j (by rw[Ah];omega) ?_ fun m hm hmj=>?_) ⟨ho,fun w hw=>xT ru fy r fs w (by simpa using hw),?_⟩
 . rw[List.getElem_toArray,at_ j (by omega) hj];exact hit
 . rw[Ah]at hm
   rw[List.getElem_toArray,at_ m hm (by omega)]
   have:=hno m hmj
   simpa using this
 . exact⟨.int _,H,I.tok _,⟨s.toks,rfl⟩,q⟩
end
section
variable {prog:Program}{w:World}{A:Around}{E:Value→Shared→Prop}{s:Shared}
theorem oD{l:Addr}{T:String}{o:Obj}{vs:List Value}{n:Nat}{ns:List Int}{Q:Value→Shared→Prop}(hT:T="list"∨T="tuple")(ho:s.heap.get? l=some o)(hc:o.cls=.type T)(hd:o.data=.seq vs.toArray n)(hI:IntsAre vs ns)(h64:vs.length<64)
 (h:∀(D:Addr) (h':Heap) (out:Array Value) (ns':List Int) (c:Nat),s.heap.get? D=none→(∀b o,s.heap.get? b=some o→h'.get? b=some o)→h'.get? D=some (seqObj "list" out c)→IntsAre out.toList ns'→ns'.Perm ns→ns'.Pairwise (·≤·)→Q (.ref D) {s with heap:=h'}) :
 wpAny (model prog w) A (call (.builtin "sorted") [.ref l]) Q E s:=by
 refine El kind_sorted plain_sorted entry_sorted (args_sorted1 _) ?_
 unfold Builtin.«sorted»
 refine Ac (m:=checkCount "sorted" 1 1 _) (Al ?_)
 refine Ac (wpAny_collect_seq l hT ho hc hd (fun h1 kp=>?_) (by rw[Ah,Bi];omega))
 refine Ac (E4 ?_ (by rw[Bi];simp;omega))
 have hoL:(h1.push (seqObj "list" vs.toArray 0)).get? h1.objs.size=some (seqObj "list" vs.toArray 0):=AI _ rfl
 show wpAny _ _ _ _ _ {s with heap:=h1.push (seqObj "list" vs.toArray 0)}
 refine Ac (BB (Dw GV ⟨_,hoL,rfl⟩ GN (list_sort_tree hoL hI h64 fun out ns' a1 a2 a3=>⟨_,rfl,?_⟩) (GW _)))
 obtain⟨c,ec⟩:=sortedHeap_at (out:=out) hoL
 refine Al ⟨_,rfl,h h1.objs.size _ out ns' c ?_ (fun b o e=>?_) ec a1 a2 a3⟩
 . cases e:s.heap.get? h1.objs.size with
   |none=>rfl
   |some o'=>exact absurd (Au (kp _ _ e)) (CO _)
 . have hb:=Au (kp b o e)
   rw[sortedHeap_old (AG hb) (by rw[size_push'];exact Bt hb),DP _ _ _ (AG hb)]
   exact kp b o e
end
theorem oo:∀{ns:List Int} {us:List Value},Vals (ns.map V.int) us→IntsAre us ns
 |[],_,.nil=>.nil
 |n::ns,_,.cons ⟨t,e⟩ r=>by subst e;exact .cons _ _ (oo r)
theorem oO:∀{ns:List Int} {us:List Value},IntsAre us ns→Vals (ns.map V.int) us
 |_,_,.nil=>.nil
 |_,_,.cons _ _ r=>.cons ⟨_,rfl⟩ (oO r)
theorem n5{X:Cx}:yA X (.builtin "sorted") (fun xs H Q=>∃p ns,xs=[.ref p]∧(SqL X.K H p (ns.map V.int)∨SqT X.K H p (ns.map V.int))∧ns.length<64 ∧
 ∀(l:Addr) (ns':List Int),H l=none→ns'.Perm ns→ns'.Pairwise (·≤·)→Q (.ref l) (upd H l (.lst (ns'.map V.int)))):=by
 intro pins s σ H xs us Q I r h
 obtain⟨p,ns,rfl,hq,h64,q⟩:=h
 obtain⟨u,rfl,rx⟩:=vals1 r
 cases rx
 have go:∀{its:List Value} {T:String} {o:Obj} {n:Nat},Vals (ns.map V.int) its→(T="list"∨T="tuple")→s.heap.get? p=some o→o.cls=.type T→o.data=.seq its.toArray n →
  wpAny (model X.prog X.w) X.A (call (.builtin "sorted") [.ref p]) (fun v s'=>∃x H',Inv X pins σ H' s'∧RelV x v∧Q x H') X.xe s:=fun{its T o n} rv hT ho hc hd=>by
  have hl:=rv.length
  rw[Ag]at hl
  refine oD hT ho hc hd (oo rv) (by omega) fun D h' out ns' c hD keep e hi hp ho=>?_
  have hln:=hp.length_eq
  obtain⟨hn',I'⟩:=I.nz (h':=h') (ys:=ns'.map V.int) (its:=out.toList) (c:=c) (by rw[Ag,Bi];omega) (oO hi) hD (fun b o _ e=>keep b o e) (fun m ⟨o,es,ep,ho,r⟩=>⟨o,es,ep,keep _ o ho,r⟩) (by rw[e])
  exact⟨V.ref _,_,I',rfl,q _ _ hn' hp ho⟩
 rcases hq with hq|hq
 . obtain⟨its,rv,pl,hz⟩:=I.list hq
   obtain⟨o,ho,hc,n,hd⟩:=id pl.isList
   exact go rv (.inl rfl) ho hc hd
 . obtain⟨its,rv,p1,_⟩:=I.tuple hq
   obtain⟨o,ho,hc,n,hd⟩:=id p1
   exact go rv (.inr rfl) ho hc hd
section
variable {X:Cx}
theorem iA{o e:Expr}{to te:TE}{apos cpos:Pos}(ho:PE X o to)(he:PE X e te)(hbase:Ee o "index" X.env (eval o X.env)=eval o X.env:=by rfl)(hst:noStar e=true:=by rfl)(hline:(apos.endLine == cpos.line)=true:=by rfl) :
 PE X (.Call (.Attribute o "index" apos) [e] [] cpos) (VP (f9 X.K) to (rV te lE)):=by
 have hs1:AR [e] X.env=(false,eval e X.env)::AR [] X.env:=zx hst
 intro pins s σ H Q I h
 refine ET hbase (by rw[hs1];rfl) hline rfl (thn (ho pins s σ H _ I h) fun v s1 ⟨x,H1,I1,r1,ty,q1⟩=>?_)
 obtain⟨a,xs,rfl,hx⟩:=ty
 cases r1
 obtain⟨z,its,rv,ob,e1,c1,n,d1,nd⟩:=(show ze X.prog X.w H1 s1.heap a (.tup xs) from I1.hok a _ hx)
 refine⟨"tuple",_,Gn,PySem.F.slot_tuple_index,PySem.F.type_tuple_index,⟨ob,e1,c1⟩,fun b hb=>?_,?_⟩
 . cases hb;exact⟨ob,e1,nd⟩
 have hA:=(pac he vK hst:PA X [e] _) cpos pins s1 σ H1 _ I1 q1
 rw[hs1]at hA ⊢
 refine EU rfl (Fj ?_)
 exact thn hA fun us s2 ⟨vs,H2,I2,r2,q2⟩=>jt pins s2 σ H2 (.ref a) vs _ us Q I2 rfl r2 q2
end
section
variable {X:Cx}
noncomputable def Y9(K:Av)(g:List Int→Int):List V→Hp→VK→Prop:=fun xs H Q=>∃(a:Addr) (ns:List Int),xs=[.ref a]∧SqT K H a (ns.map V.int)∧ns≠[]∧Q (.int (g ns)) H
theorem jA(hc:X.calm=true):yA X (.builtin "max") (Y9 X.K (yy 0)):=by
 intro pins s σ H xs us Q I r h
 obtain⟨a,ns,rfl,ha,hne,q⟩:=h
 obtain⟨u,rfl,ru⟩:=vals1 r
 cases ru
 obtain⟨its,rv,pl,hz⟩:=I.tuple ha
 have hlen:=rv.length
 have alt:a<s.heap.objs.size:=by obtain⟨o,ho,_⟩:=id pl;exact Au ho
 have hl:its.toArray.size=ns.length:=by rw[Ah,←hlen,Ag]
 have hpos:0<ns.length:=Fy.mpr hne
 have hat:∀(i:Nat) (v:Value),its.toArray[i]?=some v→∃t,v=.int (ns.getD i 0) t:=fun i v hv=>rv.ints (by simpa using hv)
 refine call_max_walk (wpAny_pyIter_tuple pl ?_)
 refine⟨s.heap.objs.size,_,_,_,_,_,_,rfl,Walks.tuple (A:=X.A.in1) (I.ok.hd hc) s.heap.objs.size a (AG alt) its.toArray,⟨⟨_,AI _ rfl,rfl,rfl⟩,?_⟩,fun b hb=>?_,by omega,G8 (fun i=>ns.getD i 0) hat,fun v h' tk hP hk=>?_⟩
 . obtain⟨o,ho,hc',n,hd⟩:=id pl
   exact⟨o,Af _ ho,hc',n,hd⟩
 . rw[DS]
   simp only[AF,Dx,or_false]at hb
   rcases hb with e|e
   . rw[e];exact CW _
   . rw[e];exact Bt alt
 . obtain⟨t,rfl⟩:=hat _ _ hP
   obtain⟨b1,b2⟩:=argBest_gt (fun i=>ns.getD i 0) (its.toArray.size-1)
   have e:yy 0 ns=ns.getD (argBest (fun i j=>decide (ns.getD i 0 > ns.getD j 0)) (its.toArray.size-1)) 0:=by
    refine sr ?_ fun x hx=>?_
    . have:argBest (fun i j=>decide (ns.getD i 0 > ns.getD j 0)) (its.toArray.size-1)<ns.length:=by omega
      rw[Ae,Aa this];exact BI this
    . obtain⟨i,hi,rfl⟩:=Bq hx
      have:=b2 i (by omega)
      simpa [Ae,Aa hi] using this
   refine⟨.int (yy 0 ns),H,I.kept fun b o ho=>hk b o ?_ (Af _ ho),⟨t,by rw[e]⟩,q⟩
   simpa using AG (Au ho)
end
end L2
end
section
namespace M
open PySem
inductive Val where
 |none|bool (b:Bool)|int (i:Int)|str (x:Str)
 |tup (vs:List Val)|lst (vs:List Val)|dct0
 |ctup (ns:List Int)|scr (ns:List Int)
 |ref (i:Nat)|fn (x:Str)|ty (n:String)|dref (i:Nat)
 deriving Inhabited
inductive Cel where
 |lst (vs:List Val)
 |dS (kvs:List (Str × Val))
 |dT (kvs:List (List Int × Val))
 deriving Inhabited
noncomputable abbrev Sto:=List Cel
noncomputable abbrev Env:=List (Option Val)
inductive Out(α:Type) where
 |ok (a:α) (s:Sto)
 |exc (c:Str) (args:List Val) (s:Sto)
 |stuck
noncomputable def Out.bind{α β:Type}(o:Out α)(f:α→Sto→Out β):Out β:=
 match o with
 |.ok a s=>f a s
 |.exc c as s=>.exc c as s
 |.stuck=>.stuck
@[simp] theorem zL{α β:Type}(a:α)(s:Sto)(f:α→Sto→Out β):(Out.ok a s).bind f=f a s:=rfl
@[simp] theorem wd{α β:Type}(f:α→Sto→Out β):(Out.stuck:Out α).bind f=.stuck:=rfl
@[simp] theorem sN{α β:Type}(c:Str)(as:List Val)(s:Sto)(f:α→Sto→Out β):(Out.exc c as s:Out α).bind f=.exc c as s:=rfl
mutual
noncomputable def Val.isD:Val→Bool
 |.none|.bool _|.int _=>true
 |.str x=>PyData.strOk x
 |.tup vs=>xc vs
 |.lst vs=>xc vs
 |.dct0|.ctup _|.scr _|.ref _|.fn _|.ty _|.dref _=>false
noncomputable def xc:List Val→Bool
 |[]=>true
 |v::vs=>v.isD&&xc vs
end
mutual
noncomputable def Val.isR:Val→Bool
 |.none|.bool _|.int _|.str _|.dct0=>true
 |.tup vs=>pT vs
 |.lst vs=>pT vs
 |.ctup _|.scr _|.ref _|.fn _|.ty _|.dref _=>false
noncomputable def pT:List Val→Bool
 |[]=>true
 |v::vs=>v.isR&&pT vs
end
mutual
noncomputable def Val.d:Val→PyData
 |.none=>.none
 |.bool b=>.bool b
 |.int i=>.int i
 |.str x=>.str x
 |.tup vs=>.tuple (ds vs)
 |.lst vs=>.list (ds vs)
 |.dct0=>.dict []
 |.ctup _|.scr _|.ref _|.fn _|.ty _|.dref _=>.none
noncomputable def ds:List Val→List PyData
 |[]=>[]
 |v::vs=>v.d::ds vs
end
mutual
noncomputable def Val.noRef:Val→Bool
 |.ref _|.dref _=>false
 |.tup vs=>zl vs
 |.lst vs=>zl vs
 |.none|.bool _|.int _|.str _|.dct0|.ctup _|.scr _|.fn _|.ty _=>true
noncomputable def zl:List Val→Bool
 |[]=>true
 |v::vs=>v.noRef&&zl vs
end
noncomputable def Cel.noRef:Cel→Bool
 |.lst vs=>zl vs
 |.dS kvs=>zl (kvs.map (·.2))
 |.dT kvs=>zl (kvs.map (·.2))
mutual
noncomputable def Val.beq:Val→Val→Bool
 |.none,.none=>true
 |.bool a,.bool b=>a == b
 |.int a,.int b=>a == b
 |.str a,.str b=>a == b
 |.tup a,.tup b=>uu a b
 |.lst a,.lst b=>uu a b
 |.dct0,.dct0=>true
 |.ctup a,.ctup b=>a == b
 |.scr a,.scr b=>a == b
 |.ref a,.ref b=>a == b
 |.fn a,.fn b=>a == b
 |.ty a,.ty b=>a == b
 |.dref a,.dref b=>a == b
 |_,_=>false
noncomputable def uu:List Val→List Val→Bool
 |[],[]=>true
 |a::as,b::bs=>a.beq b&&uu as bs
 |_,_=>false
end
noncomputable def Cel.beq:Cel→Cel→Bool
 |.lst a,.lst b=>uu a b
 |.dS a,.dS b=>decide (a.map (·.1)=b.map (·.1))&&uu (a.map (·.2)) (b.map (·.2))
 |.dT a,.dT b=>decide (a.map (·.1)=b.map (·.1))&&uu (a.map (·.2)) (b.map (·.2))
 |_,_=>false
noncomputable def xg:Sto→Sto→Bool
 |[],_=>true
 |o::r,o'::r'=>(o'.noRef||o'.beq o)&&xg r r'
 |_::_,[]=>false
mutual
noncomputable def wg(n0:Nat)(s:Sto):Nat→Val→Option Val
 |_,.dref i=>if i<n0 then some (.dref i) else Ad
 |_,.ref i=>if i<n0 then some (.ref i) else match s[i]? with
  |some (.lst vs)=>if zl vs then some (.lst vs) else Ad
  |_=>Ad
 |k+1,.tup vs=>(uN n0 s k vs).map .tup
 |_,v=>if v.noRef then some v else Ad
noncomputable def uN(n0:Nat)(s:Sto):Nat→List Val→Option (List Val)
 |_,[]=>some []
 |0,_::_=>Ad
 |k+1,v::vs=>match (if v.noRef then some v else wg n0 s k v),uN n0 s k vs with
  |some v',some vs'=>some (v'::vs')
  |_,_=>Ad
end
noncomputable def freeze(n0:Nat)(s:Sto)(v:Val):Option Val:=if v.noRef then some v else wg n0 s 20 v
inductive Bop|add|sub|mul|fdiv|mod|pow|shl|shr|band
 deriving DecidableEq
inductive Cop|eq|ne|lt|le|gt|ge|is|isNot|in_|notIn|inD|notInD
 deriving DecidableEq
inductive Bf|len|all|any|tuple|list|sorted|repr|max|min|sum|int|isi|divmod|str|sortedI
 deriving DecidableEq
inductive Mf|count|append|extend|pop|index|join
 deriving DecidableEq
inductive Tgt
 |nm (i:Nat)
 |nms (is:List Nat)
mutual
inductive Ex
 |lit (v:Val)|var (i:Nat)|gl (x:Str)|ty (x:Str) (n:String)
 |bin (m:Bool) (op:Bop) (a b:Ex)|neg (a:Ex)|not (a:Ex)
 |cmp (op:Cop) (a b:Ex)|chain (op op':Cop) (a b c:Ex)
 |andE (a:Ex) (es:Exs)|orE (a:Ex) (es:Exs)|ife (c:Cn) (a b:Ex)
 |tup (es:Exs)|lst (m:Bool) (es:Exs)|dct0
 |call (f:Str) (ver:Nat) (es:Exs)|blt (f:Bf) (m:Bool) (es:Exs)|maxD (a d:Ex)
 |yb (f:Mf) (m:Bool) (o:Ex) (es:Exs)
 |ix (a b:Ex)|sl (m:Bool) (a:Ex) (lo hi st:OEx)
 |comp (m:Bool) (N:List Str) (fr:List (Option Nat)) (elt:Ex) (t:Tgt) (it:Itb) (ifs:Cns)
 |comp2 (m:Bool) (N:List Str) (fr:List (Option Nat)) (elt:Ex) (t:Tgt) (it:Itb) (ifs:Cns) (t2:Tgt) (it2:Itb) (ifs2:Cns)
 |listRange (m:Bool) (a b c:Ex)
 |dctN (t:Bool)|ixD (a b:Ex)
inductive Exs
 |nil|cons (e:Ex) (es:Exs)
inductive OEx
 |no|yes (e:Ex)
inductive Cn
 |val (e:Ex)|not (c:Cn)|and (c:Cn) (cs:Cns)|or (c:Cn) (cs:Cns)
inductive Cns
 |nil|cons (c:Cn) (cs:Cns)
inductive Itb
 |val (e:Ex)|range1 (a:Ex)|range2 (a b:Ex)|enum (e:Ex)|zip (a b:Ex)
end
mutual
inductive Sm
 |expr (e:Ex)|ret (e:Ex)|retN|asg (i:Nat) (e:Ex)|asgT (is:List Nat) (e:Ex)|par (is:List Nat) (es:Exs)
 |aug (i:Nat) (op:Bop) (e:Ex)|setIx (o i e:Ex)
 |ifS (c:Cn) (a b:Sms)|forS (t:Tgt) (it:Itb) (b:Sms)|whileS (c:Cn) (b:Sms)
 |pass|brk|cont|raise (e:Ex)|setD (o i e:Ex)
inductive Sms
 |nil|cons (s:Sm) (ss:Sms)
end
structure Fn where
 N:List Str
 ps:List Str
 keep:Bool
 body:Sms
noncomputable abbrev Calls:=Str→Nat→List Val→Sto→Out Val
noncomputable def zQ:Nat:=16777216
noncomputable def newList(m:Bool)(vs:List Val)(s:Sto):Out Val:=if m then .ok (.ref s.length) (s++[.lst vs]) else .ok (.lst vs) s
noncomputable def xh(s:Sto):Val→Option (List Val)
 |.tup vs=>some vs
 |.lst vs=>some vs
 |.ctup ns=>some (ns.map .int)
 |.scr ns=>some (ns.map .int)
 |.ref i=>match s[i]? with
  |some (.lst vs)=>some vs
  |_=>Ad
 |_=>Ad
noncomputable def yK(s:Sto):Val→Option (List Val)
 |.lst vs=>some vs
 |.ref i=>match s[i]? with
  |some (.lst vs)=>some vs
  |_=>Ad
 |_=>Ad
noncomputable def truth(s:Sto):Val→Option Bool
 |.none=>some false
 |.bool b=>some b
 |.int i=>some (i != 0)
 |.str x=>if x.length≤zQ then some ((x.length:Int) != 0) else Ad
 |.tup vs=>some !vs.isEmpty
 |.lst vs=>some !vs.isEmpty
 |.dct0=>some false
 |.ref i=>match s[i]? with
  |some (.lst vs)=>some !vs.isEmpty
  |_=>Ad
 |_=>Ad
noncomputable def Out.truth(o:Out Val):Out Bool:=o.bind fun v s=>match M.truth s v with
 |some b=>.ok b s
 |Ad=>.stuck
noncomputable def xH(s:Sto):Val→Val
 |.ref i=>match s[i]? with
  |some (.lst vs)=>.lst vs
  |_=>.ref i
 |v=>v
noncomputable def yC(s:Sto):Val→Val
 |.tup vs=>.tup (vs.map (xH s))
 |v=>xH s v
noncomputable def YV(d:PyData):Bool:=d.showable&&d.leavesShort 40&&decide (d.depth≤50)&&decide (d.weight≤300000)&&(!d.hasDict||!L2.xj d)
noncomputable def flat:Val→Bool
 |.none|.bool _|.int _|.str _=>true
 |_=>false
noncomputable def eqF:Val→Val→Bool
 |.none,.none=>true
 |.bool a,.bool b=>a == b
 |.bool a,.int b=>(if a then 1 else 0) == b
 |.int a,.bool b=>a == (if b then 1 else 0)
 |.int a,.int b=>a == b
 |.str a,.str b=>a == b
 |_,_=>false
noncomputable def pM(a b:Val):Option Bool:=if a.isD&&b.isD&&decide (b.d.depth≤60) then some (Cj a.d b.d) else Ad
noncomputable def intsOf:List Val→Option (List Int)
 |[]=>some []
 |.int i::vs=>(intsOf vs).map (i::·)
 |_=>Ad
noncomputable def Val.isN:Val→Bool
 |.none=>true
 |_=>false
noncomputable def inD(x:Val)(vs:List Val):Bool:=x.isD&&xc vs&&decide (x.d.depth≤60)
noncomputable def mD{κ:Type} [DecidableEq κ]:List (κ × Val)→κ→Option Val
 |[],_=>Ad
 |p::r,k=>if p.1=k then some p.2 else mD r k
noncomputable def hX{κ:Type} [DecidableEq κ] (kvs:List (κ × Val))(k:κ)(v:Val):List (κ × Val):=
 if (mD kvs k).isSome then kvs.map (fun p=>if p.1=k then (p.1,v) else p) else kvs++[(k,v)]
noncomputable def ll(s:Sto):Val→Option (Nat × Cel)
 |.dref i=>(s[i]?).map fun c=>(i,c)
 |_=>Ad
noncomputable def ZQ:Cel→Val→Option (Option Val)
 |.dS kvs,.str k=>some (mD kvs k)
 |.dT kvs,.tup vs=>(intsOf vs).map fun k=>mD kvs k
 |_,_=>Ad
noncomputable def i9:Cel→Val→Val→Option Cel
 |.dS kvs,.str k,v=>if kvs.length<zQ then some (.dS (hX kvs k v)) else Ad
 |.dT kvs,.tup vs,v=>(intsOf vs).bind fun k=>if kvs.length<zQ then some (.dT (hX kvs k v)) else Ad
 |_,_,_=>Ad
noncomputable def getD(d y:Val)(s:Sto):Option (Option Val):=(ll s d).bind fun c=>ZQ c.2 y
noncomputable def ixD(d y:Val)(s:Sto):Out Val:=match getD d y s with
 |some (some v)=>.ok v s
 |_=>.stuck
noncomputable def putD(d y v:Val)(s:Sto):Option Sto:=(ll s d).bind fun c=>(i9 c.2 y v).map fun c'=>s.set c.1 c'
noncomputable def strsOf:List Val→Option (List Str)
 |[]=>some []
 |.str x::vs=>(strsOf vs).map (x::·)
 |_=>Ad
noncomputable def zM(op:Cop)(x y:Val)(s:Sto):Out Val:=
 match op with
 |.eq=>match x,y with
  |.str a,.str b=>.ok (.bool (decide (a=b))) s
  |.tup a,.ctup ns=>match pM (yC s (.tup a)) (.tup (ns.map .int)) with|some b=>.ok (.bool b) s|Ad=>.stuck
  |_,_=>match pM (yC s x) (yC s y) with|some b=>.ok (.bool b) s|Ad=>.stuck
 |.ne=>match x,y with
  |.str a,.str b=>.ok (.bool !(decide (a=b))) s
  |_,_=>match pM (yC s x) (yC s y) with|some b=>.ok (.bool !b) s|Ad=>.stuck
 |.is=>match y with|.none=>.ok (.bool x.isN) s|.bool b=>(match x with|.bool a=>.ok (.bool (decide (a=b))) s|_=>.stuck)|_=>.stuck
 |.isNot=>match y with|.none=>.ok (.bool !x.isN) s|.bool b=>(match x with|.bool a=>.ok (.bool !(decide (a=b))) s|_=>.stuck)|_=>.stuck
 |.in_=>match xh s y with
  |some vs=>if flat x&&vs.all flat then .ok (.bool (vs.any fun z=>eqF z x)) s else if inD x vs then .ok (.bool (vs.any fun z=>Cj z.d x.d)) s else .stuck
  |Ad=>.stuck
 |.notIn=>match xh s y with
  |some vs=>if flat x&&vs.all flat then .ok (.bool !(vs.any fun z=>eqF z x)) s else if inD x vs then .ok (.bool !(vs.any fun z=>Cj z.d x.d)) s else .stuck
  |Ad=>.stuck
 |.inD=>match getD y x s with|some o=>.ok (.bool o.isSome) s|Ad=>.stuck
 |.notInD=>match getD y x s with|some o=>.ok (.bool !o.isSome) s|Ad=>.stuck
 |.lt=>match x,y with|.int i,.int j=>.ok (.bool (decide (i<j))) s|_,_=>.stuck
 |.le=>match x,y with|.int i,.int j=>.ok (.bool (decide (i≤j))) s|_,_=>.stuck
 |.gt=>match x,y with|.int i,.int j=>.ok (.bool (decide (j<i))) s|_,_=>.stuck
 |.ge=>match x,y with|.int i,.int j=>.ok (.bool (decide (j≤i))) s|_,_=>.stuck
noncomputable def binOp(m:Bool)(op:Bop)(x y:Val)(s:Sto):Out Val:=
 match op with
 |.add=>match x,y with
  |.int i,.int j=>.ok (.int (i+j)) s
  |.str a,.str b=>if a.length+b.length≤zQ then .ok (.str (a++b)) s else .stuck
  |.tup a,.tup b=>if a.length+b.length≤zQ then .ok (.tup (a++b)) s else .stuck
  |_,_=>match yK s x,yK s y with
   |some a,some b=>if a.length+b.length≤zQ then newList m (a++b) s else .stuck
   |_,_=>.stuck
 |.sub=>match x,y with|.int i,.int j=>.ok (.int (i-j)) s|_,_=>.stuck
 |.mul=>match x,y with
  |.int i,.int j=>if (-(2 ^ 64)<i∧i<2 ^ 64)∨(-(2 ^ 64)<j∧j<2 ^ 64) then .ok (.int (i*j)) s else .stuck
  |.tup a,.int k=>if -1000≤k∧k≤1000∧a≠[]∧a.length≤1000 then .ok (.tup (AN k.toNat a).flatten) s else .stuck
  |_,.int k=>match yK s x with
   |some a=>if -1000≤k∧k≤1000∧a.length*k.toNat≤zQ then newList m (AN k.toNat a).flatten s else .stuck
   |Ad=>.stuck
  |_,_=>.stuck
 |.fdiv=>match x,y with|.int i,.int j=>if 0<j∧j<1073741824 then .ok (.int (i/j)) s else .stuck|_,_=>.stuck
 |.mod=>match x,y with|.int i,.int j=>if 0<j then .ok (.int (i%j)) s else .stuck|_,_=>.stuck
 |.pow=>match x,y with|.int i,.int j=>if 0≤j∧j≤1000000∧i.natAbs<2 ^ 64 then .ok (.int (i ^ j.toNat)) s else .stuck|_,_=>.stuck
 |.shl=>match x,y with|.int i,.int j=>if 0≤j∧j≤1000000∧i.natAbs<2 ^ 64 then .ok (.int (i*2 ^ j.toNat)) s else .stuck|_,_=>.stuck
 |.shr=>match x,y with|.int i,.int j=>if 0≤j then .ok (.int (i/2 ^ j.toNat)) s else .stuck|_,_=>.stuck
 |.band=>match x,y with|.int i,.int j=>.ok (.int (Builtin.bitAnd i j)) s|_,_=>.stuck
noncomputable def kindOf:Val→Option L2.Kd
 |.none=>some .non
 |.bool _=>some .bl
 |.int _=>some .int
 |.str _=>some .str
 |.tup _=>some .tup
 |.lst _=>some .lst
 |.dct0=>some .dct
 |.ref _=>some .lst
 |_=>Ad
noncomputable def u5:String→Option L2.Kd
 |"bool"=>some .bl
 |"int"=>some .int
 |"str"=>some .str
 |"list"=>some .lst
 |"tuple"=>some .tup
 |"dict"=>some .dct
 |_=>Ad
noncomputable def boolsOf:List Val→Option (List Bool)
 |[]=>some []
 |.bool b::vs=>(boolsOf vs).map (b::·)
 |_=>Ad
noncomputable def pairsOf:List Val→Option (List (Int × Int))
 |[]=>some []
 |.tup [.int a,.int b]::vs=>(pairsOf vs).map ((a,b)::·)
 |_=>Ad
noncomputable def prV(z:Int × Int):Val:=.tup [.int z.1,.int z.2]
noncomputable def mG(z:Int × Int):List (Int × Int)→List (Int × Int)
 |[]=>[z]
 |y::ys=>if L2.zp z≤L2.zp y then z::y::ys else y::mG z ys
noncomputable def uc:List (Int × Int)→List (Int × Int)
 |[]=>[]
 |z::zs=>mG z (uc zs)
noncomputable def tL:List Val→Option (List (List Int))
 |[]=>some []
 |.tup a::vs=>match intsOf a,tL vs with
  |some z,some zs=>some (z::zs)
  |_,_=>Ad
 |_=>Ad
noncomputable def tpV(z:List Int):Val:=.tup (z.map .int)
noncomputable def tK(m:Bool)(vs:List Val)(s:Sto):Out Val:=match tL vs with
 |some zs=>if zs.Nodup∧(zs.length<2∨∀z∈zs,z≠[]) then newList m ((L2.wJ zs).map tpV) s else .stuck
 |Ad=>.stuck
noncomputable def insI(z:Int):List Int→List Int
 |[]=>[z]
 |y::ys=>if z≤y then z::y::ys else y::insI z ys
noncomputable def sortI:List Int→List Int
 |[]=>[]
 |z::zs=>insI z (sortI zs)
noncomputable def blt(f:Bf)(m:Bool)(xs:List Val)(s:Sto):Out Val:=
 match f with
 |.len=>match xs with
  |[.str x]=>if x.length≤zQ then .ok (.int x.length) s else .stuck
  |[x]=>match xh s x with|some vs=>.ok (.int vs.length) s|Ad=>.stuck
  |_=>.stuck
 |.all=>match xs with
  |[x]=>match yK s x with|some vs=>(match boolsOf vs with|some bs=>.ok (.bool (bs.all id)) s|Ad=>.stuck)|Ad=>.stuck
  |_=>.stuck
 |.any=>match xs with
  |[x]=>match yK s x with|some vs=>(match boolsOf vs with|some bs=>.ok (.bool (bs.any id)) s|Ad=>.stuck)|Ad=>.stuck
  |_=>.stuck
 |.tuple=>match xs with
  |[.tup vs]=>.ok (.tup vs) s
  |[x]=>match yK s x with|some vs=>.ok (.tup vs) s|Ad=>.stuck
  |_=>.stuck
 |.list=>match xs with
  |[x]=>match xh s x with|some vs=>newList m vs s|Ad=>.stuck
  |_=>.stuck
 |.repr=>match xs with
  |[x]=>if (yC s x).isR&&YV (yC s x).d then .ok (.str (yC s x).d.shown) s else .stuck
  |_=>.stuck
 |.max=>match xs with
  |[.int i,.int j]=>.ok (.int (if j > i then j else i)) s
  |[.tup vs]=>(match M.intsOf vs with|some ns=>if ns≠[] then .ok (.int (L2.yy 0 ns)) s else .stuck|Ad=>.stuck)
  |[x]=>match yK s x with|some vs=>(match M.intsOf vs with|some ns=>if ns≠[] then .ok (.int (L2.yy 0 ns)) s else .stuck|Ad=>.stuck)|Ad=>.stuck
  |_=>.stuck
 |.min=>match xs with
  |[.int i,.int j]=>.ok (.int (if j<i then j else i)) s
  |[x]=>match yK s x with|some vs=>(match M.intsOf vs with|some ns=>if ns≠[] then .ok (.int (L2.rC 0 ns)) s else .stuck|Ad=>.stuck)|Ad=>.stuck
  |_=>.stuck
 |.int=>match xs with
  |[.int i]=>.ok (.int i) s
  |[.bool b]=>.ok (.int (if b then 1 else 0)) s
  |_=>.stuck
 |.isi=>match xs with
  |[x,.ty n]=>match kindOf x,u5 n with|some a,some c=>.ok (.bool (a.sub c)) s|_,_=>.stuck
  |_=>.stuck
 |.divmod=>match xs with
  |[.int i,.int j]=>if 0<j∧j<1073741824 then .ok (.tup [.int (i/j),.int (i%j)]) s else .stuck
  |_=>.stuck
 |.str=>match xs with
  |[.int i]=>if i.natAbs.log2<1920 then .ok (.str (toString i)) s else .stuck
  |_=>.stuck
 |.sum=>match xs with
  |[x]=>match yK s x with|some vs=>(match M.intsOf vs with|some ns=>if L2.VN ns then .ok (.int ns.sum) s else .stuck|Ad=>.stuck)|Ad=>.stuck
  |_=>.stuck
 |.sorted=>match xs with
  |[x]=>match yK s x with
   |some vs=>(match pairsOf vs with
    |some zs=>if zs.Nodup∧∀z∈zs,0≤z.2∧z.2<1000 then newList m ((uc zs).map prV) s else tK m vs s
    |Ad=>tK m vs s)
   |Ad=>.stuck
  |_=>.stuck
 |.sortedI=>match xs with
  |[x]=>match xh s x with|some vs=>(match M.intsOf vs with|some ns=>if ns.length<64 then newList m ((sortI ns).map .int) s else .stuck|Ad=>.stuck)|Ad=>.stuck
  |_=>.stuck
noncomputable def mxD(x y:Val)(s:Sto):Out Val:=match y with
 |.int k=>(match yK s x with|some vs=>(match M.intsOf vs with|some ns=>.ok (.int (L2.yy k ns)) s|Ad=>.stuck)|Ad=>.stuck)
 |_=>.stuck
noncomputable def upd(s:Sto)(i:Nat)(vs:List Val):Sto:=s.set i (.lst vs)
noncomputable def yb(f:Mf)(o:Val)(xs:List Val)(s:Sto):Out Val:=
 match f with
 |.count=>match o,xs with
  |.tup vs,[y]=>if flat y&&vs.all flat then .ok (.int (vs.countP fun z=>eqF z y:Nat)) s else .stuck
  |_,[y]=>match yK s o with|some vs=>if flat y&&vs.all flat then .ok (.int (vs.countP fun z=>eqF z y:Nat)) s else .stuck|Ad=>.stuck
  |_,_=>.stuck
 |.append=>match o,xs with
  |.ref i,[y]=>match s[i]? with|some (.lst vs)=>if vs.length<zQ then .ok .none (upd s i (vs++[y])) else .stuck|_=>.stuck
  |_,_=>.stuck
 |.extend=>match o,xs with
  |.ref i,[y]=>match s[i]?,yK s y with|some (.lst vs),some ws=>if vs.length+ws.length≤zQ then .ok .none (upd s i (vs++ws)) else .stuck|_,_=>.stuck
  |_,_=>.stuck
 |.pop=>match o,xs with
  |.ref i,[.int k]=>(match s[i]? with
   |some (.lst vs)=>if -(2 ^ 63)≤k∧k<2 ^ 63 then (match FJ k vs.length with
    |some j=>(match vs[j]? with|some y=>.ok y (upd s i (vs.eraseIdx j))|Ad=>.stuck)
    |Ad=>.stuck) else .stuck
   |_=>.stuck)
  |_,_=>.stuck
 |.index=>match o,xs with
  |.tup vs,[y]=>if flat y&&vs.all flat then (match vs.findIdx? fun z=>eqF z y with|some j=>.ok (.int (j:Nat)) s|Ad=>.stuck) else .stuck
  |_,_=>.stuck
 |.join=>match o,xs with
  |.str z,[y]=>(match yK s y with
   |some vs=>(match strsOf vs with|some ys=>if (ys.map (·.length)).sum+ys.length*z.length≤16777216 then .ok (.str (L2.WR z ys)) s else .stuck|Ad=>.stuck)
   |Ad=>.stuck)
  |_,_=>.stuck
noncomputable def y3(a b:Val)(s:Sto):Out Val:=
 match b with
 |.int i=>match xh s a with|some vs=>(match L2.atI vs i with|some v=>.ok v s|Ad=>.stuck)|Ad=>.stuck
 |_=>.stuck
noncomputable def hW{α:Type}(xs:List α)(lo hi:Option Int):List α:=(xs.drop (HT.sIx xs.length 0 lo)).take (HT.sIx xs.length xs.length hi-HT.sIx xs.length 0 lo)
noncomputable def wA(m:Bool)(a:Val)(lo hi st:Option Int)(s:Sto):Out Val:=
 match a,st with
 |.tup vs,Ad=>.ok (.tup (hW vs lo hi)) s
 |.tup vs,some c=>if c≠0∧(L2.yH vs.length lo hi c).2≤zQ then .ok (.tup (L2.za vs (L2.yH vs.length lo hi c).1 c (L2.yH vs.length lo hi c).2)) s else .stuck
 |_,Ad=>match yK s a with|some vs=>newList m (hW vs lo hi) s|Ad=>.stuck
 |_,some c=>match yK s a with|some vs=>if c≠0 then newList m (L2.za vs (L2.vC vs.length lo hi c).1 c (L2.vC vs.length lo hi c).2) s else .stuck|Ad=>.stuck
noncomputable def WV(m:Bool)(x y z:Val)(s:Sto):Out Val:=match x,y,z with
 |.int i,.int j,.int k=>if -(2 ^ 30)≤i∧i≤2 ^ 30∧-(2 ^ 30)≤j∧j≤2 ^ 30∧0<k∧k≤2 ^ 29∧CQ i j k≤1000 then newList m ((L2.tH i j k).map .int) s else .stuck
 |.int i,.int j,.bool _=>if -(2 ^ 30)≤i∧i≤2 ^ 30∧-(2 ^ 30)≤j∧j≤2 ^ 30∧CQ i j 1≤1000 then newList m ((L2.tH i j 1).map .int) s else .stuck
 |.int i,.int j,.none=>if -(2 ^ 30)≤i∧i≤2 ^ 30∧-(2 ^ 30)≤j∧j≤2 ^ 30∧CQ i j 1≤1000 then .ok (.tup ((L2.tH i j 1).map .int)) s else .stuck
 |_,_,_=>.stuck
noncomputable def yW(t:Tgt)(v:Val)(env:Env):Option Env:=
 match t with
 |.nm i=>some (env.set i (some v))
 |.nms is=>match v with
  |.tup vs=>if vs.length=is.length then some ((is.zip vs).foldl (fun e p=>e.set p.1 (some p.2)) env) else Ad
  |_=>Ad
structure Src where
 xs:List Val
 at_:Option Nat
noncomputable def Src.ok(r:Src)(s:Sto):Bool:=match r.at_ with
 |Ad=>true
 |some i=>match s[i]? with
  |some (.lst vs)=>uu vs r.xs
  |_=>false
noncomputable def Vg:List Val→List Val→List Val
 |v::vs,w::ws=>.tup [v,w]::Vg vs ws
 |_,_=>[]
noncomputable def l5(n:Nat):List Val→List Val
 |[]=>[]
 |v::vs=>.tup [.int n,v]::l5 (n+1) vs
noncomputable def srcOf(s:Sto):Val→Option Src
 |.tup vs=>some ⟨vs,Ad⟩
 |.lst vs=>some ⟨vs,Ad⟩
 |.ctup ns=>some ⟨ns.map .int,Ad⟩
 |.ref i=>match s[i]? with
  |some (.lst vs)=>some ⟨vs,some i⟩
  |_=>Ad
 |_=>Ad
noncomputable def z9(lo:Int)(n:Nat):List Val:=(Ak n).map fun(k:Nat)=>Val.int (lo+k)
noncomputable def yO(r:Src)(t:Tgt)(body:Env→Sto→List Val→Out (List Val × Env)):List Val→Env→Sto→List Val→Out (List Val × Env)
 |[],env,s,acc=>if r.ok s then .ok (acc,env) s else .stuck
 |x::xs,env,s,acc=>if r.ok s then match yW t x env with
    |Ad=>.stuck
    |some env'=>(body env' s acc).bind fun p s'=>yO r t body xs p.2 s' p.1
  else .stuck
noncomputable def zT(fr:List (Option Nat))(env:Env):Env:=fr.map fun o=>match o with|some j=>(env[j]?).join|Ad=>Ad
inductive Fl
 |nx (env:Env)|bk (env:Env)|ct (env:Env)|rt (v:Val)
noncomputable def w4(r:Src)(t:Tgt)(body:Env→Sto→Out Fl):List Val→Env→Sto→Out Fl
 |[],env,s=>if r.ok s then .ok (.nx env) s else .stuck
 |x::xs,env,s=>if r.ok s then match yW t x env with
    |Ad=>.stuck
    |some env'=>(body env' s).bind fun fl s'=>match fl with
     |.nx e=>w4 r t body xs e s'
     |.ct e=>w4 r t body xs e s'
     |.bk e=>.ok (.nx e) s'
     |.rt v=>.ok (.rt v) s'
  else .stuck
noncomputable def vI(c:Env→Sto→Out Bool)(body:Env→Sto→Out Fl):Nat→Env→Sto→Out Fl
 |0,_,_=>.stuck
 |n+1,env,s=>(c env s).bind fun b s1=>if b then (body env s1).bind fun fl s2=>match fl with
    |.nx e=>vI c body n e s2
    |.ct e=>vI c body n e s2
    |.bk e=>.ok (.nx e) s2
    |.rt v=>.ok (.rt v) s2
  else .ok (.nx env) s1
noncomputable def oK:Nat:=100000
section
variable (Φ:Calls)(G:Str→Option Val)
mutual
noncomputable def evE(env:Env):Ex→Sto→Out Val
 |.lit v,s=>.ok v s
 |.var i,s=>match env[i]? with|some (some v)=>.ok v s|_=>.stuck
 |.gl x,s=>match G x with|some v=>.ok v s|Ad=>.stuck
 |.ty _ n,s=>.ok (.ty n) s
 |.bin m op a b,s=>(evE env a s).bind fun x s1=>(evE env b s1).bind fun y s2=>binOp m op x y s2
 |.neg a,s=>(evE env a s).bind fun x s1=>match x with|.int i=>.ok (.int (-i)) s1|_=>.stuck
 |.not a,s=>(evE env a s).bind fun x s1=>match x with|.bool b=>.ok (.bool !b) s1|_=>.stuck
 |.cmp op a b,s=>(evE env a s).bind fun x s1=>(evE env b s1).bind fun y s2=>zM op x y s2
 |.chain op op' a b c,s=>(evE env a s).bind fun x s1=>(evE env b s1).bind fun y s2=>(zM op x y s2).bind fun r s3=>match r with
  |.bool true=>(evE env c s3).bind fun z s4=>zM op' y z s4
  |.bool false=>.ok (.bool false) s3
  |_=>.stuck
 |.andE a es,s=>match es with
  |.nil=>evE env a s
  |.cons _ _=>(evE env a s).bind fun x s1=>match x with
   |.bool true=>tU env es s1
   |.bool false=>.ok (.bool false) s1
   |_=>.stuck
 |.orE a es,s=>match es with
  |.nil=>evE env a s
  |.cons _ _=>(evE env a s).bind fun x s1=>match truth s1 x with
   |some false=>oh env es s1
   |some true=>.ok x s1
   |Ad=>.stuck
 |.ife c a b,s=>(evT env c s).bind fun t s1=>if t then evE env a s1 else evE env b s1
 |.tup es,s=>(ya env es s).bind fun vs s1=>if vs.length≤zQ then .ok (.tup vs) s1 else .stuck
 |.lst m es,s=>(ya env es s).bind fun vs s1=>if vs.length≤zQ then newList m vs s1 else .stuck
 |.dct0,s=>.ok .dct0 s
 |.call f ver es,s=>(ya env es s).bind fun vs s1=>Φ f ver vs s1
 |.blt f m es,s=>(ya env es s).bind fun vs s1=>blt f m vs s1
 |.maxD a d,s=>(evE env a s).bind fun x s1=>(evE env d s1).bind fun y s2=>mxD x y s2
 |.yb f _ o es,s=>(evE env o s).bind fun x s1=>(ya env es s1).bind fun vs s2=>yb f x vs s2
 |.ix a b,s=>(evE env a s).bind fun x s1=>(evE env b s1).bind fun y s2=>y3 x y s2
 |.sl m a lo hi st,s=>(evE env a s).bind fun x s1=>(evO env lo s1).bind fun l s2=>(evO env hi s2).bind fun h s3=>(evO env st s3).bind fun c s4=>wA m x l h c s4
 |.comp m _ fr elt t it ifs,s=>(yT env it s).bind fun r s1=>
  (yO r t (fun e s' acc=>(ym e ifs s').bind fun b s2=>if b then (evE e elt s2).bind fun v s3=>.ok (acc++[v],e) s3 else .ok (acc,e) s2) r.xs (zT fr env) s1 []).bind fun p s2=>newList m p.1 s2
 |.comp2 m _ fr elt t it ifs t2 it2 ifs2,s=>(yT env it s).bind fun r s1=>
  (yO r t (fun e s' acc=>(ym e ifs s').bind fun b s2=>if b then (yT e it2 s2).bind fun r2 s3=>
      yO r2 t2 (fun e' s4 acc'=>(ym e' ifs2 s4).bind fun b' s5=>if b' then (evE e' elt s5).bind fun v s6=>.ok (acc'++[v],e') s6 else .ok (acc',e') s5) r2.xs e s3 acc
   else .ok (acc,e) s2) r.xs (zT fr env) s1 []).bind fun p s2=>if p.1.length≤zQ then newList m p.1 s2 else .stuck
 |.dctN t,s=>.ok (.dref s.length) (s++[if t then .dT [] else .dS []])
 |.ixD a b,s=>(evE env a s).bind fun x s1=>(evE env b s1).bind fun y s2=>ixD x y s2
 |.listRange m a b c,s=>(evE env a s).bind fun x s1=>(evE env b s1).bind fun y s2=>(evE env c s2).bind fun z s3=>WV m x y z s3
noncomputable def tU(env:Env):Exs→Sto→Out Val
 |.nil,_=>.stuck
 |.cons a es,s=>match es with
  |.nil=>evE env a s
  |.cons _ _=>(evE env a s).bind fun x s1=>match x with
   |.bool true=>tU env es s1
   |.bool false=>.ok (.bool false) s1
   |_=>.stuck
noncomputable def oh(env:Env):Exs→Sto→Out Val
 |.nil,_=>.stuck
 |.cons a es,s=>match es with
  |.nil=>evE env a s
  |.cons _ _=>(evE env a s).bind fun x s1=>match truth s1 x with
   |some false=>oh env es s1
   |some true=>.ok x s1
   |Ad=>.stuck
noncomputable def ya(env:Env):Exs→Sto→Out (List Val)
 |.nil,s=>.ok [] s
 |.cons e es,s=>(evE env e s).bind fun v s1=>(ya env es s1).bind fun vs s2=>.ok (v::vs) s2
noncomputable def evO(env:Env):OEx→Sto→Out (Option Int)
 |.no,s=>.ok Ad s
 |.yes e,s=>(evE env e s).bind fun v s1=>match v with|.int i=>.ok (some i) s1|_=>.stuck
/-- a test -/
noncomputable def evT(env:Env):Cn→Sto→Out Bool
 |.val e,s=>(evE env e s).truth
 |.not a,s=>(evT env a s).bind fun b s1=>.ok (!b) s1
 |.and a es,s=>(evT env a s).bind fun b s1=>if b then ym env es s1 else .ok false s1
 |.or a es,s=>(evT env a s).bind fun b s1=>if b then .ok true s1 else tq env es s1
noncomputable def ym(env:Env):Cns→Sto→Out Bool
 |.nil,s=>.ok true s
 |.cons a es,s=>(evT env a s).bind fun b s1=>if b then ym env es s1 else .ok false s1
noncomputable def tq(env:Env):Cns→Sto→Out Bool
 |.nil,s=>.ok false s
 |.cons a es,s=>(evT env a s).bind fun b s1=>if b then .ok true s1 else tq env es s1
noncomputable def yT(env:Env):Itb→Sto→Out Src
 |.val e,s=>(evE env e s).bind fun v s1=>match srcOf s1 v with|some r=>.ok r s1|Ad=>.stuck
 |.range1 a,s=>(evE env a s).bind fun x s1=>match x with
  |.int j=>if -(2 ^ 62)≤j∧j≤zQ then .ok ⟨z9 0 j.toNat,Ad⟩ s1 else .stuck
  |_=>.stuck
 |.range2 a b,s=>(evE env a s).bind fun x s1=>(evE env b s1).bind fun y s2=>match x,y with
  |.int i,.int j=>if -(2 ^ 62)≤i∧i<2 ^ 62∧-(2 ^ 62)≤j∧j<2 ^ 62∧j-i≤zQ then .ok ⟨z9 i (j-i).toNat,Ad⟩ s2 else .stuck
  |_,_=>.stuck
 |.enum e,s=>(evE env e s).bind fun v s1=>match v with
  |.tup vs=>.ok ⟨l5 0 vs,Ad⟩ s1
  |.lst vs=>.ok ⟨l5 0 vs,Ad⟩ s1
  |_=>.stuck
 |.zip a b,s=>(evE env a s).bind fun x s1=>(evE env b s1).bind fun y s2=>match x,y with
  |.tup vs,.tup ws=>if vs.length=ws.length then .ok ⟨Vg vs ws,Ad⟩ s2 else .stuck
  |_,_=>.stuck
end
mutual
noncomputable def exS(env:Env):Sm→Sto→Out Fl
 |.expr e,s=>(evE Φ G env e s).bind fun _ s1=>.ok (.nx env) s1
 |.ret e,s=>(evE Φ G env e s).bind fun v s1=>.ok (.rt v) s1
 |.retN,s=>.ok (.rt .none) s
 |.asg i e,s=>(evE Φ G env e s).bind fun v s1=>.ok (.nx (env.set i (some v))) s1
 |.asgT is e,s=>(evE Φ G env e s).bind fun v s1=>match yW (.nms is) v env with|some env'=>.ok (.nx env') s1|Ad=>.stuck
 |.par is es,s=>(ya Φ G env es s).bind fun vs s1=>if vs.length=is.length then .ok (.nx ((is.zip vs).foldl (fun e p=>e.set p.1 (some p.2)) env)) s1 else .stuck
 |.aug i op e,s=>match env[i]? with
  |some (some (.int x))=>(evE Φ G env e s).bind fun v s1=>match v with
   |.int y=>(binOp false op (.int x) (.int y) s1).bind fun z s2=>.ok (.nx (env.set i (some z))) s2
   |_=>.stuck
  |some (some (.tup x))=>if op=.add then (evE Φ G env e s).bind fun v s1=>match v with
   |.tup y=>(binOp false .add (.tup x) (.tup y) s1).bind fun z s2=>.ok (.nx (env.set i (some z))) s2
   |_=>.stuck
   else .stuck
  |_=>.stuck
 |.setIx o i e,s=>(evE Φ G env e s).bind fun v s1=>(evE Φ G env o s1).bind fun x s2=>(evE Φ G env i s2).bind fun y s3=>match x,y with
  |.ref r,.int k=>(match s3[r]? with
   |some (.lst vs)=>(match L2.ixN vs.length k with|some j=>.ok (.nx env) (upd s3 r (vs.set j v))|Ad=>.stuck)
   |_=>.stuck)
  |_,_=>.stuck
 |.ifS c a b,s=>(evT Φ G env c s).bind fun t s1=>if t then zR env a s1 else zR env b s1
 |.forS t it b,s=>(yT Φ G env it s).bind fun r s1=>w4 r t (fun e s'=>zR e b s') r.xs env s1
 |.whileS c b,s=>vI (fun e s'=>evT Φ G e c s') (fun e s'=>zR e b s') oK env s
 |.pass,s=>.ok (.nx env) s
 |.brk,s=>.ok (.bk env) s
 |.cont,s=>.ok (.ct env) s
 |.raise _,_=>.stuck
 |.setD o i e,s=>(evE Φ G env e s).bind fun v s1=>(evE Φ G env o s1).bind fun x s2=>(evE Φ G env i s2).bind fun y s3=>match putD x y v s3 with|some s4=>.ok (.nx env) s4|Ad=>.stuck
noncomputable def zR(env:Env):Sms→Sto→Out Fl
 |.nil,s=>.ok (.nx env) s
 |.cons c cs,s=>(exS env c s).bind fun fl s1=>match fl with
  |.nx e=>zR e cs s1
  |fl=>.ok fl s1
end
end
noncomputable def zm(N:List Str)(vs:List Val):Env:=vs.map some++AN (N.length-vs.length) Ad
noncomputable def leave(F:Fn)(s0:Sto)(v:Val)(s:Sto):Out Val:=
 if F.keep then .ok v s
 else if xg s0 s then (match freeze s0.length s v with|some v'=>.ok v' (s.take s0.length)|Ad=>.stuck) else .stuck
structure Tbl where
 fn:Str→Nat→Option Fn
 gl:Str→Option Val
noncomputable def run(T:Tbl)(Φ:Calls)(F:Fn)(vs:List Val)(s:Sto):Out Val:=
 if vs.length=F.ps.length then (zR Φ T.gl (zm F.N vs) F.body s).bind fun fl s1=>match fl with
  |.nx _=>leave F s .none s1
  |.rt v=>leave F s v s1
  |_=>.stuck
 else .stuck
noncomputable def zF(T:Tbl):Nat→Calls
 |0=>fun _ _ _ _=>.stuck
 |n+1=>fun f ver vs s=>match T.fn f ver with|some F=>run T (zF T n) F vs s|Ad=>.stuck
end M
end
section
namespace M
open PySem
noncomputable abbrev KF:=Av
structure Own where
 o:List Addr
 h:List Addr
def Own.no(ρ:Own)(a:Addr):Prop:=a ∉ ρ.o∧a ∉ ρ.h
def KT(K:KF)(a:Addr)(xs:List L2.V):Prop:=∃(o:Obj) (its:Array Value) (n:Nat),K.lookup a=some o∧o.cls=.type "tuple"∧o.data=.seq its n∧its.size≤Az∧L2.Vals xs its.toList
def SC(K:KF)(ρ:Own)(H:L2.Hp)(a:Addr)(xs:List L2.V):Prop:=(ρ.no a∧L2.Rd H a (.lst xs)) ∨
 ∃(o:Obj) (its:Array Value) (n:Nat),K.lookup a=some o∧o.cls=.type "list"∧o.dict=none∧o.data=.seq its n∧its.size≤Az∧L2.Vals xs its.toList
noncomputable def hk:Option L2.HO→Nat
 |some (.lst _)=>1
 |some (.dK _)=>2
 |some (.dT _)=>3
 |_=>0
mutual
inductive RD(K:KF)(mg:Str→Option Value)(ρ:Own)(H:L2.Hp):Val→L2.V→Prop
 |none:RD K mg ρ H .none .non
 |bool (b:Bool):RD K mg ρ H (.bool b) (.bl b)
 |int (i:Int):RD K mg ρ H (.int i) (.int i)
 |str (x:Str):RD K mg ρ H (.str x) (.str x)
 |tup {a:Addr} {vs:List Val} {xs:List L2.V}:ρ.no a→H a=some (.tup xs)→RDs K mg ρ H vs xs→RD K mg ρ H (.tup vs) (.ref a)
 |lst {a:Addr} {vs:List Val} {xs:List L2.V}:ρ.no a→H a=some (.lst xs)→RDs K mg ρ H vs xs→RD K mg ρ H (.lst vs) (.ref a)
 |dct0 {a:Addr}:ρ.no a→H a=some (.dK [])→RD K mg ρ H .dct0 (.ref a)
 |ctup {a:Addr} {ns:List Int}:KT K a (ns.map L2.V.int)→RD K mg ρ H (.ctup ns) (.ref a)
 |scr {a:Addr} {ns:List Int}:SC K ρ H a (ns.map L2.V.int)→RD K mg ρ H (.scr ns) (.ref a)
 |ref {a:Addr} {i:Nat}:ρ.o[i]?=some a→hk (H a)=1→RD K mg ρ H (.ref i) (.ref a)
 |dref {a:Addr} {i:Nat}:ρ.o[i]?=some a→1<hk (H a)→RD K mg ρ H (.dref i) (.ref a)
 |fn {x:Str} {f:Addr}:mg x=some (.ref f)→RD K mg ρ H (.fn x) (.ref f)
 |ty (n:String):RD K mg ρ H (.ty n) (.ty n)
inductive RDs(K:KF)(mg:Str→Option Value)(ρ:Own)(H:L2.Hp):List Val→List L2.V→Prop
 |nil:RDs K mg ρ H [] []
 |cons {v:Val} {x:L2.V} {vs:List Val} {xs:List L2.V}:RD K mg ρ H v x→RDs K mg ρ H vs xs→RDs K mg ρ H (v::vs) (x::xs)
end
noncomputable def CR(K:KF)(mg:Str→Option Value)(ρ:Own)(H:L2.Hp)(a:Addr):Cel→Prop
 |.lst vs=>∃xs,H a=some (.lst xs)∧RDs K mg ρ H vs xs
 |.dS kvs=>∃kxs,H a=some (.dK kxs)∧kxs.map (·.1)=kvs.map (fun p=>Ds p.1)∧RDs K mg ρ H (kvs.map (·.2)) (kxs.map (·.2))
 |.dT kvs=>∃kxs,H a=some (.dT kxs)∧kxs.map (·.1)=kvs.map (fun p=>p.1.map DF)∧RDs K mg ρ H (kvs.map (·.2)) (kxs.map (·.2))
structure HR(K:KF)(mg:Str→Option Value)(ρ:Own)(s:Sto)(H:L2.Hp):Prop where
 len:ρ.o.length=s.length
 nd:ρ.o.Nodup
 cel:∀(i:Nat) (c:Cel),s[i]?=some c→∃a:Addr,ρ.o[i]?=some a∧CR K mg ρ H a c
 hid:∀a∈ρ.h,(∃xs,H a=some (.lst xs))∧a ∉ ρ.o
structure Ext(ρ:Own)(H:L2.Hp)(ρ':Own)(H':L2.Hp):Prop where
 pre:∃new:List Addr,ρ'.o=ρ.o++new∧∀a∈new,H a=none
 hid:ρ'.h=ρ.h
 keep:∀(a:Addr) (o:L2.HO),H a=some o→a ∉ ρ.o→H' a=some o
 kd:∀a∈ρ.o,hk (H' a)=hk (H a)
structure ER(K:KF)(mg:Str→Option Value)(ρ:Own)(H:L2.Hp)(env:Env)(σ:L2.St):Prop where
 len:env.length=σ.length
 at_:∀(i:Nat) (v:Val),env[i]?=some (some v)→∃x:L2.V,σ[i]?=some (some x)∧RD K mg ρ H v x
section
variable {K:KF}{mg:Str→Option Value}{ρ ρ' ρ'':Own}{H H' H'':L2.Hp}{s s':Sto}
theorem HR.obj(h:HR K mg ρ s H)(i:Nat)(vs:List Val)(e:s[i]?=some (Cel.lst vs)):∃(a:Addr) (xs:List L2.V),ρ.o[i]?=some a∧H a=some (.lst xs)∧RDs K mg ρ H vs xs:=by
 obtain⟨a,e1,xs,e2,r⟩:=h.cel i _ e
 exact⟨a,xs,e1,e2,r⟩
theorem CR.there{a:Addr}{c:Cel}(h:CR K mg ρ H a c):∃o,H a=some o:=by
 cases c with
 |lst vs=>obtain⟨xs,e,_⟩:=h;exact⟨_,e⟩
 |dS kvs=>obtain⟨xs,e,_⟩:=h;exact⟨_,e⟩
 |dT kvs=>obtain⟨xs,e,_⟩:=h;exact⟨_,e⟩
theorem CR.hk{a:Addr}{c:Cel}(h:CR K mg ρ H a c):0<hk (H a):=by
 cases c with
 |lst vs=>obtain⟨xs,e,_⟩:=h;rw[e];exact CW 0
 |dS kvs=>obtain⟨xs,e,_⟩:=h;rw[e];exact Nat.lt_of_sub_eq_succ rfl
 |dT kvs=>obtain⟨xs,e,_⟩:=h;rw[e];exact Nat.lt_of_sub_eq_succ rfl
theorem HR.trk(h:HR K mg ρ s H){a:Addr}(ha:a∈ρ.o):∃o,H a=some o:=by
 obtain⟨i,hi,e⟩:=Bq ha
 have hs:i<s.length:=by rw[←h.len];exact hi
 obtain⟨b,e1,e2⟩:=h.cel i _ (Aa hs)
 rw[Aa hi,e]at e1
 cases e1
 exact e2.there
theorem mF{a:Addr}(h:hk (H a)=1):∃xs,H a=some (.lst xs):=by
 cases e:H a with
 |none=>rw[e]at h;cases h
 |some o=>
  rw[e]at h
  cases o with
  |lst xs=>exact⟨xs,rfl⟩
  |_=>cases h
theorem HR.new(h:HR K mg ρ s H){p:Addr}(hp:H p=none):ρ.no p:=by
 refine⟨fun hm=>?_,fun hm=>?_⟩
 . obtain⟨xs,e⟩:=h.trk hm
   rw[hp]at e;cases e
 . obtain⟨⟨xs,e⟩,_⟩:=h.hid p hm
   rw[hp]at e;cases e
theorem Ext.refl:Ext ρ H ρ H:=⟨⟨[],by simp,fun a ha=>by cases ha⟩,rfl,fun a o e _=>e,fun _ _=>rfl⟩
theorem Ext.WX(x:Ext ρ H ρ' H'){a:Addr}{o:L2.HO}(e:H a=some o)(n:ρ.no a):ρ'.no a:=by
 obtain⟨new,e1,hn⟩:=x.pre
 refine⟨?_,by rw[x.hid];exact n.2⟩
 rw[e1]
 intro hm
 rcases A3.mp hm with hm|hm
 . exact n.1 hm
 . rw[hn a hm]at e;cases e
theorem Ext.get(x:Ext ρ H ρ' H'){i:Nat}{a:Addr}(e:ρ.o[i]?=some a):ρ'.o[i]?=some a:=by
 obtain⟨new,e1,hn⟩:=x.pre
 have hi:i<ρ.o.length:=(Ap.mp e).1
 rw[e1,AQ hi];exact e
theorem Ext.trans(x:Ext ρ H ρ' H')(h:HR K mg ρ' s H')(y:Ext ρ' H' ρ'' H''):Ext ρ H ρ'' H'':=by
 obtain⟨new,e1,hn⟩:=x.pre
 obtain⟨new2,e2,hn2⟩:=y.pre
 refine⟨⟨new++new2,by rw[e2,e1,Ar],fun a ha=>?_⟩,y.hid.trans x.hid,fun a o e n=>y.keep a o (x.keep a o e n) ?_,fun a ha=>(y.kd a (by rw[e1];exact BC _ ha)).trans (x.kd a ha)⟩
 . rcases A3.mp ha with ha|ha
   . exact hn a ha
   . cases q:H a with
     |none=>rfl
     |some o=>
      by_cases hm:a∈ρ.o
      . obtain⟨xs,e⟩:=h.trk (a:=a) (by rw[e1];exact BC _ hm)
        rw[hn2 a ha]at e;cases e
      . have:=x.keep a o q hm
        rw[hn2 a ha]at this;cases this
 . rw[e1]
   intro hm
   rcases A3.mp hm with hm|hm
   . exact n hm
   . rw[hn a hm]at e;cases e
theorem SC.sql{a:Addr}{xs:List L2.V}(h:SC K ρ H a xs):L2.SqL K H a xs:=by
 rcases h with⟨_,h⟩|h
 . exact .inl h
 . exact .inr h
theorem KT.sqt{a:Addr}{xs:List L2.V}(h:KT K a xs):L2.SqT K H a xs:=.inr h
structure Mv(ρ:Own)(H:L2.Hp)(ρ':Own)(H':L2.Hp):Prop where
 keep:∀(a:Addr) (o:L2.HO),H a=some o→ρ.no a→H' a=some o∧ρ'.no a
 get:∀(i:Nat) (a:Addr),ρ.o[i]?=some a→ρ'.o[i]?=some a
 kd:∀a∈ρ.o,hk (H' a)=hk (H a)
theorem Ext.mv(x:Ext ρ H ρ' H'):Mv ρ H ρ' H':=⟨fun a o e n=>⟨x.keep a o e n.1,x.WX e n⟩,fun i a e=>x.get e,x.kd⟩
theorem SC.mv{a:Addr}{xs:List L2.V}(x:Mv ρ H ρ' H')(h:SC K ρ H a xs):SC K ρ' H' a xs:=by
 rcases h with⟨n,h|⟨o,h⟩⟩|h
 . exact .inl ⟨(x.keep _ _ h n).2,.inl (x.keep _ _ h n).1⟩
 . exact .inl ⟨(x.keep _ _ h n).2,.inr ⟨o,(x.keep _ _ h n).1⟩⟩
 . exact .inr h
end
mutual
theorem RD.mv{K:KF}{mg:Str→Option Value}{ρ ρ':Own}{H H':L2.Hp}(x:Mv ρ H ρ' H'){v:Val}{u:L2.V}(q:RD K mg ρ H v u):RD K mg ρ' H' v u:=by
 cases q with
 |none=>exact .none
 |bool b=>exact .bool b
 |int i=>exact .int i
 |str t=>exact .str t
 |tup n e r=>exact .tup (x.keep _ _ e n).2 (x.keep _ _ e n).1 (RDs.mv x r)
 |lst n e r=>exact .lst (x.keep _ _ e n).2 (x.keep _ _ e n).1 (RDs.mv x r)
 |dct0 n e=>exact .dct0 (x.keep _ _ e n).2 (x.keep _ _ e n).1
 |ctup h=>exact .ctup h
 |scr h=>exact .scr (h.mv x)
 |ref e k=>exact .ref (x.get _ _ e) ((x.kd _ (AM e)).trans k)
 |dref e k=>exact .dref (x.get _ _ e) (by rw[x.kd _ (AM e)];exact k)
 |fn e=>exact .fn e
 |ty n=>exact .ty n
theorem RDs.mv{K:KF}{mg:Str→Option Value}{ρ ρ':Own}{H H':L2.Hp}(x:Mv ρ H ρ' H'){vs:List Val}{us:List L2.V}(q:RDs K mg ρ H vs us):RDs K mg ρ' H' vs us:=by
 cases q with
 |nil=>exact .nil
 |cons r rs=>exact .cons (RD.mv x r) (RDs.mv x rs)
end
theorem CR.mv{K:KF}{mg:Str→Option Value}{ρ ρ':Own}{H H':L2.Hp}{a:Addr}{c:Cel}(x:Mv ρ H ρ' H')(e:H' a=H a)(h:CR K mg ρ H a c):CR K mg ρ' H' a c:=by
 cases c with
 |lst vs=>obtain⟨xs,e1,r⟩:=h;exact⟨xs,e.trans e1,RDs.mv x r⟩
 |dS kvs=>obtain⟨xs,e1,k,r⟩:=h;exact⟨xs,e.trans e1,k,RDs.mv x r⟩
 |dT kvs=>obtain⟨xs,e1,k,r⟩:=h;exact⟨xs,e.trans e1,k,RDs.mv x r⟩
theorem RD.mono{K:KF}{mg:Str→Option Value}{ρ ρ':Own}{H H':L2.Hp}{v:Val}{u:L2.V}(r:RD K mg ρ H v u)(x:Ext ρ H ρ' H'):RD K mg ρ' H' v u:=RD.mv x.mv r
theorem RDs.mono{K:KF}{mg:Str→Option Value}{ρ ρ':Own}{H H':L2.Hp}{v:List Val}{u:List L2.V}(r:RDs K mg ρ H v u)(x:Ext ρ H ρ' H'):RDs K mg ρ' H' v u:=RDs.mv x.mv r
end M
end
section
namespace M
open PySem
section
variable {K:KF}{mg:Str→Option Value}{ρ ρ' ρ'':Own}{H H' H'':L2.Hp}{s s':Sto}
theorem RDs.length{vs:List Val}{xs:List L2.V}(q:RDs K mg ρ H vs xs):vs.length=xs.length:=by
 cases q with
 |nil=>rfl
 |cons _ r=>rw[AE,AE,r.length]
theorem RDs.get{vs:List Val}{xs:List L2.V}{i:Nat}{v:Val}(q:RDs K mg ρ H vs xs)(e:vs[i]?=some v):∃x,xs[i]?=some x∧RD K mg ρ H v x:=by
 cases q with
 |nil=>cases e
 |cons r rs=>
  cases i with
  |zero=>cases e;exact⟨_,rfl,r⟩
  |succ i=>exact RDs.get (i:=i) rs e
theorem RDs.X7{vs:List Val}{xs:List L2.V}{i:Nat}{x:L2.V}(q:RDs K mg ρ H vs xs)(e:xs[i]?=some x):∃v,vs[i]?=some v∧RD K mg ρ H v x:=by
 cases q with
 |nil=>cases e
 |cons r rs=>
  cases i with
  |zero=>cases e;exact⟨_,rfl,r⟩
  |succ i=>exact RDs.X7 (i:=i) rs e
theorem RDs.append{vs ws:List Val}{xs ys:List L2.V}(p:RDs K mg ρ H vs xs)(q:RDs K mg ρ H ws ys):RDs K mg ρ H (vs++ws) (xs++ys):=by
 cases p with
 |nil=>exact q
 |cons r rs=>exact .cons r (rs.append q)
theorem RDs.take{vs:List Val}{xs:List L2.V}(n:Nat)(q:RDs K mg ρ H vs xs):RDs K mg ρ H (vs.take n) (xs.take n):=by
 cases n with
 |zero=>exact .nil
 |succ n=>cases q with
  |nil=>exact .nil
  |cons r rs=>exact .cons r (rs.take n)
theorem RDs.drop{vs:List Val}{xs:List L2.V}(n:Nat)(q:RDs K mg ρ H vs xs):RDs K mg ρ H (vs.drop n) (xs.drop n):=by
 cases n with
 |zero=>exact q
 |succ n=>cases q with
  |nil=>exact .nil
  |cons _ rs=>exact rs.drop n
theorem RDs.set{v:Val}{x:L2.V}(r:RD K mg ρ H v x){vs:List Val}{xs:List L2.V}(i:Nat)(q:RDs K mg ρ H vs xs):RDs K mg ρ H (vs.set i v) (xs.set i x):=by
 cases q with
 |nil=>exact .nil
 |cons q t=>cases i with
  |zero=>exact .cons r t
  |succ i=>exact .cons q (RDs.set r i t)
theorem RDs.rep{vs:List Val}{xs:List L2.V}(r:RDs K mg ρ H vs xs):∀k:Nat,RDs K mg ρ H (AN k vs).flatten (AN k xs).flatten
 |0=>.nil
 |k+1=>by
  rw[Cq,Cq,Dj,Dj]
  exact r.append (RDs.rep r k)
theorem RDs.pick{vs:List Val}{xs:List L2.V}(r:RDs K mg ρ H vs xs):∀(is:List Nat),RDs K mg ρ H (is.filterMap fun i=>vs[i]?) (is.filterMap fun i=>xs[i]?)
 |[]=>.nil
 |i::is=>by
  rw[A2,A2]
  cases hx:vs[i]? with
  |none=>
   have:xs[i]?=none:=by
    have h2:vs.length≤i:=Dl.mp hx
    exact Dl.mpr (by rw[←r.length];exact h2)
   rw[this];exact RDs.pick r is
  |some v=>
   obtain⟨u,hu,ru⟩:=r.get hx
   rw[hu]
   exact .cons ru (RDs.pick r is)
theorem RDs.za{vs:List Val}{xs:List L2.V}(r:RDs K mg ρ H vs xs)(lo st:Int)(n:Nat):RDs K mg ρ H (L2.za vs lo st n) (L2.za xs lo st n):=by
 have h:=r.pick ((Ak n).map fun(k:Nat)=>(lo+(k:Int)*st).toNat)
 rw[Cy,Cy]at h
 exact h
theorem RDs.ints:∀(ns:List Int),RDs K mg ρ H (ns.map .int) (ns.map .int)
 |[]=>.nil
 |n::ns=>.cons (.int n) (RDs.ints ns)
theorem RDs.cut{vs:List Val}{xs:List L2.V}(r:RDs K mg ρ H vs xs)(lo hi:Option Int):RDs K mg ρ H (hW vs lo hi) (L2.rn xs lo hi):=by
 unfold hW L2.rn
 rw[r.length]
 exact(r.drop _).take _
theorem fI{α:Type}:∀{l:List α} {i j:Nat} {x:α},l.Nodup→l[i]?=some x→l[j]?=some x→i=j
 |[],_,_,_,_,e,_=>by simp at e
 |a::l,0,0,_,_,_,_=>rfl
 |a::l,0,j+1,x,nd,e1,e2=>by
  simp at e1 e2;subst e1
  exact absurd (AM e2) (BE.mp nd).1
 |a::l,i+1,0,x,nd,e1,e2=>by
  simp at e1 e2;subst e2
  exact absurd (AM e1) (BE.mp nd).1
 |a::l,i+1,j+1,x,nd,e1,e2=>by
  simp at e1 e2
  rw[fI (BE.mp nd).2 e1 e2]
theorem Ext.new(h:HR K mg ρ s H){p:Addr}(hp:H p=none)(o:L2.HO):Ext ρ H ρ (L2.upd H p o):=
 ⟨⟨[],by simp,fun a ha=>by cases ha⟩,rfl,fun a u e _=>by rw[L2.zO (L2.zU e hp)];exact e,fun a ha=>by rw[L2.zO fun z=>(h.new hp).1 (by rw[←z];exact ha)]⟩
theorem HR.more(h:HR K mg ρ s H){p:Addr}(hp:H p=none)(o:L2.HO):HR K mg ρ s (L2.upd H p o):=by
 refine⟨h.len,h.nd,fun i c e=>?_,fun a ha=>?_⟩
 . obtain⟨a,e1,r⟩:=h.cel i c e
   obtain⟨u,e2⟩:=r.there
   exact⟨a,e1,r.mv (Ext.new h hp o).mv (L2.zO (L2.zU e2 hp))⟩
 . obtain⟨⟨xs,e⟩,n⟩:=h.hid a ha
   exact⟨⟨xs,by rw[L2.zO (L2.zU e hp)];exact e⟩,n⟩
noncomputable def Own.more(ρ:Own)(p:Addr):Own:=⟨ρ.o++[p],ρ.h⟩
theorem Ext.own(h:HR K mg ρ s H){p:Addr}(hp:H p=none)(o:L2.HO):Ext ρ H (ρ.more p) (L2.upd H p o):=
 ⟨⟨[p],rfl,fun a ha=>by rw[A1.mp ha];exact hp⟩,rfl,fun a u e _=>by rw[L2.zO (L2.zU e hp)];exact e,fun a ha=>by rw[L2.zO fun z=>(h.new hp).1 (by rw[←z];exact ha)]⟩
theorem sF(h:HR K mg ρ s H)(p:Addr):(ρ.more p).o[s.length]?=some p:=by
 show (ρ.o++[p])[s.length]?=some p
 rw[←h.len,AW (Ai _)];simp
theorem HR.Yg(h:HR K mg ρ s H){p:Addr}(hp:H p=none){c:Cel}{o:L2.HO}(r:CR K mg (ρ.more p) (L2.upd H p o) p c):HR K mg (ρ.more p) (s++[c]) (L2.upd H p o):=by
 have X:=Ext.own h hp o
 refine⟨by show (ρ.o++[p]).length=_;rw[Aw,Aw,h.len];rfl,?_,fun i ws q=>?_,fun a ha=>?_⟩
 . show (ρ.o++[p]).Nodup
   rw[F9]
   exact⟨h.nd,by simp,fun a ha b hb=>by rw[A1.mp hb];intro z;subst z;exact(h.new hp).1 ha⟩
 . by_cases hi:i<s.length
   . rw[AQ hi]at q
     obtain⟨a,e1,t⟩:=h.cel i ws q
     obtain⟨u,e2⟩:=t.there
     exact⟨a,X.get e1,t.mv X.mv (L2.zO (L2.zU e2 hp))⟩
   . have hi':i=s.length:=by
      have:=(Ap.mp q).1
      rw[Aw]at this
      simp at this;omega
     subst hi'
     rw[AW (Ai _)]at q
     simp at q
     subst q
     exact⟨p,sF h p,r⟩
 . obtain⟨⟨ys,q⟩,n⟩:=h.hid a ha
   refine⟨⟨ys,by rw[L2.zO (L2.zU q hp)];exact q⟩,fun hm=>?_⟩
   rcases A3.mp hm with hm|hm
   . exact n hm
   . rw[A1.mp hm,hp]at q;cases q
theorem HR.own(h:HR K mg ρ s H){p:Addr}(hp:H p=none){vs:List Val}{xs:List L2.V}(r:RDs K mg ρ H vs xs):HR K mg (ρ.more p) (s++[.lst vs]) (L2.upd H p (.lst xs)):=h.Yg hp ⟨xs,L2.zd,r.mono (Ext.own h hp _)⟩
theorem Ext.vO(h:HR K mg ρ s H){i:Nat}{a:Addr}(e:ρ.o[i]?=some a){o:L2.HO}(k:hk (some o)=hk (H a)):Ext ρ H ρ (L2.upd H a o):=
 ⟨⟨[],by simp,fun a ha=>by cases ha⟩,rfl,fun b u q n=>by rw[L2.zO (fun z=>n (by rw[z];exact AM e))];exact q,fun b hb=>by
   by_cases z:b=a
   . subst z;rw[L2.zd];exact k
   . rw[L2.zO z]⟩
theorem Ext.write(h:HR K mg ρ s H){i:Nat}{a:Addr}(e:ρ.o[i]?=some a){ys:List L2.V}(k:H a=some (.lst ys))(xs:List L2.V):Ext ρ H ρ (L2.upd H a (.lst xs)):=Ext.vO h e (by rw[k];rfl)
theorem HR.vO(h:HR K mg ρ s H){i:Nat}{a:Addr}(e:ρ.o[i]?=some a){c:Cel}{o:L2.HO}(k:hk (some o)=hk (H a))(r:CR K mg ρ (L2.upd H a o) a c):HR K mg ρ (s.set i c) (L2.upd H a o):=by
 have X:=Ext.vO h e k
 refine⟨by rw[Dd];exact h.len,h.nd,fun j ws q=>?_,fun b hb=>?_⟩
 . skip
   by_cases hij:i=j
   . subst hij
     have hi:i<s.length:=by rw[←h.len];exact(Ap.mp e).1
     rw[Bo hi]at q
     cases q
     exact⟨a,e,r⟩
   . rw[Ci hij]at q
     obtain⟨b,e1,t⟩:=h.cel j ws q
     refine⟨b,e1,t.mv X.mv ?_⟩
     have hb:b≠a:=by
      intro z
      subst z
      exact hij (fI h.nd e e1)
     rw[L2.zO hb]
 . obtain⟨⟨ys,q⟩,n⟩:=h.hid b hb
   exact⟨⟨ys,by rw[L2.zO (fun z=>n (by rw[z];exact AM e))];exact q⟩,n⟩
theorem HR.write(h:HR K mg ρ s H){i:Nat}{a:Addr}(e:ρ.o[i]?=some a){ys:List L2.V}(k:H a=some (.lst ys)){vs:List Val}{xs:List L2.V}(r:RDs K mg ρ H vs xs):HR K mg ρ (upd s i vs) (L2.upd H a (.lst xs)):=
 h.vO e (by rw[k];rfl) ⟨xs,L2.zd,r.mono (Ext.write h e k xs)⟩
theorem ER.mono{env:Env}{σ:L2.St}(x:Ext ρ H ρ' H')(h:ER K mg ρ H env σ):ER K mg ρ' H' env σ:=⟨h.len,fun i v e=>by
 obtain⟨u,h1,h2⟩:=h.at_ i v e
 exact⟨u,h1,h2.mono x⟩⟩
theorem ER.set{env:Env}{σ:L2.St}(h:ER K mg ρ H env σ)(i:Nat){v:Val}{x:L2.V}(r:RD K mg ρ H v x):ER K mg ρ H (env.set i (some v)) (σ.set i (some x)):=by
 refine⟨by rw[Dd,Dd,h.len],fun j w e=>?_⟩
 by_cases hij:i=j
 . subst hij
   by_cases hi:i<env.length
   . rw[Bo hi]at e
     cases e
     exact⟨x,by rw[Bo (by rw[←h.len];exact hi)],r⟩
   . rw[BW (by rw[Dd];omega)]at e
     cases e
 . rw[Ci hij]at e
   rw[Ci hij]
   exact h.at_ j w e
end
section
variable (K:KF)(mg:Str→Option Value)
def yS{α β:Type}(R:Own→L2.Hp→α→β→Prop)(ρ:Own)(H:L2.Hp)(o:Out α)(Q:β→L2.Hp→Prop):Prop:=
 match o with
 |.ok v s'=>∀ρ' x H',Ext ρ H ρ' H'→HR K mg ρ' s' H'→R ρ' H' v x→Q x H'
 |_=>False
noncomputable def tV(env:Env)(s:Sto)(o:Out Val):L2.TE:=fun σ H Q=>∃ρ,HR K mg ρ s H∧ER K mg ρ H env σ∧yS K mg (RD K mg) ρ H o Q
noncomputable def tVs(env:Env)(s:Sto)(o:Out (List Val)):L2.TA:=fun σ H Q=>∃ρ,HR K mg ρ s H∧ER K mg ρ H env σ∧yS K mg (RDs K mg) ρ H o Q
noncomputable def tT(env:Env)(s:Sto)(o:Out Bool):L2.TT:=fun σ H Q=>∃ρ,HR K mg ρ s H∧ER K mg ρ H env σ∧yS K mg (fun _ _ a b=>a=b) ρ H o Q
noncomputable def tO(env:Env)(s:Sto)(o:Out (Option Int)):L2.TO:=fun σ H Q=>∃ρ,HR K mg ρ s H∧ER K mg ρ H env σ∧yS K mg (fun _ _ a b=>a=b) ρ H o Q
end
section
variable {X:L2.Cx}{e:Expr}
theorem zc{t t':L2.TE}(h:L2.PE X e t)(i:∀σ H Q,t' σ H Q→t σ H Q):L2.PE X e t':=fun pins s σ H Q I q=>h pins s σ H Q I (i σ H Q q)
theorem p5{t t':L2.TT}(h:L2.PT X e t)(i:∀σ H Q,t' σ H Q→t σ H Q):L2.PT X e t':=fun pins s σ H Q I q=>h pins s σ H Q I (i σ H Q q)
theorem fW{es:List Expr}{t t':L2.TA}(h:L2.PA X es t)(i:∀σ H Q,t' σ H Q→t σ H Q):L2.PA X es t':=fun pos pins s σ H Q I q=>h pos pins s σ H Q I (i σ H Q q)
theorem xN{st:Stmt}{t t':L2.TS}(h:L2.PS X st t)(i:∀D σ H,t' D σ H→t D σ H):L2.PS X st t':=fun pins s σ H D I q=>h pins s σ H D I (i D σ H q)
theorem kX{st:List Stmt}{t t':L2.TS}(h:L2.PSs X st t)(i:∀D σ H,t' D σ H→t D σ H):L2.PSs X st t':=fun pins s σ H D I q=>h pins s σ H D I (i D σ H q)
theorem Wv{t:L2.TE}(h:∀σ H Q,¬t σ H Q):L2.PE X e t:=fun pins s σ H Q I q=>(h σ H Q q).elim
theorem W6{t:L2.TT}(h:∀σ H Q,¬t σ H Q):L2.PT X e t:=fun pins s σ H Q I q=>(h σ H Q q).elim
theorem W8{t:L2.TT}(h:∀σ H Q,¬t σ H Q):L2.PW X e t:=fun wh pins s σ H Q I q=>(h σ H Q q).elim
theorem Ws{es:List Expr}{t:L2.TA}(h:∀σ H Q,¬t σ H Q):L2.PA X es t:=fun pos pins s σ H Q I q=>(h σ H Q q).elim
end
section
variable {K:KF}{mg:Str→Option Value}{env:Env}{s:Sto}
theorem VY{o:Out Val}(h:∀v s',o≠.ok v s'){σ:L2.St}{H:L2.Hp}{Q:L2.VK}:¬tV K mg env s o σ H Q:=by
 rintro ⟨ρ,_,_,w⟩
 cases o with
 |ok v s'=>exact h v s' rfl
 |_=>exact w
theorem XR{o:Out (List Val)}(h:∀v s',o≠.ok v s'){σ:L2.St}{H:L2.Hp}{Q:List L2.V→L2.Hp→Prop}:¬tVs K mg env s o σ H Q:=by
 rintro ⟨ρ,_,_,w⟩
 cases o with
 |ok v s'=>exact h v s' rfl
 |_=>exact w
theorem a0{o:Out Bool}(h:∀v s',o≠.ok v s'){σ:L2.St}{H:L2.Hp}{Q:Bool→L2.Hp→Prop}:¬tT K mg env s o σ H Q:=by
 rintro ⟨ρ,_,_,w⟩
 cases o with
 |ok v s'=>exact h v s' rfl
 |_=>exact w
end
end M
end
section
namespace M
open PySem
theorem yN:zQ=Az:=by rw[Bi];rfl
section
variable {K:KF}{mg:Str→Option Value}{ρ ρ':Own}{H H':L2.Hp}{s s':Sto}
theorem xJ(hr:HR K mg ρ s H){v:Val}{x:L2.V}{vs:List Val}(r:RD K mg ρ H v x)(e:yK s v=some vs):∃a xs,x=.ref a∧H a=some (.lst xs)∧RDs K mg ρ H vs xs:=by
 cases r with
 |lst n h q=>cases e;exact⟨_,_,rfl,h,q⟩
 |@ref a i h _=>
  simp only[yK]at e
  split at e
  . rename_i ws hw
    cases e
    obtain⟨b,xs,e1,e2,q⟩:=hr.obj i _ hw
    rw[h]at e1;cases e1
    exact⟨_,_,rfl,e2,q⟩
  . cases e
 |_=>cases e
theorem tJ(hr:HR K mg ρ s H){v:Val}{x:L2.V}{vs:List Val}(r:RD K mg ρ H v x)(e:xh s v=some vs):∃a xs,x=.ref a∧(L2.SqL K H a xs∨L2.SqT K H a xs)∧RDs K mg ρ H vs xs:=by
 cases r with
 |lst n h q=>cases e;exact⟨_,_,rfl,.inl (.of h),q⟩
 |tup n h q=>cases e;exact⟨_,_,rfl,.inr (.of h),q⟩
 |ctup h=>cases e;exact⟨_,_,rfl,.inr h.sqt,RDs.ints _⟩
 |scr h=>cases e;exact⟨_,_,rfl,.inl h.sql,RDs.ints _⟩
 |@ref a i h _=>
  simp only[xh]at e
  split at e
  . rename_i ws hw
    cases e
    obtain⟨b,xs,e1,e2,q⟩:=hr.obj i _ hw
    rw[h]at e1;cases e1
    exact⟨_,_,rfl,.inl (.of e2),q⟩
  . cases e
 |_=>cases e
mutual
theorem RD.reads{P:Program}{w:World}{h:Heap}(ok:L2.HOk P w H h){v:Val}{x:L2.V}{u:Value}(q:RD K mg ρ H v x)(hv:v.isR=true)(r:L2.RelV x u):∃as,Reads h u v.d as∧(L2.xj v.d=false→BO ∉ as):=by
 cases q with
 |none=>cases (show u=Aj from r);exact⟨[],.none,fun _=>by simp⟩
 |bool b=>cases (show u=D0 b from r);exact⟨[],.bool b,fun _=>by simp⟩
 |int i=>obtain⟨t,q⟩:=(show ∃t,u=DG i t from r);cases q;exact⟨[],.int i t,fun _=>by simp⟩
 |str x=>obtain⟨t,q⟩:=(show ∃t,u=GB x t from r);cases q;exact⟨[],.str x t,fun _=>by simp⟩
 |@lst a vs xs n ha rs=>
  cases (show u=Bc a from r)
  obtain⟨z,its,n,rv,e⟩:=(show L2.ze P w H h a (.lst xs) from ok a _ ha)
  obtain⟨as,q,_⟩:=RDs.reads ok rs (by simpa only[Val.isR] using hv) rv
  exact⟨a::as,.list e rfl rfl (by simpa using q),fun z=>by simp[Val.d,L2.xj]at z⟩
 |@tup a vs xs n ha rs=>
  cases (show u=Bc a from r)
  obtain⟨z,its,rv,o,e,c,n,dd⟩:=(show L2.ze P w H h a (.tup xs) from ok a _ ha)
  obtain⟨as,q,q2⟩:=RDs.reads ok rs (by simpa only[Val.isR] using hv) rv
  exact⟨as,.tuple e c dd.1 (by simpa using q),fun z=>q2 (by simpa [Val.d,L2.xj] using z)⟩
 |@dct0 a n ha=>
  cases (show u=Bc a from r)
  obtain⟨z,y,vs,rv,o,es,ep,e,c,dd,k⟩:=(show L2.ze P w H h a (.dK []) from ok a _ ha)
  cases rv
  have hes:es=#[]:=by
   have h2:=k.2.1
   cases hl:es.toList with
   |nil=>simpa using hl
   |cons a r=>rw[hl]at h2;cases h2
  subst hes
  refine⟨[a]++[],Reads.dict (as:=[]) (bs:=[]) e c.1 dd .nil .nil,fun _=>?_⟩
  have:a≠BO:=by simpa using y
  simpa using BZ this
 |ctup _=>cases hv
 |scr _=>cases hv
 |ref _ _=>cases hv
 |dref _ _=>cases hv
 |fn _=>cases hv
 |ty _=>cases hv
theorem RDs.reads{P:Program}{w:World}{h:Heap}(ok:L2.HOk P w H h){vs:List Val}{xs:List L2.V}{us:List Value}(p:RDs K mg ρ H vs xs)(hv:pT vs=true)(q:L2.Vals xs us):∃as,ReadsAll h us (ds vs) as∧(L2.xI (ds vs)=false→BO ∉ as):=by
 cases p with
 |nil=>cases q;exact⟨[],.nil,fun _=>by simp⟩
 |cons r rs=>
  cases q with
  |cons q1 q2=>
   rw[pT,Ab]at hv
   obtain⟨as,h1,h2⟩:=RD.reads ok r hv.1 q1
   obtain⟨bs,h3,h4⟩:=RDs.reads ok rs hv.2 q2
   refine⟨as++bs,.cons h1 h3,fun z=>?_⟩
   rw[ds,L2.xI,D8]at z
   intro hm
   rcases A3.mp hm with hm|hm
   . exact h2 z.1 hm
   . exact h4 z.2 hm
end
theorem uJ{P:Program}{w:World}{h:Heap}(ok:L2.HOk P w H h)(hr:HR K mg ρ s H){v:Val}{x:L2.V}{u:Value}(hv:(xH s v).isR=true)(r:RD K mg ρ H v x)(ru:L2.RelV x u) :
 ∃as,Reads h u (xH s v).d as∧(L2.xj (xH s v).d=false→BO ∉ as):=by
 cases v with
 |ref i=>
  cases r with
  |@ref a _ e0=>
  simp only[xH]at hv ⊢
  split at hv
  . rename_i ws hw
    obtain⟨b,xs,e1,e2,q⟩:=hr.obj i _ hw
    rw[e0]at e1;cases e1
    cases (show u=Bc a from ru)
    obtain⟨z,its,n,rv,e⟩:=(show L2.ze P w H h a (.lst xs) from ok a _ e2)
    obtain⟨as,q,_⟩:=RDs.reads ok q (by simpa only[Val.isR] using hv) rv
    exact⟨a::as,.list e rfl rfl (by simpa using q),fun z=>by simp[Val.d,L2.xj]at z⟩
  . cases hv
 |_=>exact RD.reads ok r hv ru
theorem RDs.eC{P:Program}{w:World}{h:Heap}(ok:L2.HOk P w H h)(hr:HR K mg ρ s H):∀{vs:List Val} {xs:List L2.V} {us:List Value},RDs K mg ρ H vs xs→pT (vs.map (xH s))=true→L2.Vals xs us→∃as,ReadsAll h us (ds (vs.map (xH s))) as∧(L2.xI (ds (vs.map (xH s)))=false→BO ∉ as)
 |_,_,_,.nil,_,r=>by cases r;exact⟨[],.nil,fun _=>by simp⟩
 |_,_,_,.cons r rs,hv,q=>by
  cases q with
  |cons q1 q2=>
   rw[AA,pT,Ab]at hv
   obtain⟨as,h1,h2⟩:=uJ ok hr hv.1 r q1
   obtain⟨bs,h3,h4⟩:=RDs.eC ok hr rs hv.2 q2
   rw[AA]
   refine⟨as++bs,.cons h1 h3,fun z=>?_⟩
   rw[ds,L2.xI,D8]at z
   intro hm
   rcases A3.mp hm with hm|hm
   . exact h2 z.1 hm
   . exact h4 z.2 hm
theorem gB{v:Val}(h:∀vs,v≠.tup vs):yC s v=xH s v:=by
 cases v<;>first|rfl|exact absurd rfl (h _)
theorem xR{P:Program}{w:World}{h:Heap}(ok:L2.HOk P w H h)(hr:HR K mg ρ s H){v:Val}{x:L2.V}{u:Value}(hv:(yC s v).isR=true)(r:RD K mg ρ H v x)(ru:L2.RelV x u) :
 ∃as,Reads h u (yC s v).d as∧(L2.xj (yC s v).d=false→BO ∉ as):=by
 cases v with
 |tup vs=>
  cases r with
  |@tup a _ xs n ha rs=>
   cases (show u=Bc a from ru)
   obtain⟨z,its,rv,o,e,c,n,dd⟩:=(show L2.ze P w H h a (.tup xs) from ok a _ ha)
   obtain⟨as,q,q2⟩:=RDs.eC ok hr rs (by simpa only[yC,Val.isR] using hv) rv
   exact⟨as,.tuple e c dd.1 (by simpa using q),fun z=>q2 (by simpa [yC,Val.d,L2.xj] using z)⟩
 |_=>exact(show _ from by rw[gB (fun _ h=>by cases h)]at hv ⊢;exact uJ ok hr hv r ru)
mutual
theorem yM:∀{v:Val},v.isD=true→v.isR=true
 |.none,_=>rfl
 |.bool _,_=>rfl
 |.int _,_=>rfl
 |.str _,_=>rfl
 |.tup vs,h=>by rw[Val.isR];exact wj (by simpa only[Val.isD] using h)
 |.lst vs,h=>by rw[Val.isR];exact wj (by simpa only[Val.isD] using h)
 |.dct0,h=>by cases h
 |.ctup _,h=>by cases h
 |.scr _,h=>by cases h
 |.ref _,h=>by cases h
 |.fn _,h=>by cases h
 |.ty _,h=>by cases h
theorem wj:∀{vs:List Val},xc vs=true→pT vs=true
 |[],_=>rfl
 |v::vs,h=>by
  rw[xc,Ab]at h
  rw[pT,yM h.1,wj h.2];rfl
end
mutual
theorem zf:∀{v:Val},v.isD=true→v.d.canLay0=true
 |.none,_=>rfl
 |.bool _,_=>rfl
 |.int _,_=>rfl
 |.str _,h=>by simpa only[Val.isD,Val.d,GY] using h
 |.tup vs,h=>by rw[Val.d,GY];exact xY (by simpa only[Val.isD] using h)
 |.lst vs,h=>by rw[Val.d,GY];exact xY (by simpa only[Val.isD] using h)
 |.dct0,h=>by cases h
 |.ctup _,h=>by cases h
 |.scr _,h=>by cases h
 |.ref _,h=>by cases h
 |.fn _,h=>by cases h
 |.ty _,h=>by cases h
theorem xY:∀{vs:List Val},xc vs=true→PyData.canLayAll0 (ds vs)=true
 |[],_=>rfl
 |v::vs,h=>by
  rw[xc,Ab]at h
  rw[ds,PyData.canLayAll0,zf h.1,xY h.2];rfl
end
theorem xk(hr:HR K mg ρ s H){m:Bool}{vs:List Val}{xs:List L2.V}(r:RDs K mg ρ H vs xs){Q:L2.VK}(w:yS K mg (RD K mg) ρ H (newList m vs s) Q):∀p,H p=none→Q (.ref p) (L2.upd H p (.lst xs)):=fun p hp=>by
 cases m with
 |true=>exact w _ _ _ (Ext.own hr hp _) (hr.own hp r) (.ref (sF hr p) (by rw[L2.zd];rfl))
 |false=>exact w _ _ _ (Ext.new hr hp _) (hr.more hp _) (.lst (hr.new hp) L2.zd (r.mono (Ext.new hr hp _)))
theorem pZ(hr:HR K mg ρ s H){vs:List Val}{xs:List L2.V}(r:RDs K mg ρ H vs xs){Q:L2.VK}(w:yS K mg (RD K mg) ρ H (.ok (.tup vs) s) Q):∀p,H p=none→Q (.ref p) (L2.upd H p (.tup xs)):=fun p hp=>
 w _ _ _ (Ext.new hr hp _) (hr.more hp _) (.tup (hr.new hp) L2.zd (r.mono (Ext.new hr hp _)))
theorem Ext.same(hr:HR K mg ρ s H)(e:L2.um H H'):Ext ρ H ρ H':=⟨⟨[],by simp,fun a ha=>by cases ha⟩,rfl,fun a o h _=>e a o h,fun a ha=>by
 obtain⟨o,q⟩:=hr.trk ha
 rw[q,e a o q]⟩
theorem HR.same(hr:HR K mg ρ s H)(e:L2.um H H'):HR K mg ρ s H':=⟨hr.len,hr.nd,fun i c q=>by
 obtain⟨a,e1,r⟩:=hr.cel i c q
 obtain⟨o,e2⟩:=r.there
 exact⟨a,e1,r.mv (Ext.same hr e).mv ((e a _ e2).trans e2.symm)⟩,fun a ha=>by
 obtain⟨⟨ys,q⟩,n⟩:=hr.hid a ha
 exact⟨⟨ys,e a _ q⟩,n⟩⟩
theorem vE(hr:HR K mg ρ s H){vs:List Val}{xs:List L2.V}(r:RDs K mg ρ H vs xs){Q:L2.VK}(w:yS K mg (RD K mg) ρ H (.ok (.tup vs) s) Q):L2.tR H xs Q:=fun p H' e h=>by
 have hr':=hr.same e
 refine w _ _ _ (Ext.same hr e) hr' (.tup ⟨fun hm=>?_,fun hm=>?_⟩ h (r.mono (Ext.same hr e)))
 . obtain⟨i,hi,q⟩:=Bq hm
   have hs:i<s.length:=by rw[←hr'.len];exact hi
   obtain⟨b,e1,e2⟩:=hr'.cel i _ (Aa hs)
   rw[Aa hi,q]at e1
   cases e1
   have:=e2.hk
   rw[h]at this
   exact absurd this (CO 0)
 . obtain⟨⟨ys,q⟩,_⟩:=hr'.hid _ hm
   rw[h]at q;cases q
end
section
variable (K:KF)(mg:Str→Option Value)
noncomputable def rM2(g:Val→Val→Sto→Out Val):L2.R2:=fun x y H Q=>∃ρ s v w,HR K mg ρ s H∧RD K mg ρ H v x∧RD K mg ρ H w y∧yS K mg (RD K mg) ρ H (g v w s) Q
noncomputable def rMc(g:List Val→Sto→Out Val):List L2.V→L2.Hp→L2.VK→Prop:=fun xs H Q=>∃ρ s vs,HR K mg ρ s H∧RDs K mg ρ H vs xs∧yS K mg (RD K mg) ρ H (g vs s) Q
end
section
variable {X:L2.Cx}{k:Nat}
theorem zI{K:KF}{mg:Str→Option Value}{ρ:Own}{H:L2.Hp}{s:Sto}(hr:HR K mg ρ s H){v:Val}{x:L2.V}(r:RD K mg ρ H v x){Q:L2.VK}(w:yS K mg (RD K mg) ρ H (.ok v s) Q):Q x H:=w _ _ _ Ext.refl hr r
theorem mX(m:Bool):L2.OpR X (BH .Add) (rM2 X.K X.mg (binOp m .add)):=by
 intro pins s σ H x y v u Q I rx ry h
 obtain⟨ρ,t,a,b,hr,ra,rb,w⟩:=h
 simp only[binOp]at w
 split at w
 . cases ra;cases rb
   exact L2.YW pins s σ H _ _ v u Q I rx ry ⟨_,_,rfl,rfl,zI hr (.int _) w⟩
 . split at w
   . rename_i hz
     cases ra;cases rb
     exact L2.mW pins s σ H _ _ v u Q I rx ry ⟨_,_,rfl,rfl,by rw[←yN];exact hz,zI hr (.str _) w⟩
   . exact w.elim
 . split at w
   . rename_i hz
     cases ra with
     |tup n1 h1 q1=>
      cases rb with
      |tup n2 h2 q2=>
       refine L2.fL pins s σ H _ _ v u Q I rx ry ⟨_,_,_,_,rfl,rfl,h1,h2,?_,vE hr (q1.append q2) w⟩
       rw[←q1.length,←q2.length,←yN];exact hz
   . exact w.elim
 . split at w
   . rename_i ea eb
     split at w
     . rename_i hz
       obtain⟨p1,xs,rfl,h1,q1⟩:=xJ hr ra ea
       obtain⟨p2,ys,rfl,h2,q2⟩:=xJ hr rb eb
       refine L2.YY pins s σ H _ _ v u Q I rx ry ⟨_,_,_,_,rfl,rfl,h1,h2,?_,xk hr (q1.append q2) w⟩
       rw[←q1.length,←q2.length,←yN];exact hz
     . exact w.elim
   . exact w.elim
theorem me(m:Bool):L2.OpR X (BH .Sub) (rM2 X.K X.mg (binOp m .sub)):=by
 intro pins s σ H x y v u Q I rx ry h
 obtain⟨ρ,t,a,b,hr,ra,rb,w⟩:=h
 simp only[binOp]at w
 split at w
 . cases ra;cases rb
   exact L2.Ye pins s σ H _ _ v u Q I rx ry ⟨_,_,rfl,rfl,zI hr (.int _) w⟩
 . exact w.elim
theorem mZ(m:Bool):L2.OpR X (BH .Mult) (rM2 X.K X.mg (binOp m .mul)):=by
 intro pins s σ H x y v u Q I rx ry h
 obtain⟨ρ,t,a,b,hr,ra,rb,w⟩:=h
 simp only[binOp]at w
 split at w
 . split at w
   . rename_i hz
     cases ra;cases rb
     exact L2.Yb pins s σ H _ _ v u Q I rx ry ⟨_,_,rfl,rfl,hz,zI hr (.int _) w⟩
   . exact w.elim
 . split at w
   . rename_i hz
     obtain⟨z1,z2,z3,z4⟩:=hz
     cases ra with
     |tup n1 h1 q1=>
      cases rb
      refine L2.bF pins s σ H _ _ v u Q I rx ry ⟨_,_,_,rfl,rfl,h1,z1,z2,?_,?_,vE hr (q1.rep _) w⟩
      . intro e;subst e;cases q1;exact z3 rfl
      . rw[←q1.length];exact z4
   . exact w.elim
 . split at w
   . rename_i ea
     split at w
     . rename_i hz
       obtain⟨z1,z2,z3⟩:=hz
       obtain⟨p1,xs,rfl,h1,q1⟩:=xJ hr ra ea
       cases rb
       refine L2.Yd pins s σ H _ _ v u Q I rx ry ⟨_,_,_,rfl,rfl,h1,by omega,by omega,?_,xk hr (q1.rep _) w⟩
       rw[←q1.length,←yN];exact z3
     . exact w.elim
   . exact w.elim
 . exact w.elim
theorem nI(m:Bool):L2.OpR X (BH .FloorDiv) (rM2 X.K X.mg (binOp m .fdiv)):=by
 intro pins s σ H x y v u Q I rx ry h
 obtain⟨ρ,t,a,b,hr,ra,rb,w⟩:=h
 simp only[binOp]at w
 split at w
 . split at w
   . rename_i hz
     cases ra;cases rb
     exact L2.bD pins s σ H _ _ v u Q I rx ry ⟨_,_,rfl,rfl,hz,zI hr (.int _) w⟩
   . exact w.elim
 . exact w.elim
theorem mY(m:Bool):L2.OpR X (BH .Mod) (rM2 X.K X.mg (binOp m .mod)):=by
 intro pins s σ H x y v u Q I rx ry h
 obtain⟨ρ,t,a,b,hr,ra,rb,w⟩:=h
 simp only[binOp]at w
 split at w
 . split at w
   . rename_i hz
     cases ra;cases rb
     exact L2.Ya pins s σ H _ _ v u Q I rx ry ⟨_,_,rfl,rfl,hz,zI hr (.int _) w⟩
   . exact w.elim
 . exact w.elim
theorem md(m:Bool):L2.OpR X (BH .Pow) (rM2 X.K X.mg (binOp m .pow)):=by
 intro pins s σ H x y v u Q I rx ry h
 obtain⟨ρ,t,a,b,hr,ra,rb,w⟩:=h
 simp only[binOp]at w
 split at w
 . split at w
   . rename_i hz
     cases ra;cases rb
     exact L2.Yc pins s σ H _ _ v u Q I rx ry ⟨_,_,rfl,rfl,hz,zI hr (.int _) w⟩
   . exact w.elim
 . exact w.elim
end
end M
end
section
namespace L2
open PySem PyProof PyProof.Rows
section
variable {κ:Type} [DecidableEq κ]
noncomputable def tP(kvs:List (κ × V))(k:κ):Option V:=(kvs.find? fun kv=>decide (kv.1=k)).map (·.2)
noncomputable def putK(kvs:List (κ × V))(k:κ)(v:V):List (κ × V):=
 if (kvs.any fun kv=>decide (kv.1=k))=true then kvs.map (fun kv=>if kv.1=k then (kv.1,v) else kv) else kvs++[(k,v)]
theorem uh{p:κ × V}{r:List (κ × V)}{k:κ}(e:p.1=k):tP (p::r) k=some p.2:=by simp[tP,DK,e]
theorem ug{p:κ × V}{r:List (κ × V)}{k:κ}(e:¬p.1=k):tP (p::r) k=tP r k:=by simp[tP,DK,e]
theorem rk(k:κ):∀kvs:List (κ × V),(kvs.any fun kv=>decide (kv.1=k))=(tP kvs k).isSome
 |[]=>rfl
 |p::r=>by
  rw[Dh]
  by_cases e:p.1=k
  . simp only[uh e,decide_eq_true e,Bool.true_or,Option.isSome_some]
  . rw[ug e,decide_eq_false e,Ha];exact rk k r
theorem tW(kvs:List (κ × V))(k:κ)(v:V):(putK kvs k v).length≤kvs.length+1:=by
 unfold putK
 split
 . rw[Ag];omega
 . rw[Aw,AE,Cp];omega
theorem sJ.wW{o:Option V}{u:Option Value}(r:sJ o u):o.isSome=u.isSome:=by
 cases o with
 |none=>cases u with
  |none=>rfl
  |some _=>exact(show False from r).elim
 |some _=>cases u with
  |none=>exact(show False from r).elim
  |some _=>rfl
theorem KV.val{kvs:List (κ × V)}{vs:List (κ × Value)}(r:KV kvs vs)(k:κ):sJ (tP kvs k) (valueAt vs k):=by
 unfold KV at r
 induction r with
 |nil=>exact Bd
 |@cons p q ps qs h t ih=>
  obtain⟨h1,h2⟩:=h
  by_cases e:p.1=k
  . have e':q.1=k:=h1.symm.trans e
    have b:valueAt (q::qs) k=some q.2:=by simp[valueAt,DK,e']
    rw[uh e,b];exact h2
  . have e':¬q.1=k:=fun z=>e (h1.trans z)
    have b:valueAt (q::qs) k=valueAt qs k:=by simp[valueAt,DK,e']
    rw[ug e,b];exact ih
theorem KV.any{kvs:List (κ × V)}{vs:List (κ × Value)}(r:KV kvs vs)(k:κ):(kvs.any fun kv=>decide (kv.1=k))=vs.any fun kv=>decide (kv.1=k):=by
 unfold KV at r
 induction r with
 |nil=>rfl
 |cons h t ih=>rw[Dh,Dh,ih,h.1]
theorem KV.XA{kvs:List (κ × V)}{vs:List (κ × Value)}(r:KV kvs vs)(k:κ){y:V}{u:Value}(ry:RelV y u) :
 KV (kvs.map fun kv=>if kv.1=k then (kv.1,y) else kv) (vs.map fun kv=>if kv.1=k then (kv.1,u) else kv):=by
 unfold KV at r ⊢
 induction r with
 |nil=>exact .nil
 |@cons p q ps qs h t ih=>
  rw[AA,AA]
  refine .cons ?_ ih
  obtain⟨h1,h2⟩:=h
  by_cases e:p.1=k
  . rw[if_pos e,if_pos (h1.symm.trans e)];exact⟨h1,ry⟩
  . rw[if_neg e,if_neg (fun z=>e (h1.trans z))];exact⟨h1,h2⟩
theorem KV.put{kvs:List (κ × V)}{vs:List (κ × Value)}(r:KV kvs vs)(k:κ){y:V}{u:Value}(ry:RelV y u):KV (putK kvs k y) (stored vs k u):=by
 unfold putK stored
 rw[r.any k]
 by_cases e:(vs.any fun kv=>decide (kv.1=k))=true
 . rw[if_pos e,if_pos e];exact r.XA k ry
 . rw[if_neg e,if_neg e];exact Paired.snoc r ⟨rfl,ry⟩
theorem KV.length{kvs:List (κ × V)}{vs:List (κ × Value)}(r:KV kvs vs):kvs.length=vs.length:=FQ r
end
theorem oq{P:Program}{w:World}{k:Key}{u:Value}(r:RelV (kV k) u):(yX P w).is k u=true:=by
 cases k with
 |inl i=>obtain⟨t,e⟩:=(show ∃t,u=DG i t from r);subst e;exact nA P w i t
 |inr x=>obtain⟨t,e⟩:=(show ∃t,u=GB x t from r);subst e;exact nB P w x t
theorem qX{P:Program}{w:World}:∀{ks:List Key} {us:List Value},Vals (ks.map kV) us→ItemsAre (yX P w) ks us
 |[],_,r=>by rw[Eu]at r;cases r;exact .nil
 |k::ks,_,r=>by
  rw[AA]at r
  cases r with
  |cons h t=>exact .cons (oq h) (qX t)
noncomputable abbrev KT(H:Hp):List (List Key × V)→List (List Key × Addr × Value)→Prop:=Paired fun p q=>p.1=q.1∧H q.2.1=some (.tup (p.1.map kV))∧RelV p.2 q.2.2
theorem KT.val{H:Hp}{kvs:List (List Key × V)}{xs:List (List Key × Addr × Value)}(r:KT H kvs xs)(k:List Key):sJ (tP kvs k) ((atKey xs k).map (·.2)):=by
 induction r with
 |nil=>exact Bd
 |@cons p q ps qs h t ih=>
  obtain⟨h1,_,h2⟩:=h
  by_cases e:p.1=k
  . have e':q.1=k:=h1.symm.trans e
    have b:atKey (q::qs) k=some q.2:=by simp[atKey,DK,e']
    rw[uh e,b];exact h2
  . have e':¬q.1=k:=fun z=>e (h1.trans z)
    have b:atKey (q::qs) k=atKey qs k:=by simp[atKey,DK,e']
    rw[ug e,b];exact ih
theorem KT.XA{H:Hp}{kvs:List (List Key × V)}{xs:List (List Key × Addr × Value)}(r:KT H kvs xs)(k:List Key){y:V}{u:Value}(ry:RelV y u) :
 KT H (kvs.map fun kv=>if kv.1=k then (kv.1,y) else kv) (xs.map (putAt k u)):=by
 induction r with
 |nil=>exact .nil
 |@cons p q ps qs h t ih=>
  rw[AA,AA]
  refine .cons ?_ ih
  obtain⟨h1,h2,h3⟩:=h
  unfold putAt
  by_cases e:p.1=k
  . rw[if_pos e,if_pos (h1.symm.trans e)];exact⟨h1,h2,ry⟩
  . rw[if_neg e,if_neg (fun z=>e (h1.trans z))];exact⟨h1,h2,h3⟩
theorem KT.put{H:Hp}{kvs:List (List Key × V)}{xs:List (List Key × Addr × Value)}(r:KT H kvs xs)(k:List Key){b:Addr}{y:V}{u:Value}(hb:H b=some (.tup (k.map kV)))(ry:RelV y u) :
 KT H (putK kvs k y) (storedH xs k b u):=by
 have e:(kvs.any fun kv=>decide (kv.1=k))=(atKey xs k).isSome:=by
  rw[rk,(r.val k).wW,Ga]
 unfold putK storedH
 rw[e]
 by_cases q:(atKey xs k).isSome=true
 . rw[if_pos q,if_pos q];exact r.XA k ry
 . rw[if_neg q,if_neg q];exact Paired.snoc r ⟨rfl,hb,ry⟩
theorem KT.keeps{H H':Hp}{kvs:List (List Key × V)}{xs:List (List Key × Addr × Value)}(r:KT H kvs xs)(ht:∀b ys,H b=some (.tup ys)→H' b=some (.tup ys)):KT H' kvs xs:=
 Paired.YR r fun _ _ z=>⟨z.1,ht _ _ z.2.1,z.2.2⟩
section
variable {P:Program}{w:World}{H:Hp}{h:Heap}{a:Addr}
theorem au{u:HO}(ok:HOk P w H h)(e:Rd H a u):ze P w H h a u:=e.ok ok
theorem oa{kvs:List (Key × V)}(ok:HOk P w H h)(e:Rd H a (.dK kvs)):kvs.length≤Az∧(a == BO)=false∧∃vs,KV kvs vs∧h.DictOf (yX P w) a vs:=
 show ze P w H h a (.dK kvs) from au ok e
theorem Xy{kvs:List (Key × V)}(ok:HOk P w H h)(e:H a=some (.dK kvs)):kvs.length≤Az∧(a == BO)=false∧∃vs,KV kvs vs∧h.DictOf (yX P w) a vs:=oa ok (.inl e)
theorem si{ks:List Key}(ok:HOk P w H h)(e:H a=some (.tup (ks.map kV))):(GC (yX P w)).is h ks a:=by
 obtain⟨_,its,r,o,h1,h2,n,h3,_⟩:=(show ze P w H h a (.tup (ks.map kV)) from ok a _ e)
 exact⟨o,its.toArray,n,h1,h2,h3,by simpa using qX r⟩
theorem og{kvs:List (List Key × V)}(ok:HOk P w H h)(e:Rd H a (.dT kvs)):kvs.length≤Az∧(a == BO)=false ∧
 ∃xs,KT H kvs xs∧h.DictOfH (GC (yX P w)) a xs:=by
 obtain⟨z,y,xs,r,o,es,ep,h1,h2,h3,h4,h5⟩:=(show ze P w H h a (.dT kvs) from au ok e)
 refine⟨z,y,xs,r,o,es,ep,h1,h2,h3,h4,fun x hx=>?_,h5⟩
 have all:∀{l:List (List Key × V)} {m:List (List Key × Addr × Value)},KT H l m→∀x∈m,(GC (yX P w)).is h x.1 x.2.1:=by
  intro l m q
  induction q with
  |nil=>intro x hx;exact nomatch hx
  |@cons p q ps qs hq t ih=>
   intro x hx
   rcases AF.mp hx with e|hx
   . subst e
     exact si ok (by rw[←hq.1];exact hq.2.1)
   . exact ih x hx
 exact all r x hx
theorem Xz{kvs:List (List Key × V)}(ok:HOk P w H h)(e:H a=some (.dT kvs)):kvs.length≤Az∧(a == BO)=false ∧
 ∃xs,KT H kvs xs∧h.DictOfH (GC (yX P w)) a xs:=og ok (.inl e)
end
def tf(H:Hp)(a:Addr)(y:V)(r:Option V):Prop:=
 (∃kvs k,Rd H a (.dK kvs)∧y=kV k∧r=tP kvs k)∨∃kvs k b,Rd H a (.dT kvs)∧y=.ref b∧H b=some (.tup (k.map kV))∧r=tP kvs k
def pB(H:Hp)(a:Addr)(y v:V)(H':Hp):Prop:=
 (∃kvs k,H a=some (.dK kvs)∧y=kV k∧kvs.length<Az∧H'=upd H a (.dK (putK kvs k v))) ∨
 ∃kvs k b,H a=some (.dT kvs)∧y=.ref b∧H b=some (.tup (k.map kV))∧kvs.length<Az∧H'=upd H a (.dT (putK kvs k v))
theorem tf.k{H:Hp}{a:Addr}{kvs:List (Key × V)}{k:Key}(e:H a=some (.dK kvs)):tf H a (kV k) (tP kvs k):=.inl ⟨kvs,k,.inl e,rfl,rfl⟩
theorem tf.t{H:Hp}{a b:Addr}{kvs:List (List Key × V)}{k:List Key}(e:H a=some (.dT kvs))(eb:H b=some (.tup (k.map kV))):tf H a (.ref b) (tP kvs k):=.inr ⟨kvs,k,b,.inl e,rfl,eb,rfl⟩
theorem pB.k{H:Hp}{a:Addr}{kvs:List (Key × V)}{k:Key}{v:V}(e:H a=some (.dK kvs))(hl:kvs.length<Az):pB H a (kV k) v (upd H a (.dK (putK kvs k v))):=.inl ⟨kvs,k,e,rfl,hl,rfl⟩
theorem pB.t{H:Hp}{a b:Addr}{kvs:List (List Key × V)}{k:List Key}{v:V}(e:H a=some (.dT kvs))(eb:H b=some (.tup (k.map kV)))(hl:kvs.length<Az) :
 pB H a (.ref b) v (upd H a (.dT (putK kvs k v))):=.inr ⟨kvs,k,b,e,rfl,eb,hl,rfl⟩
section
variable {X:Cx}{pins:List (Addr × Obj)}{σ:St}{H:Hp}{s:Shared}{a:Addr}{y v:V}{u r:Value}{o:Option V}{A:Around}{E:Value→Shared→Prop}
theorem Inv.big(I:Inv X pins σ H s):BO<s.heap.objs.size:=by
 have h:A9<s.heap.objs.size:=(I.mod.glob.keeps I.bk).lt
 exact Nat.lt_trans (by decide) h
theorem jJ{Q:Value→Shared→Prop}(hu:A.units+1<cLine)(I:Inv X pins σ H s)(g:tf H a y (some v))(ry:RelV y u)(h:∀w' s',Inv X pins σ H s'→RelV v w'→Q w' s') :
 wpAny (model X.prog X.w) A (getItem (.ref a) u) Q E s:=by
 rcases g with⟨kvs,k,e,ey,l⟩|⟨kvs,k,b,e,ey,eb,l⟩
 . subst ey
   obtain⟨z,hd,vs,rel,dd⟩:=oa I.hok e
   obtain⟨w',hw,rw'⟩:=sJ.some_of (v:=v) (o:=valueAt vs k) (by rw[l];exact rel.val k)
   exact wpAny_getItem_of (oq ry) dd.mapOf hw (h w' _ (I.tok _) rw')
 . subst ey
   cases (show u=Bc b from ry)
   obtain⟨z,hd,xs,rel,dd⟩:=og I.hok e
   obtain⟨w',hw,rw'⟩:=sJ.some_of (v:=v) (o:=(atKey xs k).map (·.2)) (by rw[l];exact rel.val k)
   obtain⟨p,hp,hp2⟩:=AX.mp hw
   refine wpAny_getItem_heap (EC hu) (si I.hok eb) dd hp ?_
   rw[hp2]
   exact h w' _ (I.tok _) rw'
theorem Vn{Q:Value→Shared→Prop}(hu:A.units+1<cLine)(I:Inv X pins σ H s)(g:tf H a y o)(ry:RelV y u)(h:∀s',Inv X pins σ H s'→Q (.bool o.isSome) s') :
 wpAny (model X.prog X.w) A (A7 .In u (.ref a)) Q E s:=by
 rcases g with⟨kvs,k,e,ey,l⟩|⟨kvs,k,b,e,ey,eb,l⟩
 . subst ey
   obtain⟨z,hd,vs,rel,dd⟩:=oa I.hok e
   refine wpAny_in_of (oq ry) hd dd.mapOf ?_
   rw[←(rel.val k).wW,←l]
   exact h _ (I.tok _)
 . subst ey
   cases (show u=Bc b from ry)
   obtain⟨z,hd,xs,rel,dd⟩:=og I.hok e
   refine wpAny_in_heap (EC hu) (si I.hok eb) hd dd ?_
   have q:=(rel.val k).wW
   rw[Ga]at q
   rw[←q,←l]
   exact h _ (I.tok _)
theorem dg{Q:Value→Shared→Prop}(hu:A.units+1<cLine)(I:Inv X pins σ H s)(g:tf H a y o)(ry:RelV y u)(h:∀s',Inv X pins σ H s'→Q (.bool (!o.isSome)) s') :
 wpAny (model X.prog X.w) A (A7 .NotIn u (.ref a)) Q E s:=by
 rcases g with⟨kvs,k,e,ey,l⟩|⟨kvs,k,b,e,ey,eb,l⟩
 . subst ey
   obtain⟨z,hd,vs,rel,dd⟩:=oa I.hok e
   refine wpAny_notIn_of (oq ry) hd dd.mapOf ?_
   rw[←(rel.val k).wW,←l]
   exact h _ (I.tok _)
 . subst ey
   cases (show u=Bc b from ry)
   obtain⟨z,hd,xs,rel,dd⟩:=og I.hok e
   refine wpAny_notIn_heap (EC hu) (si I.hok eb) hd dd ?_
   have q:=(rel.val k).wW
   rw[Ga]at q
   rw[←q,←l]
   exact h _ (I.tok _)
theorem lj{h':Heap}{t':Nat}{ob:HO}(I:Inv X pins σ H s)(mu:Mut (H a))(hs:Heap.SameBut a s.heap h')(he:∃q,h'.get? a=some q)(new:ze X.prog X.w (upd H a ob) h' a ob) :
 Inv X pins σ (upd H a ob) {s with heap:=h',toks:=t'}:=
 I.write (x:=a) (e:=a) mu (.inl rfl) (fun b q hb z=>(hs.2 b hb).trans z) he new
theorem ZU{P:Program}{w:World}{H':Hp}{h':Heap}{kvs:List (Key × V)}{vs:List (Key × Value)}(z:kvs.length≤Az)(hd:(a == BO)=false)(rel:KV kvs vs)(dd:h'.DictOf (yX P w) a vs) :
 ze P w H' h' a (.dK kvs):=⟨z,hd,vs,rel,dd⟩
theorem jK{H':Hp}{Q:Unit→Shared→Prop}(hu:A.units+1<cLine)(I:Inv X pins σ H s)(g:pB H a y v H')(ry:RelV y u)(rv:RelV v r)(h:∀s',Inv X pins σ H' s'→Q () s') :
 wpAny (model X.prog X.w) A (setItem (.ref a) u r) Q E s:=by
 rcases g with⟨kvs,k,e,ey,l,eH⟩|⟨kvs,k,b,e,ey,eb,l,eH⟩
 . subst ey eH
   obtain⟨z,hd,vs,rel,dd⟩:=Xy I.hok e
   have hz:vs.length≤Az:=by rw[←rel.length];exact z
   have hl:(putK kvs k v).length≤Az:=by have:=tW kvs k v;omega
   refine wpAny_setItem_pairs (hsz:=hz) (oq ry) dd fun h' dd' hs=>h _ ?_
   have he:∃q,h'.get? a=some q:=let ⟨q,_,_,hq,_⟩:=dd';⟨q,hq⟩
   exact lj I (by rw[e];exact Bd) hs he (ZU hl hd (rel.put k rv) dd')
 . subst ey eH
   cases (show u=Bc b from ry)
   obtain⟨z,hd,xs,rel,dd⟩:=Xz I.hok e
   have hz:xs.length≤Az:=by rw[←FQ rel];exact z
   have hl:(putK kvs k v).length≤Az:=by have:=tW kvs k v;omega
   refine wpAny_setItem_heap (hsz:=hz) (EC hu) (si I.hok eb) dd fun h' dd' hs=>h _ ?_
   obtain⟨q,es,ep,hq,h2,h3,h4,_,h5⟩:=dd'
   refine lj I (by rw[e];exact Bd) hs ⟨q,hq⟩ ⟨hl,hd,_,(rel.put k eb rv).keeps fun c ys ec=>?_,q,es,ep,hq,h2,h3,h4,h5⟩
   rw[zO (yz ec e (fun z=>nomatch z))]
   exact ec
end
def Xl(i:Expr):Prop:=∀ov iv,GP i false ov iv=operate [ov,iv] (getItem ov iv)
theorem aF{prog:Program}{w:World}{A:Around}{E:Value→Shared→Prop}{s:Shared}{env:Env}{value slice:Expr}{pos:Pos}{T id:String}{Q:Value→Shared→Prop}
 (hl:typeLookup (.type T) "__getitem__"=pure (some (.builtin id))) (hs:Xl slice)
 (h:wpAny (model prog w) A (eval value env) (fun o s₁=>wpAny (model prog w) A (eval slice env) (fun i s₂=>s₂.TypeIs o T∧wpAny (model prog w) A (getItem o i) Q E s₂) E s₁) E s) :
 wpAny (model prog w) A (eval (.Subscript value slice pos) env) Q E s:=by
 refine Gd (Cu h (fun o s₁ h₁=>Cu h₁ (fun i s₂ h₂=>?_) fun _ _ x=>x) fun _ _ x=>x)
 obtain⟨hT,h₂⟩:=h₂
 unfold E2
 refine Ac ?_
 rw[getitemInPython_of_ne hT.not_modules]
 refine Ac (wpAny_specialOf hT hl ?_)
 have fin:wpAny (model prog w) A (GP slice false o i) (fun r s₃=>wpAny (model prog w) A (letTemporaryGo value o r >>= fun _=>pure r) Q E s₃) E s₂:=by
  rw[hs o i]
  exact wpAny_operating (Cu h₂ (fun r s₃ h₃=>Ac (wpAny_letTemporaryGo (Al h₃))) fun _ _ x=>x)
 first
  |exact Al (Ac fin)
  |exact Ac (Al (Ac fin))
  |exact Ac fin
theorem oZ{X:Cx}{pins:List (Addr × Obj)}{σ:St}{H:Hp}{s:Shared}{a:Addr}{y:V}{o:Option V}(I:Inv X pins σ H s)(g:tf H a y o):s.TypeIs (.ref a) "dict":=by
 rcases g with⟨kvs,k,e,_,_⟩|⟨kvs,k,b,e,_,_,_⟩
 . obtain⟨_,_,vs,_,dd⟩:=oa I.hok e
   exact dd.typeIs
 . obtain⟨_,_,xs,_,dd⟩:=og I.hok e
   exact dd.typeIs
noncomputable def VQ(td ty:TE):TE:=fun σ H Q=>td σ H fun x H1=>ty σ H1 fun y H2=>∃a v,x=.ref a∧tf H2 a y (some v)∧Q v H2
noncomputable def VH(td ty tv:TE):TS:=fun D σ H=>tv σ H fun v H1=>td σ H1 fun x H2=>ty σ H2 fun y H3=>∃a H4,x=.ref a∧pB H3 a y v H4∧D.nx σ H4
section
variable {X:Cx}{o i e value:Expr}{pos pos' tpos:Pos}{td ty tv:TE}
theorem bQ(hu:X.A.units+1<cLine)(ho:PE X o td)(hi:PE X i ty)(hs:Xl i):PE X (.Subscript o i pos) (VQ td ty):=by
 intro pins s σ H Q I h
 refine aF PySem.F.slot_dict_getitem.lookup hs (thn (ho pins s σ H _ I h) fun u s1 ⟨x,H1,I1,rx,q1⟩=>thn (hi pins s1 σ H1 _ I1 q1) fun iv s2 ⟨y,H2,I2,ry,a,v,ex,g,q2⟩=>?_)
 subst ex
 obtain rfl:u=Bc a:=rx
 exact⟨oZ I2 g,jJ hu I2 g ry fun w' s3 I3 rw'=>⟨v,H2,I3,rw',q2⟩⟩
theorem bf(hu:X.A.units+1<cLine)(ho:PE X o td)(hi:PE X i ty)(hv:PE X value tv)(hs:Eo value (some (.Subscript o i pos')) pos.line X.env=pure false) :
 PS X (.Assign [.Subscript o i pos'] value pos) (VH td ty tv):=by
 intro pins s σ H D I h
 refine wpAny_Assign_Subscript (thn (hv pins s σ H _ I h) fun r s1 ⟨v,H1,I1,rv,q1⟩=>thn (ho pins s1 σ H1 _ I1 q1) fun u s2 ⟨x,H2,I2,rx,q2⟩=>thn (hi pins s2 σ H2 _ I2 q2) fun iv s3 ⟨y,H3,I3,ry,a,H4,ex,g,q3⟩=>?_) hs
 subst ex
 obtain rfl:u=Bc a:=rx
 exact jK hu I3 g ry rv fun s4 I4=>⟨σ,H4,I4,q3⟩
end
theorem gC{P:Program}{w:World}{H:Hp}(h:Heap)(hb:BO<h.objs.size):ze P w H (h.push {cls:=.type "dict",data:=.dict #[]}) h.objs.size (.dK []):=
 ⟨Bp _,beq_eq_false_iff_ne.mpr (BZ (AG hb)),[],.nil,Heap.DictOf.new h⟩
theorem gD{P:Program}{w:World}{H:Hp}(h:Heap)(hb:BO<h.objs.size):ze P w H (h.push {cls:=.type "dict",data:=.dict #[]}) h.objs.size (.dT []):=
 ⟨Bp _,beq_eq_false_iff_ne.mpr (BZ (AG hb)),[],.nil,_,#[],0,AI _ rfl,⟨rfl,rfl,rfl⟩,rfl,rfl,List.nodup_nil⟩
noncomputable def XN:TE:=fun _ H Q=>∀p,H p=none→Q (.ref p) (upd H p (.dK []))
noncomputable def XO:TE:=fun _ H Q=>∀p,H p=none→Q (.ref p) (upd H p (.dT []))
section
variable {X:Cx}{pos:Pos}
theorem fb:PE X (.Dict [] [] pos) XN:=fun pins s σ H Q I h=>
 wpAny_Dict_empty ⟨.ref s.heap.objs.size,_,I.laid (a:=s.heap.objs.size) (o:=.dK []) (t':=s.toks) (fun _ _ q=>Af _ q) (Ai _) (gC s.heap I.big),rfl,h _ (I.hok.fresh (Ai _))⟩
theorem fc:PE X (.Dict [] [] pos) XO:=fun pins s σ H Q I h=>
 wpAny_Dict_empty ⟨.ref s.heap.objs.size,_,I.laid (a:=s.heap.objs.size) (o:=.dT []) (t':=s.toks) (fun _ _ q=>Af _ q) (Ai _) (gD s.heap I.big),rfl,h _ (I.hok.fresh (Ai _))⟩
end
end L2
end
section
namespace M
open PySem
section
variable {K:KF}{mg:Str→Option Value}{ρ:Own}{H:L2.Hp}{s:Sto}
noncomputable def RO(K:KF)(mg:Str→Option Value)(ρ:Own)(H:L2.Hp):Option Val→Option L2.V→Prop
 |none,none=>True
 |some v,some x=>RD K mg ρ H v x
 |_,_=>False
theorem RO.isSome{o:Option Val}{o':Option L2.V}(h:RO K mg ρ H o o'):o'.isSome=o.isSome:=by
 cases o with
 |none=>cases o' with|none=>rfl|some _=>exact h.elim
 |some v=>cases o' with|none=>exact h.elim|some _=>rfl
theorem uK{κ κ':Type} [DecidableEq κ] [DecidableEq κ'] {f:κ→κ'}(inj:∀a b,f a=f b→a=b)(k:κ):∀{kvs:List (κ × Val)} {kxs:List (κ' × L2.V)},kxs.map (·.1)=kvs.map (fun p=>f p.1)→RDs K mg ρ H (kvs.map (·.2)) (kxs.map (·.2))→RO K mg ρ H (mD kvs k) (L2.tP kxs (f k))
 |[],[],_,_=>trivial
 |[],_::_,e,_=>by cases e
 |_::_,[],e,_=>by cases e
 |p::kvs,q::kxs,e,r=>by
  rw[AA,AA]at e r
  injection e with e1 e2
  cases r with
  |cons r1 r2=>
   show RO K mg ρ H (if p.1=k then some p.2 else mD kvs k) _
   by_cases h:p.1=k
   . rw[if_pos h,L2.uh (by rw[e1,h])];exact r1
   . rw[if_neg h,L2.ug (fun z=>h (inj _ _ (e1.symm.trans z)))]
     exact uK inj k e2 r2
theorem nZ{κ κ':Type} [DecidableEq κ] [DecidableEq κ'] {f:κ→κ'}(inj:∀a b,f a=f b→a=b)(k:κ){v:Val}{x:L2.V}(rv:RD K mg ρ H v x):∀{kvs:List (κ × Val)} {kxs:List (κ' × L2.V)},kxs.map (·.1)=kvs.map (fun p=>f p.1)→RDs K mg ρ H (kvs.map (·.2)) (kxs.map (·.2)) →
 (kxs.map fun kv=>if kv.1=f k then (kv.1,x) else kv).map (·.1)=(kvs.map fun p=>if p.1=k then (p.1,v) else p).map (fun p=>f p.1)∧RDs K mg ρ H ((kvs.map fun p=>if p.1=k then (p.1,v) else p).map (·.2)) ((kxs.map fun kv=>if kv.1=f k then (kv.1,x) else kv).map (·.2))
 |[],[],_,_=>⟨rfl,.nil⟩
 |[],_::_,e,_=>by cases e
 |_::_,[],e,_=>by cases e
 |p::kvs,q::kxs,e,r=>by
  rw[AA,AA]at e r
  injection e with e1 e2
  cases r with
  |cons r1 r2=>
   obtain⟨i1,i2⟩:=nZ inj k rv e2 r2
   simp only[AA]
   by_cases h:p.1=k
   . have h':q.1=f k:=by rw[e1,h]
     rw[if_pos h,if_pos h']
     exact⟨by rw[i1,e1],.cons rv i2⟩
   . have h':¬q.1=f k:=fun z=>h (inj _ _ (e1.symm.trans z))
     rw[if_neg h,if_neg h']
     exact⟨by rw[i1,e1],.cons r1 i2⟩
theorem oe{κ κ':Type} [DecidableEq κ] [DecidableEq κ'] {f:κ→κ'}(inj:∀a b,f a=f b→a=b)(k:κ){v:Val}{x:L2.V}(rv:RD K mg ρ H v x){kvs:List (κ × Val)}{kxs:List (κ' × L2.V)}(e:kxs.map (·.1)=kvs.map (fun p=>f p.1))(r:RDs K mg ρ H (kvs.map (·.2)) (kxs.map (·.2))) :
 (L2.putK kxs (f k) x).map (·.1)=(hX kvs k v).map (fun p=>f p.1)∧RDs K mg ρ H ((hX kvs k v).map (·.2)) ((L2.putK kxs (f k) x).map (·.2)):=by
 unfold L2.putK hX
 rw[L2.rk,(uK inj k e r).isSome]
 by_cases h:(mD kvs k).isSome=true
 . rw[if_pos h,if_pos h];exact nZ inj k rv e r
 . rw[if_neg h,if_neg h]
   refine⟨by rw[B8,B8,e];rfl,?_⟩
   rw[B8,B8]
   exact r.append (.cons rv .nil)
theorem kC(a b:Str)(h:(Ds a:L2.Key)=Ds b):a=b:=by injection h
theorem sZ:∀a b:List Int,a.map (DF:Int→L2.Key)=b.map DF→a=b
 |[],[],_=>rfl
 |[],_::_,h=>by cases h
 |_::_,[],h=>by cases h
 |x::xs,y::ys,h=>by
  rw[AA,AA]at h
  injection h with h1 h2
  injection h1 with h1
  rw[h1,sZ xs ys h2]
theorem mH:∀{vs:List Val} {ns:List Int} {xs:List L2.V},intsOf vs=some ns→RDs K mg ρ H vs xs→xs=(ns.map DF).map L2.kV
 |[],_,_,h,.nil=>by cases h;rfl
 |v::vs,ns,_,h,.cons r rs=>by
  cases v with
  |int i=>
   simp only[intsOf,AX]at h
   obtain⟨ms,h1,rfl⟩:=h
   cases r
   rw[mH h1 rs];rfl
  |_=>cases h
theorem hZ(hr:HR K mg ρ s H){d:Val}{xd:L2.V}{j:Nat}{c:Cel}(rd:RD K mg ρ H d xd)(e:ll s d=some (j,c)):∃a,xd=.ref a∧ρ.o[j]?=some a∧s[j]?=some c∧CR K mg ρ H a c:=by
 cases rd with
 |@dref a i h _=>
  simp only[ll,AX]at e
  obtain⟨c',h1,h2⟩:=e
  cases h2
  obtain⟨b,e1,e2⟩:=hr.cel _ _ h1
  rw[h]at e1;cases e1
  exact⟨_,rfl,h,h1,e2⟩
 |_=>cases e
theorem getD_at(hr:HR K mg ρ s H){d y:Val}{xd xy:L2.V}{o:Option Val}(rd:RD K mg ρ H d xd)(ry:RD K mg ρ H y xy)(e:getD d y s=some o):∃a o',xd=.ref a∧L2.tf H a xy o'∧RO K mg ρ H o o':=by
 unfold getD at e
 obtain⟨⟨j,c⟩,e1,e2⟩:=DE.mp e
 obtain⟨a,rfl,_,_,cr⟩:=hZ hr rd e1
 cases c with
 |lst vs=>cases e2
 |dS kvs=>
  cases ry with
  |str k=>
   cases e2
   obtain⟨kxs,h1,h2,h3⟩:=cr
   exact⟨a,_,rfl,L2.tf.k (k:=Ds k) h1,uK kC k h2 h3⟩
  |_=>cases e2
 |dT kvs=>
  cases ry with
  |tup n hb r=>
   obtain⟨ns,h4,h5⟩:=AX.mp e2
   subst h5
   rw[mH h4 r]at hb
   obtain⟨kxs,h1,h2,h3⟩:=cr
   exact⟨a,_,rfl,L2.tf.t h1 hb,uK sZ ns h2 h3⟩
  |_=>cases e2
theorem bq(hr:HR K mg ρ s H){d y v:Val}{xd xy xv:L2.V}{s':Sto}(rd:RD K mg ρ H d xd)(ry:RD K mg ρ H y xy)(rv:RD K mg ρ H v xv)(e:putD d y v s=some s'):∃a H',xd=.ref a∧L2.pB H a xy xv H'∧Ext ρ H ρ H'∧HR K mg ρ s' H':=by
 unfold putD at e
 obtain⟨⟨j,c⟩,e1,e2⟩:=DE.mp e
 obtain⟨c',e3,e4⟩:=AX.mp e2
 subst e4
 obtain⟨a,rfl,ho,hs,cr⟩:=hZ hr rd e1
 cases c with
 |lst vs=>cases e3
 |dS kvs=>
  cases ry with
  |str k=>
   simp only[i9]at e3
   split at e3
   . rename_i hl
     cases e3
     obtain⟨kxs,h1,h2,h3⟩:=cr
     have hz:kxs.length<Az:=by
      have:=congrArg DL h2
      rw[Ag,Ag]at this
      rw[this,←yN];exact hl
     obtain⟨q1,q2⟩:=oe (H:=H) kC k rv h2 h3
     have X:Ext ρ H ρ (L2.upd H a (.dK (L2.putK kxs (Ds k) xv))):=Ext.vO hr ho (by rw[h1];rfl)
     exact⟨a,_,rfl,L2.pB.k (k:=Ds k) h1 hz,X,hr.vO ho (by rw[h1];rfl) ⟨_,L2.zd,q1,q2.mono X⟩⟩
   . cases e3
  |_=>cases e3
 |dT kvs=>
  cases ry with
  |tup n hb r=>
   obtain⟨ns,h4,h5⟩:=DE.mp e3
   split at h5
   . rename_i hl
     cases h5
     rw[mH h4 r]at hb
     obtain⟨kxs,h1,h2,h3⟩:=cr
     have hz:kxs.length<Az:=by
      have:=congrArg DL h2
      rw[Ag,Ag]at this
      rw[this,←yN];exact hl
     obtain⟨q1,q2⟩:=oe (H:=H) sZ ns rv h2 h3
     have X:Ext ρ H ρ (L2.upd H a (.dT (L2.putK kxs (ns.map DF) xv))):=Ext.vO hr ho (by rw[h1];rfl)
     exact⟨a,_,rfl,L2.pB.t h1 hb hz,X,hr.vO ho (by rw[h1];rfl) ⟨_,L2.zd,q1,q2.mono X⟩⟩
   . cases h5
  |_=>cases e3
end
end M
end
section
namespace M
open PySem
section
variable {K:KF}{mg:Str→Option Value}{ρ ρ':Own}{H H':L2.Hp}{s s':Sto}
theorem RD.flat{v:Val}{x:L2.V}(r:RD K mg ρ H v x)(h:flat v=true):L2.xS x=true:=by
 cases r<;>first|rfl|cases h
theorem RD.eqF{v w:Val}{x y:L2.V}(r:RD K mg ρ H v x)(q:RD K mg ρ H w y)(h:M.flat v=true)(h':M.flat w=true):L2.eqV x y=M.eqF v w:=by
 cases r<;>first|(cases h;done)|(cases q<;>first|rfl|(cases h';done))
theorem RDs.flat:∀{vs:List Val} {xs:List L2.V},RDs K mg ρ H vs xs→vs.all flat=true→xs.all L2.xS=true
 |_,_,.nil,_=>rfl
 |_,_,.cons r rs,h=>by
  rw[B1,Ab]at h
  rw[B1,r.flat h.1,rs.flat h.2];rfl
theorem RDs.any{w:Val}{y:L2.V}(q:RD K mg ρ H w y)(hw:M.flat w=true):∀{vs:List Val} {xs:List L2.V},RDs K mg ρ H vs xs→vs.all M.flat=true→(xs.any fun z=>L2.eqV z y)=vs.any fun z=>M.eqF z w
 |_,_,.nil,_=>rfl
 |_,_,.cons r rs,h=>by
  rw[B1,Ab]at h
  rw[Dh,Dh,r.eqF q h.1 hw,RDs.any q hw rs h.2]
theorem RDs.countP{w:Val}{y:L2.V}(q:RD K mg ρ H w y)(hw:M.flat w=true):∀{vs:List Val} {xs:List L2.V},RDs K mg ρ H vs xs→vs.all M.flat=true→(xs.countP fun z=>L2.eqV z y)=vs.countP fun z=>M.eqF z w
 |_,_,.nil,_=>rfl
 |_,_,.cons r rs,h=>by
  rw[B1,Ab]at h
  rw[Dy,Dy,r.eqF q h.1 hw,RDs.countP q hw rs h.2]
theorem RDs.findIdx{w:Val}{y:L2.V}(q:RD K mg ρ H w y)(hw:M.flat w=true):∀{vs:List Val} {xs:List L2.V},RDs K mg ρ H vs xs→vs.all M.flat=true→(xs.findIdx? fun z=>L2.eqV z y)=vs.findIdx? fun z=>M.eqF z w
 |_,_,.nil,_=>rfl
 |_,_,.cons r rs,h=>by
  rw[B1,Ab]at h
  rw[FO,FO,r.eqF q h.1 hw,RDs.findIdx q hw rs h.2]
theorem RDs.bools:∀{vs:List Val} {xs:List L2.V} {bs:List Bool},RDs K mg ρ H vs xs→boolsOf vs=some bs→xs=bs.map L2.V.bl
 |_,_,_,.nil,h=>by cases h;rfl
 |_,_,_,.cons r rs,h=>by
  cases r with
  |bool b=>
   simp only[boolsOf,AX]at h
   obtain⟨bs',h1,h2⟩:=h
   subst h2
   rw[rs.bools h1];rfl
  |_=>cases h
theorem RDs.se:∀{vs:List Val} {xs:List L2.V} {ns:List Int},RDs K mg ρ H vs xs→intsOf vs=some ns→xs=ns.map L2.V.int
 |_,_,_,.nil,h=>by cases h;rfl
 |_,_,_,.cons r rs,h=>by
  cases r with
  |int b=>
   simp only[intsOf,AX]at h
   obtain⟨bs',h1,h2⟩:=h
   subst h2
   rw[rs.se h1];rfl
  |_=>cases h
theorem dO{vs:List Val}{xs:List L2.V}{i:Int}{v:Val}(r:RDs K mg ρ H vs xs)(h:L2.atI vs i=some v):∃x,L2.atI xs i=some x∧RD K mg ρ H v x:=by
 unfold L2.atI at h ⊢
 rw[←r.length]
 obtain⟨j,h1,h2⟩:=DE.mp h
 obtain⟨x,h3,h4⟩:=r.get h2
 exact⟨x,by rw[h1];exact h3,h4⟩
theorem ek(hr:HR K mg ρ s H){v:Val}{x:L2.V}{b:Bool}(r:RD K mg ρ H v x)(h:truth s v=some b):L2.dJ K x H b:=by
 have hz:∀{vs:List Val} {xs:List L2.V},RDs K mg ρ H vs xs→vs.isEmpty=xs.isEmpty:=fun r=>by cases r<;>rfl
 cases r with
 |none=>cases h;rfl
 |bool b=>cases h;rfl
 |int i=>cases h;rfl
 |str x=>
  simp only[truth]at h
  split at h
  . cases h
    rename_i q
    exact⟨by rw[←yN];exact q,rfl⟩
  . cases h
 |tup n e q=>cases h;exact .inr (.inl ⟨_,.of e,by rw[hz q]⟩)
 |lst n e q=>cases h;exact .inl ⟨_,.of e,by rw[hz q]⟩
 |dct0 n e=>cases h;exact .inr (.inr ⟨_,e,rfl⟩)
 |ctup _=>cases h
 |scr _=>cases h
 |@ref a i e _=>
  simp only[truth]at h
  split at h
  . rename_i ws hw
    cases h
    obtain⟨c,xs,e1,e2,q⟩:=hr.obj i _ hw
    rw[e]at e1;cases e1
    exact .inl ⟨_,.of e2,by rw[hz q]⟩
  . cases h
 |fn _=>cases h
 |ty _=>cases h
 |dref _ _=>cases h
theorem Vb(hr:HR K mg ρ s H){v:Val}{x:L2.V}{a:L2.Kd}(r:RD K mg ρ H v x)(h:kindOf v=some a):(L2.uC K H x (.type a.nm)):=by
 cases r with
 |none=>cases h;exact .non
 |bool b=>cases h;exact .bl b
 |int i=>cases h;exact .int i
 |str x=>cases h;exact .str x
 |tup n e q=>cases h;exact .tup e
 |lst n e q=>cases h;exact .lst e
 |dct0 n e=>cases h;exact .dK e
 |ref e k=>
  cases h
  obtain⟨xs,q⟩:=mF k
  exact .lst q
 |_=>cases h
theorem WT{n:String}{c:L2.Kd}(h:u5 n=some c):n=c.nm∧c≠.non:=by
 unfold u5 at h
 split at h<;>first|(cases h;exact⟨rfl,by decide⟩)|cases h
end
section
variable {X:L2.Cx}{k:Nat}
theorem jw(hr0:L2.yp k X.A):L2.OpR X (A7 .Eq) (rM2 X.K X.mg (zM .eq)):=by
 intro pins s σ H x y v u Q I rx ry h
 obtain⟨ρ,t,a,b,hr,ra,rb,w⟩:=h
 simp only[zM,pM]at w
 split at w
 . rename_i p q
   cases ra;cases rb
   have e:decide (L2.V.str p=L2.V.str q)=decide (p=q):=by
    rw[BD];simp
   refine L2.WY pins s σ H _ _ v u Q I rx ry ⟨rfl,?_⟩
   rw[e]
   exact zI hr (.bool _) w
 . rename_i a ns
   cases rb with
   |ctup g=>
    by_cases hc:((yC t (.tup a)).isD&&(Val.tup (ns.map .int)).isD&&decide ((Val.tup (ns.map .int)).d.depth≤60))=true
    . rw[if_pos hc]at w
      simp only[Ab,decide_eq_true_eq]at hc
      obtain⟨as,r1,_⟩:=xR I.hok hr (yM hc.1.1) ra rx
      obtain⟨its,rv,p1,_⟩:=I.tuple g.sqt
      obtain⟨o,ho,hcl,n,hd⟩:=id p1
      obtain⟨bs,q,_⟩:=RDs.reads I.hok (RDs.ints (K:=X.K) (mg:=X.mg) (ρ:=ρ) (H:=H) ns) (yM hc.1.2) rv
      have r2:Reads s.heap u (Val.tup (ns.map .int)).d bs:=by cases ry;exact .tuple ho hcl hd (by simpa using q)
      have hu:=hr0.un
      have hm:=D2 (yC t (.tup a)).d.depth (Val.tup (ns.map .int)).d.depth
      exact SeqAt.compareEq_reads r1 r2 (zf hc.1.1) (zf hc.1.2) (by omega) ⟨.bl _,H,I,rfl,zI hr (.bool _) w⟩
    . rw[if_neg hc]at w;exact w.elim
 . by_cases hc:((yC t a).isD&&(yC t b).isD&&decide ((yC t b).d.depth≤60))=true
   . rw[if_pos hc]at w
     simp only[Ab,decide_eq_true_eq]at hc
     obtain⟨as,r1,_⟩:=xR I.hok hr (yM hc.1.1) ra rx
     obtain⟨bs,r2,_⟩:=xR I.hok hr (yM hc.1.2) rb ry
     have hu:=hr0.un
     have hm:=D2 (yC t a).d.depth (yC t b).d.depth
     exact SeqAt.compareEq_reads r1 r2 (zf hc.1.1) (zf hc.1.2) (by omega) ⟨.bl _,H,I,rfl,zI hr (.bool _) w⟩
   . rw[if_neg hc]at w;exact w.elim
theorem j6(hr0:L2.yp k X.A):L2.OpR X (A7 .NotEq) (rM2 X.K X.mg (zM .ne)):=by
 intro pins s σ H x y v u Q I rx ry h
 obtain⟨ρ,t,a,b,hr,ra,rb,w⟩:=h
 simp only[zM,pM]at w
 split at w
 . rename_i p q
   cases ra;cases rb
   have e:decide (L2.V.str p=L2.V.str q)=decide (p=q):=by
    rw[BD];simp
   refine L2.Wd pins s σ H _ _ v u Q I rx ry ⟨rfl,?_⟩
   rw[e]
   exact zI hr (.bool _) w
 . by_cases hc:((yC t a).isD&&(yC t b).isD&&decide ((yC t b).d.depth≤60))=true
   . rw[if_pos hc]at w
     simp only[Ab,decide_eq_true_eq]at hc
     obtain⟨as,r1,_⟩:=xR I.hok hr (yM hc.1.1) ra rx
     obtain⟨bs,r2,_⟩:=xR I.hok hr (yM hc.1.2) rb ry
     have hu:=hr0.un
     have hm:=D2 (yC t a).d.depth (yC t b).d.depth
     exact SeqAt.compareNe_reads r1 r2 (zf hc.1.1) (zf hc.1.2) (by omega) ⟨.bl _,H,I,rfl,zI hr (.bool _) w⟩
   . rw[if_neg hc]at w;exact w.elim
theorem RD.isNone{K:KF}{mg:Str→Option Value}{ρ:Own}{H:L2.Hp}{v:Val}{x:L2.V}(r:RD K mg ρ H v x):decide (x=.non)=v.isN:=by
 cases r<;>first|rfl|exact decide_eq_false (fun z=>nomatch z)
theorem j0:L2.OpR X (A7 .Is) (rM2 X.K X.mg (zM .is)):=by
 intro pins s σ H x y v u Q I rx ry h
 obtain⟨ρ,t,a,b,hr,ra,rb,w⟩:=h
 cases rb with
 |none=>
  refine L2.YZ pins s σ H _ _ v u Q I rx ry ⟨rfl,?_⟩
  rw[ra.isNone]
  exact zI hr (.bool _) w
 |bool c=>
  cases ra with
  |bool d=>cases rx;cases ry;cases c<;>cases d<;>exact Al ⟨.bl _,H,I,rfl,zI hr (.bool _) w⟩
  |_=>exact w.elim
 |_=>exact w.elim
theorem pj:L2.OpR X (A7 .IsNot) (rM2 X.K X.mg (zM .isNot)):=by
 intro pins s σ H x y v u Q I rx ry h
 obtain⟨ρ,t,a,b,hr,ra,rb,w⟩:=h
 cases rb with
 |none=>
  refine L2.bE pins s σ H _ _ v u Q I rx ry ⟨rfl,?_⟩
  rw[ra.isNone]
  exact zI hr (.bool _) w
 |bool c=>
  cases ra with
  |bool d=>cases rx;cases ry;cases c<;>cases d<;>exact Al ⟨.bl _,H,I,rfl,zI hr (.bool _) w⟩
  |_=>exact w.elim
 |_=>exact w.elim
theorem vF:∀{vs:List Val} {v:Val},xc vs=true→v∈vs→v.isD=true
 |w::vs,v,h,m=>by
  rw[xc,Ab]at h
  rcases AF.mp m with rfl|m
  . exact h.1
  . exact vF h.2 m
theorem pO{A:Around}{s:Shared}{u:Value}{K:KF}{mg:Str→Option Value}{ρ:Own}{H:L2.Hp}{g:Val→Bool}{vs:List Val}{xs:List L2.V}{its:List Value}(q:RDs K mg ρ H vs xs)(r:L2.Vals xs its)
 (hE:∀z x w,z∈vs→RD K mg ρ H z x→L2.RelV x w→Bj A s w u (g z)):∃f:Value→Bool,(∀w∈its.toArray,Bj A s w u (f w))∧its.toArray.any f=vs.any g:=by
 classical
 have at_:∀i w,its[i]?=some w→∃z x,vs[i]?=some z∧RD K mg ρ H z x∧L2.RelV x w:=fun i w e=>by
  have hi:i<xs.length:=by rw[r.length];exact(Ap.mp e).1
  have hx:xs[i]?=some xs[i]:=Aa hi
  obtain⟨w',e',rw'⟩:=r.get hx
  rw[e]at e';cases e'
  obtain⟨z,e1,rz⟩:=q.X7 hx
  exact⟨z,_,e1,rz,rw'⟩
 refine⟨fun w=>decide (∃(i:Nat) (z:Val),its[i]?=some w∧vs[i]?=some z∧g z=true),fun w hw=>?_,?_⟩
 . obtain⟨i,hi⟩:=D9 (by simpa using hw:w∈its)
   by_cases hd:∃(i:Nat) (z:Val),its[i]?=some w∧vs[i]?=some z∧g z=true
   . dsimp only;rw[decide_eq_true hd]
     obtain⟨j,z,e1,e2,e3⟩:=hd
     obtain⟨z',x,e4,rz,rw'⟩:=at_ j w e1
     rw[e2]at e4;cases e4
     rw[←e3];exact hE z x w (AM e2) rz rw'
   . dsimp only;rw[decide_eq_false hd]
     obtain⟨z,x,e4,rz,rw'⟩:=at_ i w hi
     have hg:g z=false:=by
      cases hg:g z with
      |false=>rfl
      |true=>exact(hd ⟨i,z,hi,e4,hg⟩).elim
     rw[←hg];exact hE z x w (AM e4) rz rw'
 . rw[BD,Array.any_toList.symm,Cd,Cd]
   constructor
   . rintro ⟨w,_,h⟩
     obtain⟨i,z,_,e2,e3⟩:=of_decide_eq_true h
     exact⟨z,AM e2,e3⟩
   . rintro ⟨z,hz,e3⟩
     obtain⟨i,hi⟩:=D9 hz
     obtain⟨x,e1,_⟩:=q.get hi
     obtain⟨w,e2,_⟩:=r.get e1
     exact⟨w,AM e2,decide_eq_true ⟨i,z,e2,hi,e3⟩⟩
theorem eqD{K:KF}{mg:Str→Option Value}{ρ:Own}{H:L2.Hp}{P:Program}{w:World}{s:Shared}{A:Around}(hu:A.units+60<cLine)(ok:L2.HOk P w H s.heap){a z:Val}{x y:L2.V}{v u:Value}(ra:RD K mg ρ H a x)(rx:L2.RelV x v)(ha:a.isD=true)(hd:a.d.depth≤60)
 (rz:RD K mg ρ H z y) (ry:L2.RelV y u) (hz:z.isD=true):Bj A s u v (Cj z.d a.d):=by
 obtain⟨as,r1,_⟩:=RD.reads ok ra (yM ha) rx
 obtain⟨bs,r2,_⟩:=RD.reads ok rz (yM hz) ry
 have hm:=D2 z.d.depth a.d.depth
 exact SeqAt.eqAt_reads _ _ _ _ _ _ _ _ r2 r1 (zf hz) (zf ha) (by omega)
theorem jz(hr0:L2.yp k X.A):L2.OpR X (A7 .In) (rM2 X.K X.mg (zM .in_)):=by
 intro pins s σ H x y v u Q I rx ry h
 obtain⟨ρ,t,a,b,hr,ra,rb,w⟩:=h
 simp only[zM]at w
 split at w
 . rename_i vs e
   obtain⟨p,xs,rfl,hq,q⟩:=tJ hr rb e
   split at w
   . rename_i hf
     rw[Ab]at hf
     refine L2.j7 pins s σ H _ _ v u Q I rx ry ⟨p,xs,rfl,hq,ra.flat hf.1,q.flat hf.2,?_⟩
     simp only[L2.inV,AU,if_false]
     rw[RDs.any ra hf.1 q hf.2]
     exact zI hr (.bool _) w
   . split at w
     . rename_i hf
       simp only[inD,Ab,decide_eq_true_eq]at hf
       have hu:=hr0.un
       cases ry
       rcases hq with hq|hq
       . obtain⟨its,r,pl,hz⟩:=I.list hq
         obtain⟨f,f1,f2⟩:=pO (A:=X.A.in1) (s:=s) (u:=v) (g:=fun z=>Cj z.d a.d) q r fun z x' w' hz rz ry'=>eqD (show X.A.units+1+60<cLine by omega) I.hok ra rx hf.1.1 hf.2 rz ry' (vF hf.1.2 hz)
         exact SeqAt.in_listAt f pl.isList f1 ⟨.bl _,H,I,rfl,by rw[f2];exact zI hr (.bool _) w⟩
       . obtain⟨its,r,pl,hz⟩:=I.tuple hq
         obtain⟨f,f1,f2⟩:=pO (A:=X.A.in1) (s:=s) (u:=v) (g:=fun z=>Cj z.d a.d) q r fun z x' w' hz rz ry'=>eqD (show X.A.units+1+60<cLine by omega) I.hok ra rx hf.1.1 hf.2 rz ry' (vF hf.1.2 hz)
         exact SeqAt.in_tupleAt f pl f1 ⟨.bl _,H,I,rfl,by rw[f2];exact zI hr (.bool _) w⟩
     . exact w.elim
 . exact w.elim
theorem pk(hr0:L2.yp k X.A):L2.OpR X (A7 .NotIn) (rM2 X.K X.mg (zM .notIn)):=by
 intro pins s σ H x y v u Q I rx ry h
 obtain⟨ρ,t,a,b,hr,ra,rb,w⟩:=h
 simp only[zM]at w
 split at w
 . rename_i vs e
   obtain⟨p,xs,rfl,hq,q⟩:=tJ hr rb e
   split at w
   . rename_i hf
     rw[Ab]at hf
     refine L2.pq pins s σ H _ _ v u Q I rx ry ⟨p,xs,rfl,hq,ra.flat hf.1,q.flat hf.2,?_⟩
     simp only[L2.inV,if_true]
     rw[RDs.any ra hf.1 q hf.2]
     exact zI hr (.bool _) w
   . split at w
     . rename_i hf
       simp only[inD,Ab,decide_eq_true_eq]at hf
       have hu:=hr0.un
       cases ry
       rcases hq with hq|hq
       . obtain⟨its,r,pl,hz⟩:=I.list hq
         obtain⟨f,f1,f2⟩:=pO (A:=X.A.in1) (s:=s) (u:=v) (g:=fun z=>Cj z.d a.d) q r fun z x' w' hz rz ry'=>eqD (show X.A.units+1+60<cLine by omega) I.hok ra rx hf.1.1 hf.2 rz ry' (vF hf.1.2 hz)
         exact SeqAt.notIn_listAt f pl.isList f1 ⟨.bl _,H,I,rfl,by rw[f2];exact zI hr (.bool _) w⟩
       . obtain⟨its,r,pl,hz⟩:=I.tuple hq
         obtain⟨f,f1,f2⟩:=pO (A:=X.A.in1) (s:=s) (u:=v) (g:=fun z=>Cj z.d a.d) q r fun z x' w' hz rz ry'=>eqD (show X.A.units+1+60<cLine by omega) I.hok ra rx hf.1.1 hf.2 rz ry' (vF hf.1.2 hz)
         exact SeqAt.notIn_tupleAt f pl f1 ⟨.bl _,H,I,rfl,by rw[f2];exact zI hr (.bool _) w⟩
     . exact w.elim
 . exact w.elim
theorem j5:L2.OpR X (A7 .Lt) (rM2 X.K X.mg (zM .lt)):=by
 intro pins s σ H x y v u Q I rx ry h
 obtain⟨ρ,t,a,b,hr,ra,rb,w⟩:=h
 simp only[zM]at w
 split at w
 . cases ra;cases rb
   exact L2.Wc pins s σ H _ _ v u Q I rx ry ⟨_,_,rfl,rfl,zI hr (.bool _) w⟩
 . exact w.elim
theorem j4:L2.OpR X (A7 .LtE) (rM2 X.K X.mg (zM .le)):=by
 intro pins s σ H x y v u Q I rx ry h
 obtain⟨ρ,t,a,b,hr,ra,rb,w⟩:=h
 simp only[zM]at w
 split at w
 . cases ra;cases rb
   exact L2.Wb pins s σ H _ _ v u Q I rx ry ⟨_,_,rfl,rfl,zI hr (.bool _) w⟩
 . exact w.elim
theorem jy:L2.OpR X (A7 .Gt) (rM2 X.K X.mg (zM .gt)):=by
 intro pins s σ H x y v u Q I rx ry h
 obtain⟨ρ,t,a,b,hr,ra,rb,w⟩:=h
 simp only[zM]at w
 split at w
 . cases ra;cases rb
   exact L2.Wa pins s σ H _ _ v u Q I rx ry ⟨_,_,rfl,rfl,zI hr (.bool _) w⟩
 . exact w.elim
theorem jx:L2.OpR X (A7 .GtE) (rM2 X.K X.mg (zM .ge)):=by
 intro pins s σ H x y v u Q I rx ry h
 obtain⟨ρ,t,a,b,hr,ra,rb,w⟩:=h
 simp only[zM]at w
 split at w
 . cases ra;cases rb
   exact L2.WZ pins s σ H _ _ v u Q I rx ry ⟨_,_,rfl,rfl,zI hr (.bool _) w⟩
 . exact w.elim
noncomputable def Cop.op:Cop→CmpOp
 |.eq=>.Eq|.ne=>.NotEq|.lt=>.Lt|.le=>.LtE|.gt=>.Gt|.ge=>.GtE|.is=>.Is|.isNot=>.IsNot|.in_=>.In|.notIn=>.NotIn|.inD=>.In|.notInD=>.NotIn
theorem mf(hr0:L2.yp k X.A):L2.OpR X (A7 .In) (rM2 X.K X.mg (zM .inD)):=by
 intro pins s σ H x y v u Q I rx ry h
 obtain⟨ρ,t,a,b,hr,ra,rb,w⟩:=h
 simp only[zM]at w
 split at w
 . rename_i o e
   obtain⟨p,o',rfl,g,ro⟩:=getD_at hr rb ra e
   cases (show u=Bc p from ry)
   exact L2.Vn (by have:=hr0.un;omega) I g rx fun s3 I3=>⟨.bl o'.isSome,H,I3,rfl,by rw[ro.isSome];exact zI hr (.bool _) w⟩
 . exact w.elim
theorem r9(hr0:L2.yp k X.A):L2.OpR X (A7 .NotIn) (rM2 X.K X.mg (zM .notInD)):=by
 intro pins s σ H x y v u Q I rx ry h
 obtain⟨ρ,t,a,b,hr,ra,rb,w⟩:=h
 simp only[zM]at w
 split at w
 . rename_i o e
   obtain⟨p,o',rfl,g,ro⟩:=getD_at hr rb ra e
   cases (show u=Bc p from ry)
   exact L2.dg (by have:=hr0.un;omega) I g rx fun s3 I3=>⟨.bl !o'.isSome,H,I3,rfl,by rw[ro.isSome];exact zI hr (.bool _) w⟩
 . exact w.elim
noncomputable def okC:Cop→Bool
 |_=>true
theorem tE(hr0:L2.yp k X.A):∀op:Cop,okC op=true→L2.OpR X (A7 op.op) (rM2 X.K X.mg (zM op))
 |.eq,_=>jw hr0
 |.ne,_=>j6 hr0
 |.lt,_=>j5
 |.le,_=>j4
 |.gt,_=>jy
 |.ge,_=>jx
 |.is,_=>j0
 |.isNot,_=>pj
 |.in_,_=>jz hr0
 |.notIn,_=>pk hr0
 |.inD,_=>mf hr0
 |.notInD,_=>r9 hr0
noncomputable def Bop.op:Bop→Operator
 |.add=>.Add|.sub=>.Sub|.mul=>.Mult|.fdiv=>.FloorDiv|.mod=>.Mod|.pow=>.Pow|.shl=>.LShift|.shr=>.RShift|.band=>.BitAnd
noncomputable def okB:Bop→Bool
 |.shl|.shr|.band=>false
 |_=>true
theorem YX(m:Bool):∀op:Bop,okB op=true→L2.OpR X (BH op.op) (rM2 X.K X.mg (binOp m op))
 |.add,_=>mX m
 |.sub,_=>me m
 |.mul,_=>mZ m
 |.fdiv,_=>nI m
 |.mod,_=>mY m
 |.pow,_=>md m
 |.shl,h=>by cases h
 |.shr,h=>by cases h
 |.band,h=>by cases h
theorem WD:L2.IxR X (rM2 X.K X.mg y3):=by
 intro value slice pins s σ H x y v u Q I rx ry h hs
 obtain⟨ρ,t,a,b,hr,ra,rb,w⟩:=h
 simp only[y3]at w
 split at w
 . split at w
   . rename_i vs e
     split at w
     . rename_i z hz
       obtain⟨p,xs,rfl,hq,q⟩:=tJ hr ra e
       cases rb
       obtain⟨xz,h1,h2⟩:=dO q hz
       refine L2.Zf value slice pins s σ H _ _ v u Q I rx ry ?_ hs
       rcases hq with hq|hq
       . exact .inl ⟨p,xs,_,xz,rfl,rfl,hq,h1,zI hr h2 w⟩
       . exact .inr (.inl ⟨p,xs,_,xz,rfl,rfl,hq,h1,zI hr h2 w⟩)
     . exact w.elim
   . exact w.elim
 . exact w.elim
end
end M
end
section
namespace M
open PySem
noncomputable def Bf.nm:Bf→Str
 |.len=>"len"|.all=>"all"|.any=>"any"|.tuple=>"tuple"|.list=>"list"|.sorted=>"sorted"|.repr=>"repr"|.max=>"max"|.min=>"min"|.sum=>"sum"|.int=>"int"|.isi=>"isinstance"|.divmod=>"divmod"|.str=>"str"|.sortedI=>"sorted"
noncomputable def Bf.val:Bf→Value
 |.len=>.builtin "len"|.all=>.builtin "all"|.any=>.builtin "any"|.tuple=>.type "tuple"|.list=>.type "list"|.sorted=>.builtin "sorted"|.repr=>.builtin "repr"|.max=>.builtin "max"|.min=>.builtin "min"|.sum=>.builtin "sum"|.int=>.type "int"
 |.isi=>.builtin "isinstance"|.divmod=>.builtin "divmod"|.str=>.type "str"|.sortedI=>.builtin "sorted"
theorem Bf.boot:∀f:Bf,CD f.nm=some f.val
 |.len=>boot_len|.all=>PyProof.Rows.boot_all|.any=>PyProof.Rows.boot_any|.tuple=>Gy|.list=>PyProof.Rows.boot_list|.sorted=>Gs|.repr=>PyProof.Rows.boot_repr|.max=>PyProof.Rows.boot_max|.min=>PyProof.Rows.boot_min
 |.sum=>PyProof.Rows.boot_sum|.int=>PyProof.Rows.boot_int|.isi=>PyProof.Rows.boot_isinstance|.divmod=>PyProof.Rows.boot_divmod|.str=>PyProof.Rows.boot_str|.sortedI=>Gs
section
variable {X:L2.Cx}{k:Nat}{m:Bool}
theorem uA{K:KF}{mg:Str→Option Value}{ρ:Own}{H:L2.Hp}{v:Val}{xs:List L2.V}(r:RDs K mg ρ H [v] xs):∃x,xs=[x]∧RD K mg ρ H v x:=by
 cases r with
 |cons r1 r2=>cases r2;exact⟨_,rfl,r1⟩
theorem iH{K:KF}{mg:Str→Option Value}{ρ:Own}{H:L2.Hp}{v w:Val}{xs:List L2.V}(r:RDs K mg ρ H [v,w] xs):∃x y,xs=[x,y]∧RD K mg ρ H v x∧RD K mg ρ H w y:=by
 cases r with
 |cons r1 r2=>
  obtain⟨y,rfl,r3⟩:=uA r2
  exact⟨_,_,rfl,r1,r3⟩
theorem i6:L2.yA X (.builtin "len") (rMc X.K X.mg (blt .len m)):=by
 intro pins s σ H xs us Q I r h
 obtain⟨ρ,t,vs,hr,rv,w⟩:=h
 simp only[blt]at w
 split at w
 . split at w
   . rename_i hz
     obtain⟨x,rfl,rx⟩:=uA rv
     cases rx
     exact L2.pF pins s σ H _ us Q I r ⟨_,rfl,by rw[←yN];exact hz,zI hr (.int _) w⟩
   . exact w.elim
 . split at w
   . rename_i e
     obtain⟨x,rfl,rx⟩:=uA rv
     obtain⟨p,ys,rfl,hq,q⟩:=tJ hr rx e
     refine L2.pE pins s σ H _ us Q I r ⟨p,ys,rfl,hq,?_⟩
     rw[←q.length]
     exact zI hr (.int _) w
   . exact w.elim
 . exact w.elim
theorem sO(hc:X.calm=true):L2.yA X (.builtin "all") (rMc X.K X.mg (blt .all m)):=by
 intro pins s σ H xs us Q I r h
 obtain⟨ρ,t,vs,hr,rv,w⟩:=h
 simp only[blt]at w
 split at w
 . split at w
   . rename_i e
     split at w
     . rename_i bs eb
       obtain⟨x,rfl,rx⟩:=uA rv
       obtain⟨p,ys,rfl,hq,q⟩:=xJ hr rx e
       rw[q.bools eb]at hq
       exact L2.sO hc pins s σ H _ us Q I r ⟨p,bs,rfl,.of hq,zI hr (.bool _) w⟩
     . exact w.elim
   . exact w.elim
 . exact w.elim
theorem n6:L2.yA X (.type "tuple") (rMc X.K X.mg (blt .tuple m)):=by
 intro pins s σ H xs us Q I r h
 obtain⟨ρ,t,vs,hr,rv,w⟩:=h
 simp only[blt]at w
 split at w
 . obtain⟨x,rfl,rx⟩:=uA rv
   cases rx with
   |tup n e q=>exact L2.vi pins s σ H _ us Q I r ⟨_,_,rfl,.inr ⟨.of e,zI hr (.tup n e q) w⟩⟩
 . split at w
   . rename_i e
     obtain⟨x,rfl,rx⟩:=uA rv
     obtain⟨p,ys,rfl,hq,q⟩:=xJ hr rx e
     exact L2.vi pins s σ H _ us Q I r ⟨p,ys,rfl,.inl ⟨.of hq,pZ hr q w⟩⟩
   . exact w.elim
 . exact w.elim
theorem kx:L2.yA X (.type "list") (rMc X.K X.mg (blt .list m)):=by
 intro pins s σ H xs us Q I r h
 obtain⟨ρ,t,vs,hr,rv,w⟩:=h
 simp only[blt]at w
 split at w
 . split at w
   . rename_i e
     obtain⟨x,rfl,rx⟩:=uA rv
     obtain⟨p,ys,rfl,hq,q⟩:=tJ hr rx e
     exact L2.pG pins s σ H _ us Q I r ⟨p,ys,rfl,hq,xk hr q w⟩
   . exact w.elim
 . exact w.elim
theorem i7(hc:X.calm=true):L2.yA X (.builtin "max") (rMc X.K X.mg (blt .max m)):=by
 intro pins s σ H xs us Q I r h
 obtain⟨ρ,t,vs,hr,rv,w⟩:=h
 simp only[blt]at w
 split at w
 . obtain⟨x,y,rfl,rx,ry⟩:=iH rv
   cases rx;cases ry
   exact L2.ky hc pins s σ H _ us Q I r ⟨_,_,rfl,zI hr (.int _) w⟩
 . split at w
   . rename_i ns en
     split at w
     . rename_i hn
       obtain⟨x,rfl,rx⟩:=uA rv
       cases rx with
       |tup n e q=>
        rw[q.se en]at e
        exact L2.jA hc pins s σ H _ us Q I r ⟨_,ns,rfl,.of e,hn,zI hr (.int _) w⟩
     . exact w.elim
   . exact w.elim
 . split at w
   . rename_i e
     split at w
     . rename_i ns en
       split at w
       . rename_i hn
         obtain⟨x,rfl,rx⟩:=uA rv
         obtain⟨p,ys,rfl,hq,q⟩:=xJ hr rx e
         rw[q.se en]at hq
         exact L2.kz hc pins s σ H _ us Q I r ⟨p,ns,rfl,.of hq,hn,zI hr (.int _) w⟩
       . exact w.elim
     . exact w.elim
   . exact w.elim
 . exact w.elim
theorem i8(hc:X.calm=true):L2.yA X (.builtin "min") (rMc X.K X.mg (blt .min m)):=by
 intro pins s σ H xs us Q I r h
 obtain⟨ρ,t,vs,hr,rv,w⟩:=h
 simp only[blt]at w
 split at w
 . obtain⟨x,y,rfl,rx,ry⟩:=iH rv
   cases rx;cases ry
   exact L2.jB hc pins s σ H _ us Q I r ⟨_,_,rfl,zI hr (.int _) w⟩
 . split at w
   . rename_i e
     split at w
     . rename_i ns en
       split at w
       . rename_i hn
         obtain⟨x,rfl,rx⟩:=uA rv
         obtain⟨p,ys,rfl,hq,q⟩:=xJ hr rx e
         rw[q.se en]at hq
         exact L2.jD hc pins s σ H _ us Q I r ⟨p,ns,rfl,.of hq,hn,zI hr (.int _) w⟩
       . exact w.elim
     . exact w.elim
   . exact w.elim
 . exact w.elim
theorem i5:L2.yA X (.type "int") (rMc X.K X.mg (blt .int m)):=by
 intro pins s σ H xs us Q I r h
 obtain⟨ρ,t,vs,hr,rv,w⟩:=h
 simp only[blt]at w
 split at w
 . obtain⟨x,rfl,rx⟩:=uA rv
   cases rx
   exact L2.qQ pins s σ H _ us Q I r (.inl ⟨_,rfl,zI hr (.int _) w⟩)
 . obtain⟨x,rfl,rx⟩:=uA rv
   cases rx
   exact L2.qQ pins s σ H _ us Q I r (.inr ⟨_,rfl,zI hr (.int _) w⟩)
 . exact w.elim
theorem sP:L2.yA X (.builtin "isinstance") (rMc X.K X.mg (blt .isi m)):=by
 intro pins s σ H xs us Q I r h
 obtain⟨ρ,t,vs,hr,rv,w⟩:=h
 simp only[blt]at w
 split at w
 . split at w
   . rename_i ea ec
     obtain⟨x,y,rfl,rx,ry⟩:=iH rv
     cases ry
     obtain⟨e1,e2⟩:=WT ec
     subst e1
     exact L2.sP pins s σ H _ us Q I r ⟨_,_,_,_,rfl,Vb hr rx ea,L2.YM X.K _ _ e2,zI hr (.bool _) w⟩
   . exact w.elim
 . exact w.elim
theorem vA:L2.yA X (.builtin "divmod") (rMc X.K X.mg (blt .divmod m)):=by
 intro pins s σ H xs us Q I r h
 obtain⟨ρ,t,vs,hr,rv,w⟩:=h
 simp only[blt]at w
 split at w
 . split at w
   . rename_i hz
     obtain⟨x,y,rfl,rx,ry⟩:=iH rv
     cases rx;cases ry
     exact L2.vA pins s σ H _ us Q I r ⟨_,_,rfl,hz,pZ hr (.cons (.int _) (.cons (.int _) .nil)) w⟩
   . exact w.elim
 . exact w.elim
theorem uz(z:Int × Int):∀l,(mG z l).Perm (z::l)
 |[]=>.refl _
 |y::ys=>by
  unfold mG
  split
  . exact .refl _
  . exact((uz z ys).cons y).trans (.swap z y ys)
theorem yd:∀l,(uc l).Perm l
 |[]=>.refl _
 |z::zs=>(uz z _).trans ((yd zs).cons z)
theorem kE(z:Int × Int):∀l,l.Pairwise (fun a b=>L2.zp a≤L2.zp b)→(mG z l).Pairwise (fun a b=>L2.zp a≤L2.zp b)
 |[],_=>by simp[mG]
 |y::ys,h=>by
  rw[Bx]at h
  unfold mG
  split
  . rename_i hz
    refine Bx.mpr ⟨fun a ha=>?_,Bx.mpr h⟩
    rcases AF.mp ha with e|e
    . subst e;exact hz
    . exact A0 hz (h.1 a e)
  . rename_i hz
    refine Bx.mpr ⟨fun a ha=>?_,kE z ys h.2⟩
    rcases AF.mp ((uz z ys).mem_iff.mp ha) with e|e
    . subst e;omega
    . exact h.1 a e
theorem nh:∀l,(uc l).Pairwise (fun a b=>L2.zp a≤L2.zp b)
 |[]=>.nil
 |z::zs=>kE z _ (nh zs)
theorem rQ{l:List (Int × Int)}(nd:l.Nodup)(hb:∀z∈l,0≤z.2∧z.2<1000):(uc l).Pairwise (fun a b=>L2.zp a<L2.zp b):=by
 have h1:=nh l
 have h2:(uc l).Pairwise (·≠·):=(yd l).nodup_iff.mpr nd
 have h3:=h1.and h2
 refine h3.imp_of_mem ?_
 intro a b ha hb' hab
 have m1:=hb a ((yd l).mem_iff.mp ha)
 have m2:=hb b ((yd l).mem_iff.mp hb')
 rcases Int.lt_or_eq_of_le hab.1 with z|z
 . exact z
 . exact absurd (L2.qS m1 m2 z) hab.2
theorem fq{K:KF}{mg:Str→Option Value}{ρ:Own}{H:L2.Hp}:∀{vs:List Val} {xs:List L2.V} {zs:List (Int × Int)},RDs K mg ρ H vs xs→pairsOf vs=some zs→vs=zs.map prV∧L2.Vj K H xs zs
 |_,_,_,.nil,h=>by cases h;exact⟨rfl,rfl,fun i z e=>by simp at e⟩
 |_,_,_,.cons (v:=v) (x:=x) (vs:=vs) (xs:=xs) r rs,h=>by
  unfold pairsOf at h
  split at h
  . rename_i hv;cases hv
  . rename_i a b ws hv
    cases hv
    rw[AX]at h
    obtain⟨zs',h1,rfl⟩:=h
    obtain⟨e1,e2,e3⟩:=fq rs h1
    refine⟨by rw[e1];rfl,by rw[AE,AE,e2],fun i z hz=>?_⟩
    cases i with
    |zero=>
     simp at hz;subst hz
     cases r with
     |tup n e q=>
      cases q with
      |cons q1 q2=>
       cases q2 with
       |cons q2 q3=>
        cases q1;cases q2;cases q3
        exact⟨_,rfl,.of e⟩
    |succ i=>
     simp only[Gz]at hz ⊢
     exact e3 i z hz
  . cases h
theorem eB{K:KF}{mg:Str→Option Value}{ρ:Own}{H:L2.Hp}{vs:List Val}{xs:List L2.V}(r:RDs K mg ρ H vs xs):∀{ix:List Nat},(∀i∈ix,i<vs.length)→RDs K mg ρ H (ix.map fun i=>vs.getD i .none) (ix.map fun i=>xs.getD i .non)
 |[],_=>.nil
 |i::ix,h=>by
  have hi:=h i (.head _)
  obtain⟨x,h1,h2⟩:=r.get (Aa hi)
  refine .cons ?_ (eB r fun j hj=>h j (.tail _ hj))
  show RD K mg ρ H (vs.getD i .none) (xs.getD i .non)
  rw[Ae,Aa hi,Ae,h1]
  exact h2
theorem eg{K:KF}{mg:Str→Option Value}{ρ:Own}{H:L2.Hp}:∀{vs:List Val} {xs:List L2.V} {zs:List (List Int)},RDs K mg ρ H vs xs→tL vs=some zs→L2.dM K H xs zs
 |_,_,_,.nil,h=>by cases h;exact⟨rfl,fun i z e=>by simp at e⟩
 |_,_,_,.cons (v:=v) (x:=x) (vs:=vs) (xs:=xs) r rs,h=>by
  unfold tL at h
  split at h
  . rename_i hv;cases hv
  . rename_i a ws hv
    cases hv
    split at h
    . rename_i z zs' h1 h2
      cases h
      obtain⟨e2,e3⟩:=eg rs h2
      refine⟨by rw[AE,AE,e2],fun i z' hz=>?_⟩
      cases i with
      |zero=>
       simp at hz;subst hz
       cases r with
       |tup n e q=>exact⟨_,rfl,by rw[q.se h1]at e;exact .of e⟩
      |succ i=>
       simp only[Gz]at hz ⊢
       exact e3 i z' hz
    . cases h
  . cases h
theorem ints_map:∀{a:List Val} {z:List Int},intsOf a=some z→a=z.map .int
 |[],_,h=>by cases h;rfl
 |v::vs,z,h=>by
  cases v with
  |int i=>
   obtain⟨n,h1,rfl⟩:=AX.mp (show (intsOf vs).map (i::·)=some z from h)
   rw[ints_map h1];rfl
  |_=>cases h
theorem eh{K:KF}{mg:Str→Option Value}{ρ:Own}{H:L2.Hp}:∀{vs:List Val} {xs:List L2.V} {zs:List (List Int)},RDs K mg ρ H vs xs→tL vs=some zs→vs=zs.map tpV
 |_,_,_,.nil,h=>by cases h;rfl
 |_,_,_,.cons (v:=v) (x:=x) (vs:=vs) (xs:=xs) r rs,h=>by
  unfold tL at h
  split at h
  . rename_i hv;cases hv
  . rename_i a ws hv
    cases hv
    split at h
    . rename_i z zs' h1 h2
      cases h
      rw[eh rs h2,AA]
      rw[ints_map h1]
      rfl
    . cases h
  . cases h
theorem qq{K:KF}{mg:Str→Option Value}{ρ:Own}{H:L2.Hp}{α:Type}{d:α}{f:α→Val}{zs l:List α}{ys:List L2.V}{ix:List Nat}(q:RDs K mg ρ H (zs.map f) ys)(hp:ix.Perm (Ak zs.length))(h:(ix.map fun i=>zs.getD i d).Perm zs→(ix.map fun i=>zs.getD i d)=l):RDs K mg ρ H (l.map f) (ix.map fun i=>ys.getD i .non):=by
 have hlt:∀i∈ix,i<zs.length:=fun i hi=>Ax.mp (hp.mem_iff.mp hi)
 have e1:(ix.map fun i=>zs.getD i d).Perm zs:=L2.iE d hp
 have rr:=eB q (ix:=ix) (by rw[Ag];exact hlt)
 have e3:(ix.map fun i=>(zs.map f).getD i .none)=l.map f:=by
  rw[←h e1,Bl]
  refine BN fun i hi=>?_
  have:=hlt i hi
  show _=f (zs.getD i d)
  rw[Ae,Ay,Aa this,Ae,Aa this]
  rfl
 rw[e3]at rr
 exact rr
theorem oT:L2.yA X (.builtin "sorted") (rMc X.K X.mg (blt .sorted m)):=by
 intro pins s σ H xs us Q I r h
 obtain⟨ρ,t,vs,hr,rv,w⟩:=h
 have gen:∀{v:Val} {ws:List Val},RDs X.K X.mg ρ H [v] xs→yK t v=some ws→yS X.K X.mg (RD X.K X.mg) ρ H (tK m ws t) Q→wpAny (model X.prog X.w) X.A (call (.builtin "sorted") us) (L2.EP X pins σ Q) X.xe s:=fun{v ws} rv e w=>by
  unfold tK at w
  split at w
  . rename_i zs ez
    split at w
    . rename_i hz
      obtain⟨x,rfl,rx⟩:=uA rv
      obtain⟨p,ys,rfl,hq,q⟩:=xJ hr rx e
      refine L2.sQ pins s σ H _ us Q I r ⟨p,ys,zs,fun a=>((L2.wJ zs).idxOf a:Int),rfl,.of hq,eg q ez,hz.2,hz.1,fun a ha b hb=>L2.ni hz.1 ha hb,fun a ha b hb=>L2.eT ha hb,fun l ix hl hp hw=>xk hr (qq (eh q ez▸q) hp fun e1=>L2.eS hz.1 e1 hw) w l hl⟩
    . exact w.elim
  . exact w.elim
 simp only[blt]at w
 split at w
 . split at w
   . rename_i e
     split at w
     . rename_i zs ez
       split at w
       . rename_i hz
         obtain⟨x,rfl,rx⟩:=uA rv
         obtain⟨p,ys,rfl,hq,q⟩:=xJ hr rx e
         obtain⟨ev,pa⟩:=fq q ez
         subst ev
         have hb:∀{a:List Int},a∈zs.map L2.plI→∃z∈zs,L2.plI z=a:=fun ha=>As.mp ha
         refine L2.sQ pins s σ H _ us Q I r ⟨p,ys,zs.map L2.plI,L2.gw,rfl,.of hq,⟨by rw[Ag];exact pa.1,fun i l hl=>?_⟩,.inr fun a ha=>?_,Co.mpr (hz.1.imp fun n h=>n (L2.bY h)),fun a ha b hb'=>?_,fun a ha b hb' h=>?_,fun l ix hl hp hw=>?_⟩
         . rw[Ay]at hl
           obtain⟨z,e1,rfl⟩:=AX.mp hl
           exact pa.2 i z e1
         . obtain⟨z,_,rfl⟩:=hb ha;exact List.cons_ne_nil _ _
         . obtain⟨z,h1,rfl⟩:=hb ha
           obtain⟨z',h2,rfl⟩:=hb hb'
           exact L2.cb (hz.2 z h1) (hz.2 z' h2)
         . obtain⟨z,h1,rfl⟩:=hb ha
           obtain⟨z',h2,rfl⟩:=hb hb'
           rw[L2.qS (hz.2 z h1) (hz.2 z' h2) h]
         . rw[Ag]at hp
           refine xk hr (qq (d:=(0,0)) q hp fun e1=>L2.wz ?_ (rQ hz.1 hz.2) fun x=>e1.mem_iff.trans (yd zs).mem_iff.symm) w l hl
           rw[Co]at hw ⊢
           refine hw.imp_of_mem fun{i j} hi hj w=>?_
           have l1:=Ax.mp (hp.mem_iff.mp hi)
           have l2:=Ax.mp (hp.mem_iff.mp hj)
           rw[Ae,Ay,Aa l1,Ae,Ay,Aa l2]at w
           rw[Ae,Aa l1,Ae,Aa l2]
           exact w
       . exact gen rv e w
     . exact gen rv e w
   . exact w.elim
 . exact w.elim
theorem insI_perm(z:Int):∀l:List Int,(insI z l).Perm (z::l)
 |[]=>.refl _
 |y::ys=>by
  unfold insI
  split
  . exact .refl _
  . exact((insI_perm z ys).cons y).trans (.swap z y ys)
theorem sortI_perm:∀l:List Int,(sortI l).Perm l
 |[]=>.refl _
 |z::zs=>(insI_perm z _).trans ((sortI_perm zs).cons z)
theorem kD(z:Int):∀{l:List Int},l.Pairwise (·≤·)→(insI z l).Pairwise (·≤·)
 |[],_=>EL _ _
 |y::ys,h=>by
  rw[Bx]at h
  unfold insI
  split
  . rename_i hz
    exact .cons (fun x hx=>by rcases AF.mp hx with rfl|hx;exact hz;exact A0 hz (h.1 x hx)) (.cons h.1 h.2)
  . rename_i hz
    exact .cons (fun x hx=>by rcases AF.mp ((insI_perm z ys).mem_iff.mp hx) with rfl|hx;omega;exact h.1 x hx) (kD z h.2)
theorem rP:∀l:List Int,(sortI l).Pairwise (·≤·)
 |[]=>.nil
 |z::zs=>kD z (rP zs)
theorem pH:L2.yA X (.builtin "sorted") (rMc X.K X.mg (blt .sortedI m)):=by
 intro pins s σ H xs us Q I r h
 obtain⟨ρ,t,vs,hr,rv,w⟩:=h
 simp only[blt]at w
 split at w
 . split at w
   . rename_i e
     split at w
     . rename_i ns ei
       split at w
       . rename_i hz
         obtain⟨x,rfl,rx⟩:=uA rv
         obtain⟨p,ys,rfl,hq,q⟩:=tJ hr rx e
         obtain rfl:=RDs.se q ei
         refine L2.n5 pins s σ H _ us Q I r ⟨p,ns,rfl,hq,hz,fun l ns' hl hp ho=>?_⟩
         obtain rfl:ns'=sortI ns:=EB (fun a b _ _ h1 h2=>Ek h1 h2) ho (rP ns) (hp.trans (sortI_perm ns).symm)
         exact xk hr (RDs.ints _) w l hl
       . exact w.elim
     . exact w.elim
   . exact w.elim
 . exact w.elim
noncomputable def okF:Bf→Bool
 |.any|.repr|.sum|.str=>false
 |_=>true
theorem dX(hc:X.calm=true)(hr0:L2.yp k X.A):∀(f:Bf) (m:Bool),okF f=true→L2.yA X f.val (rMc X.K X.mg (blt f m))
 |.len,_,_=>i6
 |.all,_,_=>sO hc
 |.any,_,h=>by cases h
 |.tuple,_,_=>n6
 |.list,_,_=>kx
 |.sorted,_,_=>oT
 |.repr,_,h=>by cases h
 |.max,_,_=>i7 hc
 |.min,_,_=>i8 hc
 |.sum,_,h=>by cases h
 |.int,_,_=>i5
 |.isi,_,_=>sP
 |.divmod,_,_=>vA
 |.str,_,h=>by cases h
 |.sortedI,_,_=>pH
end
end M
end
section
namespace M
open PySem
noncomputable def Out.isOk{α:Type}:Out α→Bool
 |.ok _ _=>true
 |.exc _ _ _|.stuck=>false
theorem zE{α:Type}{o:Out α}(h:o.isOk=false)(v:α)(s:Sto):o≠.ok v s:=fun e=>by subst e;cases h
noncomputable def plain:Expr→Bool
 |.Starred ..|.Set ..|.Slice ..|.SetComp ..=>false
 |_=>true
theorem zY{e:Expr}(h:plain e=true):L2.noStar e=true:=by cases e<;>first|rfl|cases h
theorem wx{op:CmpOp}{e:Expr}(h:plain e=true):G6 op e=false:=by cases e<;>first|rfl|cases h
theorem nS{e:Expr}(h:plain e=true):L2.lV e:=by
 intro o i
 cases e<;>first|rfl|cases h
theorem yG{e:Expr}{env:Ce}(h:plain e=true)(x:Value):Bb e env x=pure x:=by cases e<;>first|rfl|cases h
noncomputable def pe:Expr→Bool
 |.Call (.Name _ _) [] [] _=>false
 |_=>true
theorem wc{o:Expr}{name:Str}{env:Ce}(h:pe o=true):Ee o name env (eval o env)=eval o env:=by
 unfold Ee
 split
 . cases h
 . rfl
noncomputable def plainT:Expr→Bool
 |.UnaryOp .Not _ _|.BoolOp ..|.IfExp ..|.Compare ..=>false
 |_=>true
theorem iF{e:Expr}{env:Ce}(h:plainT e=true)(whole:Sem Value):isTrue e env whole=(do let v ←whole;standAt e.pos;holding [v] (truthy v)):=by
 cases e with
 |UnaryOp op a p=>cases op<;>first|rfl|cases h
 |_=>first|rfl|cases h
noncomputable def yV:List Expr→Bool
 |[]=>true
 |e::es=>plain e&&yV es
theorem v9:∀{es:List Expr} {pos:Pos} {env:Ce},yV es=true→(backTo pos (AR es env)).any (·.1)=false
 |[],_,_,_=>rfl
 |e::es,pos,env,h=>by
  rw[yV,Ab]at h
  rw[L2.zx (zY h.1)]
  show (false||(backTo pos (AR es env)).any (·.1))=false
  rw[v9 h.2];rfl
section
variable {K:KF}{mg:Str→Option Value}{env:Env}{s s1:Sto}{ρ ρ':Own}{H H':L2.Hp}
theorem yS.mono{α β:Type}{R:Own→L2.Hp→α→β→Prop}{o:Out α}{Q:β→L2.Hp→Prop}(w:yS K mg R ρ H o Q)(x:Ext ρ H ρ' H')(h:HR K mg ρ' s1 H'):yS K mg R ρ' H' o Q:=by
 cases o with
 |ok v s'=>exact fun ρ2 y H2 x2 h2 r2=>w ρ2 y H2 (x.trans h x2) h2 r2
 |_=>exact w
end
section
variable {X:L2.Cx}{env:Env}{s:Sto}{E a b c:Expr}
theorem zH{o:Out Val}(h:∀v s',o≠.ok v s'):L2.PE X E (tV X.K X.mg env s o):=Wv fun _ _ _=>VY h
theorem un1{o:Out Val}{r:L2.V→L2.Hp→L2.VK→Prop}{g:Val→Sto→Out Val}(h:L2.PE X a (tV X.K X.mg env s o))(rule:∀ta,L2.PE X a ta→L2.PE X E (L2.tUn r ta))
 (op:∀ρ H s1 v x Q,HR X.K X.mg ρ s1 H→RD X.K X.mg ρ H v x→yS X.K X.mg (RD X.K X.mg) ρ H (g v s1) Q→r x H Q):L2.PE X E (tV X.K X.mg env s (o.bind g)):=by
 cases o with
 |ok v s1=>exact zc (rule _ h) fun σ H Q ⟨ρ,hr,er,w⟩=>⟨ρ,hr,er,fun ρ1 x H1 x1 hr1 r1=>op ρ1 H1 s1 v x Q hr1 r1 (w.mono x1 hr1)⟩
 |exc _ _ _=>exact zH (zE rfl)
 |stuck=>exact zH (zE rfl)
theorem ZM{o:Out Val}{f2:Sto→Out Val}{g:Val→Val→Sto→Out Val}(h1:L2.PE X a (tV X.K X.mg env s o))(h2:∀s1,L2.PE X b (tV X.K X.mg env s1 (f2 s1)))
 (rule:∀ta tb,L2.PE X a ta→L2.PE X b tb→L2.PE X E (L2.tOp (rM2 X.K X.mg g) ta tb)):L2.PE X E (tV X.K X.mg env s (o.bind fun x s1=>(f2 s1).bind fun y s2=>g x y s2)):=by
 cases o with
 |ok v s1=>
  show L2.PE X E (tV X.K X.mg env s ((f2 s1).bind fun y s2=>g v y s2))
  have h2':=h2 s1
  cases hb:f2 s1 with
  |ok w s2=>
   rw[hb]at h2'
   exact zc (rule _ _ h1 h2') fun σ H Q ⟨ρ,hr,er,wt⟩=>⟨ρ,hr,er,fun ρ1 x H1 x1 hr1 r1=>⟨ρ1,hr1,er.mono x1,fun ρ2 y H2 x2 hr2 r2=>⟨ρ2,s2,v,w,hr2,r1.mono x2,r2,wt.mono (x1.trans hr1 x2) hr2⟩⟩⟩
  |exc _ _ _=>exact zH (zE rfl)
  |stuck=>exact zH (zE rfl)
 |exc _ _ _=>exact zH (zE rfl)
 |stuck=>exact zH (zE rfl)
theorem gh{op op':Cop}{o:Out Val}{f2 f3:Sto→Out Val}{k:Nat}{pos:Pos}(k1:okC op=true)(k2:okC op'=true)(hr0:L2.yp k X.A)(h1:L2.PE X a (tV X.K X.mg env s o))(h2:∀s1,L2.PE X b (tV X.K X.mg env s1 (f2 s1)))(h3:∀s1,L2.PE X c (tV X.K X.mg env s1 (f3 s1)))(hm:plain c=true) :
 L2.PE X (.Compare a [op.op,op'.op] [b,c] pos) (tV X.K X.mg env s (o.bind fun x s1=>(f2 s1).bind fun y s2=>(zM op x y s2).bind fun r s3=>match r with
  |.bool true=>(f3 s3).bind fun z s4=>zM op' y z s4
  |.bool false=>.ok (.bool false) s3
  |_=>.stuck)):=by
 cases o with
 |ok v s1=>
  have h2':=h2 s1
  show L2.PE X _ (tV X.K X.mg env s ((f2 s1).bind _))
  cases hb:f2 s1 with
  |ok w s2=>
   rw[hb]at h2'
   show L2.PE X _ (tV X.K X.mg env s ((zM op v w s2).bind _))
   cases hc:zM op v w s2 with
   |ok r s3=>
    cases r with
    |bool t=>
     have h3':=h3 s3
     have rule:=L2.fZ (pos:=pos) (tE hr0 op k1) (tE hr0 op' k2) h1 h2' h3' (show He [op.op,op'.op] [b,c]=false from wx hm)
     refine zc rule fun σ H Q ⟨ρ,hr,er,wt⟩=>⟨ρ,hr,er,fun ρ1 x H1 x1 hr1 r1=>⟨ρ1,hr1,er.mono x1,fun ρ2 y H2 x2 hr2 r2=>⟨ρ2,s2,v,w,hr2,r1.mono x2,r2,?_⟩⟩⟩
     rw[hc]
     intro ρ3 z H3 x3 hr3 r3
     cases r3
     refine⟨t,rfl,?_⟩
     have xx:=(x1.trans hr1 x2).trans hr2 x3
     have wt':=wt.mono xx hr3
     cases t with
     |true=>
      rw[if_pos rfl]
      refine⟨ρ3,hr3,er.mono xx,?_⟩
      have wt2:yS X.K X.mg (RD X.K X.mg) ρ3 H3 ((f3 s3).bind fun z s4=>zM op' w z s4) Q:=wt'
      cases hz:f3 s3 with
      |ok u s4=>
       rw[hz]at wt2
       exact fun ρ4 q H4 x4 hr4 r4=>⟨ρ4,s4,w,u,hr4,(r2.mono x3).mono x4,r4,wt2.mono x4 hr4⟩
      |exc _ _ _=>rw[hz]at wt2;exact wt2
      |stuck=>rw[hz]at wt2;exact wt2
     |false=>
      rw[if_neg An]
      exact zI hr3 (.bool false) wt'
    |_=>exact zH (zE rfl)
   |exc _ _ _=>exact zH (zE rfl)
   |stuck=>exact zH (zE rfl)
  |exc _ _ _=>exact zH (zE rfl)
  |stuck=>exact zH (zE rfl)
 |exc _ _ _=>exact zH (zE rfl)
 |stuck=>exact zH (zE rfl)
theorem Z6{o:Out Val}{pos:Pos}(h:L2.PE X a (tV X.K X.mg env s o)):L2.PE X (.UnaryOp .USub a pos) (tV X.K X.mg env s (o.bind fun x s1=>match x with|.int i=>.ok (.int (-i)) s1|_=>.stuck)):=by
 refine un1 h (fun ta q=>L2.Wy L2.Xc q) fun ρ H s1 v x Q hr r w=>?_
 cases r with
 |int i=>exact⟨i,rfl,zI hr (.int _) w⟩
 |_=>exact w.elim
theorem Z7{o:Out Val}{pos:Pos}(h:L2.PE X a (tV X.K X.mg env s o)):L2.PE X (.UnaryOp .Not a pos) (tV X.K X.mg env s (o.bind fun x s1=>match x with|.bool b=>.ok (.bool !b) s1|_=>.stuck)):=by
 refine un1 (r:=fun x H Q=>∃c,x=.bl c∧Q (.bl (!c)) H) h (fun ta q=>L2.Yx q) fun ρ H s1 v x Q hr r w=>?_
 cases r with
 |bool i=>exact⟨i,rfl,zI hr (.bool _) w⟩
 |_=>exact w.elim
theorem gf{rest:List Expr}{o:Out Val}{f2:Sto→Out Val}{pos:Pos}(h1:L2.PE X a (tV X.K X.mg env s o))(h2:∀s1,L2.PE X (.BoolOp .And (b::rest) pos) (tV X.K X.mg env s1 (f2 s1))) :
 L2.PE X (.BoolOp .And (a::b::rest) pos) (tV X.K X.mg env s (o.bind fun x s1=>match x with|.bool true=>f2 s1|.bool false=>.ok (.bool false) s1|_=>.stuck)):=by
 cases o with
 |ok v s1=>
  refine zc (L2.Yt h1 (h2 s1)) fun σ H Q ⟨ρ,hr,er,wt⟩=>⟨ρ,hr,er,fun ρ1 x H1 x1 hr1 r1=>?_⟩
  have wt':=wt.mono x1 hr1
  cases r1 with
  |bool t=>
   refine⟨t,rfl,?_⟩
   cases t with
   |true=>exact L2.r8 (⟨ρ1,hr1,er.mono x1,wt'⟩)
   |false=>exact L2.r0 (zI hr1 (.bool _) wt')
  |_=>exact wt'.elim
 |exc _ _ _=>exact zH (zE rfl)
 |stuck=>exact zH (zE rfl)
theorem WM{rest:List Expr}{o:Out Val}{f2:Sto→Out Val}{pos:Pos}(h1:L2.PE X a (tV X.K X.mg env s o))(h2:∀s1,L2.PE X (.BoolOp .Or (b::rest) pos) (tV X.K X.mg env s1 (f2 s1))) :
 L2.PE X (.BoolOp .Or (a::b::rest) pos) (tV X.K X.mg env s (o.bind fun x s1=>match truth s1 x with|some false=>f2 s1|some true=>.ok x s1|Ad=>.stuck)):=by
 cases o with
 |ok v s1=>
  refine zc (L2.Yy h1 (h2 s1)) fun σ H Q ⟨ρ,hr,er,wt⟩=>⟨ρ,hr,er,fun ρ1 x H1 x1 hr1 r1=>?_⟩
  have wt':yS X.K X.mg (RD X.K X.mg) ρ1 H1 (match truth s1 v with|some false=>f2 s1|some true=>.ok v s1|Ad=>.stuck) Q:=wt.mono x1 hr1
  cases ht:truth s1 v with
  |none=>rw[ht]at wt';exact wt'.elim
  |some t=>
   rw[ht]at wt'
   refine⟨t,ek hr1 r1 ht,?_⟩
   cases t with
   |true=>exact L2.r8 (zI hr1 r1 wt')
   |false=>exact L2.r0 (⟨ρ1,hr1,er.mono x1,wt'⟩)
 |exc _ _ _=>exact zH (zE rfl)
 |stuck=>exact zH (zE rfl)
theorem Z3{o:Out Bool}{f2 f3:Sto→Out Val}{pos:Pos}(h1:L2.PT X c (tT X.K X.mg env s o))(h2:∀s1,L2.PE X a (tV X.K X.mg env s1 (f2 s1)))(h3:∀s1,L2.PE X b (tV X.K X.mg env s1 (f3 s1))) :
 L2.PE X (.IfExp c a b pos) (tV X.K X.mg env s (o.bind fun t s1=>if t then f2 s1 else f3 s1)):=by
 cases o with
 |ok v s1=>
  refine zc (L2.fe h1 (h2 s1) (h3 s1)) fun σ H Q ⟨ρ,hr,er,wt⟩=>⟨ρ,hr,er,fun ρ1 x H1 x1 hr1 r1=>?_⟩
  have wt':=wt.mono x1 hr1
  cases r1
  cases v with
  |true=>exact L2.r8 (⟨ρ1,hr1,er.mono x1,wt'⟩)
  |false=>exact L2.r0 (⟨ρ1,hr1,er.mono x1,wt'⟩)
 |exc _ _ _=>exact zH (zE rfl)
 |stuck=>exact zH (zE rfl)
theorem uS{es:List Expr}{o:Out (List Val)}(h:∀v s',o≠.ok v s'):L2.PA X es (tVs X.K X.mg env s o):=Ws fun _ _ _=>XR h
theorem cP:L2.PA X [] (tVs X.K X.mg env s (.ok [] s)):=fW L2.vK fun σ H Q ⟨ρ,hr,er,wt⟩=>wt ρ [] H Ext.refl hr .nil
theorem gm{es:List Expr}{o:Out Val}{f2:Sto→Out (List Val)}(hp:plain a=true)(h1:L2.PE X a (tV X.K X.mg env s o))(h2:∀s1,L2.PA X es (tVs X.K X.mg env s1 (f2 s1))) :
 L2.PA X (a::es) (tVs X.K X.mg env s (o.bind fun v s1=>(f2 s1).bind fun vs s2=>.ok (v::vs) s2)):=by
 cases o with
 |ok v s1=>
  have h2':=h2 s1
  show L2.PA X _ (tVs X.K X.mg env s ((f2 s1).bind _))
  cases hb:f2 s1 with
  |ok ws s2=>
   rw[hb]at h2'
   exact fW (L2.pac h1 h2' (zY hp)) fun σ H Q ⟨ρ,hr,er,wt⟩=>⟨ρ,hr,er,fun ρ1 x H1 x1 hr1 r1=>⟨ρ1,hr1,er.mono x1,fun ρ2 y H2 x2 hr2 r2=>wt ρ2 _ H2 (x1.trans hr1 x2) hr2 (.cons (r1.mono x2) r2)⟩⟩
  |exc _ _ _=>exact uS (zE rfl)
  |stuck=>exact uS (zE rfl)
 |exc _ _ _=>exact uS (zE rfl)
 |stuck=>exact uS (zE rfl)
theorem gk{es:List Expr}{o:Out (List Val)}{k:Nat}{pos:Pos}(h:L2.PA X es (tVs X.K X.mg env s o)):L2.PE X (.Tuple es k pos) (tV X.K X.mg env s (o.bind fun vs s1=>if vs.length≤zQ then .ok (.tup vs) s1 else .stuck)):=by
 cases o with
 |ok vs s1=>
  refine zc (L2.Y0 h) fun σ H Q ⟨ρ,hr,er,wt⟩=>⟨ρ,hr,er,fun ρ1 xs H1 x1 hr1 r1=>?_⟩
  have wt':yS X.K X.mg (RD X.K X.mg) ρ1 H1 (if vs.length≤zQ then .ok (.tup vs) s1 else .stuck) Q:=wt.mono x1 hr1
  by_cases hz:vs.length≤zQ
  . rw[if_pos hz]at wt'
    exact⟨by rw[←r1.length,←yN];exact hz,pZ hr1 r1 wt'⟩
  . rw[if_neg hz]at wt';exact wt'.elim
 |exc _ _ _=>exact zH (zE rfl)
 |stuck=>exact zH (zE rfl)
theorem Z5{es:List Expr}{o:Out (List Val)}{m:Bool}{pos:Pos}(h:L2.PA X es (tVs X.K X.mg env s o)):L2.PE X (.List es pos) (tV X.K X.mg env s (o.bind fun vs s1=>if vs.length≤zQ then newList m vs s1 else .stuck)):=by
 cases o with
 |ok vs s1=>
  refine zc (L2.Yv h) fun σ H Q ⟨ρ,hr,er,wt⟩=>⟨ρ,hr,er,fun ρ1 xs H1 x1 hr1 r1=>?_⟩
  have wt':yS X.K X.mg (RD X.K X.mg) ρ1 H1 (if vs.length≤zQ then newList m vs s1 else .stuck) Q:=wt.mono x1 hr1
  by_cases hz:vs.length≤zQ
  . rw[if_pos hz]at wt'
    exact⟨by rw[←r1.length,←yN];exact hz,xk hr1 r1 wt'⟩
  . rw[if_neg hz]at wt';exact wt'.elim
 |exc _ _ _=>exact zH (zE rfl)
 |stuck=>exact zH (zE rfl)
theorem WK{es:List Expr}{o:Out (List Val)}{g:List Val→Sto→Out Val}(h:L2.PA X es (tVs X.K X.mg env s o))(rule:∀t,L2.PA X es t→L2.PE X E (L2.tCB (rMc X.K X.mg g) t)):L2.PE X E (tV X.K X.mg env s (o.bind g)):=by
 cases o with
 |ok vs s1=>exact zc (rule _ h) fun σ H Q ⟨ρ,hr,er,wt⟩=>⟨ρ,hr,er,fun ρ1 xs H1 x1 hr1 r1=>⟨ρ1,s1,vs,hr1,r1,wt.mono x1 hr1⟩⟩
 |exc _ _ _=>exact zH (zE rfl)
 |stuck=>exact zH (zE rfl)
theorem Z2{es:List Expr}{o:Out (List Val)}{f:Bf}{m:Bool}{k:Nat}{p pos:Pos}(k1:okF f=true)(hc:X.calm=true)(hr0:L2.yp k X.A)(hg:L2.Gl X f.nm)(hm:X.mg f.nm=none)(hp:yV (a::es)=true)(h:L2.PA X (a::es) (tVs X.K X.mg env s o)) :
 L2.PE X (.Call (.Name f.nm p) (a::es) [] pos) (tV X.K X.mg env s (o.bind (blt f m))):=by
 rw[yV,Ab]at hp
 refine WK h fun t ht=>?_
 have hb:=dX hc hr0 f m k1
 have bo:=f.boot
 have st:=L2.zx (es:=es) (env:=X.env) (zY hp.1)
 have hn:=v9 (pos:=pos) (env:=X.env) hp.2
 cases f with
 |tuple=>exact L2.vW hb hg hm bo ht (by decide) (by decide) st hn
 |list=>exact L2.vW hb hg hm bo ht (by decide) (by decide) st hn
 |int=>exact L2.vW hb hg hm bo ht (by decide) (by decide) st hn
 |str=>exact L2.vW hb hg hm bo ht (by decide) (by decide) st hn
 |_=>exact L2.fY hb hg hm bo ht (by decide) (by decide) st hn
theorem z6{o:Out Bool}(h:∀v s',o≠.ok v s'):L2.PT X E (tT X.K X.mg env s o):=W6 fun _ _ _=>a0 h
theorem YG{o:Out Val}(hp:plainT a=true)(h:L2.PE X a (tV X.K X.mg env s o)):L2.PT X a (tT X.K X.mg env s o.truth):=by
 cases o with
 |ok v s1=>
  refine p5 (L2.f7 h (iF hp)) fun σ H Q ⟨ρ,hr,er,wt⟩=>⟨ρ,hr,er,fun ρ1 x H1 x1 hr1 r1=>?_⟩
  have wt':=wt.mono x1 hr1
  simp only[Out.truth,zL]at wt'
  cases ht:truth s1 v with
  |none=>rw[ht]at wt';exact wt'.elim
  |some b=>rw[ht]at wt';exact⟨b,ek hr1 r1 ht,wt' _ _ _ Ext.refl hr1 rfl⟩
 |exc _ _ _=>exact z6 (zE rfl)
 |stuck=>exact z6 (zE rfl)
theorem YF{o:Out Bool}{pos:Pos}(h:L2.PT X a (tT X.K X.mg env s o)):L2.PT X (.UnaryOp .Not a pos) (tT X.K X.mg env s (o.bind fun b s1=>.ok (!b) s1)):=by
 cases o with
 |ok v s1=>exact p5 (L2.Y8 h) fun σ H Q ⟨ρ,hr,er,wt⟩=>⟨ρ,hr,er,fun ρ1 x H1 x1 hr1 r1=>by cases r1;exact wt _ _ _ x1 hr1 rfl⟩
 |exc _ _ _=>exact z6 (zE rfl)
 |stuck=>exact z6 (zE rfl)
theorem uU{o:Out Bool}(h:∀v s',o≠.ok v s'):L2.PW X E (tT X.K X.mg env s o):=W8 fun _ _ _=>a0 h
theorem mL{pos:Pos}:L2.PW X (.BoolOp .And [] pos) (tT X.K X.mg env s (.ok true s)):=fun wh pins sh σ H Q I ⟨ρ,hr,er,wt⟩=>PyProof.Rows.isTrue_and_nil ⟨H,I,wt _ _ _ Ext.refl hr rfl⟩
theorem jY{pos:Pos}:L2.PW X (.BoolOp .Or [] pos) (tT X.K X.mg env s (.ok false s)):=fun wh pins sh σ H Q I ⟨ρ,hr,er,wt⟩=>PyProof.Rows.isTrue_or_nil ⟨H,I,wt _ _ _ Ext.refl hr rfl⟩
theorem gu{rest:List Expr}{o:Out Bool}{f2:Sto→Out Bool}{pos:Pos}(h1:L2.PT X a (tT X.K X.mg env s o))(h2:∀s1,L2.PW X (.BoolOp .And rest pos) (tT X.K X.mg env s1 (f2 s1))) :
 L2.PW X (.BoolOp .And (a::rest) pos) (tT X.K X.mg env s (o.bind fun b s1=>if b then f2 s1 else .ok false s1)):=by
 cases o with
 |ok v s1=>
  intro wh pins sh σ H Q I h
  obtain⟨ρ,hr,er,wt⟩:=h
  refine PyProof.Rows.isTrue_and (L2.thn (h1 pins sh σ H (fun c H1=>if c=true then tT X.K X.mg env s1 (f2 s1) σ H1 Q else Q false H1) I ⟨ρ,hr,er,fun ρ1 x H1 x1 hr1 r1=>?_⟩) fun c s' ⟨H1,I1,q1⟩=>?_)
  . have wt':=wt.mono x1 hr1
    cases r1
    cases v with
    |true=>exact L2.r8 (⟨ρ1,hr1,er.mono x1,wt'⟩)
    |false=>exact L2.r0 (wt' _ _ _ Ext.refl hr1 rfl)
  . cases c with
    |true=>exact h2 s1 wh pins s' σ H1 Q I1 q1
    |false=>exact⟨H1,I1,q1⟩
 |exc _ _ _=>exact uU (zE rfl)
 |stuck=>exact uU (zE rfl)
theorem ab{rest:List Expr}{o:Out Bool}{f2:Sto→Out Bool}{pos:Pos}(h1:L2.PT X a (tT X.K X.mg env s o))(h2:∀s1,L2.PW X (.BoolOp .Or rest pos) (tT X.K X.mg env s1 (f2 s1))) :
 L2.PW X (.BoolOp .Or (a::rest) pos) (tT X.K X.mg env s (o.bind fun b s1=>if b then .ok true s1 else f2 s1)):=by
 cases o with
 |ok v s1=>
  intro wh pins sh σ H Q I h
  obtain⟨ρ,hr,er,wt⟩:=h
  refine PyProof.Rows.isTrue_or (L2.thn (h1 pins sh σ H (fun c H1=>if c=true then Q true H1 else tT X.K X.mg env s1 (f2 s1) σ H1 Q) I ⟨ρ,hr,er,fun ρ1 x H1 x1 hr1 r1=>?_⟩) fun c s' ⟨H1,I1,q1⟩=>?_)
  . have wt':=wt.mono x1 hr1
    cases r1
    cases v with
    |true=>exact L2.r8 (wt' _ _ _ Ext.refl hr1 rfl)
    |false=>exact L2.r0 (⟨ρ1,hr1,er.mono x1,wt'⟩)
  . cases c with
    |true=>exact⟨H1,I1,q1⟩
    |false=>exact h2 s1 wh pins s' σ H1 Q I1 q1
 |exc _ _ _=>exact uU (zE rfl)
 |stuck=>exact uU (zE rfl)
end
end M
end
section
namespace M
open PySem
section
variable {X:L2.Cx}{env:Env}{s:Sto}{E a b c:Expr}
theorem fm{e:Option Expr}{t t':L2.TO}(h:L2.PO X e t)(i:∀σ H Q,t' σ H Q→t σ H Q):L2.PO X e t':=fun pins s σ H Q I q=>h pins s σ H Q I (i σ H Q q)
theorem VU{o:Out (Option Int)}(h:∀v s',o≠.ok v s'){σ:L2.St}{H:L2.Hp}{Q:Option Int→L2.Hp→Prop}:¬tO X.K X.mg env s o σ H Q:=by
 rintro ⟨ρ,_,_,w⟩
 cases o with
 |ok v s'=>exact h v s' rfl
 |_=>exact w
theorem nT{e:Option Expr}{o:Out (Option Int)}(h:∀v s',o≠.ok v s'):L2.PO X e (tO X.K X.mg env s o):=fun pins sh σ H Q I q=>(VU h q).elim
theorem WQ:L2.PO X none (tO X.K X.mg env s (.ok none s)):=fm L2.bZ fun σ H Q ⟨ρ,hr,er,wt⟩=>wt _ _ _ Ext.refl hr rfl
theorem YA{o:Out Val}(h:L2.PE X a (tV X.K X.mg env s o)):L2.PO X (some a) (tO X.K X.mg env s (o.bind fun v s1=>match v with|.int i=>.ok (some i) s1|_=>.stuck)):=by
 cases o with
 |ok v s1=>
  refine fm (L2.ba h) fun σ H Q ⟨ρ,hr,er,wt⟩=>⟨ρ,hr,er,fun ρ1 x H1 x1 hr1 r1=>?_⟩
  have wt':=wt.mono x1 hr1
  cases r1 with
  |int i=>exact⟨i,rfl,wt' _ _ _ Ext.refl hr1 rfl⟩
  |_=>exact wt'.elim
 |exc _ _ _=>exact nT (zE rfl)
 |stuck=>exact nT (zE rfl)
noncomputable def rMs(K:KF)(mg:Str→Option Value)(m:Bool):L2.V→Option Int→Option Int→L2.Hp→L2.VK→Prop:=fun x lo hi H Q=>∃ρ s v,HR K mg ρ s H∧RD K mg ρ H v x∧yS K mg (RD K mg) ρ H (wA m v lo hi none s) Q
theorem VL(m:Bool):L2.SlR X (rMs X.K X.mg m):=by
 intro pins s σ H x v vl vu lo hi sl Q I rx hs pl pu h
 obtain⟨ρ,t,w,hr,rw',wt⟩:=h
 simp only[wA]at wt
 split at wt
 . cases rw' with
   |tup n e q=>exact L2.b9 pins s σ H _ v vl vu lo hi sl Q I rx hs pl pu ⟨_,_,rfl,e,vE hr (q.cut lo hi) wt⟩
 . rename_i heq
   cases heq
 . split at wt
   . rename_i e
     obtain⟨p,xs,rfl,hq,q⟩:=xJ hr rw' e
     exact L2.b8 pins s σ H _ v vl vu lo hi sl Q I rx hs pl pu ⟨_,_,rfl,.of hq,xk hr (q.cut lo hi) wt⟩
   . exact wt.elim
 . rename_i heq
   cases heq
theorem WN{lo hi st:Option Expr}{o:Out Val}{f2 f3 f4:Sto→Out (Option Int)}{m:Bool}{p2 pos:Pos}(h1:L2.PE X a (tV X.K X.mg env s o))(h2:∀s1,L2.PO X lo (tO X.K X.mg env s1 (f2 s1)))(h3:∀s1,L2.PO X hi (tO X.K X.mg env s1 (f3 s1)))
 (h4:∀s1,L2.PO X st (tO X.K X.mg env s1 (f4 s1))) (hst:(st=none∧∀s1,f4 s1=.ok none s1)∨∃e,st=some e∧∀s1 s2,f4 s1≠.ok none s2) :
 L2.PE X (.Subscript a (.Slice lo hi st p2) pos) (tV X.K X.mg env s (o.bind fun x s1=>(f2 s1).bind fun l s2=>(f3 s2).bind fun h s3=>(f4 s3).bind fun c s4=>wA m x l h c s4)):=by
 cases o with
 |ok v s1=>
  have h2':=h2 s1
  show L2.PE X _ (tV X.K X.mg env s ((f2 s1).bind _))
  cases hl:f2 s1 with
  |ok l s2=>
   rw[hl]at h2'
   have h3':=h3 s2
   show L2.PE X _ (tV X.K X.mg env s ((f3 s2).bind _))
   cases hh:f3 s2 with
   |ok h s3=>
    rw[hh]at h3'
    have h4':=h4 s3
    show L2.PE X _ (tV X.K X.mg env s ((f4 s3).bind _))
    rcases hst with⟨rfl,e4⟩|⟨e,rfl,e4⟩
    . rw[e4 s3]
      refine zc (L2.ff (VL m) h1 h2' h3') fun σ H Q ⟨ρ,hr,er,wt⟩=>⟨ρ,hr,er,fun ρ1 x H1 x1 hr1 r1=>⟨ρ1,hr1,er.mono x1,fun ρ2 y H2 x2 hr2 r2=>?_⟩⟩
      cases r2
      refine⟨ρ2,hr2,(er.mono x1).mono x2,fun ρ3 z H3 x3 hr3 r3=>?_⟩
      cases r3
      exact⟨ρ3,s3,v,hr3,(r1.mono x2).mono x3,wt.mono ((x1.trans hr1 x2).trans hr2 x3) hr3⟩
    . cases hc:f4 s3 with
      |ok cc s4=>
       rw[hc]at h4'
       cases cc with
       |none=>exact absurd hc (e4 s3 s4)
       |some ci=>
        by_cases hv:∃vs,v=.tup vs
        case neg=>
         refine zc (L2.ml h1 h2' h3' h4') fun σ H Q ⟨ρ,hr,er,wt⟩=>⟨ρ,hr,er,fun ρ1 x H1 x1 hr1 r1=>⟨ρ1,hr1,er.mono x1,fun ρ2 y H2 x2 hr2 r2=>?_⟩⟩
         cases r2
         refine⟨ρ2,hr2,(er.mono x1).mono x2,fun ρ3 z H3 x3 hr3 r3=>?_⟩
         cases r3
         refine⟨ρ3,hr3,((er.mono x1).mono x2).mono x3,fun ρ4 z4 H4 x4 hr4 r4=>?_⟩
         cases r4
         have wt':yS X.K X.mg (RD X.K X.mg) ρ4 H4 (wA m v l h (some ci) s4) Q:=wt.mono (((x1.trans hr1 x2).trans hr2 x3).trans hr3 x4) hr4
         have em:wA m v l h (some ci) s4=(match yK s4 v with|some vs=>if ci≠0 then newList m (L2.za vs (L2.vC vs.length l h ci).1 ci (L2.vC vs.length l h ci).2) s4 else .stuck|Ad=>.stuck):=by
          cases v with
          |tup vs=>exact absurd ⟨vs,rfl⟩ hv
          |_=>rfl
         rw[em]at wt'
         cases hl:yK s4 v with
         |none=>rw[hl]at wt';exact wt'.elim
         |some vs=>
          rw[hl]at wt'
          dsimp only at wt'
          obtain⟨p,xs,rfl,hq,q⟩:=xJ hr4 (((r1.mono x2).mono x3).mono x4) hl
          by_cases c0:ci≠0
          . have wt2:yS X.K X.mg (RD X.K X.mg) ρ4 H4 (newList m (L2.za vs (L2.vC vs.length l h ci).1 ci (L2.vC vs.length l h ci).2) s4) Q:=by rwa [if_pos c0]at wt'
            refine⟨p,xs,ci,rfl,.of hq,rfl,c0,?_⟩
            rw[←q.length]
            exact xk hr4 (q.za _ _ _) wt2
          . rw[if_neg c0]at wt';exact wt'.elim
        refine zc (L2.iB h1 h2' h3' h4') fun σ H Q ⟨ρ,hr,er,wt⟩=>⟨ρ,hr,er,fun ρ1 x H1 x1 hr1 r1=>⟨ρ1,hr1,er.mono x1,fun ρ2 y H2 x2 hr2 r2=>?_⟩⟩
        cases r2
        refine⟨ρ2,hr2,(er.mono x1).mono x2,fun ρ3 z H3 x3 hr3 r3=>?_⟩
        cases r3
        refine⟨ρ3,hr3,((er.mono x1).mono x2).mono x3,fun ρ4 z4 H4 x4 hr4 r4=>?_⟩
        cases r4
        have xx:=((x1.trans hr1 x2).trans hr2 x3).trans hr3 x4
        have wt':yS X.K X.mg (RD X.K X.mg) ρ4 H4 (wA m v l h (some ci) s4) Q:=wt.mono xx hr4
        have r:=((r1.mono x2).mono x3).mono x4
        cases r with
        |tup n e q=>
         change yS X.K X.mg (RD X.K X.mg) ρ4 H4 (if ci≠0∧(L2.yH (DL _) l h ci).2≤zQ then .ok (.tup (L2.za _ (L2.yH (DL _) l h ci).1 ci (L2.yH (DL _) l h ci).2)) s4 else .stuck) Q at wt'
         split at wt'
         . rename_i hz
           have hlen:=q.length
           refine⟨_,_,ci,rfl,e,rfl,hz.1,by rw[←hlen,←yN];exact hz.2,?_⟩
           rw[←hlen]
           exact vE hr4 (q.za _ _ _) wt'
         . exact wt'.elim
        |_=>obtain⟨_,e⟩:=hv;cases e
      |exc _ _ _=>exact zH (zE rfl)
      |stuck=>exact zH (zE rfl)
   |exc _ _ _=>exact zH (zE rfl)
   |stuck=>exact zH (zE rfl)
  |exc _ _ _=>exact zH (zE rfl)
  |stuck=>exact zH (zE rfl)
 |exc _ _ _=>exact zH (zE rfl)
 |stuck=>exact zH (zE rfl)
theorem RDs.erase{K:KF}{mg:Str→Option Value}{ρ:Own}{H:L2.Hp}:∀{vs:List Val} {xs:List L2.V} (n:Nat),RDs K mg ρ H vs xs→RDs K mg ρ H (vs.eraseIdx n) (xs.eraseIdx n)
 |_,_,_,.nil=>.nil
 |_,_,0,.cons _ rs=>rs
 |_,_,n+1,.cons r rs=>.cons r (rs.erase n)
noncomputable def Mf.nm:Mf→Str
 |.count=>"count"|.append=>"append"|.extend=>"extend"|.pop=>"pop"|.index=>"index"|.join=>"join"
noncomputable def okM:Mf→Bool
 |.append|.extend|.join=>false
 |_=>true
theorem gj{f:Mf}{o:Out Val}{f2:Sto→Out Val}{apos cpos:Pos}(hm:okM f=true)(hs:pe a=true)(hp:plain b=true)(hline:(apos.endLine == cpos.line)=true)(h1:L2.PE X a (tV X.K X.mg env s o))(h2:∀s1,L2.PE X b (tV X.K X.mg env s1 (f2 s1))) :
 L2.PE X (.Call (.Attribute a f.nm apos) [b] [] cpos) (tV X.K X.mg env s (o.bind fun x s1=>((f2 s1).bind fun v s2=>(Out.ok [v] s2:Out (List Val))).bind fun vs s2=>yb f x vs s2)):=by
 cases o with
 |ok v s1=>
  have h2':=h2 s1
  show L2.PE X _ (tV X.K X.mg env s (((f2 s1).bind fun v s2=>(Out.ok [v] s2:Out (List Val))).bind fun vs s2=>yb f v vs s2))
  cases hb:f2 s1 with
  |ok w s2=>
   rw[hb]at h2'
   show L2.PE X _ (tV X.K X.mg env s (yb f v [w] s2))
   cases f with
   |count=>
    by_cases hv:∃vs,v=.tup vs
    . obtain⟨vs,rfl⟩:=hv
      refine zc (L2.j9 h1 h2' (wc hs) (zY hp) hline) fun σ H Q ⟨ρ,hr,er,wt⟩=>⟨ρ,hr,er,fun ρ1 x H1 x1 hr1 r1=>?_⟩
      cases r1 with
      |tup n e q=>
       refine⟨⟨_,_,rfl,e⟩,ρ1,hr1,er.mono x1,fun ρ2 y H2 x2 hr2 r2=>?_⟩
       have wt':yS X.K X.mg (RD X.K X.mg) ρ2 H2 (yb .count (.tup vs) [w] s2) Q:=wt.mono (x1.trans hr1 x2) hr2
       simp only[yb]at wt'
       split at wt'
       . rename_i hf
         rw[Ab]at hf
         have q2:=q.mono x2
         refine⟨_,_,y,rfl,rfl,L2.SqT.of (x2.keep _ _ e n.1),r2.flat hf.1,q2.flat hf.2,?_⟩
         rw[RDs.countP r2 hf.1 q2 hf.2]
         exact zI hr2 (.int _) wt'
       . exact wt'.elim
    . refine zc (L2.j8 h1 h2' (wc hs) (zY hp) hline) fun σ H Q ⟨ρ,hr,er,wt⟩=>⟨ρ,hr,er,fun ρ1 x H1 x1 hr1 r1=>?_⟩
      have wt':yS X.K X.mg (RD X.K X.mg) ρ1 H1 (yb .count v [w] s2) Q:=wt.mono x1 hr1
      have em:yb .count v [w] s2=(match yK s2 v with|some vs=>if M.flat w&&vs.all M.flat then .ok (.int (vs.countP fun z=>eqF z w:Nat)) s2 else .stuck|Ad=>.stuck):=by
       cases v with
       |tup vs=>exact absurd ⟨vs,rfl⟩ hv
       |_=>rfl
      rw[em]at wt'
      cases hl:yK s2 v with
      |none=>rw[hl]at wt';exact wt'.elim
      |some vs=>
       rw[hl]at wt'
       -- the receiver is a list already ahead of the argument
       have ty:L2.tyV X.K "list" x H1:=by
        cases r1 with
        |lst n e q=>exact .inl ⟨rfl,_,.of e⟩
        |ref e k=>
         obtain⟨xs,q⟩:=mF k
         exact .inl ⟨rfl,_,.of q⟩
        |_=>cases hl
       refine⟨ty,ρ1,hr1,er.mono x1,fun ρ2 y H2 x2 hr2 r2=>?_⟩
       obtain⟨p,xs,rfl,hq,q⟩:=xJ hr2 (r1.mono x2) hl
       have wt2:=wt'.mono x2 hr2
       simp only at wt2
       split at wt2
       . rename_i hf
         rw[Ab]at hf
         refine⟨_,_,y,rfl,rfl,L2.SqL.of hq,r2.flat hf.1,q.flat hf.2,?_⟩
         rw[RDs.countP r2 hf.1 q hf.2]
         exact zI hr2 (.int _) wt2
       . exact wt2.elim
   |append=>cases hm
   |extend=>cases hm
   |pop=>
    cases v with
    |ref i=>
     have hs1:AR [b] X.env=(false,eval b X.env)::AR [] X.env:=L2.zx (zY hp)
     have rule:L2.PE X (.Call (.Attribute a "pop" apos) [b] [] cpos) (L2.tBM X.K "list" L2.eA _ (L2.rV _ L2.lE)):=L2.ai Gx PySem.F.slot_list_pop PySem.F.type_list_pop L2.fH h1 (L2.pac h2' L2.vK (zY hp)) (wc hs) (by rw[hs1];rfl) hline hs1 rfl
     refine zc rule fun σ H Q ⟨ρ,hr,er,wt⟩=>⟨ρ,hr,er,fun ρ1 x H1 x1 hr1 r1=>?_⟩
     cases r1 with
     |ref e k=>
      obtain⟨xs,q⟩:=mF k
      refine⟨.inl ⟨rfl,_,.of q⟩,ρ1,hr1,er.mono x1,fun ρ2 y H2 x2 hr2 r2=>?_⟩
      have wt':yS X.K X.mg (RD X.K X.mg) ρ2 H2 (yb .pop (.ref i) [w] s2) Q:=wt.mono (x1.trans hr1 x2) hr2
      cases w with
      |int j=>
       simp only[yb]at wt'
       split at wt'
       . rename_i vs hv
         split at wt'
         . rename_i hz
           split at wt'
           . rename_i n hn
             split at wt'
             . rename_i u hu
               cases r2
               obtain⟨b',ys,e1,e2,q2⟩:=hr2.obj i _ hv
               have e':=x2.get e
               rw[e']at e1;cases e1
               obtain⟨u',hu',ru⟩:=q2.get hu
               refine⟨_,ys,j,n,u',rfl,rfl,e2,hz.1,hz.2,by rw[←q2.length];exact hn,hu',?_⟩
               exact wt' _ _ _ (Ext.write hr2 e' e2 _) (hr2.write e' e2 (q2.erase n)) (ru.mono (Ext.write hr2 e' e2 _))
             . exact wt'.elim
           . exact wt'.elim
         . exact wt'.elim
       . exact wt'.elim
      |_=>exact wt'.elim
    |_=>exact zH (zE rfl)
   |index=>
    cases v with
    |tup vs=>
     have hs1:AR [b] X.env=(false,eval b X.env)::AR [] X.env:=L2.zx (zY hp)
     refine zc (L2.iA h1 h2' (wc hs) (zY hp) hline) fun σ H Q ⟨ρ,hr,er,wt⟩=>⟨ρ,hr,er,fun ρ1 x H1 x1 hr1 r1=>?_⟩
     cases r1 with
     |tup n e q=>
      refine⟨⟨_,_,rfl,e⟩,ρ1,hr1,er.mono x1,fun ρ2 y H2 x2 hr2 r2=>?_⟩
      have wt':yS X.K X.mg (RD X.K X.mg) ρ2 H2 (yb .index (.tup vs) [w] s2) Q:=wt.mono (x1.trans hr1 x2) hr2
      simp only[yb]at wt'
      split at wt'
      . rename_i hf
        rw[Ab]at hf
        have q2:=q.mono x2
        split at wt'
        . rename_i j hj
          exact⟨_,_,y,j,rfl,rfl,L2.SqT.of (x2.keep _ _ e n.1),r2.flat hf.1,q2.flat hf.2,by rw[RDs.findIdx r2 hf.1 q2 hf.2];exact hj,zI hr2 (.int _) wt'⟩
        . exact wt'.elim
      . exact wt'.elim
    |_=>exact zH (zE rfl)
   |join=>cases hm
  |exc _ _ _=>exact zH (zE rfl)
  |stuck=>exact zH (zE rfl)
 |exc _ _ _=>exact zH (zE rfl)
 |stuck=>exact zH (zE rfl)
end
noncomputable def spN(T:Tbl)(K:KF)(mg:Str→Option Value)(n:Nat)(f:Str)(ver:Nat):L2.Sp:=fun vs H Q _=>∃ρ s args,HR K mg ρ s H∧RDs K mg ρ H args vs∧yS K mg (RD K mg) ρ H (zF T n f ver args s) Q
structure Callee(T:Tbl)(n:Nat)(X:L2.Cx)(f:Str)(ver:Nat)(F:Fn):Prop where
 ex:∃fa fd,X.mg f=some (.ref fa)∧Dt X.K (.ref fa)=true∧L2.Binds X.K fd F.ps []∧L2.tj X.prog X.w X.K X.mg X.base L2.CX0 n fa fd F.ps (spN T X.K X.mg n f ver)
section
variable {X:L2.Cx}{env:Env}{s:Sto}{T:Tbl}{n ver:Nat}{f:Str}{F:Fn}
theorem gg{p pos:Pos}(C:Callee T n X f ver F)(hr0:L2.yp n X.A)(hg:L2.Gl X f)(hd:(f == ("__debug__":Str))=false):L2.PE X (.Call (.Name f p) [] [] pos) (tV X.K X.mg env s (zF T n f ver [] s)):=by
 obtain⟨fa,fd,hm,hk,hb,hf⟩:=C.ex
 exact zc (L2.fX hf hr0 hg hm hk hb .nil L2.ah hd) fun σ H Q ⟨ρ,hr,er,wt⟩=>⟨ρ,s,[],hr,.nil,wt⟩
theorem cK{es:List Expr}{o:Out (List Val)}{p pos:Pos}(C:Callee T n X f ver F)(hr0:L2.yp n X.A)(hg:L2.Gl X f)(hd:(f == ("__debug__":Str))=false)(hp:yV es=true)(hne:es≠[])(h:L2.PA X es (tVs X.K X.mg env s o)) :
 L2.PE X (.Call (.Name f p) es [] pos) (tV X.K X.mg env s (o.bind (zF T n f ver))):=by
 obtain⟨fa,fd,hm,hk,hb,hf⟩:=C.ex
 cases o with
 |ok vs s1=>
  cases es with
  |nil=>exact absurd rfl hne
  |cons e es=>
   rw[yV,Ab]at hp
   refine zc (L2.bO hf hr0 hg hm hk hb .nil L2.ah h hd (L2.zx (zY hp.1)) (v9 hp.2)) fun σ H Q ⟨ρ,hr,er,wt⟩=>⟨ρ,hr,er,fun ρ1 xs H1 x1 hr1 r1=>?_⟩
   show spN T X.K X.mg n f ver (xs++[]) H1 Q L2.E0
   rw[AZ]
   exact⟨ρ1,s1,vs,hr1,r1,wt.mono x1 hr1⟩
 |exc _ _ _=>exact zH (zE rfl)
 |stuck=>exact zH (zE rfl)
end
end M
end
section
namespace M
open PySem
theorem xZ:∀{c:Bool} {p:Prop},(c=true→p)→cond c p True
 |true,_,h=>h rfl
 |false,_,_=>Bd
theorem sR{c:Bool}{p:Prop}(h:cond c p True)(e:c=true):p:=by subst e;exact h
mutual
theorem Xu:∀(a b:Val),cond (a.beq b) (a=b) True
 |.none,b=>by cases b<;>first|exact(rfl:Val.none=Val.none)|exact Bd
 |.bool x,b=>by cases b with|bool y=>exact xZ fun h=>congrArg Val.bool (Cz (show (x == y)=true from h))|_=>exact Bd
 |.int x,b=>by cases b with|int y=>exact xZ fun h=>congrArg Val.int (Cz (show (x == y)=true from h))|_=>exact Bd
 |.str x,b=>by cases b with|str y=>exact xZ fun h=>congrArg Val.str (Cz (show (x == y)=true from h))|_=>exact Bd
 |.tup x,b=>by cases b with|tup y=>exact xZ fun h=>congrArg Val.tup (sR (pD x y) h)|_=>exact Bd
 |.lst x,b=>by cases b with|lst y=>exact xZ fun h=>congrArg Val.lst (sR (pD x y) h)|_=>exact Bd
 |.dct0,b=>by cases b<;>first|exact(rfl:Val.dct0=Val.dct0)|exact Bd
 |.ctup x,b=>by cases b with|ctup y=>exact xZ fun h=>congrArg Val.ctup (Cz (show (x == y)=true from h))|_=>exact Bd
 |.scr x,b=>by cases b with|scr y=>exact xZ fun h=>congrArg Val.scr (Cz (show (x == y)=true from h))|_=>exact Bd
 |.ref x,b=>by cases b with|ref y=>exact xZ fun h=>congrArg Val.ref (Cz (show (x == y)=true from h))|_=>exact Bd
 |.fn x,b=>by cases b with|fn y=>exact xZ fun h=>congrArg Val.fn (Cz (show (x == y)=true from h))|_=>exact Bd
 |.ty x,b=>by cases b with|ty y=>exact xZ fun h=>congrArg Val.ty (Cz (show (x == y)=true from h))|_=>exact Bd
 |.dref x,b=>by cases b with|dref y=>exact xZ fun h=>congrArg Val.dref (Cz (show (x == y)=true from h))|_=>exact Bd
theorem pD:∀(a b:List Val),cond (uu a b) (a=b) True
 |[],[]=>(rfl:([]:List Val)=[])
 |[],_::_=>Bd
 |_::_,[]=>Bd
 |x::xs,y::ys=>xZ fun h=>by
  have h:(x.beq y&&uu xs ys)=true:=h
  rw[Ab]at h
  rw[sR (Xu x y) h.1,sR (pD xs ys) h.2]
end
theorem uG{a b:List Val}(h:uu a b=true):a=b:=sR (pD a b) h
mutual
theorem beq_refl:∀a:Val,a.beq a=true
 |.none=>rfl
 |.bool x=>(beq_self_eq_true x:(x == x)=true)
 |.int x=>(beq_self_eq_true x:(x == x)=true)
 |.str x=>(beq_self_eq_true x:(x == x)=true)
 |.tup x=>vP x
 |.lst x=>vP x
 |.dct0=>rfl
 |.ctup x=>(beq_self_eq_true x:(x == x)=true)
 |.scr x=>(beq_self_eq_true x:(x == x)=true)
 |.ref x=>(beq_self_eq_true x:(x == x)=true)
 |.fn x=>(beq_self_eq_true x:(x == x)=true)
 |.ty x=>(beq_self_eq_true x:(x == x)=true)
 |.dref x=>(beq_self_eq_true x:(x == x)=true)
theorem vP:∀a:List Val,uu a a=true
 |[]=>rfl
 |x::xs=>by rw[uu,beq_refl x,vP xs];rfl
end
section
variable {K:KF}{mg:Str→Option Value}
theorem Mv.refl{ρ:Own}{H:L2.Hp}:Mv ρ H ρ H:=⟨fun a o e n=>⟨e,n⟩,fun i a e=>e,fun _ _=>rfl⟩
theorem Mv.trans{ρ ρ1 ρ2:Own}{H H1 H2:L2.Hp}(x:Mv ρ H ρ1 H1)(y:Mv ρ1 H1 ρ2 H2):Mv ρ H ρ2 H2:=
 ⟨fun a o e n=>y.keep a o (x.keep a o e n).1 (x.keep a o e n).2,fun i a e=>y.get i a (x.get i a e),fun a ha=>by
  obtain⟨i,hi⟩:=D9 ha
  exact(y.kd a (AM (x.get i a hi))).trans (x.kd a ha)⟩
structure Walk(K:KF)(mg:Str→Option Value)(ρ:Own)(H:L2.Hp)(r:Src)(J:L2.It):Prop where
 len:r.xs.length≤zQ
 go:∀(ρ2:Own) (H2:L2.Hp) (s2:Sto) (i:Nat) (v:Val),Mv ρ H ρ2 H2→HR K mg ρ2 s2 H2→r.ok s2=true→r.xs[i]?=some v→J.go i H2∧∀x H3,J.yld i H2 x H3→(H3=H2∨∃p o,H2 p=none∧H3=L2.upd H2 p o)∧RD K mg ρ2 H3 v x
 stop:∀(ρ2:Own) (H2:L2.Hp) (s2:Sto) (i:Nat),Mv ρ H ρ2 H2→HR K mg ρ2 s2 H2→r.ok s2=true→i=r.xs.length→J.stop i H2
theorem Walk.mv{ρ ρ1:Own}{H H1:L2.Hp}{r:Src}{J:L2.It}(w:Walk K mg ρ H r J)(x:Mv ρ H ρ1 H1):Walk K mg ρ1 H1 r J:=
 ⟨w.len,fun ρ2 H2 s2 i v y=>w.go ρ2 H2 s2 i v (x.trans y),fun ρ2 H2 s2 i y=>w.stop ρ2 H2 s2 i (x.trans y)⟩
def ij(H:L2.Hp):Prop:=∀a xs,(H a=some (.tup xs)∨H a=some (.lst xs))→xs.length≤Az
theorem rK{X:L2.Cx}{tg it:Expr}{wi:L2.TI}(h:L2.PI X tg it wi):L2.PI X tg it (fun σ H R=>wi σ H fun J H1=>ij H1→R J H1):=fun pins s σ H R I q=>
 L2.thn (h pins s σ H _ I q) fun v s1 h1=>L2.thn h1 fun itv s2 ⟨i,fp,tn,J,H',e,I',T,t0,f,r⟩=>⟨i,fp,tn,J,H',e,I',T,t0,f,r fun a xs hx=>by
  rcases hx with hx|hx
  . obtain⟨z,_⟩:=(show L2.ze X.prog X.w H' s2.heap a (.tup xs) from I'.hok a _ hx);exact z
  . obtain⟨z,_⟩:=(show L2.ze X.prog X.w H' s2.heap a (.lst xs) from I'.hok a _ hx);exact z⟩
theorem dC{ρ:Own}{H:L2.Hp}{a:Addr}{vs:List Val}{xs:List L2.V}(hz:vs.length≤zQ)(n:ρ.no a)(e:H a=some (.tup xs))(q:RDs K mg ρ H vs xs):Walk K mg ρ H ⟨vs,none⟩ (L2.Itt K a) where
 len:=hz
 go:=fun ρ2 H2 s2 i v x hr _ hv=>by
  have e2:=(x.keep a _ e n).1
  have q2:=RDs.mv x q
  obtain⟨y,h1,h2⟩:=q2.get hv
  refine⟨⟨xs,y,.of e2,h1⟩,fun z H3 ⟨e3,h3⟩=>⟨.inl e3,?_⟩⟩
  subst e3
  have:=h3 xs (.of e2)
  rw[h1]at this;cases this
  exact h2
 stop:=fun ρ2 H2 s2 i x hr _ hi=>⟨xs,.of (x.keep a _ e n).1,by rw[←q.length];exact BV hi.symm⟩
theorem dA{ρ:Own}{H:L2.Hp}{a:Addr}{vs:List Val}{xs:List L2.V}(hz:vs.length≤zQ)(n:ρ.no a)(e:H a=some (.lst xs))(q:RDs K mg ρ H vs xs):Walk K mg ρ H ⟨vs,none⟩ (L2.Itl K a) where
 len:=hz
 go:=fun ρ2 H2 s2 i v x hr _ hv=>by
  have e2:=(x.keep a _ e n).1
  have q2:=RDs.mv x q
  obtain⟨y,h1,h2⟩:=q2.get hv
  refine⟨⟨xs,y,.of e2,h1⟩,fun z H3 ⟨e3,h3⟩=>⟨.inl e3,?_⟩⟩
  subst e3
  have:=h3 xs (.of e2)
  rw[h1]at this;cases this
  exact h2
 stop:=fun ρ2 H2 s2 i x hr _ hi=>⟨xs,.of (x.keep a _ e n).1,by rw[←q.length];exact BV hi.symm⟩
theorem iW{ρ:Own}{H:L2.Hp}{a:Addr}{ns:List Int}(k:KT K a (ns.map L2.V.int)):Walk K mg ρ H ⟨ns.map .int,none⟩ (L2.Itt K a) where
 len:=by
  obtain⟨o,its,n,_,_,_,h4,h5⟩:=k
  have:=h5.length
  simp only[Ag,AD]at this
  show (ns.map Val.int).length≤_
  rw[Ag,yN,this];exact h4
 go:=fun ρ2 H2 s2 i v x hr _ hv=>by
  obtain⟨y,h1,h2⟩:=(RDs.ints (K:=K) (mg:=mg) (ρ:=ρ2) (H:=H2) ns).get hv
  refine⟨⟨_,y,k.sqt,h1⟩,fun z H3 ⟨e3,h3⟩=>⟨.inl e3,?_⟩⟩
  subst e3
  have:=h3 _ k.sqt
  rw[h1]at this;cases this
  exact h2
 stop:=fun ρ2 H2 s2 i x hr _ hi=>⟨_,k.sqt,by rw[Ag];rw[hi];simp⟩
theorem dB{ρ:Own}{H:L2.Hp}{i0:Nat}{a:Addr}{vs:List Val}(hz:vs.length≤zQ)(e:ρ.o[i0]?=some a):Walk K mg ρ H ⟨vs,some i0⟩ (L2.Itl K a) where
 len:=hz
 go:=fun ρ2 H2 s2 i v x hr ho hv=>by
  simp only[Src.ok]at ho
  split at ho
  . rename_i ws hw
    cases uG ho
    obtain⟨b,xs,e1,e2,q⟩:=hr.obj i0 _ hw
    rw[x.get _ _ e]at e1;cases e1
    obtain⟨y,h1,h2⟩:=q.get hv
    refine⟨⟨xs,y,.of e2,h1⟩,fun z H3 ⟨e3,h3⟩=>⟨.inl e3,?_⟩⟩
    subst e3
    have:=h3 xs (.of e2)
    rw[h1]at this;cases this
    exact h2
  . cases ho
 stop:=fun ρ2 H2 s2 i x hr ho hi=>by
  simp only[Src.ok]at ho
  split at ho
  . rename_i ws hw
    cases uG ho
    obtain⟨b,xs,e1,e2,q⟩:=hr.obj i0 _ hw
    rw[x.get _ _ e]at e1;cases e1
    exact⟨xs,.of e2,by rw[←q.length];exact BV hi.symm⟩
  . cases ho
theorem eF{lo:Int}{n i:Nat}:(z9 lo n)[i]?=if i<n then some (.int (lo+i)) else none:=by
 unfold z9
 rw[Ay]
 by_cases h:i<n
 . rw[if_pos h,Ei h];rfl
 . rw[if_neg h,BW (by rw[AV];omega)];rfl
theorem uX{lo:Int}{n:Nat}:(z9 lo n).length=n:=by unfold z9;rw[Ag,AV]
theorem nr{ρ:Own}{H:L2.Hp}{lo:Int}{n:Nat}(hz:n≤zQ):Walk K mg ρ H ⟨z9 lo n,none⟩ (L2.Itr lo n) where
 len:=by show (z9 lo n).length≤_;rw[uX];exact hz
 go:=fun ρ2 H2 s2 i v x hr _ hv=>by
  have hv':(z9 lo n)[i]?=some v:=hv
  rw[eF]at hv'
  split at hv'
  . rename_i hi
    cases hv'
    refine⟨hi,fun z H3 ⟨e3,h3⟩=>⟨.inl e3,?_⟩⟩
    subst h3
    exact .int _
  . cases hv'
 stop:=fun ρ2 H2 s2 i x hr _ hi=>by
  have:i=(z9 lo n).length:=hi
  rw[uX]at this;exact BV this.symm
noncomputable def tI(env:Env)(s:Sto)(o:Out Src):L2.TI:=fun σ H R=>∃ρ,HR K mg ρ s H∧ER K mg ρ H env σ∧(match o with
 |.ok r s'=>∀ρ' H' J,Ext ρ H ρ' H'→HR K mg ρ' s' H'→Walk K mg ρ' H' r J→R J H'
 |_=>False)
end
section
variable {X:L2.Cx}{env:Env}{s:Sto}{a b tg:Expr}
theorem tG{it:Expr}{t t':L2.TI}(h:L2.PI X tg it t)(i:∀σ H R,t' σ H R→t σ H R):L2.PI X tg it t':=fun pins s σ H R I q=>h pins s σ H R I (i σ H R q)
theorem yc{it:Expr}{o:Out Src}(h:∀v s',o≠.ok v s'):L2.PI X tg it (tI (K:=X.K) (mg:=X.mg) env s o):=fun pins sh σ H R I q=>by
 obtain⟨ρ,_,_,w⟩:=q
 cases o with
 |ok v s'=>exact(h v s' rfl).elim
 |exc _ _ _=>exact w.elim
 |stuck=>exact w.elim
theorem ij.of{K:KF}{mg:Str→Option Value}{ρ:Own}{H:L2.Hp}(z:ij H){a:Addr}{vs:List Val}{xs:List L2.V}(q:RDs K mg ρ H vs xs)(h:H a=some (.tup xs)∨H a=some (.lst xs)):vs.length≤zQ:=by
 rw[q.length,yN];exact z a xs h
theorem Z9{o:Out Val}(h:L2.PE X a (tV X.K X.mg env s o)):L2.PI X tg a (tI (K:=X.K) (mg:=X.mg) env s (o.bind fun v s1=>match srcOf s1 v with|some r=>.ok r s1|Ad=>.stuck)):=by
 cases o with
 |ok v s1=>
  show L2.PI X tg a (tI (K:=X.K) (mg:=X.mg) env s (match srcOf s1 v with|some r=>.ok r s1|Ad=>.stuck))
  cases v with
  |tup vs=>
   refine tG (rK (L2.fh h)) fun σ H R ⟨ρ,hr,er,w⟩=>⟨ρ,hr,er,fun ρ1 x H1 x1 hr1 r1=>?_⟩
   cases r1 with
   |tup n e q=>exact⟨_,rfl,⟨_,.of e⟩,fun z=>w ρ1 H1 _ x1 hr1 (dC (z.of q (.inl e)) n e q)⟩
  |lst vs=>
   refine tG (rK (L2.kT h)) fun σ H R ⟨ρ,hr,er,w⟩=>⟨ρ,hr,er,fun ρ1 x H1 x1 hr1 r1=>?_⟩
   cases r1 with
   |lst n e q=>exact⟨_,rfl,⟨_,.of e⟩,fun z=>w ρ1 H1 _ x1 hr1 (dA (z.of q (.inr e)) n e q)⟩
  |ctup ns=>
   refine tG (L2.fh h) fun σ H R ⟨ρ,hr,er,w⟩=>⟨ρ,hr,er,fun ρ1 x H1 x1 hr1 r1=>?_⟩
   cases r1 with
   |ctup k=>exact⟨_,rfl,⟨_,k.sqt⟩,w ρ1 H1 _ x1 hr1 (iW k)⟩
  |ref i=>
   simp only[srcOf]
   cases hs:s1[i]? with
   |none=>exact yc (zE rfl)
   |some cl=>
    cases cl with
    |lst vs=>
     refine tG (rK (L2.kT h)) fun σ H R ⟨ρ,hr,er,w⟩=>⟨ρ,hr,er,fun ρ1 x H1 x1 hr1 r1=>?_⟩
     cases r1 with
     |ref e=>
      obtain⟨b',xs,e1,e2,q⟩:=hr1.obj i _ hs
      rw[e]at e1;cases e1
      exact⟨_,rfl,⟨_,.of e2⟩,fun z=>w ρ1 H1 _ x1 hr1 (dB (z.of q (.inr e2)) e)⟩
    |_=>exact yc (zE rfl)
  |_=>exact yc (zE rfl)
 |exc _ _ _=>exact yc (zE rfl)
 |stuck=>exact yc (zE rfl)
theorem jW{o:Out Val}{p pos:Pos}(hp:plain a=true)(hg:L2.Gl X "range")(hm:X.mg "range"=none)(h:L2.PE X a (tV X.K X.mg env s o)) :
 L2.PI X tg (.Call (.Name "range" p) [a] [] pos) (tI (K:=X.K) (mg:=X.mg) env s (o.bind fun x s1=>match x with
  |.int j=>if -(2 ^ 62)≤j∧j≤zQ then .ok ⟨z9 0 j.toNat,Ad⟩ s1 else .stuck
  |_=>.stuck)):=by
 cases o with
 |ok v s1=>
  have st:AR [a] X.env=[(false,eval a X.env)]:=L2.zx (zY hp)
  refine tG (L2.iC hg hm (L2.pac h L2.vK (zY hp)) st) fun σ H R ⟨ρ,hr,er,w⟩=>⟨ρ,hr,er,fun ρ1 x H1 x1 hr1 r1=>?_⟩
  cases r1 with
  |int j=>
   simp only[zL]at w
   by_cases hz:-(2 ^ 62)≤j∧j≤zQ
   . rw[if_pos hz]at w
     have hl:(zQ:Int)<2 ^ 62:=by decide
     exact⟨j,rfl,hz.1,by omega,w ρ1 H1 _ x1 hr1 (nr (by omega))⟩
   . rw[if_neg hz]at w;exact w.elim
  |_=>exact w.elim
 |exc _ _ _=>exact yc (zE rfl)
 |stuck=>exact yc (zE rfl)
theorem jX{o:Out Val}{f2:Sto→Out Val}{p pos:Pos}(hp:plain a=true)(hp2:plain b=true)(hg:L2.Gl X "range")(hm:X.mg "range"=none)(h:L2.PE X a (tV X.K X.mg env s o))(h2:∀s1,L2.PE X b (tV X.K X.mg env s1 (f2 s1))) :
 L2.PI X tg (.Call (.Name "range" p) [a,b] [] pos) (tI (K:=X.K) (mg:=X.mg) env s (o.bind fun x s1=>(f2 s1).bind fun y s2=>match x,y with
  |.int i,.int j=>if -(2 ^ 62)≤i∧i<2 ^ 62∧-(2 ^ 62)≤j∧j<2 ^ 62∧j-i≤zQ then .ok ⟨z9 i (j-i).toNat,Ad⟩ s2 else .stuck
  |_,_=>.stuck)):=by
 cases o with
 |ok v s1=>
  have h2':=h2 s1
  simp only[zL]
  cases hb:f2 s1 with
  |ok w s2=>
   rw[hb]at h2'
   have st2:AR [b] X.env=[(false,eval b X.env)]:=L2.zx (zY hp2)
   have st:AR [a,b] X.env=[(false,eval a X.env),(false,eval b X.env)]:=by rw[L2.zx (zY hp),st2]
   refine tG (L2.iD hg hm (L2.pac h (L2.pac h2' L2.vK (zY hp2)) (zY hp)) st st2) fun σ H R ⟨ρ,hr,er,wt⟩=>⟨ρ,hr,er,fun ρ1 x H1 x1 hr1 r1=>⟨ρ1,hr1,er.mono x1,fun ρ2 y H2 x2 hr2 r2=>?_⟩⟩
   simp only[zL]at wt
   cases r1 with
   |int i=>
    cases r2 with
    |int j=>
     simp only at wt
     by_cases hz:-(2 ^ 62)≤i∧i<2 ^ 62∧-(2 ^ 62)≤j∧j<2 ^ 62∧j-i≤zQ
     . rw[if_pos hz]at wt
       exact⟨i,j,rfl,⟨hz.1,hz.2.1,hz.2.2.1,hz.2.2.2.1⟩,wt ρ2 H2 _ (x1.trans hr1 x2) hr2 (nr (by omega))⟩
     . rw[if_neg hz]at wt;exact wt.elim
    |_=>exact wt.elim
   |_=>exact wt.elim
  |exc _ _ _=>exact yc (zE rfl)
  |stuck=>exact yc (zE rfl)
 |exc _ _ _=>exact yc (zE rfl)
 |stuck=>exact yc (zE rfl)
end
end M
end
section
namespace M
open PySem
def uo(K:KF)(mg:Str→Option Value)(t:Tgt)(g:L2.TG):Prop:=∀(ρ:Own) (s:Sto) (H:L2.Hp) (v:Val) (x:L2.V) (env env':Env) (σ:L2.St) (Q:L2.St→L2.Hp→Prop),HR K mg ρ s H→RD K mg ρ H v x→ER K mg ρ H env σ→yW t v env=some env' →
 (∀σ',ER K mg ρ H env' σ'→Q σ' H)→g x σ H Q
theorem ud{K:KF}{mg:Str→Option Value}{i:Nat}:uo K mg (.nm i) (L2.vD i):=fun ρ s H v x env env' σ Q hr r er e q=>by
 cases e
 exact q _ (er.set i r)
noncomputable def pQ:List Nat→L2.TGs
 |[]=>L2.X3
 |i::is=>L2.aY (L2.vD i) (pQ is)
theorem qg{K:KF}{mg:Str→Option Value}{ρ:Own}{H:L2.Hp}{Q:L2.St→L2.Hp→Prop}:∀{is:List Nat} {vs:List Val} {xs:List L2.V} {env:Env} {σ:L2.St},RDs K mg ρ H vs xs→ER K mg ρ H env σ→vs.length=is.length →
 (∀σ',ER K mg ρ H ((is.zip vs).foldl (fun e p=>e.set p.1 (some p.2)) env) σ'→Q σ' H)→pQ is xs σ H Q
 |[],[],_,env,σ,.nil,er,_,q=>⟨rfl,q σ er⟩
 |[],_::_,_,_,_,_,_,h,_=>by cases h
 |_::_,[],_,_,_,_,_,h,_=>by cases h
 |i::is,v::vs,x::xs,env,σ,.cons r rs,er,h,q=>⟨x,xs,rfl,qg rs (er.set i r) (by simpa using h) q⟩
theorem wD{K:KF}{mg:Str→Option Value}{is:List Nat}:uo K mg (.nms is) (L2.X6 K is.length (pQ is)):=fun ρ s H v x env env' σ Q hr r er e q=>by
 simp only[yW]at e
 split at e
 . split at e
   . rename_i hl
     cases e
     cases r with
     |tup n e q2=>exact⟨_,_,rfl,.of e,by rw[←q2.length];exact hl,qg q2 er hl q⟩
   . cases e
 . cases e
noncomputable def z0(sc:Scope)(N:List Str):List Nat→List Expr→Bool
 |[],[]=>true
 |i::is,.Name x _::es=>decide (N[i]?=some x)&&(decide (sc.names.lookup x=some .local)||decide (sc.names.lookup x=some .cell))&&z0 sc N is es
 |_,_=>false
noncomputable def ckT(sc:Scope)(N:List Str):Tgt→Expr→Bool
 |.nm i,.Name x _=>decide (N[i]?=some x)&&(decide (sc.names.lookup x=some .local)||decide (sc.names.lookup x=some .cell))
 |.nms is,.Tuple es _ _=>z0 sc N is es&&decide (es≠[])
 |_,_=>false
section
variable {X:L2.Cx}
structure Scp(sc:Scope)(N:List Str)(X:L2.Cx):Prop where
 hN:X.N=N
 nd:N.Nodup
 vis:∀x,sc.names.lookup x=some .local∨sc.names.lookup x=some .cell∨sc.names.lookup x=some .free→L2.Vis X.env.scope x
 loc:∀x,sc.names.lookup x=some .local∨sc.names.lookup x=some .cell→L2.Loc X.env.scope x∧(X.fn x=true∨X.env.scope.names.lookup x=some .local)
 gl:∀x,sc.names.lookup x=some .globalImplicit→L2.Gl X x
 cf:∀x,sc.names.lookup x=some .cell∨sc.names.lookup x=some .free→X.env.kindOf x=some .cell∨X.env.kindOf x=some .free
theorem qh{sc:Scope}{N:List Str}(S:Scp sc N X){i:Nat}{x:Str}{p:Pos}(h1:N[i]?=some x)(h2:sc.names.lookup x=some .local∨sc.names.lookup x=some .cell):L2.PG X (.Name x p) (L2.vD i):=by
 obtain⟨a,b⟩:=S.loc x h2
 exact L2.bU (by rw[S.hN];exact S.nd) (by rw[S.hN];exact h1) a b
theorem y1{sc:Scope}{N:List Str}(S:Scp sc N X):∀{is:List Nat} {es:List Expr},z0 sc N is es=true→L2.PGs X es (pQ is)∧(Dm es X.env).length=is.length∧(Dm es X.env).findIdx? (·.1)=none
 |[],[],_=>⟨L2.bV,rfl,rfl⟩
 |[],_::_,h=>by cases h
 |_::_,[],h=>by cases h
 |i::is,e::es,h=>by
  cases e with
  |Name x p=>
   simp only[z0,Ab,A5,decide_eq_true_eq]at h
   obtain⟨a,b,c⟩:=y1 S h.2
   refine⟨L2.fg (qh S h.1.1 h.1.2) a,?_,?_⟩
   . show (Dm es X.env).length+1=is.length+1
     rw[b]
   . show List.findIdx? (·.1) ((false,assign (.Name x p) X.env)::Dm es X.env)=none
     rw[FO]
     simp only[AU,if_false]
     rw[c];rfl
  |_=>cases h
theorem W0{sc:Scope}{N:List Str}(S:Scp sc N X)(hc:X.calm=true){t:Tgt}{e:Expr}(h:ckT sc N t e=true):∃g,L2.PG X e g∧uo X.K X.mg t g:=by
 cases t with
 |nm i=>
  cases e with
  |Name x p=>
   simp only[ckT,Ab,A5,decide_eq_true_eq]at h
   exact⟨_,qh S h.1 h.2,ud⟩
  |_=>cases h
 |nms is=>
  cases e with
  |Tuple es k p=>
   simp only[ckT,Ab,decide_eq_true_eq]at h
   obtain⟨a,b,c⟩:=y1 S h.1
   exact⟨_,L2.v8 hc a b c,wD⟩
  |_=>cases h
end
structure Lp(acc:Addr)(ρ:Own)(H:L2.Hp)(ρ':Own)(H':L2.Hp):Prop where
 pre:∃new:List Addr,ρ'.o=ρ.o++new∧∀a∈new,H a=none
 hid:ρ'.h=acc::ρ.h
 keep:∀(a:Addr) (o:L2.HO),H a=some o→a ∉ ρ.o→H' a=some o
 kd:∀a∈ρ.o,hk (H' a)=hk (H a)
section
variable {K:KF}{mg:Str→Option Value}{ρ ρ1 ρ2:Own}{H H1 H2:L2.Hp}{s s1:Sto}{acc:Addr}
noncomputable def Own.hide(ρ:Own)(acc:Addr):Own:=⟨ρ.o,acc::ρ.h⟩
theorem pS(hr:HR K mg ρ s H)(hn:H acc=none)(o:L2.HO):Mv ρ H (ρ.hide acc) (L2.upd H acc o):=
 ⟨fun a u e n=>⟨by rw[L2.zO (L2.zU e hn)];exact e,n.1,fun hm=>by
  rcases AF.mp hm with z|z
  . exact L2.zU e hn z
  . exact n.2 z⟩,fun i a e=>e,fun a ha=>by rw[L2.zO fun z=>(hr.new hn).1 (by rw[←z];exact ha)]⟩
theorem HR.hide(hr:HR K mg ρ s H)(hn:H acc=none){xs:List L2.V}:HR K mg (ρ.hide acc) s (L2.upd H acc (.lst xs)):=by
 refine⟨hr.len,hr.nd,fun i c e=>?_,fun a ha=>?_⟩
 . obtain⟨a,e1,q⟩:=hr.cel i c e
   obtain⟨o,e2⟩:=q.there
   exact⟨a,e1,q.mv (pS hr hn _) (L2.zO (L2.zU e2 hn))⟩
 . rcases AF.mp ha with z|z
   . subst z;exact⟨⟨xs,L2.zd⟩,(hr.new hn).1⟩
   . obtain⟨⟨ys,e⟩,n⟩:=hr.hid a z
     exact⟨⟨ys,by rw[L2.zO (L2.zU e hn)];exact e⟩,n⟩
theorem Lp.start(hr:HR K mg ρ s H)(hn:H acc=none)(o:L2.HO):Lp acc ρ H (ρ.hide acc) (L2.upd H acc o):=
 ⟨⟨[],by simp[Own.hide],fun a ha=>by cases ha⟩,rfl,fun a u e _=>by rw[L2.zO (L2.zU e hn)];exact e,(pS hr hn o).kd⟩
theorem Lp.step(l:Lp acc ρ H ρ1 H1)(hr:HR K mg ρ1 s1 H1)(x:Ext ρ1 H1 ρ2 H2):Lp acc ρ H ρ2 H2:=by
 obtain⟨new,e1,hn⟩:=l.pre
 obtain⟨new2,e2,hn2⟩:=x.pre
 refine⟨⟨new++new2,by rw[e2,e1,Ar],fun a ha=>?_⟩,x.hid.trans l.hid,fun a o e n=>x.keep a o (l.keep a o e n) ?_,fun a ha=>(x.kd a (by rw[e1];exact BC _ ha)).trans (l.kd a ha)⟩
 . rcases A3.mp ha with ha|ha
   . exact hn a ha
   . cases q:H a with
     |none=>rfl
     |some o=>
      by_cases hm:a∈ρ.o
      . obtain⟨xs,e⟩:=hr.trk (a:=a) (by rw[e1];exact BC _ hm)
        rw[hn2 a ha]at e;cases e
      . have:=l.keep a o q hm
        rw[hn2 a ha]at this;cases this
 . rw[e1]
   intro hm
   rcases A3.mp hm with hm|hm
   . exact n hm
   . rw[hn a hm]at e;cases e
theorem Lp.emit(l:Lp acc ρ H ρ1 H1)(hr:HR K mg ρ1 s1 H1)(hn:H acc=none)(o:L2.HO):Lp acc ρ H ρ1 (L2.upd H1 acc o):=
 ⟨l.pre,l.hid,fun a u e n=>by rw[L2.zO (L2.zU e hn)];exact l.keep a u e n,fun a ha=>by
  obtain⟨new,e1,_⟩:=l.pre
  rw[L2.zO fun z=>(hr.hid acc (by rw[l.hid];exact AY)).2 (by rw[←z,e1];exact BC _ ha)]
  exact l.kd a ha⟩
theorem Lp.here(l:Lp acc ρ H ρ1 H1):acc∈ρ1.h:=by rw[l.hid];exact AY
theorem l0(hr:HR K mg ρ1 s1 H1)(ha:acc∈ρ1.h)(o:L2.HO):Mv ρ1 H1 ρ1 (L2.upd H1 acc o):=
 ⟨fun a u e n=>⟨by rw[L2.zO (fun z=>n.2 (by rw[z];exact ha))];exact e,n⟩,fun i a e=>e,fun a h=>by rw[L2.zO fun z=>(hr.hid acc ha).2 (by rw[←z];exact h)]⟩
theorem HR.emit(hr:HR K mg ρ1 s1 H1)(ha:acc∈ρ1.h){xs:List L2.V}:HR K mg ρ1 s1 (L2.upd H1 acc (.lst xs)):=by
 have hno:=(hr.hid acc ha).2
 refine⟨hr.len,hr.nd,fun i c e=>?_,fun a hm=>?_⟩
 . obtain⟨a,e1,q⟩:=hr.cel i c e
   exact⟨a,e1,q.mv (l0 hr ha _) (L2.zO (fun z=>hno (by rw[←z];exact AM e1)))⟩
 . obtain⟨⟨ys,e⟩,n⟩:=hr.hid a hm
   by_cases z:a=acc
   . subst z;exact⟨⟨xs,L2.zd⟩,n⟩
   . exact⟨⟨ys,by rw[L2.zO z];exact e⟩,n⟩
theorem Lp.done(l:Lp acc ρ H ρ1 H1)(h0:HR K mg ρ s H)(hn:H acc=none)(hr:HR K mg ρ1 s1 H1){vs:List Val}{ys:List L2.V}(e:H1 acc=some (.lst ys))(q:RDs K mg ρ1 H1 vs ys){m:Bool}{Q:L2.VK}(w:yS K mg (RD K mg) ρ H (newList m vs s1) Q):Q (.ref acc) H1:=by
 have ha:=l.here
 have hacc:=(hr.hid acc ha).2
 have hnh:=(h0.new hn).2
 cases m with
 |false=>
  have mv:Mv ρ1 H1 ⟨ρ1.o,ρ.h⟩ H1:=⟨fun a u e n=>⟨e,n.1,fun z=>n.2 (by rw[l.hid];exact AJ _ z)⟩,fun i a e=>e,fun _ _=>rfl⟩
  refine w ⟨ρ1.o,ρ.h⟩ _ H1 ⟨l.pre,rfl,l.keep,l.kd⟩ ⟨hr.len,hr.nd,fun i ws e=>?_,fun a hm=>?_⟩ (.lst ⟨hacc,hnh⟩ e (RDs.mv mv q))
  . obtain⟨a,e1,t⟩:=hr.cel i ws e
    exact⟨a,e1,t.mv mv rfl⟩
  . exact hr.hid a (by rw[l.hid];exact AJ _ hm)
 |true=>
  have mv:Mv ρ1 H1 ⟨ρ1.o++[acc],ρ.h⟩ H1:=by
   refine⟨fun a u e n=>⟨e,fun hm=>?_,fun z=>n.2 (by rw[l.hid];exact AJ _ z)⟩,fun i a e=>?_,fun _ _=>rfl⟩
   . rcases A3.mp hm with hm|hm
     . exact n.1 hm
     . rw[A1.mp hm]at n;exact n.2 ha
   . show (ρ1.o++[acc])[i]?=_
     rw[AQ (Ap.mp e).1];exact e
  have rf:(ρ1.o++[acc])[s1.length]?=some acc:=by rw[←hr.len,AW (Ai _)];simp
  refine w ⟨ρ1.o++[acc],ρ.h⟩ _ H1 ⟨?_,rfl,l.keep,l.kd⟩ ⟨?_,?_,fun i ws q'=>?_,fun a hm=>?_⟩ (.ref rf (by rw[e];rfl))
  . obtain⟨new,e1,hnew⟩:=l.pre
    refine⟨new++[acc],by show ρ1.o++[acc]=_;rw[e1,Ar],fun a hm=>?_⟩
    rcases A3.mp hm with hm|hm
    . exact hnew a hm
    . rw[A1.mp hm];exact hn
  . show (ρ1.o++[acc]).length=(s1++[Cel.lst vs]).length
    rw[Aw,Aw,hr.len];rfl
  . show (ρ1.o++[acc]).Nodup
    rw[F9]
    exact⟨hr.nd,by simp,fun a ha' b hb=>by rw[A1.mp hb];intro z;subst z;exact hacc ha'⟩
  . by_cases hi:i<s1.length
    . rw[AQ hi]at q'
      obtain⟨a,e1,t⟩:=hr.cel i ws q'
      exact⟨a,mv.get i a e1,t.mv mv rfl⟩
    . have hi':i=s1.length:=by
       have:=(Ap.mp q').1
       rw[Aw]at this
       simp at this;omega
      subst hi'
      rw[AW (Ai _)]at q'
      simp at q'
      subst q'
      exact⟨acc,rf,ys,e,RDs.mv mv q⟩
  . obtain⟨x,n⟩:=hr.hid a (by rw[l.hid];exact AJ _ hm)
    refine⟨x,fun z=>?_⟩
    rcases A3.mp z with z|z
    . exact n z
    . rw[A1.mp z]at hm;exact hnh hm
end
end M
end
section
namespace M
open PySem
section
variable {K:KF}{mg:Str→Option Value}
theorem oj{J:L2.It}{g:L2.TG}{tb:L2.TS}{D:L2.Ends}{σ:L2.St}{H:L2.Hp}{n:Nat}(Pv:Nat→L2.St→L2.Hp→Prop)(h0:Pv 0 σ H)(hd:∀σ H,Pv n σ H→J.stop n H∧D.nx σ H)
 (hs:∀i σ H,i<n→Pv i σ H→J.go i H∧∀x H',J.yld i H x H'→g x σ H' fun σ2 H2=>tb {D with nx:=Pv (i+1),ct:=Pv (i+1),bk:=D.nx} σ2 H2):L2.qk J g tb D σ H:=by
 refine⟨fun i m σ H=>m=n-i∧i≤n∧Pv i σ H,⟨n,by simp,Bp _,h0⟩,?_⟩
 rintro i m σ H ⟨rfl,hi,p⟩
 by_cases hlt:i<n
 . obtain⟨a,b⟩:=hs i σ H hlt p
   exact .inr ⟨a,Pv (i+1),fun σ' H' p'=>⟨n-(i+1),by omega,rfl,hlt,p'⟩,b⟩
 . have e:i=n:=by omega
   subst e
   exact .inl (hd σ H p)
structure CS(K:KF)(mg:Str→Option Value)(acc:Addr)(ρ0:Own)(H0:L2.Hp)(a:List Val)(s:Sto)(env:Env)(ρ:Own)(σ:L2.St)(H:L2.Hp):Prop where
 lp:Lp acc ρ0 H0 ρ H
 hr:HR K mg ρ s H
 er:ER K mg ρ H env σ
 ac:∃ys,H acc=some (.lst ys)∧RDs K mg ρ H a ys
def Grows(body:Env→Sto→List Val→Out (List Val × Env)):Prop:=∀e s a p s',body e s a=.ok p s'→a.length≤p.1.length
theorem vH{r:Src}{t:Tgt}{body:Env→Sto→List Val→Out (List Val × Env)}(hb:Grows body):∀{xs:List Val} {env:Env} {s:Sto} {a:List Val} {p:List Val × Env} {s':Sto},yO r t body xs env s a=.ok p s'→a.length≤p.1.length
 |[],env,s,a,p,s',h=>by
  rw[yO]at h
  split at h
  . cases h;exact Ai _
  . cases h
 |x::xs,env,s,a,p,s',h=>by
  rw[yO]at h
  split at h
  . split at h
    . cases h
    . rename_i env' he
      cases hc:body env' s a with
      |ok q s1=>
       rw[hc]at h
       exact AB (hb _ _ _ _ _ hc) (vH hb h)
      |exc _ _ _=>rw[hc]at h;cases h
      |stuck=>rw[hc]at h;cases h
  . cases h
def BodyOk(K:KF)(mg:Str→Option Value)(acc:Addr)(ρ0:Own)(H0:L2.Hp)(body:Env→Sto→List Val→Out (List Val × Env))(tb:L2.TS):Prop:=
 ∀(ρ:Own) (s:Sto) (H:L2.Hp) (env:Env) (σ:L2.St) (a:List Val) (p:List Val × Env) (s':Sto) (D:L2.Ends),CS K mg acc ρ0 H0 a s env ρ σ H→body env s a=.ok p s'→p.1.length≤zQ →
  (∀ρ' H' σ',CS K mg acc ρ0 H0 p.1 s' p.2 ρ' σ' H'→Mv ρ H ρ' H'→D.nx σ' H')→tb D σ H
theorem wU{acc:Addr}{ρ0:Own}{H0:L2.Hp}{r:Src}{J:L2.It}{t:Tgt}{g:L2.TG}{body:Env→Sto→List Val→Out (List Val × Env)}{tb:L2.TS}{D:L2.Ends}{ρ:Own}{s:Sto}{H:L2.Hp}{env:Env}{σ:L2.St}{a:List Val}
 {p:List Val × Env} {sf:Sto} (W:Walk K mg ρ H r J) (TG:uo K mg t g) (hg:Grows body) (hb:BodyOk K mg acc ρ0 H0 body tb)
 (C:CS K mg acc ρ0 H0 a s env ρ σ H) (h:yO r t body r.xs env s a=.ok p sf) (hz:p.1.length≤zQ) (fin:∀ρ' H' σ',CS K mg acc ρ0 H0 p.1 sf p.2 ρ' σ' H'→Mv ρ H ρ' H'→D.nx σ' H'):L2.qk J g tb D σ H:=by
 refine oj (n:=r.xs.length) (fun i σ2 H2=>∃ρ2 s2 env2 a2,CS K mg acc ρ0 H0 a2 s2 env2 ρ2 σ2 H2∧Mv ρ H ρ2 H2∧yO r t body (r.xs.drop i) env2 s2 a2=.ok p sf) ⟨ρ,s,env,a,C,Mv.refl,by rw[CA];exact h⟩ ?_ ?_
 . rintro σ2 H2 ⟨ρ2,s2,env2,a2,C2,mv,h2⟩
   rw[List.drop_length,yO]at h2
   split at h2
   . rename_i ho
     cases h2
     exact⟨W.stop ρ2 H2 _ _ mv C2.hr ho rfl,fin ρ2 H2 σ2 C2 mv⟩
   . cases h2
 . rintro i σ2 H2 hi ⟨ρ2,s2,env2,a2,C2,mv,h2⟩
   rw[Bm hi,yO]at h2
   split at h2
   . rename_i ho
     obtain⟨hgo,hy⟩:=W.go ρ2 H2 s2 i (r.xs[i]) mv C2.hr ho (Aa hi)
     refine⟨hgo,fun x H3 y=>?_⟩
     obtain⟨hH,rx⟩:=hy x H3 y
     split at h2
     . cases h2
     . rename_i env' he
       -- the item is there: perhaps a new thing
       have C3:CS K mg acc ρ0 H0 a2 s2 env2 ρ2 σ2 H3∧Mv ρ2 H2 ρ2 H3:=by
        rcases hH with e|⟨q,o,hq,e⟩
        . subst e;exact⟨C2,Mv.refl⟩
        . subst e
          have X:=Ext.new C2.hr hq o
          refine⟨⟨C2.lp.step C2.hr X,C2.hr.more hq o,C2.er.mono X,?_⟩,X.mv⟩
          obtain⟨ys,e1,e2⟩:=C2.ac
          exact⟨ys,by rw[L2.zO (L2.zU e1 hq)];exact e1,e2.mono X⟩
       refine TG ρ2 s2 H3 _ x env2 env' σ2 _ C3.1.hr rx C3.1.er he fun σ4 er4=>?_
       cases hc:body env' s2 a2 with
       |ok q s5=>
        rw[hc]at h2
        have hlen:q.1.length≤zQ:=AB (vH hg h2) hz
        exact hb ρ2 s2 H3 env' σ4 a2 q s5 _ ⟨C3.1.lp,C3.1.hr,er4,C3.1.ac⟩ hc hlen fun ρ5 H5 σ5 C5 mv5=>⟨ρ5,s5,q.2,q.1,C5,(mv.trans C3.2).trans mv5,h2⟩
       |exc _ _ _=>rw[hc]at h2;cases h2
       |stuck=>rw[hc]at h2;cases h2
   . cases h2
end
section
variable (K:KF)(mg:Str→Option Value)(Φ:Calls)(G:Str→Option Val)
noncomputable def uE(e:Ex):L2.TE:=fun σ H Q=>∃env s,tV K mg env s (evE Φ G env e s) σ H Q
noncomputable def uT(e:Cn):L2.TT:=fun σ H Q=>∃env s,tT K mg env s (evT Φ G env e s) σ H Q
noncomputable def uI(it:Itb):L2.TI:=fun σ H R=>∃env s,tI (K:=K) (mg:=mg) env s (yT Φ G env it s) σ H R
noncomputable def uTs:Cns→List L2.TT
 |.nil=>[]
 |.cons e es=>uT K mg Φ G e::uTs es
end
section
variable {K:KF}{mg:Str→Option Value}{Φ:Calls}{G:Str→Option Val}
theorem bT{X:L2.Cx}{e:Ex}{E:Expr}(h:∀env s,L2.PE X E (tV X.K X.mg env s (evE Φ G env e s))):L2.PE X E (uE X.K X.mg Φ G e):=fun pins s σ H Q I ⟨env,t,q⟩=>h env t pins s σ H Q I q
theorem W7{X:L2.Cx}{e:Cn}{E:Expr}(h:∀env s,L2.PT X E (tT X.K X.mg env s (evT Φ G env e s))):L2.PT X E (uT X.K X.mg Φ G e):=fun pins s σ H Q I ⟨env,t,q⟩=>h env t pins s σ H Q I q
theorem mm{X:L2.Cx}{it:Itb}{tg E:Expr}(h:∀env s,L2.PI X tg E (tI (K:=X.K) (mg:=X.mg) env s (yT Φ G env it s))):L2.PI X tg E (uI X.K X.mg Φ G it):=fun pins s σ H Q I ⟨env,t,q⟩=>h env t pins s σ H Q I q
theorem rX{s2:Sto}{env:Env}{σ:L2.St}{b:Bool}{Q:Bool→L2.Hp→Prop}:∀{es:Cns} {ρ:Own} {s:Sto} {H:L2.Hp},HR K mg ρ s H→ER K mg ρ H env σ→ym Φ G env es s=.ok b s2 →
 (∀ρ' H',Ext ρ H ρ' H'→HR K mg ρ' s2 H'→Q b H')→L2.oH (uTs K mg Φ G es) σ H Q
 |.nil,ρ,s,H,hr,er,h,q=>by
  rw[ym]at h;cases h
  exact q ρ H Ext.refl hr
 |.cons e es,ρ,s,H,hr,er,h,q=>by
  rw[ym]at h
  refine⟨env,s,ρ,hr,er,?_⟩
  cases hc:evT Φ G env e s with
  |ok c s1=>
   rw[hc]at h
   intro ρ1 c' H1 x1 hr1 e1
   cases e1
   cases c with
   |true=>exact L2.r8 (rX hr1 (er.mono x1) h fun ρ' H' x' hr'=>q ρ' H' (x1.trans hr1 x') hr')
   |false=>
    simp only[zL]at h
    cases h
    exact L2.r0 (q ρ1 H1 x1 hr1)
  |exc _ _ _=>rw[hc]at h;cases h
  |stuck=>rw[hc]at h;cases h
noncomputable def vo(Φ:Calls)(G:Str→Option Val)(elt:Ex)(ifs:Cns):Env→Sto→List Val→Out (List Val × Env):=fun e s' acc=>(ym Φ G e ifs s').bind fun b s2=>if b then (evE Φ G e elt s2).bind fun v s3=>.ok (acc++[v],e) s3 else .ok (acc,e) s2
theorem wK{elt:Ex}{ifs:Cns}:Grows (vo Φ G elt ifs):=by
 intro e s a p s' h
 unfold vo at h
 cases hc:ym Φ G e ifs s with
 |ok b s1=>
  rw[hc]at h
  cases b with
  |true=>
   simp only[zL,if_true]at h
   cases hv:evE Φ G e elt s1 with
   |ok v s2=>rw[hv]at h;cases h;simp
   |exc _ _ _=>rw[hv]at h;cases h
   |stuck=>rw[hv]at h;cases h
  |false=>simp only[zL]at h;cases h;exact Ai _
 |exc _ _ _=>rw[hc]at h;cases h
 |stuck=>rw[hc]at h;cases h
theorem rj{acc:Addr}{ρ0:Own}{H0:L2.Hp}(hn:H0 acc=none){elt:Ex}{ifs:Cns}:BodyOk K mg acc ρ0 H0 (vo Φ G elt ifs) (L2.tTB (uTs K mg Φ G ifs) (L2.vn acc (uE K mg Φ G elt))):=by
 intro ρ s H env σ a p s' D C h hz q
 unfold vo at h
 cases hc:ym Φ G env ifs s with
 |ok b s1=>
  rw[hc]at h
  refine rX (ρ:=ρ) (s:=s) C.hr C.er hc fun ρ1 H1 x1 hr1=>?_
  have hacc1:∃ys,H1 acc=some (.lst ys)∧RDs K mg ρ1 H1 a ys:=by
   obtain⟨ys,e1,e2⟩:=C.ac
   exact⟨ys,x1.keep _ _ e1 (C.hr.hid acc C.lp.here).2,e2.mono x1⟩
  cases b with
  |true=>
   simp only[zL,if_true]at h
   refine L2.r8 ⟨env,s1,ρ1,hr1,C.er.mono x1,?_⟩
   cases hv:evE Φ G env elt s1 with
   |ok v s2=>
    rw[hv]at h
    cases h
    intro ρ2 y H2 x2 hr2 r2
    have xx:=x1.trans hr1 x2
    have lp2:=C.lp.step C.hr xx
    obtain⟨ys,e1,e2⟩:=hacc1
    have e3:H2 acc=some (.lst ys):=x2.keep _ _ e1 (hr1.hid acc (C.lp.step C.hr x1).here).2
    have e4:=e2.mono x2
    have hl:ys.length<Az:=by
     have h1:(a++[v]).length≤zQ:=hz
     rw[Aw,e2.length,yN]at h1
     simp at h1;omega
    have mv2:=l0 (H1:=H2) hr2 lp2.here (.lst (ys++[y]))
    refine⟨ys,e3,hl,q ρ2 _ σ ⟨lp2.emit hr2 hn _,hr2.emit lp2.here,⟨C.er.len,fun i v' e'=>?_⟩,⟨_,L2.zd,RDs.mv mv2 (e4.append (.cons r2 .nil))⟩⟩ (xx.mv.trans mv2)⟩
    obtain⟨u,h1,h2⟩:=(C.er.mono xx).at_ i v' e'
    exact⟨u,h1,RD.mv mv2 h2⟩
   |exc _ _ _=>rw[hv]at h;cases h
   |stuck=>rw[hv]at h;cases h
  |false=>
   simp only[zL]at h
   cases h
   exact L2.r0 (q ρ1 H1 σ ⟨C.lp.step C.hr x1,hr1,C.er.mono x1,hacc1⟩ x1.mv)
 |exc _ _ _=>rw[hc]at h;cases h
 |stuck=>rw[hc]at h;cases h
noncomputable def tM(Φ:Calls)(G:Str→Option Val)(elt:Ex)(ifs:Cns)(t2:Tgt)(it2:Itb)(ifs2:Cns):Env→Sto→List Val→Out (List Val × Env):=fun e s' acc=>(ym Φ G e ifs s').bind fun b s2=>if b then (yT Φ G e it2 s2).bind fun r2 s3=>
 yO r2 t2 (vo Φ G elt ifs2) r2.xs e s3 acc
 else .ok (acc,e) s2
theorem ue{elt:Ex}{ifs ifs2:Cns}{t2:Tgt}{it2:Itb}:Grows (tM Φ G elt ifs t2 it2 ifs2):=by
 intro e s a p s' h
 unfold tM at h
 cases hc:ym Φ G e ifs s with
 |ok b s1=>
  rw[hc]at h
  cases b with
  |true=>
   simp only[zL,if_true]at h
   cases hv:yT Φ G e it2 s1 with
   |ok v s2=>rw[hv]at h;exact vH wK h
   |exc _ _ _=>rw[hv]at h;cases h
   |stuck=>rw[hv]at h;cases h
  |false=>simp only[zL]at h;cases h;exact Ai _
 |exc _ _ _=>rw[hc]at h;cases h
 |stuck=>rw[hc]at h;cases h
theorem qu{acc:Addr}{ρ0:Own}{H0:L2.Hp}(hn:H0 acc=none){elt:Ex}{ifs ifs2:Cns}{t2:Tgt}{it2:Itb}{g2:L2.TG}(TG:uo K mg t2 g2) :
 BodyOk K mg acc ρ0 H0 (tM Φ G elt ifs t2 it2 ifs2) (L2.tTB (uTs K mg Φ G ifs) (L2.rW (uI K mg Φ G it2) g2 (uTs K mg Φ G ifs2) (L2.vn acc (uE K mg Φ G elt)))):=by
 intro ρ s H env σ a p s' D C h hz q
 unfold tM at h
 cases hc:ym Φ G env ifs s with
 |ok b s1=>
  rw[hc]at h
  refine rX (ρ:=ρ) (s:=s) C.hr C.er hc fun ρ1 H1 x1 hr1=>?_
  have hacc1:∃ys,H1 acc=some (.lst ys)∧RDs K mg ρ1 H1 a ys:=by
   obtain⟨ys,e1,e2⟩:=C.ac
   exact⟨ys,x1.keep _ _ e1 (C.hr.hid acc C.lp.here).2,e2.mono x1⟩
  have lp1:=C.lp.step C.hr x1
  cases b with
  |true=>
   simp only[zL,if_true]at h
   refine L2.r8 ⟨env,s1,ρ1,hr1,C.er.mono x1,?_⟩
   cases hv:yT Φ G env it2 s1 with
   |ok r2 s2=>
    rw[hv]at h
    intro ρ2 H2 J x2 hr2 W
    have xx:=x1.trans hr1 x2
    obtain⟨ys,e1,e2⟩:=hacc1
    have e3:H2 acc=some (.lst ys):=x2.keep _ _ e1 (hr1.hid acc lp1.here).2
    exact wU W TG wK (rj hn) ⟨lp1.step hr1 x2,hr2,C.er.mono xx,⟨ys,e3,e2.mono x2⟩⟩ h hz fun ρ3 H3 σ3 C3 mv3=>q ρ3 H3 σ3 C3 (xx.mv.trans mv3)
   |exc _ _ _=>rw[hv]at h;cases h
   |stuck=>rw[hv]at h;cases h
  |false=>
   simp only[zL]at h
   cases h
   exact L2.r0 (q ρ1 H1 σ ⟨lp1,hr1,C.er.mono x1,hacc1⟩ x1.mv)
 |exc _ _ _=>rw[hc]at h;cases h
 |stuck=>rw[hc]at h;cases h
theorem iP{ρ:Own}{H:L2.Hp}{env:Env}{σ:L2.St}(er:ER K mg ρ H env σ)(fr:List (Option Nat)):ER K mg ρ H (zT fr env) (L2.zT fr σ):=by
 refine⟨by unfold zT L2.zT;rw[Ag,Ag],fun i v e=>?_⟩
 unfold zT at e
 unfold L2.zT
 rw[Ay]at e ⊢
 cases hf:fr[i]? with
 |none=>rw[hf]at e;cases e
 |some o=>
  rw[hf]at e
  cases o with
  |none=>cases e
  |some j=>
   have e':(env[j]?).join=some v:=AO e
   have e2:env[j]?=some (some v):=by
    cases h1:env[j]? with
    |none=>rw[h1]at e';cases e'
    |some w=>rw[h1]at e';have:w=some v:=e';rw[this]
   obtain⟨x,h1,h2⟩:=er.at_ j v e2
   refine⟨x,?_,h2⟩
   show some ((σ[j]?).join)=_
   rw[h1];rfl
theorem vQ{fr:List (Option Nat)}{it:Itb}{t:Tgt}{g:L2.TG}{ts:List L2.TT}{tb:Addr→L2.TB}{body:Env→Sto→List Val→Out (List Val × Env)}{m:Bool}{env:Env}{s:Sto}(TG:uo K mg t g)(hg:Grows body)
 (hb:∀acc ρ0 H0,H0 acc=none→BodyOk K mg acc ρ0 H0 body (L2.tTB ts (tb acc))) {σ:L2.St} {H:L2.Hp} {Q:L2.VK} {chk:Bool}
 (h:tV K mg env s ((yT Φ G env it s).bind fun r s1=>(yO r t body r.xs (zT fr env) s1 []).bind fun p s2=>if chk=true→p.1.length≤zQ then newList m p.1 s2 else .stuck) σ H Q)
 (hlen:chk=false→∀r s1 p s2,yO r t body r.xs (zT fr env) s1 []=.ok p s2→p.1.length≤r.xs.length):L2.vL fr (uI K mg Φ G it) g ts tb σ H Q:=by
 obtain⟨ρ,hr,er,w⟩:=h
 refine⟨env,s,ρ,hr,er,?_⟩
 cases hi:yT Φ G env it s with
 |ok r s1=>
  rw[hi]at w
  simp only[zL]at w
  intro ρ1 H1 J x1 hr1 W acc hacc
  cases hl:yO r t body r.xs (zT fr env) s1 [] with
  |ok p s2=>
   rw[hl]at w
   simp only[zL]at w
   have hz:p.1.length≤zQ∧yS K mg (RD K mg) ρ H (newList m p.1 s2) Q:=by
    by_cases hc:chk=true→p.1.length≤zQ
    . rw[if_pos hc]at w
      refine⟨?_,w⟩
      cases chk with
      |true=>exact hc rfl
      |false=>exact AB (hlen rfl r s1 p s2 hl) W.len
    . rw[if_neg hc]at w;exact w.elim
   have mv:=pS (ρ:=ρ1) hr1 hacc (.lst [])
   have ers:=iP (er.mono x1) fr
   refine wU (ρ0:=ρ1) (H0:=H1) (W.mv mv) TG hg (hb acc ρ1 H1 hacc) ⟨Lp.start hr1 hacc _,hr1.hide hacc,⟨ers.len,fun i v e=>?_⟩,⟨[],L2.zd,.nil⟩⟩ hl hz.1 fun ρ3 H3 σ3 C3 _=>?_
   . obtain⟨x,h1,h2⟩:=ers.at_ i v e
     exact⟨x,h1,RD.mv mv h2⟩
   . obtain⟨ys,e1,e2⟩:=C3.ac
     exact C3.lp.done hr1 hacc C3.hr e1 e2 (hz.2.mono x1 hr1)
  |exc _ _ _=>rw[hl]at w;exact w.elim
  |stuck=>rw[hl]at w;exact w.elim
 |exc _ _ _=>rw[hi]at w;exact w.elim
 |stuck=>rw[hi]at w;exact w.elim
theorem tN{r:Src}{t:Tgt}{elt:Ex}{ifs:Cns}:∀{xs:List Val} {env:Env} {s:Sto} {a:List Val} {p:List Val × Env} {s':Sto},yO r t (vo Φ G elt ifs) xs env s a=.ok p s'→p.1.length≤a.length+xs.length
 |[],env,s,a,p,s',h=>by
  rw[yO]at h
  split at h
  . cases h;exact Ai _
  . cases h
 |x::xs,env,s,a,p,s',h=>by
  rw[yO]at h
  split at h
  . split at h
    . cases h
    . rename_i env' he
      cases hc:vo Φ G elt ifs env' s a with
      |ok q s1=>
       rw[hc]at h
       have h1:=tN h
       have h2:q.1.length≤a.length+1:=by
        unfold vo at hc
        cases h3:ym Φ G env' ifs s with
        |ok b s2=>
         rw[h3]at hc
         cases b with
         |true=>
          simp only[zL,if_true]at hc
          cases h4:evE Φ G env' elt s2 with
          |ok v s3=>rw[h4]at hc;cases hc;simp
          |exc _ _ _=>rw[h4]at hc;cases hc
          |stuck=>rw[h4]at hc;cases hc
         |false=>simp only[zL]at hc;cases hc;exact EV _
        |exc _ _ _=>rw[h3]at hc;cases hc
        |stuck=>rw[h3]at hc;cases hc
       rw[AE];omega
      |exc _ _ _=>rw[hc]at h;cases h
      |stuck=>rw[hc]at h;cases h
  . cases h
end
end M
end
section
namespace M
open PySem
noncomputable def aa(sc:Scope)(x:Str):Bool:=decide (sc.names.lookup x=some .local)||decide (sc.names.lookup x=some .cell)||decide (sc.names.lookup x=some .free)
noncomputable def uP(sc:Scope)(x:Str):Bool:=decide (sc.names.lookup x=some .globalImplicit)
noncomputable def wQ:List Str:=["len","all","any","tuple","list","sorted","repr","max","min","sum","int","isinstance","divmod","str","bool","dict","set","range","enumerate","zip"]
noncomputable def Va(y:Str)(n:String):Bool:=(decide (y="int")&&decide (n="int"))||(decide (y="bool")&&decide (n="bool"))||(decide (y="str")&&decide (n="str"))||(decide (y="list")&&decide (n="list"))||(decide (y="tuple")&&decide (n="tuple"))||(decide (y="dict")&&decide (n="dict"))
noncomputable def qR:Val→Expr→Bool
 |.none,.Constant .none _ _=>true
 |.bool b,.Constant (.bool c) _ _=>b == c
 |.int i,.Constant (.int j) _ _=>decide (i=j)
 |.str x,.Constant (.str y) _ _=>decide (x=y)
 |_,_=>false
mutual
noncomputable def ck(sc:Scope)(N:List Str):Ex→Expr→Bool
 |.lit v,e=>qR v e
 |.var i,e=>(match e with|.Name x _=>decide (N[i]?=some x)&&aa sc x&&!(x == ("__debug__":Str))&&!(x == ("__classdict__":Str))|_=>false)
 |.gl y,e=>(match e with|.Name x _=>decide (x=y)&&uP sc x&&!(x == ("__debug__":Str))|_=>false)
 |.ty y n,e=>(match e with|.Name x _=>decide (x=y)&&uP sc x&&Va y n|_=>false)
 |.bin _ op a b,e=>(match e with|.BinOp l o r _=>(okB op&&decide (o=op.op))&&ck sc N a l&&ck sc N b r|_=>false)
 |.neg a,e=>(match e with|.UnaryOp .USub x _=>ck sc N a x|_=>false)
 |.not a,e=>(match e with|.UnaryOp .Not x _=>ck sc N a x|_=>false)
 |.cmp op a b,e=>(match e with|.Compare l [o] [r] _=>(okC op&&decide (o=op.op))&&ck sc N a l&&ck sc N b r&&plain r|_=>false)
 |.chain op op' a b c,e=>(match e with|.Compare l [o,o'] [r,r'] _=>(okC op&&decide (o=op.op))&&(okC op'&&decide (o'=op'.op))&&ck sc N a l&&ck sc N b r&&ck sc N c r'&&plain r'|_=>false)
 |.andE a es,e=>(match e with|.BoolOp .And (x::xs) _=>ck sc N a x&&ckL sc N es xs|_=>false)
 |.orE _ _,_=>false
 |.ife c a b,e=>(match e with|.IfExp t x y _=>ckC sc N c t&&ck sc N a x&&ck sc N b y|_=>false)
 |.tup es,e=>(match e with|.Tuple xs _ _=>ckL sc N es xs&&yV xs|_=>false)
 |.lst _ es,e=>(match e with|.List xs _=>ckL sc N es xs&&yV xs|_=>false)
 |.dct0,_=>false
 |.dctN _,e=>(match e with|.Dict [] [] _=>true|_=>false)
 |.ixD a b,e=>(match e with|.Subscript l r _=>ck sc N a l&&ck sc N b r&&plain r|_=>false)
 |.call f _ es,e=>(match e with|.Call (.Name x _) xs [] _=>decide (x=f)&&uP sc x&&!(x == ("__debug__":Str))&&ckL sc N es xs&&yV xs|_=>false)
 |.blt f _ es,e=>(match e with|.Call (.Name x _) (y::ys) [] _=>(okF f&&decide (x=f.nm))&&uP sc x&&ckL sc N es (y::ys)&&yV (y::ys)|_=>false)
 |.maxD a d,e=>(match e with|.Call (.Name x _) [y] [⟨k,z,_⟩] _=>decide (x="max")&&uP sc x&&decide (k=some ("default":Str))&&ck sc N a y&&ck sc N d z&&plain y&&plain z|_=>false)
 |.yb f _ o es,e=>(match e with|.Call (.Attribute ob x ap) [y] [] cp=>decide (x=f.nm)&&ck sc N o ob&&ckL sc N es [y]&&plain y&&pe ob&&(ap.endLine == cp.line)&&okM f|_=>false)
 |.ix a b,e=>(match e with|.Subscript l r _=>ck sc N a l&&ck sc N b r&&plain r|_=>false)
 |.sl _ a lo hi st,e=>(match e with|.Subscript l (.Slice x y z _) _=>ck sc N a l&&ckO sc N lo x&&ckO sc N hi y&&ckO sc N st z|_=>false)
 |.comp _ N' fr elt t it ifs,e=>(match e with|.ListComp x [⟨tg,iter,fs,0⟩] csc _=>L2.pJ sc N N' csc fr&&decide N'.Nodup&&ckT csc N' t tg&&ckI sc N it iter tg&&pK csc N' ifs fs&&ck csc N' elt x&&plain iter|_=>false)
 |.comp2 _ N' fr elt t it ifs t2 it2 ifs2,e=>(match e with|.ListComp x [⟨tg,iter,fs,0⟩,⟨tg2,iter2,fs2,0⟩] csc _=>L2.pJ sc N N' csc fr&&decide N'.Nodup&&ckT csc N' t tg&&ckI sc N it iter tg&&pK csc N' ifs fs&&ckT csc N' t2 tg2&&ckI csc N' it2 iter2 tg2&&pK csc N' ifs2 fs2&&ck csc N' elt x&&plain iter&&plain iter2|_=>false)
 |.listRange _ _ _ _,_=>false
noncomputable def ckL(sc:Scope)(N:List Str):Exs→List Expr→Bool
 |.nil,es=>(match es with|[]=>true|_=>false)
 |.cons a as,es=>(match es with|e::es=>ck sc N a e&&ckL sc N as es|_=>false)
noncomputable def ckO(sc:Scope)(N:List Str):OEx→Option Expr→Bool
 |.no,e=>(match e with|none=>true|_=>false)
 |.yes a,e=>(match e with|some e=>ck sc N a e|_=>false)
noncomputable def ckC(sc:Scope)(N:List Str):Cn→Expr→Bool
 |.val a,e=>ck sc N a e&&(plainT e||(match e with|.Compare ..=>true|_=>false))
 |.not c,e=>(match e with|.UnaryOp .Not x _=>ckC sc N c x|_=>false)
 |.and c cs,e=>(match e with|.BoolOp .And (x::xs) _=>ckC sc N c x&&pK sc N cs xs|_=>false)
 |.or c cs,e=>(match e with|.BoolOp .Or (x::xs) _=>ckC sc N c x&&pK sc N cs xs|_=>false)
noncomputable def pK(sc:Scope)(N:List Str):Cns→List Expr→Bool
 |.nil,es=>(match es with|[]=>true|_=>false)
 |.cons a as,es=>(match es with|e::es=>ckC sc N a e&&pK sc N as es|_=>false)
noncomputable def ckI(sc:Scope)(N:List Str):Itb→Expr→Expr→Bool
 |.val a,e,_=>ck sc N a e
 |.range1 a,e,_=>(match e with|.Call (.Name x _) [y] [] _=>decide (x="range")&&uP sc x&&ck sc N a y&&plain y|_=>false)
 |.range2 a b,e,_=>(match e with|.Call (.Name x _) [y,z] [] _=>decide (x="range")&&uP sc x&&ck sc N a y&&ck sc N b z&&plain y&&plain z|_=>false)
 |.enum _,_,_=>false
 |.zip _ _,_,_=>false
end
structure Ok(T:Tbl)(n:Nat)(sc:Scope)(N:List Str)(X:L2.Cx):Prop where
 calm:X.calm=true
 room:L2.yp n X.A
 scp:Scp sc N X
 fns:∀f v F,T.fn f v=some F→Callee T n X f v F
 gls:∀x v,T.gl x=some v→∃u xv,X.mg x=some u∧L2.RelV xv u∧∀ρ H,RD X.K X.mg ρ H v xv
 blt:∀x∈wQ,X.mg x=none
 xe:X.xe=fun _ _=>False
theorem lh{sc:Scope}{N N':List Str}{csc:Scope}{fr:List (Option Nat)}{X:L2.Cx}(S:Scp sc N X)(h:L2.pJ sc N N' csc fr=true):L2.zo X N' csc fr:=by
 unfold L2.pJ at h
 simp only[Ab,Bz,A5,decide_eq_true_eq,Ax]at h
 obtain⟨⟨⟨⟨⟨⟨a1,a2⟩,a3⟩,a4⟩,a5⟩,a6⟩,a7⟩:=h
 refine⟨a1,a2,fun x hx hk=>?_,fun x hx hk=>?_,a5,fun i j x e1 e2=>?_,fun x e1 e2=>?_⟩
 . rcases a3 x hx with z|z
   . exact absurd hk z
   . exact z
 . rcases a4 x hx with z|z
   . exact absurd hk z
   . exact S.cf x.1 z
 . have hi:i<N'.length:=(Ap.mp e1).1
   have q:=a6 i hi
   rw[e1,e2]at q
   simp only[Ab,decide_eq_true_eq,Cd]at q
   obtain⟨q1,y,q2,q3,q4⟩:=q
   refine⟨by rw[S.hN];exact q1,?_⟩
   have:y=(x,Bg):=Es q3 q4
   rw[←this];exact q2
 . rcases a7 (x,.free) e2 with z|z
   . exact z rfl
   . exact z e1
theorem wM{sc:Scope}{env:Ce}{x:Str}(h:sc.names.lookup x=some .local):(relabel sc env).names.lookup x=some .local:=lookup_relabel_local h
theorem m4{sc:Scope}{env:Ce}{x:Str}(h:sc.names.lookup x=some .globalImplicit):(relabel sc env).names.lookup x=some .globalImplicit:=by
 have key:∀(names:List (Str × CV)),names.lookup x=some .globalImplicit→(names.map fun(n,k)=>if (k == Bg&&env.scope.kind == .function&&env.kindOf n == some .cell) then (n,Ef) else (n,k)).lookup x=some .globalImplicit:=by
  intro names
  induction names with
  |nil=>intro h;simp at h
  |cons p r ih=>
   obtain⟨n,k⟩:=p
   intro h
   rw[AA]
   dsimp only
   cases hx:(x == n) with
   |true=>
    rw[AK,hx]at h
    cases h
    have e:(CV.globalImplicit == Bg)=false:=rfl
    rw[e]
    simp only[FA,AU,if_false,AK,hx]
   |false=>
    rw[AK,hx]at h
    have:=ih h
    split<;>simpa only[AK,hx] using this
 exact key sc.names h
theorem Scp.comp{sc:Scope}{N N':List Str}{csc:Scope}{fr:List (Option Nat)}{X:L2.Cx}(S:Scp sc N X)(hc:L2.zo X N' csc fr)(nd:N'.Nodup)(C:Addr)(s0:Shared)(H0:L2.Hp)(ex:List Addr):Scp csc N' (X.comp N' csc C s0 H0 ex):=by
 have nocell:∀x,csc.names.lookup x≠some .cell:=fun x h=>hc.nocell _ (CT h) rfl
 refine⟨rfl,nd,fun x h=>?_,fun x h=>?_,fun x h=>?_,fun x h=>?_⟩
 . rcases h with h|h|h
   . exact .inl (wM h)
   . exact absurd h (nocell x)
   . exact(L2.uW hc.locals h).elim (fun z=>.inr (.inl z)) fun z=>.inr (.inr z)
 . rcases h with h|h
   . exact⟨.inl (wM h),.inr (wM h)⟩
   . exact absurd h (nocell x)
 . exact m4 h
 . rcases h with h|h
   . exact absurd h (nocell x)
   . exact L2.uW hc.locals h
theorem Callee.comp{T:Tbl}{n:Nat}{X:L2.Cx}{f:Str}{v:Nat}{F:Fn}(c:Callee T n X f v F)(N':List Str)(csc:Scope)(C:Addr)(s0:Shared)(H0:L2.Hp)(ex:List Addr):Callee T n (X.comp N' csc C s0 H0 ex) f v F:=⟨c.ex⟩
theorem Ok.comp{T:Tbl}{n:Nat}{sc:Scope}{N N':List Str}{csc:Scope}{fr:List (Option Nat)}{X:L2.Cx}(o:Ok T n sc N X)(hc:L2.zo X N' csc fr)(nd:N'.Nodup)(C:Addr)(s0:Shared)(H0:L2.Hp)(ex:List Addr):Ok T n csc N' (X.comp N' csc C s0 H0 ex):=
 ⟨o.calm,o.room,o.scp.comp hc nd C s0 H0 ex,fun f v F h=>(o.fns f v F h).comp N' csc C s0 H0 ex,o.gls,o.blt,rfl⟩
end M
end
section
namespace M
open PySem
section
variable {T:Tbl}{n:Nat}
def JE(T:Tbl)(n:Nat)(a:Ex):Prop:=∀(sc:Scope) (N:List Str) (X:L2.Cx) (e:Expr),Ok T n sc N X→ck sc N a e=true→∀env s,L2.PE X e (tV X.K X.mg env s (evE (zF T n) T.gl env a s))
def JL(T:Tbl)(n:Nat)(a:Exs):Prop:=∀(sc:Scope) (N:List Str) (X:L2.Cx) (es:List Expr),Ok T n sc N X→ckL sc N a es=true →
 (yV es=true→∀env s,L2.PA X es (tVs X.K X.mg env s (ya (zF T n) T.gl env a s))) ∧
 (∀e es' pos,es=e::es'→∀env s,L2.PE X (.BoolOp .And es pos) (tV X.K X.mg env s (tU (zF T n) T.gl env a s))) ∧
 (∀e es' pos,es=e::es'→∀env s,L2.PE X (.BoolOp .Or es pos) (tV X.K X.mg env s (oh (zF T n) T.gl env a s))) ∧
 (∀y,es=[y]→plain y=true→∃b,a=.cons b .nil∧∀env s,L2.PE X y (tV X.K X.mg env s (evE (zF T n) T.gl env b s)))
def JO(T:Tbl)(n:Nat)(a:OEx):Prop:=∀(sc:Scope) (N:List Str) (X:L2.Cx) (e:Option Expr),Ok T n sc N X→ckO sc N a e=true→(∀env s,L2.PO X e (tO X.K X.mg env s (evO (zF T n) T.gl env a s))) ∧
 ((e=none∧∀env s1,evO (zF T n) T.gl env a s1=.ok none s1)∨∃e',e=some e'∧∀env s1 s2,evO (zF T n) T.gl env a s1≠.ok none s2)
def JC(T:Tbl)(n:Nat)(a:Cn):Prop:=∀(sc:Scope) (N:List Str) (X:L2.Cx) (e:Expr),Ok T n sc N X→ckC sc N a e=true→∀env s,L2.PT X e (tT X.K X.mg env s (evT (zF T n) T.gl env a s))
def JCs(T:Tbl)(n:Nat)(a:Cns):Prop:=∀(sc:Scope) (N:List Str) (X:L2.Cx) (es:List Expr),Ok T n sc N X→pK sc N a es=true →
 (∀pos env s,L2.PW X (.BoolOp .And es pos) (tT X.K X.mg env s (ym (zF T n) T.gl env a s)))∧(∀pos env s,L2.PW X (.BoolOp .Or es pos) (tT X.K X.mg env s (tq (zF T n) T.gl env a s)))∧L2.PTs X es (uTs X.K X.mg (zF T n) T.gl a)
def JI(T:Tbl)(n:Nat)(a:Itb):Prop:=∀(sc:Scope) (N:List Str) (X:L2.Cx) (e tg:Expr),Ok T n sc N X→ckI sc N a e tg=true→∀env s,L2.PI X tg e (tI (K:=X.K) (mg:=X.mg) env s (yT (zF T n) T.gl env a s))
theorem Z4{v:Val}:JE T n (.lit v):=by
 intro sc N X e o h env s
 simp only[ck]at h
 show L2.PE X e (tV X.K X.mg env s (.ok v s))
 unfold qR at h
 split at h
 . exact zc L2.Yw fun σ H Q ⟨ρ,hr,er,w⟩=>zI hr .none w
 . have h':=(beq_iff_eq.mp h);subst h'
   exact zc L2.Wt fun σ H Q ⟨ρ,hr,er,w⟩=>zI hr (.bool _) w
 . have h':=of_decide_eq_true h;subst h'
   exact zc L2.Yu fun σ H Q ⟨ρ,hr,er,w⟩=>zI hr (.int _) w
 . have h':=of_decide_eq_true h;subst h'
   exact zc L2.Yz fun σ H Q ⟨ρ,hr,er,w⟩=>zI hr (.str _) w
 . cases h
theorem Z8{i:Nat}:JE T n (.var i):=by
 intro sc N X e o h env s
 simp only[ck]at h
 split at h
 . rename_i x p
   simp only[Ab,decide_eq_true_eq,aa,A5,B5]at h
   obtain⟨⟨⟨h1,h2⟩,h3⟩,h4⟩:=h
   have hv:L2.Vis X.env.scope x:=o.scp.vis x (by rcases h2 with (z|z)|z;exact .inl z;exact .inr (.inl z);exact .inr (.inr z))
   show L2.PE X _ (tV X.K X.mg env s (match env[i]? with|some (some v)=>.ok v s|_=>.stuck))
   refine zc (L2.Y1 (i:=i) (by rw[o.scp.hN];exact h1) hv h3 h4) fun σ H Q ⟨ρ,hr,er,w⟩=>?_
   split at w
   . rename_i v e
     obtain⟨x',h5,h6⟩:=er.at_ i v e
     exact⟨x',h5,zI hr h6 w⟩
   . exact w.elim
 . cases h
theorem WL{y:Str}:JE T n (.gl y):=by
 intro sc N X e o h env s
 simp only[ck]at h
 split at h
 . rename_i x p
   simp only[Ab,decide_eq_true_eq,uP,B5]at h
   obtain⟨⟨h1,h2⟩,h3⟩:=h
   subst h1
   show L2.PE X _ (tV X.K X.mg env s (match T.gl x with|some v=>.ok v s|Ad=>.stuck))
   cases hv:T.gl x with
   |none=>exact zH (zE rfl)
   |some v=>
    obtain⟨u,xv,e1,e2,e3⟩:=o.gls x v hv
    exact zc (L2.bR (o.scp.gl x h2) e1 e2 h3) fun σ H Q ⟨ρ,hr,er,w⟩=>zI hr (e3 ρ H) w
 . cases h
theorem WO{y:Str}{m:String}:JE T n (.ty y m):=by
 intro sc N X e o h env s
 simp only[ck]at h
 split at h
 . rename_i x p
   simp only[Ab,decide_eq_true_eq,uP]at h
   obtain⟨⟨h1,h2⟩,h3⟩:=h
   subst h1
   show L2.PE X _ (tV X.K X.mg env s (.ok (.ty m) s))
   have key:x∈wQ∧CD x=some (.type m)∧x≠"__name__"∧(x == ("__debug__":Str))=false:=by
    unfold Va at h3
    simp only[A5,Ab,decide_eq_true_eq]at h3
    rcases h3 with ((((⟨rfl,rfl⟩|⟨rfl,rfl⟩)|⟨rfl,rfl⟩)|⟨rfl,rfl⟩)|⟨rfl,rfl⟩)|⟨rfl,rfl⟩
    . exact⟨by decide,PyProof.Rows.boot_int,by decide,by decide⟩
    . exact⟨by decide,PyProof.Rows.boot_bool,by decide,by decide⟩
    . exact⟨by decide,PyProof.Rows.boot_str,by decide,by decide⟩
    . exact⟨by decide,PyProof.Rows.boot_list,by decide,by decide⟩
    . exact⟨by decide,Gy,by decide,by decide⟩
    . exact⟨by decide,PyProof.Rows.boot_dict,by decide,by decide⟩
   exact zc (L2.Wx (o.scp.gl x h2) (o.blt x key.1) key.2.1 key.2.2.1 key.2.2.2) fun σ H Q ⟨ρ,hr,er,w⟩=>zI hr (.ty _) w
 . cases h
theorem cN{t:Bool}:JE T n (.dctN t):=by
 intro sc N X e o h env s
 simp only[ck]at h
 split at h
 . show L2.PE X _ (tV X.K X.mg env s (.ok (.dref s.length) (s++[if t then .dT [] else .dS []])))
   cases t with
   |true=>exact zc L2.fc fun σ H Q ⟨ρ,hr,er,w⟩ p hp=>w _ _ _ (Ext.own hr hp _) (hr.Yg hp ⟨[],L2.zd,rfl,.nil⟩) (.dref (sF hr p) (by rw[L2.zd];decide))
   |false=>exact zc L2.fb fun σ H Q ⟨ρ,hr,er,w⟩ p hp=>w _ _ _ (Ext.own hr hp _) (hr.Yg hp ⟨[],L2.zd,rfl,.nil⟩) (.dref (sF hr p) (by rw[L2.zd];decide))
 . cases h
theorem gi{a b:Ex}(ja:JE T n a)(jb:JE T n b):JE T n (.ixD a b):=by
 intro sc N X e o h env s
 simp only[ck]at h
 split at h
 . simp only[Ab]at h
   have h1:=ja _ _ _ _ o h.1.1 env s
   have h2:=fun s1=>jb _ _ _ _ o h.1.2 env s1
   show L2.PE X _ (tV X.K X.mg env s ((evE (zF T n) T.gl env a s).bind fun x s1=>(evE (zF T n) T.gl env b s1).bind fun y s2=>ixD x y s2))
   cases ha:evE (zF T n) T.gl env a s with
   |ok v s1=>
    rw[ha]at h1
    have h2':=h2 s1
    simp only[zL]
    cases hb:evE (zF T n) T.gl env b s1 with
    |ok w s2=>
     rw[hb]at h2'
     refine zc (L2.bQ (by have:=o.room.un;omega) h1 h2' (nS h.2)) fun σ H Q ⟨ρ,hr,er,wt⟩=>⟨ρ,hr,er,fun ρ1 x H1 x1 hr1 r1=>⟨ρ1,hr1,er.mono x1,fun ρ2 y H2 x2 hr2 r2=>?_⟩⟩
     have wt':yS X.K X.mg (RD X.K X.mg) ρ2 H2 (ixD v w s2) Q:=wt.mono (x1.trans hr1 x2) hr2
     unfold ixD at wt'
     split at wt'
     . rename_i u e
       obtain⟨p,o',ex,g,ro⟩:=getD_at hr2 (r1.mono x2) r2 e
       cases o' with
       |none=>exact ro.elim
       |some z=>exact⟨p,z,ex,g,zI hr2 ro wt'⟩
     . exact wt'.elim
    |exc _ _ _=>exact zH (zE rfl)
    |stuck=>exact zH (zE rfl)
   |exc _ _ _=>exact zH (zE rfl)
   |stuck=>exact zH (zE rfl)
 . cases h
theorem oW{op:Cop}{x y v:Val}{s s':Sto}(h:zM op x y s=.ok v s'):∃b,v=.bool b:=by
 unfold zM at h
 split at h<;>(split at h<;>first|(cases h;exact⟨_,rfl⟩)|cases h|(split at h<;>first|(cases h;exact⟨_,rfl⟩)|cases h|(split at h<;>first|(cases h;exact⟨_,rfl⟩)|cases h)))
theorem rg{K:KF}{mg:Str→Option Value}{ρ:Own}{H:L2.Hp}{o:Out Val}{Q:Bool→L2.Hp→Prop}(hb:∀v s',o=.ok v s'→∃b,v=.bool b)(w:yS K mg (fun _ _ a b=>a=b) ρ H o.truth Q):yS K mg (RD K mg) ρ H o fun x H'=>∃k,x=.bl k∧Q k H':=by
 cases o with
 |ok v s1=>
  obtain⟨b,rfl⟩:=hb v s1 rfl
  intro ρ1 x H1 x1 hr1 r1
  cases r1
  exact⟨b,rfl,w _ _ _ x1 hr1 rfl⟩
 |exc _ _ _=>exact w
 |stuck=>exact w
theorem YE{X:L2.Cx}{env:Env}{s:Sto}{a b:Expr}{op:Cop}{o:Out Val}{f2:Sto→Out Val}{k:Nat}{pos:Pos}(k1:okC op=true)(hr0:L2.yp k X.A)(h1:L2.PE X a (tV X.K X.mg env s o))(h2:∀s1,L2.PE X b (tV X.K X.mg env s1 (f2 s1)))(hm:plain b=true) :
 L2.PT X (.Compare a [op.op] [b] pos) (tT X.K X.mg env s (o.bind fun x s1=>(f2 s1).bind fun y s2=>zM op x y s2).truth):=by
 cases o with
 |ok v s1=>
  have h2':=h2 s1
  show L2.PT X _ (tT X.K X.mg env s ((f2 s1).bind fun y s2=>zM op v y s2).truth)
  cases hb:f2 s1 with
  |ok w s2=>
   rw[hb]at h2'
   exact p5 (L2.bp (tE hr0 op k1) h1 h2' (wx hm)) fun σ H Q ⟨ρ,hr,er,wt⟩=>⟨ρ,hr,er,fun ρ1 x H1 x1 hr1 r1=>⟨ρ1,hr1,er.mono x1,fun ρ2 y H2 x2 hr2 r2=>⟨ρ2,s2,v,w,hr2,r1.mono x2,r2,rg (fun _ _ h=>oW h) (wt.mono (x1.trans hr1 x2) hr2)⟩⟩⟩
  |exc _ _ _=>exact z6 (zE rfl)
  |stuck=>exact z6 (zE rfl)
 |exc _ _ _=>exact z6 (zE rfl)
 |stuck=>exact z6 (zE rfl)
theorem gr{X:L2.Cx}{env:Env}{s:Sto}{a b c:Expr}{op op':Cop}{o:Out Val}{f2 f3:Sto→Out Val}{k:Nat}{pos:Pos}(k1:okC op=true)(k2:okC op'=true)(hr0:L2.yp k X.A)(h1:L2.PE X a (tV X.K X.mg env s o))(h2:∀s1,L2.PE X b (tV X.K X.mg env s1 (f2 s1)))(h3:∀s1,L2.PE X c (tV X.K X.mg env s1 (f3 s1)))(hm:plain c=true) :
 L2.PT X (.Compare a [op.op,op'.op] [b,c] pos) (tT X.K X.mg env s (o.bind fun x s1=>(f2 s1).bind fun y s2=>(zM op x y s2).bind fun r s3=>match r with
  |.bool true=>(f3 s3).bind fun z s4=>zM op' y z s4
  |.bool false=>.ok (.bool false) s3
  |_=>.stuck).truth):=by
 cases o with
 |ok v s1=>
  have h2':=h2 s1
  show L2.PT X _ (tT X.K X.mg env s ((f2 s1).bind _).truth)
  cases hb:f2 s1 with
  |ok w s2=>
   rw[hb]at h2'
   show L2.PT X _ (tT X.K X.mg env s ((zM op v w s2).bind _).truth)
   cases hc:zM op v w s2 with
   |ok r s3=>
    cases r with
    |bool t=>
     have h3':=h3 s3
     have rule:=L2.f6 (pos:=pos) (tE hr0 op k1) (tE hr0 op' k2) h1 h2' h3' (show He [op.op,op'.op] [b,c]=false from wx hm)
     refine p5 rule fun σ H Q ⟨ρ,hr,er,wt⟩=>⟨ρ,hr,er,fun ρ1 x H1 x1 hr1 r1=>⟨ρ1,hr1,er.mono x1,fun ρ2 y H2 x2 hr2 r2=>⟨ρ2,s2,v,w,hr2,r1.mono x2,r2,?_⟩⟩⟩
     rw[hc]
     intro ρ3 z H3 x3 hr3 r3
     cases r3
     refine⟨t,rfl,?_⟩
     have xx:=(x1.trans hr1 x2).trans hr2 x3
     have wt':=wt.mono xx hr3
     cases t with
     |true=>
      rw[if_pos rfl]
      refine⟨ρ3,hr3,er.mono xx,?_⟩
      have wt2:yS X.K X.mg (fun _ _ a b=>a=b) ρ3 H3 ((f3 s3).bind fun z s4=>zM op' w z s4).truth Q:=wt'
      cases hz:f3 s3 with
      |ok u s4=>
       rw[hz]at wt2
       exact fun ρ4 q H4 x4 hr4 r4=>⟨ρ4,s4,w,u,hr4,(r2.mono x3).mono x4,r4,rg (fun _ _ h=>oW h) (wt2.mono x4 hr4)⟩
      |exc _ _ _=>rw[hz]at wt2;exact wt2
      |stuck=>rw[hz]at wt2;exact wt2
     |false=>
      rw[if_neg An]
      exact⟨false,rfl,wt' _ _ _ Ext.refl hr3 rfl⟩
    |_=>exact z6 (zE rfl)
   |exc _ _ _=>exact z6 (zE rfl)
   |stuck=>exact z6 (zE rfl)
  |exc _ _ _=>exact z6 (zE rfl)
  |stuck=>exact z6 (zE rfl)
 |exc _ _ _=>exact z6 (zE rfl)
 |stuck=>exact z6 (zE rfl)
theorem Z1{op:Cop}{a b:Ex}(ja:JE T n a)(jb:JE T n b):JC T n (.val (.cmp op a b)):=by
 intro sc N X e o h env s
 simp only[ckC,Ab,ck]at h
 obtain⟨h1,_⟩:=h
 split at h1
 . simp only[Ab,decide_eq_true_eq]at h1
   obtain⟨⟨⟨⟨k1,rfl⟩,h3⟩,h4⟩,h5⟩:=h1
   exact YE k1 o.room (ja _ _ _ _ o h3 env s) (fun s1=>jb _ _ _ _ o h4 env s1) h5
 . cases h1
theorem gc{op op':Cop}{a b c:Ex}(ja:JE T n a)(jb:JE T n b)(jc:JE T n c):JC T n (.val (.chain op op' a b c)):=by
 intro sc N X e o h env s
 simp only[ckC,Ab,ck]at h
 obtain⟨h1,_⟩:=h
 split at h1
 . simp only[Ab,decide_eq_true_eq]at h1
   obtain⟨⟨⟨⟨⟨⟨k1,rfl⟩,k2,rfl⟩,h3⟩,h4⟩,h5⟩,h6⟩:=h1
   exact gr k1 k2 o.room (ja _ _ _ _ o h3 env s) (fun s1=>jb _ _ _ _ o h4 env s1) (fun s1=>jc _ _ _ _ o h5 env s1) h6
 . cases h1
noncomputable def WC:Ex→Bool
 |.cmp ..|.chain ..=>true
 |_=>false
theorem zu{a:Ex}(ja:JE T n a)(hn:WC a=false):JC T n (.val a):=by
 intro sc N X e o h env s
 simp only[ckC,Ab,A5]at h
 obtain⟨h1,h2⟩:=h
 have je:=ja sc N X e o h1 env s
 rcases h2 with h2|h2
 . exact YG h2 je
 . split at h2
   . cases a<;>first|(cases hn;done)|(simp only[ck,qR]at h1;cases h1;done)|(simp only[ck,qR]at h1;split at h1<;>first|(rename_i heq;cases heq;done)|(cases h1;done))
   . cases h2
end
end M
end
section
namespace M
open PySem
section
variable {T:Tbl}{n:Nat}
theorem Zl{m:Bool}{op:Bop}{a b:Ex}(ja:JE T n a)(jb:JE T n b):JE T n (.bin m op a b):=by
 intro sc N X e o h env s
 simp only[ck]at h
 split at h
 . simp only[Ab,decide_eq_true_eq]at h
   obtain⟨⟨⟨k1,rfl⟩,h1⟩,h2⟩:=h
   exact ZM (ja _ _ _ _ o h1 env s) (fun s1=>jb _ _ _ _ o h2 env s1) fun ta tb pa pb=>L2.Ww (YX m op k1) pa pb
 . cases h
theorem Zq{a:Ex}(ja:JE T n a):JE T n (.neg a):=by
 intro sc N X e o h env s
 simp only[ck]at h
 split at h
 . exact Z6 (ja _ _ _ _ o h env s)
 . cases h
theorem Zr{a:Ex}(ja:JE T n a):JE T n (.not a):=by
 intro sc N X e o h env s
 simp only[ck]at h
 split at h
 . exact Z7 (ja _ _ _ _ o h env s)
 . cases h
theorem Zn{op:Cop}{a b:Ex}(ja:JE T n a)(jb:JE T n b):JE T n (.cmp op a b):=by
 intro sc N X e o h env s
 simp only[ck]at h
 split at h
 . simp only[Ab,decide_eq_true_eq]at h
   obtain⟨⟨⟨⟨k1,rfl⟩,h1⟩,h2⟩,h3⟩:=h
   exact ZM (ja _ _ _ _ o h1 env s) (fun s1=>jb _ _ _ _ o h2 env s1) fun ta tb pa pb=>L2.bP (tE o.room op k1) pa pb (wx h3)
 . cases h
theorem gT{op op':Cop}{a b c:Ex}(ja:JE T n a)(jb:JE T n b)(jc:JE T n c):JE T n (.chain op op' a b c):=by
 intro sc N X e o h env s
 simp only[ck]at h
 split at h
 . simp only[Ab,decide_eq_true_eq]at h
   obtain⟨⟨⟨⟨⟨⟨k1,rfl⟩,k2,rfl⟩,h3⟩,h4⟩,h5⟩,h6⟩:=h
   exact gh k1 k2 o.room (ja _ _ _ _ o h3 env s) (fun s1=>jb _ _ _ _ o h4 env s1) (fun s1=>jc _ _ _ _ o h5 env s1) h6
 . cases h
theorem Zk{a:Ex}{es:Exs}(ja:JE T n a)(jl:JL T n es):JE T n (.andE a es):=by
 intro sc N X e o h env s
 simp only[ck]at h
 split at h
 . rename_i x xs pos
   simp only[Ab]at h
   obtain⟨h1,h2⟩:=h
   cases es with
   |nil=>
    simp only[ckL]at h2
    split at h2
    . exact L2.mj (ja _ _ _ _ o h1 env s)
    . cases h2
   |cons b es'=>
    cases xs with
    |nil=>cases h2
    |cons y ys=>exact gf (ja _ _ _ _ o h1 env s) fun s1=>(jl _ _ _ _ o h2).2.1 y ys pos rfl env s1
 . cases h
theorem Zo{c:Cn}{a b:Ex}(jc:JC T n c)(ja:JE T n a)(jb:JE T n b):JE T n (.ife c a b):=by
 intro sc N X e o h env s
 simp only[ck]at h
 split at h
 . simp only[Ab]at h
   exact Z3 (jc _ _ _ _ o h.1.1 env s) (fun s1=>ja _ _ _ _ o h.1.2 env s1) (fun s1=>jb _ _ _ _ o h.2 env s1)
 . cases h
theorem Zs{es:Exs}(jl:JL T n es):JE T n (.tup es):=by
 intro sc N X e o h env s
 simp only[ck]at h
 split at h
 . simp only[Ab]at h
   exact gk ((jl _ _ _ _ o h.1).1 h.2 env s)
 . cases h
theorem Zp{m:Bool}{es:Exs}(jl:JL T n es):JE T n (.lst m es):=by
 intro sc N X e o h env s
 simp only[ck]at h
 split at h
 . simp only[Ab]at h
   exact Z5 ((jl _ _ _ _ o h.1).1 h.2 env s)
 . cases h
theorem n4{f:Str}{ver:Nat}(h:T.fn f ver=none)(vs:List Val)(s:Sto):zF T n f ver vs s=.stuck:=by
 cases n with
 |zero=>rfl
 |succ n=>simp only[zF,h]
theorem dz{f:Str}{ver:Nat}{es:Exs}(jl:JL T n es):JE T n (.call f ver es):=by
 intro sc N X e o h env s
 simp only[ck]at h
 split at h
 . rename_i x p xs pos
   simp only[Ab,decide_eq_true_eq,uP,B5]at h
   obtain⟨⟨⟨⟨rfl,h2⟩,h3⟩,h4⟩,h5⟩:=h
   show L2.PE X _ (tV X.K X.mg env s ((ya (zF T n) T.gl env es s).bind fun vs s1=>zF T n x ver vs s1))
   cases hf:T.fn x ver with
   |none=>
    refine zH fun v s' e=>?_
    cases hv:ya (zF T n) T.gl env es s with
    |ok vs s1=>rw[hv]at e;simp only[zL,n4 hf]at e;cases e
    |exc _ _ _=>rw[hv]at e;cases e
    |stuck=>rw[hv]at e;cases e
   |some F=>
    have C:=o.fns x ver F hf
    cases xs with
    |nil=>
     cases es with
     |nil=>exact gg C o.room (o.scp.gl x h2) h3
     |cons _ _=>cases h4
    |cons y ys=>exact cK C o.room (o.scp.gl x h2) h3 h5 (by simp) ((jl _ _ _ _ o h4).1 h5 env s)
 . cases h
theorem ZL(f:Bf):f.nm∈wQ:=by cases f<;>decide
theorem Zm{f:Bf}{m:Bool}{es:Exs}(jl:JL T n es):JE T n (.blt f m es):=by
 intro sc N X e o h env s
 simp only[ck]at h
 split at h
 . rename_i x p y ys pos
   simp only[Ab,decide_eq_true_eq,uP]at h
   obtain⟨⟨⟨⟨k1,rfl⟩,h2⟩,h3⟩,h4⟩:=h
   exact Z2 k1 o.calm o.room (o.scp.gl _ h2) (o.blt _ (ZL f)) h4 ((jl _ _ _ _ o h3).1 h4 env s)
 . cases h
theorem d8{a d:Ex}(ja:JE T n a)(jd:JE T n d):JE T n (.maxD a d):=by
 intro sc N X e o h env s
 simp only[ck]at h
 split at h
 . rename_i x p y k z kp pos
   simp only[Ab,decide_eq_true_eq,uP]at h
   obtain⟨⟨⟨⟨⟨⟨rfl,h1⟩,rfl⟩,h2⟩,h3⟩,h4⟩,h5⟩:=h
   have je:=ja _ _ _ _ o h2 env s
   show L2.PE X _ (tV X.K X.mg env s ((evE (zF T n) T.gl env a s).bind fun x s1=>(evE (zF T n) T.gl env d s1).bind fun y s2=>mxD x y s2))
   cases ho:evE (zF T n) T.gl env a s with
   |ok v s1=>
    rw[ho]at je
    have je2:=jd _ _ _ _ o h3 env s1
    show L2.PE X _ (tV X.K X.mg env s ((evE (zF T n) T.gl env d s1).bind fun y s2=>mxD v y s2))
    cases ho2:evE (zF T n) T.gl env d s1 with
    |ok v2 s2=>
     rw[ho2]at je2
     have hs1:AR [y] X.env=(false,eval y X.env)::AR [] X.env:=L2.zx (zY h4)
     refine zc (L2.bS o.calm rfl (o.scp.gl _ h1) (o.blt _ (by decide)) PyProof.Rows.boot_max (L2.pac je L2.vK (zY h4)) (L2.bX je2 L2.Y3) (he:=by rw[hs1];rfl) (hp:=by rw[hs1];rfl)) fun σ H Q ⟨ρ,hr,er,w⟩=>⟨ρ,hr,er,fun ρ1 x H1 x1 hr1 r1=>⟨ρ1,hr1,er.mono x1,fun ρ2 y H2 x2 hr2 r2=>?_⟩⟩
     have w':yS X.K X.mg (RD X.K X.mg) ρ2 H2 (mxD v v2 s2) Q:=w.mono (x1.trans hr1 x2) hr2
     cases r2 with
     |int k=>
      simp only[mxD]at w'
      split at w'
      . rename_i vs hl
        split at w'
        . rename_i ns hi
          obtain⟨p,ys,rfl,hq,q⟩:=xJ hr2 (r1.mono x2) hl
          rw[q.se hi]at hq
          exact⟨p,ns,k,rfl,rfl,.of hq,zI hr2 (.int _) w'⟩
        . exact w'.elim
      . exact w'.elim
     |_=>exact w'.elim
    |exc _ _ _=>exact zH (zE rfl)
    |stuck=>exact zH (zE rfl)
   |exc _ _ _=>exact zH (zE rfl)
   |stuck=>exact zH (zE rfl)
 . cases h
theorem d9{f:Mf}{m:Bool}{a:Ex}{es:Exs}(ja:JE T n a)(jl:JL T n es):JE T n (.yb f m a es):=by
 intro sc N X e o h env s
 simp only[ck]at h
 split at h
 . rename_i ob x ap y cp
   simp only[Ab,decide_eq_true_eq]at h
   obtain⟨⟨⟨⟨⟨⟨rfl,h1⟩,h2⟩,h3⟩,h4⟩,h5⟩,hm⟩:=h
   obtain⟨b,rfl,jb⟩:=(jl _ _ _ _ o h2).2.2.2 y rfl h3
   exact gj hm h4 h3 h5 (ja _ _ _ _ o h1 env s) fun s1=>jb env s1
 . cases h
theorem WG{a b:Ex}(ja:JE T n a)(jb:JE T n b):JE T n (.ix a b):=by
 intro sc N X e o h env s
 simp only[ck]at h
 split at h
 . simp only[Ab]at h
   exact ZM (ja _ _ _ _ o h.1.1 env s) (fun s1=>jb _ _ _ _ o h.1.2 env s1) fun ta tb pa pb=>L2.Wu WD pa pb (nS h.2)
 . cases h
theorem WH{m:Bool}{a:Ex}{lo hi st:OEx}(ja:JE T n a)(j1:JO T n lo)(j2:JO T n hi)(j3:JO T n st):JE T n (.sl m a lo hi st):=by
 intro sc N X e o h env s
 simp only[ck]at h
 split at h
 . simp only[Ab]at h
   obtain⟨⟨⟨h1,h2⟩,h3⟩,h4⟩:=h
   obtain⟨p3,q3⟩:=j3 _ _ _ _ o h4
   refine WN (ja _ _ _ _ o h1 env s) (fun s1=>(j1 _ _ _ _ o h2).1 env s1) (fun s1=>(j2 _ _ _ _ o h3).1 env s1) (fun s1=>p3 env s1) ?_
   rcases q3 with⟨e1,e2⟩|⟨e',e1,e2⟩
   . exact .inl ⟨e1,fun s1=>e2 env s1⟩
   . exact .inr ⟨e',e1,fun s1 s2=>e2 env s1 s2⟩
 . cases h
theorem d7{m:Bool}{N':List Str}{fr:List (Option Nat)}{elt:Ex}{t:Tgt}{it:Itb}{ifs:Cns}(je:JE T n elt)(ji:JI T n it)(jc:JCs T n ifs):JE T n (.comp m N' fr elt t it ifs):=by
 intro sc N X e o h env s
 simp only[ck]at h
 split at h
 . rename_i x tg iter fs csc cpos
   simp only[Ab,decide_eq_true_eq]at h
   obtain⟨⟨⟨⟨⟨⟨h1,h2⟩,h3⟩,h4⟩,h5⟩,h6⟩,h7⟩:=h
   have S:=lh o.scp h1
   have oc:=o.comp S h2
   obtain⟨g,pg,tg'⟩:∃g,(∀C s0 H0 ex,L2.PG (X.comp N' csc C s0 H0 ex) tg g)∧uo X.K X.mg t g:=by
    cases t with
    |nm i=>
     cases tg with
     |Name y p=>
      simp only[ckT,Ab,A5,decide_eq_true_eq]at h3
      exact⟨_,fun C s0 H0 ex=>qh (oc C s0 H0 ex).scp h3.1 h3.2,ud⟩
     |_=>cases h3
    |nms is=>
     cases tg with
     |Tuple es k p=>
      simp only[ckT,Ab,decide_eq_true_eq]at h3
      refine⟨_,fun C s0 H0 ex=>?_,wD (is:=is)⟩
      obtain⟨a,b,c⟩:=y1 (oc C s0 H0 ex).scp h3.1
      exact L2.v8 (X:=X.comp N' csc C s0 H0 ex) o.calm a b c
     |_=>cases h3
   have rule:L2.PE X (.ListComp x [⟨tg,iter,fs,0⟩] csc cpos) (L2.vL fr (uI X.K X.mg (zF T n) T.gl it) g (uTs X.K X.mg (zF T n) T.gl ifs) fun acc=>L2.vn acc (uE X.K X.mg (zF T n) T.gl elt)):=
    L2.kS o.calm S (mm fun env s=>ji _ _ _ _ _ o h4 env s) pg (fun C s0 H0 ex=>(jc _ _ _ _ (oc C s0 H0 ex) h5).2.2) (fun C s0 H0 ex=>bT (X:=X.comp N' csc C s0 H0 ex) fun env s=>je _ _ _ _ (oc C s0 H0 ex) h6 env s) (yG h7)
   refine zc rule fun σ H Q hq=>vQ (env:=env) (s:=s) (chk:=false) (m:=m) (body:=vo (zF T n) T.gl elt ifs) tg' wK (fun acc ρ0 H0 hn=>rj hn) ?_ fun _ r s1 p s2 hl=>?_
   . simp only[AU,false_implies,if_true];exact hq
   . have:=tN hl
     simpa using this
 . cases h
theorem gU{m:Bool}{N':List Str}{fr:List (Option Nat)}{elt:Ex}{t t2:Tgt}{it it2:Itb}{ifs ifs2:Cns}(je:JE T n elt)(ji:JI T n it)(jc:JCs T n ifs)(ji2:JI T n it2)(jc2:JCs T n ifs2):JE T n (.comp2 m N' fr elt t it ifs t2 it2 ifs2):=by
 intro sc N X e o h env s
 simp only[ck]at h
 split at h
 . rename_i x tg iter fs tg2 iter2 fs2 csc cpos
   simp only[Ab,decide_eq_true_eq]at h
   obtain⟨⟨⟨⟨⟨⟨⟨⟨⟨⟨h1,h2⟩,h3⟩,h4⟩,h5⟩,h6⟩,h7⟩,h8⟩,h9⟩,h10⟩,h11⟩:=h
   have S:=lh o.scp h1
   have oc:=o.comp S h2
   have tgt:∀(t:Tgt) (tg:Expr),ckT csc N' t tg=true→∃g,(∀C s0 H0 ex,L2.PG (X.comp N' csc C s0 H0 ex) tg g)∧uo X.K X.mg t g:=by
    intro t tg h3
    cases t with
    |nm i=>
     cases tg with
     |Name y p=>
      simp only[ckT,Ab,A5,decide_eq_true_eq]at h3
      exact⟨_,fun C s0 H0 ex=>qh (oc C s0 H0 ex).scp h3.1 h3.2,ud⟩
     |_=>cases h3
    |nms is=>
     cases tg with
     |Tuple es k p=>
      simp only[ckT,Ab,decide_eq_true_eq]at h3
      refine⟨_,fun C s0 H0 ex=>?_,wD (is:=is)⟩
      obtain⟨a,b,c⟩:=y1 (oc C s0 H0 ex).scp h3.1
      exact L2.v8 (X:=X.comp N' csc C s0 H0 ex) o.calm a b c
     |_=>cases h3
   obtain⟨g,pg,tg'⟩:=tgt t tg h3
   obtain⟨g2,pg2,tg2'⟩:=tgt t2 tg2 h6
   have rule:=L2.nO (cpos:=cpos) (elt:=x) (ifs:=fs) (ifs2:=fs2) (ts:=uTs X.K X.mg (zF T n) T.gl ifs) (ts2:=uTs X.K X.mg (zF T n) T.gl ifs2) (wi2:=uI X.K X.mg (zF T n) T.gl it2) (te:=uE X.K X.mg (zF T n) T.gl elt) o.calm S (mm (tg:=tg) fun env s=>ji _ _ _ _ _ o h4 env s) pg (fun C s0 H0 ex=>(jc _ _ _ _ (oc C s0 H0 ex) h5).2.2)
    (fun C s0 H0 ex=>mm (X:=X.comp N' csc C s0 H0 ex) (tg:=tg2) fun env s=>ji2 _ _ _ _ _ (oc C s0 H0 ex) h7 env s) pg2 (fun C s0 H0 ex=>(jc2 _ _ _ _ (oc C s0 H0 ex) h8).2.2)
    (fun C s0 H0 ex=>bT (X:=X.comp N' csc C s0 H0 ex) fun env s=>je _ _ _ _ (oc C s0 H0 ex) h9 env s) (yG h10) (fun env=>yG h11)
   refine zc rule fun σ H Q hq=>vQ (env:=env) (s:=s) (chk:=true) (m:=m) (body:=tM (zF T n) T.gl elt ifs t2 it2 ifs2) tg' ue (fun acc ρ0 H0 hn=>qu hn tg2') ?_ fun z=>by cases z
   simp only[true_implies];exact hq
 . cases h
theorem Zu:JL T n .nil:=by
 intro sc N X es o h
 simp only[ckL]at h
 split at h
 . exact⟨fun _ env s=>cP,⟨fun e es' pos z=>(nomatch z),⟨fun e es' pos z=>(nomatch z),fun y z=>(nomatch z)⟩⟩⟩
 . cases h
theorem cC{a:Ex}{as:Exs}(ja:JE T n a)(jl:JL T n as):JL T n (.cons a as):=by
 intro sc N X es o h
 simp only[ckL]at h
 split at h
 . rename_i e es
   simp only[Ab]at h
   obtain⟨h1,h2⟩:=h
   obtain⟨l1,l2,l3,l4⟩:=jl _ _ _ _ o h2
   refine⟨fun hp env s=>?_,fun e' es' pos z env s=>?_,fun e' es' pos z env s=>?_,fun y z hp=>?_⟩
   . rw[yV,Ab]at hp
     exact gm hp.1 (ja _ _ _ _ o h1 env s) fun s1=>l1 hp.2 env s1
   . cases as with
     |nil=>
      simp only[ckL]at h2
      split at h2
      . exact L2.mj (ja _ _ _ _ o h1 env s)
      . cases h2
     |cons b as'=>
      cases es with
      |nil=>cases h2
      |cons y ys=>exact gf (ja _ _ _ _ o h1 env s) fun s1=>l2 y ys pos rfl env s1
   . cases as with
     |nil=>
      simp only[ckL]at h2
      split at h2
      . exact L2.mj (ja _ _ _ _ o h1 env s)
      . cases h2
     |cons b as'=>
      cases es with
      |nil=>cases h2
      |cons y ys=>exact WM (ja _ _ _ _ o h1 env s) fun s1=>l3 y ys pos rfl env s1
   . cases z
     cases as with
     |nil=>exact⟨a,rfl,fun env s=>ja _ _ _ _ o h1 env s⟩
     |cons _ _=>cases h2
 . cases h
theorem WI:JO T n .no:=by
 intro sc N X e o h
 simp only[ckO]at h
 split at h
 . exact⟨fun env s=>WQ,.inl ⟨rfl,fun env s1=>rfl⟩⟩
 . cases h
theorem Zv{a:Ex}(ja:JE T n a):JO T n (.yes a):=by
 intro sc N X e o h
 simp only[ckO]at h
 split at h
 . refine⟨fun env s=>YA (ja _ _ _ _ o h env s),.inr ⟨_,rfl,fun env s1 s2 z=>?_⟩⟩
   have z':((evE (zF T n) T.gl env a s1).bind fun v s1=>match v with|.int i=>.ok (some i) s1|_=>.stuck)=.ok none s2:=z
   cases hv:evE (zF T n) T.gl env a s1 with
   |ok v s3=>rw[hv]at z';cases v<;>cases z'
   |exc _ _ _=>rw[hv]at z';cases z'
   |stuck=>rw[hv]at z';cases z'
 . cases h
theorem Zj{c:Cn}(jc:JC T n c):JC T n (.not c):=by
 intro sc N X e o h env s
 simp only[ckC]at h
 split at h
 . exact YF (jc _ _ _ _ o h env s)
 . cases h
theorem Zi{c:Cn}{cs:Cns}(jc:JC T n c)(jcs:JCs T n cs):JC T n (.and c cs):=by
 intro sc N X e o h env s
 simp only[ckC]at h
 split at h
 . simp only[Ab]at h
   exact(gu (jc _ _ _ _ o h.1 env s) fun s1=>(jcs _ _ _ _ o h.2).1 _ env s1).pt
 . cases h
theorem WE{c:Cn}{cs:Cns}(jc:JC T n c)(jcs:JCs T n cs):JC T n (.or c cs):=by
 intro sc N X e o h env s
 simp only[ckC]at h
 split at h
 . simp only[Ab]at h
   exact(ab (jc _ _ _ _ o h.1 env s) fun s1=>(jcs _ _ _ _ o h.2).2.1 _ env s1).pt
 . cases h
theorem dy:JCs T n .nil:=by
 intro sc N X es o h
 simp only[pK]at h
 split at h
 . exact⟨fun pos env s=>mL,fun pos env s=>jY,.nil⟩
 . cases h
theorem gS{c:Cn}{cs:Cns}(jc:JC T n c)(jcs:JCs T n cs):JCs T n (.cons c cs):=by
 intro sc N X es o h
 simp only[pK]at h
 split at h
 . simp only[Ab]at h
   obtain⟨a,b,d⟩:=jcs _ _ _ _ o h.2
   exact⟨fun pos env s=>gu (jc _ _ _ _ o h.1 env s) fun s1=>a pos env s1,fun pos env s=>ab (jc _ _ _ _ o h.1 env s) fun s1=>b pos env s1,.cons (W7 fun env s=>jc _ _ _ _ o h.1 env s) d⟩
 . cases h
theorem Zt{a:Ex}(ja:JE T n a):JI T n (.val a):=fun sc N X e tg o h env s=>Z9 (ja _ _ _ _ o (by simpa only[ckI] using h) env s)
theorem jU{a:Ex}(ja:JE T n a):JI T n (.range1 a):=by
 intro sc N X e tg o h env s
 simp only[ckI]at h
 split at h
 . simp only[Ab,decide_eq_true_eq,uP]at h
   obtain⟨⟨⟨rfl,h1⟩,h2⟩,h3⟩:=h
   exact jW h3 (o.scp.gl _ h1) (o.blt _ (by decide)) (ja _ _ _ _ o h2 env s)
 . cases h
theorem jV{a b:Ex}(ja:JE T n a)(jb:JE T n b):JI T n (.range2 a b):=by
 intro sc N X e tg o h env s
 simp only[ckI]at h
 split at h
 . simp only[Ab,decide_eq_true_eq,uP]at h
   obtain⟨⟨⟨⟨⟨rfl,h1⟩,h2⟩,h3⟩,h4⟩,h5⟩:=h
   exact jX h4 h5 (o.scp.gl _ h1) (o.blt _ (by decide)) (ja _ _ _ _ o h2 env s) fun s1=>jb _ _ _ _ o h3 env s1
 . cases h
end
section
variable (T:Tbl)(n:Nat)
mutual
theorem jE:∀a:Ex,JE T n a
 |.lit _=>Z4
 |.var _=>Z8
 |.gl _=>WL
 |.ty _ _=>WO
 |.bin _ _ a b=>Zl (jE a) (jE b)
 |.neg a=>Zq (jE a)
 |.not a=>Zr (jE a)
 |.cmp _ a b=>Zn (jE a) (jE b)
 |.chain _ _ a b c=>gT (jE a) (jE b) (jE c)
 |.andE a es=>Zk (jE a) (jL es)
 |.orE _ _=>fun sc N X e o h=>by cases h
 |.ife c a b=>Zo (jC c) (jE a) (jE b)
 |.tup es=>Zs (jL es)
 |.lst _ es=>Zp (jL es)
 |.dct0=>fun sc N X e o h=>by cases h
 |.dctN _=>cN
 |.ixD a b=>gi (jE a) (jE b)
 |.call _ _ es=>dz (jL es)
 |.blt _ _ es=>Zm (jL es)
 |.maxD a d=>d8 (jE a) (jE d)
 |.yb _ _ a es=>d9 (jE a) (jL es)
 |.ix a b=>WG (jE a) (jE b)
 |.sl _ a lo hi st=>WH (jE a) (jO lo) (jO hi) (jO st)
 |.comp _ _ _ elt _ it ifs=>d7 (jE elt) (jI it) (jCs ifs)
 |.comp2 _ _ _ elt _ it ifs _ it2 ifs2=>gU (jE elt) (jI it) (jCs ifs) (jI it2) (jCs ifs2)
 |.listRange _ _ _ _=>fun sc N X e o h=>by cases h
theorem jL:∀a:Exs,JL T n a
 |.nil=>Zu
 |.cons a as=>cC (jE a) (jL as)
theorem jO:∀a:OEx,JO T n a
 |.no=>WI
 |.yes a=>Zv (jE a)
theorem jC:∀a:Cn,JC T n a
 |.val (.cmp _ a b)=>Z1 (jE a) (jE b)
 |.val (.chain _ _ a b c)=>gc (jE a) (jE b) (jE c)
 |.val (.lit v)=>zu (jE (.lit v)) rfl
 |.val (.var v)=>zu (jE (.var v)) rfl
 |.val (.gl v)=>zu (jE (.gl v)) rfl
 |.val (.ty v w)=>zu (jE (.ty v w)) rfl
 |.val (.bin m o a b)=>zu (jE (.bin m o a b)) rfl
 |.val (.neg a)=>zu (jE (.neg a)) rfl
 |.val (.not a)=>zu (jE (.not a)) rfl
 |.val (.andE a b)=>zu (jE (.andE a b)) rfl
 |.val (.orE a b)=>zu (jE (.orE a b)) rfl
 |.val (.ife a b c)=>zu (jE (.ife a b c)) rfl
 |.val (.tup a)=>zu (jE (.tup a)) rfl
 |.val (.lst m a)=>zu (jE (.lst m a)) rfl
 |.val .dct0=>zu (jE .dct0) rfl
 |.val (.dctN t)=>zu (jE (.dctN t)) rfl
 |.val (.ixD a b)=>zu (gi (jE a) (jE b)) rfl
 |.val (.call a b c)=>zu (jE (.call a b c)) rfl
 |.val (.blt a b c)=>zu (jE (.blt a b c)) rfl
 |.val (.maxD a b)=>zu (jE (.maxD a b)) rfl
 |.val (.yb a b c d)=>zu (jE (.yb a b c d)) rfl
 |.val (.ix a b)=>zu (jE (.ix a b)) rfl
 |.val (.sl a b c d e)=>zu (jE (.sl a b c d e)) rfl
 |.val (.comp a b c d e f g)=>zu (jE (.comp a b c d e f g)) rfl
 |.val (.comp2 a b c d e f g h i j)=>zu (jE (.comp2 a b c d e f g h i j)) rfl
 |.val (.listRange a b c d)=>zu (jE (.listRange a b c d)) rfl
 |.not c=>Zj (jC c)
 |.and c cs=>Zi (jC c) (jCs cs)
 |.or c cs=>WE (jC c) (jCs cs)
theorem jCs:∀a:Cns,JCs T n a
 |.nil=>dy
 |.cons c cs=>gS (jC c) (jCs cs)
theorem jI:∀a:Itb,JI T n a
 |.val a=>Zt (jE a)
 |.range1 a=>jU (jE a)
 |.range2 a b=>jV (jE a) (jE b)
 |.enum _=>fun sc N X e tg o h=>by cases h
 |.zip _ _=>fun sc N X e tg o h=>by cases h
end
end
end M
end
section
namespace M
open PySem
section
variable (K:KF)(mg:Str→Option Value)
def sL(ρ:Own)(H:L2.Hp)(o:Out Fl)(D:L2.Ends):Prop:=
 match o with
 |.ok (.nx e) s'=>∀ρ' H' σ',Ext ρ H ρ' H'→HR K mg ρ' s' H'→ER K mg ρ' H' e σ'→D.nx σ' H'
 |.ok (.bk e) s'=>∀ρ' H' σ',Ext ρ H ρ' H'→HR K mg ρ' s' H'→ER K mg ρ' H' e σ'→D.bk σ' H'
 |.ok (.ct e) s'=>∀ρ' H' σ',Ext ρ H ρ' H'→HR K mg ρ' s' H'→ER K mg ρ' H' e σ'→D.ct σ' H'
 |.ok (.rt v) s'=>∀ρ' H' x,Ext ρ H ρ' H'→HR K mg ρ' s' H'→RD K mg ρ' H' v x→D.rt x H'
 |_=>False
noncomputable def tSt(env:Env)(s:Sto)(o:Out Fl):L2.TS:=fun D σ H=>∃ρ,HR K mg ρ s H∧ER K mg ρ H env σ∧sL K mg ρ H o D
end
section
variable {K:KF}{mg:Str→Option Value}{ρ ρ':Own}{H H':L2.Hp}
theorem sL.mono{s1:Sto}{o:Out Fl}{D:L2.Ends}(w:sL K mg ρ H o D)(x:Ext ρ H ρ' H')(h:HR K mg ρ' s1 H'):sL K mg ρ' H' o D:=by
 cases o with
 |ok fl s'=>
  cases fl with
  |nx e=>exact fun ρ2 H2 σ2 x2 h2 r2=>w ρ2 H2 σ2 (x.trans h x2) h2 r2
  |bk e=>exact fun ρ2 H2 σ2 x2 h2 r2=>w ρ2 H2 σ2 (x.trans h x2) h2 r2
  |ct e=>exact fun ρ2 H2 σ2 x2 h2 r2=>w ρ2 H2 σ2 (x.trans h x2) h2 r2
  |rt v=>exact fun ρ2 H2 y x2 h2 r2=>w ρ2 H2 y (x.trans h x2) h2 r2
 |exc _ _ _=>exact w
 |stuck=>exact w
end
noncomputable def vU:Expr→Bool
 |.ListComp ..|.SetComp ..|.DictComp ..=>false
 |_=>true
theorem rT{e:Expr}{t:Option Expr}{l:Nat}{env:Ce}(h:vU e=true):Eo e t l env=pure false:=by cases e<;>first|rfl|cases h
theorem vY{e:Expr}{ts:List Expr}{k:Nat}{p:Pos}{l:Nat}{env:Ce}:EZ [.Tuple ts k p] e l env=pure false:=by cases e<;>rfl
theorem iR{e o i:Expr}{p:Pos}{l:Nat}{env:Ce}:EZ [.Subscript o i p] e l env=pure false:=by cases e<;>rfl
noncomputable def notTuple:Expr→Bool
 |.Tuple ..=>false
 |_=>true
theorem lD{e:Expr}{ts:List Expr}{k:Nat}{p:Pos}{env:Ce}(h:notTuple e=true):Cf [.Tuple ts k p] e env=pure none:=by
 cases e<;>first|(cases h;done)|rfl
theorem nk{o i e:Expr}{p:Pos}{env:Ce}:Cf [.Subscript o i p] e env=pure none:=by cases e<;>rfl
noncomputable def ax(sc:Scope)(ts vs:List Expr):Bool:=
 match ts with
 |[.Name x px,.Name y py]=>decide (sc.names.lookup x=some .local)&&decide (sc.names.lookup y=some .local)&&(px.line == py.line)&&decide (x≠y)&&!(vs.all (FZ 8))&&!(vs.all (FF 8))
 |[.Name x px,.Name y py,.Name z pz]=>decide (sc.names.lookup x=some .local)&&decide (sc.names.lookup y=some .local)&&decide (sc.names.lookup z=some .local)&&(px.line == py.line)&&(px.line == pz.line)&&decide (x≠y)&&decide (x≠z)&&decide (y≠z)&&!(vs.all (FZ 8))&&!(vs.all (FF 8))
 |_=>false
noncomputable def ZC(sc:Scope)(ts:List Expr):Bool:=ts.any (fun|.Name x _=>decide (sc.names.lookup x≠some .local)|_=>false)||decide (3<ts.length)
theorem rD{vs:List Expr}(h:yV vs=true):(vs.any fun|.Starred ..=>true|_=>false)=false:=by
 induction vs with
 |nil=>rfl
 |cons v vs ih=>
  rw[yV,Ab]at h
  rw[Dh,ih h.2]
  cases v<;>first|rfl|(have z:=h.1;cases z)
theorem nq{x y:Str}{px py pt pt2:Pos}{kt k2:Nat}{a b:Expr}{env:Ce}(hb:env.blockKind=.function)(hx:env.kindOf x=some .local)(hy:env.kindOf y=some .local)(hl:(px.line == py.line)=true)(hne:x≠y)(hp:yV [a,b]=true)
 (hf:[a,b].all (FZ 8)=false) (hc:[a,b].all (FF 8)=false):Cf [.Tuple [.Name x px,.Name y py] kt pt] (.Tuple [a,b] k2 pt2) env=pure (some [x,y]):=by
 have hs:=rD hp
 have hl':(py.line == px.line)=true:=by rw[beq_iff_eq]at hl ⊢;exact hl.symm
 unfold Cf
 have e1:([x,y].eraseDups.length != [x,y].length)=false:=by
  have:(y == x)=false:=by simpa using BZ hne
  simp[List.eraseDups_cons,this]
 simp only[AE,Cp,hb,hf,hs,hc,hx,hy,hl',List.head?_cons,Fu,E9,A2,List.filterMap_nil,beq_self_eq_true,F0,if_true]
 have hpos:(Hg x px).pos.line=px.line:=rfl
 refine(if_neg (by decide)).trans ((if_neg (fun z=>An (hs.symm.trans z))).trans ?_)
 simp only[hpos,beq_self_eq_true,hl',F0,if_true,e1,AE,Cp,bne_self_eq_false,Bool.or_self,AU,if_false]
 exact if_neg (fun z=>An (e1.symm.trans (by rw[Ha]at z;exact z)))
theorem qF{x y z:Str}{px py pz pt pt2:Pos}{kt k2:Nat}{a b c:Expr}{env:Ce}(hb:env.blockKind=.function)(hx:env.kindOf x=some .local)(hy:env.kindOf y=some .local)(hz:env.kindOf z=some .local)(hl:(px.line == py.line)=true)(hl2:(px.line == pz.line)=true)
 (hne:x≠y) (hne2:x≠z) (hne3:y≠z) (hp:yV [a,b,c]=true) (hf:[a,b,c].all (FZ 8)=false) (hc:[a,b,c].all (FF 8)=false):Cf [.Tuple [.Name x px,.Name y py,.Name z pz] kt pt] (.Tuple [a,b,c] k2 pt2) env=pure (some [x,y,z]):=by
 have hs:=rD hp
 have hl':(py.line == px.line)=true:=by rw[beq_iff_eq]at hl ⊢;exact hl.symm
 have hl2':(pz.line == px.line)=true:=by rw[beq_iff_eq]at hl2 ⊢;exact hl2.symm
 unfold Cf
 have e1:([x,y,z].eraseDups.length != [x,y,z].length)=false:=by
  have h1:(y == x)=false:=by simpa using BZ hne
  have h2:(z == x)=false:=by simpa using BZ hne2
  have h3:(z == y)=false:=by simpa using BZ hne3
  simp[List.eraseDups_cons,h1,h2,h3]
 simp only[AE,Cp,hb,hf,hs,hc,hx,hy,hz,hl',hl2',List.head?_cons,Fu,E9,A2,List.filterMap_nil,beq_self_eq_true,F0,if_true]
 have hpos:(Hg x px).pos.line=px.line:=rfl
 refine(if_neg (by decide)).trans ((if_neg (fun z=>An (hs.symm.trans z))).trans ?_)
 simp only[hpos,beq_self_eq_true,hl',hl2',F0,if_true,e1,AE,Cp,bne_self_eq_false,Bool.or_self,AU,if_false]
 exact if_neg (fun z=>An (e1.symm.trans (by rw[Ha]at z;exact z)))
theorem uL{α β:Type}{f:α→Option β}:∀{l:List α},(∃a∈l,f a=none)→(l.filterMap f).length<l.length
 |[],⟨a,h,_⟩=>by cases h
 |b::l,⟨a,h,e⟩=>by
  rw[A2]
  have hle:=Ey f l
  rcases AF.mp h with z|z
  . subst z;rw[e];simp only[AE];omega
  . have:=uL ⟨a,z,e⟩
    cases f b with
    |none=>simp only[AE];omega
    |some _=>simp only[AE];omega
theorem iV{ts vs:List Expr}{kt k2:Nat}{pt pt2:Pos}{env:Ce}(h:(∃x p,Hg x p∈ts∧env.kindOf x≠some .local)∨3<ts.length):Cf [.Tuple ts kt pt] (.Tuple vs k2 pt2) env=pure none:=by
 unfold Cf
 simp only[]
 split
 . rfl
 . rename_i h1
   split
   . rfl
   . rw[if_pos]
     rcases h with⟨x,p,hm,hk⟩|h
     . rw[A5]
       left
       rw[bne_iff_ne]
       refine AG (uL ⟨_,hm,?_⟩)
       have:(env.kindOf x == some .local)=false:=by simpa using hk
       simp only[this,FA,AU,if_false]
     . exfalso
       apply h1
       have:(ts.length == 2||ts.length == 3)=false:=by
        rw[D8]
        constructor<;>(rw[beq_eq_false_iff_ne];omega)
       rw[this];rfl
theorem lC{o i:Expr}{p:Pos}{env:Ce}(h:plain i=true)(v:Value):assign (.Subscript o i p) env v=(do
 let ov ←holding [v] (eval o env)
 let iv ←holding [v,ov] (eval i env)
 standAt p
 holding [v,ov,iv] (setItem ov iv v)
 release [v,ov,iv] []):=by
 cases i<;>first|rfl|cases h
section
variable {X:L2.Cx}{env:Env}{s:Sto}
theorem W4{st:Stmt}{t:L2.TS}(h:∀D σ H,¬t D σ H):L2.PS X st t:=fun pins s σ H D I q=>(h D σ H q).elim
theorem XQ{o:Out Fl}(h:∀v s',o≠.ok v s'){D:L2.Ends}{σ:L2.St}{H:L2.Hp}:¬tSt X.K X.mg env s o D σ H:=by
 rintro ⟨ρ,_,_,w⟩
 cases o with
 |ok v s'=>exact h v s' rfl
 |exc _ _ _=>exact w
 |stuck=>exact w
theorem zK{st:Stmt}{o:Out Fl}(h:∀v s',o≠.ok v s'):L2.PS X st (tSt X.K X.mg env s o):=W4 fun _ _ _=>XQ h
theorem cQ{e:Expr}{o:Out Val}{pos:Pos}(hn:vU e=true)(h:L2.PE X e (tV X.K X.mg env s o)):L2.PS X (.Expr e pos) (tSt X.K X.mg env s (o.bind fun _ s1=>.ok (.nx env) s1)):=by
 cases o with
 |ok v s1=>exact xN (L2.bg h (rT hn)) fun D σ H ⟨ρ,hr,er,w⟩=>⟨ρ,hr,er,fun ρ1 x H1 x1 hr1 r1=>w ρ1 H1 σ x1 hr1 (er.mono x1)⟩
 |exc _ _ _=>exact zK (zE rfl)
 |stuck=>exact zK (zE rfl)
theorem YD{e:Expr}{o:Out Val}{pos:Pos}(h:L2.PE X e (tV X.K X.mg env s o)):L2.PS X (.Return (some e) pos) (tSt X.K X.mg env s (o.bind fun v s1=>.ok (.rt v) s1)):=by
 cases o with
 |ok v s1=>exact xN (L2.Y7 h) fun D σ H ⟨ρ,hr,er,w⟩=>⟨ρ,hr,er,fun ρ1 x H1 x1 hr1 r1=>w ρ1 H1 x x1 hr1 r1⟩
 |exc _ _ _=>exact zK (zE rfl)
 |stuck=>exact zK (zE rfl)
theorem mK{i:Nat}{o:Out Val}{st:Stmt}{te:L2.TE}(rule:L2.PS X st (L2.qG te (L2.vD i)))(h:∀σ H Q,tV X.K X.mg env s o σ H Q→te σ H Q):L2.PS X st (tSt X.K X.mg env s (o.bind fun v s1=>.ok (.nx (env.set i (some v))) s1)):=by
 cases o with
 |ok v s1=>exact xN rule fun D σ H ⟨ρ,hr,er,w⟩=>h _ _ _ ⟨ρ,hr,er,fun ρ1 x H1 x1 hr1 r1=>w ρ1 H1 _ x1 hr1 ((er.mono x1).set i r1)⟩
 |exc _ _ _=>exact zK (zE rfl)
 |stuck=>exact zK (zE rfl)
theorem kJ{t:Tgt}{g:L2.TG}{o:Out Val}{st:Stmt}{te:L2.TE}(TG:uo X.K X.mg t g)(rule:L2.PS X st (L2.qG te g))(h:∀σ H Q,tV X.K X.mg env s o σ H Q→te σ H Q) :
 L2.PS X st (tSt X.K X.mg env s (o.bind fun v s1=>match yW t v env with|some env'=>.ok (.nx env') s1|Ad=>.stuck)):=by
 cases o with
 |ok v s1=>
  show L2.PS X st (tSt X.K X.mg env s (match yW t v env with|some env'=>.ok (.nx env') s1|Ad=>.stuck))
  cases hb:yW t v env with
  |none=>exact zK (zE rfl)
  |some env'=>exact xN rule fun D σ H ⟨ρ,hr,er,w⟩=>h _ _ _ ⟨ρ,hr,er,fun ρ1 x H1 x1 hr1 r1=>TG ρ1 s1 H1 v x env env' σ _ hr1 r1 (er.mono x1) hb fun σ' er'=>w ρ1 H1 σ' x1 hr1 er'⟩
 |exc _ _ _=>exact zK (zE rfl)
 |stuck=>exact zK (zE rfl)
theorem Zd(op:Bop)(m:Bool):(∃r,L2.PIp X op.op r∧∀(i j:Int) (H:L2.Hp) (Q:L2.VK) (v:Val) (s s':Sto),binOp m op (.int i) (.int j) s=.ok v s'→(∃k:Int,v=.int k∧s'=s∧(Q (.int k) H→r (.int i) (.int j) H Q)))∨(op=.pow∨op=.shl∨op=.shr∨op=.band):=by
 cases op with
 |add=>exact .inl ⟨_,L2.dn,fun i j H Q v s s' h=>by cases h;exact⟨_,rfl,rfl,fun q=>⟨i,j,rfl,rfl,q⟩⟩⟩
 |sub=>exact .inl ⟨_,L2.du,fun i j H Q v s s' h=>by cases h;exact⟨_,rfl,rfl,fun q=>⟨i,j,rfl,rfl,q⟩⟩⟩
 |mul=>exact .inl ⟨_,L2.dr,fun i j H Q v s s' h=>by
  simp only[binOp]at h
  split at h
  . rename_i hz;cases h;exact⟨_,rfl,rfl,fun q=>⟨i,j,rfl,rfl,hz,q⟩⟩
  . cases h⟩
 |fdiv=>exact .inl ⟨_,L2.gO,fun i j H Q v s s' h=>by
  simp only[binOp]at h
  split at h
  . rename_i hz;cases h;exact⟨_,rfl,rfl,fun q=>⟨i,j,rfl,rfl,hz,q⟩⟩
  . cases h⟩
 |mod=>exact .inl ⟨_,L2.dq,fun i j H Q v s s' h=>by
  simp only[binOp]at h
  split at h
  . rename_i hz;cases h;exact⟨_,rfl,rfl,fun q=>⟨i,j,rfl,rfl,hz,q⟩⟩
  . cases h⟩
 |pow=>exact .inr (.inl rfl)
 |shl=>exact .inr (.inr (.inl rfl))
 |shr=>exact .inr (.inr (.inr (.inl rfl)))
 |band=>exact .inr (.inr (.inr (.inr rfl)))
theorem dQ{i:Nat}{op:Bop}{f:Sto→Out Val}{r:Fl}{s':Sto}(h:(match env[i]? with
 |some (some (.int x))=>(f s).bind fun v s1=>match v with
  |.int y=>(binOp false op (.int x) (.int y) s1).bind fun z s2=>.ok (Fl.nx (env.set i (some z))) s2
  |_=>.stuck
 |some (some (.tup x))=>if op=Bop.add then (f s).bind fun v s1=>match v with
  |.tup y=>(binOp false .add (.tup x) (.tup y) s1).bind fun z s2=>.ok (Fl.nx (env.set i (some z))) s2
  |_=>.stuck
  else .stuck
 |_=>.stuck:Out Fl)=.ok r s'):(∃a b s1 z,env[i]?=some (some (.int a))∧f s=.ok (.int b) s1∧binOp false op (.int a) (.int b) s1=.ok z s'∧r=Fl.nx (env.set i (some z))) ∨
  (op=Bop.add∧∃a b,env[i]?=some (some (.tup a))∧f s=.ok (.tup b) s'∧a.length+b.length≤zQ∧r=Fl.nx (env.set i (some (.tup (a++b))))):=by
 generalize he:env[i]?=o at h
 cases o with
 |none=>cases h
 |some ov=>
  cases ov with
  |none=>cases h
  |some v0=>
   cases v0 with
   |int a=>
    refine .inl ⟨a,?_⟩
    generalize hv:f s=o at h
    cases o with
    |ok v s1=>
     cases v with
     |int b=>
      simp only[zL]at h
      generalize hb:binOp false op (.int a) (.int b) s1=o at h
      cases o with
      |ok z s2=>cases h;exact⟨b,s1,z,rfl,rfl,hb,rfl⟩
      |exc _ _ _=>cases h
      |stuck=>cases h
     |_=>cases h
    |exc _ _ _=>cases h
    |stuck=>cases h
   |tup a=>
    by_cases ho:op=.add
    . refine .inr ⟨ho,a,?_⟩
      simp only[if_pos ho]at h
      generalize hv:f s=o at h
      cases o with
      |ok v s1=>
       cases v with
       |tup b=>
        simp only[zL,binOp]at h
        by_cases hz:a.length+b.length≤zQ
        . rw[if_pos hz]at h;cases h;exact⟨b,rfl,rfl,hz,rfl⟩
        . rw[if_neg hz]at h;cases h
       |_=>cases h
      |exc _ _ _=>cases h
      |stuck=>cases h
    . simp only[if_neg ho]at h;cases h
   |_=>cases h
theorem W5{st:Stmt}{o:Out Fl}(h:∀r s',o=.ok r s'→L2.PS X st (tSt X.K X.mg env s (.ok r s'))):L2.PS X st (tSt X.K X.mg env s o):=by
 cases o with
 |ok r s'=>exact h r s' rfl
 |exc _ _ _=>exact zK (zE rfl)
 |stuck=>exact zK (zE rfl)
theorem YB{i:Nat}{x:Str}{e:Expr}{op:Bop}{f:Sto→Out Val}{pos pos':Pos}(hop:¬(op=.pow∨op=.shl∨op=.shr∨op=.band))(hN:X.N.Nodup)(hi:X.N[i]?=some x)(hx:L2.Loc X.env.scope x)(hf:X.fn x=true∨X.env.scope.names.lookup x=some .local)(h:∀s,L2.PE X e (tV X.K X.mg env s (f s))) :
 L2.PS X (.AugAssign (.Name x pos') op.op e pos) (tSt X.K X.mg env s (match env[i]? with
 |some (some (.int x))=>(f s).bind fun v s1=>match v with
  |.int y=>(binOp false op (.int x) (.int y) s1).bind fun z s2=>.ok (.nx (env.set i (some z))) s2
  |_=>.stuck
 |some (some (.tup x))=>if op=.add then (f s).bind fun v s1=>match v with
  |.tup y=>(binOp false .add (.tup x) (.tup y) s1).bind fun z s2=>.ok (.nx (env.set i (some z))) s2
  |_=>.stuck
  else .stuck
 |_=>.stuck)):=by
 refine W5 fun r s' hO=>?_
 have h':=h s
 rcases dQ hO with⟨a,b,s1,z,he,hv,hb,rfl⟩|⟨rfl,a,b,he,hv,hz,rfl⟩
 . rw[hv]at h'
   rcases Zd (X:=X) op false with⟨r,hr0,hq⟩|z
   . obtain⟨k,rfl,rfl,q⟩:=hq a b (fun _=>none) (fun _ _=>True) z s1 s' hb
     refine xN (L2.ft hN hi hx h' hr0 hf) fun D σ H ⟨ρ,hr,er,w⟩=>?_
     obtain⟨xv,e1,e2⟩:=er.at_ i _ he
     cases e2
     refine⟨_,e1,ρ,hr,er,fun ρ1 y H1 x1 hr1 r1=>?_⟩
     cases r1
     obtain⟨k',e3,_,q'⟩:=hq a b H1 (fun z H2=>D.nx (σ.set i (some z)) H2) _ _ _ hb
     cases e3
     exact q' (w ρ1 H1 _ x1 hr1 ((er.mono x1).set i (.int _)))
   . exact absurd z hop
 . rw[hv]at h'
   refine xN (L2.ft hN hi hx h' L2.jR hf) fun D σ H ⟨ρ,hr,er,w⟩=>?_
   obtain⟨xv,e1,e2⟩:=er.at_ i _ he
   refine⟨_,e1,ρ,hr,er,fun ρ1 y H1 x1 hr1 r1=>?_⟩
   have e3:=e2.mono x1
   cases e3 with
   |tup n1 h1 q1=>
    cases r1 with
    |tup n2 h2 q2=>
     refine⟨_,_,_,_,rfl,rfl,h1,h2,?_,vE hr1 (q1.append q2) fun ρ2 z H2 x2 hr2 rz=>w ρ2 H2 _ (x1.trans hr1 x2) hr2 ((er.mono (x1.trans hr1 x2)).set i rz)⟩
     rw[←q1.length,←q2.length,←yN];exact hz
theorem cV{k:Nat}{a i e:Expr}{o:Out Val}{f2 f3:Sto→Out Val}{p pos:Pos}(hr0:L2.yp k X.A)(hn:vU e=true)(h1:L2.PE X e (tV X.K X.mg env s o))(h2:∀s1,L2.PE X a (tV X.K X.mg env s1 (f2 s1)))(h3:∀s1,L2.PE X i (tV X.K X.mg env s1 (f3 s1))) :
 L2.PS X (.Assign [.Subscript a i p] e pos) (tSt X.K X.mg env s (o.bind fun v s1=>(f2 s1).bind fun x s2=>(f3 s2).bind fun y s3=>match putD x y v s3 with|some s4=>.ok (.nx env) s4|Ad=>.stuck)):=by
 cases o with
 |ok v s1=>
  have h2':=h2 s1
  simp only[zL]
  cases hb:f2 s1 with
  |ok x s2=>
   rw[hb]at h2'
   have h3':=h3 s2
   simp only[zL]
   cases hc:f3 s2 with
   |ok y s3=>
    rw[hc]at h3'
    simp only[zL]
    cases hp:putD x y v s3 with
    |none=>exact zK (zE rfl)
    |some s4=>
     refine xN (L2.bf (by have:=hr0.un;omega) h2' h3' h1 (rT hn)) fun D σ H ⟨ρ,hr,er,w⟩=>⟨ρ,hr,er,fun ρ1 xv H1 x1 hr1 r1=>⟨ρ1,hr1,er.mono x1,fun ρ2 xo H2 x2 hr2 r2=>⟨ρ2,hr2,(er.mono x1).mono x2,fun ρ3 xi H3 x3 hr3 r3=>?_⟩⟩⟩
     obtain⟨b,H4,ex,g,X4,hr4⟩:=bq hr3 (r2.mono x3) r3 ((r1.mono x2).mono x3) hp
     have xx:=(x1.trans hr1 x2).trans hr2 x3
     exact⟨b,H4,ex,g,w ρ3 H4 σ (xx.trans hr3 X4) hr4 ((er.mono xx).mono X4)⟩
   |exc _ _ _=>exact zK (zE rfl)
   |stuck=>exact zK (zE rfl)
  |exc _ _ _=>exact zK (zE rfl)
  |stuck=>exact zK (zE rfl)
 |exc _ _ _=>exact zK (zE rfl)
 |stuck=>exact zK (zE rfl)
theorem gn{a i e:Expr}{o:Out Val}{f2 f3:Sto→Out Val}{p pos:Pos}(hi0:plain i=true)(h1:L2.PE X e (tV X.K X.mg env s o))(h2:∀s1,L2.PE X a (tV X.K X.mg env s1 (f2 s1)))(h3:∀s1,L2.PE X i (tV X.K X.mg env s1 (f3 s1))) :
 L2.PS X (.Assign [.Subscript a i p] e pos) (tSt X.K X.mg env s (o.bind fun v s1=>(f2 s1).bind fun x s2=>(f3 s2).bind fun y s3=>match x,y with
  |.ref r,.int k=>(match s3[r]? with
   |some (.lst vs)=>(match L2.ixN vs.length k with|some j=>.ok (.nx env) (upd s3 r (vs.set j v))|Ad=>.stuck)
   |_=>.stuck)
  |_,_=>.stuck)):=by
 cases o with
 |ok v s1=>
  have h2':=h2 s1
  simp only[zL]
  cases hb:f2 s1 with
  |ok x s2=>
   rw[hb]at h2'
   have h3':=h3 s2
   simp only[zL]
   cases hc:f3 s2 with
   |ok y s3=>
    rw[hc]at h3'
    simp only[zL]
    have rule:L2.PS X (.Assign [.Subscript a i p] e pos) (L2.qG _ (L2.X5 _ _ L2.aq)):=L2.mz h1 (L2.Y2 h2' h3' L2.set_list (lC hi0)) iR nk
    cases x with
    |ref r=>
     cases y with
     |int k=>
      simp only[]
      cases hs:s3[r]? with
      |none=>exact zK (zE rfl)
      |some cl=>
       cases cl with
       |dS _=>exact zK (zE rfl)
       |dT _=>exact zK (zE rfl)
       |lst vs=>
        simp only[]
        cases hj:L2.ixN vs.length k with
        |none=>exact zK (zE rfl)
        |some j=>
         refine xN rule fun D σ H ⟨ρ,hr,er,w⟩=>⟨ρ,hr,er,fun ρ1 xv H1 x1 hr1 r1=>⟨ρ1,hr1,er.mono x1,fun ρ2 xo H2 x2 hr2 r2=>⟨ρ2,hr2,(er.mono x1).mono x2,fun ρ3 xi H3 x3 hr3 r3=>?_⟩⟩⟩
         cases r3
         have r2':=r2.mono x3
         cases r2' with
         |ref e0 _=>
          obtain⟨b',xs,e1,e2,q⟩:=hr3.obj r _ hs
          rw[e0]at e1;cases e1
          have xx:=(x1.trans hr1 x2).trans hr2 x3
          refine⟨_,xs,k,j,rfl,rfl,e2,by rw[←q.length];exact hj,?_⟩
          exact w ρ3 _ σ (xx.trans hr3 (Ext.write hr3 e0 e2 _)) (hr3.write e0 e2 (RDs.set ((r1.mono x2).mono x3) j q)) ((er.mono xx).mono (Ext.write hr3 e0 e2 _))
     |_=>exact zK (zE rfl)
    |_=>exact zK (zE rfl)
   |exc _ _ _=>exact zK (zE rfl)
   |stuck=>exact zK (zE rfl)
  |exc _ _ _=>exact zK (zE rfl)
  |stuck=>exact zK (zE rfl)
 |exc _ _ _=>exact zK (zE rfl)
 |stuck=>exact zK (zE rfl)
end
end M
end
section
namespace M
open PySem
section
variable {X:L2.Cx}{env:Env}{s:Sto}
theorem cT{i j:Nat}{o:Out (List Val)}{st:Stmt}{ta:L2.TA}(rule:L2.PS X st (L2.VV i j ta))(h:∀σ H Q,tVs X.K X.mg env s o σ H Q→ta σ H Q) :
 L2.PS X st (tSt X.K X.mg env s (o.bind fun vs s1=>if vs.length=[i,j].length then .ok (.nx (([i,j].zip vs).foldl (fun e p=>e.set p.1 (some p.2)) env)) s1 else .stuck)):=by
 cases o with
 |ok vs s1=>
  show L2.PS X st (tSt X.K X.mg env s (if vs.length=[i,j].length then .ok (.nx (([i,j].zip vs).foldl (fun e p=>e.set p.1 (some p.2)) env)) s1 else .stuck))
  match vs with
  |[v,w]=>
   refine xN rule fun D σ H ⟨ρ,hr,er,wt⟩=>h _ _ _ ⟨ρ,hr,er,fun ρ1 xs H1 x1 hr1 r1=>?_⟩
   obtain⟨x,y,rfl,rx,ry⟩:=iH r1
   exact⟨x,y,rfl,wt ρ1 H1 _ x1 hr1 (((er.mono x1).set i rx).set j ry)⟩
  |[]=>exact zK (zE rfl)
  |[_]=>exact zK (zE rfl)
  |_::_::_::r=>exact zK (fun _ _ e=>by simp at e)
 |exc _ _ _=>exact zK (zE rfl)
 |stuck=>exact zK (zE rfl)
theorem V3{K:KF}{mg:Str→Option Value}{ρ:Own}{H:L2.Hp}{v w z:Val}{xs:List L2.V}(r:RDs K mg ρ H [v,w,z] xs):∃x y t,xs=[x,y,t]∧RD K mg ρ H v x∧RD K mg ρ H w y∧RD K mg ρ H z t:=by
 cases r with
 |cons r1 r2=>
  obtain⟨y,t,rfl,r3,r4⟩:=iH r2
  exact⟨_,_,_,rfl,r1,r3,r4⟩
theorem cU{i j k:Nat}{o:Out (List Val)}{st:Stmt}{ta:L2.TA}(rule:L2.PS X st (L2.az i j k ta))(h:∀σ H Q,tVs X.K X.mg env s o σ H Q→ta σ H Q) :
 L2.PS X st (tSt X.K X.mg env s (o.bind fun vs s1=>if vs.length=[i,j,k].length then .ok (.nx (([i,j,k].zip vs).foldl (fun e p=>e.set p.1 (some p.2)) env)) s1 else .stuck)):=by
 cases o with
 |ok vs s1=>
  show L2.PS X st (tSt X.K X.mg env s (if vs.length=[i,j,k].length then .ok (.nx (([i,j,k].zip vs).foldl (fun e p=>e.set p.1 (some p.2)) env)) s1 else .stuck))
  match vs with
  |[v,w,z]=>
   refine xN rule fun D σ H ⟨ρ,hr,er,wt⟩=>h _ _ _ ⟨ρ,hr,er,fun ρ1 xs H1 x1 hr1 r1=>?_⟩
   obtain⟨x,y,t,rfl,rx,ry,rt⟩:=V3 r1
   exact⟨x,y,t,rfl,wt ρ1 H1 _ x1 hr1 ((((er.mono x1).set i rx).set j ry).set k rt)⟩
  |[]=>exact zK (zE rfl)
  |[_]=>exact zK (zE rfl)
  |[_,_]=>exact zK (zE rfl)
  |_::_::_::_::r=>exact zK (fun _ _ e=>by simp at e)
 |exc _ _ _=>exact zK (zE rfl)
 |stuck=>exact zK (zE rfl)
noncomputable def uSs(K:KF)(mg:Str→Option Value)(Φ:Calls)(G:Str→Option Val)(b:Sms):L2.TS:=fun D σ H=>∃env s,tSt K mg env s (zR Φ G env b s) D σ H
theorem WS{c:Expr}{a b:List Stmt}{o:Out Bool}{f2 f3:Sto→Out Fl}{ta tb:L2.TS}{pos:Pos}(hc:L2.PT X c (tT X.K X.mg env s o))(ha:L2.PSs X a ta)(hb:L2.PSs X b tb)(ia:∀s1 D σ H,tSt X.K X.mg env s1 (f2 s1) D σ H→ta D σ H)(ib:∀s1 D σ H,tSt X.K X.mg env s1 (f3 s1) D σ H→tb D σ H) :
 L2.PS X (.If c a b pos) (tSt X.K X.mg env s (o.bind fun t s1=>if t then f2 s1 else f3 s1)):=by
 cases o with
 |ok v s1=>
  refine xN (L2.W3 hc ha hb) fun D σ H ⟨ρ,hr,er,wt⟩=>⟨ρ,hr,er,fun ρ1 x H1 x1 hr1 r1=>?_⟩
  have wt':=wt.mono x1 hr1
  cases r1
  cases v with
  |true=>exact L2.r8 (ia s1 D σ H1 ⟨ρ1,hr1,er.mono x1,wt'⟩)
  |false=>exact L2.r0 (ib s1 D σ H1 ⟨ρ1,hr1,er.mono x1,wt'⟩)
 |exc _ _ _=>exact zK (zE rfl)
 |stuck=>exact zK (zE rfl)
theorem gH{K:KF}{mg:Str→Option Value}{r:Src}{J:L2.It}{t:Tgt}{g:L2.TG}{body:Env→Sto→Out Fl}{tb:L2.TS}{D:L2.Ends}{ρ:Own}{H:L2.Hp}{σ:L2.St}(W:Walk K mg ρ H r J)(TG:uo K mg t g)(hb:∀env s D σ H,tSt K mg env s (body env s) D σ H→tb D σ H)
 (hr:HR K mg ρ s H) (er:ER K mg ρ H env σ) (w:sL K mg ρ H (w4 r t body r.xs env s) D):L2.qk J g tb D σ H:=by
 refine oj (n:=r.xs.length) (fun i σ2 H2=>∃ρ2 s2 env2,HR K mg ρ2 s2 H2∧ER K mg ρ2 H2 env2 σ2∧Ext ρ H ρ2 H2∧w4 r t body (r.xs.drop i) env2 s2=w4 r t body r.xs env s) ⟨ρ,s,env,hr,er,Ext.refl,by rw[CA]⟩ ?_ ?_
 . rintro σ2 H2 ⟨ρ2,s2,env2,hr2,er2,x2,h2⟩
   rw[List.drop_length,w4]at h2
   split at h2
   . rename_i ho
     rw[←h2]at w
     exact⟨W.stop ρ2 H2 s2 _ x2.mv hr2 ho rfl,w ρ2 H2 σ2 x2 hr2 er2⟩
   . rw[←h2]at w;exact w.elim
 . rintro i σ2 H2 hi ⟨ρ2,s2,env2,hr2,er2,x2,h2⟩
   rw[Bm hi,w4]at h2
   split at h2
   . rename_i ho
     obtain⟨hgo,hy⟩:=W.go ρ2 H2 s2 i (r.xs[i]) x2.mv hr2 ho (Aa hi)
     refine⟨hgo,fun x H3 y=>?_⟩
     obtain⟨hH,rx⟩:=hy x H3 y
     split at h2
     . rw[←h2]at w;exact w.elim
     . rename_i env' he
       have C3:HR K mg ρ2 s2 H3∧Ext ρ2 H2 ρ2 H3:=by
        rcases hH with e|⟨q,o,hq,e⟩
        . subst e;exact⟨hr2,Ext.refl⟩
        . subst e;exact⟨hr2.more hq o,Ext.new hr2 hq o⟩
       have x3:=x2.trans hr2 C3.2
       refine TG ρ2 s2 H3 _ x env2 env' σ2 _ C3.1 rx (er2.mono C3.2) he fun σ4 er4=>hb env' s2 _ σ4 H3 ⟨ρ2,C3.1,er4,?_⟩
       cases hc:body env' s2 with
       |ok fl s5=>
        rw[hc]at h2
        simp only[zL]at h2
        cases fl with
        |nx e=>exact fun ρ5 H5 σ5 x5 hr5 er5=>⟨ρ5,s5,e,hr5,er5,x3.trans C3.1 x5,h2⟩
        |ct e=>exact fun ρ5 H5 σ5 x5 hr5 er5=>⟨ρ5,s5,e,hr5,er5,x3.trans C3.1 x5,h2⟩
        |bk e=>
         simp only[]at h2
         rw[←h2]at w
         exact fun ρ5 H5 σ5 x5 hr5 er5=>w ρ5 H5 σ5 (x3.trans C3.1 x5) hr5 er5
        |rt v=>
         simp only[]at h2
         rw[←h2]at w
         exact fun ρ5 H5 y5 x5 hr5 r5=>w ρ5 H5 y5 (x3.trans C3.1 x5) hr5 r5
       |exc _ _ _=>rw[hc]at h2;simp only[sN]at h2;rw[←h2]at w;exact w.elim
       |stuck=>rw[hc]at h2;simp only[wd]at h2;rw[←h2]at w;exact w.elim
   . rw[←h2]at w;exact w.elim
theorem YC{Φ:Calls}{G:Str→Option Val}{it:Itb}{t:Tgt}{b:Sms}{tg iter:Expr}{body:List Stmt}{g:L2.TG}{pos:Pos}(hx:X.xe=fun _ _=>False)(hc:X.calm=true)(hp:plain iter=true)(hi:∀env s,L2.PI X tg iter (tI (K:=X.K) (mg:=X.mg) env s (yT Φ G env it s)))(hg:L2.PG X tg g)(TG:uo X.K X.mg t g)
 (hb:L2.PSs X body (uSs X.K X.mg Φ G b)):L2.PS X (.For tg iter body [] pos) (tSt X.K X.mg env s ((yT Φ G env it s).bind fun r s1=>w4 r t (fun e s'=>zR Φ G e b s') r.xs env s1)):=by
 have hpass:FG (model X.prog X.w) X.A X.env X.xe:=by rw[hx];exact FG.never
 refine xN (L2.Y5 hpass hc (mm hi) hg hb (yG hp)) fun D σ H ⟨ρ,hr,er,w⟩=>⟨env,s,ρ,hr,er,?_⟩
 cases hv:yT Φ G env it s with
 |ok r s1=>
  rw[hv]at w
  exact fun ρ1 H1 J x1 hr1 W=>gH W TG (fun env s D σ H h=>⟨env,s,h⟩) hr1 (er.mono x1) (w.mono x1 hr1)
 |exc _ _ _=>rw[hv]at w;exact w.elim
 |stuck=>rw[hv]at w;exact w.elim
theorem lO{K:KF}{mg:Str→Option Value}{c:Env→Sto→Out Bool}{body:Env→Sto→Out Fl}{tc:L2.TT}{tb:L2.TS}{D:L2.Ends}{ρ:Own}{H:L2.Hp}{σ:L2.St}{n:Nat}(hc:∀env s σ H Q,tT K mg env s (c env s) σ H Q→tc σ H Q)(hb:∀env s D σ H,tSt K mg env s (body env s) D σ H→tb D σ H)
 (hr:HR K mg ρ s H) (er:ER K mg ρ H env σ) (w:sL K mg ρ H (vI c body n env s) D):L2.eZ tc tb D σ H:=by
 refine⟨fun m σ2 H2=>∃ρ2 s2 env2,HR K mg ρ2 s2 H2∧ER K mg ρ2 H2 env2 σ2∧Ext ρ H ρ2 H2∧vI c body m env2 s2=vI c body n env s,⟨n,ρ,s,env,hr,er,Ext.refl,rfl⟩,?_⟩
 rintro m σ2 H2 ⟨ρ2,s2,env2,hr2,er2,x2,h2⟩
 cases m with
 |zero=>rw[vI]at h2;rw[←h2]at w;exact w.elim
 |succ m=>
  rw[vI]at h2
  refine hc env2 s2 σ2 H2 _ ⟨ρ2,hr2,er2,?_⟩
  cases hv:c env2 s2 with
  |ok t s3=>
   rw[hv]at h2
   simp only[zL]at h2
   intro ρ3 t' H3 x3 hr3 e3
   cases e3
   have x3':=x2.trans hr2 x3
   cases t with
   |true=>
    refine L2.r8 ⟨_,fun σ' H' p=>⟨m,CW m,p⟩,hb env2 s3 _ σ2 H3 ⟨ρ3,hr3,er2.mono x3,?_⟩⟩
    simp only[if_true]at h2
    cases hbd:body env2 s3 with
    |ok fl s5=>
     rw[hbd]at h2
     simp only[zL]at h2
     cases fl with
     |nx e=>exact fun ρ5 H5 σ5 x5 hr5 er5=>⟨ρ5,s5,e,hr5,er5,x3'.trans hr3 x5,h2⟩
     |ct e=>exact fun ρ5 H5 σ5 x5 hr5 er5=>⟨ρ5,s5,e,hr5,er5,x3'.trans hr3 x5,h2⟩
     |bk e=>
      simp only[]at h2
      rw[←h2]at w
      exact fun ρ5 H5 σ5 x5 hr5 er5=>w ρ5 H5 σ5 (x3'.trans hr3 x5) hr5 er5
     |rt v=>
      simp only[]at h2
      rw[←h2]at w
      exact fun ρ5 H5 y5 x5 hr5 r5=>w ρ5 H5 y5 (x3'.trans hr3 x5) hr5 r5
    |exc _ _ _=>rw[hbd]at h2;simp only[sN]at h2;rw[←h2]at w;exact w.elim
    |stuck=>rw[hbd]at h2;simp only[wd]at h2;rw[←h2]at w;exact w.elim
   |false=>
    simp only[AU,if_false]at h2
    rw[←h2]at w
    exact L2.r0 (w ρ3 H3 σ2 x3' hr3 (er2.mono x3))
  |exc _ _ _=>rw[hv]at h2;simp only[sN]at h2;rw[←h2]at w;exact w.elim
  |stuck=>rw[hv]at h2;simp only[wd]at h2;rw[←h2]at w;exact w.elim
theorem gp{Φ:Calls}{G:Str→Option Val}{c:Cn}{b:Sms}{ce:Expr}{body:List Stmt}{pos:Pos}(hx:X.xe=fun _ _=>False)(hc:∀env s,L2.PT X ce (tT X.K X.mg env s (evT Φ G env c s)))(hb:L2.PSs X body (uSs X.K X.mg Φ G b)) :
 L2.PS X (.While ce body [] pos) (tSt X.K X.mg env s (vI (fun e s'=>evT Φ G e c s') (fun e s'=>zR Φ G e b s') oK env s)):=by
 have hpass:FG (model X.prog X.w) X.A X.env X.xe:=by rw[hx];exact FG.never
 exact xN (L2.fv hpass (W7 hc) hb) fun D σ H ⟨ρ,hr,er,w⟩=>lO (fun env s σ H Q h=>⟨env,s,h⟩) (fun env s D σ H h=>⟨env,s,h⟩) hr er w
theorem cX:L2.PSs X [] (tSt X.K X.mg env s (.ok (.nx env) s)):=kX L2.bj fun D σ H ⟨ρ,hr,er,w⟩=>w ρ H σ Ext.refl hr er
theorem gq{st:Stmt}{rest:List Stmt}{o:Out Fl}{f:Env→Sto→Out Fl}{tr:L2.TS}(h1:L2.PS X st (tSt X.K X.mg env s o))(h2:L2.PSs X rest tr)(i2:∀env s D σ H,tSt X.K X.mg env s (f env s) D σ H→tr D σ H) :
 L2.PSs X (st::rest) (tSt X.K X.mg env s (o.bind fun fl s1=>match fl with|.nx e=>f e s1|fl=>.ok fl s1)):=by
 refine kX (L2.fz h1 h2) fun D σ H ⟨ρ,hr,er,w⟩=>⟨ρ,hr,er,?_⟩
 cases o with
 |ok fl s1=>
  simp only[zL]at w
  cases fl with
  |nx e=>exact fun ρ1 H1 σ1 x1 hr1 er1=>i2 e s1 D σ1 H1 ⟨ρ1,hr1,er1,w.mono x1 hr1⟩
  |bk e=>exact w
  |ct e=>exact w
  |rt v=>exact w
 |exc _ _ _=>exact w.elim
 |stuck=>exact w.elim
end
end M
end
section
namespace M
open PySem
mutual
noncomputable def ckS(sc:Scope)(N:List Str):Sm→Stmt→Bool
 |.expr e,st=>(match st with|.Expr x _=>ck sc N e x&&vU x|_=>false)
 |.ret e,st=>(match st with|.Return (some x) _=>ck sc N e x|_=>false)
 |.retN,_=>false
 |.asg i e,st=>(match st with|.Assign [.Name x _] v _=>decide (N[i]?=some x)&&(decide (sc.names.lookup x=some .local)||decide (sc.names.lookup x=some .cell))&&ck sc N e v|_=>false)
 |.asgT is e,st=>(match st with|.Assign [.Tuple ts _ _] v _=>z0 sc N is ts&&ck sc N e v&&notTuple v|_=>false)
 |.par is es,st=>(match st with|.Assign [.Tuple ts _ _] (.Tuple vs _ _) _=>z0 sc N is ts&&ckL sc N es vs&&yV vs&&decide (is.length≤8)&&decide is.Nodup&&decide (ts.length=vs.length)&&(ax sc ts vs||ZC sc ts)|_=>false)
 |.aug i op e,st=>(match st with|.AugAssign (.Name x _) o v _=>decide (N[i]?=some x)&&(decide (sc.names.lookup x=some .local)||decide (sc.names.lookup x=some .cell))&&decide (o=op.op)&&ck sc N e v&&!(decide (op=.pow)||decide (op=.shl)||decide (op=.shr)||decide (op=.band))|_=>false)
 |.setD o i e,st=>(match st with|.Assign [.Subscript a b _] v _=>ck sc N o a&&ck sc N i b&&ck sc N e v&&vU v|_=>false)
 |.setIx o i e,st=>(match st with|.Assign [.Subscript a b _] v _=>ck sc N o a&&ck sc N i b&&ck sc N e v&&plain b|_=>false)
 |.ifS c a b,st=>(match st with|.If t x y _=>ckC sc N c t&&rm sc N a x&&rm sc N b y|_=>false)
 |.forS t it b,st=>(match st with|.For tg iter body [] _=>ckT sc N t tg&&ckI sc N it iter tg&&rm sc N b body&&plain iter|_=>false)
 |.whileS c b,st=>(match st with|.While t body [] _=>ckC sc N c t&&rm sc N b body|_=>false)
 |.pass,_=>false
 |.brk,_=>false
 |.cont,_=>false
 |.raise _,_=>true
noncomputable def rm(sc:Scope)(N:List Str):Sms→List Stmt→Bool
 |.nil,ss=>(match ss with|[]=>true|_=>false)
 |.cons c cs,ss=>(match ss with|t::ts=>ckS sc N c t&&rm sc N cs ts|_=>false)
end
structure OkF(T:Tbl)(n:Nat)(sc:Scope)(N:List Str)(X:L2.Cx):Prop where
 ok:Ok T n sc N X
 esc:X.env.scope=sc
 bk:X.env.blockKind=.function
section
variable {T:Tbl}{n:Nat}
def JS(T:Tbl)(n:Nat)(a:Sm):Prop:=∀(sc:Scope) (N:List Str) (X:L2.Cx) (st:Stmt),OkF T n sc N X→ckS sc N a st=true→∀env s,L2.PS X st (tSt X.K X.mg env s (exS (zF T n) T.gl env a s))
def JSs(T:Tbl)(n:Nat)(a:Sms):Prop:=∀(sc:Scope) (N:List Str) (X:L2.Cx) (st:List Stmt),OkF T n sc N X→rm sc N a st=true→∀env s,L2.PSs X st (tSt X.K X.mg env s (zR (zF T n) T.gl env a s))
theorem nV{X:L2.Cx}{b:Sms}{st:List Stmt}{Φ:Calls}{G:Str→Option Val}(h:∀env s,L2.PSs X st (tSt X.K X.mg env s (zR Φ G env b s))):L2.PSs X st (uSs X.K X.mg Φ G b):=fun pins s σ H D I ⟨env,t,q⟩=>h env t pins s σ H D I q
theorem cG{e:Ex}:JS T n (.expr e):=by
 intro sc N X st o h env s
 simp only[ckS]at h
 split at h
 . simp only[Ab]at h
   exact cQ h.2 (jE T n e _ _ _ _ o.ok h.1 env s)
 . cases h
theorem Z0{e:Ex}:JS T n (.ret e):=by
 intro sc N X st o h env s
 simp only[ckS]at h
 split at h
 . exact YD (jE T n e _ _ _ _ o.ok h env s)
 . cases h
theorem rS{elt:Expr}{gens:List G7}{csc:Scope}{cpos py:Pos}{y:Str}{l:Nat}{env:Ce}:∃b,Eo (.ListComp elt gens csc cpos) (some (.Name y py)) l env=pure b:=⟨_,rfl⟩
theorem Zw{i:Nat}{e:Ex}:JS T n (.asg i e):=by
 intro sc N X st o h env s
 simp only[ckS]at h
 split at h
 . rename_i x px v pos
   simp only[Ab,decide_eq_true_eq,A5]at h
   obtain⟨⟨h1,h2⟩,h3⟩:=h
   obtain⟨l1,l2⟩:=o.ok.scp.loc x h2
   have hN:X.N.Nodup:=by rw[o.ok.scp.hN];exact o.ok.scp.nd
   have hi:X.N[i]?=some x:=by rw[o.ok.scp.hN];exact h1
   by_cases hn:vU v=true
   . exact mK (L2.m3 hN hi l1 (jE T n e _ _ _ _ o.ok h3 env s) (rT hn) l2) fun σ H Q q=>q
   . -- a comprehension
     cases e with
     |comp m N' fr elt t it ifs=>
      simp only[ck]at h3
      split at h3
      . rename_i x' tg iter fs csc cpos
        simp only[Ab,decide_eq_true_eq]at h3
        obtain⟨⟨⟨⟨⟨⟨c1,c2⟩,c3⟩,c4⟩,c5⟩,c6⟩,c7⟩:=h3
        have S:=lh o.ok.scp c1
        have oc:=o.ok.comp S c2
        obtain⟨g,pg,tg'⟩:∃g,(∀C s0 H0 ex,L2.PG (X.comp N' csc C s0 H0 ex) tg g)∧uo X.K X.mg t g:=by
         cases t with
         |nm i=>
          cases tg with
          |Name y p=>
           simp only[ckT,Ab,A5,decide_eq_true_eq]at c3
           exact⟨_,fun C s0 H0 ex=>qh (oc C s0 H0 ex).scp c3.1 c3.2,ud⟩
          |_=>cases c3
         |nms is=>
          cases tg with
          |Tuple es k p=>
           simp only[ckT,Ab,decide_eq_true_eq]at c3
           refine⟨_,fun C s0 H0 ex=>?_,wD (is:=is)⟩
           obtain⟨a,b,c⟩:=y1 (oc C s0 H0 ex).scp c3.1
           exact L2.v8 (X:=X.comp N' csc C s0 H0 ex) o.ok.calm a b c
          |_=>cases c3
        have hpi:L2.PI X tg iter (uI X.K X.mg (zF T n) T.gl it):=mm fun env s=>jI T n it _ _ _ _ _ o.ok c4 env s
        have hts:∀C s0 H0 ex,L2.PTs (X.comp N' csc C s0 H0 ex) fs (uTs X.K X.mg (zF T n) T.gl ifs):=fun C s0 H0 ex=>(jCs T n ifs _ _ _ _ (oc C s0 H0 ex) c5).2.2
        have hel:∀C s0 H0 ex,L2.PE (X.comp N' csc C s0 H0 ex) x' (uE X.K X.mg (zF T n) T.gl elt):=fun C s0 H0 ex=>bT (X:=X.comp N' csc C s0 H0 ex) fun env s=>jE T n elt _ _ _ _ (oc C s0 H0 ex) c6 env s
        have rule:L2.PS X (.Assign [.Name x px] (.ListComp x' [⟨tg,iter,fs,0⟩] csc cpos) pos) (L2.qG (L2.vL fr (uI X.K X.mg (zF T n) T.gl it) g (uTs X.K X.mg (zF T n) T.gl ifs) fun acc=>L2.vn acc (uE X.K X.mg (zF T n) T.gl elt)) (L2.vD i)):=by
         obtain⟨b,hb⟩:=rS (elt:=x') (gens:=[⟨tg,iter,fs,0⟩]) (csc:=csc) (cpos:=cpos) (y:=x) (py:=px) (l:=pos.line) (env:=X.env)
         cases b with
         |true=>exact L2.bb o.ok.calm S hpi pg hts hel hN hi l1 hb l2 (yG c7)
         |false=>exact L2.m3 hN hi l1 (L2.kS o.ok.calm S hpi pg hts hel (yG c7)) hb l2
        refine mK (o:=evE (zF T n) T.gl env (.comp m N' fr elt t it ifs) s) rule fun σ H Q hq=>vQ (env:=env) (s:=s) (chk:=false) (m:=m) (body:=vo (zF T n) T.gl elt ifs) tg' wK (fun acc ρ0 H0 hn=>rj hn) ?_ fun _ r s1 p s2 hl=>?_
        . simp only[AU,false_implies,if_true];exact hq
        . have:=tN hl
          simpa using this
      . cases h3
     |comp2 m N' fr elt t it ifs t2 it2 ifs2=>
      simp only[ck]at h3
      split at h3
      . rename_i x' tg iter fs tg2 iter2 fs2 csc cpos
        simp only[Ab,decide_eq_true_eq]at h3
        obtain⟨⟨⟨⟨⟨⟨⟨⟨⟨⟨c1,c2⟩,c3⟩,c4⟩,c5⟩,c6⟩,c7⟩,c8⟩,c9⟩,c10⟩,c11⟩:=h3
        have S:=lh o.ok.scp c1
        have oc:=o.ok.comp S c2
        have tgt:∀(t:Tgt) (tg:Expr),ckT csc N' t tg=true→∃g,(∀C s0 H0 ex,L2.PG (X.comp N' csc C s0 H0 ex) tg g)∧uo X.K X.mg t g:=by
         intro t tg c3
         cases t with
         |nm i=>
          cases tg with
          |Name y p=>
           simp only[ckT,Ab,A5,decide_eq_true_eq]at c3
           exact⟨_,fun C s0 H0 ex=>qh (oc C s0 H0 ex).scp c3.1 c3.2,ud⟩
          |_=>cases c3
         |nms is=>
          cases tg with
          |Tuple es k p=>
           simp only[ckT,Ab,decide_eq_true_eq]at c3
           refine⟨_,fun C s0 H0 ex=>?_,wD (is:=is)⟩
           obtain⟨a,b,c⟩:=y1 (oc C s0 H0 ex).scp c3.1
           exact L2.v8 (X:=X.comp N' csc C s0 H0 ex) o.ok.calm a b c
          |_=>cases c3
        obtain⟨g,pg,tg'⟩:=tgt t tg c3
        obtain⟨g2,pg2,tg2'⟩:=tgt t2 tg2 c6
        have hpi:L2.PI X tg iter (uI X.K X.mg (zF T n) T.gl it):=mm fun env s=>jI T n it _ _ _ _ _ o.ok c4 env s
        have hts:∀C s0 H0 ex,L2.PTs (X.comp N' csc C s0 H0 ex) fs (uTs X.K X.mg (zF T n) T.gl ifs):=fun C s0 H0 ex=>(jCs T n ifs _ _ _ _ (oc C s0 H0 ex) c5).2.2
        have hpi2:∀C s0 H0 ex,L2.PI (X.comp N' csc C s0 H0 ex) tg2 iter2 (uI X.K X.mg (zF T n) T.gl it2):=fun C s0 H0 ex=>mm (X:=X.comp N' csc C s0 H0 ex) fun env s=>jI T n it2 _ _ _ _ _ (oc C s0 H0 ex) c7 env s
        have hts2:∀C s0 H0 ex,L2.PTs (X.comp N' csc C s0 H0 ex) fs2 (uTs X.K X.mg (zF T n) T.gl ifs2):=fun C s0 H0 ex=>(jCs T n ifs2 _ _ _ _ (oc C s0 H0 ex) c8).2.2
        have hel:∀C s0 H0 ex,L2.PE (X.comp N' csc C s0 H0 ex) x' (uE X.K X.mg (zF T n) T.gl elt):=fun C s0 H0 ex=>bT (X:=X.comp N' csc C s0 H0 ex) fun env s=>jE T n elt _ _ _ _ (oc C s0 H0 ex) c9 env s
        have rule:L2.PS X (.Assign [.Name x px] (.ListComp x' [⟨tg,iter,fs,0⟩,⟨tg2,iter2,fs2,0⟩] csc cpos) pos) (L2.qG (L2.vL fr (uI X.K X.mg (zF T n) T.gl it) g (uTs X.K X.mg (zF T n) T.gl ifs) fun acc=>L2.rW (uI X.K X.mg (zF T n) T.gl it2) g2 (uTs X.K X.mg (zF T n) T.gl ifs2) (L2.vn acc (uE X.K X.mg (zF T n) T.gl elt))) (L2.vD i)):=by
         obtain⟨b,hb⟩:=rS (elt:=x') (gens:=[⟨tg,iter,fs,0⟩,⟨tg2,iter2,fs2,0⟩]) (csc:=csc) (cpos:=cpos) (y:=x) (py:=px) (l:=pos.line) (env:=X.env)
         cases b with
         |true=>exact L2.fu o.ok.calm S hpi pg hts hpi2 pg2 hts2 hel hN hi l1 hb l2 (yG c10) (fun env=>yG c11)
         |false=>exact L2.m3 hN hi l1 (L2.nO o.ok.calm S hpi pg hts hpi2 pg2 hts2 hel (yG c10) (fun env=>yG c11)) hb l2
        refine mK (o:=evE (zF T n) T.gl env (.comp2 m N' fr elt t it ifs t2 it2 ifs2) s) rule fun σ H Q hq=>vQ (env:=env) (s:=s) (chk:=true) (m:=m) (body:=tM (zF T n) T.gl elt ifs t2 it2 ifs2) tg' ue (fun acc ρ0 H0 hn=>qu hn tg2') ?_ fun z=>by cases z
        simp only[true_implies];exact hq
      . cases h3
     |_=>exfalso;apply hn;first|(simp only[ck,qR]at h3;cases h3;done)|(simp only[ck,qR]at h3;split at h3<;>first|rfl|(cases h3;done))
 . cases h
theorem cF{is:List Nat}{e:Ex}:JS T n (.asgT is e):=by
 intro sc N X st o h env s
 simp only[ckS]at h
 split at h
 . rename_i ts k p v pos
   simp only[Ab]at h
   obtain⟨⟨h1,h2⟩,h3⟩:=h
   obtain⟨a,b,c⟩:=y1 o.ok.scp h1
   exact kJ (t:=.nms is) wD (L2.mz (jE T n e _ _ _ _ o.ok h2 env s) (L2.v8 o.ok.calm a b c) vY (lD h3)) fun σ H Q q=>q
 . cases h
theorem Zz{is:List Nat}{es:Exs}:JS T n (.par is es):=by
 intro sc N X st o h env s
 simp only[ckS]at h
 split at h
 . rename_i ts k p vs k2 p2 pos
   simp only[Ab,decide_eq_true_eq,A5]at h
   obtain⟨⟨⟨⟨⟨⟨h1,h2⟩,h3⟩,h4⟩,h5⟩,h6⟩,h7⟩:=h
   have hes:=(jL T n es _ _ _ _ o.ok h2).1 h3 env s
   have hN:X.N.Nodup:=by rw[o.ok.scp.hN];exact o.ok.scp.nd
   have kind:∀x,X.env.kindOf x=sc.names.lookup x:=fun x=>by show X.env.scope.names.lookup x=_;rw[o.esc]
   rcases h7 with h7|h7
   . unfold ax at h7
     split at h7
     . rename_i x px y py
       simp only[Ab,decide_eq_true_eq,B5]at h7
       obtain⟨⟨⟨⟨⟨q1,q2⟩,q3⟩,q4⟩,q5⟩,q6⟩:=h7
       match is,h1,h5 with
       |[i,j],h1,h5=>
        simp only[z0,Ab,decide_eq_true_eq,A5]at h1
        obtain⟨⟨i1,i2⟩,⟨j1,j2⟩,_⟩:=h1
        match vs,h6 with
        |[a,b],_=>
         have hij:i≠j:=by rw[BE]at h5;exact fun z=>h5.1 (by rw[z];exact A1.mpr rfl)
         exact cT (L2.Y6 o.ok.calm hN (by rw[o.ok.scp.hN];exact i1) (by rw[o.ok.scp.hN];exact j1) hij (by rw[o.esc];exact q1) (by rw[o.esc];exact q2) hes
          (nq o.bk (by rw[kind];exact q1) (by rw[kind];exact q2) q3 q4 h3 q5 q6) vY) fun σ H Q q=>q
       |[],h1,_=>exact absurd h1 (by simp[z0])
       |[_],h1,_=>exact absurd h1 (by simp[z0])
       |_::_::_::_,h1,_=>exact absurd h1 (by simp[z0])
     . rename_i x px y py z pz
       simp only[Ab,decide_eq_true_eq,B5]at h7
       obtain⟨⟨⟨⟨⟨⟨⟨⟨⟨q1,q2⟩,q3⟩,q4⟩,q5⟩,q6⟩,q7⟩,q8⟩,q9⟩,q10⟩:=h7
       match is,h1,h5 with
       |[i,j,l],h1,h5=>
        simp only[z0,Ab,decide_eq_true_eq,A5]at h1
        obtain⟨⟨i1,i2⟩,⟨j1,j2⟩,⟨l1,l2⟩,_⟩:=h1
        match vs,h6 with
        |[a,b,c],_=>
         simp only[BE,AF,Dx,or_false,not_or]at h5
         exact cU (L2.bh o.ok.calm hN (by rw[o.ok.scp.hN];exact i1) (by rw[o.ok.scp.hN];exact j1) (by rw[o.ok.scp.hN];exact l1) h5.1.1 h5.1.2 h5.2.1 (by rw[o.esc];exact q1) (by rw[o.esc];exact q2) (by rw[o.esc];exact q3) hes
          (qF o.bk (by rw[kind];exact q1) (by rw[kind];exact q2) (by rw[kind];exact q3) q4 q5 q6 q7 q8 h3 q9 q10) vY) fun σ H Q q=>q
       |[],h1,_=>exact absurd h1 (by simp[z0])
       |[_],h1,_=>exact absurd h1 (by simp[z0])
       |[_,_],h1,_=>exact absurd h1 (by simp[z0])
       |_::_::_::_::_,h1,_=>exact absurd h1 (by simp[z0])
     . cases h7
   . have hun:(∃x p,Hg x p∈ts∧X.env.kindOf x≠some .local)∨3<ts.length:=by
      unfold ZC at h7
      simp only[A5,decide_eq_true_eq,Cd]at h7
      rcases h7 with⟨e,hm,he⟩|h7
      . cases e with
        |Name x px=>
         simp only[decide_eq_true_eq]at he
         exact .inl ⟨x,px,hm,by rw[kind];exact he⟩
        |_=>cases he
      . exact .inr h7
     obtain⟨a,b,c⟩:=y1 o.ok.scp h1
     have rule:=kJ (t:=.nms is) (env:=env) (s:=s) wD (L2.mz (pos:=pos) (gk (k:=k2) (pos:=p2) hes) (L2.v8 (k:=k) (pos:=p) o.ok.calm a b c) vY (iV hun)) fun σ H Q q=>q
     have e:((ya (zF T n) T.gl env es s).bind fun vs s1=>if vs.length=is.length then (.ok:Fl→Sto→Out Fl) (.nx ((is.zip vs).foldl (fun e p=>e.set p.1 (some p.2)) env)) s1 else .stuck)=(((ya (zF T n) T.gl env es s).bind fun vs s1=>if vs.length≤zQ then (.ok:Val→Sto→Out Val) (.tup vs) s1 else .stuck).bind fun v s1=>match yW (.nms is) v env with|some env'=>(.ok:Fl→Sto→Out Fl) (.nx env') s1|Ad=>.stuck):=by
      cases ya (zF T n) T.gl env es s with
      |ok ws s1=>
       simp only[zL]
       by_cases hl:ws.length=is.length
       . have hz:ws.length≤zQ:=by rw[hl];exact AB h4 (by decide)
         simp only[if_pos hl,if_pos hz,zL,yW]
       . rw[if_neg hl]
         by_cases hz:ws.length≤zQ
         . simp only[if_neg hl,if_pos hz,zL,yW]
         . simp only[if_neg hz,wd]
      |exc _ _ _=>rfl
      |stuck=>rfl
     show L2.PS X _ (tSt X.K X.mg env s ((ya (zF T n) T.gl env es s).bind fun vs s1=>if vs.length=is.length then .ok (.nx ((is.zip vs).foldl (fun e p=>e.set p.1 (some p.2)) env)) s1 else .stuck))
     rw[e]
     exact rule
 . cases h
theorem Zx{i:Nat}{op:Bop}{e:Ex}:JS T n (.aug i op e):=by
 intro sc N X st o h env s
 simp only[ckS]at h
 split at h
 . rename_i x px o' v pos
   simp only[Ab,decide_eq_true_eq,A5,B5,D8,decide_eq_false_iff_not]at h
   obtain⟨⟨⟨⟨h1,h2⟩,rfl⟩,h3⟩,h4⟩:=h
   obtain⟨l1,l2⟩:=o.ok.scp.loc x h2
   exact YB (f:=evE (zF T n) T.gl env e) (by rintro (z|z|z|z);exact h4.1.1.1 z;exact h4.1.1.2 z;exact h4.1.2 z;exact h4.2 z) (by rw[o.ok.scp.hN];exact o.ok.scp.nd) (by rw[o.ok.scp.hN];exact h1) l1 l2 fun s=>jE T n e _ _ _ _ o.ok h3 env s
 . cases h
theorem gX{a i e:Ex}:JS T n (.setIx a i e):=by
 intro sc N X st o h env s
 simp only[ckS]at h
 split at h
 . simp only[Ab]at h
   exact gn h.2 (jE T n e _ _ _ _ o.ok h.1.2 env s) (fun s1=>jE T n a _ _ _ _ o.ok h.1.1.1 env s1) fun s1=>jE T n i _ _ _ _ o.ok h.1.1.2 env s1
 . cases h
theorem WJ{c:Cn}{a b:Sms}(ja:JSs T n a)(jb:JSs T n b):JS T n (.ifS c a b):=by
 intro sc N X st o h env s
 simp only[ckS]at h
 split at h
 . simp only[Ab]at h
   exact WS (jC T n c _ _ _ _ o.ok h.1.1 env s) (nV fun env s=>ja _ _ _ _ o h.1.2 env s) (nV fun env s=>jb _ _ _ _ o h.2 env s) (fun s1 D σ H q=>⟨env,s1,q⟩) fun s1 D σ H q=>⟨env,s1,q⟩
 . cases h
theorem Zy{t:Tgt}{it:Itb}{b:Sms}(jb:JSs T n b):JS T n (.forS t it b):=by
 intro sc N X st o h env s
 simp only[ckS]at h
 split at h
 . simp only[Ab]at h
   obtain⟨g,pg,tg⟩:=W0 o.ok.scp o.ok.calm h.1.1.1
   exact YC o.ok.xe o.ok.calm h.2 (fun env s=>jI T n it _ _ _ _ _ o.ok h.1.1.2 env s) pg tg (nV fun env s=>jb _ _ _ _ o h.1.2 env s)
 . cases h
theorem gY{c:Cn}{b:Sms}(jb:JSs T n b):JS T n (.whileS c b):=by
 intro sc N X st o h env s
 simp only[ckS]at h
 split at h
 . simp only[Ab]at h
   exact gp o.ok.xe (fun env s=>jC T n c _ _ _ _ o.ok h.1 env s) (nV fun env s=>jb _ _ _ _ o h.2 env s)
 . cases h
theorem cH{a i e:Ex}:JS T n (.setD a i e):=by
 intro sc N X st o h env s
 simp only[ckS]at h
 split at h
 . simp only[Ab]at h
   exact cV o.ok.room h.2 (jE T n e _ _ _ _ o.ok h.1.2 env s) (fun s1=>jE T n a _ _ _ _ o.ok h.1.1.1 env s1) fun s1=>jE T n i _ _ _ _ o.ok h.1.1.2 env s1
 . cases h
theorem gW{e:Ex}:JS T n (.raise e):=fun sc N X st o h env s=>zK (zE rfl)
theorem cI:JSs T n .nil:=by
 intro sc N X st o h env s
 simp only[rm]at h
 split at h
 . exact cX
 . cases h
theorem gZ{c:Sm}{cs:Sms}(jc:JS T n c)(jcs:JSs T n cs):JSs T n (.cons c cs):=by
 intro sc N X st o h env s
 simp only[rm]at h
 split at h
 . simp only[Ab]at h
   exact gq (f:=fun e s=>zR (zF T n) T.gl e cs s) (jc _ _ _ _ o h.1 env s) (nV fun env s=>jcs _ _ _ _ o h.2 env s) fun env s D σ H q=>⟨env,s,q⟩
 . cases h
end
section
variable (T:Tbl)(n:Nat)
mutual
theorem jS:∀a:Sm,JS T n a
 |.expr _=>cG
 |.ret _=>Z0
 |.retN=>fun sc N X e o h=>by cases h
 |.asg _ _=>Zw
 |.asgT _ _=>cF
 |.par _ _=>Zz
 |.aug _ _ _=>Zx
 |.setIx _ _ _=>gX
 |.setD _ _ _=>cH
 |.ifS _ a b=>WJ (jSs a) (jSs b)
 |.forS _ _ b=>Zy (jSs b)
 |.whileS _ b=>gY (jSs b)
 |.pass=>fun sc N X e o h=>by cases h
 |.brk=>fun sc N X e o h=>by cases h
 |.cont=>fun sc N X e o h=>by cases h
 |.raise _=>gW
theorem jSs:∀a:Sms,JSs T n a
 |.nil=>cI
 |.cons c cs=>gZ (jS c) (jSs cs)
end
end
end M
end
section
namespace M
open PySem
mutual
noncomputable def ql(n:Nat):Val→Bool
 |.ref i|.dref i=>decide (i<n)
 |.tup vs=>wL n vs
 |.lst vs=>wL n vs
 |.none|.bool _|.int _|.str _|.dct0|.ctup _|.scr _|.fn _|.ty _=>true
noncomputable def wL(n:Nat):List Val→Bool
 |[]=>true
 |v::vs=>ql n v&&wL n vs
end
mutual
theorem uV{n:Nat}{v:Val}(h:v.noRef=true):ql n v=true:=by
 cases v with
 |ref _=>cases h
 |dref _=>cases h
 |tup vs=>exact wZ (vs:=vs) h
 |lst vs=>exact wZ (vs:=vs) h
 |_=>rfl
theorem wZ{n:Nat}{vs:List Val}(h:zl vs=true):wL n vs=true:=by
 cases vs with
 |nil=>rfl
 |cons v vs=>
  rw[zl,Ab]at h
  rw[wL,uV h.1,wZ h.2];rfl
end
section
variable {K:KF}{mg:Str→Option Value}
mutual
theorem RD.refs{ρ:Own}{H:L2.Hp}{v:Val}{x:L2.V}(q:RD K mg ρ H v x):ql ρ.o.length v=true:=by
 cases q with
 |tup _ _ r=>exact RDs.refs r
 |lst _ _ r=>exact RDs.refs r
 |ref e _=>exact decide_eq_true (Ap.mp e).1
 |dref e _=>exact decide_eq_true (Ap.mp e).1
 |_=>rfl
theorem RDs.refs{ρ:Own}{H:L2.Hp}{v:List Val}{x:List L2.V}(q:RDs K mg ρ H v x):wL ρ.o.length v=true:=by
 cases q with
 |nil=>rfl
 |cons r rs=>rw[wL,RD.refs r,RDs.refs rs];rfl
end
structure Cut(ρ ρ':Own):Prop where
 pre:∃new,ρ'.o=ρ.o++new
 hid:ρ'.h=ρ.h
theorem Cut.no{ρ ρ':Own}(c:Cut ρ ρ'){a:Addr}(n:ρ'.no a):ρ.no a:=by
 obtain⟨new,e⟩:=c.pre
 exact⟨fun h=>n.1 (by rw[e];exact BC _ h),by rw[←c.hid];exact n.2⟩
mutual
theorem RD.vg{ρ ρ':Own}{H:L2.Hp}(c:Cut ρ ρ'){v:Val}{x:L2.V}(q:RD K mg ρ' H v x)(h:ql ρ.o.length v=true):RD K mg ρ H v x:=by
 have at':∀{i:Nat} {a:Addr},ρ'.o[i]?=some a→decide (i<ρ.o.length)=true→ρ.o[i]?=some a:=fun{i a} e h=>by
  obtain⟨new,e'⟩:=c.pre
  rw[e',AQ (of_decide_eq_true h)]at e
  exact e
 cases q with
 |none=>exact .none
 |bool b=>exact .bool b
 |int i=>exact .int i
 |str t=>exact .str t
 |tup n e r=>exact .tup (c.no n) e (RDs.vg c r h)
 |lst n e r=>exact .lst (c.no n) e (RDs.vg c r h)
 |dct0 n e=>exact .dct0 (c.no n) e
 |ctup g=>exact .ctup g
 |scr g=>
  refine .scr ?_
  rcases g with⟨n,g⟩|g
  . exact .inl ⟨c.no n,g⟩
  . exact .inr g
 |ref e k=>exact .ref (at' e h) k
 |dref e k=>exact .dref (at' e h) k
 |fn e=>exact .fn e
 |ty n=>exact .ty n
theorem RDs.vg{ρ ρ':Own}{H:L2.Hp}(c:Cut ρ ρ'){v:List Val}{x:List L2.V}(q:RDs K mg ρ' H v x)(h:wL ρ.o.length v=true):RDs K mg ρ H v x:=by
 cases q with
 |nil=>exact .nil
 |cons r rs=>
  rw[wL,Ab]at h
  exact .cons (RD.vg c r h.1) (RDs.vg c rs h.2)
end
noncomputable def pI:Cel→List Val
 |.lst vs=>vs
 |.dS kvs=>kvs.map (·.2)
 |.dT kvs=>kvs.map (·.2)
theorem CR.vals{ρ:Own}{H:L2.Hp}{a:Addr}{c:Cel}(h:CR K mg ρ H a c):∃xs,RDs K mg ρ H (pI c) xs:=by
 cases c with
 |lst vs=>obtain⟨xs,_,r⟩:=h;exact⟨_,r⟩
 |dS kvs=>obtain⟨xs,_,_,r⟩:=h;exact⟨_,r⟩
 |dT kvs=>obtain⟨xs,_,_,r⟩:=h;exact⟨_,r⟩
theorem jF{c:Cel}(h:c.noRef=true):zl (pI c)=true:=by cases c<;>exact h
theorem CR.vg{ρ ρ':Own}{H:L2.Hp}{a:Addr}(c:Cut ρ ρ'){o:Cel}(h:CR K mg ρ' H a o)(hb:wL ρ.o.length (pI o)=true):CR K mg ρ H a o:=by
 cases o with
 |lst vs=>obtain⟨xs,e,r⟩:=h;exact⟨xs,e,RDs.vg c r hb⟩
 |dS kvs=>obtain⟨xs,e,k,r⟩:=h;exact⟨xs,e,k,RDs.vg c r hb⟩
 |dT kvs=>obtain⟨xs,e,k,r⟩:=h;exact⟨xs,e,k,RDs.vg c r hb⟩
theorem p0{α β:Type}:∀{a b:List (α × β)},a.map (·.1)=b.map (·.1)→a.map (·.2)=b.map (·.2)→a=b
 |[],[],_,_=>rfl
 |[],_::_,h,_=>by cases h
 |_::_,[],h,_=>by cases h
 |x::xs,y::ys,h1,h2=>by
  rw[AA,AA]at h1 h2
  injection h1 with a1 a2
  injection h2 with b1 b2
  rw[p0 a2 b2,Es a1 b1]
theorem nH:∀{s s':Sto} {i:Nat} {o':Cel},xg s s'=true→i<s.length→s'[i]?=some o'→o'.noRef=true∨s[i]?=some o'
 |[],_,_,_,_,h,_=>by cases h
 |o::r,[],_,_,h,_,_=>by cases h
 |o::r,o'::r',0,q,h,_,e=>by
  rw[xg,Ab,A5]at h
  simp only[List.getElem?_cons_zero,Option.some.injEq]at e
  subst e
  rcases h.1 with z|z
  . exact .inl z
  . right
    cases o' with
    |lst a=>cases o with
     |lst b=>simp only[Cel.beq]at z;rw[uG z];rfl
     |_=>cases z
    |dS a=>cases o with
     |dS b=>simp only[Cel.beq,Ab,decide_eq_true_eq]at z;rw[p0 z.1 (uG z.2)];rfl
     |_=>cases z
    |dT a=>cases o with
     |dT b=>simp only[Cel.beq,Ab,decide_eq_true_eq]at z;rw[p0 z.1 (uG z.2)];rfl
     |_=>cases z
 |o::r,o'::r',i+1,q,h,hi,e=>by
  rw[xg,Ab]at h
  have:=nH (i:=i) h.2 (by simpa using hi) (by simpa using e)
  simpa using this
noncomputable def Y4:Val→Bool
 |.ref _|.dref _|.tup _=>false
 |.none|.bool _|.int _|.str _|.dct0|.ctup _|.scr _|.fn _|.ty _|.lst _=>true
theorem di{n:Nat}{s:Sto}{k i:Nat}:wg n s k (.ref i)=if i<n then some (Val.ref i) else match s[i]? with
 |some (.lst vs)=>if zl vs then some (.lst vs) else Ad
 |_=>Ad:=by cases k<;>rfl
theorem gJ{n:Nat}{s:Sto}{k i:Nat}:wg n s k (.dref i)=if i<n then some (Val.dref i) else Ad:=by cases k<;>rfl
theorem gK{n:Nat}{s:Sto}{k:Nat}{v:Val}(h:Y4 v=true):wg n s k v=if v.noRef then some v else Ad:=by
 cases v with
 |ref _=>cases h
 |dref _=>cases h
 |tup _=>cases h
 |_=>cases k<;>rfl
theorem dh{n:Nat}{s:Sto}{k:Nat}:uN n s k []=some []:=by cases k<;>rfl
mutual
theorem sX{ρ ρ':Own}{H:L2.Hp}{s:Sto}(c:Cut ρ ρ')(hr:HR K mg ρ' s H){k:Nat}{v v':Val}{x:L2.V}(r:RD K mg ρ' H v x)(h:wg ρ.o.length s k v=some v'):RD K mg ρ H v' x:=by
 have sv:∀{w:Val},RD K mg ρ' H w x→(if w.noRef then some w else Ad)=some v'→RD K mg ρ H v' x:=fun{w} r h=>by
  split at h
  . rename_i hn;cases h;exact RD.vg c r (uV hn)
  . cases h
 cases v with
 |ref i=>
  rw[di]at h
  cases r with
  |ref e hkd=>
   by_cases hi:i<ρ.o.length
   . rw[if_pos hi]at h
     cases h
     exact RD.vg c (.ref e hkd) (by rw[ql];exact decide_eq_true hi)
   . rw[if_neg hi]at h
     split at h
     . rename_i vs hs
       split at h
       . rename_i hn
         cases h
         obtain⟨a,xs,e1,e2,q⟩:=hr.obj i vs hs
         rw[e]at e1;cases e1
         obtain⟨new,e'⟩:=c.pre
         have hm:=AM e
         refine .lst ⟨fun hm'=>?_,fun hh=>?_⟩ e2 (RDs.vg c q (wZ hn))
         . obtain⟨j,hj,ej⟩:=Bq hm'
           have ej':ρ'.o[j]?=ρ'.o[i]?:=by rw[e,e',AQ hj,Aa hj,ej]
           have:=fI hr.nd e (ej'.trans e)
           exact hi (this▸hj)
         . exact(hr.hid _ (by rw[c.hid];exact hh)).2 hm
       . cases h
     . cases h
 |dref i=>
  rw[gJ]at h
  split at h
  . rename_i hi
    cases h
    exact RD.vg c r (by rw[ql];exact decide_eq_true hi)
  . cases h
 |tup vs=>
  cases k with
  |zero=>exact sv r h
  |succ k=>
   rw[wg,AX]at h
   obtain⟨ws,h1,rfl⟩:=h
   cases r with
   |tup n e q=>exact .tup (c.no n) e (sW c hr q h1)
 |_=>exact sv r ((gK rfl).symm.trans h)
theorem sW{ρ ρ':Own}{H:L2.Hp}{s:Sto}(c:Cut ρ ρ')(hr:HR K mg ρ' s H){k:Nat}{v v':List Val}{x:List L2.V}(r:RDs K mg ρ' H v x)(h:uN ρ.o.length s k v=some v'):RDs K mg ρ H v' x:=by
 cases r with
 |nil=>rw[dh]at h;cases h;exact .nil
 |@cons v _ vs _ r1 r2=>
  cases k with
  |zero=>cases h
  |succ k=>
   rw[uN]at h
   split at h
   . rename_i a b ha hb
     cases h
     refine .cons ?_ (sW c hr r2 hb)
     by_cases hn:v.noRef=true
     . rw[if_pos hn]at ha;cases ha;exact RD.vg c r1 (uV hn)
     . rw[if_neg hn]at ha;exact sX c hr r1 ha
   . cases h
end
theorem ou{F:Fn}{ρ ρ':Own}{H H':L2.Hp}{s s1:Sto}{v:Val}{x:L2.V}{Q:L2.VK}(h0:HR K mg ρ s H)(w:yS K mg (RD K mg) ρ H (leave F s v s1) Q)(X:Ext ρ H ρ' H')(hr:HR K mg ρ' s1 H')(r:RD K mg ρ' H' v x):Q x H':=by
 unfold leave at w
 by_cases hk:F.keep=true
 . rw[if_pos hk]at w;exact w ρ' x H' X hr r
 . rw[if_neg hk]at w
   by_cases ho:xg s s1=true
   . rw[if_pos ho]at w
     have c:Cut ρ ρ':=⟨by obtain⟨new,e,_⟩:=X.pre;exact⟨new,e⟩,X.hid⟩
     cases hf:freeze s.length s1 v with
     |none=>rw[hf]at w;exact w.elim
     |some v'=>
      rw[hf]at w
      have hlen:s.length≤s1.length:=by
       obtain⟨new,e,_⟩:=X.pre
       rw[←h0.len,←hr.len,e,Aw];omega
      refine w ρ x H' ⟨⟨[],by simp,fun a ha=>by cases ha⟩,rfl,X.keep,X.kd⟩ ⟨?_,h0.nd,fun i vs e=>?_,fun a ha=>?_⟩ ?_
      . rw[Bn,h0.len];omega
      . have hi:i<s.length:=by
         have:=(Ap.mp e).1
         rw[Bn]at this;omega
        rw[BR hi]at e
        obtain⟨a,e1,q⟩:=hr.cel i vs e
        have e3:ρ.o[i]?=some a:=by
         obtain⟨new,e',_⟩:=X.pre
         rw[e',AQ (by rw[h0.len];exact hi)]at e1
         exact e1
        refine⟨a,e3,q.vg c ?_⟩
        rcases nH ho hi e with z|z
        . exact wZ (jF z)
        . obtain⟨b,_,q'⟩:=h0.cel i vs z
          obtain⟨xs,q2⟩:=q'.vals
          exact RDs.refs q2
      . obtain⟨z,n⟩:=hr.hid a (by rw[X.hid];exact ha)
        exact⟨z,(h0.hid a ha).2⟩
      . unfold freeze at hf
        by_cases hn:v.noRef=true
        . rw[if_pos hn]at hf;cases hf;exact RD.vg c r (uV hn)
        . rw[if_neg hn,←h0.len]at hf
          exact sX c hr r hf
   . rw[if_neg ho]at w;exact w.elim
theorem eW{ρ:Own}{H:L2.Hp}{args:List Val}{vs:List L2.V}{N:List Str}(r:RDs K mg ρ H args vs):ER K mg ρ H (zm N args) (L2.start N vs):=by
 refine⟨by unfold zm L2.start;rw[Aw,Aw,Ag,Ag,Fd,Fd,r.length],fun i v e=>?_⟩
 unfold zm at e
 unfold L2.start
 by_cases hi:i<args.length
 . rw[AQ (by simpa using hi),Ay]at e
   rw[AQ (by rw[Ag,←r.length];exact hi),Ay]
   cases ha:args[i]? with
   |none=>rw[ha]at e;cases e
   |some a=>
    rw[ha]at e
    have:a=v:=AO (AO e)
    subst this
    obtain⟨x,h1,h2⟩:=r.get ha
    exact⟨x,by rw[h1];rfl,h2⟩
 . rw[AW (by simpa using hi),Gw]at e
   split at e<;>cases e
end
noncomputable def argNames(a:GA):Option (List Str):=
 if a.posonlyargs.isEmpty&&a.vararg.isNone&&a.kwonlyargs.isEmpty&&a.kw_defaults.isEmpty&&a.kwarg.isNone&&a.defaults.isEmpty then some (a.args.map (·.arg)) else none
noncomputable def hG(st:Stmt)(F:Fn):Bool:=
 match st with
 |.FunctionDef _ args body _ _ _ sc _ _ _=>decide (argNames args=some F.ps)&&decide (sc.kind=.function)&&!sc.isCoroutine&&!sc.isGenerator&&decide F.N.Nodup&&decide (F.N.take F.ps.length=F.ps) &&
  F.ps.all (fun x=>decide (sc.names.lookup x=some .local)||decide (sc.names.lookup x=some .cell))&&sc.names.all (fun y=>decide (y.2≠.free))&&rm sc F.N F.body body
 |_=>false
theorem mN:∀{ps:List Str} {us:List Value},ps.Nodup→us.length=ps.length→ps.filterMap (fun n=>((ps.zip us).lookup n).map (n,·))=ps.zip us:=by
 have key:∀(ps qs:List Str) (us ws:List Value),(qs++ps).Nodup→us.length=ps.length→ws.length=qs.length→ps.filterMap (fun n=>(((qs++ps).zip (ws++us)).lookup n).map (n,·))=ps.zip us:=by
  intro ps
  induction ps with
  |nil=>intro qs us ws _ _ _;rfl
  |cons p ps ih=>
   intro qs us ws nd h1 h2
   cases us with
   |nil=>cases h1
   |cons u us=>
    have hl:((qs++p::ps).zip (ws++u::us)).lookup p=some u:=by
     rw[List.zip_append h2.symm]
     have:∀(qs:List Str) (ws:List Value),p ∉ qs→((qs.zip ws)++(p::ps).zip (u::us)).lookup p=some u:=by
      intro qs
      induction qs with
      |nil=>intro ws _;simp
      |cons q qs ih2=>
       intro ws hn
       cases ws with
       |nil=>simp
       |cons w ws=>
        have hpq:(p == q)=false:=by
         have:p≠q:=fun z=>hn (by rw[z];exact AY)
         simpa using this
        rw[List.zip_cons_cons,List.cons_append,AK,hpq]
        exact ih2 ws fun z=>hn (AJ _ z)
     refine this qs ws fun z=>?_
     rw[F9]at nd
     exact nd.2.2 p z p AY rfl
    rw[A2,hl]
    have:=ih (qs++[p]) us (ws++[u]) (by simpa using nd) (by simpa using h1) (by simp[h2])
    rw[Ar,Ar]at this
    exact congrArg ((p,u)::·) this
 intro ps us nd h
 simpa using key ps [] us [] (by simpa using nd) h rfl
theorem lookup_some:∀{ps:List Str} {us:List Value},us.length=ps.length→∀n∈ps,((ps.zip us).lookup n).isNone=false
 |[],_,_,n,h=>by cases h
 |p::ps,[],h,_,_=>by cases h
 |p::ps,u::us,h,n,hn=>by
  rw[List.zip_cons_cons,AK]
  cases hb:(n == p) with
  |true=>rfl
  |false=>
   have:n≠p:=by simpa using hb
   rcases AF.mp hn with z|z
   . exact absurd z this
   . exact lookup_some (by simpa using h) n z
theorem oQ{x qual:Str}{a:GA}{body:List Stmt}{sc:Scope}{kV doc pm cdv ct:Value}{an:Option Addr}{ps:List Str}(h:argNames a=some ps)(nd:ps.Nodup)(us:List Value)(hl:us.length=ps.length) :
 bindArgs (CC x qual a body sc .none kV doc pm an cdv ct) ⟨us,[]⟩=pure (ps.zip us):=by
 unfold argNames at h
 split at h
 . rename_i hc
   simp only[Ab,List.isEmpty_iff,Option.isNone_iff_eq_none]at hc
   obtain⟨⟨⟨⟨⟨h1,h2⟩,h3⟩,h4⟩,h5⟩,h6⟩:=hc
   cases h
   obtain⟨po,ar,va,ko,kd,kw,df⟩:=a
   simp only at h1 h2 h3 h4 h5 h6 hl nd ⊢
   subst h1 h2 h3 h4 h5 h6
   have hm:((ar.map (·.arg)).take ((ar.map (·.arg)).length-0)).filter (fun n=>(((ar.map (·.arg)).zip us).lookup n).isNone)=[]:=by
    rw[List.filter_eq_nil_iff]
    intro n hn
    rw[lookup_some hl n (Be hn)]
    decide
   unfold bindArgs
   have hd:GK Aj=pure none:=rfl
   have hg:¬(us.length > (ar.map (·.arg)).length∧True):=by rintro ⟨z,_⟩;omega
   simp only[CC,Eu,De,AZ,List.forIn_nil,FK,hd,Gh,List.toList_toArray,Cp,List.drop_nil,Gk,Option.isNone_none,Bool.and_true]
   rw[if_neg (by rw[Ag]at hl;simp;omega)]
   have hm':(List.filter (fun n=>(List.lookup n ((List.map (fun x=>x.arg) ar).zip us)).isNone) (List.take (List.map (fun x=>x.arg) ar).length (List.map (fun x=>x.arg) ar)))=[]:=hm
   rw[hm',if_neg (by decide),List.zip_nil_right,List.forIn_nil,FK,if_neg (by decide),mN nd hl]
 . cases h
def oJ(K:KF)(x:Str)(st:Stmt):Prop:=∃f fd,BQ K A9 x=some (some (.ref f))∧L2.Fun K x x st f fd
theorem ZS{K:KF}{x:Str}{st:Stmt}{f:Addr}{oc:Value}{od an:Option Addr}{osl:Array (Option Value)}{kV doc pm cdv ct:Value}(a:BQ K A9 x=some (some (.ref f)))
 (l:K.lookup f=some ⟨oc,od,.func (CC x x (L2.we st) (L2.xO st) (L2.zk st) .none kV doc pm an cdv ct),osl⟩) (c:Dr K cdv x=true) (k:Dt K (.ref f)=true):oJ K x st:=
 ⟨f,_,a,L2.ZZ l c k⟩
section
variable {P:Program}{w:World}{K:KF}{mg:Str→Option Value}{base:Heap}{T:Tbl}
structure Top(T:Tbl)(K:KF)(mg:Str→Option Value):Prop where
 defs:∀f v F,T.fn f v=some F→∃st fa fd,mg f=some (.ref fa)∧L2.Fun K f f st fa fd∧hG st F=true
 gls:∀x v,T.gl x=some v→∃u xv,mg x=some u∧L2.RelV xv u∧∀ρ H,RD K mg ρ H v xv
 blt:∀x∈wQ,mg x=none
theorem vq{st:Stmt}{F:Fn}(h:hG st F=true):argNames (L2.we st)=some F.ps∧L2.t5 F.N F.ps (L2.zk st)∧rm (L2.zk st) F.N F.body (L2.xO st)=true:=by
 unfold hG at h
 split at h
 . simp only[Ab,decide_eq_true_eq,B5,Bz,A5]at h
   obtain⟨⟨⟨⟨⟨⟨⟨⟨h1,h2⟩,h3⟩,h4⟩,h5⟩,h6⟩,h7⟩,h8⟩,h9⟩:=h
   exact⟨h1,⟨h2,h3,h4,h5,h6,h7,h8⟩,h9⟩
 . cases h
theorem aX(top:Top T K mg):∀(n:Nat) (f:Str) (v:Nat) (F:Fn) (st:Stmt) (fa:Addr) (fd:B9),T.fn f v=some F→L2.Fun K f f st fa fd→hG st F=true→L2.tj P w K mg base L2.CX0 n fa fd F.ps (spN T K mg n f v)
 |0,f,v,F,st,fa,fd,h,e2,e3=>by
  refine⟨fun vs H Q E q=>?_,fun A outer s H args us vs Q E _ _ _ _ q=>?_⟩
  . obtain⟨ρ,t,as,_,_,z⟩:=q;exact z.elim
  . obtain⟨ρ,t,as,_,_,z⟩:=q;exact z.elim
 |n+1,f,v,F,st,fa,fd,h,e2,e3=>by
  obtain⟨p1,p2,p3⟩:=vq e3
  have hcall:∀(vs:List Val) (s:Sto),zF T (n+1) f v vs s=run T (zF T n) F vs s:=fun vs s=>by simp only[zF,h]
  refine e2.ok p2 (fun vs H Q E q=>?_) fun cdv A outer s H vs Q E hr q=>?_
  . obtain⟨ρ,t,as,_,r,z⟩:=q
    rw[hcall]at z
    unfold run at z
    split at z
    . rename_i hl;rw[←r.length];exact hl
    . exact z.elim
  . obtain⟨ρ,t,as,h0,r,z⟩:=q
    rw[hcall]at z
    unfold run at z
    have hl:as.length=F.ps.length:=by
     by_cases hl:as.length=F.ps.length
     . exact hl
     . rw[if_neg hl]at z;exact z.elim
    rw[if_pos hl]at z
    have okf:OkF T n (L2.zk st) F.N (L2.mC L2.CX0 P w K mg base F.N f (L2.zk st) fa cdv A outer s H E).nox:=by
     refine⟨⟨rfl,hr,⟨rfl,p2.nd,fun x hx=>hx,fun x hx=>⟨hx,.inl rfl⟩,fun x hx=>hx,fun x hx=>hx⟩,fun g v' G hg=>?_,top.gls,top.blt,rfl⟩,rfl,?_⟩
     . obtain⟨st2,ga,gd,q1,q2,q3⟩:=top.defs g v' G hg
       obtain⟨r1,r2,r3⟩:=vq q3
       have nd:G.ps.Nodup:=by rw[←r2.pre];exact r2.nd.sublist (CK _ _)
       exact⟨ga,gd,q1,q2.kp,q2.binds fun kV doc pm an cdv ct us hl=>oQ r1 nd us hl,aX top n g v' G st2 ga gd hg q2 q3⟩
     . show (if (L2.zk st).kind.isAnnotationScope then ScopeKind.function else (L2.zk st).kind)=.function
       rw[p2.kind];rfl
    refine⟨_,jSs T n F.body (L2.zk st) F.N _ (L2.xO st) okf p3 (zm F.N as) t,ρ,h0,eW r,?_⟩
    show sL K mg ρ H (zR (zF T n) T.gl (zm F.N as) F.body t) _
    cases hx:zR (zF T n) T.gl (zm F.N as) F.body t with
    |ok fl s1=>
     rw[hx]at z
     cases fl with
     |nx e=>exact fun ρ1 H1 σ1 x1 hr1 er1=>ou h0 z x1 hr1 .none
     |rt v'=>exact fun ρ1 H1 x x1 hr1 r1=>ou h0 z x1 hr1 r1
     |bk e=>exact z.elim
     |ct e=>exact z.elim
    |exc _ _ _=>rw[hx]at z;exact z.elim
    |stuck=>rw[hx]at z;exact z.elim
end
end M
end
section
namespace M
open PySem Hd
noncomputable def kj(K:KF)(x:Str):Val→Prop
 |.int i=>∃t,BQ K A9 x=some (some (.int i t))
 |.str y=>∃t,BQ K A9 x=some (some (.str y t))
 |.ctup ns=>∃a,BQ K A9 x=some (some (.ref a))∧KT K a (ns.map L2.V.int)
 |_=>False
noncomputable def tbl(fnL:List ((Str × Nat) × Fn))(glL:List (Str × Val)):Tbl:=⟨fun f v=>fnL.lookup (f,v),fun x=>glL.lookup x⟩
noncomputable def kc(fnL:List ((Str × Nat) × Fn))(D:List (Str × Stmt)):Bool:=fnL.all fun p=>match D.lookup p.1.1 with|some st=>hG st p.2|none=>false
theorem su{α β:Type} [BEq α] [LawfulBEq α]:∀{l:List (α × β)} {a:α} {b:β},l.lookup a=some b→(a,b)∈l
 |[],_,_,h=>by cases h
 |(c,d)::l,a,b,h=>by
  rw[AK]at h
  cases hb:(a == c) with
  |true=>rw[hb]at h;cases h;rw[Cz hb];exact AY
  |false=>rw[hb]at h;exact AJ _ (su h)
theorem XW{K:KF}{mg:Str→Option Value}{h:Heap}{fnL:List ((Str × Nat) × Fn)}{glL:List (Str × Val)}{D:List (Str × Stmt)}(X:K.In h)(G:h.Ns A9 mg)(hd:∀p∈D,oJ K p.1 p.2)(hg:∀p∈glL,kj K p.1 p.2)(hb:∀x∈wQ,BQ K A9 x=some none)
 (hc:kc fnL D=true):Top (tbl fnL glL) K mg:=by
 refine⟨fun f v F e=>?_,fun x v e=>?_,fun x hx=>PySem.W.mg_none_of X G (hb x hx)⟩
 . have hm:((f,v),F)∈fnL:=su e
   unfold kc at hc
   rw[Bz]at hc
   have h1:=hc _ hm
   split at h1
   . rename_i st hs
     obtain⟨fa,fd,a,F'⟩:=hd _ (su hs)
     exact⟨st,fa,fd,F1 X G a,F',h1⟩
   . cases h1
 . have hm:(x,v)∈glL:=su e
   have h1:=hg _ hm
   cases v with
   |int i=>
    obtain⟨t,a⟩:=h1
    exact⟨_,.int i,F1 X G a,⟨t,rfl⟩,fun ρ H=>.int i⟩
   |str y=>
    obtain⟨t,a⟩:=h1
    exact⟨_,.str y,F1 X G a,⟨t,rfl⟩,fun ρ H=>.str y⟩
   |ctup ns=>
    obtain⟨a,h2,h3⟩:=h1
    exact⟨_,.ref a,F1 X G h2,rfl,fun ρ H=>.ctup h3⟩
   |_=>exact h1.elim
theorem int_mk{K:KF}{x:Str}{i:Int}{t:Tok}(a:BQ K A9 x=some (some (.int i t))):kj K x (.int i):=⟨t,a⟩
theorem str_mk{K:KF}{x y:Str}{t:Tok}(a:BQ K A9 x=some (some (.str y t))):kj K x (.str y):=⟨t,a⟩
theorem sd:∀{us:List Value} {ns:List Int},om us=some ns→L2.Vals (ns.map L2.V.int) us
 |[],_,h=>by cases h;exact .nil
 |u::us,ns,h=>by
  cases u with
  |int i t=>
   simp only[om,AX]at h
   obtain⟨ms,h1,rfl⟩:=h
   exact .cons ⟨t,rfl⟩ (sd h1)
  |_=>cases h
theorem da{K:KF}{x:Str}{a:Addr}{od:Option Addr}{us:List Value}{n:Nat}{sl:Array (Option Value)}{ns:List Int}(h:BQ K A9 x=some (some (.ref a)))
 (l:K.lookup a=some ⟨.type "tuple",od,.seq us.toArray n,sl⟩) (hz:us.length≤1000) (hi:om us=some ns):kj K x (.ctup ns):=
 ⟨a,h,_,us.toArray,n,l,rfl,rfl,by rw[Ah,Bi];omega,by simpa using sd hi⟩
noncomputable def VM(K:KF):L2.Sp:=fun vs H Q _=>∃(a:Addr) (ns:List Int),vs=[.ref a]∧L2.SqL K H a (ns.map L2.V.int)∧ns.length≤63∧∀H',Q (.bl true) H'
theorem walk{l:GH}{q:Program}{loose:List Str}{XP:(Str→Option Value)→Heap→Prop}{YP:World→Heap→Prop}{d:DefRec}{K:Params→KF}{T:Tbl}{F:Fn}{n:Nat}{x:Str}(hn:l.most=some 63)(hdf:d.params.defaults=[])(hr:L2.yp n callerA)
 (hY:∀(w:World) (h:Heap),YP w h→(K w.params).In h) (hF:T.fn d.name 0=some F) (hx:F.ps=[x])
 (TOP:∀(w:World) (mg:Str→Option Value) (h:Heap),(K w.params).In h→h.Ns A9 mg→Top T (K w.params) mg)
 (HL:∀ns:List Int,ns.length≤63→∃s',zF T n d.name 0 [.scr ns] []=.ok (.bool true) s') :
 PySem.W.WalkO q loose XP YP l.row.toRowW d [] (fun f vs=>PySem.call f vs):=by
 refine L2.aO (n:=63) (k:=n) (x:=x) (CX:=fun _=>L2.CX0) (sp:=fun w=>VM (K w.params)) hn (by decide) hdf hr hY (fun w mg fa h KX G hmg=>?_) (fun _ _ a ns hl _ hS=>⟨a,ns,rfl,hS,hl,fun _=>rfl⟩) fun _ _ _ _ _ z=>z
 have top:=TOP w mg h KX G
 obtain⟨st,fa',fd',e1,e2,e3⟩:=top.defs _ _ _ hF
 obtain⟨p1,p2,p3⟩:=vq e3
 have nd:F.ps.Nodup:=by rw[←p2.pre];exact p2.nd.sublist (CK _ _)
 rw[e1]at hmg
 cases hmg
 refine⟨fd',fun s u=>?_,fun base kb nb=>?_⟩
 . obtain⟨oc,od,kV,doc,pm,an,cdv,ct,osl,e,_⟩:=e2.ex
   subst e
   refine .of_eq ?_
   have:=oQ (x:=d.name) (qual:=d.name) (body:=L2.xO st) (sc:=L2.zk st) (kV:=kV) (doc:=doc) (pm:=pm) (cdv:=cdv) (ct:=ct) (an:=an) p1 nd [u] (by rw[hx];rfl)
   rw[hx]at this
   exact this
 . have f4:=aX (P:=l.prog) (w:=w) (base:=base) top n d.name 0 F st _ fd' hF e2 e3
   rw[hx]at f4
   refine f4.imp fun vs H Q E ⟨a,ns,e,hS,hl,hq⟩=>?_
   subst e
   obtain⟨s',hs⟩:=HL ns hl
   refine⟨⟨[],[]⟩,[],[.scr ns],⟨rfl,List.nodup_nil,fun i vs z=>by simp at z,fun a z=>by cases z⟩,.cons (.scr ?_) .nil,?_⟩
   . rcases hS with hS|hS
     . exact .inl ⟨⟨by simp,by simp⟩,hS⟩
     . exact .inr hS
   . rw[hs]
     intro ρ' x' H' _ _ r
     cases r
     exact hq H'
end M
end
section
namespace F
open PySem M
noncomputable def zy:Fn:=⟨["_law_script","_law_k"],["_law_script","_law_k"],false,(.cons (.ifS (.val (.cmp .lt (.var 1) (.blt .len false (.cons (.var 0) .nil)))) (.cons (.ret (.ix (.var 0) (.var 1))) .nil) .nil) (.cons (.ret (.lit (.int 0))) .nil))⟩
noncomputable def yZ:Fn:=⟨["_law_pen_here","_law_many","_law_left","_law_found","_law_mixed"],["_law_pen_here","_law_many"],false,(.cons (.ifS (.val (.cmp .gt (.ix (.var 0) (.lit (.int 0))) (.lit (.int 0)))) (.cons (.asgT [2,3] (.blt .divmod false (.cons (.ix (.var 0) (.lit (.int 0))) (.cons (.var 1) .nil)))) (.cons (.setIx (.var 0) (.lit (.int 0)) (.var 2)) (.cons (.ret (.var 3)) .nil))) .nil) (.cons (.setIx (.var 0) (.lit (.int 1)) (.bin false .mod (.bin false .add (.bin false .mul (.ix (.var 0) (.lit (.int 1))) (.lit (.int 48271))) (.lit (.int 30269))) (.lit (.int 2147483629)))) (.cons (.asg 4 (.bin false .mod (.bin false .add (.bin false .add (.bin false .mul (.ix (.var 0) (.lit (.int 1))) (.ix (.var 0) (.lit (.int 1)))) (.bin false .mul (.lit (.int 40692)) (.ix (.var 0) (.lit (.int 1))))) (.lit (.int 7))) (.lit (.int 2147483587)))) (.cons (.ret (.bin false .mod (.bin false .fdiv (.var 4) (.lit (.int 64))) (.var 1))) .nil))))⟩
noncomputable def yB:Fn:=⟨["_law_cell","_law_left"],["_law_cell"],true,(.cons (.asg 1 (.blt .max false (.cons (.var 0) (.cons (.bin false .sub (.lit (.int 0)) (.var 0)) .nil)))) (.cons (.ret (.lst true (.cons (.bin false .mul (.var 1) (.blt .int false (.cons (.cmp .ge (.var 1) (.bin false .pow (.lit (.int 10)) (.lit (.int 18)))) .nil))) (.cons (.bin false .mod (.var 1) (.lit (.int 2147483629))) .nil)))) .nil))⟩
noncomputable def yg:Fn:=⟨["things","least","most"],["things","least","most"],false,(.cons (.ret (.blt .all false (.cons (.comp false ["thing","least","most"] [none,some 1,some 2] (.call "is_whole" 0 (.cons (.var 0) (.cons (.var 1) (.cons (.var 2) .nil)))) (.nm 0) (.val (.var 0)) .nil) .nil))) .nil)⟩
noncomputable def yh:Fn:=⟨["hues","first","step","size"],["hues","first","step","size"],false,(.cons (.ret (.cmp .eq (.yb .count false (.sl false (.var 0) (.yes (.var 1)) (.yes (.bin false .add (.var 1) (.bin false .mul (.var 2) (.var 3)))) (.yes (.var 2))) (.cons (.ix (.var 0) (.var 1)) .nil)) (.var 3))) .nil)⟩
noncomputable def xF:Fn:=⟨["thing","least","most"],["thing","least","most"],false,(.cons (.ret (.andE (.blt .isi false (.cons (.var 0) (.cons (.ty "int" "int") .nil))) (.cons (.not (.blt .isi false (.cons (.var 0) (.cons (.ty "bool" "bool") .nil)))) (.cons (.chain .le .le (.var 1) (.var 0) (.var 2)) .nil)))) .nil)⟩
noncomputable def yu:Fn:=⟨["length","first","size"],["length","first","size"],false,(.cons (.ret (.bin false .fdiv (.bin false .sub (.bin false .sub (.var 0) (.lit (.int 1))) (.var 1)) (.bin false .sub (.var 2) (.lit (.int 1))))) .nil)⟩
noncomputable def yR:Fn:=⟨["thing"],["thing"],false,(.cons (.expr (.call "need_whole" 0 (.cons (.var 0) (.cons (.lit (.int 0)) (.cons (.gl "MOST_PLACES") .nil))))) .nil)⟩
noncomputable def yv:Fn:=⟨["thing"],["thing"],false,(.cons (.expr (.call "need_whole" 0 (.cons (.var 0) (.cons (.gl "LEAST_SIZE") (.cons (.gl "MOST_SIZE") .nil))))) .nil)⟩
noncomputable def yk:Fn:=⟨["thing","least","most"],["thing","least","most"],false,(.cons (.ifS (.not (.val (.call "is_whole" 0 (.cons (.var 0) (.cons (.var 1) (.cons (.var 2) .nil)))))) (.cons (.raise (.lit .none)) .nil) .nil) .nil)⟩
noncomputable def xp:Fn:=⟨["length","size","place","rows"],["length","size","place"],false,(.cons (.expr (.call "need_length" 0 (.cons (.var 0) .nil))) (.cons (.expr (.call "need_size" 0 (.cons (.var 1) .nil))) (.cons (.ifS (.not (.val (.call "is_whole" 0 (.cons (.var 2) (.cons (.lit (.int 0)) (.cons (.bin false .sub (.var 0) (.lit (.int 1))) .nil)))))) (.cons (.raise (.lit .none)) .nil) .nil) (.cons (.asg 3 (.comp2 false ["at","step","length","size","place"] [none,none,some 0,some 1,some 2] (.tup (.cons (.bin false .sub (.var 4) (.bin false .mul (.var 1) (.var 0))) (.cons (.var 1) .nil))) (.nm 0) (.range1 (.var 1)) .nil (.nm 1) (.range2 (.lit (.int 1)) (.bin false .add (.call "most_step" 0 (.cons (.var 2) (.cons (.lit (.int 0)) (.cons (.var 3) .nil)))) (.lit (.int 1)))) .nil)) (.cons (.ret (.blt .sorted false (.cons (.comp false ["first","step","length","size"] [none,none,some 0,some 1] (.tup (.cons (.var 0) (.cons (.var 1) .nil))) (.nms [0,1]) (.val (.var 3)) (.cons (.and (.val (.cmp .ge (.var 0) (.lit (.int 0)))) (.cons (.val (.cmp .lt (.bin false .add (.var 0) (.bin false .mul (.var 1) (.bin false .sub (.var 3) (.lit (.int 1))))) (.var 2))) .nil)) .nil)) .nil))) .nil)))))⟩
end F
end
section
namespace M
open PySem L2
noncomputable def w5(n s f:Nat):List (Nat × Nat):=(Ak ((n-1-f)/(s-1))).map fun j=>(f,j+1)
noncomputable def z8(n s:Nat):List (Nat × Nat):=(Ak n).flatMap (w5 n s)
theorem nc(n s f:Nat):(w5 n s f).length=(n-1-f)/(s-1):=by unfold w5;rw[Ag,AV]
theorem bw(n s f:Nat):(w5 n s f).length≤n:=by
 rw[nc];have:=Df (n-1-f) (s-1);omega
theorem l8(n s:Nat):∀i,((Ak i).flatMap (w5 n s)).length≤i*n
 |0=>by simp
 |i+1=>by
  rw[GO,DC,Aw]
  have h1:=l8 n s i
  have h2:=bw n s i
  have e:List.flatMap (w5 n s) [i]=w5 n s i:=by simp
  rw[e,C6];omega
theorem jo{n s:Nat}{r:Nat × Nat}(hs:2≤s)(h:r∈z8 n s):0<r.2∧r.1+r.2*(s-1)<n:=by
 unfold z8 w5 at h
 obtain⟨f,hf,h⟩:=CZ.mp h
 obtain⟨j,hj,rfl⟩:=As.mp h
 rw[Ax]at hf hj
 have:(j+1)*(s-1)≤n-1-f:=(Fg (by omega)).mp hj
 refine⟨DT _,?_⟩
 show f+(j+1)*(s-1)<n
 omega
noncomputable def yU(ns:List Int)(f d s:Nat):Bool:=(Ak s).all fun k=>decide (ns[f+k*d]?=ns[f]?)
theorem de{n f d s:Nat}(hd:0<d)(hs:1≤s)(h:f+d*(s-1)<n):yH n (some (f:Int)) (some ((f:Int)+(d:Int)*(s:Int))) (d:Int)=((f:Int),s):=by
 have hmul:d*s=d*(s-1)+d:=by rw[←Nat.mul_succ];congr 1;omega
 have e0:(d:Int)*(s:Int)=((d*s:Nat):Int):=(BG d s).symm
 have e1:Bv (some (f:Int)) (some ((f:Int)+(d:Int)*(s:Int))) (d:Int) (n:Int)=((f:Int),((min (f+d*s) n:Nat):Int)):=by
  rw[e0]
  unfold Bv
  simp only[if_neg (show ¬(d:Int)<0 by omega),if_neg (show ¬(f:Int)<0 by omega),if_neg (show ¬((f:Int)+((d*s:Nat):Int))<0 by omega)]
  refine Es ?_ ?_
  . show min (f:Int) (n:Int)=f;omega
  . show min ((f:Int)+((d*s:Nat):Int)) (n:Int)=_;omega
 unfold yH
 rw[e1]
 refine Es rfl ?_
 show BL (f:Int) ((min (f+d*s) n:Nat):Int) (d:Int)=s
 unfold BL
 rw[if_pos (by omega),if_pos (by omega)]
 have e2:(((min (f+d*s) n:Nat):Int)-(f:Int)-1)=((min (f+d*s) n-f-1:Nat):Int):=by omega
 rw[e2,←Int.natCast_ediv]
 have e3:(min (f+d*s) n-f-1)/d=s-1:=by
  refine Nat.div_eq_of_lt_le ?_ ?_
  . rw[BU];omega
  . have:(s-1+1)*d=d*s:=by rw[show s-1+1=s by omega,BU]
    omega
 rw[e3];omega
theorem mE{α β:Type}{f:α→Option β}{g:α→β}:∀{l:List α},(∀x∈l,f x=some (g x))→l.filterMap f=l.map g
 |[],_=>rfl
 |x::l,h=>by rw[A2,h x (AY ..),AA,mE fun y hy=>h y (AJ _ hy)]
theorem fk{ns:List Int}{f d s:Nat}(h:f+d*(s-1)<ns.length):za ns (f:Int) (d:Int) s=(Ak s).map fun k=>ns.getD (f+k*d) 0:=by
 unfold za
 refine mE fun k hk=>?_
 rw[Ax]at hk
 have h1:k*d≤d*(s-1):=by rw[BU];exact B6 d (by omega)
 have e:((f:Int)+(k:Int)*(d:Int)).toNat=f+k*d:=by
  rw[show (k:Int)*(d:Int)=((k*d:Nat):Int) from (BG k d).symm];omega
 have hlt:f+k*d<ns.length:=by omega
 rw[e,Aa hlt]
 rw[Ae,Aa hlt];rfl
theorem cy{ns:List Int}{f d s:Nat}(h:f+d*(s-1)<ns.length):yU ns f d s=true↔∀x∈(Ak s).map (fun k=>ns.getD (f+k*d) 0),x=ns.getD f 0:=by
 unfold yU
 rw[Bz]
 constructor
 . intro h1 x hx
   obtain⟨k,hk,rfl⟩:=As.mp hx
   have:=of_decide_eq_true (h1 k hk)
   rw[Ae,this,←Ae]
 . intro h1 k hk
   have:=h1 _ (As.mpr ⟨k,hk,rfl⟩)
   rw[Ax]at hk
   have h2:k*d≤d*(s-1):=by rw[BU];exact B6 d (by omega)
   have hlt:f+k*d<ns.length:=by omega
   have hf:f<ns.length:=by omega
   rw[Ae,Ae,Aa hlt,Aa hf]at this
   refine decide_eq_true ?_
   rw[Aa hlt,Aa hf]
   exact congrArg some this
theorem l9(n s:Nat):∀i,i≤n→2*((Ak i).flatMap (w5 n s)).length+i*i+i≤2*(i*n)
 |0,_=>by simp
 |i+1,hi=>by
  have h1:=l9 n s i (by omega)
  rw[GO,DC,Aw]
  have e:List.flatMap (w5 n s) [i]=w5 n s i:=by simp
  have h2:(w5 n s i).length≤n-1-i:=by rw[nc];exact Df _ _
  rw[e]
  have e2:(i+1)*(i+1)=i*i+2*i+1:=by rw[Nat.add_mul,Nat.mul_add];omega
  have e3:(i+1)*n=i*n+n:=C6 i n
  rw[e2,e3];omega
theorem eI{n z:Nat}(h:n≤40):(z8 n z).length≤800:=by
 have h1:=l9 n z n (Ai n)
 have h2:n*n≤40*n:=Ck n h
 unfold z8;omega
noncomputable def mS(n z:Nat):Nat:=(n-1)/(z-1)
noncomputable def allAt(n z p a:Nat):List (Int × Int):=(Ak (mS n z)).map fun j=>((p:Int)-((j+1:Nat):Int)*(a:Int),((j+1:Nat):Int))
noncomputable def allOf(n z p:Nat):List (Int × Int):=(Ak z).flatMap (allAt n z p)
noncomputable def inB(n z:Nat)(r:Int × Int):Bool:=decide (0≤r.1)&&decide (r.1+r.2*((z:Int)-1)<n)
noncomputable def uy(z p:Nat)(r:Nat × Nat):Bool:=(Ak z).any fun k=>decide (r.1+k*r.2=p)
noncomputable def atP(n z p:Nat):List (Nat × Nat):=(z8 n z).filter (uy z p)
noncomputable def toI(r:Nat × Nat):Int × Int:=(r.1,r.2)
theorem km(n z p a:Nat):(allAt n z p a).length=mS n z:=by unfold allAt;rw[Ag,AV]
theorem gG(n z p:Nat):∀i,((Ak i).flatMap (allAt n z p)).length=i*mS n z
 |0=>by simp
 |i+1=>by
  rw[GO,DC,Aw,gG n z p i]
  have e:List.flatMap (allAt n z p) [i]=allAt n z p i:=by simp
  rw[e,km,C6]
theorem kn{n z p:Nat}(hn:n≤32)(hz:2≤z):(allOf n z p).length≤62:=by
 unfold allOf
 rw[gG]
 have h1:mS n z*(z-1)≤n-1:=Nat.div_mul_le_self _ _
 have h2:mS n z≤n-1:=Df _ _
 have e:z*mS n z=mS n z*(z-1)+mS n z:=by
  obtain⟨y,rfl⟩:∃y,z=y+1:=⟨z-1,by omega⟩
  rw[Nat.add_sub_cancel,BU,Nat.mul_succ]
 omega
theorem oM(n z p:Nat):(allOf n z p).Nodup:=by
 unfold allOf List.Nodup
 rw[List.pairwise_flatMap]
 refine⟨fun a _=>?_,?_⟩
 . unfold allAt
   rw[Co]
   refine DQ ?_ CY
   intro i j hij e
   injection e with e1 e2
   omega
 . refine DQ ?_ CY
   intro a b hab x hx y hy e
   unfold allAt at hx hy
   obtain⟨i,_,rfl⟩:=As.mp hx
   obtain⟨j,_,rfl⟩:=As.mp hy
   injection e with e1 e2
   have eij:i=j:=by omega
   subst eij
   have e3:((i+1:Nat):Int)*(a:Int)=((i+1:Nat):Int)*(b:Int):=by omega
   rw[←BG,←BG]at e3
   have e4:(i+1)*a=(i+1)*b:=by exact_mod_cast e3
   exact hab (Nat.eq_of_mul_eq_mul_left (DT i) e4)
theorem kq{n z p:Nat}(hn:n≤40):∀r∈allOf n z p,0≤r.2∧r.2<1000:=fun r hr=>by
 unfold allOf allAt at hr
 obtain⟨a,_,hr⟩:=CZ.mp hr
 obtain⟨j,hj,rfl⟩:=As.mp hr
 have h2:mS n z≤n-1:=Df _ _
 rw[Ax]at hj
 refine⟨?_,?_⟩
 . show 0≤((j+1:Nat):Int);omega
 . show ((j+1:Nat):Int)<1000;omega
theorem wY{n z:Nat}(hz:2≤z){f d:Nat}:(f,d)∈z8 n z↔0<d∧f+d*(z-1)<n:=by
 constructor
 . exact fun h=>jo hz h
 . rintro ⟨h1,h2⟩
   unfold z8 w5
   refine CZ.mpr ⟨f,Ax.mpr (by omega),As.mpr ⟨d-1,Ax.mpr ?_,?_⟩⟩
   . have:d≤(n-1-f)/(z-1):=(Fg (by omega)).mpr (by omega)
     omega
   . show (f,d-1+1)=(f,d)
     rw[show d-1+1=d by omega]
theorem dP{n z p:Nat}(hz:2≤z)(x:Int × Int):x∈(allOf n z p).filter (inB n z)↔x∈(atP n z p).map toI:=by
 constructor
 . intro h
   obtain⟨h1,h2⟩:=B7.mp h
   unfold allOf allAt at h1
   obtain⟨a,ha,hr⟩:=CZ.mp h1
   obtain⟨j,hj,rfl⟩:=As.mp hr
   rw[Ax]at ha hj
   have hb:0≤(p:Int)-((j+1:Nat):Int)*(a:Int)∧(p:Int)-((j+1:Nat):Int)*(a:Int)+((j+1:Nat):Int)*((z:Int)-1)<n:=by
    have:=Ea.mp h2
    exact⟨of_decide_eq_true this.1,of_decide_eq_true this.2⟩
   have em:((j+1:Nat):Int)*(a:Int)=(((j+1)*a:Nat):Int):=(BG _ _).symm
   have em2:((j+1:Nat):Int)*((z:Int)-1)=(((j+1)*(z-1):Nat):Int):=by
    rw[BG];congr 1;omega
   rw[em,em2]at hb
   refine As.mpr ⟨(p-(j+1)*a,j+1),B7.mpr ⟨(wY hz).mpr ⟨by omega,by omega⟩,?_⟩,?_⟩
   . refine Cd.mpr ⟨a,Ax.mpr ha,decide_eq_true ?_⟩
     show p-(j+1)*a+a*(j+1)=p
     rw[BU a];omega
   . show (((p-(j+1)*a:Nat):Int),((j+1:Nat):Int))=_
     rw[em]
     congr 1;omega
 . intro h
   obtain⟨⟨f,d⟩,h1,rfl⟩:=As.mp h
   obtain⟨h2,h3⟩:=B7.mp h1
   obtain⟨hd,hlt⟩:=(wY hz).mp h2
   obtain⟨k,hk,he⟩:=Cd.mp h3
   rw[Ax]at hk
   have he:f+k*d=p:=of_decide_eq_true he
   have hdm:d≤mS n z:=(Fg (by omega)).mpr (by omega)
   refine B7.mpr ⟨CZ.mpr ⟨k,Ax.mpr hk,As.mpr ⟨d-1,Ax.mpr (by omega),?_⟩⟩,?_⟩
   . show ((p:Int)-((d-1+1:Nat):Int)*(k:Int),((d-1+1:Nat):Int))=((f:Int),(d:Int))
     rw[show d-1+1=d by omega,←BG,BU d k]
     congr 1;omega
   . have em2:(d:Int)*((z:Int)-1)=((d*(z-1):Nat):Int):=by
      rw[BG];congr 1;omega
     show (decide (0≤(f:Int))&&decide ((f:Int)+(d:Int)*((z:Int)-1)<n))=true
     rw[em2,decide_eq_true (by omega),decide_eq_true (by omega)];rfl
theorem rM{n z:Nat}(hn:n≤40):((z8 n z).map toI).Pairwise (fun a b=>zp a<zp b):=by
 rw[Co]
 unfold z8
 rw[List.pairwise_flatMap]
 have lt40:∀{f j:Nat},j∈Ak ((n-1-f)/(z-1))→j<40:=fun{f j} hj=>by
  rw[Ax]at hj
  have:=Df (n-1-f) (z-1)
  omega
 refine⟨fun f _=>?_,?_⟩
 . unfold w5
   rw[Co]
   refine DQ ?_ List.pairwise_lt_range
   intro i j hij
   show (f:Int)*1000+((i+1:Nat):Int)<(f:Int)*1000+((j+1:Nat):Int)
   omega
 . refine DQ ?_ List.pairwise_lt_range
   intro f g hfg x hx y hy
   unfold w5 at hx hy
   obtain⟨i,hi,rfl⟩:=As.mp hx
   obtain⟨j,hj,rfl⟩:=As.mp hy
   have:=lt40 hi
   have:=lt40 hj
   show (f:Int)*1000+((i+1:Nat):Int)<(g:Int)*1000+((j+1:Nat):Int)
   omega
theorem iz{n z p:Nat}(hn:n≤40):((atP n z p).map toI).Pairwise (fun a b=>zp a<zp b):=by
 have h:=rM (n:=n) (z:=z) hn
 rw[Co]at h ⊢
 exact h.filter _
theorem ku{n z p:Nat}(hn:n≤40)(hz:2≤z){l:List (Int × Int)}(hp:l.Perm ((allOf n z p).filter (inB n z)))(hr:l.Pairwise (fun a b=>zp a<zp b)):l=(atP n z p).map toI:=
 wz hr (iz hn) fun x=>(hp.mem_iff).trans (dP hz x)
noncomputable def xQ(f d z:Nat):List Int:=(Ak z).map fun k=>((f+k*d:Nat):Int)
end M
end
section
namespace M
open PySem
def Out.post{α:Type}(o:Out α)(P:α→Sto→Prop):Prop:=∃a s,o=.ok a s∧P a s
theorem zC{α:Type}{a:α}{s:Sto}{P:α→Sto→Prop}:(Out.ok a s).post P↔P a s:=
 ⟨fun⟨_,_,e,h⟩=>(by cases e;exact h),fun h=>⟨a,s,rfl,h⟩⟩
theorem zG{α β:Type}{o:Out α}{f:α→Sto→Out β}{P:β→Sto→Prop}:(o.bind f).post P↔o.post fun a s=>(f a s).post P:=by
 cases o with
 |ok a s=>exact(zC (P:=fun a s=>(f a s).post P)).symm
 |exc c as s=>exact⟨fun⟨_,_,e,_⟩=>(by cases e),fun⟨_,_,e,_⟩=>(by cases e)⟩
 |stuck=>exact⟨fun⟨_,_,e,_⟩=>(by cases e),fun⟨_,_,e,_⟩=>(by cases e)⟩
theorem zJ{α:Type}{o:Out α}{P Q:α→Sto→Prop}(h:o.post P)(i:∀a s,P a s→Q a s):o.post Q:=by
 obtain⟨a,s,e,h⟩:=h
 exact⟨a,s,e,i a s h⟩
theorem zj{α:Type}{o:Out α}{P Q:α→Sto→Prop}(h:∀a s,P a s↔Q a s):o.post P↔o.post Q:=⟨fun k=>zJ k fun a s=>(h a s).mp,fun k=>zJ k fun a s=>(h a s).mpr⟩
theorem zV{α:Type}{P:α→Sto→Prop}:(Out.stuck:Out α).post P↔False:=⟨fun⟨_,_,e,_⟩=>(by cases e),C0⟩
theorem y6{α:Type}{c:Prop} [Decidable c] {a b:Out α}{P:α→Sto→Prop}:(if c then a else b).post P↔if c then a.post P else b.post P:=by split<;>exact Dv
theorem post_eq{α:Type}{o:Out α}{a:α}{s:Sto}:o=.ok a s↔o.post fun x t=>x=a∧t=s:=⟨fun h=>⟨a,s,h,rfl,rfl⟩,fun⟨_,_,h,e1,e2⟩=>(by rw[h,e1,e2])⟩
section
variable {Φ:Calls}{G:Str→Option Val}{env:Env}{s:Sto}
theorem nK{v:Val}{P:Val→Sto→Prop}:(evE Φ G env (.lit v) s).post P↔P v s:=zC
theorem fV{i:Nat}{P:Val→Sto→Prop}:(evE Φ G env (.var i) s).post P↔∃v,env[i]?=some (some v)∧P v s:=by
 show (match env[i]? with|some (some v)=>Out.ok v s|_=>.stuck).post P↔_
 split
 . rename_i v e
   refine zC.trans ⟨fun h=>⟨_,e,h⟩,fun⟨u,h1,h2⟩=>?_⟩
   rw[e]at h1;cases h1;exact h2
 . rename_i hn
   exact⟨fun⟨_,_,e,_⟩=>(by cases e),fun⟨u,h1,h2⟩=>absurd h1 (hn u)⟩
theorem Wi{x:Str}{P:Val→Sto→Prop}:(evE Φ G env (.gl x) s).post P↔∃v,G x=some v∧P v s:=by
 show (match G x with|some v=>Out.ok v s|Ad=>.stuck).post P↔_
 split
 . rename_i v e
   refine zC.trans ⟨fun h=>⟨_,e,h⟩,fun⟨u,h1,h2⟩=>?_⟩
   rw[e]at h1;cases h1;exact h2
 . rename_i e
   exact⟨fun⟨_,_,e,_⟩=>(by cases e),fun⟨u,h1,h2⟩=>(by rw[e]at h1;cases h1)⟩
theorem Vw{x:Str}{n:String}{P:Val→Sto→Prop}:(evE Φ G env (.ty x n) s).post P↔P (.ty n) s:=zC
theorem nJ{m:Bool}{op:Bop}{a b:Ex}{P:Val→Sto→Prop}:(evE Φ G env (.bin m op a b) s).post P↔(evE Φ G env a s).post fun x s1=>(evE Φ G env b s1).post fun y s2=>(binOp m op x y s2).post P:=by
 show (Out.bind _ _).post P↔_
 simp only[zG]
theorem Wl{a:Ex}{P:Val→Sto→Prop}:(evE Φ G env (.neg a) s).post P↔(evE Φ G env a s).post fun x s1=>∃i,x=.int i∧P (.int (-i)) s1:=by
 show (Out.bind _ _).post P↔_
 simp only[zG]
 exact zj fun x s1=>by cases x<;>simp[zC,zV]
theorem Wm{a:Ex}{P:Val→Sto→Prop}:(evE Φ G env (.not a) s).post P↔(evE Φ G env a s).post fun x s1=>∃b,x=.bool b∧P (.bool !b) s1:=by
 show (Out.bind _ _).post P↔_
 simp only[zG]
 exact zj fun x s1=>by cases x<;>simp[zC,zV]
theorem Wg{op:Cop}{a b:Ex}{P:Val→Sto→Prop}:(evE Φ G env (.cmp op a b) s).post P↔(evE Φ G env a s).post fun x s1=>(evE Φ G env b s1).post fun y s2=>(zM op x y s2).post P:=by
 show (Out.bind _ _).post P↔_
 simp only[zG]
theorem bH{op op':Cop}{a b c:Ex}{P:Val→Sto→Prop}:(evE Φ G env (.chain op op' a b c) s).post P↔(evE Φ G env a s).post fun x s1=>(evE Φ G env b s1).post fun y s2=>(zM op x y s2).post fun r s3=>∃t,r=.bool t∧if t=true then (evE Φ G env c s3).post fun z s4=>(zM op' y z s4).post P else P (.bool false) s3:=by
 show (Out.bind _ _).post P↔_
 simp only[zG]
 refine zj fun x s1=>zj fun y s2=>zj fun r s3=>?_
 cases r with
 |bool t=>cases t<;>simp[zC,zV,zG]
 |_=>simp[zV]
theorem We{a b:Ex}{es:Exs}{P:Val→Sto→Prop}:(evE Φ G env (.andE a (.cons b es)) s).post P↔(evE Φ G env a s).post fun x s1=>∃t,x=.bool t∧if t=true then (tU Φ G env (.cons b es) s1).post P else P (.bool false) s1:=by
 show (Out.bind _ _).post P↔_
 simp only[zG]
 refine zj fun x s1=>?_
 cases x with
 |bool t=>cases t<;>simp[zC,zV]
 |_=>simp[zV]
theorem Yh{a:Ex}{P:Val→Sto→Prop}:(tU Φ G env (.cons a .nil) s).post P↔(evE Φ G env a s).post P:=Dv
theorem Yi{a b:Ex}{es:Exs}{P:Val→Sto→Prop}:(tU Φ G env (.cons a (.cons b es)) s).post P↔(evE Φ G env a s).post fun x s1=>∃t,x=.bool t∧if t=true then (tU Φ G env (.cons b es) s1).post P else P (.bool false) s1:=by
 show ((evE Φ G env a s).bind fun x s1=>match x with
  |.bool true=>tU Φ G env (.cons b es) s1
  |.bool false=>.ok (.bool false) s1
  |_=>.stuck).post P↔_
 simp only[zG]
 refine zj fun x s1=>?_
 cases x with
 |bool t=>cases t<;>simp[zC,zV]
 |_=>simp[zV]
theorem Vu{a b:Ex}{es:Exs}{P:Val→Sto→Prop}:(evE Φ G env (.orE a (.cons b es)) s).post P↔(evE Φ G env a s).post fun x s1=>∃t,truth s1 x=some t∧if t=true then P x s1 else (oh Φ G env (.cons b es) s1).post P:=by
 show (Out.bind _ _).post P↔_
 simp only[zG]
 refine zj fun x s1=>?_
 cases truth s1 x with
 |some t=>cases t<;>simp[zC,zV]
 |none=>simp[zV]
theorem Wn{a:Ex}{P:Val→Sto→Prop}:(oh Φ G env (.cons a .nil) s).post P↔(evE Φ G env a s).post P:=Dv
theorem Wo{a b:Ex}{es:Exs}{P:Val→Sto→Prop}:(oh Φ G env (.cons a (.cons b es)) s).post P↔(evE Φ G env a s).post fun x s1=>∃t,truth s1 x=some t∧if t=true then P x s1 else (oh Φ G env (.cons b es) s1).post P:=by
 show ((evE Φ G env a s).bind fun x s1=>match truth s1 x with
  |some false=>oh Φ G env (.cons b es) s1
  |some true=>.ok x s1
  |Ad=>.stuck).post P↔_
 simp only[zG]
 refine zj fun x s1=>?_
 cases truth s1 x with
 |some t=>cases t<;>simp[zC,zV]
 |none=>simp[zV]
theorem Wj{c:Cn}{a b:Ex}{P:Val→Sto→Prop}:(evE Φ G env (.ife c a b) s).post P↔(evT Φ G env c s).post fun t s1=>if t=true then (evE Φ G env a s1).post P else (evE Φ G env b s1).post P:=by
 show (Out.bind _ _).post P↔_
 simp only[zG,y6]
theorem Wr{es:Exs}{P:Val→Sto→Prop}:(evE Φ G env (.tup es) s).post P↔(ya Φ G env es s).post fun vs s1=>(if vs.length≤zQ then Out.ok (Val.tup vs) s1 else .stuck).post P:=by
 show (Out.bind _ _).post P↔_
 simp only[zG]
theorem Wk{m:Bool}{es:Exs}{P:Val→Sto→Prop}:(evE Φ G env (.lst m es) s).post P↔(ya Φ G env es s).post fun vs s1=>(if vs.length≤zQ then newList m vs s1 else .stuck).post P:=by
 show (Out.bind _ _).post P↔_
 simp only[zG]
theorem fN{f:Str}{v:Nat}{es:Exs}{P:Val→Sto→Prop}:(evE Φ G env (.call f v es) s).post P↔(ya Φ G env es s).post fun vs s1=>(Φ f v vs s1).post P:=by
 show (Out.bind _ _).post P↔_
 simp only[zG]
theorem af{f:Bf}{m:Bool}{es:Exs}{P:Val→Sto→Prop}:(evE Φ G env (.blt f m es) s).post P↔(ya Φ G env es s).post fun vs s1=>(blt f m vs s1).post P:=by
 show (Out.bind _ _).post P↔_
 simp only[zG]
theorem fS{f:Mf}{m:Bool}{o:Ex}{es:Exs}{P:Val→Sto→Prop}:(evE Φ G env (.yb f m o es) s).post P↔(evE Φ G env o s).post fun x s1=>(ya Φ G env es s1).post fun vs s2=>(yb f x vs s2).post P:=by
 show (Out.bind _ _).post P↔_
 simp only[zG]
theorem fR{m:Bool}{a b c:Ex}{P:Val→Sto→Prop}:(evE Φ G env (.listRange m a b c) s).post P↔(evE Φ G env a s).post fun x s1=>(evE Φ G env b s1).post fun y s2=>(evE Φ G env c s2).post fun z s3=>(WV m x y z s3).post P:=by
 show (Out.bind _ _).post P↔_
 simp only[zG]
theorem Vt{a b:Ex}{P:Val→Sto→Prop}:(evE Φ G env (.ix a b) s).post P↔(evE Φ G env a s).post fun x s1=>(evE Φ G env b s1).post fun y s2=>(y3 x y s2).post P:=by
 show (Out.bind _ _).post P↔_
 simp only[zG]
theorem Vv{m:Bool}{a:Ex}{lo hi st:OEx}{P:Val→Sto→Prop}:(evE Φ G env (.sl m a lo hi st) s).post P↔(evE Φ G env a s).post fun x s1=>(evO Φ G env lo s1).post fun l s2=>(evO Φ G env hi s2).post fun h s3=>(evO Φ G env st s3).post fun c s4=>(wA m x l h c s4).post P:=by
 show (Out.bind _ _).post P↔_
 simp only[zG]
theorem Yn{P:Option Int→Sto→Prop}:(evO Φ G env .no s).post P↔P none s:=zC
theorem Yo{e:Ex}{P:Option Int→Sto→Prop}:(evO Φ G env (.yes e) s).post P↔(evE Φ G env e s).post fun v s1=>∃i,v=.int i∧P (some i) s1:=by
 show (Out.bind _ _).post P↔_
 simp only[zG]
 exact zj fun x s1=>by cases x<;>simp[zC,zV]
theorem rH{P:List Val→Sto→Prop}:(ya Φ G env .nil s).post P↔P [] s:=zC
theorem xM{e:Ex}{es:Exs}{P:List Val→Sto→Prop}:(ya Φ G env (.cons e es) s).post P↔(evE Φ G env e s).post fun v s1=>(ya Φ G env es s1).post fun vs s2=>P (v::vs) s2:=by
 show (Out.bind _ _).post P↔_
 simp only[zG,zC]
theorem ag{e:Ex}{P:Bool→Sto→Prop}:(evT Φ G env (.val e) s).post P↔(evE Φ G env e s).post fun v s1=>∃b,truth s1 v=some b∧P b s1:=by
 show (Out.bind (evE Φ G env e s) _).post P↔_
 simp only[zG]
 refine⟨fun h=>zJ h fun v s1 h=>?_,fun h=>zJ h fun v s1 h=>?_⟩
 . split at h
   . rename_i b e;exact⟨b,e,zC.mp h⟩
   . obtain⟨_,_,e,_⟩:=h;cases e
 . obtain⟨b,e,h⟩:=h
   rw[e];exact zC.mpr h
theorem Ys{c:Cn}{P:Bool→Sto→Prop}:(evT Φ G env (.not c) s).post P↔(evT Φ G env c s).post fun b s1=>P (!b) s1:=by
 show (Out.bind _ _).post P↔_
 simp only[zG,zC]
theorem Yr{c:Cn}{cs:Cns}{P:Bool→Sto→Prop}:(evT Φ G env (.and c cs) s).post P↔(evT Φ G env c s).post fun b s1=>if b=true then (ym Φ G env cs s1).post P else P false s1:=by
 show (Out.bind _ _).post P↔_
 simp only[zG,y6,zC]
theorem Wq{c:Cn}{cs:Cns}{P:Bool→Sto→Prop}:(evT Φ G env (.or c cs) s).post P↔(evT Φ G env c s).post fun b s1=>if b=true then P true s1 else (tq Φ G env cs s1).post P:=by
 show (Out.bind _ _).post P↔_
 simp only[zG,y6,zC]
theorem yJ{P:Bool→Sto→Prop}:(ym Φ G env .nil s).post P↔P true s:=zC
theorem bK{P:Bool→Sto→Prop}:(tq Φ G env .nil s).post P↔P false s:=zC
theorem fU{c:Cn}{cs:Cns}{P:Bool→Sto→Prop}:(ym Φ G env (.cons c cs) s).post P↔(evT Φ G env c s).post fun b s1=>if b=true then (ym Φ G env cs s1).post P else P false s1:=by
 show (Out.bind _ _).post P↔_
 simp only[zG,y6,zC]
theorem fT{c:Cn}{cs:Cns}{P:Bool→Sto→Prop}:(tq Φ G env (.cons c cs) s).post P↔(evT Φ G env c s).post fun b s1=>if b=true then P true s1 else (tq Φ G env cs s1).post P:=by
 show (Out.bind _ _).post P↔_
 simp only[zG,y6,zC]
theorem fQ{e:Ex}{P:Src→Sto→Prop}:(yT Φ G env (.val e) s).post P↔(evE Φ G env e s).post fun v s1=>∃r,srcOf s1 v=some r∧P r s1:=by
 show (Out.bind _ _).post P↔_
 simp only[zG]
 refine⟨fun h=>zJ h fun v s1 h=>?_,fun h=>zJ h fun v s1 h=>?_⟩
 . split at h
   . rename_i b e;exact⟨b,e,zC.mp h⟩
   . obtain⟨_,_,e,_⟩:=h;cases e
 . obtain⟨b,e,h⟩:=h
   rw[e];exact zC.mpr h
theorem nL{a:Ex}{P:Src→Sto→Prop}:(yT Φ G env (.range1 a) s).post P↔(evE Φ G env a s).post fun x s1=>∃j,x=.int j∧(-(2 ^ 62)≤j∧j≤zQ)∧P ⟨z9 0 j.toNat,Ad⟩ s1:=by
 show (Out.bind _ _).post P↔_
 simp only[zG]
 refine⟨fun h=>zJ h fun v s1 h=>?_,fun h=>zJ h fun v s1 h=>?_⟩
 . split at h
   . rw[y6]at h
     split at h
     . rename_i j z;exact⟨_,rfl,z,zC.mp h⟩
     . obtain⟨_,_,e,_⟩:=h;cases e
   . obtain⟨_,_,e,_⟩:=h;cases e
 . obtain⟨j,rfl,z,h⟩:=h
   simp only[if_pos z]
   exact zC.mpr h
theorem nM{a b:Ex}{P:Src→Sto→Prop}:(yT Φ G env (.range2 a b) s).post P↔(evE Φ G env a s).post fun x s1=>(evE Φ G env b s1).post fun y s2=>∃i j,x=.int i∧y=.int j∧(-(2 ^ 62)≤i∧i<2 ^ 62∧-(2 ^ 62)≤j∧j<2 ^ 62∧j-i≤zQ)∧P ⟨z9 i (j-i).toNat,Ad⟩ s2:=by
 show (Out.bind _ _).post P↔_
 simp only[zG]
 refine⟨fun h=>zJ h fun v s1 h=>zJ h fun w s2 h=>?_,fun h=>zJ h fun v s1 h=>zJ h fun w s2 h=>?_⟩
 . split at h
   . rw[y6]at h
     split at h
     . rename_i z;exact⟨_,_,rfl,rfl,z,zC.mp h⟩
     . obtain⟨_,_,e,_⟩:=h;cases e
   . obtain⟨_,_,e,_⟩:=h;cases e
 . obtain⟨i,j,rfl,rfl,z,h⟩:=h
   simp only[if_pos z]
   exact zC.mpr h
theorem Yl{a:Ex}{P:Src→Sto→Prop}:(yT Φ G env (.enum a) s).post P↔(evE Φ G env a s).post fun x s1=>∃vs,(x=.tup vs∨x=.lst vs)∧P ⟨l5 0 vs,Ad⟩ s1:=by
 show (Out.bind _ _).post P↔_
 simp only[zG]
 refine⟨fun h=>zJ h fun v s1 h=>?_,fun h=>zJ h fun v s1 h=>?_⟩
 . split at h
   . exact⟨_,.inl rfl,zC.mp h⟩
   . exact⟨_,.inr rfl,zC.mp h⟩
   . obtain⟨_,_,e,_⟩:=h;cases e
 . obtain⟨j,rfl|rfl,h⟩:=h<;>exact zC.mpr h
theorem fP{e:Ex}{P:Fl→Sto→Prop}:(exS Φ G env (.expr e) s).post P↔(evE Φ G env e s).post fun _ s1=>P (.nx env) s1:=by
 show (Out.bind _ _).post P↔_
 simp only[zG,zC]
theorem kR{e:Ex}{P:Fl→Sto→Prop}:(exS Φ G env (.ret e) s).post P↔(evE Φ G env e s).post fun v s1=>P (.rt v) s1:=by
 show (Out.bind _ _).post P↔_
 simp only[zG,zC]
theorem Yq{P:Fl→Sto→Prop}:(exS Φ G env .retN s).post P↔P (.rt .none) s:=zC
theorem fM{i:Nat}{e:Ex}{P:Fl→Sto→Prop}:(exS Φ G env (.asg i e) s).post P↔(evE Φ G env e s).post fun v s1=>P (.nx (env.set i (some v))) s1:=by
 show (Out.bind _ _).post P↔_
 simp only[zG,zC]
theorem Yj{is:List Nat}{e:Ex}{P:Fl→Sto→Prop}:(exS Φ G env (.asgT is e) s).post P↔(evE Φ G env e s).post fun v s1=>∃env',yW (.nms is) v env=some env'∧P (.nx env') s1:=by
 show (Out.bind _ _).post P↔_
 simp only[zG]
 refine⟨fun h=>zJ h fun v s1 h=>?_,fun h=>zJ h fun v s1 h=>?_⟩
 . split at h
   . rename_i b e;exact⟨b,e,zC.mp h⟩
   . obtain⟨_,_,e,_⟩:=h;cases e
 . obtain⟨b,e,h⟩:=h
   rw[e];exact zC.mpr h
theorem kQ{is:List Nat}{es:Exs}{P:Fl→Sto→Prop}:(exS Φ G env (.par is es) s).post P↔(ya Φ G env es s).post fun vs s1=>(if vs.length=is.length then Out.ok (Fl.nx ((is.zip vs).foldl (fun e p=>e.set p.1 (some p.2)) env)) s1 else .stuck).post P:=by
 show (Out.bind _ _).post P↔_
 simp only[zG]
theorem bJ{o i e:Ex}{P:Fl→Sto→Prop}:(exS Φ G env (.setIx o i e) s).post P↔(evE Φ G env e s).post fun v s1=>(evE Φ G env o s1).post fun x s2=>(evE Φ G env i s2).post fun y s3=>∃r k vs j,x=.ref r∧y=.int k∧s3[r]?=some (.lst vs)∧L2.ixN vs.length k=some j∧P (.nx env) (upd s3 r (vs.set j v)):=by
 show (Out.bind _ _).post P↔_
 simp only[zG]
 refine zj fun v s1=>zj fun x s2=>zj fun y s3=>⟨fun h=>?_,fun⟨r,k,vs,j,h1,h2,h3,h4,h5⟩=>?_⟩
 . split at h
   . split at h
     . rename_i e3
       split at h
       . rename_i e4;exact⟨_,_,_,_,rfl,rfl,e3,e4,zC.mp h⟩
       . exact(zV.mp h).elim
     . exact(zV.mp h).elim
   . exact(zV.mp h).elim
 . subst h1;subst h2
   simp only[h3,h4]
   exact zC.mpr h5
theorem Ym{c:Cn}{a b:Sms}{P:Fl→Sto→Prop}:(exS Φ G env (.ifS c a b) s).post P↔(evT Φ G env c s).post fun t s1=>if t=true then (zR Φ G env a s1).post P else (zR Φ G env b s1).post P:=by
 show (Out.bind _ _).post P↔_
 simp only[zG,y6]
theorem Yp{P:Fl→Sto→Prop}:(exS Φ G env .pass s).post P↔P (.nx env) s:=zC
theorem Wf{P:Fl→Sto→Prop}:(exS Φ G env .brk s).post P↔P (.bk env) s:=zC
theorem Yk{P:Fl→Sto→Prop}:(exS Φ G env .cont s).post P↔P (.ct env) s:=zC
theorem mi{P:Fl→Sto→Prop}:(zR Φ G env .nil s).post P↔P (.nx env) s:=zC
noncomputable def rY(Φ:Calls)(G:Str→Option Val)(cs:Sms)(P:Fl→Sto→Prop):Fl→Sto→Prop
 |.nx e,s1=>(zR Φ G e cs s1).post P
 |fl,s1=>P fl s1
theorem yE{c:Sm}{cs:Sms}{P:Fl→Sto→Prop}:(zR Φ G env (.cons c cs) s).post P↔(exS Φ G env c s).post (rY Φ G cs P):=by
 show (Out.bind _ _).post P↔_
 simp only[zG]
 have:∀fl s1,(match fl with|.nx e=>zR Φ G e cs s1|fl=>Out.ok fl s1:Out Fl).post P↔rY Φ G cs P fl s1:=fun fl s1=>by
  cases fl with
  |nx e=>exact Dv
  |_=>exact zC
 exact⟨fun h=>zJ h fun fl s1 h=>(this fl s1).mp h,fun h=>zJ h fun fl s1 h=>(this fl s1).mpr h⟩
theorem aJ{cs:Sms}{P:Fl→Sto→Prop}{e:Env}:rY Φ G cs P (.nx e) s↔(zR Φ G e cs s).post P:=Dv
theorem aK{cs:Sms}{P:Fl→Sto→Prop}{v:Val}:rY Φ G cs P (.rt v) s↔P (.rt v) s:=Dv
theorem aH{cs:Sms}{P:Fl→Sto→Prop}{v:Env}:rY Φ G cs P (.bk v) s↔P (.bk v) s:=Dv
theorem aI{cs:Sms}{P:Fl→Sto→Prop}{v:Env}:rY Φ G cs P (.ct v) s↔P (.ct v) s:=Dv
theorem wm{I:Env→Prop}{g:Val→List Val}{r:Src}{t:Tgt}{body:Env→Sto→List Val→Out (List Val × Env)}(hr:r.ok s=true):∀(xs:List Val),(∀x∈xs,∀e acc,I e→∃e1 e2,yW t x e=some e1∧body e1 s acc=.ok (acc++g x,e2) s∧I e2)→∀e acc,I e→∃e',I e'∧yO r t body xs e s acc=.ok (acc++xs.flatMap g,e') s
 |[],_,e,acc,h0=>⟨e,h0,by simp[yO,hr]⟩
 |x::xs,h,e,acc,h0=>by
  obtain⟨e1,e2,h1,h2,h3⟩:=h x (.head _) e acc h0
  obtain⟨e',h4,h5⟩:=wm hr xs (fun y hy=>h y (.tail _ hy)) e2 (acc++g x) h3
  refine⟨e',h4,?_⟩
  simp only[yO,hr,if_true,h1,h2,zL,h5,CN,Ar]
theorem fO{m:Bool}{N:List Str}{fr:List (Option Nat)}{elt:Ex}{t:Tgt}{it:Itb}{ifs:Cns}{P:Val→Sto→Prop}(I:Env→Prop)(g:Val→List Val)
 (h:(yT Φ G env it s).post fun r s1=>r.ok s1=true∧I (zT fr env)∧(∀x∈r.xs,∀e,I e→∃e1,yW t x e=some e1∧I e1∧(ym Φ G e1 ifs s1).post fun b s2=>s2=s1∧if b=true then (evE Φ G e1 elt s1).post (fun v s2=>s2=s1∧g x=[v]) else g x=[])∧(newList m (r.xs.flatMap g) s1).post P) :
 (evE Φ G env (.comp m N fr elt t it ifs) s).post P:=by
 obtain⟨r,s1,ei,h1,h2,h3,h4⟩:=h
 obtain⟨e',_,h5⟩:=wm (I:=I) (g:=g) (body:=fun e s' acc=>(ym Φ G e ifs s').bind fun b s2=>if b then (evE Φ G e elt s2).bind fun v s3=>.ok (acc++[v],e) s3 else .ok (acc,e) s2) h1 r.xs (fun x hx e acc he=>by
  obtain⟨e1,k1,k2,b,s2,k3,rfl,k4⟩:=h3 x hx e he
  refine⟨e1,e1,k1,?_,k2⟩
  rw[k3,zL]
  cases b with
  |true=>
   rw[if_pos rfl]at k4 ⊢
   obtain⟨v,s3,kw,rfl,kv⟩:=k4
   rw[kw,zL,kv]
  |false=>
   rw[if_neg An]at k4 ⊢
   rw[k4,AZ]) (zT fr env) [] h2
 show (Out.bind (yT Φ G env it s) _).post P
 rw[ei,zL]
 rw[h5,zL]
 exact h4
def Small(l:List Val):Prop:=l.length≤zQ
theorem pv{m:Bool}{N:List Str}{fr:List (Option Nat)}{elt:Ex}{t t2:Tgt}{it it2:Itb}{ifs ifs2:Cns}{P:Val→Sto→Prop}(I:Env→Prop)(g:Val→List Val)(J:Val→Env→Prop)(g2:Val→Val→List Val)
 (h:(yT Φ G env it s).post fun r s1=>r.ok s1=true∧I (zT fr env)∧(∀x∈r.xs,∀e,I e→∃e1,yW t x e=some e1∧(ym Φ G e1 ifs s1).post fun b s2=>s2=s1∧if b=true then (yT Φ G e1 it2 s1).post (fun r2 s2=>s2=s1∧r2.ok s1=true∧J x e1∧(∀e,J x e→I e)∧g x=r2.xs.flatMap (g2 x)∧∀y∈r2.xs,∀e,J x e→∃e2,yW t2 y e=some e2∧J x e2∧(ym Φ G e2 ifs2 s1).post fun b s2=>s2=s1∧if b=true then (evE Φ G e2 elt s1).post (fun v s2=>s2=s1∧g2 x y=[v]) else g2 x y=[]) else g x=[]∧I e1)∧Small (r.xs.flatMap g)∧(newList m (r.xs.flatMap g) s1).post P) :
 (evE Φ G env (.comp2 m N fr elt t it ifs t2 it2 ifs2) s).post P:=by
 obtain⟨r,s1,ei,h1,h2,h3,hl,h4⟩:=h
 obtain⟨e',_,h5⟩:=wm (I:=I) (g:=g) (body:=fun e s' acc=>(ym Φ G e ifs s').bind fun b s2=>if b then (yT Φ G e it2 s2).bind fun r2 s3=>
        yO r2 t2 (fun e' s4 acc'=>(ym Φ G e' ifs2 s4).bind fun b' s5=>if b' then (evE Φ G e' elt s5).bind fun v s6=>.ok (acc'++[v],e') s6 else .ok (acc',e') s5) r2.xs e s3 acc
  else .ok (acc,e) s2) h1 r.xs (fun x hx e acc he=>by
  obtain⟨e1,k1,b,s2,k3,rfl,k4⟩:=h3 x hx e he
  cases b with
  |true=>
   rw[if_pos rfl]at k4
   obtain⟨r2,s3,k5,rfl,k6,k7,k8,k9,k10⟩:=k4
   obtain⟨e2,k11,k12⟩:=wm (I:=J x) (g:=g2 x) (body:=fun e' s4 acc'=>(ym Φ G e' ifs2 s4).bind fun b' s5=>if b' then (evE Φ G e' elt s5).bind fun v s6=>.ok (acc'++[v],e') s6 else .ok (acc',e') s5) k6 r2.xs (fun y hy e acc he=>by
    obtain⟨e1,k1,k2,b,s2,k3,rfl,k4⟩:=k10 y hy e he
    refine⟨e1,e1,k1,?_,k2⟩
    rw[k3,zL]
    cases b with
    |true=>
     rw[if_pos rfl]at k4 ⊢
     obtain⟨v,s3,kw,rfl,kv⟩:=k4
     rw[kw,zL,kv]
    |false=>
     rw[if_neg An]at k4 ⊢
     rw[k4,AZ]) e1 acc k7
   refine⟨e1,e2,k1,?_,k8 _ k11⟩
   rw[k3,zL,if_pos rfl,k5,zL,k12,k9]
  |false=>
   rw[if_neg An]at k4
   refine⟨e1,e1,k1,?_,k4.2⟩
   rw[k3,zL,if_neg An,k4.1,AZ]) (zT fr env) [] h2
 show (Out.bind (yT Φ G env it s) _).post P
 rw[ei,zL]
 rw[h5,zL]
 simp only[De]
 rw[if_pos (show (r.xs.flatMap g).length≤zQ from hl)]
 exact h4
theorem qe(Q:List Val→Env→Sto→List Val→Prop){r:Src}{t:Tgt}{body:Env→Sto→List Val→Out (List Val × Env)}:∀(xs:List Val),(∀e s acc,Q [] e s acc→r.ok s=true)→(∀x rest e s acc,Q (x::rest) e s acc→r.ok s=true∧∃e1,yW t x e=some e1∧(body e1 s acc).post fun p s2=>Q rest p.2 s2 p.1)→∀e s acc,Q xs e s acc→(yO r t body xs e s acc).post fun p s2=>Q [] p.2 s2 p.1
 |[],h0,_,e,s,acc,q=>by
  simp only[yO,h0 e s acc q,if_true]
  exact zC.mpr q
 |x::xs,h0,h,e,s,acc,q=>by
  obtain⟨h1,e1,h2,h3⟩:=h x xs e s acc q
  simp only[yO,h1,if_true,h2,zG]
  exact zJ h3 fun p s2 q=>qe Q xs h0 h p.2 s2 p.1 q
theorem kO{m:Bool}{N:List Str}{fr:List (Option Nat)}{elt:Ex}{t:Tgt}{it:Itb}{ifs:Cns}{P:Val→Sto→Prop}(Q:List Val→Env→Sto→List Val→Prop)
 (h:(yT Φ G env it s).post fun r s1=>Q r.xs (zT fr env) s1 []∧(∀rest e s acc,Q rest e s acc→r.ok s=true)∧(∀x rest e s acc,Q (x::rest) e s acc→∃e1,yW t x e=some e1∧(ym Φ G e1 ifs s).post fun b s2=>if b=true then (evE Φ G e1 elt s2).post (fun v s3=>Q rest e1 s3 (acc++[v])) else Q rest e1 s2 acc)∧∀e s acc,Q [] e s acc→(newList m acc s).post P) :
 (evE Φ G env (.comp m N fr elt t it ifs) s).post P:=by
 obtain⟨r,s1,ei,h1,h2,h3,h4⟩:=h
 show (Out.bind (yT Φ G env it s) _).post P
 rw[ei,zL,zG]
 refine zJ (qe Q r.xs (fun e s acc q=>h2 _ e s acc q) (fun x rest e s acc q=>⟨h2 _ e s acc q,?_⟩) _ _ _ h1) fun p s2 q=>h4 _ _ _ q
 obtain⟨e1,k1,k2⟩:=h3 x rest e s acc q
 refine⟨e1,k1,?_⟩
 simp only[zG]
 refine zJ k2 fun b s2 k=>?_
 cases b with
 |true=>
  rw[if_pos rfl]at k ⊢
  simp only[zG,zC]
  exact k
 |false=>
  rw[if_neg An]at k ⊢
  exact zC.mpr k
theorem u7(Q:List Val→Env→Sto→Prop)(R:Fl→Sto→Prop){r:Src}{t:Tgt}{body:Env→Sto→Out Fl}(h0:∀e s,Q [] e s→R (.nx e) s):∀(xs:List Val),(∀rest e s,Q rest e s→r.ok s=true)→(∀x rest e s,Q (x::rest) e s→∃e1,yW t x e=some e1∧(body e1 s).post fun fl s2=>match fl with|.nx e=>Q rest e s2|.ct e=>Q rest e s2|.bk e=>R (.nx e) s2|.rt v=>R (.rt v) s2)→∀e s,Q xs e s→(w4 r t body xs e s).post R
 |[],hk,_,e,s,q=>by
  simp only[w4,hk _ _ _ q,if_true]
  exact zC.mpr (h0 _ _ q)
 |x::xs,hk,h,e,s,q=>by
  obtain⟨e1,h2,h3⟩:=h x xs e s q
  simp only[w4,hk _ _ _ q,if_true,h2,zG]
  refine zJ h3 fun fl s2 q=>?_
  cases fl with
  |nx e=>exact u7 Q R h0 xs hk h e s2 q
  |ct e=>exact u7 Q R h0 xs hk h e s2 q
  |bk e=>exact zC.mpr q
  |rt v=>exact zC.mpr q
noncomputable def tY(Q:Env→Sto→Prop)(R:Fl→Sto→Prop):Fl→Sto→Prop
 |.nx e,s=>Q e s
 |.ct e,s=>Q e s
 |.bk e,s=>R (.nx e) s
 |.rt v,s=>R (.rt v) s
theorem aD{Q:Env→Sto→Prop}{R:Fl→Sto→Prop}{e:Env}:tY Q R (.nx e) s↔Q e s:=Dv
theorem aC{Q:Env→Sto→Prop}{R:Fl→Sto→Prop}{e:Env}:tY Q R (.ct e) s↔Q e s:=Dv
theorem aB{Q:Env→Sto→Prop}{R:Fl→Sto→Prop}{e:Env}:tY Q R (.bk e) s↔R (.nx e) s:=Dv
theorem aE{Q:Env→Sto→Prop}{R:Fl→Sto→Prop}{v:Val}:tY Q R (.rt v) s↔R (.rt v) s:=Dv
theorem Wh{t:Tgt}{it:Itb}{b:Sms}{R:Fl→Sto→Prop}(Q:List Val→Env→Sto→Prop)
 (h:(yT Φ G env it s).post fun r s1=>Q r.xs env s1∧(∀rest e s,Q rest e s→r.ok s=true)∧(∀x rest e s,Q (x::rest) e s→∃e1,yW t x e=some e1∧(zR Φ G e1 b s).post (tY (Q rest) R))∧∀e s,Q [] e s→R (.nx e) s) :
 (exS Φ G env (.forS t it b) s).post R:=by
 obtain⟨r,s1,ei,h1,h2,h3,h4⟩:=h
 show (Out.bind (yT Φ G env it s) _).post R
 rw[ei,zL]
 refine u7 Q R h4 r.xs h2 (fun x rest e s q=>?_) _ _ h1
 obtain⟨e1,k1,k2⟩:=h3 x rest e s q
 refine⟨e1,k1,zJ k2 fun fl s2 k=>?_⟩
 cases fl<;>exact k
theorem mh{t:Tgt}{it:Itb}{b:Sms}{R:Fl→Sto→Prop}(Q:List Val→Env→Sto→Prop)(xs:List Val){s1:Sto}(hi:yT Φ G env it s=.ok ⟨xs,Ad⟩ s1)(h0:Q xs env s1)
 (h1:∀x rest e s,Q (x::rest) e s→∃e1,yW t x e=some e1∧(zR Φ G e1 b s).post (tY (Q rest) R)) (h2:∀e s,Q [] e s→R (.nx e) s) :
 (exS Φ G env (.forS t it b) s).post R:=Wh Q ⟨_,_,hi,h0,fun _ _ _ _=>rfl,h1,h2⟩
theorem xm{m:Bool}{N:List Str}{fr:List (Option Nat)}{elt:Ex}{t:Tgt}{it:Itb}{ifs:Cns}{P:Val→Sto→Prop}(I:Env→Prop)(g:Val→List Val)(xs:List Val){s1:Sto}(hi:yT Φ G env it s=.ok ⟨xs,Ad⟩ s1)(h0:I (zT fr env))
 (h1:∀x∈xs,∀e,I e→∃e1,yW t x e=some e1∧I e1∧(ym Φ G e1 ifs s1).post fun b s2=>s2=s1∧if b=true then (evE Φ G e1 elt s1).post (fun v s2=>s2=s1∧g x=[v]) else g x=[]) (h2:(newList m (xs.flatMap g) s1).post P) :
 (evE Φ G env (.comp m N fr elt t it ifs) s).post P:=fO I g ⟨_,_,hi,rfl,h0,h1,h2⟩
theorem jk(Q:Nat→Env→Sto→Prop)(R:Fl→Sto→Prop){c:Env→Sto→Out Bool}{body:Env→Sto→Out Fl}:∀(n k:Nat),n<k→(∀n e s,Q n e s→(c e s).post fun b s1=>if b=true then (body e s1).post (tY (fun e s=>∃m,m<n∧Q m e s) R) else R (.nx e) s1)→∀e s,Q n e s→(vI c body k e s).post R:=by
 intro n
 induction n using Nat.strongRecOn with
 |ind n ih=>
  intro k hk h e s q
  cases k with
  |zero=>omega
  |succ k=>
   simp only[vI,zG]
   refine zJ (h n e s q) fun b s1 z=>?_
   cases b with
   |true=>
    rw[if_pos rfl]at z ⊢
    simp only[zG]
    refine zJ z fun fl s2 z=>?_
    cases fl with
    |nx e=>
     obtain⟨m,h1,h2⟩:=z
     exact ih m h1 k (by omega) h e s2 h2
    |ct e=>
     obtain⟨m,h1,h2⟩:=z
     exact ih m h1 k (by omega) h e s2 h2
    |bk e=>exact zC.mpr z
    |rt v=>exact zC.mpr z
   |false=>
    rw[if_neg An]at z ⊢
    exact zC.mpr z
theorem bL{c:Cn}{b:Sms}{R:Fl→Sto→Prop}(n:Nat)(Q:Nat→Env→Sto→Prop)(hn:n<oK)(q:Q n env s)
 (h:∀n e s,Q n e s→(evT Φ G e c s).post fun t s1=>if t=true then (zR Φ G e b s1).post (tY (fun e s=>∃m,m<n∧Q m e s) R) else R (.nx e) s1) :
 (exS Φ G env (.whileS c b) s).post R:=jk Q R n oK hn h env s q
end
theorem aM{s:Sto}:truth s .none=some false:=rfl
theorem zX{s:Sto}{b:Bool}:truth s (.bool b)=some b:=rfl
theorem XX{s:Sto}{i:Int}:truth s (.int i)=some (i != 0):=rfl
theorem XZ{s:Sto}{vs:List Val}:truth s (.tup vs)=some !vs.isEmpty:=rfl
theorem XY{s:Sto}{vs:List Val}:truth s (.lst vs)=some !vs.isEmpty:=rfl
theorem XJ{s:Sto}{vs:List Val}:srcOf s (.tup vs)=some ⟨vs,Ad⟩:=rfl
theorem XI{s:Sto}{vs:List Val}:srcOf s (.lst vs)=some ⟨vs,Ad⟩:=rfl
theorem aA{s:Sto}{ns:List Int}:srcOf s (.ctup ns)=some ⟨ns.map .int,Ad⟩:=rfl
theorem eR{s:Sto}{xs:List Val}:Src.ok ⟨xs,Ad⟩ s=true:=rfl
theorem Xw{i:Nat}{v:Val}{env:Env}:yW (.nm i) v env=some (env.set i (some v)):=rfl
theorem ZO{is:List Nat}{vs:List Val}{env:Env}:yW (.nms is) (.tup vs) env=if vs.length=is.length then some ((is.zip vs).foldl (fun e p=>e.set p.1 (some p.2)) env) else Ad:=rfl
theorem i4(vs:List Val):uu vs vs=true:=vP vs
theorem oU(c:Cel):c.beq c=true:=by cases c<;>simp[Cel.beq,i4]
theorem tD:∀(s t:Sto),xg s (s++t)=true
 |[],_=>rfl
 |c::r,t=>by simp[xg,oU c,tD r t]
theorem mV(s:Sto):xg s s=true:=by have:=tD s [];rwa [AZ]at this
theorem rG:∀(s t:Sto) (i:Nat) (c:Cel),c.noRef=true→xg s (s.set i c++t)=true
 |[],_,_,_,_=>by simp[xg]
 |_::r,t,0,c,h=>by simp[xg,h,tD r t]
 |o::r,t,i+1,c,h=>by simp[xg,oU o,rG r t i c h]
theorem jv(s t:Sto)(i:Nat)(vs:List Val)(h:zl vs=true):xg s (s.set i (.lst vs)++t)=true:=rG s t i _ h
theorem cn:Val.none.noRef=true:=by rw[Val.noRef]
theorem vV{b:Bool}:(Val.bool b).noRef=true:=by rw[Val.noRef]
theorem wu{b:Int}:(Val.int b).noRef=true:=by rw[Val.noRef]
theorem YS{b:Str}:(Val.str b).noRef=true:=by rw[Val.noRef]
theorem ph{vs:List Val}:(Val.tup vs).noRef=zl vs:=by rw[Val.noRef]
theorem pf{vs:List Val}:(Val.lst vs).noRef=zl vs:=by rw[Val.noRef]
theorem uR:zl []=true:=by rw[zl]
theorem xU{v:Val}{vs:List Val}:zl (v::vs)=(v.noRef&&zl vs):=by rw[zl]
theorem vJ:∀ns:List Int,zl (ns.map .int)=true
 |[]=>rfl
 |_::ns=>by simp[zl,Val.noRef,vJ ns]
theorem v5:∀zs:List (Int × Int),zl (zs.map prV)=true
 |[]=>rfl
 |_::zs=>by simp[zl,Val.noRef,prV,v5 zs]
noncomputable def yF(k:Bool)(s0:Sto)(v:Val)(s:Sto):Out Val:=
 if k then .ok v s
 else if xg s0 s then (match freeze s0.length s v with|some v'=>.ok v' (s.take s0.length)|Ad=>.stuck) else .stuck
theorem ot{s0 s:Sto}{v:Val}:yF true s0 v s=.ok v s:=rfl
theorem x8{k:Bool}{s:Sto}{v:Val}(h:v.noRef=true):yF k s v s=.ok v s:=by
 unfold yF
 cases k
 . simp[mV,freeze,h]
 . rfl
theorem sj{s t:Sto}{v:Val}{i:Nat}{vs:List Val}(h:v.noRef=true)(hv:zl vs=true):yF false s v (s.set i (.lst vs)++t)=.ok v (s.set i (.lst vs)):=by
 unfold yF
 have e:s.length=(s.set i (.lst vs)).length:=by rw[Dd]
 simp only[jv s t i vs hv,freeze,h,if_true,AU,if_false,e,List.take_left']
theorem jh{s:Sto}{v:Val}{i:Nat}{vs:List Val}(h:v.noRef=true)(hv:zl vs=true):yF false s v (s.set i (.lst vs))=.ok v (s.set i (.lst vs)):=by
 have:=sj (s:=s) (t:=[]) (i:=i) h hv
 rwa [AZ]at this
noncomputable def fin(k:Bool)(s:Sto)(P:Val→Sto→Prop):Fl→Sto→Prop
 |.nx _,s1=>(yF k s .none s1).post P
 |.rt v,s1=>(yF k s v s1).post P
 |_,_=>False
theorem ZW{k:Bool}{s s1:Sto}{P:Val→Sto→Prop}{e:Env}:fin k s P (.nx e) s1↔(yF k s .none s1).post P:=Dv
theorem ZX{k:Bool}{s s1:Sto}{P:Val→Sto→Prop}{v:Val}:fin k s P (.rt v) s1↔(yF k s v s1).post P:=Dv
theorem yo{T:Tbl}{Φ:Calls}{N ps:List Str}{k:Bool}{b:Sms}{vs:List Val}{s:Sto}{P:Val→Sto→Prop}:(run T Φ ⟨N,ps,k,b⟩ vs s).post P↔vs.length=ps.length∧(zR Φ T.gl (zm N vs) b s).post (fin k s P):=by
 unfold run
 by_cases hl:vs.length=ps.length
 . rw[if_pos hl,zG]
   refine⟨fun h=>⟨hl,zJ h fun fl s1 h=>?_⟩,fun h=>zJ h.2 fun fl s1 h=>?_⟩
   . cases fl<;>first|exact h|exact(zV.mp h).elim
   . cases fl<;>first|exact h|exact h.elim
 . rw[if_neg hl]
   exact⟨fun h=>(zV.mp h).elim,fun h=>absurd h.1 hl⟩
theorem zP{T:Tbl}{n:Nat}{f:Str}{v:Nat}{F:Fn}(h:T.fn f v=some F)(vs:List Val)(s:Sto):zF T (n+1) f v vs s=run T (zF T n) F vs s:=by
 show (match T.fn f v with|some F=>run T (zF T n) F vs s|Ad=>.stuck)=_
 rw[h]
def At(T:Tbl)(k:Nat)(C:Calls→Prop):Prop:=∀n,k≤n→C (zF T n)
noncomputable def EVl:=Am @nK <| Am @fV <| Am @Wi <| Am @Vw <| Am @nJ <| Am @Wl <| Am @Wm <| Am @Wg <| Am @bH <| Am @We <| Am @Yh <| Am @Yi <| Am @Vu <| Am @Wn <| Am @Wo <| Am @Wj <| Am @Wr <| Am @Wk <| Am @fN <| Am @af <| Am @fS <| Am @fR <| Am @Vt <| Am @Vv <| Am @Yn <| Am @Yo <| Am @rH <| Am @xM <| Am @ag <| Am @Ys <| Am @Yr <| Am @Wq <| Am @yJ <| Am @bK <| Am @fU <| Am @fT <| Am @fQ <| Am @nL <| Am @nM <| Am @Yl <| Am @fP <| Am @kR <| Am @Yq <| Am @fM <| Am @Yj <| Am @kQ <| Am @bJ <| Am @Ym <| Am @Yp <| Am @Wf <| Am @Yk <| Am @mi <| Am @yE <| Am @aJ <| Am @aK <| Am @aH <| Am @aI <| Am @aD <| Am @aC <| Am @aB <| Am @aE <| Am @zC <| Am @y6 <| Am @zV <| Am @aM <| Am @zX <| Am @XX <| Am @XZ <| Am @XY <| Am @XJ <| Am @XI <| Am @aA <| Am @eR <| Am @Xw <| Am @ZO <| Am @yo <| Am @ZW <| Am @ZX <| Am @ot <| Am @x8 <| Am @cn <| Am @vV <| Am @wu <| Am @YS <| Am @ph <| Am @pf <| Am @uR <| Am @xU <| Am @vJ <| @v5
end M
end
section
namespace M
open PySem
theorem bnd{α β:Type}{o:Out α}{a:α}{s:Sto}{f:α→Sto→Out β}{r:Out β}(h:o=.ok a s)(k:f a s=r):o.bind f=r:=by rw[h];exact k
section
variable {Φ:Calls}{G:Str→Option Val}{env:Env}{s s1 s2 s3 s4:Sto}
theorem zW{v:Val}:evE Φ G env (.lit v) s=.ok v s:=rfl
theorem zB{i:Nat}{v:Val}(h:env[i]?=some (some v)):evE Φ G env (.var i) s=.ok v s:=post_eq.mpr (fV.mpr ⟨v,h,rfl,rfl⟩)
theorem iX{x:Str}{n:String}:evE Φ G env (.ty x n) s=.ok (.ty n) s:=rfl
theorem lP{x:Str}{v:Val}(h:G x=some v):evE Φ G env (.gl x) s=.ok v s:=post_eq.mpr (Wi.mpr ⟨v,h,rfl,rfl⟩)
theorem Xg{a b:Ex}{es:Exs}(h1:evE Φ G env a s=.ok (.bool false) s1):evE Φ G env (.andE a (.cons b es)) s=.ok (.bool false) s1:=bnd h1 rfl
theorem Xh{a b c:Ex}{es:Exs}(h1:evE Φ G env a s=.ok (.bool true) s1)(h2:evE Φ G env b s1=.ok (.bool false) s2):evE Φ G env (.andE a (.cons b (.cons c es))) s=.ok (.bool false) s2:=bnd h1 (show (evE Φ G env b s1).bind _=_ from bnd h2 rfl)
theorem dF{a b c:Ex}{r:Out Val}(h1:evE Φ G env a s=.ok (.bool true) s1)(h2:evE Φ G env b s1=.ok (.bool true) s2)(h3:evE Φ G env c s2=r):evE Φ G env (.andE a (.cons b (.cons c .nil))) s=r:=bnd h1 (show (evE Φ G env b s1).bind _=_ from bnd h2 h3)
theorem ZD{a:Ex}{i:Int}(h:evE Φ G env a s=.ok (.int i) s1):evE Φ G env (.neg a) s=.ok (.int (-i)) s1:=bnd h rfl
theorem yP{m:Bool}{op:Bop}{a b:Ex}{x y:Val}{r:Out Val}(h1:evE Φ G env a s=.ok x s1)(h2:evE Φ G env b s1=.ok y s2)(h3:binOp m op x y s2=r):evE Φ G env (.bin m op a b) s=r:=bnd h1 (bnd h2 h3)
theorem yL{op:Cop}{a b:Ex}{x y:Val}{r:Out Val}(h1:evE Φ G env a s=.ok x s1)(h2:evE Φ G env b s1=.ok y s2)(h3:zM op x y s2=r):evE Φ G env (.cmp op a b) s=r:=bnd h1 (bnd h2 h3)
theorem ui{a b:Ex}{x y:Val}{r:Out Val}(h1:evE Φ G env a s=.ok x s1)(h2:evE Φ G env b s1=.ok y s2)(h3:y3 x y s2=r):evE Φ G env (.ix a b) s=r:=bnd h1 (bnd h2 h3)
theorem mU:evO Φ G env .no s=.ok none s:=rfl
theorem nG{e:Ex}{i:Int}(h:evE Φ G env e s=.ok (.int i) s1):evO Φ G env (.yes e) s=.ok (some i) s1:=bnd h rfl
theorem aT{m:Bool}{a:Ex}{lo hi st:OEx}{x:Val}{l h c:Option Int}{r:Out Val}(h0:evE Φ G env a s=.ok x s1)(h1:evO Φ G env lo s1=.ok l s2)(h2:evO Φ G env hi s2=.ok h s3)(h3:evO Φ G env st s3=.ok c s4)(h4:wA m x l h c s4=r):evE Φ G env (.sl m a lo hi st) s=r:=bnd h0 (bnd h1 (bnd h2 (bnd h3 h4)))
theorem zD:ya Φ G env .nil s=.ok [] s:=rfl
theorem zA{e:Ex}{es:Exs}{v:Val}{vs:List Val}(h1:evE Φ G env e s=.ok v s1)(h2:ya Φ G env es s1=.ok vs s2):ya Φ G env (.cons e es) s=.ok (v::vs) s2:=bnd h1 (bnd h2 rfl)
theorem kP{e:Ex}{es:Exs}{v:Val}{P:List Val→Sto→Prop}(h:evE Φ G env e s=.ok v s1)(k:(ya Φ G env es s1).post fun vs s2=>P (v::vs) s2):(ya Φ G env (.cons e es) s).post P:=xM.mpr (by rw[h];exact zC.mpr k)
theorem rl{es:Exs}{vs:List Val}(h:ya Φ G env es s=.ok vs s1)(hl:vs.length≤zQ):evE Φ G env (.tup es) s=.ok (.tup vs) s1:=bnd h (if_pos hl)
theorem Vf{es:Exs}{vs:List Val}(h:ya Φ G env es s=.ok vs s1)(hl:vs.length≤zQ):evE Φ G env (.lst false es) s=.ok (.lst vs) s1:=bnd h (if_pos hl)
theorem zr{f:Bf}{m:Bool}{es:Exs}{vs:List Val}{r:Out Val}(h:ya Φ G env es s=.ok vs s1)(k:blt f m vs s1=r):evE Φ G env (.blt f m es) s=r:=bnd h k
theorem x_call{f:Str}{v:Nat}{es:Exs}{vs:List Val}{r:Out Val}(h:ya Φ G env es s=.ok vs s1)(k:Φ f v vs s1=r):evE Φ G env (.call f v es) s=r:=bnd h k
theorem xP{f:Str}{v:Nat}{es:Exs}{vs:List Val}{P:Val→Sto→Prop}(h:ya Φ G env es s=.ok vs s1)(k:(Φ f v vs s1).post P):(evE Φ G env (.call f v es) s).post P:=by rw[x_call h rfl];exact k
theorem xB{i:Nat}{e:Ex}{cs:Sms}{v:Val}{P:Fl→Sto→Prop}(h:evE Φ G env e s=.ok v s1)(k:(zR Φ G (env.set i (some v)) cs s1).post P):(zR Φ G env (.cons (.asg i e) cs) s).post P:=yE.mpr (fM.mpr (by rw[h];exact zC.mpr k))
theorem lA{i:Nat}{e:Ex}{cs:Sms}{P:Fl→Sto→Prop}(h:(evE Φ G env e s).post fun v s1=>(zR Φ G (env.set i (some v)) cs s1).post P):(zR Φ G env (.cons (.asg i e) cs) s).post P:=yE.mpr (fM.mpr h)
theorem zw{e:Ex}{cs:Sms}{v:Val}{P:Fl→Sto→Prop}(h:evE Φ G env e s=.ok v s1)(k:(zR Φ G env cs s1).post P):(zR Φ G env (.cons (.expr e) cs) s).post P:=yE.mpr (fP.mpr (by rw[h];exact zC.mpr k))
theorem y7{e:Ex}{cs:Sms}{v:Val}{P:Fl→Sto→Prop}(h:evE Φ G env e s=.ok v s1)(k:P (.rt v) s1):(zR Φ G env (.cons (.ret e) cs) s).post P:=yE.mpr (kR.mpr (by rw[h];exact zC.mpr k))
theorem wk{e:Ex}{v:Val}{xs:List Val}(h:evE Φ G env e s=.ok v s1)(k:srcOf s1 v=some ⟨xs,none⟩):yT Φ G env (.val e) s=.ok ⟨xs,none⟩ s1:=post_eq.mpr (fQ.mpr (by rw[h];exact zC.mpr ⟨_,k,rfl,rfl⟩))
theorem z7{e:Ex}{v:Val}{b:Bool}(h:evE Φ G env e s=.ok v s1)(k:truth s1 v=some b):evT Φ G env (.val e) s=.ok b s1:=post_eq.mpr (ag.mpr (by rw[h];exact zC.mpr ⟨_,k,rfl,rfl⟩))
theorem qt{c:Cn}{b:Bool}(h:evT Φ G env c s=.ok b s1):evT Φ G env (.not c) s=.ok (!b) s1:=bnd h rfl
theorem iS{c:Cn}{cs:Cns}{b:Bool}(h:evT Φ G env c s=.ok false s1)(k:tq Φ G env cs s1=.ok b s2):evT Φ G env (.or c cs) s=.ok b s2:=bnd h k
theorem rZ:tq Φ G env .nil s=.ok false s:=rfl
theorem vd{c:Cn}{cs:Cns}{b:Bool}(h:evT Φ G env c s=.ok false s1)(k:tq Φ G env cs s1=.ok b s2):tq Φ G env (.cons c cs) s=.ok b s2:=bnd h k
theorem VZ{c:Cn}{cs:Cns}(h:evT Φ G env c s=.ok true s1):evT Φ G env (.or c cs) s=.ok true s1:=bnd h rfl
theorem ef{c:Cn}{cs:Cns}(h:evT Φ G env c s=.ok true s1):tq Φ G env (.cons c cs) s=.ok true s1:=bnd h rfl
theorem wI{c:Cn}{a cs:Sms}{P:Fl→Sto→Prop}(h:evT Φ G env c s=.ok false s1)(k:(zR Φ G env cs s1).post P):(zR Φ G env (.cons (.ifS c a .nil) cs) s).post P:=yE.mpr (Ym.mpr (by rw[h];refine zC.mpr ?_;rw[if_neg An];exact mi.mpr k))
theorem VI{c:Cn}{a b cs:Sms}{P:Fl→Sto→Prop}(h:evT Φ G env c s=.ok true s1)(k:(zR Φ G env a s1).post (rY Φ G cs P)):(zR Φ G env (.cons (.ifS c a b) cs) s).post P:=yE.mpr (Ym.mpr (by rw[h];refine zC.mpr ?_;rw[if_pos rfl];exact k))
theorem aw{J:Env→Sto→Prop}{c:Cn}{a cs:Sms}{b:Bool}{P:Fl→Sto→Prop}(h:evT Φ G env c s=.ok b s1)(k1:b=true→(zR Φ G env a s1).post fun fl s2=>∃e,fl=.nx e∧J e s2)(k0:b=false→J env s1)(k:∀e s2,J e s2→(zR Φ G e cs s2).post P):(zR Φ G env (.cons (.ifS c a .nil) cs) s).post P:=by
 cases b with
 |true=>exact VI h (zJ (k1 rfl) fun fl s2 ⟨e,he,j⟩=>by subst he;exact k e s2 j)
 |false=>exact wI h (k env s1 (k0 rfl))
theorem ZE{a:Ex}{b:Bool}(h:evE Φ G env a s=.ok (.bool b) s1):evE Φ G env (.not a) s=.ok (.bool !b) s1:=bnd h rfl
theorem lQ{c:Cn}{a b:Ex}{r:Out Val}(h:evT Φ G env c s=.ok true s1)(k:evE Φ G env a s1=r):evE Φ G env (.ife c a b) s=r:=bnd h k
theorem dG{c:Cn}{a b:Ex}{r:Out Val}(h:evT Φ G env c s=.ok false s1)(k:evE Φ G env b s1=r):evE Φ G env (.ife c a b) s=r:=bnd h k
theorem tX{P:Fl→Sto→Prop}(k:P (.nx env) s):(zR Φ G env .nil s).post P:=mi.mpr k
theorem p4{is:List Nat}{vs:List Val}{P:Fl→Sto→Prop}(hl:vs.length=is.length)(k:P (.nx ((is.zip vs).foldl (fun e p=>e.set p.1 (some p.2)) env)) s):(if vs.length=is.length then Out.ok (Fl.nx ((is.zip vs).foldl (fun e p=>e.set p.1 (some p.2)) env)) s else .stuck).post P:=by
 rw[if_pos hl];exact zC.mpr k
theorem vG{e:Ex}{k:Nat}(h:evE Φ G env e s=.ok (.int (k:Int)) s1)(hk:k≤zQ):yT Φ G env (.range1 e) s=.ok ⟨z9 0 k,none⟩ s1:=by
 rw[post_eq]
 refine nL.mpr ?_
 rw[h]
 exact zC.mpr ⟨_,rfl,⟨by omega,by omega⟩,by rw[AH],rfl⟩
theorem gQ{a b:Ex}{i j:Nat}(h:evE Φ G env a s=.ok (.int (i:Int)) s1)(h':evE Φ G env b s1=.ok (.int (j:Int)) s2)(hi:i≤1000)(hj:j≤1000):yT Φ G env (.range2 a b) s=.ok ⟨z9 i (j-i),none⟩ s2:=by
 rw[post_eq]
 refine nM.mpr ?_
 rw[h]
 refine zC.mpr ?_
 rw[h']
 exact zC.mpr ⟨_,_,rfl,rfl,⟨by omega,by omega,by omega,by omega,by unfold zQ;omega⟩,by congr 2;omega,rfl⟩
theorem lF{c d:Cn}{a b:Bool}(h:evT Φ G env c s=.ok a s)(k:evT Φ G env d s=.ok b s):evT Φ G env (.and c (.cons d .nil)) s=.ok (a&&b) s:=bnd h (by
 cases a with
 |false=>rfl
 |true=>exact bnd k (by cases b<;>rfl))
theorem lI{c:Cn}{b:Bool}(h:evT Φ G env c s=.ok b s):ym Φ G env (.cons c .nil) s=.ok b s:=bnd h (by cases b<;>rfl)
end
end M
end
section
namespace M
open PySem
noncomputable def xf(l m:Int):Val→Bool
 |.int i=>decide (l≤i)&&decide (i≤m)
 |_=>false
theorem tQ{l m i:Int}(h1:l≤i)(h2:i≤m):xf l m (.int i)=true:=by simp[xf,h1,h2]
def qz(Φ:Calls):Prop:=∀(v:Val) (l m:Int) (s:Sto),kindOf v≠none→Φ "is_whole" 0 [v,.int l,.int m] s=.ok (.bool (xf l m v)) s
def pA(Φ:Calls):Prop:=∀(vs:List Val) (l m:Int) (s:Sto),(∀v∈vs,kindOf v≠none)→Φ "are_wholes" 0 [.tup vs,.int l,.int m] s=.ok (.bool (vs.all (xf l m))) s
def xw(Φ:Calls):Prop:=∀(i l m:Int) (s:Sto),l≤i→i≤m→Φ "need_whole" 0 [.int i,.int l,.int m] s=.ok .none s
def wN(Φ:Calls):Prop:=∀(i:Int) (s:Sto),2≤i→i≤8→Φ "need_size" 0 [.int i] s=.ok .none s
def w6(Φ:Calls):Prop:=∀(i:Int) (s:Sto),0≤i→i≤40→Φ "need_length" 0 [.int i] s=.ok .none s
def ic(Φ:Calls):Prop:=∀(n i z:Nat) (s:Sto),i<n→2≤z→z≤8→Φ "most_step" 0 [.int n,.int i,.int z] s=.ok (.int ((n-1-i)/(z-1):Nat)) s
theorem uQ{m:Bool}{vs:List Val}{s:Sto}:blt .len m [.tup vs] s=.ok (.int vs.length) s:=rfl
theorem ae{m:Bool}{vs:List Val}{s:Sto}:blt .len m [.lst vs] s=.ok (.int vs.length) s:=rfl
theorem g7{m:Bool}{ns:List Int}{s:Sto}:blt .len m [.scr ns] s=.ok (.int ns.length) s:=by simp[blt,xh]
theorem le_int{a b:Int}{s:Sto}:zM .le (.int a) (.int b) s=.ok (.bool (decide (a≤b))) s:=rfl
theorem lt_int{a b:Int}{s:Sto}:zM .lt (.int a) (.int b) s=.ok (.bool (decide (a<b))) s:=rfl
theorem ge_int{a b:Int}{s:Sto}:zM .ge (.int a) (.int b) s=.ok (.bool (decide (b≤a))) s:=rfl
theorem gt_int{a b:Int}{s:Sto}:zM .gt (.int a) (.int b) s=.ok (.bool (decide (b<a))) s:=rfl
theorem kG{m:Bool}{vs:List Val}{s:Sto}:blt .isi m [.tup vs,.ty "tuple"] s=.ok (.bool true) s:=rfl
theorem w9{α:Type}(f:α→Bool):∀xs:List α,boolsOf (xs.map fun x=>Val.bool (f x))=some (xs.map f)
 |[]=>rfl
 |x::xs=>by simp[boolsOf,w9 f xs]
theorem vk{α β:Type}(f:α→β)(xs:List α):xs.flatMap (fun x=>[f x])=xs.map f:=by
 induction xs with
 |nil=>rfl
 |cons x xs ih=>simp[ih]
theorem ve{m:Bool}{i j:Int}{s:Sto}:binOp m .add (.int i) (.int j) s=.ok (.int (i+j)) s:=by simp only[binOp]
theorem oS{m:Bool}{i j:Int}{s:Sto}:binOp m .sub (.int i) (.int j) s=.ok (.int (i-j)) s:=by simp only[binOp]
theorem oR{m:Bool}{i j:Int}{s:Sto}(h:-1000000≤i∧i≤1000000):binOp m .mul (.int i) (.int j) s=.ok (.int (i*j)) s:=by
 simp only[binOp]
 rw[if_pos (.inl (by omega))]
theorem lZ{m:Bool}{i j:Int}{s:Sto}(h:-1000000≤j∧j≤1000000):binOp m .mul (.int i) (.int j) s=.ok (.int (i*j)) s:=by
 simp only[binOp]
 rw[if_pos (.inr (by omega))]
section
variable {T:Tbl}{Φ:Calls}{s:Sto}
theorem gP{v:Val}{m:Bool}{n:String}{a c:L2.Kd}{s:Sto}(h:kindOf v=some a)(h':u5 n=some c):blt .isi m [v,.ty n] s=.ok (.bool (a.sub c)) s:=by
 simp only[blt];rw[h,h']
theorem YH{v:Val}{a:L2.Kd}(h:kindOf v=some a):(∃i,v=.int i)∨(∃b,v=.bool b)∨(a.sub .int=false∧∀l m,xf l m v=false):=by
 cases v with
 |int i=>exact .inl ⟨i,rfl⟩
 |bool b=>exact .inr (.inl ⟨b,rfl⟩)
 |_=>cases h<;>exact .inr (.inr ⟨rfl,fun _ _=>rfl⟩)
theorem cZ{v:Val}(h:kindOf v≠none):∃a,kindOf v=some a:=Option.ne_none_iff_exists'.mp h
theorem iN{v:Val}{l m:Int}(hk:kindOf v≠none):run T Φ F.xF [v,.int l,.int m] s=.ok (.bool (xf l m v)) s:=by
 obtain⟨a,ha⟩:=cZ hk
 have e1:=gP (m:=false) (s:=s) ha (show u5 "int"=some .int from rfl)
 have e2:=gP (m:=false) (s:=s) ha (show u5 "bool"=some .bl from rfl)
 have end':∀{b:Bool},b=xf l m v→(yF false s (.bool b) s).post fun x t=>x=.bool (xf l m v)∧t=s:=fun{b} e=>by
  rw[x8 vV,e];exact zC.mpr ⟨rfl,rfl⟩
 rw[post_eq,F.xF,yo]
 refine⟨rfl,?_⟩
 show (zR Φ T.gl [some v,some (.int l),some (.int m)] _ s).post _
 rcases YH ha with⟨i,rfl⟩|⟨b,rfl⟩|⟨h1,h2⟩
 . cases ha
   have hc:evE Φ T.gl [some (.int i),some (.int l),some (.int m)] (.chain .le .le (.var 1) (.var 0) (.var 2)) s=.ok (.bool (xf l m (.int i))) s:=by
    refine bnd (zB rfl) (bnd (zB rfl) (bnd le_int ?_))
    show (match Val.bool (decide (l≤i)) with
     |.bool true=>(evE Φ T.gl [some (.int i),some (.int l),some (.int m)] (.var 2) s).bind fun z s4=>zM .le (.int i) z s4
     |.bool false=>.ok (.bool false) s
     |_=>.stuck)=Out.ok (.bool (decide (l≤i)&&decide (i≤m))) s
    cases decide (l≤i) with
    |true=>exact bnd (zB rfl) le_int
    |false=>rfl
   exact y7 (dF (zr (zA (zB rfl) (zA iX zD)) e1) (ZE (zr (zA (zB rfl) (zA iX zD)) e2)) hc) (end' rfl)
 . cases ha
   exact y7 (Xh (zr (zA (zB rfl) (zA iX zD)) e1) (ZE (zr (zA (zB rfl) (zA iX zD)) e2))) (end' rfl)
 . rw[h1]at e1
   exact y7 (Xg (zr (zA (zB rfl) (zA iX zD)) e1)) (end' (h2 _ _).symm)
theorem m9(c:qz Φ){vs:List Val}{l m:Int}(hk:∀v∈vs,kindOf v≠none):run T Φ F.yg [.tup vs,.int l,.int m] s=.ok (.bool (vs.all (xf l m))) s:=by
 rw[post_eq]
 simp[F.yg,EVl,zm,zT]
 refine fO (fun e=>∃o,e=[o,some (.int l),some (.int m)]) (fun x=>[.bool (xf l m x)]) ?_
 simp[EVl,zm,zT]
 refine⟨?_,?_⟩
 . intro x hx
   simp[EVl,zm,zT,c x l m s (hk x hx)]
 . simp[newList,EVl,zm,zT,blt,vk,yK,w9]
theorem qC(c:qz Φ){i l m:Int}(h1:l≤i)(h2:i≤m):run T Φ F.yk [.int i,.int l,.int m] s=.ok .none s:=by
 rw[post_eq]
 simp[F.yk,EVl,zm,zT,c (.int i) l m s (by simp[kindOf]),tQ h1 h2]
theorem eO{n i z:Nat}(h1:i<n)(h2:2≤z)(h3:z≤8):run T Φ F.yu [.int n,.int i,.int z] s=.ok (.int ((n-1-i)/(z-1):Nat)) s:=by
 rw[post_eq]
 have a1:(0:Int)<(z:Int)-1∧(z:Int)-1<1073741824:=by omega
 have a2:((n:Int)-1-(i:Int))/((z:Int)-1)=(((n-1-i)/(z-1):Nat):Int):=by
  rw[Int.natCast_ediv]
  congr 1<;>omega
 simp[F.yu,EVl,zm,zT,binOp]
 refine⟨by omega,?_⟩
 rw[a2];simp
end
end M
end
section
namespace M
open PySem
noncomputable def zN(r:Nat × Nat):Val:=.tup [.int r.1,.int r.2]
theorem wG{lo:Int}{n:Nat}{x:Val}(h:x∈z9 lo n):∃k:Nat,k<n∧x=.int (lo+k):=by
 unfold z9 at h
 obtain⟨k,h1,rfl⟩:=As.mp h
 exact⟨k,Ax.mp h1,rfl⟩
theorem tF:∀zs:List (Int × Int),pairsOf (zs.map prV)=some zs
 |[]=>rfl
 |z::zs=>by simp[pairsOf,prV,tF zs]
theorem W2(ns:List Int)(lo st:Int)(n:Nat):L2.za (ns.map Val.int) lo st n=(L2.za ns lo st n).map Val.int:=by
 unfold L2.za
 rw[FP]
 congr 1
 funext k
 simp[Ay]
theorem l6(a b:Int):Cj (.int a) (.int b)=decide (a=b):=by
 by_cases h:a=b<;>simp[Cj,h]
theorem eq_int{a b:Int}{s:Sto}:zM .eq (.int a) (.int b) s=.ok (.bool (decide (a=b))) s:=by
 simp[zM,yC,xH,pM,Val.isD,Val.d,ED,l6]
theorem ne_int{a b:Int}{s:Sto}:zM .ne (.int a) (.int b) s=.ok (.bool !(decide (a=b))) s:=by
 simp[zM,yC,xH,pM,Val.isD,Val.d,ED,l6]
theorem Ze{vs:List Val}{k:Nat}{v:Val}{s:Sto}(h:vs[k]?=some v):y3 (.tup vs) (.int k) s=.ok v s:=by
 simp[y3,xh,L2.t9 h]
theorem vz{ns:List Int}{k:Nat}{i:Int}{s:Sto}(h:ns[k]?=some i):y3 (.tup (ns.map .int)) (.int k) s=.ok (.int i) s:=Ze (by rw[Ay,h];rfl)
theorem ux(ns:List Int):(ns.map Val.int).all flat=true:=by
 rw[List.all_map];simp[flat]
theorem vw(ns:List Int)(y:Int):(ns.map Val.int).countP (fun z=>eqF z (.int y))=ns.count y:=by
 rw[List.countP_map];rfl
section
variable {T:Tbl}{Φ:Calls}{s:Sto}
def Xj(Φ:Calls):Prop:=∀(ns:List Int) (f d z:Nat) (s:Sto),0<d→1≤z→f+d*(z-1)<ns.length→z≤zQ→Φ "is_one_hue" 0 [.tup (ns.map .int),.int f,.int d,.int z] s=.ok (.bool (yU ns f d z)) s
theorem bx{ns:List Int}{f d z:Nat}(hd:0<d)(hz:1≤z)(h:f+d*(z-1)<ns.length)(hl:z≤zQ):run T Φ F.yh [.tup (ns.map .int),.int f,.int d,.int z] s=.ok (.bool (yU ns f d z)) s:=by
 have hf:f<ns.length:=by
  have:0≤d*(z-1):=Bp _
  omega
 have a1:=de hd hz h
 have hdI:(d:Int)≠0:=by omega
 rw[post_eq]
 have hm:-(2 ^ 64)<(z:Int)∧(z:Int)<2 ^ 64:=by
  unfold zQ at hl;omega
 have hmul:binOp false .mul (.int d) (.int z) s=.ok (.int ((d:Int)*z)) s:=by
  simp only[binOp]
  rw[if_pos (.inr hm)]
 have hix:y3 (.tup (ns.map .int)) (.int f) s=.ok (.int (ns.getD f 0)) s:=vz (by rw[Aa hf,Ae,Aa hf];rfl)
 have hadd:binOp false .add (.int f) (.int ((d:Int)*z)) s=.ok (.int ((f:Int)+(d:Int)*z)) s:=by simp only[binOp]
 have hsl:wA false (.tup (ns.map .int)) (some (f:Int)) (some ((f:Int)+(d:Int)*z)) (some (d:Int)) s=.ok (.tup (((Ak z).map fun k=>ns.getD (f+k*d) 0).map .int)) s:=by
  simp only[wA,Ag]
  rw[a1,if_pos ⟨hdI,hl⟩]
  simp only[W2,fk h]
 have key:decide ((((Ak z).map fun k=>ns.getD (f+k*d) 0).count (ns.getD f 0):Int)=(z:Int))=yU ns f d z:=by
  rw[BD,cy h,decide_eq_true_iff]
  have hl:((Ak z).map fun k=>ns.getD (f+k*d) 0).length=z:=by rw[Ag,AV]
  constructor
  . intro e x hx
    exact(List.count_eq_length.mp (by rw[hl];exact Hb e) x hx).symm
  . intro e
    rw[List.count_eq_length.mpr fun x hx=>(e x hx).symm,hl]
 generalize hy:ns.getD f 0=y at hix key
 generalize hxs:(Ak z).map (fun k=>ns.getD (f+k*d) 0)=xs at hsl key
 simp only[F.yh,EVl,zm,zT]
 simp[EVl,zm,zT,hmul,hadd,hix,hsl,yb,ux,vw,eq_int,flat]
 exact key
def CAt(Φ:Calls):Prop:=∀(n z p:Nat) (s:Sto),n≤32→2≤z→z≤8→p<n→Φ "rows_at" 0 [.int n,.int z,.int p] s=.ok (.lst ((atP n z p).map zN)) s
noncomputable def Xq(n z p:Nat):Val→List Val
 |.int a=>(allAt n z p a.toNat).map prV
 |_=>[]
noncomputable def Xr(p:Nat):Val→Val→List Val
 |.int a,.int d=>[.tup [.int (p-d*a),.int d]]
 |_,_=>[]
noncomputable def kr(n z:Nat):Val→List Val
 |.tup [.int a,.int b]=>if inB n z (a,b) then [.tup [.int a,.int b]] else []
 |_=>[]
theorem lX{n z:Nat}:∀l:List (Int × Int),(l.map prV).flatMap (kr n z)=(l.filter (inB n z)).map prV
 |[]=>rfl
 |r::l=>by
  show kr n z (prV r)++(l.map prV).flatMap (kr n z)=_
  rw[lX l,Fc,show kr n z (prV r)=if inB n z r then [prV r] else [] from rfl]
  cases inB n z r<;>rfl
theorem XC(cW:qz Φ)(cL:w6 Φ)(cS:wN Φ)(cM:ic Φ){n z p:Nat}(hn:n≤32)(hz:2≤z)(hz8:z≤8)(hp:p<n):run T Φ F.xp [.int n,.int z,.int p] s=.ok (.lst ((atP n z p).map zN)) s:=by
 have L2':2≤zQ:=by unfold zQ;omega
 have c1:=cL n s (by omega) (by omega)
 have c2:=cS z s (by omega) (by omega)
 have c3:Φ "is_whole" 0 [.int p,.int 0,.int ((n:Int)-1)] s=.ok (.bool true) s:=by
  rw[cW _ _ _ _ (by simp[kindOf]),tQ (by omega) (by omega)]
 have c4:Φ "most_step" 0 [.int n,.int 0,.int z] s=.ok (.int (mS n z)) s:=cM n 0 z s (by omega) hz hz8
 have hmS:mS n z≤32:=by
  have:=Df (n-1) (z-1)
  show (n-1)/(z-1)≤32
  omega
 have hlen:(allOf n z p).length≤62:=kn hn hz
 have hfl:(z9 0 z).flatMap (Xq n z p)=(allOf n z p).map prV:=by
  unfold z9 allOf
  rw[BK,Gu]
  congr 1
  funext a
  rw[CJ];rfl
 have hnd:((allOf n z p).filter (inB n z)).Nodup:=(oM n z p).filter _
 have hbd:∀r∈(allOf n z p).filter (inB n z),0≤r.2∧r.2<1000:=fun r hr=>kq (by omega) r (B7.mp hr).1
 have hln:((allOf n z p).filter (inB n z)).length<64:=by
  have:=List.length_filter_le (inB n z) (allOf n z p)
  omega
 have hso:uc ((allOf n z p).filter (inB n z))=(atP n z p).map toI:=ku (by omega) hz (yd _) (rQ hnd hbd)
 rw[post_eq,F.xp,yo]
 refine⟨rfl,?_⟩
 show (zR Φ T.gl [some (.int n),some (.int z),some (.int p),none] _ s).post _
 refine zw (x_call (zA (zB rfl) zD) c1) (zw (x_call (zA (zB rfl) zD) c2) (wI (qt (z7 (x_call (zA (zB rfl) (zA zW (zA (yP (zB rfl) zW oS) zD))) c3) zX)) (lA ?_)))
 refine pv (fun e=>∃o1 o2,e=[o1,o2,some (.int n),some (.int z),some (.int p)]) (Xq n z p) (fun x e=>∃o2,e=[some x,o2,some (.int n),some (.int z),some (.int p)]) (Xr p) ⟨_,_,vG (zB rfl) (by unfold zQ;omega),rfl,⟨_,_,rfl⟩,?_,?_,?_⟩
 . rintro x hx e ⟨o1,o2,rfl⟩
   obtain⟨a,ha,rfl⟩:=wG hx
   refine⟨_,rfl,yJ.mpr ⟨rfl,?_⟩⟩
   rw[if_pos rfl]
   refine⟨_,_,gQ (i:=1) (j:=mS n z+1) zW (yP (x_call (zA (zB rfl) (zA zW (zA (zB rfl) zD))) c4) zW ve) (by omega) (by omega),rfl,rfl,⟨_,rfl⟩,?_,?_,?_⟩
   . rintro e ⟨o,rfl⟩;exact⟨_,_,rfl⟩
   . show (allAt n z p (0+(a:Int)).toNat).map prV=(z9 ((1:Nat):Int) (mS n z)).flatMap _
     rw[CJ,AH]
     unfold allAt z9
     rw[Bl,BK]
     rw[show (fun(k:Nat)=>Xr p (.int (a:Int)) (.int (((1:Nat):Int)+(k:Int))))=fun k=>[(fun(k:Nat)=>Val.tup [.int ((p:Int)-(((1:Nat):Int)+(k:Int))*(a:Int)),.int (((1:Nat):Int)+(k:Int))]) k] from rfl,vk]
     refine BN fun j _=>?_
     show prV ((p:Int)-((j+1:Nat):Int)*(a:Int),((j+1:Nat):Int))=_
     rw[show ((j+1:Nat):Int)=((1:Nat):Int)+(j:Int) by omega];rfl
   . rintro y hy e ⟨o,rfl⟩
     obtain⟨d,hd,rfl⟩:=wG hy
     refine⟨_,rfl,⟨_,rfl⟩,yJ.mpr ⟨rfl,?_⟩⟩
     rw[if_pos rfl]
     show (evE Φ T.gl [some (.int (0+(a:Int))),some (.int (((1:Nat):Int)+(d:Int))),some (.int n),some (.int z),some (.int p)] _ s).post _
     rw[rl (zA (yP (zB rfl) (yP (zB rfl) (zB rfl) (oR (by omega))) oS) (zA (zB rfl) zD)) L2']
     exact zC.mpr ⟨rfl,rfl⟩
 . show Small ((z9 0 z).flatMap _)
   rw[hfl]
   show (List.map prV _).length≤zQ
   rw[Ag];unfold zQ;omega
 . show (newList false ((z9 0 z).flatMap _) s).post _
   rw[hfl]
   refine zC.mpr (y7 (v:=.lst ((atP n z p).map zN)) (s1:=s) (zr (s1:=s) (vs:=[.lst (((allOf n z p).filter (inB n z)).map prV)]) (zA ?_ zD) ?_) ?_)
   . rw[post_eq]
     refine xm (fun e=>∃o1 o2,e=[o1,o2,some (.int n),some (.int z)]) (kr n z) ((allOf n z p).map prV) (s1:=s) (wk (zB rfl) rfl) ⟨_,_,rfl⟩ ?_ (by rw[lX];exact zC.mpr ⟨rfl,rfl⟩)
     rintro v hv e ⟨o1,o2,rfl⟩
     obtain⟨⟨a,b⟩,hm,rfl⟩:=As.mp hv
     refine⟨[some (.int a),some (.int b),some (.int n),some (.int z)],rfl,⟨_,_,rfl⟩,?_⟩
     have ht:ym Φ T.gl [some (.int a),some (.int b),some (.int n),some (.int z)] (.cons (.and (.val (.cmp .ge (.var 0) (.lit (.int 0)))) (.cons (.val (.cmp .lt (.bin false .add (.var 0) (.bin false .mul (.var 1) (.bin false .sub (.var 3) (.lit (.int 1))))) (.var 2))) .nil)) .nil) s=.ok (inB n z (a,b)) s:=lI (lF (z7 (yL (zB rfl) zW ge_int) zX) (z7 (yL (yP (zB rfl) (yP (zB rfl) (yP (zB rfl) zW oS) (lZ (by omega))) ve) (zB rfl) lt_int) zX))
     rw[ht]
     refine zC.mpr ⟨rfl,?_⟩
     rw[show kr n z (prV (a,b))=if inB n z (a,b) then [Val.tup [.int a,.int b]] else [] from rfl]
     cases inB n z (a,b) with
     |true=>
      rw[if_pos rfl,if_pos rfl,rl (zA (zB rfl) (zA (zB rfl) zD)) L2']
      exact zC.mpr ⟨rfl,rfl⟩
     |false=>rw[if_neg An,if_neg An]
   . generalize (allOf n z p).filter (inB n z)=L at *
     simp only[blt,yK,tF]
     rw[if_pos ⟨hnd,hbd⟩,hso,Bl];rfl
   . show (yF false s _ s).post _
     rw[x8 (by rw[pf,show (atP n z p).map zN=((atP n z p).map toI).map prV by rw[Bl];rfl];exact v5 _)]
     exact zC.mpr ⟨rfl,rfl⟩
end
end M
end
section
namespace M
open PySem
theorem qZ{ns:List Int}:∀v∈ns.map Val.int,kindOf v≠none:=fun v hv=>by
 obtain⟨i,_,rfl⟩:=As.mp hv
 simp[kindOf]
theorem sM{l m:Int}{ns:List Int}(h:∀x∈ns,l≤x∧x≤m):(ns.map Val.int).all (xf l m)=true:=by
 rw[Bz]
 intro v hv
 obtain⟨i,hi,rfl⟩:=As.mp hv
 exact tQ (h i hi).1 (h i hi).2
noncomputable abbrev tpI(ns:List Int):Val:=.tup (ns.map .int)
end M
end
section
namespace M
open PySem
noncomputable def vf(a b:Int):Cel:=.lst [.int a,.int b]
def wF(s:Sto)(p:Nat):Prop:=∃a b,s[p]?=some (vf a b)∧0≤b∧b<2147483629
def xA(s:Sto)(p:Nat)(s':Sto):Prop:=∃a b,s'=s.set p (vf a b)∧0≤b∧b<2147483629
theorem wF.lt{s:Sto}{p:Nat}(h:wF s p):p<s.length:=by
 obtain⟨a,b,h,_⟩:=h
 exact(Ap.mp h).1
theorem xA.at_{s s':Sto}{p:Nat}(h:xA s p s')(hp:p<s.length):wF s' p:=by
 obtain⟨a,b,rfl,h1⟩:=h
 exact⟨a,b,Bo hp,h1⟩
theorem xA.trans{s s1 s2:Sto}{p:Nat}(h:xA s p s1)(k:xA s1 p s2):xA s p s2:=by
 obtain⟨a,b,rfl,h1⟩:=h
 obtain⟨c,d,rfl,h2⟩:=k
 exact⟨c,d,by rw[List.set_set],h2⟩
theorem wF.refl{s:Sto}{p:Nat}(h:wF s p):xA s p s:=by
 obtain⟨a,b,h,h1⟩:=h
 obtain⟨hp,e⟩:=Ap.mp h
 refine⟨a,b,?_,h1⟩
 rw[←e,List.set_getElem_self]
theorem xA.len{s s':Sto}{p:Nat}(h:xA s p s'):s'.length=s.length:=by
 obtain⟨a,b,rfl,_⟩:=h
 exact Dd ..
theorem xA.ne{s s':Sto}{p q:Nat}(h:xA s p s')(hq:q≠p):s'[q]?=s[q]?:=by
 obtain⟨a,b,rfl,_⟩:=h
 exact Ci (fun e=>hq e.symm)
theorem jg{s s' t:Sto}{p:Nat}{v:Val}(h:xA s p s')(hv:v.noRef=true):yF false s v (s'++t)=.ok v s':=by
 obtain⟨a,b,rfl,_⟩:=h
 exact sj hv rfl
theorem mM{s s':Sto}{p:Nat}{v:Val}(h:xA s p s')(hv:v.noRef=true):yF false s v s'=.ok v s':=by
 have:=jg (t:=[]) h hv
 rwa [AZ]at this
theorem bmod{m:Bool}{i j:Int}{s:Sto}(h:0<j):binOp m .mod (.int i) (.int j) s=.ok (.int (i%j)) s:=by
 simp only[binOp];rw[if_pos h]
theorem bdiv{m:Bool}{i j:Int}{s:Sto}(h:0<j∧j<1073741824):binOp m .fdiv (.int i) (.int j) s=.ok (.int (i/j)) s:=by
 simp only[binOp];rw[if_pos h]
theorem pU{vs:List Val}{k:Nat}{v:Val}{s:Sto}(h:vs[k]?=some v):y3 (.lst vs) (.int k) s=.ok v s:=by
 simp[y3,xh,L2.t9 h]
theorem mJ{vs:List Val}{i k:Nat}{v:Val}{s:Sto}(hs:s[i]?=some (.lst vs))(h:vs[k]?=some v):y3 (.ref i) (.int k) s=.ok v s:=by
 simp[y3,xh,hs,L2.t9 h]
section
variable {T:Tbl}{Φ:Calls}{s:Sto}
def aU(Φ:Calls):Prop:=∀(ns:List Int) (k:Nat) (s:Sto),∃c,Φ "_law_cell_at" 0 [.scr ns,.int k] s=.ok (.int c) s
def Xk(Φ:Calls):Prop:=∀(c:Int) (s:Sto),∃a b,Φ "_law_pen" 1 [.int c] s=.ok (.ref s.length) (s++[vf a b])∧0≤b∧b<2147483629
def lR(Φ:Calls):Prop:=∀(p:Nat) (m:Int) (s:Sto),wF s p→0<m→m<1000000→(Φ "_law_draw" 0 [.ref p,.int m] s).post fun v s'=>∃r:Nat,v=.int r∧(r:Int)<m∧xA s p s'
theorem eJ(ns:List Int)(k:Nat):∃c,run T Φ F.zy [.scr ns,.int k] s=.ok (.int c) s:=by
 by_cases h:k<ns.length
 . refine⟨ns[k],?_⟩
   rw[post_eq]
   have h':(k:Int)<ns.length:=by omega
   have e:(ns.map Val.int)[k]?=some (.int ns[k]):=by rw[Ay,Aa h];rfl
   have c1:y3 (.scr ns) (.int k) s=.ok (.int ns[k]) s:=by simp[y3,xh,L2.t9 e]
   simp[F.zy,EVl,zm,zT,g7,lt_int,h',h,c1]
 . refine⟨0,?_⟩
   rw[post_eq]
   have h':¬(k:Int)<ns.length:=by omega
   simp[F.zy,EVl,zm,zT,g7,lt_int,h',h]
theorem bz(c:Int):∃a b,run T Φ F.yB [.int c] s=.ok (.ref s.length) (s++[vf a b])∧0≤b∧b<2147483629:=by
 have key:(run T Φ F.yB [.int c] s).post fun v s'=>∃a b,v=.ref s.length∧s'=s++[vf a b]∧0≤b∧b<2147483629:=by
  have c1:∀(i:Int) (b:Bool),binOp false .mul (.int i) (.int (if b then 1 else 0)) s=.ok (.int (i*(if b then 1 else 0))) s:=fun i b=>lZ (by cases b<;>simp)
  have c2:∀i:Int,binOp false .mod (.int i) (.int 2147483629) s=.ok (.int (i%2147483629)) s:=fun i=>by simp[binOp]
  have c3:binOp false .pow (.int 10) (.int 18) s=.ok (.int (10 ^ 18)) s:=by simp[binOp]
  simp[F.yB,EVl,zm,zT,oS,blt]
  simp[EVl,zm,zT,c1,c2,c3,ge_int,blt,zQ,newList,vf]
  rw[lZ (by split<;>omega)]
  simp only[zC]
  rw[bmod (by omega)]
  simp only[zC]
  exact⟨trivial,_,_,⟨trivial,rfl,rfl⟩,Fv _ (by omega),EE _ (by omega)⟩
 obtain⟨v,s',h,a,b,rfl,rfl,h1⟩:=key
 exact⟨a,b,h,h1⟩
theorem eK{p:Nat}{m:Int}(hp:wF s p)(h0:0<m)(h1:m<1000000):(run T Φ F.yZ [.ref p,.int m] s).post fun v s'=>∃r:Nat,v=.int r∧(r:Int)<m∧xA s p s':=by
 obtain⟨a,b,hs,hb,hb1⟩:=hp
 have hlt:=(Ap.mp hs).1
 have i0:y3 (.ref p) (.int 0) s=.ok (.int a) s:=mJ (k:=0) hs rfl
 have i1:y3 (.ref p) (.int 1) s=.ok (.int b) s:=mJ (k:=1) hs rfl
 have i1':∀c d,y3 (.ref p) (.int 1) (s.set p (vf c d))=.ok (.int d) (s.set p (vf c d)):=fun c d=>mJ (k:=1) (Bo hlt) rfl
 have lv:∀(i:Int) (c d:Int),yF false s (.int i) (s.set p (vf c d))=.ok (.int i) (s.set p (vf c d)):=fun i c d=>jh rfl rfl
 simp[F.yZ,EVl,zm,zT,i0,gt_int]
 by_cases ha:0<a
 . refine .inr ⟨ha,?_⟩
   have c1:blt .divmod false [.int a,.int m] s=.ok (.tup [.int (a/m),.int (a%m)]) s:=by
    simp only[blt];rw[if_pos ⟨h0,by omega⟩]
   rw[c1]
   simp only[zC]
   refine⟨[some (.ref p),some (.int m),some (.int (a/m)),some (.int (a%m)),none],rfl,_,rfl,_,rfl,p,rfl,_,hs,0,rfl,_,rfl,?_⟩
   have:upd s p ([Val.int a,Val.int b].set 0 (.int (a/m)))=s.set p (vf (a/m) b):=rfl
   rw[this,lv]
   simp only[zC]
   have e1:=Fv a (show m≠0 by omega)
   have e2:=EE a h0
   exact⟨(a%m).toNat,by rw[Int.toNat_of_nonneg e1],by omega,_,_,rfl,hb,hb1⟩
 . refine .inl ⟨by omega,?_⟩
   rw[i1];simp only[zC]
   rw[lZ (by omega)];simp only[zC,ve]
   rw[bmod (by omega)];simp only[zC]
   generalize hd:(b*48271+30269)%2147483629=d
   have d0:0≤d:=by rw[←hd];exact Fv _ (by omega)
   have d1:d<2147483629:=by rw[←hd];exact EE _ (by omega)
   refine⟨_,hs,1,rfl,?_⟩
   have:upd s p ([Val.int a,Val.int b].set 1 (.int d))=s.set p (vf a d):=rfl
   rw[this]
   simp only[i1',zC]
   have c2:binOp false .mul (.int d) (.int d) (s.set p (vf a d))=.ok (.int (d*d)) (s.set p (vf a d)):=by
    simp only[binOp];rw[if_pos (.inl (by omega))]
   rw[c2];simp only[i1',zC]
   rw[oR (by omega)];simp only[zC,ve]
   rw[bmod (by omega)];simp only[zC]
   rw[bdiv (by omega)];simp only[zC]
   rw[bmod h0];simp only[zC,lv]
   generalize (d*d+40692*d+7)%2147483587/64=q
   have e1:=Fv q (show m≠0 by omega)
   have e2:=EE q h0
   exact⟨(q%m).toNat,by rw[Int.toNat_of_nonneg e1],by omega,_,_,rfl,d0,d1⟩
end
end M
end
section
namespace M
open PySem
theorem u4:∀ks:List Int,xc (ks.map .int)=true
 |[]=>by rw[Eu,xc]
 |k::ks=>by rw[AA,xc,u4 ks,Val.isD];rfl
theorem vS:∀rs:List (Nat × Nat),xc (rs.map zN)=true
 |[]=>by rw[Eu,xc]
 |r::rs=>by rw[AA,xc,vS rs,zN,Val.isD,xc,xc,xc,Val.isD,Val.isD];rfl
end M
end
section
namespace M
open PySem
theorem pL:∀ks:List Int,ds (ks.map .int)=ks.map G4
 |[]=>by rw[Eu,ds];rfl
 |k::ks=>by rw[AA,ds,pL ks,Val.d];rfl
theorem max2{m:Bool}{i j:Int}{s:Sto}:blt .max m [.int i,.int j] s=.ok (.int (if j > i then j else i)) s:=rfl
theorem min2{m:Bool}{i j:Int}{s:Sto}:blt .min m [.int i,.int j] s=.ok (.int (if j<i then j else i)) s:=rfl
theorem gF{Φ:Calls}{G:Str→Option Val}{env:Env}{s:Sto}{ns:List Int}{K:Nat}(h0:env[0]?=some (some (.scr ns)))(hK:K≤100) :
 yT Φ G env (.range1 (.blt .max false (.cons (.lit (.int 1)) (.cons (.blt .min false (.cons (.blt .len false (.cons (.var 0) .nil)) (.cons (.lit (.int K)) .nil))) .nil)))) s=.ok ⟨z9 0 (max 1 (min ns.length K)),none⟩ s:=by
 rw[post_eq]
 simp only[EVl,zm,zT]
 refine⟨_,h0,?_⟩
 rw[g7];simp only[zC]
 rw[min2];simp only[zC]
 rw[max2];simp only[zC]
 have e:(if (if (K:Int)<(ns.length:Int) then (K:Int) else (ns.length:Int)) > 1 then (if (K:Int)<(ns.length:Int) then (K:Int) else (ns.length:Int)) else 1)=((max 1 (min ns.length K):Nat):Int):=by
  split<;>split<;>omega
 rw[e]
 refine⟨_,rfl,⟨by omega,by unfold zQ;omega⟩,?_⟩
 simp
theorem leave_top{v:Val}{s:Sto}(h:v.noRef=true):yF false [] v s=.ok v []:=by
 unfold yF
 simp[xg,freeze,h]
end M
end
section
namespace M
open PySem
theorem l7(r:Nat × Nat):Cj (zN r).d (zN r).d=true:=by
 have:(zN r).d=.tuple [.int r.1,.int r.2]:=by rw[zN,Val.d,ds,ds,ds,Val.d,Val.d]
 rw[this]
 simp[Cj,PyData.eqvAll]
theorem dk{r:Nat × Nat}{rs:List (Nat × Nat)}{s:Sto}(h:r∈rs):zM .in_ (zN r) (.lst (rs.map zN)) s=.ok (.bool true) s:=by
 have h1:flat (zN r)=false:=rfl
 have h2:inD (zN r) (rs.map zN)=true:=by
  have e1:(zN r).isD=true:=by rw[zN,Val.isD,xc,xc,xc,Val.isD,Val.isD];rfl
  have e2:(zN r).d=.tuple [.int r.1,.int r.2]:=by rw[zN,Val.d,ds,ds,ds,Val.d,Val.d]
  unfold inD
  rw[e1,vS,e2]
  rfl
 have h3:(rs.map zN).any (fun z=>Cj z.d (zN r).d)=true:=Cd.mpr ⟨zN r,As.mpr ⟨r,h,rfl⟩,l7 r⟩
 simp only[zM,xh,h1,h2,h3]
 rfl
end M
end
section
namespace M
open L2
noncomputable def iu(ns:List Int)(f d z:Nat)(h:Int):Bool:=(Ak z).all fun k=>decide (ns[f+k*d]?=some h)
theorem w8{ns:List Int}{f d z:Nat}{h:Int}:iu ns f d z h=true↔∀k<z,ns[f+k*d]?=some h:=by
 unfold iu
 rw[Bz]
 exact⟨fun H k hk=>of_decide_eq_true (H k (Ax.mpr hk)),fun H k hk=>decide_eq_true (H k (Ax.mp hk))⟩
theorem iw{ns:List Int}{f d z:Nat}{h:Int}(hz:1≤z)(hl:f+d*(z-1)<ns.length):iu ns.reverse f d z h=iu ns (ns.length-1-(f+d*(z-1))) d z h:=by
 rw[BD,w8,w8]
 have e:=BU d (z-1)
 have key:∀k,k<z→ns.reverse[f+k*d]?=ns[ns.length-1-(f+d*(z-1))+(z-1-k)*d]?:=fun k hk=>by
  have e2:(z-1-k)*d+k*d=(z-1)*d:=by rw[←Nat.add_mul];congr 1;omega
  rw[DX (by omega)]
  congr 1;omega
 constructor
 . intro H k hk
   have:=key (z-1-k) (by omega)
   rw[H _ (by omega),show z-1-(z-1-k)=k by omega]at this
   exact this.symm
 . intro H k hk
   rw[key k hk];exact H _ (by omega)
end M
end
section
namespace F
open PySem M
noncomputable def xE:Fn:=⟨["thing"],["thing"],false,(.cons (.ret (.andE (.blt .isi false (.cons (.var 0) (.cons (.ty "tuple" "tuple") .nil))) (.cons (.cmp .le (.blt .len false (.cons (.var 0) .nil)) (.gl "MOST_PLACES")) (.cons (.call "are_wholes" 0 (.cons (.var 0) (.cons (.ix (.gl "HUES") (.lit (.int 0))) (.cons (.ix (.gl "HUES") (.neg (.lit (.int 1)))) .nil)))) .nil)))) .nil)⟩
noncomputable def yj:Fn:=⟨["thing"],["thing"],false,(.cons (.ifS (.not (.val (.call "is_strip" 0 (.cons (.var 0) .nil)))) (.cons (.raise (.lit .none)) .nil) .nil) .nil)⟩
end F
end
section
namespace M
open PySem
structure Gl4(T:Tbl):Prop where
 mp:T.gl "MOST_PLACES"=some (.int 40)
 ls:T.gl "LEAST_SIZE"=some (.int 2)
 ms:T.gl "MOST_SIZE"=some (.int 8)
 hu:T.gl "HUES"=some (.ctup [0,1,2,3])
end M
end
section
namespace M
open PySem
theorem fj{ns:List Int}(hn:ns.length<41):L2.za ns (L2.yH ns.length none none (-1)).1 (-1) (L2.yH ns.length none none (-1)).2=ns.reverse:=by
 have hc:∀n:Nat,n<41→L2.yH n none none (-1)=((n:Int)-1,n):=by decide +kernel
 rw[hc _ hn]
 unfold L2.za
 dsimp only
 rw[mE (g:=fun k=>ns.getD (ns.length-1-k) 0)]
 . refine List.ext_getElem? fun i=>?_
   by_cases hi:i<ns.length
   . rw[Ay,Ei hi,DX hi,Fu,Ae,Aa (by omega)];rfl
   . rw[BW (by simp;omega),BW (by simp;omega)]
 . intro k hk
   have hk:=Ax.mp hk
   have:((ns.length:Int)-1+(k:Int)*-1).toNat=ns.length-1-k:=by omega
   rw[this,Ae,Aa (by omega)];rfl
end M
end
section
namespace M
open PySem
theorem dN{a b:List Val}{s:Sto}(h:a.length+b.length≤zQ):binOp false .add (.lst a) (.lst b) s=.ok (.lst (a++b)) s:=by
 simp only[binOp,yK];rw[if_pos h];rfl
section
variable {T:Tbl}{Φ:Calls}{s:Sto}
theorem sC:∀ns:List Int,intsOf (ns.map .int)=some ns
 |[]=>rfl
 |n::ns=>by show (intsOf (ns.map .int)).map _=_;rw[sC ns];rfl
end
end M
end
section
namespace M
open PySem
section
variable {Φ:Calls}{G:Str→Option Val}{env:Env}{s s1 s2 s3 s4:Sto}
noncomputable def XB(f:Nat→Int):Val→List Val
 |.int k=>[.int (f k.toNat)]
 |_=>[]
theorem eG{f:Nat→Int}{n:Nat}:(z9 0 n).flatMap (XB f)=((Ak n).map f).map .int:=by
 unfold z9
 rw[BK,Bl]
 have:(fun(k:Nat)=>XB f (.int (0+(k:Int))))=fun k=>[(Val.int∘f) k]:=by
  funext k
  show [Val.int (f (0+(k:Int)).toNat)]=_
  rw[CJ,AH];rfl
 rw[this,vk]
theorem nu{N:List Str}{fr:List (Option Nat)}{elt:Ex}{it:Itb}{n:Nat}{f:Nat→Int}{e0:Env}(hi:yT Φ G env it s=.ok ⟨z9 0 n,none⟩ s)(h0:zT fr env=none::e0)(h:∀(k:Nat) (o:Option Val),k<n→evE Φ G (some (.int k)::e0) elt s=.ok (.int (f k)) s)(hl:n≤zQ):evE Φ G env (.comp false N fr elt (.nm 0) it .nil) s=.ok (.lst (((Ak n).map f).map .int)) s:=by
 rw[post_eq]
 refine xm (fun e=>∃o,e=o::e0) (XB f) (z9 0 n) (s1:=s) hi ⟨none,h0⟩ ?_ ?_
 . rintro x hx e ⟨o,rfl⟩
   obtain⟨k,hk,rfl⟩:=wG hx
   refine⟨_,rfl,⟨_,rfl⟩,yJ.mpr ⟨rfl,?_⟩⟩
   rw[if_pos rfl,CJ]
   show (evE Φ G (some (.int (k:Int))::e0) elt s).post _
   rw[h k none hk]
   refine zC.mpr ⟨rfl,?_⟩
   show [Val.int (f (k:Int).toNat)]=_
   rw[AH]
 . rw[eG]
   exact zC.mpr ⟨rfl,rfl⟩
end
end M
end
section
namespace M
open PySem
section
variable {T:Tbl}{Φ:Calls}{s:Sto}
def zS(ns:List Int):Prop:=ns.length≤40∧∀x∈ns,0≤x∧x≤3
def yY(Φ:Calls):Prop:=∀(ns:List Int) (s:Sto),zS ns→Φ "need_strip" 0 [tpI ns] s=.ok .none s
def uj(Φ:Calls):Prop:=∀(ns:List Int) (s:Sto),zS ns→Φ "is_strip" 0 [tpI ns] s=.ok (.bool true) s
theorem p8(g:Gl4 T)(c:pA Φ){ns:List Int}(hn:zS ns):run T Φ F.xE [tpI ns] s=.ok (.bool true) s:=by
 rw[post_eq]
 have c1:=c (ns.map .int) 0 3 s qZ
 rw[sM hn.2]at c1
 have a1:(ns.length:Int)≤40:=by have:=hn.1;omega
 have i0:y3 (.ctup [0,1,2,3]) (.int 0) s=.ok (.int 0) s:=rfl
 have i1:y3 (.ctup [0,1,2,3]) (.int (-1)) s=.ok (.int 3) s:=rfl
 simp[F.xE,EVl,zm,zT,kG,uQ,g.mp,g.hu,le_int,a1,i0,i1,c1]
theorem rN(c:uj Φ){ns:List Int}(hn:zS ns):run T Φ F.yj [tpI ns] s=.ok .none s:=by
 rw[post_eq]
 simp[F.yj,EVl,zm,zT,c ns s hn]
end
end M
end
section
namespace M
open PySem
section
variable {T:Tbl}{Φ:Calls}{G:Str→Option Val}{env:Env}{s s1:Sto}
theorem av{i:Nat}{op:Bop}{e:Ex}{cs:Sms}{x y:Int}{w:Val}{P:Fl→Sto→Prop}(hu:env[i]?=some (some (.int x)))(h:evE Φ G env e s=.ok (.int y) s)(hb:binOp false op (.int x) (.int y) s=.ok w s)(k:(zR Φ G (env.set i (some w)) cs s).post P):(zR Φ G env (.cons (.aug i op e) cs) s).post P:=by
 refine yE.mpr ?_
 have:exS Φ G env (.aug i op e) s=.ok (.nx (env.set i (some w))) s:=by
  rw[exS,hu]
  exact bnd h (bnd hb rfl)
 rw[this]
 exact zC.mpr k
end
end M
end
section
namespace F75
open PySem M
noncomputable def yZ:Fn:=⟨["_law_pen_here","_law_bound","_law_found","_law_stir"],["_law_pen_here","_law_bound"],false,(.cons (.ifS (.and (.val (.cmp .eq (.ix (.var 0) (.lit (.int 1))) (.lit (.int 1)))) (.cons (.val (.cmp .gt (.ix (.var 0) (.lit (.int 0))) (.lit (.int 0)))) .nil)) (.cons (.asg 2 (.bin false .mod (.ix (.var 0) (.lit (.int 0))) (.var 1))) (.cons (.setIx (.var 0) (.lit (.int 0)) (.bin false .fdiv (.ix (.var 0) (.lit (.int 0))) (.var 1))) (.cons (.ret (.var 2)) .nil))) .nil) (.cons (.setIx (.var 0) (.lit (.int 2)) (.bin false .add (.ix (.var 0) (.lit (.int 2))) (.lit (.int 1)))) (.cons (.asg 3 (.bin false .mod (.bin false .mul (.bin false .add (.ix (.var 0) (.lit (.int 3))) (.lit (.int 17))) (.bin false .add (.lit (.int 69621)) (.bin false .mul (.lit (.int 2)) (.ix (.var 0) (.lit (.int 2)))))) (.lit (.int 2147483647)))) (.cons (.asg 3 (.bin false .mod (.bin false .add (.bin false .add (.bin false .mul (.var 3) (.var 3)) (.bin false .mul (.lit (.int 40503)) (.ix (.var 0) (.lit (.int 2))))) (.lit (.int 5))) (.lit (.int 2147483629)))) (.cons (.ret (.bin false .mod (.bin false .fdiv (.bin false .mod (.bin false .mul (.var 3) (.lit (.int 48271))) (.lit (.int 2147483647))) (.lit (.int 32))) (.var 1))) .nil)))))⟩
noncomputable def yB:Fn:=⟨["_law_cell"],["_law_cell"],true,(.cons (.ret (.lst true (.cons (.var 0) (.cons (.blt .int false (.cons (.cmp .ge (.var 0) (.bin false .pow (.lit (.int 10)) (.lit (.int 18)))) .nil)) (.cons (.lit (.int 0)) (.cons (.bin false .mod (.var 0) (.lit (.int 1000000007))) .nil)))))) .nil)⟩
noncomputable def xq:Fn:=⟨["length","size"],["length","size"],false,(.cons (.expr (.call "need_length" 0 (.cons (.var 0) .nil))) (.cons (.expr (.call "need_size" 0 (.cons (.var 1) .nil))) (.cons (.ret (.comp2 false ["first","step","length","size"] [none,none,some 0,some 1] (.tup (.cons (.var 0) (.cons (.var 1) .nil))) (.nm 0) (.range1 (.var 0)) .nil (.nm 1) (.range2 (.lit (.int 1)) (.bin false .add (.call "most_step" 0 (.cons (.var 2) (.cons (.var 0) (.cons (.var 3) .nil)))) (.lit (.int 1)))) .nil)) .nil)))⟩
end F75
end
section
namespace M
open PySem
noncomputable def Wz(a b c d:Int):Cel:=.lst [.int a,.int b,.int c,.int d]
def Vi(s:Sto)(p:Nat):Prop:=∃a b c d,s[p]?=some (Wz a b c d)∧0≤d∧d<1000000007
def Xm(s:Sto)(p:Nat)(s':Sto):Prop:=∃a b c d,s'=s.set p (Wz a b c d)∧0≤d∧d<1000000007
theorem Xm.at_{s s':Sto}{p:Nat}(h:Xm s p s')(hp:p<s.length):Vi s' p:=by
 obtain⟨a,b,c,d,rfl,h1⟩:=h
 exact⟨a,b,c,d,Bo hp,h1⟩
section
variable {T:Tbl}{Φ:Calls}{G:Str→Option Val}{env:Env}{s s1 s2 s3:Sto}
theorem Xi{es:Exs}{vs:List Val}(h:ya Φ G env es s=.ok vs s1)(hl:vs.length≤zQ):evE Φ G env (.lst true es) s=.ok (.ref s1.length) (s1++[.lst vs]):=bnd h (if_pos hl)
theorem XS{c:Cn}{cs:Cns}(h:evT Φ G env c s=.ok false s1):evT Φ G env (.and c cs) s=.ok false s1:=bnd h rfl
theorem XT{c:Cn}{cs:Cns}{b:Bool}(h:evT Φ G env c s=.ok true s1)(k:ym Φ G env cs s1=.ok b s2):evT Φ G env (.and c cs) s=.ok b s2:=bnd h k
end
end M
end
section
namespace M
open PySem
theorem rE:∀{vs:List Val},(∀v∈vs,v.noRef=true)→zl vs=true
 |[],_=>uR
 |v::vs,h=>by rw[xU,h v (.head _),rE fun w hw=>h w (.tail _ hw)];rfl
section
variable {T:Tbl}{Φ:Calls}{s:Sto}
def qy(Φ:Calls):Prop:=∀(n z:Nat) (s:Sto),n≤40→2≤z→z≤8→Φ "rows_in" 0 [.int n,.int z] s=.ok (.lst ((z8 n z).map zN)) s
noncomputable def riG(n z:Nat):Val→List Val
 |.int f=>(w5 n z f.toNat).map zN
 |_=>[]
theorem m7(cL:w6 Φ)(cS:wN Φ)(cM:ic Φ){n z:Nat}(hn:n≤40)(hz:2≤z)(hz8:z≤8):run T Φ F75.xq [.int n,.int z] s=.ok (.lst ((z8 n z).map zN)) s:=by
 have hfl:(z9 0 n).flatMap (riG n z)=(z8 n z).map zN:=by
  unfold z9 z8
  rw[BK,Gu]
  congr 1
  funext a
  rw[CJ];rfl
 have hlen:((z8 n z).map zN).length≤zQ:=by
  rw[Ag]
  have h1:=l8 n z n
  have h2:n*n≤40*40:=FC hn hn
  unfold z8 zQ
  omega
 rw[post_eq,F75.xq,yo]
 refine⟨rfl,?_⟩
 show (zR Φ T.gl [some (.int n),some (.int z)] _ s).post _
 refine zw (x_call (zA (zB rfl) zD) (cL n s (by omega) (by omega))) (zw (x_call (zA (zB rfl) zD) (cS z s (by omega) (by omega))) ?_)
 refine yE.mpr (kR.mpr ?_)
 refine pv (fun e=>∃o1 o2,e=[o1,o2,some (.int n),some (.int z)]) (riG n z) (fun x e=>∃o2,e=[some x,o2,some (.int n),some (.int z)]) (fun x y=>[.tup [x,y]]) ⟨_,_,vG (zB rfl) (by unfold zQ;omega),rfl,⟨_,_,rfl⟩,?_,?_,?_⟩
 . rintro x hx e ⟨o1,o2,rfl⟩
   obtain⟨a,ha,rfl⟩:=wG hx
   have hq:(n-1-a)/(z-1)≤40:=AB (Df _ _) (by omega)
   refine⟨_,rfl,yJ.mpr ⟨rfl,?_⟩⟩
   rw[if_pos rfl]
   have c4:Φ "most_step" 0 [.int n,.int (0+(a:Int)),.int z] s=.ok (.int ((n-1-a)/(z-1):Nat)) s:=by rw[CJ];exact cM n a z s ha hz hz8
   refine⟨_,_,gQ (i:=1) (j:=(n-1-a)/(z-1)+1) zW (yP (x_call (zA (zB rfl) (zA (zB rfl) (zA (zB rfl) zD))) c4) zW ve) (by omega) (by omega),rfl,rfl,⟨_,rfl⟩,?_,?_,?_⟩
   . rintro e ⟨o,rfl⟩;exact⟨_,_,rfl⟩
   . show (w5 n z (0+(a:Int)).toNat).map zN=_
     rw[CJ,AH]
     unfold w5 z9
     rw[Bl,BK]
     rw[show (fun(k:Nat)=>[Val.tup [.int (a:Int),.int (((1:Nat):Int)+(k:Int))]])=fun k=>[(fun(k:Nat)=>Val.tup [.int (a:Int),.int (((1:Nat):Int)+(k:Int))]) k] from rfl,vk]
     refine BN fun j _=>?_
     show Val.tup [.int (a:Int),.int ((j+1:Nat):Int)]=_
     rw[show ((j+1:Nat):Int)=((1:Nat):Int)+(j:Int) by omega]
   . rintro y hy e ⟨o,rfl⟩
     obtain⟨d,hd,rfl⟩:=wG hy
     refine⟨_,rfl,⟨_,rfl⟩,yJ.mpr ⟨rfl,?_⟩⟩
     rw[if_pos rfl]
     show (evE Φ T.gl [some (.int (0+(a:Int))),some (.int (((1:Nat):Int)+(d:Int))),some (.int n),some (.int z)] _ s).post _
     rw[rl (zA (zB rfl) (zA (zB rfl) zD)) (show 2≤zQ by unfold zQ;omega)]
     exact zC.mpr ⟨rfl,rfl⟩
 . show Small ((z9 0 n).flatMap _)
   rw[hfl];exact hlen
 . show (newList false ((z9 0 n).flatMap _) s).post _
   rw[hfl]
   refine zC.mpr ?_
   show (yF false s _ s).post _
   rw[x8 (by rw[pf];exact rE fun v hv=>by obtain⟨r,_,rfl⟩:=As.mp hv;rw[zN,ph,xU,xU,uR,wu,wu];rfl)]
   exact zC.mpr ⟨rfl,rfl⟩
end
end M
end
section
namespace M
open PySem
noncomputable def apO(os:List Nat)(i:Int):Int:=((os.getD i.toNat 0:Nat):Int)
theorem cj{os:List Nat}(h:os.Nodup):os.map (fun x=>os.idxOf x)=Ak os.length:=by
 apply D5
 . simp
 . intro i h1 h2
   rw[DB,h.idxOf_getElem,List.getElem_range]
theorem range_getD(zs:List Int):(Ak zs.length).map (fun h=>zs.getD h 0)=zs:=by
 apply D5
 . simp
 . intro i h1 h2
   rw[DB,List.getElem_range,Ae,Aa h2];rfl
structure Od(k:Nat)(os:List Nat):Prop where
 nd:os.Nodup
 len:os.length=k
 lt:∀x∈os,x<k
 ix:∀h,h<k→os.idxOf h<k∧os[os.idxOf h]?=some h
 at_:∀(a h:Nat),os[a]?=some h→os.idxOf h=a
theorem kM{k:Nat}{os:List Nat}(p:os.Perm (Ak k)):Od k os:=by
 have nd:os.Nodup:=p.nodup_iff.mpr CY
 have hl:os.length=k:=by rw[p.length_eq,AV]
 refine⟨nd,hl,fun x hx=>Ax.mp (p.mem_iff.mp hx),fun h hh=>?_,fun a h e=>?_⟩
 . have hm:h∈os:=p.mem_iff.mpr (Ax.mpr hh)
   have hlt:=List.idxOf_lt_length_iff.mpr hm
   exact⟨by omega,by rw[Aa hlt,C9]⟩
 . obtain⟨hlt,rfl⟩:=Ap.mp e
   exact nd.idxOf_getElem a hlt
theorem kA{α β:Type}{g:α→Option β}{h:α→β}:∀{l:List α},(∀a∈l,g a=some (h a))→l.filterMap g=l.map h
 |[],_=>rfl
 |a::l,H=>by rw[A2,H a (.head _),AA,kA fun b hb=>H b (.tail _ hb)]
theorem bW{ns:List Int}{f d c:Nat}(h1:∀k,k<c→f+k*d<ns.length)(h2:ns.length≤f+c*d)(i:Nat):(L2.za ns (f:Int) (d:Int) c)[i]?=ns[f+i*d]?:=by
 have e:L2.za ns (f:Int) (d:Int) c=(Ak c).map fun k=>ns.getD (f+k*d) 0:=by
  unfold L2.za
  refine kA fun k hk=>?_
  have hk:=h1 k (Ax.mp hk)
  rw[show ((f:Int)+(k:Int)*(d:Int)).toNat=f+k*d by rw[←BG,←En,AH]]
  rw[Ae,Aa hk];rfl
 rw[e,Ay]
 by_cases hi:i<c
 . rw[Ei hi,Aa (h1 i hi)]
   show some (ns.getD (f+i*d) 0)=_
   rw[Ae,Aa (h1 i hi)];rfl
 . rw[BW (by rw[AV];omega),BW]
   . rfl
   . have:=Ck d (Nat.le_of_not_lt hi)
     omega
end M
end
section
namespace F14
open PySem M
noncomputable def xC:Fn:=⟨["strip"],["strip"],false,(.cons (.expr (.call "need_strip" 0 (.cons (.var 0) .nil))) (.cons (.ret (.sl false (.var 0) .no .no (.yes (.neg (.lit (.int 1)))))) .nil))⟩
noncomputable def yt:Fn:=⟨["strip","hues"],["strip","hues"],false,(.cons (.expr (.call "need_strip" 0 (.cons (.var 0) .nil))) (.cons (.ifS (.not (.val (.call "is_order" 0 (.cons (.var 1) .nil)))) (.cons (.raise (.lit .none)) .nil) .nil) (.cons (.ret (.blt .tuple false (.cons (.comp false ["hue","hues"] [none,some 1] (.ix (.var 1) (.var 0)) (.nm 0) (.val (.var 0)) .nil) .nil))) .nil)))⟩
noncomputable def xD:Fn:=⟨["thing"],["thing"],false,(.cons (.ret (.andE (.blt .isi false (.cons (.var 0) (.cons (.ty "tuple" "tuple") .nil))) (.cons (.call "are_wholes" 0 (.cons (.var 0) (.cons (.ix (.gl "HUES") (.lit (.int 0))) (.cons (.ix (.gl "HUES") (.neg (.lit (.int 1)))) .nil)))) (.cons (.cmp .eq (.blt .tuple false (.cons (.blt .sortedI false (.cons (.var 0) .nil)) .nil)) (.gl "HUES")) .nil)))) .nil)⟩
noncomputable def yi:Fn:=⟨["thing"],["thing"],false,(.cons (.expr (.call "need_whole" 0 (.cons (.var 0) (.cons (.lit (.int 0)) (.cons (.gl "MOST_PLACES") .nil))))) .nil)⟩
noncomputable def yw:Fn:=⟨["thing"],["thing"],false,(.cons (.expr (.call "need_whole" 0 (.cons (.var 0) (.cons (.lit (.int 1)) (.cons (.gl "MOST_PLACES") .nil))))) .nil)⟩
noncomputable def xr:Fn:=⟨["strip","first","step"],["strip","first","step"],false,(.cons (.expr (.call "need_strip" 0 (.cons (.var 0) .nil))) (.cons (.expr (.call "need_first" 0 (.cons (.var 1) .nil))) (.cons (.expr (.call "need_step" 0 (.cons (.var 2) .nil))) (.cons (.ret (.sl false (.var 0) (.yes (.var 1)) .no (.yes (.var 2)))) .nil))))⟩
end F14
end
section
namespace M
open PySem
theorem zq{s:Sto}{v:Val}(h:v.noRef=true):(yF false s v s).post fun x t=>x=v∧t=s:=by
 rw[x8 h];exact zC.mpr ⟨rfl,rfl⟩
theorem v7(ns:List Int):(tpI ns).noRef=true:=vJ ns
noncomputable abbrev z5(os:List Nat):List Int:=os.map fun(h:Nat)=>(h:Int)
noncomputable def Yf(os:List Nat)(k:Nat):List Int:=z5 os++L2.tH k 4 1
structure Od4(hs:List Int):Prop where
 len:hs.length=4
 rng:∀x∈hs,0≤x∧x≤3
 srt:sortI hs=[0,1,2,3]
theorem YU{k:Nat}{os:List Nat}(p:os.Perm (Ak k))(h1:1≤k)(h4:k≤4):Od4 (Yf os k):=by
 have hp:(Yf os k).Perm [0,1,2,3]:=by
  have h:=((p.map fun(h:Nat)=>(h:Int)).append_right (L2.tH k 4 1))
  refine h.trans ?_
  have:k=1∨k=2∨k=3∨k=4:=by omega
  rcases this with rfl|rfl|rfl|rfl<;>exact .refl _
 refine⟨hp.length_eq,fun x hx=>?_,EB (fun a b _ _ h1 h2=>Ek h1 h2) (rP _) (by decide) ((sortI_perm _).trans hp)⟩
 have:=hp.mem_iff.mp hx
 simp only[AF,Dx,or_false]at this
 omega
section
variable {T:Tbl}{Φ:Calls}{s:Sto}
def vp(Φ:Calls):Prop:=∀(i:Int) (s:Sto),0≤i→i≤40→Φ "need_first" 0 [.int i] s=.ok .none s
def uk(Φ:Calls):Prop:=∀(i:Int) (s:Sto),1≤i→i≤40→Φ "need_step" 0 [.int i] s=.ok .none s
theorem qA(g:Gl4 T)(c:xw Φ){i:Int}(h1:0≤i)(h2:i≤40):run T Φ F14.yi [.int i] s=.ok .none s:=by
 rw[post_eq,F14.yi,yo]
 refine⟨rfl,?_⟩
 show (zR Φ T.gl [some (.int i)] _ s).post _
 exact zw (x_call (zA (zB rfl) (zA zW (zA (lP g.mp) zD))) (c i 0 40 s h1 h2)) (tX (zq rfl))
theorem p9(g:Gl4 T)(c:xw Φ){i:Int}(h1:1≤i)(h2:i≤40):run T Φ F14.yw [.int i] s=.ok .none s:=by
 rw[post_eq,F14.yw,yo]
 refine⟨rfl,?_⟩
 show (zR Φ T.gl [some (.int i)] _ s).post _
 exact zw (x_call (zA (zB rfl) (zA zW (zA (lP g.mp) zD))) (c i 1 40 s h1 h2)) (tX (zq rfl))
theorem eQ{ns:List Int}(hn:ns.length<41){s:Sto}:wA false (tpI ns) none none (some (-1)) s=.ok (tpI ns.reverse) s:=by
 have hc:∀n:Nat,n<41→(L2.yH n none none (-1)).2≤zQ:=by
  have h:∀n:Nat,n<41→(L2.yH n none none (-1)).2≤41:=by decide +kernel
  intro n hn
  exact AB (h n hn) (by decide)
 have e:wA false (tpI ns) none none (some (-1)) s=.ok (.tup (L2.za (ns.map .int) (L2.yH ns.length none none (-1)).1 (-1) (L2.yH ns.length none none (-1)).2)) s:=by
  simp only[wA]
  rw[Ag,if_pos ⟨by decide,hc _ hn⟩]
 rw[e,←fj hn]
 show Out.ok (Val.tup _) s=.ok (Val.tup _) s
 unfold L2.za
 rw[FP]
 simp only[Ay]
def ie(Φ:Calls):Prop:=∀(hs:List Int) (s:Sto),Od4 hs→Φ "is_order" 0 [tpI hs] s=.ok (.bool true) s
theorem iL(g:Gl4 T)(c:pA Φ){hs:List Int}(h:Od4 hs):run T Φ F14.xD [tpI hs] s=.ok (.bool true) s:=by
 have c1:=c (hs.map .int) 0 3 s qZ
 rw[sM h.rng]at c1
 have i0:y3 (.ctup [0,1,2,3]) (.int 0) s=.ok (.int 0) s:=rfl
 have i1:y3 (.ctup [0,1,2,3]) (.int (-1)) s=.ok (.int 3) s:=rfl
 have hs1:blt .sortedI false [tpI hs] s=.ok (.lst (([0,1,2,3]:List Int).map .int)) s:=by
  show (match M.intsOf (hs.map .int) with|some ns=>if ns.length<64 then newList false ((sortI ns).map .int) s else .stuck|Ad=>.stuck)=_
  rw[sC]
  show (if hs.length<64 then newList false ((sortI hs).map .int) s else .stuck)=_
  rw[if_pos (by rw[h.len];decide),h.srt];rfl
 have hs2:blt .tuple false [.lst (([0,1,2,3]:List Int).map .int)] s=.ok (tpI [0,1,2,3]) s:=rfl
 have hs3:zM .eq (tpI [0,1,2,3]) (.ctup [0,1,2,3]) s=.ok (.bool true) s:=rfl
 rw[post_eq,F14.xD,yo]
 refine⟨rfl,?_⟩
 show (zR Φ T.gl [some (tpI hs)] _ s).post _
 exact y7 (dF (zr (zA (zB rfl) (zA iX zD)) kG) (x_call (zA (zB rfl) (zA (ui (lP g.hu) zW i0) (zA (ui (lP g.hu) (ZD zW) i1) zD))) c1) (yL (zr (zA (zr (zA (zB rfl) zD) hs1) zD) hs2) (lP g.hu) hs3)) (zq vV)
end
end M
end
section
namespace M
open PySem
theorem sS{α:Type}:∀{l:List α} {r:Nat} (h:r<l.length),(l[r]::l.eraseIdx r).Perm l
 |a::l,0,_=>.refl _
 |a::l,r+1,h=>(Hh.swap a _ _).trans ((sS (l:=l) (Nat.lt_of_succ_lt_succ h)).cons a)
theorem u9{α β:Type}{f:α→β}:∀{l:List α} {r:Nat},(l.eraseIdx r).map f=(l.map f).eraseIdx r
 |[],_=>rfl
 |a::l,0=>rfl
 |a::l,r+1=>congrArg (f a::·) u9
theorem gN{k:Nat}{os:List Nat}(O:Od k os){h:Nat}(hh:h<k){s:Sto}:yb .index (tpI (z5 os)) [.int h] s=.ok (.int ((os.idxOf h:Nat):Int)) s:=by
 have hfl:(flat (.int (h:Int))&&((z5 os).map Val.int).all flat)=true:=by
  rw[Ab]
  refine⟨rfl,Bz.mpr fun x hx=>?_⟩
  obtain⟨i,_,rfl⟩:=As.mp hx
  rfl
 have hi:((z5 os).map Val.int).findIdx? (fun z=>eqF z (.int (h:Int)))=some (os.idxOf h):=by
  obtain⟨x1,x2⟩:=O.ix h hh
  have hl:os.idxOf h<os.length:=by rw[O.len];exact x1
  refine EX.mpr ⟨by rw[Ag,Ag];exact hl,?_,fun j hj hc=>?_⟩
  . rw[DB,DB]
    show (((os[os.idxOf h]'hl:Nat):Int) == (h:Int))=true
    rw[C9];exact beq_self_eq_true _
  . rw[DB,DB]at hc
    have hjl:j<os.length:=by omega
    have hc:(((os[j]'hjl:Nat):Int) == (h:Int))=true:=hc
    have e:os[j]'hjl=h:=by have:=Cz hc;omega
    have:=O.at_ j h (by rw[Aa hjl,e])
    omega
 show (if (flat (.int (h:Int))&&((z5 os).map Val.int).all flat)=true then (match ((z5 os).map Val.int).findIdx? (fun z=>eqF z (.int (h:Int))) with|some j=>Out.ok (Val.int (j:Nat)) s|Ad=>.stuck) else .stuck)=_
 rw[if_pos hfl,hi]
section
variable {T:Tbl}{Φ:Calls}{s:Sto}
theorem kh{G:Str→Option Val}{env:Env}{f:Mf}{m:Bool}{o:Ex}{es:Exs}{x:Val}{vs:List Val}{s1 s2:Sto}{r:Out Val}(h1:evE Φ G env o s=.ok x s1)(h2:ya Φ G env es s1=.ok vs s2)(h3:yb f x vs s2=r):evE Φ G env (.yb f m o es) s=r:=bnd h1 (bnd h2 h3)
theorem bI(cD:lR Φ){G:Str→Option Val}{env:Env}{N:List Str}{it:Itb}{il ip k p q:Nat}(hi:yT Φ G env it s=.ok ⟨z9 0 k,none⟩ s)(hk4:k≤4)(h0:zT [none,some il,some ip] env=[none,some (.ref q),some (.ref p)])(hp:wF s p)(hpq:q≠p)(hq:s[q]?=some (.lst ((z5 (Ak k)).map .int))){P:Val→Sto→Prop}(h:∀os s',os.Perm (Ak k)→wF s' p→P (tpI (z5 os)) s') :
 (evE Φ G env (.blt .tuple false (.cons (.comp false N [none,some il,some ip] (.yb .pop false (.var 1) (.cons (.call "_law_draw" 0 (.cons (.var 2) (.cons (.blt .len false (.cons (.var 1) .nil)) .nil))) .nil)) (.nm 0) it .nil) .nil)) s).post P:=by
 refine af.mpr (xM.mpr ?_)
 refine kO (fun rest e s' acc=>(∃o,e=[o,some (.ref q),some (.ref p)])∧wF s' p∧∃done left:List Nat,acc=(z5 done).map .int∧(done++left).Perm (Ak k)∧rest.length=left.length∧s'[q]?=some (.lst ((z5 left).map .int))) ?_
 refine⟨⟨z9 0 k,none⟩,_,hi,⟨⟨none,h0⟩,hp,[],Ak k,rfl,.refl _,by rw[uX,AV],hq⟩,fun _ _ _ _ _=>rfl,?_,?_⟩
 . rintro x rest e s' acc ⟨⟨o,rfl⟩,hp',done,left,rfl,hd,hl,hs⟩
   refine⟨_,rfl,yJ.mpr ?_⟩
   rw[if_pos rfl]
   have hl0:0<left.length:=by rw[←hl];exact DT _
   have hl4:left.length≤4:=by
    have:=hd.length_eq
    rw[Aw,AV]at this
    omega
   have hlen:blt .len false [.ref q] s'=.ok (.int (left.length:Nat)) s':=by
    show (match xh s' (.ref q) with|some vs=>Out.ok (Val.int vs.length) s'|Ad=>.stuck)=_
    show (match (match s'[q]? with|some (.lst vs)=>some vs|_=>Ad) with|some vs=>Out.ok (Val.int vs.length) s'|Ad=>.stuck)=_
    rw[hs]
    show Out.ok (Val.int (((z5 left).map Val.int).length:Nat)) s'=_
    rw[Ag,Ag]
   show (evE Φ G [some x,some (.ref q),some (.ref p)] _ s').post _
   refine fS.mpr (fV.mpr ⟨_,rfl,?_⟩)
   refine xM.mpr (xP (zA (zB rfl) (zA (zr (zA (zB rfl) zD) hlen) zD)) (zJ (cD p left.length s' hp' (by omega) (by omega)) ?_))
   rintro v s2 ⟨r,rfl,hr,t2⟩
   have hr':r<left.length:=by omega
   have hs2:s2[q]?=some (.lst ((z5 left).map .int)):=by rw[t2.ne hpq];exact hs
   have hpop:yb .pop (.ref q) [.int (r:Int)] s2=.ok (.int ((left[r]:Nat):Int)) (upd s2 q ((z5 (left.eraseIdx r)).map .int)):=by
    have hix:FJ (r:Int) ((z5 left).map Val.int).length=some r:=by
     rw[Ag,Ag]
     have h1:¬((r:Int)<0):=by omega
     have h2:(r:Int)<(left.length:Int):=by omega
     simp[FJ,h1,h2]
    simp only[yb]
    rw[hs2]
    simp only[]
    rw[if_pos ⟨by omega,by omega⟩,hix]
    simp only[]
    rw[Ay,Ay,Aa hr',←u9,←u9]
    rfl
   refine rH.mpr ?_
   rw[hpop]
   refine zC.mpr ⟨⟨_,rfl⟩,?_,done++[left[r]],left.eraseIdx r,by unfold z5;rw[B8,B8];rfl,?_,?_,?_⟩
   . obtain⟨a,b,e,hb⟩:=t2.at_ hp'.lt
     refine⟨a,b,?_,hb⟩
     unfold upd
     rw[Ci hpq];exact e
   . refine Hh.trans ?_ hd
     rw[Ar]
     exact(sS hr').append_left done
   . rw[List.length_eraseIdx_of_lt hr']
     rw[AE]at hl
     omega
   . unfold upd
     rw[Bo (by exact(Ap.mp hs2).1)]
 . rintro e s' acc ⟨⟨o,rfl⟩,hp',done,left,rfl,hd,hl,hs⟩
   obtain rfl:left=[]:=List.length_eq_zero_iff.mp hl.symm
   rw[AZ]at hd
   exact zC.mpr (rH.mpr (zC.mpr (h done s' hd hp')))
end
end M
end
section
namespace M
open PySem
noncomputable def whL(ns:List Int)(z:Nat):List (Nat × Nat):=(z8 ns.length z).filter fun r=>yU ns r.1 r.2 z
noncomputable def vy(ns:List Int)(r:Nat × Nat):Int:=ns.getD r.1 0
noncomputable def byL(ns:List Int)(z:Nat):List Int:=([0,1,2,3]:List Int).map fun h=>(((whL ns z).map (vy ns)).count h:Int)
theorem yn{ns:List Int}{f d z:Nat}:yU ns f d z=true↔∀k<z,ns[f+k*d]?=ns[f]?:=by
 unfold yU
 rw[Bz]
 exact⟨fun h k hk=>of_decide_eq_true (h k (Ax.mpr hk)),fun h k hk=>decide_eq_true (h k (Ax.mp hk))⟩
theorem yq{ns:List Int}{z f d:Nat}(hz:2≤z):(f,d)∈whL ns z↔(0<d∧f+d*(z-1)<ns.length)∧yU ns f d z=true:=by
 unfold whL
 rw[B7,wY hz]
theorem kN{ns:List Int}{f d z:Nat}(hz:1≤z)(hf:f<ns.length):yU ns f d z=true↔∃h,iu ns f d z h=true:=by
 rw[yn]
 constructor
 . intro h
   refine⟨ns[f],w8.mpr fun k hk=>?_⟩
   rw[h k hk,Aa hf]
 . rintro ⟨h,ha⟩ k hk
   rw[w8.mp ha k hk]
   have:=w8.mp ha 0 (by omega)
   rw[Fw,CI]at this
   exact this.symm
noncomputable def rfR(n z:Nat)(r:Nat × Nat):Nat × Nat:=(n-1-(r.1+r.2*(z-1)),r.2)
theorem cz{ns:List Int}{f d z:Nat}(hz:2≤z)(hl:f+d*(z-1)<ns.length):yU ns.reverse f d z=yU ns (ns.length-1-(f+d*(z-1))) d z:=by
 rw[BD,kN (by omega) (by rw[Cr];omega),kN (by omega) (by omega)]
 exact exists_congr fun h=>by rw[iw (by omega) hl]
theorem eD{n z:Nat}{r:Nat × Nat}(h:r.1+r.2*(z-1)<n):rfR n z (rfR n z r)=r:=by
 unfold rfR
 exact Es (by show n-1-(n-1-(r.1+r.2*(z-1))+r.2*(z-1))=r.1;omega) rfl
theorem rA{ns:List Int}{z:Nat}(hz:2≤z){r:Nat × Nat}:r∈whL ns.reverse z↔∃q∈whL ns z,rfR ns.length z q=r:=by
 have go:∀{ms:List Int} {q:Nat × Nat},q∈whL ms z→rfR ms.length z q∈whL ms.reverse z:=fun{ms q} h=>by
  obtain⟨⟨h1,h2⟩,h3⟩:=(yq hz).mp h
  refine(yq hz).mpr ⟨⟨h1,?_⟩,?_⟩
  . rw[Cr];omega
  . rw[cz hz (by omega)]
    rw[show ms.length-1-(ms.length-1-(q.1+q.2*(z-1))+q.2*(z-1))=q.1 by omega]
    exact h3
 constructor
 . intro h
   have h2:=go h
   rw[D7,Cr]at h2
   refine⟨_,h2,eD ?_⟩
   have:=((yq hz).mp h).1.2
   rwa [Cr]at this
 . rintro ⟨q,h,rfl⟩
   exact go h
theorem aL{a b:Nat × Nat}(h:toI a=toI b):a=b:=by
 have h1:=congrArg Prod.fst h
 have h2:=congrArg Prod.snd h
 exact Es (Hb h1) (Hb h2)
theorem kf{ns:List Int}{z:Nat}(hn:ns.length≤40):((whL ns z).map toI).Pairwise (fun a b=>L2.zp a<L2.zp b):=(rM hn).sublist (List.Sublist.map _ List.filter_sublist)
theorem bu{l:List (Int × Int)}(h:l.Pairwise (fun a b=>L2.zp a<L2.zp b)):l.Nodup:=h.imp fun{a b} hab e=>by rw[e]at hab;omega
theorem vT{α β:Type}{f:α→β}:∀{l:List α},l.Nodup→(∀a∈l,∀b∈l,f a=f b→a=b)→(l.map f).Nodup
 |[],_,_=>.nil
 |a::l,h,hi=>by
  rw[BE]at h
  rw[AA,BE]
  refine⟨fun hm=>?_,vT h.2 fun x hx y hy=>hi x (.tail _ hx) y (.tail _ hy)⟩
  obtain⟨b,hb,e⟩:=As.mp hm
  exact h.1 (hi b (.tail _ hb) a (.head _) e▸hb)
theorem Vc{ns:List Int}{z:Nat}(hn:ns.length≤40):(whL ns z).Nodup:=by
 have:=bu (kf (z:=z) hn)
 exact DQ (fun{a b} h e=>h (by rw[e])) (Co.mp this)
theorem kY{ns:List Int}{z:Nat}(hz:2≤z)(hn:ns.length≤40):(((whL ns z).map (rfR ns.length z)).map toI).Nodup∧(∀x∈((whL ns z).map (rfR ns.length z)).map toI,0≤x.2∧x.2<1000)∧uc (((whL ns z).map (rfR ns.length z)).map toI)=(whL ns.reverse z).map toI:=by
 have inb:∀q∈whL ns z,q.1+q.2*(z-1)<ns.length:=fun q hq=>((yq hz).mp hq).1.2
 have nd:(((whL ns z).map (rfR ns.length z)).map toI).Nodup:=by
  refine vT (vT (Vc hn) fun a ha b hb e=>?_) fun a _ b _ e=>aL e
  rw[←eD (inb a ha),e,eD (inb b hb)]
 have bd:∀x∈((whL ns z).map (rfR ns.length z)).map toI,0≤x.2∧x.2<1000:=fun x hx=>by
  obtain⟨r,hr,rfl⟩:=As.mp hx
  obtain⟨q,hq,rfl⟩:=As.mp hr
  have h1:=inb q hq
  have h2:q.2*1≤q.2*(z-1):=B6 _ (by omega)
  show 0≤((q.2:Nat):Int)∧((q.2:Nat):Int)<1000
  omega
 refine⟨nd,bd,L2.wz (rQ nd bd) (kf (by rw[Cr];exact hn)) fun x=>?_⟩
 rw[(yd _).mem_iff,As,As]
 constructor
 . rintro ⟨r,hr,rfl⟩
   obtain⟨q,hq,rfl⟩:=As.mp hr
   exact⟨_,(rA hz).mpr ⟨q,hq,rfl⟩,rfl⟩
 . rintro ⟨r,hr,rfl⟩
   obtain⟨q,hq,rfl⟩:=(rA hz).mp hr
   exact⟨_,List.mem_map_of_mem hq,rfl⟩
theorem ZP{ns:List Int}{z:Nat}(hz:2≤z)(hn:ns.length≤40):byL ns.reverse z=byL ns z:=by
 have hp:((whL ns.reverse z).map toI).Perm (((whL ns z).map (rfR ns.length z)).map toI):=by
  rw[←(kY hz hn).2.2]
  exact yd _
 have h2:=hp.map fun(x:Int × Int)=>ns.reverse.getD x.1.toNat 0
 rw[Bl,Bl,Bl]at h2
 have e1:(whL ns.reverse z).map ((fun(x:Int × Int)=>ns.reverse.getD x.1.toNat 0)∘toI)=(whL ns.reverse z).map (vy ns.reverse):=BN fun r _=>rfl
 have e2:(whL ns z).map (((fun(x:Int × Int)=>ns.reverse.getD x.1.toNat 0)∘toI)∘rfR ns.length z)=(whL ns z).map (vy ns):=BN fun r hr=>by
  obtain⟨⟨h1,h3⟩,h4⟩:=(yq hz).mp (show (r.1,r.2)∈whL ns z from hr)
  have:=yn.mp h4 (z-1) (by omega)
  show ns.reverse.getD (((ns.length-1-(r.1+r.2*(z-1)):Nat):Int)).toNat 0=ns.getD r.1 0
  rw[AH,Ae,DX (by omega),Ae,←this]
  congr 2
  rw[BU (z-1)];omega
 rw[e1,e2]at h2
 unfold byL
 exact BN fun h _=>by rw[h2.count_eq]
theorem oN{os:List Nat}(O:Od 4 os){i:Int}(h0:0≤i)(h3:i≤3):∃a h:Nat,i=a∧a<4∧os[a]?=some h∧h<4∧apO os i=h:=by
 obtain⟨a,rfl⟩:∃a:Nat,i=a:=⟨i.toNat,by omega⟩
 have ha:a<os.length:=by rw[O.len];omega
 refine⟨a,os[a],rfl,by omega,Aa ha,O.lt _ (BI ha),?_⟩
 unfold apO
 rw[AH,Ae,Aa ha];rfl
theorem iy{os:List Nat}(O:Od 4 os){i j:Int}(hi:0≤i∧i≤3)(hj:0≤j∧j≤3)(h:apO os i=apO os j):i=j:=by
 obtain⟨a,x,rfl,_,h1,_,e1⟩:=oN O hi.1 hi.2
 obtain⟨b,y,rfl,_,h2,_,e2⟩:=oN O hj.1 hj.2
 rw[e1,e2]at h
 obtain rfl:x=y:=by omega
 rw[←O.at_ a x h1,←O.at_ b x h2]
theorem ke{ns:List Int}{os:List Nat}{z:Nat}(O:Od 4 os)(hs:∀x∈ns,0≤x∧x≤3):whL (ns.map (apO os)) z=whL ns z:=by
 unfold whL
 rw[Ag]
 refine List.filter_congr fun r _=>?_
 rw[BD,yn,yn]
 refine forall_congr' fun k=>forall_congr' fun hk=>?_
 rw[Ay,Ay]
 constructor
 . intro h
   cases h1:ns[r.1+k*r.2]? with
   |none=>
    rw[h1]at h
    cases h2:ns[r.1]? with
    |none=>rfl
    |some y=>rw[h2]at h;cases h
   |some x=>
    rw[h1]at h
    cases h2:ns[r.1]? with
    |none=>rw[h2]at h;cases h
    |some y=>
     rw[h2]at h
     rw[iy O (hs x (AM h1)) (hs y (AM h2)) (AO h)]
 . intro h;rw[h]
theorem qU{g:Int→Int}{c:Int}:∀{l:List Int},(∀x∈l,g x=g c→x=c)→(l.map g).count (g c)=l.count c
 |[],_=>rfl
 |x::l,h=>by
  rw[AA,Fp,Fp,qU fun y hy=>h y (.tail _ hy)]
  by_cases e:x=c
  . subst e;simp
  . have:g x≠g c:=fun z=>e (h x (.head _) z)
    simp[e,this]
theorem dW{ns:List Int}{os:List Nat}{z:Nat}(hz:2≤z)(O:Od 4 os)(hs:∀x∈ns,0≤x∧x≤3){a h:Nat}(ha:os[a]?=some h):(byL (ns.map (apO os)) z)[h]?=(byL ns z)[a]?:=by
 have hal:a<4:=by have:=(Ap.mp ha).1;rw[O.len]at this;exact this
 have hhl:h<4:=O.lt h (AM ha)
 have at4:∀{f:Int→Int} {k:Nat},k<4→((([0,1,2,3]:List Int).map f)[k]?=some (f k)):=fun{f k} hk=>by
  have:k=0∨k=1∨k=2∨k=3:=by omega
  rcases this with rfl|rfl|rfl|rfl<;>rfl
 unfold byL
 rw[at4 hhl,at4 hal,ke O hs]
 have e:(whL ns z).map (vy (ns.map (apO os)))=((whL ns z).map (vy ns)).map (apO os):=by
  rw[Bl]
  refine BN fun r hr=>?_
  have h1:=((yq hz).mp (show (r.1,r.2)∈whL ns z from hr)).1
  have hl:r.1<ns.length:=by omega
  show (ns.map (apO os)).getD r.1 0=apO os (ns.getD r.1 0)
  rw[Ae,Ay,Aa hl,Ae,Aa hl];rfl
 have ea:apO os (a:Int)=(h:Int):=by
  unfold apO
  rw[AH,Ae,ha];rfl
 rw[e,←ea,qU]
 intro x hx he
 obtain⟨r,hr,rfl⟩:=As.mp hx
 have h1:=((yq hz).mp (show (r.1,r.2)∈whL ns z from hr)).1
 have hl:r.1<ns.length:=by omega
 have hm:vy ns r∈ns:=by
  unfold vy
  rw[Ae,Aa hl];exact BI hl
 exact iy O (hs _ hm) ⟨by omega,by omega⟩ he
noncomputable def uF(os:List Nat):List Nat:=(Ak 4).map fun h=>os.idxOf h
theorem dU{os:List Nat}(p:os.Perm (Ak 4)):(uF os).Perm (Ak 4):=by
 have O:=kM p
 have h:=p.symm.map fun x=>os.idxOf x
 rw[cj O.nd,O.len]at h
 exact h
theorem dR{os:List Nat}(p:os.Perm (Ak 4)){ns:List Int}(hs:∀x∈ns,0≤x∧x≤3):(ns.map (apO os)).map (apO (uF os))=ns:=by
 have O:=kM p
 rw[Bl]
 have:ns.map (apO (uF os)∘apO os)=ns.map id:=BN fun i hi=>by
  obtain⟨a,h,rfl,ha,h1,hh,e⟩:=oN O (hs i hi).1 (hs i hi).2
  show apO (uF os) (apO os a)=(a:Int)
  rw[e]
  unfold apO uF
  rw[AH,Ae,Ay,Ei hh]
  show ((os.idxOf h:Nat):Int)=a
  rw[O.at_ a h h1]
 rw[this,List.map_id]
theorem aQ{a b:List Int}{z:Nat}(hz:2≤z){r:Nat × Nat}(h:r∈whL a z):r∈whL (a++b) z:=by
 obtain⟨⟨h1,h2⟩,h3⟩:=(yq hz).mp (show (r.1,r.2)∈whL a z from h)
 refine(yq hz).mpr ⟨⟨h1,by rw[Aw];omega⟩,yn.mpr fun k hk=>?_⟩
 have hle:k*r.2≤r.2*(z-1):=by rw[BU];exact B6 _ (by omega)
 rw[AQ (by omega),AQ (by omega)]
 exact yn.mp h3 k hk
theorem dD{a b:List Int}{z:Nat}(hz:2≤z){r:Nat × Nat}(h:r∈whL b z):(r.1+a.length,r.2)∈whL (a++b) z:=by
 obtain⟨⟨h1,h2⟩,h3⟩:=(yq hz).mp (show (r.1,r.2)∈whL b z from h)
 refine(yq hz).mpr ⟨⟨h1,by rw[Aw];omega⟩,yn.mpr fun k hk=>?_⟩
 rw[AW (by omega),AW (by omega),show r.1+a.length+k*r.2-a.length=r.1+k*r.2 by omega,show r.1+a.length-a.length=r.1 by omega]
 exact yn.mp h3 k hk
noncomputable def alF(ns:List Int)(f d:Nat):Nat→Nat→Nat
 |0,_=>0
 |n+1,k=>if k<ns.length∧ns[k]?=ns[f]? then 1+alF ns f d n (k+d) else 0
noncomputable def alN(ns:List Int)(f d:Nat):Nat:=alF ns f d (ns.length+1) f
theorem lW{ns:List Int}{f d:Nat}:∀(n k:Nat),∀j<alF ns f d n k,ns[k+j*d]?=ns[f]?
 |0,k,j,h=>by cases h
 |n+1,k,j,h=>by
  unfold alF at h
  split at h
  . rename_i hc
    cases j with
    |zero=>rw[Fw,CI];exact hc.2
    |succ j=>
     have:=lW (ns:=ns) (f:=f) (d:=d) n (k+d) j (by omega)
     rwa [show k+d+j*d=k+(j+1)*d by rw[C6];omega]at this
  . cases h
theorem ir{ns:List Int}{f d:Nat}(hf:f<ns.length):∀(n k m:Nat),m≤n→(∀j<m,ns[k+j*d]?=ns[f]?)→m≤alF ns f d n k
 |n,k,0,_,_=>Bp _
 |0,k,m+1,h,_=>by cases h
 |n+1,k,m+1,h,hr=>by
  have h0:=hr 0 (by omega)
  rw[Fw,CI]at h0
  have hk:k<ns.length:=by
   rw[Aa hf]at h0
   exact(Ap.mp h0).1
  unfold alF
  rw[if_pos ⟨hk,h0⟩]
  have:=ir hf n (k+d) m (by omega) fun j hj=>by
   have:=hr (j+1) (by omega)
   rwa [show k+(j+1)*d=k+d+j*d by rw[C6];omega]at this
  omega
def Rn(ns:List Int)(m:Nat):Prop:=∃f d,0<d∧f<ns.length∧∀k<m,ns[f+k*d]?=ns[f]?
theorem kZ{ns:List Int}{m f d:Nat}(hd:0<d)(hf:f<ns.length)(h:∀k<m,ns[f+k*d]?=ns[f]?):m=0∨f+(m-1)*d<ns.length:=by
 by_cases hm:m=0
 . exact .inl hm
 . right
   have:=h (m-1) (by omega)
   rw[Aa hf]at this
   exact(Ap.mp this).1
theorem Xp{ns:List Int}{m f d:Nat}(hd:0<d)(hf:f<ns.length)(h:∀k<m,ns[f+k*d]?=ns[f]?):m≤alN ns f d:=by
 refine ir hf _ _ _ ?_ h
 rcases kZ hd hf h with h1|h1
 . omega
 . have:(m-1)*1≤(m-1)*d:=B6 _ hd
   omega
noncomputable def ur(ns:List Int):List Int:=(Ak ns.length).flatMap fun f=>(Ak ns.length).map fun j=>((alN ns f (j+1):Nat):Int)
noncomputable def y9(ns:List Int):Int:=L2.yy 0 (ur ns)
theorem kL{ns:List Int}{x:Int}:x∈ur ns↔∃f j,f<ns.length∧j<ns.length∧x=(alN ns f (j+1):Nat):=by
 unfold ur
 rw[CZ]
 constructor
 . rintro ⟨f,hf,hx⟩
   obtain⟨j,hj,rfl⟩:=As.mp hx
   exact⟨f,j,Ax.mp hf,Ax.mp hj,rfl⟩
 . rintro ⟨f,j,hf,hj,rfl⟩
   exact⟨f,Ax.mpr hf,As.mpr ⟨j,Ax.mpr hj,rfl⟩⟩
theorem fC{ns:List Int}{m:Nat}(h:Rn ns m):(m:Int)≤y9 ns:=by
 obtain⟨f,d,hd,hf,hr⟩:=h
 have key:∀d',0<d'→d'≤ns.length→(∀k<m,ns[f+k*d']?=ns[f]?)→(m:Int)≤y9 ns:=fun d' h1 h2 h3=>by
  have hm:((alN ns f d':Nat):Int)∈ur ns:=kL.mpr ⟨f,d'-1,hf,by omega,by rw[show d'-1+1=d' by omega]⟩
  have:=(L2.wo (d:=0) (fun e=>by rw[e]at hm;cases hm)).2 _ hm
  have h4:=Xp h1 hf h3
  unfold y9
  omega
 by_cases hdn:d≤ns.length
 . exact key d hd hdn hr
 . refine key 1 (by omega) (by omega) fun k hk=>?_
   have hm:m≤1:=by
    rcases kZ hd hf hr with h1|h1
    . omega
    . by_cases h2:m≤1
      . exact h2
      . have:1*d≤(m-1)*d:=Ck _ (by omega)
        omega
   obtain rfl:k=0:=by omega
   rw[Fw,CI]
theorem pY{ns:List Int}:y9 ns=0∨∃m:Nat,y9 ns=m∧Rn ns m:=by
 by_cases he:ur ns=[]
 . left;unfold y9;rw[he];rfl
 . right
   obtain⟨h1,_⟩:=L2.wo (d:=0) he
   obtain⟨f,j,hf,hj,e⟩:=kL.mp h1
   exact⟨_,e,f,j+1,DT _,hf,lW _ _⟩
theorem fD{ns:List Int}:0≤y9 ns:=by
 rcases pY (ns:=ns) with h|⟨m,h,_⟩<;>omega
theorem sm{a b:List Int}(h:∀m,0<m→Rn a m→Rn b m):y9 a≤y9 b:=by
 rcases pY (ns:=a) with h1|⟨m,h1,h2⟩
 . rw[h1];exact fD
 . rw[h1]
   by_cases hm:m=0
   . subst hm;exact fD
   . exact fC (h m (by omega) h2)
theorem fE{ns ts:List Int}{f0 d0:Nat}(hd:0<d0)(ht:∀i:Nat,ts[i]?=ns[f0+i*d0]?):y9 ts≤y9 ns:=sm fun m _ ⟨f,d,h1,h2,h3⟩=>by
 have h4:ts[f]?=some ts[f]:=Aa h2
 refine⟨f0+f*d0,d*d0,Nat.mul_pos h1 hd,?_,fun k hk=>?_⟩
 . rw[ht]at h4
   exact(Ap.mp h4).1
 . have:=h3 k hk
   rw[ht,ht]at this
   rwa [show f0+(f+k*d)*d0=f0+f*d0+k*(d*d0) by rw[Nat.add_mul,Nat.mul_assoc];omega]at this
theorem eE{ns:List Int}{m:Nat}(hm:0<m)(h:Rn ns.reverse m):Rn ns m:=by
 obtain⟨f,d,h1,h2,h3⟩:=h
 have hl:=(kZ h1 h2 h3).resolve_left (by omega)
 rw[Cr]at h2 hl
 have hle:∀k<m,k*d≤(m-1)*d:=fun k hk=>Ck _ (by omega)
 refine⟨ns.length-1-(f+(m-1)*d),d,h1,by omega,fun k hk=>?_⟩
 have e:∀k<m,ns[ns.length-1-(f+(m-1)*d)+k*d]?=ns.reverse[f]?:=fun k hk=>by
  have h4:=h3 (m-1-k) (by omega)
  have h5:=hle k hk
  have h6:=hle (m-1-k) (by omega)
  rw[←h4,DX (by omega)]
  congr 1
  have h7:(m-1-k)*d=(m-1)*d-k*d:=Nat.sub_mul _ _ _
  rw[h7]
  omega
 have e0:=e 0 hm
 rw[Fw,CI]at e0
 rw[e k hk,e0]
theorem cg{ns:List Int}:y9 ns.reverse=y9 ns:=by
 refine Ek (sm fun m hm h=>eE hm h) (sm fun m hm h=>eE hm ?_)
 rw[D7];exact h
theorem aR{ns:List Int}{z:Nat}(hz:2≤z):whL ns z≠[]↔(z:Int)≤y9 ns:=by
 constructor
 . intro h
   obtain⟨r,hr⟩:=List.exists_mem_of_ne_nil _ h
   obtain⟨⟨h1,h2⟩,h3⟩:=(yq hz).mp (show (r.1,r.2)∈whL ns z from hr)
   exact fC ⟨r.1,r.2,h1,by omega,yn.mp h3⟩
 . intro h
   rcases pY (ns:=ns) with h1|⟨m,h1,f,d,h2,h3,h4⟩
   . omega
   . have hl:=(kZ h2 h3 (m:=z) fun k hk=>h4 k (by omega)).resolve_left (by omega)
     exact List.ne_nil_of_mem ((yq (f:=f) (d:=d) hz).mpr ⟨⟨h2,by rw[BU];exact hl⟩,yn.mpr fun k hk=>h4 k (by omega)⟩)
theorem sT{α β:Type}{c:α→Bool}{x:β}{g:α→List β}:∀l:List α,(l.flatMap fun p=>(if c p then x::g p else g p)).length=(l.filter c).length+(l.flatMap g).length
 |[]=>rfl
 |a::l=>by
  rw[CN,Aw,CN,Aw,sT l,Fc]
  cases c a<;>simp<;>omega
theorem i3{z n:Nat}:∀R:List (Nat × Nat),(∀r∈R,((Ak n).filter fun p=>uy z p r).length=z)→((Ak n).flatMap fun p=>R.filter (uy z p)).length=z*R.length
 |[],_=>by rw[(List.flatMap_eq_nil_iff (f:=fun p=>([]:List (Nat × Nat)).filter (uy z p)) (l:=Ak n)).mpr fun _ _=>rfl];rfl
 |r::R,h=>by
  have e:(fun p=>(r::R).filter (uy z p))=fun p=>if uy z p r then r::R.filter (uy z p) else R.filter (uy z p):=by
   funext p;rw[Fc]
  rw[e,sT (c:=fun p=>uy z p r),h r (.head _),i3 R fun q hq=>h q (.tail _ hq),AE,Nat.mul_succ]
  omega
theorem dj{n z f d:Nat}(hz:2≤z)(hd:0<d)(hl:f+d*(z-1)<n):((Ak n).filter fun p=>uy z p (f,d)).length=z:=by
 have hm:∀p,p∈(Ak n).filter (fun p=>uy z p (f,d))↔p∈(Ak z).map fun k=>f+k*d:=fun p=>by
  rw[B7,Ax,As]
  unfold uy
  rw[Cd]
  constructor
  . rintro ⟨_,k,hk,e⟩
    exact⟨k,hk,of_decide_eq_true e⟩
  . rintro ⟨k,hk,rfl⟩
    have hk':=Ax.mp hk
    have:k*d≤d*(z-1):=by rw[BU];exact B6 _ (by omega)
    exact⟨by omega,k,hk,decide_eq_true rfl⟩
 have n1:((Ak n).filter fun p=>uy z p (f,d)).Nodup:=List.Nodup.sublist List.filter_sublist CY
 have n2:((Ak z).map fun k=>f+k*d).Nodup:=vT CY fun a _ b _ e=>by
  have e:f+a*d=f+b*d:=e
  exact Nat.eq_of_mul_eq_mul_right hd (by omega)
 have l1:=n1.length_le_of_subset fun p hp=>(hm p).mp hp
 have l2:=n2.length_le_of_subset fun p hp=>(hm p).mpr hp
 rw[Ag,AV]at l1 l2
 omega
theorem ZK{n z:Nat}(hz:2≤z):((Ak n).flatMap fun p=>atP n z p).length=z*(z8 n z).length:=i3 _ fun r hr=>by
 have:=(wY hz).mp (show (r.1,r.2)∈z8 n z from hr)
 exact dj hz this.1 this.2
end M
end
section
namespace F08
open PySem M
noncomputable def zh:Fn:=⟨["_law_one","_law_other","_law_size","_law_both","_law_first","_law_step"],["_law_one","_law_other","_law_size"],false,(.cons (.asg 3 (.call "whole_rows" 0 (.cons (.call "joined" 0 (.cons (.var 0) (.cons (.var 1) .nil))) (.cons (.var 2) .nil)))) (.cons (.forS (.nms [4,5]) (.val (.call "whole_rows" 0 (.cons (.var 0) (.cons (.var 2) .nil)))) (.cons (.ifS (.val (.cmp .notIn (.tup (.cons (.var 4) (.cons (.var 5) .nil))) (.var 3))) (.cons (.ret (.lit (.bool false))) .nil) .nil) .nil)) (.cons (.ret (.blt .all false (.cons (.comp false ["_law_first","_law_step","_law_both","_law_one"] [none,none,some 3,some 0] (.cmp .in_ (.tup (.cons (.bin false .add (.var 0) (.blt .len false (.cons (.var 3) .nil))) (.cons (.var 1) .nil))) (.var 2)) (.nms [0,1]) (.val (.call "whole_rows" 0 (.cons (.var 1) (.cons (.var 2) .nil)))) .nil) .nil))) .nil)))⟩
noncomputable def ye:Fn:=⟨["_law_pen_here","_law_limit","_law_hues","_law_way","_law_length","_law_odd","_law_found"],["_law_pen_here","_law_limit","_law_hues"],false,(.cons (.par [3,4,5] (.cons (.call "_law_draw" 0 (.cons (.var 0) (.cons (.lit (.int 4)) .nil))) (.cons (.call "_law_draw" 0 (.cons (.var 0) (.cons (.bin false .add (.var 1) (.lit (.int 1))) .nil))) (.cons (.bin false .add (.lit (.int 2)) (.call "_law_draw" 0 (.cons (.var 0) (.cons (.lit (.int 5)) .nil)))) .nil)))) (.cons (.asg 6 (.comp false ["_law_place","_law_pen_here","_law_hues"] [none,some 0,some 2] (.call "_law_draw" 0 (.cons (.var 1) (.cons (.var 2) .nil))) (.nm 0) (.range1 (.var 4)) .nil)) (.cons (.ifS (.val (.cmp .eq (.var 3) (.lit (.int 1)))) (.cons (.asg 6 (.comp false ["_law_place","_law_found","_law_length","_law_odd"] [none,some 6,some 4,some 5] (.ix (.var 1) (.bin false .mod (.bin false .mod (.var 0) (.var 3)) (.var 2))) (.nm 0) (.range1 (.var 4)) .nil)) .nil) .nil) (.cons (.ifS (.val (.cmp .eq (.var 3) (.lit (.int 2)))) (.cons (.asg 6 (.comp false ["_law_place","_law_found","_law_odd"] [none,some 6,some 5] (.ife (.or (.val (.cmp .gt (.ix (.var 1) (.var 0)) (.lit (.int 0)))) (.cons (.val (.cmp .eq (.bin false .mod (.var 0) (.var 2)) (.lit (.int 0)))) .nil)) (.ix (.var 1) (.lit (.int 0))) (.ix (.var 1) (.var 0))) (.nm 0) (.range1 (.var 4)) .nil)) .nil) .nil) (.cons (.ret (.blt .tuple false (.cons (.var 6) .nil))) .nil)))))⟩
noncomputable def zi:Fn:=⟨["_law_strip_here","_law_order","_law_size","_law_by","_law_other","_law_back","_law_led_round"],["_law_strip_here","_law_order","_law_size"],false,(.cons (.asg 3 (.call "whole_by" 0 (.cons (.var 0) (.cons (.var 2) .nil)))) (.cons (.asg 4 (.call "exchanged" 0 (.cons (.var 0) (.cons (.var 1) .nil)))) (.cons (.ifS (.or (.val (.cmp .ne (.call "whole_by" 0 (.cons (.call "backward" 0 (.cons (.var 0) .nil)) (.cons (.var 2) .nil))) (.var 3))) (.cons (.val (.cmp .ne (.call "whole_rows" 0 (.cons (.var 4) (.cons (.var 2) .nil))) (.call "whole_rows" 0 (.cons (.var 0) (.cons (.var 2) .nil))))) .nil)) (.cons (.ret (.lit (.bool false))) .nil) .nil) (.cons (.ifS (.val (.cmp .ne (.comp false ["_law_hue","_law_other","_law_size","_law_order"] [none,some 4,some 2,some 1] (.ix (.call "whole_by" 0 (.cons (.var 1) (.cons (.var 2) .nil))) (.ix (.var 3) (.var 0))) (.nm 0) (.range1 (.lit (.int 4))) .nil) (.blt .list false (.cons (.var 3) .nil)))) (.cons (.ret (.lit (.bool false))) .nil) .nil) (.cons (.asg 5 (.blt .tuple false (.cons (.comp false ["_law_hue","_law_order"] [none,some 1] (.yb .index false (.var 1) (.cons (.var 0) .nil)) (.nm 0) (.range1 (.lit (.int 4))) .nil) .nil))) (.cons (.ifS (.or (.val (.cmp .ne (.call "exchanged" 0 (.cons (.var 4) (.cons (.var 5) .nil))) (.var 0))) (.cons (.val (.cmp .ne (.call "backward" 0 (.cons (.call "backward" 0 (.cons (.var 0) .nil)) .nil)) (.var 0))) (.cons (.not (.val (.call "is_strip" 0 (.cons (.var 4) .nil)))) .nil))) (.cons (.ret (.lit (.bool false))) .nil) .nil) (.cons (.asg 6 (.comp false ["_law_first","_law_step","_law_size","_law_strip_here"] [none,none,some 2,some 0] (.tup (.cons (.bin false .sub (.bin false .sub (.bin false .sub (.blt .len false (.cons (.var 3) .nil)) (.lit (.int 1))) (.var 0)) (.bin false .mul (.bin false .sub (.var 2) (.lit (.int 1))) (.var 1))) (.cons (.var 1) .nil))) (.nms [0,1]) (.val (.call "whole_rows" 0 (.cons (.var 0) (.cons (.var 2) .nil)))) .nil)) (.cons (.ret (.cmp .eq (.blt .sorted false (.cons (.var 6) .nil)) (.call "whole_rows" 0 (.cons (.call "backward" 0 (.cons (.var 0) .nil)) (.cons (.var 2) .nil))))) .nil))))))))⟩
noncomputable def yf:Fn:=⟨["strip","first","step","many","place"],["strip","first","step"],false,(.cons (.asg 3 (.lit (.int 0))) (.cons (.asg 4 (.var 1)) (.cons (.whileS (.and (.val (.cmp .lt (.var 4) (.blt .len false (.cons (.var 0) .nil)))) (.cons (.val (.cmp .eq (.ix (.var 0) (.var 4)) (.ix (.var 0) (.var 1)))) .nil)) (.cons (.aug 3 .add (.lit (.int 1))) (.cons (.aug 4 .add (.var 2)) .nil))) (.cons (.ret (.var 3)) .nil))))⟩
noncomputable def yQ:Fn:=⟨["strip","size","rows"],["strip","size"],false,(.cons (.asg 2 (.call "whole_rows" 0 (.cons (.var 0) (.cons (.var 1) .nil)))) (.cons (.ret (.ife (.val (.var 2)) (.ix (.var 2) (.lit (.int 0))) (.lit .none))) .nil))⟩
noncomputable def wO:Fn:=⟨["one","other","many"],["one","other"],false,(.cons (.expr (.call "need_strip" 0 (.cons (.var 0) .nil))) (.cons (.expr (.call "need_strip" 0 (.cons (.var 1) .nil))) (.cons (.asg 2 (.bin false .add (.blt .len false (.cons (.var 0) .nil)) (.blt .len false (.cons (.var 1) .nil)))) (.cons (.ifS (.val (.cmp .gt (.var 2) (.gl "MOST_PLACES"))) (.cons (.raise (.lit .none)) .nil) .nil) (.cons (.ret (.bin false .add (.var 0) (.var 1))) .nil)))))⟩
noncomputable def xn:Fn:=⟨["strip","length"],["strip"],false,(.cons (.expr (.call "need_strip" 0 (.cons (.var 0) .nil))) (.cons (.asg 1 (.blt .len false (.cons (.var 0) .nil))) (.cons (.ret (.maxD (.comp2 false ["first","step","length","strip"] [none,none,some 1,some 0] (.call "alike_from" 0 (.cons (.var 3) (.cons (.var 0) (.cons (.var 1) .nil)))) (.nm 0) (.range1 (.var 1)) .nil (.nm 1) (.range2 (.lit (.int 1)) (.bin false .add (.var 2) (.lit (.int 1)))) .nil) (.lit (.int 0)))) .nil)))⟩
noncomputable def yx:Fn:=⟨["first","step","size"],["first","step","size"],false,(.cons (.expr (.call "need_first" 0 (.cons (.var 0) .nil))) (.cons (.expr (.call "need_step" 0 (.cons (.var 1) .nil))) (.cons (.expr (.call "need_size" 0 (.cons (.var 2) .nil))) (.cons (.ret (.blt .tuple false (.cons (.comp false ["at","first","step"] [none,some 0,some 1] (.bin false .add (.var 1) (.bin false .mul (.var 2) (.var 0))) (.nm 0) (.range1 (.var 2)) .nil) .nil))) .nil))))⟩
noncomputable def xG:Fn:=⟨["strip","size","found"],["strip","size"],false,(.cons (.asg 2 (.comp false ["first","step","strip"] [none,none,some 0] (.ix (.var 2) (.var 0)) (.nms [0,1]) (.val (.call "whole_rows" 0 (.cons (.var 0) (.cons (.var 1) .nil)))) .nil)) (.cons (.ret (.blt .tuple false (.cons (.comp false ["hue","found"] [none,some 2] (.yb .count false (.var 1) (.cons (.var 0) .nil)) (.nm 0) (.val (.gl "HUES")) .nil) .nil))) .nil))⟩
noncomputable def yl:Fn:=⟨["strip","size"],["strip","size"],false,(.cons (.expr (.call "need_strip" 0 (.cons (.var 0) .nil))) (.cons (.expr (.call "need_size" 0 (.cons (.var 1) .nil))) (.cons (.ret (.comp false ["first","step","strip","size"] [none,none,some 0,some 1] (.tup (.cons (.var 0) (.cons (.var 1) .nil))) (.nms [0,1]) (.val (.call "rows_in" 0 (.cons (.blt .len false (.cons (.var 0) .nil)) (.cons (.var 1) .nil)))) (.cons (.val (.call "is_one_hue" 0 (.cons (.var 2) (.cons (.var 0) (.cons (.var 1) (.cons (.var 3) .nil)))))) .nil))) .nil)))⟩
end F08
end
section
namespace M
open PySem
theorem cq(rs:List (Nat × Nat)):(Val.lst (rs.map zN)).noRef=true:=by
 rw[pf];exact rE fun v hv=>by obtain⟨r,_,rfl⟩:=As.mp hv;rw[zN,ph,xU,xU,uR,wu,wu];rfl
theorem oi{α β:Type}{p:α→Bool}{f:α→β}:∀l:List α,(l.flatMap fun r=>if p r then [f r] else [])=(l.filter p).map f
 |[]=>rfl
 |a::l=>by
  rw[CN,oi l,Fc]
  cases p a<;>rfl
theorem YO{ks:List Int}{h:Int}{s:Sto}:yb .count (.lst (ks.map .int)) [.int h] s=.ok (.int (ks.count h)) s:=by
 have e:∀l:List Int,(l.map Val.int).countP (fun z=>eqF z (.int h))=l.count h:=by
  intro l
  induction l with
  |nil=>rfl
  |cons a l ih=>rw[AA,Dy,ih,Fp];rfl
 have f:(ks.map Val.int).all flat=true:=Bz.mpr fun v hv=>by obtain⟨i,_,rfl⟩:=As.mp hv;rfl
 show (if (flat (.int h)&&(ks.map Val.int).all flat)=true then Out.ok (Val.int ((ks.map Val.int).countP fun z=>eqF z (.int h):Nat)) s else .stuck)=_
 rw[if_pos (by rw[f];rfl),e]
theorem jG:∀n:Nat,n<41→∀f:Nat,f<9→∀d:Nat,d<5→L2.yH n (some (f:Int)) none ((d+1:Nat):Int)=(((min f n:Nat):Int),(n-f+d)/(d+1)):=by decide +kernel
theorem ee{ns:List Int}{f d:Nat}(hn:ns.length<41)(hf:f<9)(hd:1≤d)(hd4:d≤5):∃ts:List Int,(∀i:Nat,ts[i]?=ns[f+i*d]?)∧ts.length<41∧∀s,wA false (.tup (ns.map .int)) (some (f:Int)) none (some (d:Int)) s=.ok (.tup (ts.map .int)) s:=by
 obtain⟨d,rfl⟩:∃e,d=e+1:=⟨d-1,by omega⟩
 have hc:=jG ns.length hn f hf d (by omega)
 have hc2:(ns.length-f+d)/(d+1)<41:=by
  have:(ns.length-f+d)/(d+1)≤ns.length:=by
   rw[Nat.div_le_iff_le_mul_add_pred (by omega)]
   have:=Ck ns.length (show 1≤d+1 by omega)
   omega
  omega
 have hs:∀s,wA false (.tup (ns.map .int)) (some (f:Int)) none (some ((d+1:Nat):Int)) s=.ok (.tup ((L2.za ns ((min f ns.length:Nat):Int) ((d+1:Nat):Int) ((ns.length-f+d)/(d+1))).map .int)) s:=fun s=>by
  simp only[wA]
  rw[Ag,hc,if_pos ⟨by omega,AB (DR hc2) (by decide)⟩]
  unfold L2.za
  rw[FP]
  simp only[Ay]
 refine⟨_,?_,?_,hs⟩
 . by_cases hfn:f<ns.length
   . rw[show min f ns.length=f by omega]
     refine bW (fun k hk=>?_) ?_
     . have h1:(k+1)*(d+1)≤ns.length-f+d:=by
        have:=Nat.div_mul_le_self (ns.length-f+d) (d+1)
        exact AB (Ck _ hk) this
       rw[C6]at h1
       omega
     . have:=Nat.lt_div_mul_add (a:=ns.length-f+d) (b:=d+1) (by omega)
       omega
   . intro i
     rw[show (ns.length-f+d)/(d+1)=0 by rw[show ns.length-f=0 by omega];exact Nat.div_eq_of_lt (by omega)]
     rw[BW (by simp[L2.za]),BW (by have:=Bp (i*(d+1));omega)]
 . refine Nat.lt_of_le_of_lt ?_ hc2
   unfold L2.za
   exact AB (Ey _ _) (by rw[AV];exact Ai _)
theorem lH{ns ts:List Int}{f d:Nat}(hn:zS ns)(h1:∀i:Nat,ts[i]?=ns[f+i*d]?)(h2:ts.length<41):zS ts:=⟨by omega,fun x hx=>by
 obtain⟨i,hi⟩:=D9 hx
 rw[h1]at hi
 exact hn.2 x (AM hi)⟩
theorem vX{ns:List Int}(hn:zS ns):zS ns.reverse:=⟨by rw[Cr];exact hn.1,fun x hx=>hn.2 x (List.mem_reverse.mp hx)⟩
section
variable {T:Tbl}{Φ:Calls}{s:Sto}
def nv(Φ:Calls):Prop:=∀(ns:List Int) (s:Sto),zS ns→Φ "backward" 0 [tpI ns] s=.ok (tpI ns.reverse) s
theorem iJ(c:yY Φ){ns:List Int}(hn:zS ns):run T Φ F14.xC [tpI ns] s=.ok (tpI ns.reverse) s:=by
 rw[post_eq,F14.xC,yo]
 refine⟨rfl,?_⟩
 show (zR Φ T.gl [some (tpI ns)] _ s).post _
 exact zw (x_call (zA (zB rfl) zD) (c ns s hn)) (y7 (aT (zB rfl) mU mU (nG (ZD zW)) (eQ (by have:=hn.1;omega))) (zq (v7 _)))
def ig(Φ:Calls):Prop:=∀(ns ts:List Int) (f d:Nat) (s:Sto),zS ns→f≤40→1≤d→d≤40→(∀s,wA false (tpI ns) (some (f:Int)) none (some (d:Int)) s=.ok (tpI ts) s)→Φ "thinned" 0 [tpI ns,.int f,.int d] s=.ok (tpI ts) s
theorem iM(c:yY Φ)(c1:vp Φ)(c2:uk Φ){ns ts:List Int}{f d:Nat}(hn:zS ns)(h1:f≤40)(h2:1≤d)(h3:d≤40)(ht:∀s,wA false (tpI ns) (some (f:Int)) none (some (d:Int)) s=.ok (tpI ts) s):run T Φ F14.xr [tpI ns,.int f,.int d] s=.ok (tpI ts) s:=by
 rw[post_eq,F14.xr,yo]
 refine⟨rfl,?_⟩
 show (zR Φ T.gl [some (tpI ns),some (.int f),some (.int d)] _ s).post _
 exact zw (x_call (zA (zB rfl) zD) (c ns s hn)) (zw (x_call (zA (zB rfl) zD) (c1 f s (by omega) (by omega))) (zw (x_call (zA (zB rfl) zD) (c2 d s (by omega) (by omega))) (y7 (aT (zB rfl) (nG (zB rfl)) mU (nG (zB rfl)) (ht s)) (zq (v7 _)))))
def iZ(Φ:Calls):Prop:=∀(ns:List Int) (os:List Nat) (s:Sto),zS ns→os.Perm (Ak 4)→Φ "exchanged" 0 [tpI ns,tpI (z5 os)] s=.ok (tpI (ns.map (apO os))) s
theorem cw{os:List Nat}(p:os.Perm (Ak 4)):Od4 (z5 os):=by
 have:=YU p (by omega) (by omega)
 unfold Yf at this
 rwa [show L2.tH ((4:Nat):Int) 4 1=[] from rfl,AZ]at this
theorem iK(c:yY Φ)(c1:ie Φ){ns:List Int}{os:List Nat}(hn:zS ns)(p:os.Perm (Ak 4)):run T Φ F14.yt [tpI ns,tpI (z5 os)] s=.ok (tpI (ns.map (apO os))) s:=by
 have O:=kM p
 rw[post_eq,F14.yt,yo]
 refine⟨rfl,?_⟩
 show (zR Φ T.gl [some (tpI ns),some (tpI (z5 os))] _ s).post _
 have hc:evE Φ T.gl [some (tpI ns),some (tpI (z5 os))] (.comp false ["hue","hues"] [none,some 1] (.ix (.var 1) (.var 0)) (.nm 0) (.val (.var 0)) .nil) s=.ok (.lst ((ns.map (apO os)).map .int)) s:=by
  rw[post_eq]
  refine xm (fun e=>∃o,e=[o,some (tpI (z5 os))]) (fun x=>match x with|.int i=>[.int (apO os i)]|_=>[]) (ns.map .int) (s1:=s) (wk (zB rfl) rfl) ⟨none,rfl⟩ ?_ ?_
  . rintro x hx e ⟨o,rfl⟩
    obtain⟨i,hi,rfl⟩:=As.mp hx
    refine⟨_,rfl,⟨_,rfl⟩,yJ.mpr ⟨rfl,?_⟩⟩
    rw[if_pos rfl]
    obtain⟨a,h,rfl,ha,h1,hh,e⟩:=oN O (hn.2 i hi).1 (hn.2 i hi).2
    have hx:y3 (tpI (z5 os)) (.int (a:Int)) s=.ok (.int (h:Int)) s:=vz (by rw[Ay,h1];rfl)
    show (evE Φ T.gl [some (.int (a:Int)),some (tpI (z5 os))] (.ix (.var 1) (.var 0)) s).post _
    rw[ui (zB rfl) (zB rfl) hx]
    exact zC.mpr ⟨rfl,by show [Val.int (apO os (a:Int))]=_;rw[e]⟩
  . have e:(ns.map Val.int).flatMap (fun x=>match x with|.int i=>[Val.int (apO os i)]|_=>[])=(ns.map (apO os)).map .int:=by
     rw[BK,Bl]
     exact vk _ _
    rw[e]
    exact zC.mpr ⟨rfl,rfl⟩
 exact zw (x_call (zA (zB rfl) zD) (c ns s hn)) (wI (qt (z7 (x_call (zA (zB rfl) zD) (c1 (z5 os) s (cw p))) zX)) (y7 (zr (zA hc zD) rfl) (zq (v7 _))))
def qJ(Φ:Calls):Prop:=∀(f d z:Nat) (s:Sto),f≤40→1≤d→d≤40→2≤z→z≤8→Φ "places_of" 0 [.int f,.int d,.int z] s=.ok (tpI (xQ f d z)) s
theorem oA(c1:vp Φ)(c2:uk Φ)(c3:wN Φ){f d z:Nat}(h1:f≤40)(h2:1≤d)(h3:d≤40)(h4:2≤z)(h5:z≤8):run T Φ F08.yx [.int f,.int d,.int z] s=.ok (tpI (xQ f d z)) s:=by
 have hL:z≤zQ:=AB h5 (by decide)
 rw[post_eq,F08.yx,yo]
 refine⟨rfl,?_⟩
 show (zR Φ T.gl [some (.int f),some (.int d),some (.int z)] _ s).post _
 refine zw (x_call (zA (zB rfl) zD) (c1 f s (by omega) (by omega))) (zw (x_call (zA (zB rfl) zD) (c2 d s (by omega) (by omega))) (zw (x_call (zA (zB rfl) zD) (c3 z s (by omega) (by omega))) (y7 (zr (zA (nu (n:=z) (f:=fun k=>((f+k*d:Nat):Int)) (vG (zB rfl) hL) rfl (fun k o hk=>?_) hL) zD) rfl) (zq (v7 _)))))
 have e:(f:Int)+(d:Int)*(k:Int)=((f+k*d:Nat):Int):=by
  rw[En,BG,Int.mul_comm]
 exact yP (zB rfl) (yP (zB rfl) (zB rfl) (oR (by omega))) (by rw[ve,e])
def aV(Φ:Calls):Prop:=∀(a b:List Int) (s:Sto),zS a→zS b→a.length+b.length≤40→Φ "joined" 0 [tpI a,tpI b] s=.ok (tpI (a++b)) s
theorem eM(g:Gl4 T)(c:yY Φ){a b:List Int}(ha:zS a)(hb:zS b)(hl:a.length+b.length≤40):run T Φ F08.wO [tpI a,tpI b] s=.ok (tpI (a++b)) s:=by
 have hadd:binOp false .add (tpI a) (tpI b) s=.ok (tpI (a++b)) s:=by
  show (if (a.map Val.int).length+(b.map Val.int).length≤zQ then Out.ok (Val.tup (a.map Val.int++b.map Val.int)) s else .stuck)=_
  rw[if_pos (by rw[Ag,Ag];exact AB hl (by decide)),←B8]
 have hgt:zM .gt (.int ((a.length:Int)+(b.length:Int))) (.int 40) s=.ok (.bool false) s:=by
  show Out.ok (Val.bool (decide ((40:Int)<(a.length:Int)+(b.length:Int)))) s=_
  rw[decide_eq_false (by omega)]
 rw[post_eq,F08.wO,yo]
 refine⟨rfl,?_⟩
 show (zR Φ T.gl [some (tpI a),some (tpI b),none] _ s).post _
 refine zw (x_call (zA (zB rfl) zD) (c a s ha)) (zw (x_call (zA (zB rfl) zD) (c b s hb)) (xB (yP (zr (zA (zB rfl) zD) (by rw[uQ,Ag])) (zr (zA (zB rfl) zD) (by rw[uQ,Ag])) ve) ?_))
 show (zR Φ T.gl [some (tpI a),some (tpI b),some (.int ((a.length:Int)+(b.length:Int)))] _ s).post _
 exact wI (z7 (yL (zB rfl) (lP g.mp) hgt) zX) (y7 (yP (zB rfl) (zB rfl) hadd) (zq (v7 _)))
noncomputable def whG(ns:List Int)(z:Nat):Val→List Val
 |.tup [.int f,.int d]=>if yU ns f.toNat d.toNat z then [.tup [.int f,.int d]] else []
 |_=>[]
theorem aP{ns:List Int}{z:Nat}:((z8 ns.length z).map zN).flatMap (whG ns z)=(whL ns z).map zN:=by
 rw[BK]
 have:(fun r=>whG ns z (zN r))=fun(r:Nat × Nat)=>if yU ns r.1 r.2 z then [zN r] else []:=by
  funext r
  show (if yU ns ((r.1:Nat):Int).toNat ((r.2:Nat):Int).toNat z then _ else _)=_
  rw[AH,AH];rfl
 rw[this,oi];rfl
def CWh(Φ:Calls):Prop:=∀(ns:List Int) (z:Nat) (s:Sto),zS ns→2≤z→z≤8→Φ "whole_rows" 0 [tpI ns,.int z] s=.ok (.lst ((whL ns z).map zN)) s
theorem XE(c:yY Φ)(c1:wN Φ)(cR:qy Φ)(cO:Xj Φ){ns:List Int}{z:Nat}(hn:zS ns)(h2:2≤z)(h8:z≤8):run T Φ F08.yl [tpI ns,.int z] s=.ok (.lst ((whL ns z).map zN)) s:=by
 have hn40:=hn.1
 rw[post_eq,F08.yl,yo]
 refine⟨rfl,?_⟩
 show (zR Φ T.gl [some (tpI ns),some (.int z)] _ s).post _
 refine zw (x_call (zA (zB rfl) zD) (c ns s hn)) (zw (x_call (zA (zB rfl) zD) (c1 z s (by omega) (by omega))) (yE.mpr (kR.mpr ?_)))
 refine xm (fun e=>∃o1 o2,e=[o1,o2,some (tpI ns),some (.int z)]) (whG ns z) ((z8 ns.length z).map zN) (s1:=s) (wk (x_call (zA (zr (zA (zB rfl) zD) (by rw[uQ,Ag])) (zA (zB rfl) zD)) (cR ns.length z s hn40 h2 h8)) rfl) ⟨none,none,rfl⟩ ?_ ?_
 . rintro x hx e ⟨o1,o2,rfl⟩
   obtain⟨r,hr,rfl⟩:=As.mp hx
   obtain⟨h3,h4⟩:=(wY h2).mp (show (r.1,r.2)∈z8 ns.length z from hr)
   refine⟨_,rfl,⟨_,_,rfl⟩,?_⟩
   show (ym Φ T.gl [some (.int (r.1:Nat)),some (.int (r.2:Nat)),some (tpI ns),some (.int z)] _ s).post _
   rw[lI (z7 (x_call (zA (zB rfl) (zA (zB rfl) (zA (zB rfl) (zA (zB rfl) zD)))) (cO ns r.1 r.2 z s h3 (by omega) h4 (AB h8 (by decide)))) zX)]
   refine zC.mpr ⟨rfl,?_⟩
   have e:whG ns z (zN r)=if yU ns r.1 r.2 z then [zN r] else []:=by
    show (if yU ns ((r.1:Nat):Int).toNat ((r.2:Nat):Int).toNat z then _ else _)=_
    rw[AH,AH];rfl
   rw[e]
   cases ho:yU ns r.1 r.2 z with
   |true=>
    rw[if_pos rfl]
    rw[rl (zA (zB rfl) (zA (zB rfl) zD)) (show 2≤zQ by decide)]
    exact zC.mpr ⟨rfl,rfl⟩
   |false=>rw[if_neg An];rfl
 . rw[aP]
   exact zC.mpr (zq (cq _))
noncomputable def fwV(ns:List Int)(z:Nat):Val:=match whL ns z with
 |[]=>.none
 |r::_=>zN r
def oI(Φ:Calls):Prop:=∀(ns:List Int) (z:Nat) (s:Sto),zS ns→2≤z→z≤8→Φ "first_whole" 0 [tpI ns,.int z] s=.ok (fwV ns z) s
theorem ng(c:CWh Φ){ns:List Int}{z:Nat}(hn:zS ns)(h2:2≤z)(h8:z≤8):run T Φ F08.yQ [tpI ns,.int z] s=.ok (fwV ns z) s:=by
 rw[post_eq,F08.yQ,yo]
 refine⟨rfl,?_⟩
 show (zR Φ T.gl [some (tpI ns),some (.int z),none] _ s).post _
 refine xB (x_call (zA (zB rfl) (zA (zB rfl) zD)) (c ns z s hn h2 h8)) ?_
 show (zR Φ T.gl [some (tpI ns),some (.int z),some (.lst ((whL ns z).map zN))] _ s).post _
 unfold fwV
 cases whL ns z with
 |nil=>exact y7 (dG (z7 (zB rfl) rfl) zW) (zq rfl)
 |cons r rs=>exact y7 (lQ (z7 (zB rfl) rfl) (ui (zB rfl) zW (show y3 (.lst ((r::rs).map zN)) (.int ((0:Nat):Int)) s=_ from pU rfl))) (zq (by rw[zN,ph,xU,xU,uR,wu,wu];rfl))
noncomputable def huG(ns:List Int):Val→List Val
 |.tup [.int f,.int _]=>[.int (ns.getD f.toNat 0)]
 |_=>[]
def CBy(Φ:Calls):Prop:=∀(ns:List Int) (z:Nat) (s:Sto),zS ns→2≤z→z≤8→Φ "whole_by" 0 [tpI ns,.int z] s=.ok (tpI (byL ns z)) s
theorem XD(g:Gl4 T)(c:CWh Φ){ns:List Int}{z:Nat}(hn:zS ns)(h2:2≤z)(h8:z≤8):run T Φ F08.xG [tpI ns,.int z] s=.ok (tpI (byL ns z)) s:=by
 have hf:((whL ns z).map zN).flatMap (huG ns)=((whL ns z).map (vy ns)).map .int:=by
  rw[BK,Bl]
  have:(fun r=>huG ns (zN r))=fun(r:Nat × Nat)=>[(Val.int∘vy ns) r]:=by
   funext r
   show [Val.int (ns.getD ((r.1:Nat):Int).toNat 0)]=_
   rw[AH];rfl
  rw[this,vk]
 have h1:evE Φ T.gl [some (tpI ns),some (.int z),none] (.comp false ["first","step","strip"] [none,none,some 0] (.ix (.var 2) (.var 0)) (.nms [0,1]) (.val (.call "whole_rows" 0 (.cons (.var 0) (.cons (.var 1) .nil)))) .nil) s=.ok (.lst (((whL ns z).map (vy ns)).map .int)) s:=by
  rw[post_eq]
  refine xm (fun e=>∃o1 o2,e=[o1,o2,some (tpI ns)]) (huG ns) ((whL ns z).map zN) (s1:=s) (wk (x_call (zA (zB rfl) (zA (zB rfl) zD)) (c ns z s hn h2 h8)) rfl) ⟨none,none,rfl⟩ ?_ ?_
  . rintro x hx e ⟨o1,o2,rfl⟩
    obtain⟨r,hr,rfl⟩:=As.mp hx
    have hl:r.1<ns.length:=by have:=((yq h2).mp (show (r.1,r.2)∈whL ns z from hr)).1;omega
    refine⟨_,rfl,⟨_,_,rfl⟩,yJ.mpr ⟨rfl,?_⟩⟩
    rw[if_pos rfl]
    show (evE Φ T.gl [some (.int (r.1:Nat)),some (.int (r.2:Nat)),some (tpI ns)] _ s).post _
    rw[ui (zB rfl) (zB rfl) (vz (Aa hl))]
    refine zC.mpr ⟨rfl,?_⟩
    show [Val.int (ns.getD ((r.1:Nat):Int).toNat 0)]=_
    rw[AH,Ae,Aa hl];rfl
  . rw[hf]
    exact zC.mpr ⟨rfl,rfl⟩
 rw[post_eq,F08.xG,yo]
 refine⟨rfl,?_⟩
 show (zR Φ T.gl [some (tpI ns),some (.int z),none] _ s).post _
 refine xB h1 ?_
 show (zR Φ T.gl [some (tpI ns),some (.int z),some (.lst (((whL ns z).map (vy ns)).map .int))] _ s).post _
 have h3:evE Φ T.gl [some (tpI ns),some (.int z),some (.lst (((whL ns z).map (vy ns)).map .int))] (.comp false ["hue","found"] [none,some 2] (.yb .count false (.var 1) (.cons (.var 0) .nil)) (.nm 0) (.val (.gl "HUES")) .nil) s=.ok (.lst ((byL ns z).map .int)) s:=by
  rw[post_eq]
  refine xm (fun e=>∃o,e=[o,some (.lst (((whL ns z).map (vy ns)).map .int))]) (fun x=>match x with|.int h=>[.int (((whL ns z).map (vy ns)).count h)]|_=>[]) (([0,1,2,3]:List Int).map .int) (s1:=s) (wk (lP g.hu) rfl) ⟨none,rfl⟩ ?_ ?_
  . rintro x hx e ⟨o,rfl⟩
    obtain⟨h,_,rfl⟩:=As.mp hx
    refine⟨_,rfl,⟨_,rfl⟩,yJ.mpr ⟨rfl,?_⟩⟩
    rw[if_pos rfl]
    show (evE Φ T.gl [some (.int h),some (.lst (((whL ns z).map (vy ns)).map .int))] _ s).post _
    rw[kh (zB rfl) (zA (zB rfl) zD) YO]
    exact zC.mpr ⟨rfl,rfl⟩
  . exact zC.mpr ⟨rfl,rfl⟩
 exact y7 (zr (zA h3 zD) rfl) (zq (v7 _))
def iY(Φ:Calls):Prop:=∀(ns:List Int) (f d:Nat) (s:Sto),zS ns→f<ns.length→0<d→Φ "alike_from" 0 [tpI ns,.int f,.int d] s=.ok (.int (alN ns f d)) s
theorem iI{ns:List Int}{f d:Nat}(hn:zS ns)(hf:f<ns.length)(hd:0<d):run T Φ F08.yf [tpI ns,.int f,.int d] s=.ok (.int (alN ns f d)) s:=by
 have hn40:=hn.1
 rw[post_eq,F08.yf,yo]
 refine⟨rfl,?_⟩
 show (zR Φ T.gl [some (tpI ns),some (.int f),some (.int d),none,none] _ s).post _
 refine xB zW (xB (zB rfl) ?_)
 show (zR Φ T.gl [some (tpI ns),some (.int f),some (.int d),some (.int 0),some (.int f)] _ s).post _
 refine yE.mpr (bL (ns.length+1) (fun t e s'=>s'=s∧∃m k:Nat,e=[some (tpI ns),some (.int f),some (.int d),some (.int m),some (.int k)]∧m+alF ns f d t k=alN ns f d∧ns.length<k+t) (by unfold oK;omega) ⟨rfl,0,f,rfl,by rw[DW];rfl,by omega⟩ ?_)
 rintro t e s' ⟨rfl,m,k,rfl,hm,hk⟩
 have hlen:blt .len false [tpI ns] s'=.ok (.int ns.length) s':=by rw[uQ,Ag]
 have hlt:zM .lt (.int (k:Int)) (.int (ns.length:Int)) s'=.ok (.bool (decide (k<ns.length))) s':=by
  show Out.ok (Val.bool (decide ((k:Int)<(ns.length:Int)))) s'=_
  congr 2
  exact decide_eq_decide.mpr (by omega)
 have tlt:=z7 (Φ:=Φ) (G:=T.gl) (env:=[some (tpI ns),some (.int f),some (.int d),some (.int m),some (.int k)]) (s:=s') (yL (a:=.var 4) (b:=.blt .len false (.cons (.var 0) .nil)) (zB rfl) (zr (zA (zB rfl) zD) hlen) hlt) zX
 have stop:m=alN ns f d→(zR Φ T.gl [some (tpI ns),some (.int f),some (.int d),some (.int m),some (.int k)] (.cons (.ret (.var 3)) .nil) s').post (fin false s' fun v t=>v=.int (alN ns f d)∧t=s'):=fun e=>y7 (zB rfl) (by rw[e];exact zq wu)
 by_cases hkn:k<ns.length
 . rw[decide_eq_true hkn]at tlt
   have i1:y3 (tpI ns) (.int (k:Int)) s'=.ok (.int ns[k]) s':=vz (Aa hkn)
   have i2:y3 (tpI ns) (.int (f:Int)) s'=.ok (.int ns[f]) s':=vz (Aa hf)
   have te:=z7 (Φ:=Φ) (G:=T.gl) (env:=[some (tpI ns),some (.int f),some (.int d),some (.int m),some (.int k)]) (s:=s') (yL (a:=.ix (.var 0) (.var 4)) (b:=.ix (.var 0) (.var 1)) (ui (zB rfl) (zB rfl) i1) (ui (zB rfl) (zB rfl) i2) eq_int) zX
   have he:(ns[k]?=ns[f]?)↔ns[k]=ns[f]:=by
    rw[Aa hkn,Aa hf]
    exact⟨fun h=>AO h,fun h=>by rw[h]⟩
   rw[XT tlt (lI te)]
   refine zC.mpr ?_
   obtain⟨t,rfl⟩:∃u,t=u+1:=⟨t-1,by omega⟩
   have hal:alF ns f d (t+1) k=if k<ns.length∧ns[k]?=ns[f]? then 1+alF ns f d t (k+d) else 0:=rfl
   by_cases hq:ns[k]=ns[f]
   . rw[decide_eq_true hq,if_pos rfl]
     rw[if_pos ⟨hkn,he.mpr hq⟩]at hal
     refine av rfl zW ve ?_
     show (zR Φ T.gl [some (tpI ns),some (.int f),some (.int d),some (.int ((m:Int)+1)),some (.int k)] _ s').post _
     refine av rfl (zB rfl) ve ?_
     show (zR Φ T.gl [some (tpI ns),some (.int f),some (.int d),some (.int ((m:Int)+1)),some (.int ((k:Int)+(d:Int)))] _ s').post _
     exact tX ⟨t,CW _,rfl,m+1,k+d,by rw[En,En];rfl,by omega,by omega⟩
   . rw[decide_eq_false hq,if_neg An]
     rw[if_neg (fun h=>hq (he.mp h.2))]at hal
     exact stop (by omega)
 . rw[decide_eq_false hkn]at tlt
   rw[XS tlt]
   refine zC.mpr ?_
   rw[if_neg An]
   refine stop ?_
   cases t with
   |zero=>exact hm
   |succ t=>
    have hal:alF ns f d (t+1) k=if k<ns.length∧ns[k]?=ns[f]? then 1+alF ns f d t (k+d) else 0:=rfl
    rw[if_neg (fun h=>hkn h.1)]at hal
    omega
noncomputable def alG(ns:List Int):Val→List Val
 |.int f=>((Ak ns.length).map fun j=>((alN ns f.toNat (j+1):Nat):Int)).map .int
 |_=>[]
noncomputable def Xo(ns:List Int)(x y:Val):List Val:=match x,y with
 |.int f,.int d=>[.int (alN ns f.toNat d.toNat)]
 |_,_=>[]
def aW(Φ:Calls):Prop:=∀(ns:List Int) (s:Sto),zS ns→Φ "longest" 0 [tpI ns] s=.ok (.int (y9 ns)) s
theorem eN(c:yY Φ)(cA:iY Φ){ns:List Int}(hn:zS ns):run T Φ F08.xn [tpI ns] s=.ok (.int (y9 ns)) s:=by
 have hn40:=hn.1
 have hlen:blt .len false [tpI ns] s=.ok (.int ns.length) s:=by rw[uQ,Ag]
 have hfl:(z9 0 ns.length).flatMap (alG ns)=(ur ns).map .int:=by
  unfold z9 ur
  rw[BK,Gu]
  congr 1
  funext f
  show ((Ak ns.length).map fun j=>((alN ns (0+(f:Int)).toNat (j+1):Nat):Int)).map Val.int=_
  rw[CJ,AH]
 have hsz:(ur ns).length≤1600:=by
  have:∀l:List Nat,(l.flatMap fun f=>(Ak ns.length).map fun j=>((alN ns f (j+1):Nat):Int)).length=l.length*ns.length:=by
   intro l
   induction l with
   |nil=>simp
   |cons a l ih=>rw[CN,Aw,ih,Ag,AV,AE,C6];omega
  unfold ur
  rw[this,AV]
  have:ns.length*ns.length≤40*40:=FC hn40 hn40
  omega
 have hc:evE Φ T.gl [some (tpI ns),some (.int ns.length)] (.comp2 false ["first","step","length","strip"] [none,none,some 1,some 0] (.call "alike_from" 0 (.cons (.var 3) (.cons (.var 0) (.cons (.var 1) .nil)))) (.nm 0) (.range1 (.var 1)) .nil (.nm 1) (.range2 (.lit (.int 1)) (.bin false .add (.var 2) (.lit (.int 1)))) .nil) s=.ok (.lst ((ur ns).map .int)) s:=by
  rw[post_eq]
  refine pv (fun e=>∃o1 o2,e=[o1,o2,some (.int ns.length),some (tpI ns)]) (alG ns) (fun x e=>∃o2,e=[some x,o2,some (.int ns.length),some (tpI ns)]) (Xo ns) ⟨_,_,vG (zB rfl) (by unfold zQ;omega),rfl,⟨none,none,rfl⟩,?_,?_,?_⟩
  . rintro x hx e ⟨o1,o2,rfl⟩
    obtain⟨f,hf,rfl⟩:=wG hx
    refine⟨_,rfl,yJ.mpr ⟨rfl,?_⟩⟩
    rw[if_pos rfl,CJ]
    refine⟨_,_,gQ (i:=1) (j:=ns.length+1) zW (yP (zB rfl) zW ve) (by omega) (by omega),rfl,rfl,⟨_,rfl⟩,?_,?_,?_⟩
    . rintro e ⟨o,rfl⟩;exact⟨_,_,rfl⟩
    . show ((Ak ns.length).map fun j=>((alN ns (f:Int).toNat (j+1):Nat):Int)).map Val.int=_
      unfold z9
      rw[AH,Bl,BK]
      rw[show ns.length+1-1=ns.length by omega]
      have:(fun(k:Nat)=>Xo ns (.int (f:Int)) (.int (((1:Nat):Int)+(k:Int))))=fun(k:Nat)=>[(Val.int∘fun j=>((alN ns f (j+1):Nat):Int)) k]:=by
       funext k
       show [Val.int (alN ns (f:Int).toNat (((1:Nat):Int)+(k:Int)).toNat)]=_
       rw[AH,show (((1:Nat):Int)+(k:Int)).toNat=k+1 by omega];rfl
      rw[this,vk]
    . rintro y hy e ⟨o,rfl⟩
      obtain⟨d,hd,rfl⟩:=wG hy
      refine⟨_,rfl,⟨_,rfl⟩,yJ.mpr ⟨rfl,?_⟩⟩
      rw[if_pos rfl]
      have ed:((1:Nat):Int)+(d:Int)=((d+1:Nat):Int):=by omega
      rw[ed]
      show (evE Φ T.gl [some (.int (f:Int)),some (.int ((d+1:Nat):Int)),some (.int ns.length),some (tpI ns)] _ s).post _
      rw[x_call (zA (zB rfl) (zA (zB rfl) (zA (zB rfl) zD))) (cA ns f (d+1) s hn hf (DT _))]
      refine zC.mpr ⟨rfl,?_⟩
      show [Val.int (alN ns (f:Int).toNat (((d+1:Nat):Int)).toNat)]=_
      rw[AH,AH]
  . show Small ((z9 0 ns.length).flatMap _)
    rw[hfl]
    show ((ur ns).map Val.int).length≤zQ
    rw[Ag];unfold zQ;omega
  . show (newList false ((z9 0 ns.length).flatMap _) s).post _
    rw[hfl]
    exact zC.mpr ⟨rfl,rfl⟩
 have hmx:mxD (.lst ((ur ns).map .int)) (.int 0) s=.ok (.int (y9 ns)) s:=by
  show (match M.intsOf ((ur ns).map .int) with|some ns=>Out.ok (Val.int (L2.yy 0 ns)) s|Ad=>.stuck)=_
  rw[sC];rfl
 rw[post_eq,F08.xn,yo]
 refine⟨rfl,?_⟩
 show (zR Φ T.gl [some (tpI ns),none] _ s).post _
 refine zw (x_call (zA (zB rfl) zD) (c ns s hn)) (xB (zr (zA (zB rfl) zD) hlen) ?_)
 show (zR Φ T.gl [some (tpI ns),some (.int ns.length)] _ s).post _
 exact y7 (bnd hc (bnd zW hmx)) (zq wu)
end
end M
end
section
namespace M
open PySem
theorem rO{v:Val}{s:Sto}(hd:v.isD=true)(hp:v.d.depth≤60)(hn:∀x,v≠.str x)(hr:yC s v=v):zM .ne v v s=.ok (.bool false) s∧zM .eq v v s=.ok (.bool true) s:=by
 have e:pM v v=some true:=by
  unfold pM
  rw[hd,decide_eq_true hp,SeqAt.eqv_refl _ (zf hd)];rfl
 cases v with
 |str x=>exact absurd rfl (hn x)
 |_=>exact⟨by simp only[zM,hr,e];rfl,by simp only[zM,hr,e]⟩
theorem uw(ks:List Int):GJ (ks.map G4)≤0:=L2.uq (k:=0) fun d hd=>by obtain⟨i,hi,rfl⟩:=As.mp hd;exact Ai _
theorem oB{ns:List Int}{s:Sto}:zM .ne (tpI ns) (tpI ns) s=.ok (.bool false) s∧zM .eq (tpI ns) (tpI ns) s=.ok (.bool true) s:=by
 refine rO (by rw[Val.isD];exact u4 ns) ?_ nofun ?_
 . rw[Val.d,pL,ED]
   have:=uw ns
   omega
 . show Val.tup ((ns.map Val.int).map (xH s))=_
   rw[Bl];rfl
theorem b6{ns:List Int}{s:Sto}:zM .ne (.lst (ns.map .int)) (.lst (ns.map .int)) s=.ok (.bool false) s∧zM .eq (.lst (ns.map .int)) (.lst (ns.map .int)) s=.ok (.bool true) s:=by
 refine rO (by rw[Val.isD];exact u4 ns) ?_ nofun rfl
 rw[Val.d,pL,ED]
 have:=uw ns
 omega
theorem qo{rs:List (Nat × Nat)}{s:Sto}:zM .ne (.lst (rs.map zN)) (.lst (rs.map zN)) s=.ok (.bool false) s∧zM .eq (.lst (rs.map zN)) (.lst (rs.map zN)) s=.ok (.bool true) s:=by
 have hds:ds (rs.map zN)=rs.map fun r=>PyData.tuple (([(r.1:Int),(r.2:Int)]:List Int).map G4):=by
  induction rs with
  |nil=>rfl
  |cons r rs ih=>rw[AA,ds,ih,zN,Val.d,ds,ds,ds,Val.d,Val.d];rfl
 refine rO (by rw[Val.isD];exact vS rs) ?_ nofun rfl
 rw[Val.d,hds,ED]
 have:=L2.uq (k:=1) (ds:=rs.map fun r=>PyData.tuple (([(r.1:Int),(r.2:Int)]:List Int).map G4)) fun d hd=>by
  obtain⟨r,_,rfl⟩:=As.mp hd
  rw[ED]
  have:=uw [(r.1:Int),(r.2:Int)]
  omega
 omega
theorem nF{r:Nat × Nat}{rs:List (Nat × Nat)}{s:Sto}(h:r∈rs):zM .notIn (zN r) (.lst (rs.map zN)) s=.ok (.bool false) s:=by
 have h1:flat (zN r)=false:=rfl
 have h2:inD (zN r) (rs.map zN)=true:=by
  have e1:(zN r).isD=true:=by rw[zN,Val.isD,xc,xc,xc,Val.isD,Val.isD];rfl
  have e2:(zN r).d=.tuple [.int r.1,.int r.2]:=by rw[zN,Val.d,ds,ds,ds,Val.d,Val.d]
  unfold inD
  rw[e1,vS,e2]
  rfl
 have h3:(rs.map zN).any (fun z=>Cj z.d (zN r).d)=true:=Cd.mpr ⟨zN r,As.mpr ⟨r,h,rfl⟩,l7 r⟩
 simp only[zM,xh,h1,h2,h3]
 rfl
theorem qL{vs:List Val}{s:Sto}:blt .all false [.lst (vs.map fun _=>Val.bool true)] s=.ok (.bool true) s:=by
 have h:(vs.map fun _=>true).all id=true:=Bz.mpr fun x hx=>by obtain⟨_,_,rfl⟩:=As.mp hx;rfl
 show (match boolsOf (vs.map fun _=>Val.bool true) with|some bs=>Out.ok (Val.bool (bs.all id)) s|Ad=>.stuck)=_
 rw[w9 (fun _=>true)]
 show Out.ok (Val.bool ((vs.map fun _=>true).all id)) s=_
 rw[h]
theorem qV{ns:List Int}{p:Nat}{s:Sto}:wA false (tpI ns) none (some (p:Int)) none s=.ok (tpI (ns.take p)) s:=by
 simp only[wA]
 unfold hW
 have h1:HT.sIx (ns.map Val.int).length 0 none=0:=rfl
 have h2:HT.sIx (ns.map Val.int).length (ns.map Val.int).length (some (p:Int))=min p ns.length:=by rw[HT.b5,Ag]
 rw[h1,h2,CA,Gk,←List.map_take,←List.take_eq_take_min]
theorem lG{ns:List Int}{p:Nat}(hn:zS ns):zS (ns.take p):=⟨by rw[Bn];have:=hn.1;omega,fun x hx=>hn.2 x (Be hx)⟩
section
variable {T:Tbl}{Φ:Calls}{s:Sto}
noncomputable def rfG(n z:Nat):Val→List Val
 |.tup [.int f,.int d]=>[zN (rfR n z (f.toNat,d.toNat))]
 |_=>[]
def lU(Φ:Calls):Prop:=∀(ns:List Int) (os:List Nat) (z:Nat) (s:Sto),zS ns→os.Perm (Ak 4)→2≤z→z≤8→Φ "_law_turned_right" 0 [tpI ns,tpI (z5 os),.int z] s=.ok (.bool true) s
theorem m8(cS:uj Φ)(cB:nv Φ)(cE:iZ Φ)(cW:CWh Φ)(cY:CBy Φ){ns:List Int}{os:List Nat}{z:Nat}(hn:zS ns)(p:os.Perm (Ak 4))(h2:2≤z)(h8:z≤8):run T Φ F08.zi [tpI ns,tpI (z5 os),.int z] s=.ok (.bool true) s:=by
 have O:=kM p
 have hn40:=hn.1
 have ho:zS (ns.map (apO os)):=⟨by rw[Ag];exact hn40,fun x hx=>by
  obtain⟨i,hi,rfl⟩:=As.mp hx
  obtain⟨a,h,rfl,_,_,hh,e⟩:=oN O (hn.2 i hi).1 (hn.2 i hi).2
  rw[e];omega⟩
 have L4:4≤zQ:=by decide
 rw[post_eq,F08.zi,yo]
 refine⟨rfl,?_⟩
 show (zR Φ T.gl [some (tpI ns),some (tpI (z5 os)),some (.int z),none,none,none,none] _ s).post _
 refine xB (x_call (zA (zB rfl) (zA (zB rfl) zD)) (cY ns z s hn h2 h8)) (xB (x_call (zA (zB rfl) (zA (zB rfl) zD)) (cE ns os s hn p)) ?_)
 show (zR Φ T.gl [some (tpI ns),some (tpI (z5 os)),some (.int z),some (tpI (byL ns z)),some (tpI (ns.map (apO os))),none,none] _ s).post _
 have hby:=cY ns.reverse z s (vX hn) h2 h8
 rw[ZP h2 hn40]at hby
 have hwo:=cW (ns.map (apO os)) z s ho h2 h8
 rw[ke O hn.2]at hwo
 refine wI (iS (z7 (yL (x_call (zA (x_call (zA (zB rfl) zD) (cB ns s hn)) (zA (zB rfl) zD)) hby) (zB rfl) oB.1) zX) (vd (z7 (yL (x_call (zA (zB rfl) (zA (zB rfl) zD)) hwo) (x_call (zA (zB rfl) (zA (zB rfl) zD)) (cW ns z s hn h2 h8)) qo.1) zX) rZ)) ?_
 have hbl:(byL ns z).length=4:=rfl
 have hlist:blt .list false [tpI (byL ns z)] s=.ok (.lst ((byL ns z).map .int)) s:=rfl
 have hcomp:=nu (Φ:=Φ) (G:=T.gl) (env:=[some (tpI ns),some (tpI (z5 os)),some (.int z),some (tpI (byL ns z)),some (tpI (ns.map (apO os))),none,none]) (s:=s) (N:=["_law_hue","_law_other","_law_size","_law_order"]) (fr:=[none,some 4,some 2,some 1]) (elt:=.ix (.call "whole_by" 0 (.cons (.var 1) (.cons (.var 2) .nil))) (.ix (.var 3) (.var 0))) (it:=.range1 (.lit (.int 4))) (n:=4) (f:=fun k=>(byL ns z).getD k 0) (e0:=[some (tpI (ns.map (apO os))),some (.int z),some (tpI (z5 os))]) (vG (k:=4) zW L4) rfl (fun k o hk=>by
  have hk':k<os.length:=by rw[O.len];exact hk
  have h1:os[k]?=some os[k]:=Aa hk'
  have i1:y3 (tpI (z5 os)) (.int (k:Int)) s=.ok (.int ((os[k]:Nat):Int)) s:=vz (by rw[Ay,h1];rfl)
  have hg:(byL (ns.map (apO os)) z)[os[k]]?=some ((byL ns z).getD k 0):=by
   rw[dW h2 O hn.2 h1,Ae,Aa (by rw[hbl];exact hk)];rfl
  exact ui (x_call (zA (zB rfl) (zA (zB rfl) zD)) (cY (ns.map (apO os)) z s ho h2 h8)) (ui (zB rfl) (zB rfl) i1) (vz hg)) L4
 have e4:(Ak 4).map (fun k=>(byL ns z).getD k 0)=byL ns z:=range_getD (byL ns z)
 rw[e4]at hcomp
 refine wI (z7 (yL hcomp (zr (zA (zB rfl) zD) hlist) b6.1) zX) ?_
 have hback:=nu (Φ:=Φ) (G:=T.gl) (env:=[some (tpI ns),some (tpI (z5 os)),some (.int z),some (tpI (byL ns z)),some (tpI (ns.map (apO os))),none,none]) (s:=s) (N:=["_law_hue","_law_order"]) (fr:=[none,some 1]) (elt:=.yb .index false (.var 1) (.cons (.var 0) .nil)) (it:=.range1 (.lit (.int 4))) (n:=4) (f:=fun k=>((os.idxOf k:Nat):Int)) (e0:=[some (tpI (z5 os))]) (vG (k:=4) zW L4) rfl (fun k o hk=>kh (zB rfl) (zA (zB rfl) zD) (gN O hk)) L4
 refine xB (zr (zA hback zD) rfl) ?_
 show (zR Φ T.gl [some (tpI ns),some (tpI (z5 os)),some (.int z),some (tpI (byL ns z)),some (tpI (ns.map (apO os))),some (tpI (z5 (uF os))),none] _ s).post _
 have hee:=cE (ns.map (apO os)) (uF os) s ho (dU p)
 rw[dR p hn.2]at hee
 have hbb:=cB ns.reverse s (vX hn)
 rw[D7]at hbb
 refine wI (iS (z7 (yL (x_call (zA (zB rfl) (zA (zB rfl) zD)) hee) (zB rfl) oB.1) zX) (vd (z7 (yL (x_call (zA (x_call (zA (zB rfl) zD) (cB ns s hn)) zD) hbb) (zB rfl) oB.1) zX) (vd (qt (z7 (x_call (zA (zB rfl) zD) (cS _ s ho)) zX)) rZ))) ?_
 have hled:evE Φ T.gl [some (tpI ns),some (tpI (z5 os)),some (.int z),some (tpI (byL ns z)),some (tpI (ns.map (apO os))),some (tpI (z5 (uF os))),none] (.comp false ["_law_first","_law_step","_law_size","_law_strip_here"] [none,none,some 2,some 0] (.tup (.cons (.bin false .sub (.bin false .sub (.bin false .sub (.blt .len false (.cons (.var 3) .nil)) (.lit (.int 1))) (.var 0)) (.bin false .mul (.bin false .sub (.var 2) (.lit (.int 1))) (.var 1))) (.cons (.var 1) .nil))) (.nms [0,1]) (.val (.call "whole_rows" 0 (.cons (.var 0) (.cons (.var 2) .nil)))) .nil) s=.ok (.lst (((whL ns z).map (rfR ns.length z)).map zN)) s:=by
  rw[post_eq]
  refine xm (fun e=>∃o1 o2,e=[o1,o2,some (.int z),some (tpI ns)]) (rfG ns.length z) ((whL ns z).map zN) (s1:=s) (wk (x_call (zA (zB rfl) (zA (zB rfl) zD)) (cW ns z s hn h2 h8)) rfl) ⟨none,none,rfl⟩ ?_ ?_
  . rintro x hx e ⟨o1,o2,rfl⟩
    obtain⟨r,hr,rfl⟩:=As.mp hx
    obtain⟨h3,h4⟩:=((yq h2).mp (show (r.1,r.2)∈whL ns z from hr)).1
    refine⟨_,rfl,⟨_,_,rfl⟩,yJ.mpr ⟨rfl,?_⟩⟩
    rw[if_pos rfl]
    show (evE Φ T.gl [some (.int (r.1:Nat)),some (.int (r.2:Nat)),some (.int z),some (tpI ns)] _ s).post _
    have hv:(ns.length:Int)-1-((r.1:Nat):Int)-((z:Int)-1)*((r.2:Nat):Int)=((ns.length-1-(r.1+r.2*(z-1)):Nat):Int):=by
     have:((z:Int)-1)*((r.2:Nat):Int)=((r.2*(z-1):Nat):Int):=by
      rw[BG,Int.mul_comm,show ((z-1:Nat):Int)=(z:Int)-1 by omega]
     rw[this];omega
    rw[rl (zA (yP (yP (yP (zr (zA (zB rfl) zD) (by rw[uQ,Ag])) zW oS) (zB rfl) oS) (yP (yP (zB rfl) zW oS) (zB rfl) (oR (by omega))) (by rw[oS,hv])) (zA (zB rfl) zD)) (show 2≤zQ by decide)]
    refine zC.mpr ⟨rfl,?_⟩
    show [zN (rfR ns.length z (((r.1:Nat):Int).toNat,((r.2:Nat):Int).toNat))]=_
    rw[AH,AH];rfl
  . have e:((whL ns z).map zN).flatMap (rfG ns.length z)=((whL ns z).map (rfR ns.length z)).map zN:=by
     rw[BK,Bl]
     have:(fun r=>rfG ns.length z (zN r))=fun(r:Nat × Nat)=>[(zN∘rfR ns.length z) r]:=by
      funext r
      show [zN (rfR ns.length z (((r.1:Nat):Int).toNat,((r.2:Nat):Int).toNat))]=_
      rw[AH,AH];rfl
     rw[this,vk]
    rw[e]
    exact zC.mpr ⟨rfl,rfl⟩
 refine xB hled ?_
 show (zR Φ T.gl [some (tpI ns),some (tpI (z5 os)),some (.int z),some (tpI (byL ns z)),some (tpI (ns.map (apO os))),some (tpI (z5 (uF os))),some (.lst (((whL ns z).map (rfR ns.length z)).map zN))] _ s).post _
 obtain⟨k1,k2,k3⟩:=kY (ns:=ns) h2 hn40
 have hsrt:blt .sorted false [.lst (((whL ns z).map (rfR ns.length z)).map zN)] s=.ok (.lst ((whL ns.reverse z).map zN)) s:=by
  have e1:((whL ns z).map (rfR ns.length z)).map zN=(((whL ns z).map (rfR ns.length z)).map toI).map prV:=by rw[Bl (g:=prV)];rfl
  have e2:(whL ns.reverse z).map zN=((whL ns.reverse z).map toI).map prV:=by rw[Bl];rfl
  rw[e1,e2,←k3]
  show (match pairsOf ((((whL ns z).map (rfR ns.length z)).map toI).map prV) with
   |some zs=>if zs.Nodup∧∀z∈zs,0≤z.2∧z.2<1000 then newList false ((uc zs).map prV) s else tK false _ s
   |Ad=>tK false _ s)=_
  rw[tF]
  show (if _ then _ else _)=_
  rw[if_pos ⟨k1,k2⟩];rfl
 exact y7 (yL (zr (zA (zB rfl) zD) hsrt) (x_call (zA (x_call (zA (zB rfl) zD) (cB ns s hn)) (zA (zB rfl) zD)) (cW ns.reverse z s (vX hn) h2 h8)) qo.2) (zq vV)
def lS(Φ:Calls):Prop:=∀(a b:List Int) (z:Nat) (s:Sto),zS a→zS b→a.length+b.length≤40→2≤z→z≤8→Φ "_law_joined_right" 0 [tpI a,tpI b,.int z] s=.ok (.bool true) s
theorem m5(cJ:aV Φ)(cW:CWh Φ){a b:List Int}{z:Nat}(ha:zS a)(hb:zS b)(hl:a.length+b.length≤40)(h2:2≤z)(h8:z≤8):run T Φ F08.zh [tpI a,tpI b,.int z] s=.ok (.bool true) s:=by
 have hj:zS (a++b):=⟨by rw[Aw];exact hl,fun x hx=>by
  rcases A3.mp hx with h|h
  . exact ha.2 x h
  . exact hb.2 x h⟩
 rw[post_eq,F08.zh,yo]
 refine⟨rfl,?_⟩
 show (zR Φ T.gl [some (tpI a),some (tpI b),some (.int z),none,none,none] _ s).post _
 refine xB (x_call (zA (x_call (zA (zB rfl) (zA (zB rfl) zD)) (cJ a b s ha hb hl)) (zA (zB rfl) zD)) (cW (a++b) z s hj h2 h8)) ?_
 show (zR Φ T.gl [some (tpI a),some (tpI b),some (.int z),some (.lst ((whL (a++b) z).map zN)),none,none] _ s).post _
 refine yE.mpr (mh (fun rest e s'=>s'=s∧(∃o4 o5,e=[some (tpI a),some (tpI b),some (.int z),some (.lst ((whL (a++b) z).map zN)),o4,o5])∧∀x∈rest,∃r∈whL a z,x=zN r) ((whL a z).map zN) (s1:=s) (wk (x_call (zA (zB rfl) (zA (zB rfl) zD)) (cW a z s ha h2 h8)) rfl) ⟨rfl,⟨_,_,rfl⟩,fun x hx=>?_⟩ ?_ ?_)
 . obtain⟨r,hr,rfl⟩:=As.mp hx
   exact⟨r,hr,rfl⟩
 . rintro x rest e s' ⟨rfl,⟨o4,o5,rfl⟩,hr⟩
   obtain⟨r,hm,rfl⟩:=hr x (.head _)
   refine⟨_,rfl,?_⟩
   show (zR Φ T.gl [some (tpI a),some (tpI b),some (.int z),some (.lst ((whL (a++b) z).map zN)),some (.int (r.1:Nat)),some (.int (r.2:Nat))] _ s').post _
   exact wI (z7 (yL (rl (zA (zB rfl) (zA (zB rfl) zD)) (show 2≤zQ by decide)) (zB rfl) (nF (r:=r) (aQ h2 hm))) zX) (tX ⟨rfl,⟨_,_,rfl⟩,fun x hx=>hr x (.tail _ hx)⟩)
 . rintro e s' ⟨rfl,⟨o4,o5,rfl⟩,_⟩
   have hc:evE Φ T.gl [some (tpI a),some (tpI b),some (.int z),some (.lst ((whL (a++b) z).map zN)),o4,o5] (.comp false ["_law_first","_law_step","_law_both","_law_one"] [none,none,some 3,some 0] (.cmp .in_ (.tup (.cons (.bin false .add (.var 0) (.blt .len false (.cons (.var 3) .nil))) (.cons (.var 1) .nil))) (.var 2)) (.nms [0,1]) (.val (.call "whole_rows" 0 (.cons (.var 1) (.cons (.var 2) .nil)))) .nil) s'=.ok (.lst (((whL b z).map zN).map fun _=>Val.bool true)) s':=by
    rw[post_eq]
    refine xm (fun e=>∃o1 o2,e=[o1,o2,some (.lst ((whL (a++b) z).map zN)),some (tpI a)]) (fun _=>[.bool true]) ((whL b z).map zN) (s1:=s') (wk (x_call (zA (zB rfl) (zA (zB rfl) zD)) (cW b z s' hb h2 h8)) rfl) ⟨none,none,rfl⟩ ?_ ?_
    . rintro x hx e ⟨o1,o2,rfl⟩
      obtain⟨r,hr,rfl⟩:=As.mp hx
      refine⟨_,rfl,⟨_,_,rfl⟩,yJ.mpr ⟨rfl,?_⟩⟩
      rw[if_pos rfl]
      show (evE Φ T.gl [some (.int (r.1:Nat)),some (.int (r.2:Nat)),some (.lst ((whL (a++b) z).map zN)),some (tpI a)] _ s').post _
      rw[yL (rl (zA (yP (zB rfl) (zr (zA (zB rfl) zD) (by rw[uQ,Ag])) (by rw[ve,←En])) (zA (zB rfl) zD)) (show 2≤zQ by decide)) (zB rfl) (dk (r:=(r.1+a.length,r.2)) (dD h2 hr))]
      exact zC.mpr ⟨rfl,rfl⟩
    . rw[vk]
      exact zC.mpr ⟨rfl,rfl⟩
   exact y7 (zr (zA hc zD) qL) (zq vV)
def lT(Φ:Calls):Prop:=∀(p lim h:Nat) (s:Sto),wF s p→lim≤40→1≤h→h≤4→(Φ "_law_strip" 0 [.ref p,.int lim,.int h] s).post fun v s'=>∃ns,v=tpI ns∧zS ns∧ns.length≤lim∧xA s p s'
theorem m6(cD:lR Φ){p lim h:Nat}(hp:wF s p)(hl:lim≤40)(h1:1≤h)(h4:h≤4):(run T Φ F08.ye [.ref p,.int lim,.int h] s).post fun v s'=>∃ns,v=tpI ns∧zS ns∧ns.length≤lim∧xA s p s':=by
 have hpl:=hp.lt
 rw[F08.ye,yo]
 refine⟨rfl,?_⟩
 show (zR Φ T.gl [some (.ref p),some (.int lim),some (.int h),none,none,none,none] _ s).post _
 refine yE.mpr (kQ.mpr (xM.mpr (xP (zA (zB rfl) (zA zW zD)) (zJ (cD p 4 s hp (by omega) (by omega)) ?_))))
 rintro v s1 ⟨way,rfl,_,t1⟩
 refine xM.mpr (xP (zA (zB rfl) (zA (yP (zB rfl) zW ve) zD)) (zJ (cD p _ s1 (t1.at_ hpl) (by omega) (by omega)) ?_))
 rintro v s2 ⟨n,rfl,hn,t2'⟩
 have t2:=t1.trans t2'
 refine xM.mpr (nJ.mpr (nK.mpr (xP (zA (zB rfl) (zA zW zD)) (zJ (cD p 5 s2 (t2.at_ hpl) (by omega) (by omega)) ?_))))
 rintro v s3 ⟨od,rfl,hod,t3'⟩
 have t3:=t2.trans t3'
 rw[ve,show (2:Int)+(od:Int)=((od+2:Nat):Int) by omega]
 refine zC.mpr (rH.mpr (p4 rfl ?_))
 show (zR Φ T.gl [some (.ref p),some (.int lim),some (.int h),some (.int way),some (.int n),some (.int (od+2:Nat)),none] _ s3).post _
 have hnl:n≤lim:=by omega
 have hnL:n≤zQ:=by unfold zQ;omega
 refine lA (kO (fun rest e s' acc=>(∃o,e=[o,some (.ref p),some (.int h)])∧xA s3 p s'∧∃fs:List Int,acc=fs.map .int∧(∀x∈fs,0≤x∧x≤3)∧fs.length+rest.length=n) ?_)
 refine⟨⟨z9 0 n,none⟩,_,vG (zB rfl) hnL,⟨⟨none,rfl⟩,(t3.at_ hpl).refl,[],rfl,fun _ hx=>(nomatch hx),by rw[uX,Cp,DW]⟩,fun _ _ _ _ _=>rfl,?_,?_⟩
 . rintro x rest e s' acc ⟨⟨o,rfl⟩,t,fs,rfl,hfs,hfl⟩
   refine⟨_,rfl,yJ.mpr ?_⟩
   rw[if_pos rfl]
   show (evE Φ T.gl [some x,some (.ref p),some (.int h)] _ s').post _
   refine xP (zA (zB rfl) (zA (zB rfl) zD)) (zJ (cD p h s' (t.at_ (by rw[t3.len];exact hpl)) (by omega) (by omega)) ?_)
   rintro v s4 ⟨r,rfl,hr,t4⟩
   refine⟨⟨_,rfl⟩,t.trans t4,fs++[(r:Int)],by rw[B8];rfl,fun x hx=>?_,by rw[Aw,Ff];rw[AE]at hfl;omega⟩
   rcases A3.mp hx with hx|hx
   . exact hfs x hx
   . rw[A1.mp hx];omega
 . rintro e s4 acc ⟨⟨o,rfl⟩,t,fs,rfl,hfs,hfl⟩
   rw[Cp,CI]at hfl
   refine zC.mpr ?_
   show (zR Φ T.gl [some (.ref p),some (.int lim),some (.int h),some (.int way),some (.int n),some (.int (od+2:Nat)),some (.lst (fs.map .int))] _ s4).post _
   have T4:=t3.trans t
   have memD:∀(gs:List Int) (k:Nat),gs.length=n→k<n→(∀x∈gs,0≤x∧x≤3)→0≤gs.getD k 0∧gs.getD k 0≤3:=fun gs k h1 h2 h3=>by
    rw[Ae,Aa (by omega)]
    exact h3 _ (BI _)
   refine aw (J:=fun e s'=>s'=s4∧∃gs:List Int,e=[some (.ref p),some (.int lim),some (.int h),some (.int way),some (.int n),some (.int (od+2:Nat)),some (.lst (gs.map .int))]∧gs.length=n∧∀x∈gs,0≤x∧x≤3) (z7 (yL (zB rfl) zW eq_int) zX) (fun _=>?_) (fun _=>⟨rfl,fs,rfl,hfl,hfs⟩) ?_
   . refine xB (nu (n:=n) (f:=fun k=>fs.getD (k%(od+2)%n) 0) (vG (zB rfl) hnL) rfl (fun k o hk=>?_) hnL) (tX ⟨_,rfl,rfl,(Ak n).map fun k=>fs.getD (k%(od+2)%n) 0,rfl,by rw[Ag,AV],fun x hx=>?_⟩)
     . have hm1:binOp false .mod (.int (k:Int)) (.int ((od+2:Nat):Int)) s4=.ok (.int ((k%(od+2):Nat):Int)) s4:=by
        rw[bmod (by omega),←Gv]
       have hm2:binOp false .mod (.int ((k%(od+2):Nat):Int)) (.int (n:Int)) s4=.ok (.int ((k%(od+2)%n:Nat):Int)) s4:=by
        rw[bmod (by omega),←Gv]
       have hlt:k%(od+2)%n<fs.length:=by rw[hfl];exact Nat.mod_lt _ (by omega)
       refine ui (zB rfl) (yP (yP (zB rfl) (zB rfl) hm1) (zB rfl) hm2) (pU ?_)
       rw[Ay,Aa hlt,Ae,Aa hlt];rfl
     . obtain⟨k,hk,rfl⟩:=As.mp hx
       exact memD fs _ hfl (Nat.mod_lt _ (by have:=Ax.mp hk;omega)) hfs
   . rintro e s5 ⟨rfl,gs,rfl,hgl,hgs⟩
     refine aw (J:=fun e s'=>s'=s5∧∃gs:List Int,e=[some (.ref p),some (.int lim),some (.int h),some (.int way),some (.int n),some (.int (od+2:Nat)),some (.lst (gs.map .int))]∧gs.length=n∧∀x∈gs,0≤x∧x≤3) (z7 (yL (zB rfl) zW eq_int) zX) (fun _=>?_) (fun _=>⟨rfl,gs,rfl,hgl,hgs⟩) ?_
     . refine xB (nu (n:=n) (f:=fun k=>if (decide (0<gs.getD k 0)||decide (((k%(od+2):Nat):Int)=0))=true then gs.getD 0 0 else gs.getD k 0) (vG (zB rfl) hnL) rfl (fun k o hk=>?_) hnL) (tX ⟨_,rfl,rfl,(Ak n).map fun k=>if (decide (0<gs.getD k 0)||decide (((k%(od+2):Nat):Int)=0))=true then gs.getD 0 0 else gs.getD k 0,rfl,by rw[Ag,AV],fun x hx=>?_⟩)
       . have hkl:k<gs.length:=by omega
         have h0l:0<gs.length:=by omega
         have hm1:binOp false .mod (.int (k:Int)) (.int ((od+2:Nat):Int)) s5=.ok (.int ((k%(od+2):Nat):Int)) s5:=by
          rw[bmod (by omega),←Gv]
         have ik:y3 (.lst (gs.map .int)) (.int (k:Int)) s5=.ok (.int (gs.getD k 0)) s5:=pU (by rw[Ay,Aa hkl,Ae,Aa hkl];rfl)
         have i0:y3 (.lst (gs.map .int)) (.int ((0:Nat):Int)) s5=.ok (.int (gs.getD 0 0)) s5:=pU (by rw[Ay,Aa h0l,Ae,Aa h0l];rfl)
         have hgt:zM .gt (.int (gs.getD k 0)) (.int 0) s5=.ok (.bool (decide (0<gs.getD k 0))) s5:=rfl
         have g1:=z7 (Φ:=Φ) (G:=T.gl) (env:=[some (.int (k:Int)),some (.lst (gs.map .int)),some (.int ((od+2:Nat):Int))]) (s:=s5) (yL (a:=.ix (.var 1) (.var 0)) (b:=.lit (.int 0)) (ui (zB rfl) (zB rfl) ik) zW hgt) zX
         have g2:=z7 (Φ:=Φ) (G:=T.gl) (env:=[some (.int (k:Int)),some (.lst (gs.map .int)),some (.int ((od+2:Nat):Int))]) (s:=s5) (yL (a:=.bin false .mod (.var 0) (.var 2)) (b:=.lit (.int 0)) (yP (zB rfl) (zB rfl) hm1) zW eq_int) zX
         cases hb1:decide (0<gs.getD k 0) with
         |true=>
          rw[hb1]at g1
          exact lQ (VZ g1) (ui (zB rfl) zW i0)
         |false=>
          rw[hb1]at g1
          cases hb2:decide (((k%(od+2):Nat):Int)=0) with
          |true=>
           rw[hb2]at g2
           exact lQ (iS g1 (ef g2)) (ui (zB rfl) zW i0)
          |false=>
           rw[hb2]at g2
           exact dG (iS g1 (vd g2 rZ)) (ui (zB rfl) (zB rfl) ik)
       . obtain⟨k,hk,rfl⟩:=As.mp hx
         have hk':=Ax.mp hk
         split
         . exact memD gs 0 hgl (by omega) hgs
         . exact memD gs k hgl hk' hgs
     . rintro e s6 ⟨rfl,gs,rfl,hgl,hgs⟩
       refine y7 (zr (zA (zB rfl) zD) (show blt .tuple false [.lst (gs.map .int)] s6=.ok (tpI gs) s6 from rfl)) ?_
       show (yF false s (tpI gs) s6).post _
       rw[mM T4 (v7 gs)]
       exact zC.mpr ⟨gs,rfl,⟨by omega,hgs⟩,by omega,T4⟩
end
end M
end
section
namespace M
open PySem Hd
noncomputable def uM(h:Heap):KF:=(Ak h.objs.size).filterMap fun a=>(h.get? a).map fun o=>(a,o)
theorem sD{g:Addr→Option Obj}{a:Addr}:∀{l:List Addr},a∈l→(l.filterMap fun b=>(g b).map fun o=>(b,o)).lookup a=g a
 |b::r,hm=>by
  rw[A2]
  by_cases e:a=b
  . subst e
    cases hg:g a with
    |none=>
     show (r.filterMap _).lookup a=none
     by_cases m:a∈r
     . rw[sD m,hg]
     . exact List.lookup_eq_none_iff.mpr fun p hp=>by
        obtain⟨c,hc,e⟩:=Er.mp hp
        obtain⟨o,_,rfl⟩:=AX.mp e
        have z:a≠c:=fun z=>m (by rw[z];exact hc)
        simpa using z
    |some o=>show (List.lookup a ((a,o)::_))=_;rw[AK,beq_self_eq_true]
  . have m:a∈r:=(AF.mp hm).resolve_left e
    cases hg:g b with
    |none=>exact sD m
    |some o=>
     show (List.lookup a ((b,o)::_))=_
     rw[AK,beq_false_of_ne e]
     exact sD m
theorem y2{h:Heap}{a:Addr}(o:Obj)(e:h.get? a=some o):(uM h).lookup a=some o:=by
 rw[←e]
 exact sD (Ax.mpr (Au e))
theorem gI{h:Heap}:(uM h).In h:=fun a o e=>by
 obtain⟨c,_,e⟩:=Er.mp (su e)
 obtain⟨o',e1,e2⟩:=AX.mp e
 cases e2
 exact e1
theorem rF{h:Heap}{x:Str}{v:Option Value}(e:nsH h x=some v):BQ (uM h) A9 x=some v:=by
 unfold nsH at e
 split at e
 . rename_i o ho
   unfold BQ at e ⊢
   rw[y2 o ho]
   exact e
 . cases e
theorem hV{h:Heap}{cd:Value}{x:Str}(e:hU h cd x=true):Dr (uM h) cd x=true:=by
 unfold hU at e
 split at e
 . split at e
   . rename_i c o ho
     unfold Dr at e ⊢
     dsimp only at e ⊢
     rw[AK,beq_self_eq_true]at e
     rw[y2 o ho]
     exact e
   . cases e
 . cases e
theorem args_eq(st:Stmt):args st=L2.we st∧body st=L2.xO st∧scope st=L2.zk st:=by cases st<;>exact⟨rfl,rfl,rfl⟩
theorem ZT{h:Heap}{p:Str × Stmt}(e:cu h p.1=aN p):oJ (uM h) p.1 p.2:=by
 obtain⟨a1,a2,a3⟩:=args_eq p.2
 unfold aN at e
 rw[a1,a2,a3]at e
 unfold cu at e
 split at e
 . rename_i f hf
   split at e
   . rename_i oc od fd osl ho
     split at e
     . rename_i hc
       have e':=AO e
       obtain⟨n,q,ps,b,sc,g,cl,df,kw,dc,pm,an,cd,ct,bl⟩:=fd
       injection e' with e1 e2 e3 e4 e5 e6 e7 e8 _ _ _ _ _ _ e9
       subst e1 e2 e3 e4 e5 e6 e7 e8 e9
       exact ZS (rF hf) (y2 _ ho) (hV hc) (by unfold Dt;dsimp only;rw[y2 _ ho])
     . cases e
   . cases e
 . cases e
noncomputable def gv:G→Val
 |.int i=>.int i
 |.str x=>.str x
 |.ctup ns=>.ctup ns
theorem X8{h:Heap}{x:Str}{v:G}(e:glB h x v=true):kj (uM h) x (gv v):=by
 cases v with
 |int i=>
  unfold glB at e;dsimp only at e
  split at e
  . rename_i hn;have:=of_decide_eq_true e;subst this;exact int_mk (rF hn)
  . cases e
 |str y=>
  unfold glB at e;dsimp only at e
  split at e
  . rename_i hn;have:=of_decide_eq_true e;subst this;exact str_mk (rF hn)
  . cases e
 |ctup ns=>
  unfold glB at e;dsimp only at e
  split at e
  . rename_i hn
    split at e
    . rename_i n od us k sl ho
      obtain⟨e1,e3⟩:=Ea.mp e
      obtain⟨e1,e2⟩:=Ea.mp e1
      have:=of_decide_eq_true e1;subst this
      exact da (us:=us.toList) (rF hn) (y2 _ ho) (of_decide_eq_true e2) (of_decide_eq_true e3)
    . cases e
  . cases e
theorem Xv{h:Heap}{x:Str}(e:blB h x=true):BQ (uM h) A9 x=some none:=by
 unfold blB at e
 split at e
 . rename_i hn;exact rF hn
 . cases e
def ZI(D:List (Str × Stmt))(glL:List (Str × Val))(K:KF)(h:Heap):Prop:=K.In h∧(∀p∈D,oJ K p.1 p.2)∧(∀p∈glL,kj K p.1 p.2)∧∀x∈wQ,BQ K A9 x=some none
theorem lz{h:Heap}:∀{D:List (Str × Stmt)},(D.map fun p=>cu h p.1)=D.map aN→∀p∈D,oJ (uM h) p.1 p.2
 |p::D,e,q,hq=>by
  rw[AA,AA]at e
  obtain⟨e1,e2⟩:=G9 e
  rcases AF.mp hq with rfl|hq
  . exact ZT e1
  . exact lz e2 q hq
theorem b7{D:List (Str × Stmt)}{gl:List (Str × G)}{s:Shared}(e:YT D gl s=Xd D):∃K,ZI D (gl.map fun p=>(p.1,gv p.2)) K s.heap:=by
 obtain⟨e1,e2⟩:=Prod.mk.inj e
 obtain⟨e2,e3⟩:=Ea.mp e2
 exact⟨uM s.heap,gI,lz e1,fun p hp=>(by obtain⟨p',h1,rfl⟩:=As.mp hp;exact X8 (Bz.mp e2 p' h1)),fun x hx=>Xv (Bz.mp e3 x hx)⟩
theorem close{l:GH}{q:Program}{d:DefRec}{fnL:List ((Str × Nat) × Fn)}{glL:List (Str × Val)}{gl:List (Str × G)}{D:List (Str × Stmt)}{F:Fn}{n N:Nat}{x:Str}
 (XG:l.wellSaid=true) (left:PySem.W.LeftO l.row.prog q [] (fun s=>G5 l.row.records s) (YT D gl) (fun _=>Xd D) N) (hgl:glL=gl.map fun p=>(p.1,gv p.2))
 (Zc:PySem.W.defOf q l.row.name=some (d,[])) (hp:l.row.prog.theDef l.row.name=some (d.params,d.body,d.scope)) (hk:PySem.W.kwWritten? d.params.kwonlyargs d.params.kw_defaults=some [])
 (hwr:(!l.row.writes||l.row.records.isEmpty)=true) (ok:(PySem.W.chainsOk q&&PySem.W.opensWell l.row.prog&&(PySem.W.frees l.row.toRowW&&l.row.within.isEmpty))=true) (hb:l.row.prog.bare) (hw:l.row.toRowW.promised)
 (hn:l.most=some 63) (hdf:d.params.defaults=[]) (hr:L2.yp n callerA) (hF:(tbl fnL glL).fn d.name 0=some F) (hx:F.ps=[x]) (hc:kc fnL D=true)
 (HL:∀ns:List Int,ns.length≤63→∃s',zF (tbl fnL glL) n d.name 0 [.scr ns] []=.ok (.bool true) s'):l.Holds:=by
 refine PySem.W.holds_law XG fun said'=>PySem.W.holds_open (q:=q) (loose:=[]) (Xt:=fun s=>G5 l.row.records s) (XP:=fun _ _=>True) (YP:=fun _ h=>∃K,ZI D glL K h) left (fun w s e=>hgl▸b7 e)
  (fun w h h' ⟨K,a,b⟩ k=>⟨K,a.keeps k,b⟩) (fun _ _=>trivial) (fun _ _ _ _ _=>trivial) Zc hp hk (fun s e=>PySem.W.recFacts_of e) hwr said' ok hb hw ?_
 intro w s₀ s₁ mg mb G ⟨K,Y⟩
 exact walk (l:=l) (q:=q) (loose:=[]) (XP:=fun _ _=>True) (YP:=fun _ h=>ZI D glL K h) (d:=d) (K:=fun _=>K) (T:=tbl fnL glL) hn hdf hr (fun _ _ y=>y.1) hF hx (fun w mg h X g=>XW X g Y.2.1 Y.2.2.1 Y.2.2.2 hc) HL w s₀ s₁ mg mb G Y
end M
end
section
namespace P08
open PySem M
noncomputable def zy:Fn:=F.zy
noncomputable def yZ:Fn:=F.yZ
noncomputable def zh:Fn:=F08.zh
noncomputable def yB:Fn:=F.yB
noncomputable def ye:Fn:=F08.ye
noncomputable def zi:Fn:=F08.zi
noncomputable def yf:Fn:=F08.yf
noncomputable def yg:Fn:=F.yg
noncomputable def xC:Fn:=F14.xC
noncomputable def yt:Fn:=F14.yt
noncomputable def yQ:Fn:=F08.yQ
noncomputable def yh:Fn:=F.yh
noncomputable def xD:Fn:=F14.xD
noncomputable def xE:Fn:=F.xE
noncomputable def xF:Fn:=F.xF
noncomputable def wO:Fn:=F08.wO
noncomputable def qK:Fn:=⟨["_law_script","_law_k","_law_pen_here","_law_size","_law_first","_law_step","_law_left","_law_order","_law_strip_here","_law_other","_law_some","_law_spots","_law_place"],["_law_script"],false,(.cons (.forS (.nm 1) (.range1 (.blt .max false (.cons (.lit (.int 1)) (.cons (.blt .min false (.cons (.blt .len false (.cons (.var 0) .nil)) (.cons (.lit (.int 4)) .nil))) .nil)))) (.cons (.asg 2 (.call "_law_pen" 1 (.cons (.call "_law_cell_at" 0 (.cons (.var 0) (.cons (.var 1) .nil))) .nil))) (.cons (.par [3,4,5] (.cons (.bin false .add (.lit (.int 2)) (.call "_law_draw" 0 (.cons (.var 2) (.cons (.lit (.int 7)) .nil)))) (.cons (.call "_law_draw" 0 (.cons (.var 2) (.cons (.lit (.int 9)) .nil))) (.cons (.bin false .add (.lit (.int 1)) (.call "_law_draw" 0 (.cons (.var 2) (.cons (.lit (.int 5)) .nil)))) .nil)))) (.cons (.asg 6 (.lst true (.cons (.lit (.int 0)) (.cons (.lit (.int 1)) (.cons (.lit (.int 2)) (.cons (.lit (.int 3)) .nil)))))) (.cons (.asg 7 (.blt .tuple false (.cons (.comp false ["_law_turn","_law_left","_law_pen_here"] [none,some 6,some 2] (.yb .pop false (.var 1) (.cons (.call "_law_draw" 0 (.cons (.var 2) (.cons (.blt .len false (.cons (.var 1) .nil)) .nil))) .nil)) (.nm 0) (.range1 (.lit (.int 4))) .nil) .nil))) (.cons (.par [8,9] (.cons (.call "_law_strip" 0 (.cons (.var 2) (.cons (.lit (.int 40)) (.cons (.bin false .add (.lit (.int 1)) (.call "_law_draw" 0 (.cons (.var 2) (.cons (.lit (.int 4)) .nil)))) .nil)))) (.cons (.call "_law_strip" 0 (.cons (.var 2) (.cons (.lit (.int 12)) (.cons (.lit (.int 2)) .nil)))) .nil))) (.cons (.ifS (.or (.not (.val (.call "_law_turned_right" 0 (.cons (.var 8) (.cons (.var 7) (.cons (.var 3) .nil)))))) (.cons (.not (.val (.call "_law_joined_right" 0 (.cons (.sl false (.var 8) .no (.yes (.lit (.int 28))) .no) (.cons (.var 9) (.cons (.var 3) .nil)))))) .nil)) (.cons (.ret (.lit (.bool false))) .nil) .nil) (.cons (.ifS (.or (.val (.cmp .gt (.call "longest" 0 (.cons (.call "thinned" 0 (.cons (.var 8) (.cons (.var 4) (.cons (.var 5) .nil)))) .nil)) (.call "longest" 0 (.cons (.var 8) .nil)))) (.cons (.val (.cmp .ne (.call "longest" 0 (.cons (.call "backward" 0 (.cons (.var 8) .nil)) .nil)) (.call "longest" 0 (.cons (.var 8) .nil)))) .nil)) (.cons (.ret (.lit (.bool false))) .nil) .nil) (.cons (.ifS (.and (.val (.cmp .isNot (.call "first_whole" 0 (.cons (.var 8) (.cons (.var 3) .nil))) (.lit .none))) (.cons (.val (.cmp .lt (.call "longest" 0 (.cons (.var 8) .nil)) (.var 3))) .nil)) (.cons (.ret (.lit (.bool false))) .nil) .nil) (.cons (.ifS (.and (.val (.cmp .is (.call "first_whole" 0 (.cons (.var 8) (.cons (.var 3) .nil))) (.lit .none))) (.cons (.val (.cmp .ge (.call "longest" 0 (.cons (.var 8) .nil)) (.var 3))) .nil)) (.cons (.ret (.lit (.bool false))) .nil) .nil) (.cons (.asg 10 (.sl false (.var 8) .no (.yes (.lit (.int 16))) .no)) (.cons (.asg 11 (.lst false .nil)) (.cons (.forS (.nm 12) (.range1 (.blt .len false (.cons (.var 10) .nil))) (.cons (.asg 11 (.bin false .add (.var 11) (.call "rows_at" 0 (.cons (.blt .len false (.cons (.var 10) .nil)) (.cons (.var 3) (.cons (.var 12) .nil)))))) .nil)) (.cons (.ifS (.val (.cmp .ne (.blt .len false (.cons (.var 11) .nil)) (.bin false .mul (.var 3) (.blt .len false (.cons (.call "rows_in" 0 (.cons (.blt .len false (.cons (.var 10) .nil)) (.cons (.var 3) .nil))) .nil))))) (.cons (.ret (.lit (.bool false))) .nil) .nil) (.cons (.ifS (.not (.val (.blt .all false (.cons (.comp false ["_law_one","_law_far","_law_some","_law_size"] [none,none,some 10,some 3] (.cmp .lt (.blt .max false (.cons (.call "places_of" 0 (.cons (.var 0) (.cons (.var 1) (.cons (.var 3) .nil)))) .nil)) (.blt .len false (.cons (.var 2) .nil))) (.nms [0,1]) (.val (.var 11)) .nil) .nil)))) (.cons (.ret (.lit (.bool false))) .nil) .nil) .nil))))))))))))))) (.cons (.ret (.lit (.bool true))) .nil))⟩
noncomputable def xn:Fn:=F08.xn
noncomputable def yu:Fn:=F.yu
noncomputable def yi:Fn:=F14.yi
noncomputable def yR:Fn:=F.yR
noncomputable def yv:Fn:=F.yv
noncomputable def yw:Fn:=F14.yw
noncomputable def yj:Fn:=F.yj
noncomputable def yk:Fn:=F.yk
noncomputable def yx:Fn:=F08.yx
noncomputable def xp:Fn:=F.xp
noncomputable def xq:Fn:=F75.xq
noncomputable def xr:Fn:=F14.xr
noncomputable def xG:Fn:=F08.xG
noncomputable def yl:Fn:=F08.yl
noncomputable def fnL:List ((Str × Nat) × Fn):=((("_law_cell_at":Str),(0:Nat)),zy)::((("_law_draw":Str),(0:Nat)),yZ)::((("_law_joined_right":Str),(0:Nat)),zh)::((("_law_pen":Str),(1:Nat)),yB)::((("_law_strip":Str),(0:Nat)),ye)::((("_law_turned_right":Str),(0:Nat)),zi)::((("alike_from":Str),(0:Nat)),yf)::((("are_wholes":Str),(0:Nat)),yg)::((("backward":Str),(0:Nat)),xC)::((("exchanged":Str),(0:Nat)),yt)::((("first_whole":Str),(0:Nat)),yQ)::((("is_one_hue":Str),(0:Nat)),yh)::((("is_order":Str),(0:Nat)),xD)::((("is_strip":Str),(0:Nat)),xE)::((("is_whole":Str),(0:Nat)),xF)::((("joined":Str),(0:Nat)),wO)::((("law":Str),(0:Nat)),qK)::((("longest":Str),(0:Nat)),xn)::((("most_step":Str),(0:Nat)),yu)::((("need_first":Str),(0:Nat)),yi)::((("need_length":Str),(0:Nat)),yR)::((("need_size":Str),(0:Nat)),yv)::((("need_step":Str),(0:Nat)),yw)::((("need_strip":Str),(0:Nat)),yj)::((("need_whole":Str),(0:Nat)),yk)::((("places_of":Str),(0:Nat)),yx)::((("rows_at":Str),(0:Nat)),xp)::((("rows_in":Str),(0:Nat)),xq)::((("thinned":Str),(0:Nat)),xr)::((("whole_by":Str),(0:Nat)),xG)::((("whole_rows":Str),(0:Nat)),yl)::[]
noncomputable def glL:List (Str × Val):=[("MOST_PLACES",.int 40),("LEAST_SIZE",.int 2),("MOST_SIZE",.int 8),("HUES",.ctup [0,1,2,3])]
noncomputable def T:Tbl:=tbl fnL glL
set_option maxHeartbeats 0 in
theorem XU:kc fnL D=true:=by decide +kernel
end P08
end
section
namespace P08
open PySem M
structure Cs(Φ:Calls):Prop where
 cell:aU Φ
 pen:Xk Φ
 draw:lR Φ
 strip:lT Φ
 turned:lU Φ
 joined:lS Φ
 thin:ig Φ
 back:nv Φ
 long:aW Φ
 first:oI Φ
 at_:CAt Φ
 rows:qy Φ
 places:qJ Φ
theorem tw{T:Tbl}{Φ:Calls}{s:Sto}(g:Gl4 T)(c:xw Φ){i:Int}(h1:0≤i)(h2:i≤40):run T Φ F.yR [.int i] s=.ok .none s:=by
 rw[post_eq]
 simp[F.yR,EVl,zm,zT,g.mp,c i 0 40 s h1 h2]
theorem qB{T:Tbl}{Φ:Calls}{s:Sto}(g:Gl4 T)(c:xw Φ){i:Int}(h1:2≤i)(h2:i≤8):run T Φ F.yv [.int i] s=.ok .none s:=by
 rw[post_eq]
 simp[F.yv,EVl,zm,zT,g.ls,g.ms,c i 2 8 s h1 h2]
theorem mQ{f d z n:Nat}(hz:2≤z)(hl:f+d*(z-1)<n){s:Sto}:∃m:Nat,m<n∧blt .max false [tpI (xQ f d z)] s=.ok (.int m) s:=by
 have hne:xQ f d z≠[]:=by
  unfold xQ
  intro h
  have:=congrArg DL h
  rw[Ag,AV]at this
  simp at this
  omega
 obtain⟨h1,_⟩:=L2.wo (d:=0) hne
 have h2:=h1
 unfold xQ at h2
 obtain⟨k,hk,e⟩:=As.mp h2
 have hk':=Ax.mp hk
 have:k*d≤d*(z-1):=by rw[BU];exact B6 _ (by omega)
 refine⟨f+k*d,by omega,?_⟩
 show (match M.intsOf ((xQ f d z).map .int) with|some ns=>if ns≠[] then Out.ok (Val.int (L2.yy 0 ns)) s else .stuck|Ad=>.stuck)=_
 rw[sC]
 show (if xQ f d z≠[] then Out.ok (Val.int (L2.yy 0 (xQ f d z))) s else .stuck)=_
 rw[if_pos hne,show L2.yy 0 (xQ f d z)=((f+k*d:Nat):Int) from e.symm]
theorem iq{a b:List (Nat × Nat)}{s:Sto}(h:a.length+b.length≤zQ):binOp false .add (.lst (a.map zN)) (.lst (b.map zN)) s=.ok (.lst ((a++b).map zN)) s:=by
 rw[dN (by rw[Ag,Ag];exact h),B8]
section
variable {Φ:Calls}{s:Sto}
theorem g9(c:Cs Φ)(ns:List Int):(run T Φ qK [.scr ns] []).post fun v _=>v=.bool true:=by
 rw[qK,yo]
 refine⟨rfl,?_⟩
 show (zR Φ T.gl [some (.scr ns),none,none,none,none,none,none,none,none,none,none,none,none] _ []).post _
 refine yE.mpr (mh (fun rest e s'=>(∃o1 o2 o3 o4 o5 o6 o7 o8 o9 o10 o11 o12,e=[some (.scr ns),o1,o2,o3,o4,o5,o6,o7,o8,o9,o10,o11,o12])∧∀x∈rest,∃k:Nat,x=.int k) (z9 0 (max 1 (min ns.length 4))) (s1:=[]) (gF (K:=4) rfl (by omega)) ⟨⟨_,_,_,_,_,_,_,_,_,_,_,_,rfl⟩,?_⟩ ?_ ?_)
 . intro x hx
   obtain⟨k,_,rfl⟩:=wG hx
   exact⟨k,by congr 1;omega⟩
 . rintro x rest e s' ⟨⟨o1,o2,o3,o4,o5,o6,o7,o8,o9,o10,o11,o12,rfl⟩,hr⟩
   obtain⟨k,rfl⟩:=hr x (.head _)
   have hr':∀x∈rest,∃k:Nat,x=.int k:=fun x hx=>hr x (.tail _ hx)
   refine⟨_,rfl,?_⟩
   obtain⟨cv,hcell⟩:=c.cell ns k s'
   obtain⟨a,b,hpen,hb⟩:=c.pen cv s'
   show (zR Φ T.gl [some (.scr ns),some (.int k),o2,o3,o4,o5,o6,o7,o8,o9,o10,o11,o12] _ s').post _
   refine xB (x_call (zA (x_call (zA (zB rfl) (zA (zB rfl) zD)) hcell) zD) hpen) ?_
   have hP:wF (s'++[vf a b]) s'.length:=⟨a,b,by simp,hb⟩
   generalize s'++[vf a b]=s1 at hP
   generalize s'.length=p at hP
   refine yE.mpr (kQ.mpr (xM.mpr (nJ.mpr (nK.mpr (xP (zA (zB rfl) (zA zW zD)) (zJ (c.draw p 7 s1 hP (by omega) (by omega)) ?_))))))
   rintro v s2 ⟨z,rfl,hz7,t2⟩
   have hP2:=t2.at_ hP.lt
   rw[ve,show (2:Int)+(z:Int)=((z+2:Nat):Int) by omega]
   refine zC.mpr (xM.mpr (xP (zA (zB rfl) (zA zW zD)) (zJ (c.draw p 9 s2 hP2 (by omega) (by omega)) ?_)))
   rintro v s3 ⟨f,rfl,hf,t3⟩
   have hP3:=t3.at_ hP2.lt
   refine xM.mpr (nJ.mpr (nK.mpr (xP (zA (zB rfl) (zA zW zD)) (zJ (c.draw p 5 s3 hP3 (by omega) (by omega)) ?_))))
   rintro v s4 ⟨d,rfl,hd,t4⟩
   have hP4:=t4.at_ hP3.lt
   rw[ve,show (1:Int)+(d:Int)=((d+1:Nat):Int) by omega]
   refine zC.mpr (rH.mpr (p4 rfl ?_))
   obtain⟨Z,hZe,hz2,hz8⟩:∃Z:Nat,z+2=Z∧2≤Z∧Z≤8:=⟨_,rfl,by omega,by omega⟩
   rw[hZe]
   show (zR Φ T.gl [some (.scr ns),some (.int k),some (.ref p),some (.int Z),some (.int f),some (.int (d+1:Nat)),o6,o7,o8,o9,o10,o11,o12] _ s4).post _
   refine xB (Xi (zA zW (zA zW (zA zW (zA zW zD)))) (show 4≤zQ by decide)) ?_
   show (zR Φ T.gl [some (.scr ns),some (.int k),some (.ref p),some (.int Z),some (.int f),some (.int (d+1:Nat)),some (.ref s4.length),o7,o8,o9,o10,o11,o12] _ _).post _
   have hP5:wF (s4++[.lst [.int 0,.int 1,.int 2,.int 3]]) p:=by
    obtain⟨a,b,e,hb⟩:=hP4
    exact⟨a,b,by rw[AQ (Ap.mp e).1];exact e,hb⟩
   refine lA (bI c.draw (k:=4) (p:=p) (q:=s4.length) (vG (k:=4) zW (by decide)) (by omega) rfl hP5 (Fh hP4.lt) (by rw[AW (Ai _),Nat.sub_self];rfl) fun os s5 hp hP6=>?_)
   show (zR Φ T.gl [some (.scr ns),some (.int k),some (.ref p),some (.int Z),some (.int f),some (.int (d+1:Nat)),some (.ref s4.length),some (tpI (z5 os)),o8,o9,o10,o11,o12] _ s5).post _
   refine yE.mpr (kQ.mpr (xM.mpr (fN.mpr (kP (zB rfl) (kP zW (xM.mpr (nJ.mpr (nK.mpr (xP (zA (zB rfl) (zA zW zD)) (zJ (c.draw p 4 s5 hP6 (by omega) (by omega)) ?_))))))))))
   rintro v s6 ⟨h,rfl,hh,t6⟩
   have hP7:=t6.at_ hP6.lt
   rw[ve,show (1:Int)+(h:Int)=((h+1:Nat):Int) by omega]
   refine zC.mpr (rH.mpr (zJ (c.strip p 40 (h+1) s6 hP7 (by omega) (by omega) (by omega)) ?_))
   rintro v s7 ⟨A,rfl,hA,_,t7⟩
   have hP8:=t7.at_ hP7.lt
   refine xM.mpr (xP (zA (zB rfl) (zA zW (zA zW zD))) (zJ (c.strip p 12 2 s7 hP8 (by omega) (by omega) (by omega)) ?_))
   rintro v s8 ⟨B,rfl,hB,hB12,t8⟩
   refine rH.mpr (p4 rfl ?_)
   show (zR Φ T.gl [some (.scr ns),some (.int k),some (.ref p),some (.int Z),some (.int f),some (.int (d+1:Nat)),some (.ref s4.length),some (tpI (z5 os)),some (tpI A),some (tpI B),o10,o11,o12] _ s8).post _
   have hA40:=hA.1
   obtain⟨ts,q1,q2,q3⟩:=ee (ns:=A) (f:=f) (d:=d+1) (by omega) (by omega) (by omega) (by omega)
   have hT:=lH hA q1 q2
   refine wI (iS (qt (z7 (x_call (zA (zB rfl) (zA (zB rfl) (zA (zB rfl) zD))) (c.turned A os Z s8 hA hp hz2 hz8)) zX)) (vd (qt (z7 (x_call (zA (aT (zB rfl) mU (nG zW) mU (show wA false (tpI A) none (some ((28:Nat):Int)) none s8=_ from qV)) (zA (zB rfl) (zA (zB rfl) zD))) (c.joined (A.take 28) B Z s8 (lG hA) hB (by rw[Bn];omega) hz2 hz8)) zX)) rZ)) ?_
   have hgt:zM .gt (.int (y9 ts)) (.int (y9 A)) s8=.ok (.bool false) s8:=by
    show Out.ok (Val.bool (decide (y9 A<y9 ts))) s8=_
    have:=fE (by omega) q1
    rw[decide_eq_false (by omega)]
   have hne:zM .ne (.int (y9 A.reverse)) (.int (y9 A)) s8=.ok (.bool false) s8:=by rw[ne_int,cg,decide_eq_true rfl];rfl
   refine wI (iS (z7 (yL (x_call (zA (x_call (zA (zB rfl) (zA (zB rfl) (zA (zB rfl) zD))) (c.thin A ts f (d+1) s8 hA (by omega) (by omega) (by omega) q3)) zD) (c.long ts s8 hT)) (x_call (zA (zB rfl) zD) (c.long A s8 hA)) hgt) zX) (vd (z7 (yL (x_call (zA (x_call (zA (zB rfl) zD) (c.back A s8 hA)) zD) (c.long A.reverse s8 (vX hA))) (x_call (zA (zB rfl) zD) (c.long A s8 hA)) hne) zX) rZ)) ?_
   have fw:∃b:Bool,(fwV A Z).isN=b∧(b=true↔¬((Z:Int)≤y9 A)):=by
    refine⟨_,rfl,?_⟩
    rw[←aR hz2]
    unfold fwV
    cases whL A Z with
    |nil=>simp[Val.isN]
    |cons r rs=>simp[Val.isN,zN]
   obtain⟨nb,hnb,hnb2⟩:=fw
   have hisn:zM .isNot (fwV A Z) .none s8=.ok (.bool !nb) s8:=by
    show Out.ok (Val.bool (!(fwV A Z).isN)) s8=_
    rw[hnb]
   have his:zM .is (fwV A Z) .none s8=.ok (.bool nb) s8:=by
    show Out.ok (Val.bool (fwV A Z).isN) s8=_
    rw[hnb]
   have hlt:zM .lt (.int (y9 A)) (.int (Z:Int)) s8=.ok (.bool nb) s8:=by
    show Out.ok (Val.bool (decide (y9 A<(Z:Int)))) s8=_
    congr 2
    rw[BD,decide_eq_true_eq,hnb2];omega
   have hge:zM .ge (.int (y9 A)) (.int (Z:Int)) s8=.ok (.bool !nb) s8:=by
    show Out.ok (Val.bool (decide ((Z:Int)≤y9 A))) s8=_
    congr 2
    cases nb with
    |true=>exact decide_eq_false (hnb2.mp rfl)
    |false=>exact decide_eq_true (Decidable.byContradiction fun h=>by have:=hnb2.mpr h;cases this)
   have k1:=lF (a:=!nb) (b:=nb) (z7 (Φ:=Φ) (G:=T.gl) (env:=[some (.scr ns),some (.int k),some (.ref p),some (.int Z),some (.int f),some (.int (d+1:Nat)),some (.ref s4.length),some (tpI (z5 os)),some (tpI A),some (tpI B),o10,o11,o12]) (s:=s8) (yL (a:=.call "first_whole" 0 (.cons (.var 8) (.cons (.var 3) .nil))) (b:=.lit .none) (x_call (zA (zB rfl) (zA (zB rfl) zD)) (c.first A Z s8 hA hz2 hz8)) zW hisn) zX) (z7 (yL (a:=.call "longest" 0 (.cons (.var 8) .nil)) (b:=.var 3) (x_call (zA (zB rfl) zD) (c.long A s8 hA)) (zB rfl) hlt) zX)
   have k2:=lF (a:=nb) (b:=!nb) (z7 (Φ:=Φ) (G:=T.gl) (env:=[some (.scr ns),some (.int k),some (.ref p),some (.int Z),some (.int f),some (.int (d+1:Nat)),some (.ref s4.length),some (tpI (z5 os)),some (tpI A),some (tpI B),o10,o11,o12]) (s:=s8) (yL (a:=.call "first_whole" 0 (.cons (.var 8) (.cons (.var 3) .nil))) (b:=.lit .none) (x_call (zA (zB rfl) (zA (zB rfl) zD)) (c.first A Z s8 hA hz2 hz8)) zW his) zX) (z7 (yL (a:=.call "longest" 0 (.cons (.var 8) .nil)) (b:=.var 3) (x_call (zA (zB rfl) zD) (c.long A s8 hA)) (zB rfl) hge) zX)
   rw[Bool.not_and_self]at k1
   rw[Bool.and_not_self]at k2
   refine wI k1 (wI k2 ?_)
   refine xB (aT (zB rfl) mU (nG zW) mU (show wA false (tpI A) none (some ((16:Nat):Int)) none s8=_ from qV)) (xB (Vf zD (Bp _)) ?_)
   have hSl:(A.take 16).length≤16:=by rw[Bn];omega
   generalize A.take 16=S at hSl
   generalize hn:S.length=n at hSl
   show (zR Φ T.gl [some (.scr ns),some (.int k),some (.ref p),some (.int Z),some (.int f),some (.int (d+1:Nat)),some (.ref s4.length),some (tpI (z5 os)),some (tpI A),some (tpI B),some (tpI S),some (.lst []),o12] _ s8).post _
   have hlen:blt .len false [tpI S] s8=.ok (.int n) s8:=by rw[uQ,Ag,hn]
   have hatl:∀q,(atP n Z q).length≤800:=fun q=>AB (List.length_filter_le _ _) (eI (by omega))
   refine yE.mpr (mh (fun rest e s'=>s'=s8∧(∃o12 done todo,e=[some (.scr ns),some (.int k),some (.ref p),some (.int Z),some (.int f),some (.int (d+1:Nat)),some (.ref s4.length),some (tpI (z5 os)),some (tpI A),some (tpI B),some (tpI S),some (.lst ((done.flatMap fun q=>atP n Z q).map zN)),o12]∧done++todo=Ak n∧rest=todo.map (fun(q:Nat)=>Val.int q)∧(done.flatMap fun q=>atP n Z q).length≤done.length*800)) (z9 0 n) (s1:=s8) (vG (zr (zA (zB rfl) zD) hlen) (by unfold zQ;omega)) ⟨rfl,_,[],Ak n,rfl,rfl,?_,Bp _⟩ ?_ ?_)
   . unfold z9
     exact BN fun q _=>by rw[CJ]
   . rintro x rest2 e s9 ⟨rfl,o12,done,todo,rfl,hdt,hrs,hdl⟩
     cases todo with
     |nil=>cases hrs
     |cons q todo=>
      rw[AA]at hrs
      obtain⟨rfl,rfl⟩:=G9 hrs
      have hq:q<n:=Ax.mp (by rw[←hdt];exact Bh _ (.head _))
      have hdn:done.length≤n:=by
       have:=congrArg DL hdt
       rw[Aw,AV]at this
       omega
      refine⟨_,rfl,?_⟩
      show (zR Φ T.gl [some (.scr ns),some (.int k),some (.ref p),some (.int Z),some (.int f),some (.int (d+1:Nat)),some (.ref s4.length),some (tpI (z5 os)),some (tpI A),some (tpI B),some (tpI S),some (.lst ((done.flatMap fun q=>atP n Z q).map zN)),some (.int (q:Int))] _ s9).post _
      have h1:=hatl q
      have h2:done.length*800≤16*800:=Ck _ (by omega)
      refine xB (yP (zB rfl) (x_call (zA (zr (zA (zB rfl) zD) hlen) (zA (zB rfl) (zA (zB rfl) zD))) (c.at_ n Z q s9 (by omega) hz2 hz8 hq)) (iq (by unfold zQ;omega))) (tX ⟨rfl,some (.int (q:Int)),done++[q],todo,?_,by rw[Ar];exact hdt,rfl,?_⟩)
      . rw[DC,CN,List.flatMap_nil,AZ];rfl
      . rw[DC,CN,List.flatMap_nil,AZ,Aw,Aw,Ff,C6]
        omega
   . rintro e s9 ⟨rfl,o12,done,todo,rfl,hdt,hrs,hdl⟩
     obtain rfl:todo=[]:=List.map_eq_nil_iff.mp hrs.symm
     rw[AZ]at hdt
     subst hdt
     have hall:=ZK (n:=n) hz2
     have hmem:∀r∈(Ak n).flatMap (fun q=>atP n Z q),r∈z8 n Z:=fun r hr=>by
      obtain⟨q,_,h⟩:=CZ.mp hr
      exact(B7.mp h).1
     generalize (Ak n).flatMap (fun q=>atP n Z q)=R at hall hmem
     have hll:blt .len false [.lst (R.map zN)] s9=.ok (.int ((Z*(z8 n Z).length:Nat):Int)) s9:=by rw[ae,Ag,hall]
     have hlr:blt .len false [.lst ((z8 n Z).map zN)] s9=.ok (.int ((z8 n Z).length:Int)) s9:=by rw[ae,Ag]
     have hmul:binOp false .mul (.int (Z:Int)) (.int ((z8 n Z).length:Int)) s9=.ok (.int ((Z*(z8 n Z).length:Nat):Int)) s9:=by rw[oR (by omega),BG]
     have hn0:zM .ne (.int ((Z*(z8 n Z).length:Nat):Int)) (.int ((Z*(z8 n Z).length:Nat):Int)) s9=.ok (.bool false) s9:=by rw[ne_int,decide_eq_true rfl];rfl
     refine wI (z7 (yL (zr (zA (zB rfl) zD) hll) (yP (zB rfl) (zr (zA (x_call (zA (zr (zA (zB rfl) zD) hlen) (zA (zB rfl) zD)) (c.rows n Z s9 (by omega) hz2 hz8)) zD) hlr) hmul) hn0) zX) ?_
     have hc:evE Φ T.gl [some (.scr ns),some (.int k),some (.ref p),some (.int Z),some (.int f),some (.int (d+1:Nat)),some (.ref s4.length),some (tpI (z5 os)),some (tpI A),some (tpI B),some (tpI S),some (.lst (R.map zN)),o12] (.comp false ["_law_one","_law_far","_law_some","_law_size"] [none,none,some 10,some 3] (.cmp .lt (.blt .max false (.cons (.call "places_of" 0 (.cons (.var 0) (.cons (.var 1) (.cons (.var 3) .nil)))) .nil)) (.blt .len false (.cons (.var 2) .nil))) (.nms [0,1]) (.val (.var 11)) .nil) s9=.ok (.lst ((R.map zN).map fun _=>Val.bool true)) s9:=by
      rw[post_eq]
      refine xm (fun e=>∃o1 o2,e=[o1,o2,some (tpI S),some (.int Z)]) (fun _=>[.bool true]) (R.map zN) (s1:=s9) (wk (zB rfl) rfl) ⟨none,none,rfl⟩ ?_ ?_
      . rintro x hx e ⟨o1,o2,rfl⟩
        obtain⟨r,hr,rfl⟩:=As.mp hx
        obtain⟨h3,h4⟩:=(wY hz2).mp (show (r.1,r.2)∈z8 n Z from hmem r hr)
        have h5:r.2*1≤r.2*(Z-1):=B6 _ (by omega)
        obtain⟨m,hm,hmx⟩:=mQ (s:=s9) hz2 h4
        refine⟨_,rfl,⟨_,_,rfl⟩,yJ.mpr ⟨rfl,?_⟩⟩
        rw[if_pos rfl]
        show (evE Φ T.gl [some (.int (r.1:Nat)),some (.int (r.2:Nat)),some (tpI S),some (.int Z)] _ s9).post _
        have hlt2:zM .lt (.int (m:Int)) (.int (n:Int)) s9=.ok (.bool true) s9:=by
         show Out.ok (Val.bool (decide ((m:Int)<(n:Int)))) s9=_
         rw[decide_eq_true (by omega)]
        rw[yL (zr (zA (x_call (zA (zB rfl) (zA (zB rfl) (zA (zB rfl) zD))) (c.places r.1 r.2 Z s9 (by omega) h3 (by omega) hz2 hz8)) zD) hmx) (zr (zA (zB rfl) zD) hlen) hlt2]
        exact zC.mpr ⟨rfl,rfl⟩
      . rw[vk]
        exact zC.mpr ⟨rfl,rfl⟩
     exact wI (qt (z7 (zr (zA hc zD) qL) zX)) (tX ⟨⟨_,_,_,_,_,_,_,_,_,_,_,_,rfl⟩,hr'⟩)
 . rintro e s' ⟨⟨o1,o2,o3,o4,o5,o6,o7,o8,o9,o10,o11,o12,rfl⟩,hr⟩
   refine y7 zW ?_
   show (yF false [] (.bool true) s').post _
   rw[leave_top vV]
   exact zC.mpr rfl
end
theorem cs:At T 9 Cs:=fun n hn=>by
 obtain⟨n,rfl⟩:∃m,n=m+9:=⟨n-9,by omega⟩
 have g:Gl4 T:=⟨rfl,rfl,rfl,rfl⟩
 have whole:∀m,qz (zF T (m+1)):=fun m v l k s h=>by rw[zP (F:=F.xF) rfl];exact iN h
 have wholes:∀m,pA (zF T (m+2)):=fun m vs l k s h=>by rw[zP (F:=F.yg) rfl];exact m9 (whole m) h
 have needWhole:∀m,xw (zF T (m+2)):=fun m i l k s h1 h2=>by rw[zP (F:=F.yk) rfl];exact qC (whole m) h1 h2
 have needLength:∀m,w6 (zF T (m+3)):=fun m i s h1 h2=>by rw[zP (F:=F.yR) rfl];exact tw g (needWhole m) h1 h2
 have needSize:∀m,wN (zF T (m+3)):=fun m i s h1 h2=>by rw[zP (F:=F.yv) rfl];exact qB g (needWhole m) h1 h2
 have needFirst:∀m,vp (zF T (m+3)):=fun m i s h1 h2=>by rw[zP (F:=F14.yi) rfl];exact qA g (needWhole m) h1 h2
 have needStep:∀m,uk (zF T (m+3)):=fun m i s h1 h2=>by rw[zP (F:=F14.yw) rfl];exact p9 g (needWhole m) h1 h2
 have most:∀m,ic (zF T (m+1)):=fun m a b d s h1 h2 h3=>by rw[zP (F:=F.yu) rfl];exact eO h1 h2 h3
 have one:∀m,Xj (zF T (m+1)):=fun m a b d e s h1 h2 h3 h4=>by rw[zP (F:=F.yh) rfl];exact bx h1 h2 h3 h4
 have isStrip:∀m,uj (zF T (m+3)):=fun m ns s h=>by rw[zP (F:=F.xE) rfl];exact p8 g (wholes m) h
 have needStrip:∀m,yY (zF T (m+4)):=fun m ns s h=>by rw[zP (F:=F.yj) rfl];exact rN (isStrip m) h
 have order:∀m,ie (zF T (m+3)):=fun m hs s h=>by rw[zP (F:=F14.xD) rfl];exact iL g (wholes m) h
 have back:∀m,nv (zF T (m+5)):=fun m ns s h=>by rw[zP (F:=F14.xC) rfl];exact iJ (needStrip m) h
 have thin:∀m,ig (zF T (m+5)):=fun m ns ts f d s h1 h2 h3 h4 h5=>by rw[zP (F:=F14.xr) rfl];exact iM (needStrip m) (needFirst (m+1)) (needStep (m+1)) h1 h2 h3 h4 h5
 have exch:∀m,iZ (zF T (m+5)):=fun m ns os s h1 h2=>by rw[zP (F:=F14.yt) rfl];exact iK (needStrip m) (order (m+1)) h1 h2
 have join:∀m,aV (zF T (m+5)):=fun m a b s h1 h2 h3=>by rw[zP (F:=F08.wO) rfl];exact eM g (needStrip m) h1 h2 h3
 have rows:∀m,qy (zF T (m+4)):=fun m a z s h1 h2 h3=>by rw[zP (F:=F75.xq) rfl];exact m7 (needLength m) (needSize m) (most (m+2)) h1 h2 h3
 have at_:∀m,CAt (zF T (m+4)):=fun m a z p s h1 h2 h3 h4=>by rw[zP (F:=F.xp) rfl];exact XC (whole (m+2)) (needLength m) (needSize m) (most (m+2)) h1 h2 h3 h4
 have places:∀m,qJ (zF T (m+4)):=fun m f d z s h1 h2 h3 h4 h5=>by rw[zP (F:=F08.yx) rfl];exact oA (needFirst m) (needStep m) (needSize m) h1 h2 h3 h4 h5
 have wh:∀m,CWh (zF T (m+5)):=fun m ns z s h1 h2 h3=>by rw[zP (F:=F08.yl) rfl];exact XE (needStrip m) (needSize (m+1)) (rows m) (one (m+3)) h1 h2 h3
 have first:∀m,oI (zF T (m+6)):=fun m ns z s h1 h2 h3=>by rw[zP (F:=F08.yQ) rfl];exact ng (wh m) h1 h2 h3
 have by_:∀m,CBy (zF T (m+6)):=fun m ns z s h1 h2 h3=>by rw[zP (F:=F08.xG) rfl];exact XD g (wh m) h1 h2 h3
 have alike:∀m,iY (zF T (m+1)):=fun m ns f d s h1 h2 h3=>by rw[zP (F:=F08.yf) rfl];exact iI h1 h2 h3
 have long:∀m,aW (zF T (m+5)):=fun m ns s h=>by rw[zP (F:=F08.xn) rfl];exact eN (needStrip m) (alike (m+3)) h
 have turned:∀m,lU (zF T (m+7)):=fun m ns os z s h1 h2 h3 h4=>by rw[zP (F:=F08.zi) rfl];exact m8 (isStrip (m+3)) (back (m+1)) (exch (m+1)) (wh (m+1)) (by_ m) h1 h2 h3 h4
 have joined:∀m,lS (zF T (m+6)):=fun m a b z s h1 h2 h3 h4 h5=>by rw[zP (F:=F08.zh) rfl];exact m5 (join m) (wh m) h1 h2 h3 h4 h5
 have cell:∀m,aU (zF T (m+1)):=fun m ns k s=>by
  obtain⟨c,h⟩:=eJ (T:=T) (Φ:=zF T m) (s:=s) ns k
  exact⟨c,by rw[zP (F:=F.zy) rfl];exact h⟩
 have pen:∀m,Xk (zF T (m+1)):=fun m c s=>by
  obtain⟨a,b,h,h2⟩:=bz (T:=T) (Φ:=zF T m) (s:=s) c
  exact⟨a,b,by rw[zP (F:=F.yB) rfl];exact h,h2⟩
 have draw:∀m,lR (zF T (m+1)):=fun m p k s h1 h2 h3=>by rw[zP (F:=F.yZ) rfl];exact eK h1 h2 h3
 have strip:∀m,lT (zF T (m+2)):=fun m p lim h s h1 h2 h3 h4=>by rw[zP (F:=F08.ye) rfl];exact m6 (draw m) h1 h2 h3 h4
 exact⟨cell (n+8),pen (n+8),draw (n+8),strip (n+7),turned (n+2),joined (n+3),thin (n+4),back (n+4),long (n+4),first (n+3),at_ (n+5),rows (n+5),places (n+5)⟩
theorem YN(ns:List Int):∃s',zF T 10 "law" 0 [.scr ns] []=.ok (.bool true) s':=by
 obtain⟨v,s',h,rfl⟩:=g9 (cs 9 (by omega)) ns
 exact⟨s',by rw[zP (F:=qK) rfl];exact h⟩
end P08
end
section
open PySem PySem.W PyProof.Rows
theorem P08.hx:P08.qK.ps=[("_law_script":Str)]:=by kernel_rfl
theorem P08.hF:(M.tbl P08.fnL P08.glL).fn P08.dd.name 0=some P08.qK:=by kernel_rfl
theorem P08.hgl:P08.glL=P08.gl.map fun p=>(p.1,M.gv p.2):=by kernel_rfl
theorem PySem.Challenge.cw_evenhues_k08_whole_strips_holds : PySem.Challenge.rw_evenhues_k08_whole_strips.Holds := by
 exact M.close (n:=10) P08.XG P08.left P08.hgl P08.Zc P08.hp P08.hk P08.hwr P08.ok P08.bare P08.hw (by kernel_rfl) P08.hdf ⟨rfl,by decide,by decide,rfl⟩ P08.hF P08.hx P08.XU (fun ns _=>P08.YN ns)
end
