import PyProof.Rows.All
import Wide.All
import OpenK.AllK
import Wide.FinOn
import Lean
import PyProof.EqAt
import PyProof.EqKinds
import PyProof.TupleCall
import KE.KTryMore
import PyProof.P3Eq
import PyProof.NeData
import PyProof.P3In
import PyProof.Rows.EnumRows
import PyProof.ZipIter
import PyProof.Rows.SetFrom
import PyProof.ExcClass
import OpenK.KRaise
import PyProof.ExcBaseAll.ValueError
import KE.KLam
import PyProof.ExcArgsOwn
import PyProof.IsiH_list
import PySem.Challenge.RW_evenhues_k62_rings_that_fit
set_option genSizeOf false
set_option genSizeOfSpec false
set_option bootstrap.genMatcherCode false
set_option Elab.async false
set_option linter.all false
set_option maxRecDepth 100000
set_option maxHeartbeats 4000000
open And renaming intro→Aj
open Array renaming length_toList→Cr
open Bool renaming and_eq_true→Aa,false_ne_true→Am,or_eq_true→AO,false_eq_true→AV,not_eq_true'→AX,eq_iff_iff→Cc,false_and→Di,or_true→EO,or_eq_false_iff→ES,and_eq_true_iff→EW,and_self→FE
open Eq renaming trans→GP
open False renaming elim→AJ
open ForInStep renaming yield→Cg
open Iff renaming rfl→CZ
open Int renaming toNat_natCast→Bj,emod_lt_of_pos→Fo,le_trans→Ga,emod_nonneg→Gw,natCast_add→Gx
open LawfulBEq renaming eq_of_beq→Co
open LawfulMonad renaming pure_bind→EA
open List renaming getElem?_eq_getElem→Ae,size_toArray→Ah,length_map→Ai,mem_cons→Ak,mem_cons_of_mem→Ao,length_append→Ap,mem_singleton→Aq,length_cons→Ar,getElem?_eq_some_iff→As,lookup_cons→Au,mem_cons_self→Av,getD_eq_getElem?_getD→Aw,replicate→Az,range→AE,all_eq_true→AI,map_cons→AK,mem_append→AN,getElem?_map→AQ,getElem?_set_self→AR,mem_of_getElem?→AS,mem_append_right→AU,mem_range→AW,append_nil→AY,filterMap_cons→A3,length_nil→A7,getElem?_append_left→Ba,mem_append_left→Bc,mem_map→Bh,append_assoc→Bi,getElem_of_mem→Bu,nodup_cons→By,not_mem_nil→BB,length_range→BD,contains_cons→BH,getElem?_set_ne→BJ,getElem?_append_right→BM,flatMap_cons→BN,replicate_succ→BO,drop_eq_getElem_cons→BQ,length_singleton→BR,mem_filterMap→BS,any_eq_true→BU,mem_filter→BX,length_pos_iff→BY,getElem_mem→B2,filterMap_map→B5,getElem?_eq_none→B6,length_filter_le→B7,map_append→Ci,flatten_cons→Cj,pairwise_map→Ck,flatMap_append→Ct,length_take→Cv,length_replicate→CI,length_set→CK,getElem?_toArray→CL,getElem?_eq_none_iff→CQ,length→CW,map_map→C4,filter_append→C8,pairwise_lt_range→De,range'→Df,drop_zero→Dk,mem_flatMap→Du,all_cons→Dx,nil_append→DF,map_nil→DO,zip_cons_cons→DR,eq_of_mem_replicate→DW,foldl→D0,getElem?_replicate→D6,range_succ_eq_map→Eg,findIdx?_eq_some_iff_getElem→Eh,flatMap_singleton→Ei,length_drop→Er,filter_cons→Eu,pairwise_flatMap→ED,of_mem_zip→EI,forIn_cons→EM,mem_of_mem_take→EU,range_succ→EV,getElem?_range→E1,map_congr_left→E2,map_eq_nil_iff→E3,map→E7,length_range'→Fp,set_comm→Ft,take_sublist→FI,nodup_append→FP,ext_getElem?→FQ,getElem?_take_of_lt→FY,cons_append→F3,length_filterMap_le→F9,getElem_map→Gd,isEmpty_iff→Ge,flatMap_map→Gf,flatMap_nil→Gg,range'_zero→Gh,isEmpty_map→Gj,lookup_eq_none_iff→Gn,flatMap_eq_nil_iff→Gp,foldl_cons→Gu,filter_nil→Gy,forIn_nil→GF
open List.Pairwise renaming imp→Ed,nil→FL
open List.cons renaming inj→DA
open Nat renaming le_refl→Ag,le_trans→Ax,lt_of_lt_of_le→AA,ne_of_lt→AD,zero_le→A8,lt_irrefl→Bb,lt_succ_of_lt→BC,lt_succ_self→Cw,le_succ→Dd,ne_of_gt→Dh,zero_add→Dm,mul_le_mul_right→Dr,le_of_lt→DI,succ_mul→DN,mul_le_mul→D1,min_le_right→Ep,lt_of_sub_eq_succ→EB,le_of_eq→ET,mul_le_mul_left→EY,le_of_not_lt→F2
open Ne renaming symm→Bp
open Option renaming none→Ab,map_eq_some_iff→A5,isSome_iff_exists→Ce,map_some→DC,bind_eq_some_iff→D5,isNone_iff_eq_none→FV,getD_none→F0
open Option.some renaming inj→AF,injEq→Ea
open Prod renaming ext→En
open PyProof.Rows renaming slot_tuple_getitem→A1,assignInOrder_cons→CC,callWith_type1→CD,firstMet→CM,step_dedup→C6,boot_sorted→DV,joinParts_cons→D4,tupleItemsOf_→El,boot_min→EC,entry_tuple_getitem→EX,recsOf→E4,args_tuple_getitem→Ff,subscriptTail→Fv,assignInOrder_nil→FH,Top→Gi,boot_tuple→Gm,Subscript_→GN
open PySem renaming wpAny_bind→Ac,wpAny_pure→Al,sizeLine→AB,Spec→AG,mainGlobals→AL,starEach→AM,mem_of_lookup→AZ,sizeLine_eq→A2,strLen_append→A6,wpAny_mono→A9,wpAny_newObj_type→Be,compareOp→Bk,NameKind→Bl,wpAny_loadPart_at→Bo,wpAny_loadPart'→Bs,wpAny_truthy_bool→Bv,sliceBounds→Bw,FuncData→Bx,binaryOp→BA,treeTable→BG,Env→BI,wpAny_standAt→BL,wpAny_holding→BV,excClassObj→BZ,sysModules→B0,swappedStores→B1,wpAny_pyIter_tuple→B3,wpAny_Call_Name_kw→B4,bootBuiltins→Ca,letOwnedTupleGo→Cb,Arguments→Cm,wpAny_callSpecial?_slot→Cq,wpAny_field→CA,call_meets→CB,codeAny_mono→CG,cellsFrom→CH,foldedSetIterable→CP,assignEach→CT,wpAny_binaryOp_repeat_ref→CU,recursionLimit→CY,checkBuiltinCall→C1,typeIs_int→C7,bindName→Dc,wpAny_pyIter_list→Dg,wpAny_call_entry→Dp,codeAny_call_builtin→Ds,behindInMarks→Dv,attributeBase→Dy,wpAny_isSubtype_exc→DB,wpAny_passesOwn→DE,codeAny_builtin→DG,wpAny_raiseStmt_made_sub→DS,codeAmong→DT,TriplesOk→DU,wpAny_bindName→DY,wpAny_call→DZ,wpAny_seqItems→D2,wpAny_pyIter_enum→Ec,assignInOrder→Ej,swapsWithSole→Ek,wpAny_execs_cons→Eo,wpAny_execs_nil→EG,wpAny_rule→EH,wpAny_typeOf→EK,wpAny_tryCatch→E6,constantsAlone→E9,wpAny_letGo→Fb,swapsWith→Fd,seqItems?→Fj,wpAny_newFunctionEnv_cells→Fu,wpAny_letOwnedTupleGo_enum→Fx,plainId_quiet→Fy,foldedForSure→FD,wpAny_sequenceKey→FJ,slot_list_getitem→FK,wpAny_Call_ofName→FO,builtinsNs→FR,GenState→FX,noFill_tuple_add→FZ,wpAny_getItem_list_slice→F1,compTurn→F4,wpAny_comprehension_free→F5,wpAny_Dict_empty→F7,wpAny_pyNext_enum_itemD→Gk,DictEntry→Gq,importedModules→Gr,wpAny_updateSeq→Gv,isCodeTable→GA,newFunctionEnv→GD,wpAny_setField→GG,bindArgs→GK,typeLookup→GL,closureFor→GO,cameBackBy→GR,seq_tuple_add→GV,Comprehension→GW,lastMarks→GY,slicePick→GZ
open PySem.Around renaming frames_deeper→EJ,under_plainId→EN
open PySem.AutoSeq1 renaming idx_int→F6
open PySem.Builtin.Builtins renaming bindParams→Fm
open PySem.Builtin.List renaming listTooLong→DM
open PySem.Builtin.Range renaming rangeSize→Cp
open PySem.Builtin.Slice renaming sliceAdjust→BP,slicePlaces→B8,sliceApplied→CN,sliceFields→FT
open PySem.Builtin.SmallTypes renaming nextOf→CV
open PySem.Builtin.Tuple renaming tupleExact→Bt,tupleItemsOf→Dw,tupleTooMany→Dz,tupleIsExact→Fw
open PySem.Calls renaming Constant_str→DK,Name_function_global→Fs
open PySem.Code renaming quiet_builtin→DQ
open PySem.Data renaming fields→Gz
open PySem.Expr renaming Name→G0
open PySem.F renaming slot_int_rmul→Cf,plain_min_loop→Cy,slot_tuple_iterator_next→CO,called_set→C0,typeOf_object_class→Dn,slot_tuple_mul→Dq,args_tuple_add_2→DL,entry_tuple_add→D7,plainAttrs_list→D8,args_int_rmul_2→Eb,slot_tuple_add→Ef,slot_int_index→Es,entry_int_rmul→Et,fills_int_mul→EL,slot_gs_get→EZ,args_tuple_iterator_next_1→E5,args_tuple_mul_2→Fh,entry_tuple_iterator_next→Fi,excBase_ValueError→FA,excAttr_ValueError→FC,entry_tuple_mul→FN,entry_min_loop→Gb
open PySem.Flow renaming next→GX
open PySem.Heap renaming get?_push_of_some→Ad,lt_size→An,get?_push_size→Ay,size_push→A4,get?_update_other→Br,get?_update_self→CJ,SameBut→DJ,MadeExcOf→D3,get?_none_of_le→EF
open PySem.Heap.IsSliceOf renaming new→Fg
open PySem.NameKind renaming free→AH,cell→Bn,globalImplicit→D9,local→GI
open PySem.Obj renaming mapSeq→FU
open PySem.Paired renaming length→GU
open PySem.PyData renaming eqv→Dt,weightAll→F8,canLay0→GH
open PySem.SeqAt renaming EqAt→Bq
open PySem.Str renaming ofString→Dj,empty→Ez
open PySem.Value renaming ref→A0,none→B9,bool→Cz,str→DH,type→DX,builtin→Em,int→Fc
open PySem.Value.type renaming inj→Dl
open PySem.W renaming Frag→Af,behindTheImports→Bz,nsIn→BE,kia_one→BF,fnOf→BK,codeIn→BW,keepIn→Cu,topFrame→C9,cellsFrom_some→Ee,tabObj→E8,callWith_K→Fe,recOk→Fq,mg_of→FF,methodObj→FG,openGood→FW,instObj→Gs,lookIn→GB,kitOne→GC,piecesOf→GJ,fencedOpening→GS
open PySem.Walks renaming list→GQ
open Sum renaming inl→Ew,inr→Ey
open ToString renaming toString→DP
open True renaming intro→Bg
section
namespace Hd
open PySem
inductive G where
 |int (i:Int)|str (x:Str)|ctup (ns:List Int)
noncomputable def args(s:Stmt):Cm:=match s with
 |.FunctionDef _ a _ _ _ _ _ _ _ _=>a
 |_=>{posonlyargs:=[],args:=[],vararg:=none,kwonlyargs:=[],kw_defaults:=[],kwarg:=none,defaults:=[]}
noncomputable def body(s:Stmt):List Stmt:=match s with
 |.FunctionDef _ _ b _ _ _ _ _ _ _=>b
 |_=>[]
noncomputable def scope(s:Stmt):Scope:=match s with
 |.FunctionDef _ _ _ _ _ _ sc _ _ _=>sc
 |_=>{kind:=.function,names:=[],isGenerator:=false,isCoroutine:=false}
noncomputable def posOf(s:Stmt):Pos:=match s with
 |.FunctionDef _ _ _ _ _ _ _ _ _ p=>p
 |_=>⟨0,0,0,0⟩
noncomputable def Yn(x:Str)(st:Stmt):DefRec:=⟨x,args st,body st,scope st,posOf st⟩
noncomputable def TQ:List Str:=["len","all","any","tuple","list","sorted","repr","max","min","sum","int","isinstance","divmod","str","bool","dict","set","range","enumerate","zip"]
noncomputable def nQ:List Value→Option (List Int)
 |[]=>some []
 |.int i _::r=>(nQ r).map (i::·)
 |_=>none
noncomputable def nsH(h:Heap)(x:Str):Option (Option Value):=match h.get? AL with
 |some o=>BE [(AL,o)] AL x
 |none=>none
noncomputable def VO(fd:Bx):Bx:={fd with kwdefaults:=.none,doc:=.none,pyModule:=.none,annotations:=none,code:=.none,closureTuple:=.none}
noncomputable def y0(o:Obj):Bool:=(match o.cls with|.none=>true|_=>false)&&(match o.data with|.fields _=>true|_=>false)
noncomputable def gx(h:Heap)(cd:Value)(x:Str):Bool:=match cd with
 |.ref c=>(match h.get? c with
  |some o=>!y0 o&&BW [(c,o)] (.ref c) x
  |none=>false)
 |_=>false
noncomputable def ag(h:Heap)(x:Str):Option Bx:=match nsH h x with
 |some (some (.ref f))=>(match h.get? f with
  |some ⟨_,_,.func fd,_⟩=>if gx h fd.code x then some (VO fd) else none
  |_=>none)
 |_=>none
noncomputable def Zf(p:Str × Stmt):Option Bx:=some (BK p.1 p.1 (args p.2) (body p.2) (scope p.2) .none .none .none .none none .none .none)
noncomputable def glB(h:Heap)(x:Str):G→Bool
 |.int i=>(match nsH h x with|some (some (.int j _))=>decide (i=j)|_=>false)
 |.str y=>(match nsH h x with|some (some (.str z _))=>decide (y=z)|_=>false)
 |.ctup ns=>(match nsH h x with
  |some (some (.ref a))=>(match h.get? a with
   |some ⟨.type n,_,.seq us _,_⟩=>decide (n="tuple")&&decide (us.toList.length≤1000)&&decide (nQ us.toList=some ns)
   |_=>false)
  |_=>false)
noncomputable def blB(h:Heap)(x:Str):Bool:=match nsH h x with|some none=>true|_=>false
noncomputable def et(D:List (Str × Stmt))(gl:List (Str × G))(s:Shared):List (Option Bx) × Bool:=(D.map fun p=>ag s.heap p.1,gl.all (fun p=>glB s.heap p.1 p.2)&&TQ.all fun x=>blB s.heap x)
noncomputable def bH(D:List (Str × Stmt)):List (Option Bx) × Bool:=(D.map Zf,true)
end Hd
end
section
namespace Hd
open PySem PySem.W
noncomputable def hsh(w:World)(x:Str):Int:=reduceHash (w.params.strHash x.cps)
noncomputable def ent(w:World)(x:Str)(t:Tok)(v:Value):Gq:=⟨hsh w x,.str x t,v⟩
noncomputable def ba(w:World)(n:Nat)(t:Tok)(b:Addr)(md:Value)(x:Str)(l:Int):List Obj:=
 [{cls:=.type "tuple",data:=.seq #[.ref b]},
  {cls:=.type "builtin_function_or_method",data:=.fields #[.builtin "type.__prepare__",.type "type"]},
  {cls:=.type "dict",data:=.dict #[ent w "__module__" (t+7) md,ent w "__qualname__" (t+9) (.str x (t+8)),ent w "__firstlineno__" (t+11) (.int l (t+10)),ent w "__static_attributes__" (t+12) (.ref (n+7))] 4},
  {cls:=.type "tuple",data:=.seq #[]},
  {cls:=.none,data:=.fields #[]},
  {cls:=.type "code",data:=.fields #[.str x (t+2),.str x (t+3),.str "/claim/cut.py" (t+4),.int l 0,.int 0 0,.int 0 0,.int 0 0,.int 0 0,.ref (n+3),.bool false,.int 181 0,.ref (n+4),.none,.none,.none,.none,.int (t+5) 0,.int l 0,.str "/claim/cut.py" (t+6)]},
  {cls:=.type "frame",data:=.plain,slots:=#[some (.ref (n+5)),some (.ref 3),some (.ref (n+2)),none,some md,none,some (.ref 0)]},
  {cls:=.type "tuple",data:=.seq #[]},
  {cls:=.type "dict",data:=.dict #[ent w "__module__" (t+7) md,ent w "__firstlineno__" (t+11) (.int l (t+10)),ent w "__static_attributes__" (t+12) (.ref (n+7)),ent w "__doc__" (t+13) .none] 2},
  {cls:=.type "type",data:=.cls {name:=x,bases:=[.ref b],mro:=[.ref (n+9),.ref b,.type "ValueError",.type "Exception",.type "BaseException",.type "object"],ns:=n+8,qualname:=x},slots:=#[some (.ref n),none,some (.str x t),some (.str x (t+8)),some (.builtin "ValueError.__new__"),some (.bool true)]},
  {cls:=.type "super",data:=.fields #[.ref (n+9),.ref (n+9),.ref (n+9)]},
  {cls:=.type "builtin_function_or_method",data:=.fields #[.builtin "object.__init_subclass__",.ref (n+9)]}]
noncomputable def gs(w:World)(b:Addr)(md:Value):Nat→Nat→List (Str × Int)→List Obj
 |_,_,[]=>[]
 |n,t,c::cs=>ba w n t b md c.1 c.2++gs w b md (n+12) (t+16) cs
noncomputable def fA(w:World):Nat→Nat→List (Str × Int)→List Gq
 |_,_,[]=>[]
 |n,t,c::cs=>ent w c.1 (t+15) (.ref (n+9))::fA w (n+12) (t+16) cs
noncomputable def gw:Nat→List (Str × Int)→List Value
 |_,[]=>[]
 |n,c::cs=>.int c.2 0::.int 0 0::.ref (n+5)::gw (n+12) cs
noncomputable def cq:Nat→List (Str × Int)→List Value
 |_,[]=>[]
 |n,_::cs=>.ref (n+9)::cq (n+12) cs
noncomputable def Tz(es':List Gq):Obj→Obj
 |⟨c,d,.dict es n,s⟩=>⟨c,d,.dict ⟨es.toList++es'⟩ (n+es'.length),s⟩
 |o=>o
noncomputable def T4(vs':List Value):Obj→Obj
 |⟨c,d,.fields vs,s⟩=>⟨c,d,.fields ⟨vs.toList++vs'⟩,s⟩
 |o=>o
noncomputable def T3(vs':List Value):Obj→Obj
 |⟨c,d,.cls k,s⟩=>⟨c,d,.cls {k with subclasses:=k.subclasses++vs'},s⟩
 |o=>o
noncomputable def atL(f:Obj→Obj):Nat→List Obj→List Obj
 |_,[]=>[]
 |0,o::os=>f o::os
 |n+1,o::os=>o::atL f n os
noncomputable def g6(st:Stmt):Stmt:=match st with
 |.ClassDef _ _ _ b _ _ _ _ _ _ _=>b.getD 0 st
 |_=>st
noncomputable def W3(w:World)(n:Nat)(t:Tok)(b:Addr)(md:Value)(st:Stmt)(l:Int):List Obj:=
 let x:Str:="TooGreat"
 let f:Bx:={name:="__init__",qualname:="TooGreat.__init__",params:=args (g6 st),body:=.stmts (body (g6 st)),scope:=scope (g6 st),globals:=0,closure:=[],defaults:=.none,kwdefaults:=.none}
 [{cls:=.type "tuple",data:=.seq #[.ref b]},
  {cls:=.type "builtin_function_or_method",data:=.fields #[.builtin "type.__prepare__",.type "type"]},
  {cls:=.type "dict",data:=.dict #[ent w "__module__" (t+7) md,ent w "__qualname__" (t+9) (.str x (t+8)),ent w "__firstlineno__" (t+11) (.int l (t+10)),ent w "__init__" (t+20) (.ref (n+13)),ent w "__static_attributes__" (t+23) (.ref (n+14))] 5},
  {cls:=.type "tuple",data:=.seq #[]},
  {cls:=.none,data:=.fields #[.int (l+2) 0,.int 4 0,.ref (n+12)]},
  {cls:=.type "code",data:=.fields #[.str x (t+2),.str x (t+3),.str "/claim/cut.py" (t+4),.int l 0,.int 0 0,.int 0 0,.int 0 0,.int 0 0,.ref (n+3),.bool false,.int 181 0,.ref (n+4),.none,.none,.none,.none,.int (t+5) 0,.int l 0,.str "/claim/cut.py" (t+6)]},
  {cls:=.type "frame",data:=.plain,slots:=#[some (.ref (n+5)),some (.ref 3),some (.ref (n+2)),none,some md,none,some (.ref 0)]},
  {cls:=.type "tuple",data:=.seq #[]},
  {cls:=.none,data:=.fields #[]},
  {cls:=.type "tuple",data:=.seq #[.str "self" (t+15),.str "many" (t+16),.str "most" (t+17)]},
  {cls:=.type "tuple",data:=.seq #[]},
  {cls:=.none,data:=.func f},
  {cls:=.type "code",data:=.fields #[.str "__init__" (t+12),.str "TooGreat.__init__" (t+13),.str "/claim/cut.py" (t+14),.int (l+2) 0,.int 3 0,.int 0 0,.int 0 0,.int 3 0,.ref (n+7),.bool true,.int 181 0,.ref (n+8),.none,.ref (n+9),.ref (n+10),.ref (n+11),.int (t+18) 0,.int (l+2) 0,.str "/claim/cut.py" (t+19)]},
  {cls:=.type "function",data:=.func {f with globals:=3,pyModule:=md,code:=.ref (n+12)}},
  {cls:=.type "tuple",data:=.seq #[.str "many" (t+21),.str "most" (t+22)]},
  {cls:=.type "dict",data:=.dict #[ent w "__module__" (t+7) md,ent w "__firstlineno__" (t+11) (.int l (t+10)),ent w "__init__" (t+20) (.ref (n+13)),ent w "__static_attributes__" (t+23) (.ref (n+14)),ent w "__doc__" (t+24) .none] 2},
  {cls:=.type "type",data:=.cls {name:=x,bases:=[.ref b],mro:=[.ref (n+16),.ref b,.type "ValueError",.type "Exception",.type "BaseException",.type "object"],ns:=n+15,qualname:=x},slots:=#[some (.ref n),none,some (.str x t),some (.str x (t+8)),some (.builtin "ValueError.__new__"),some (.bool true)]},
  {cls:=.type "super",data:=.fields #[.ref (n+16),.ref (n+16),.ref (n+16)]},
  {cls:=.type "builtin_function_or_method",data:=.fields #[.builtin "object.__init_subclass__",.ref (n+16)]}]
noncomputable def tgF(w:World)(n t:Nat)(b:Addr)(md:Value)(cs:List (Str × Int))(st:Stmt)(l:Int)(s:Shared):Shared:=
 let m:=n+12*cs.length
 let u:=t+16*cs.length
 {s with toks:=u+27,heap:={s.heap with objs:=⟨atL (Tz (fA w n t cs++[ent w "TooGreat" (u+26) (.ref (m+16))])) 3 (atL (T4 (gw n cs++[.int l 0,.int 0 0,.ref (m+5)])) 12 (atL (T3 (cq n cs++[.ref (m+16)])) b s.heap.objs.toList))++(gs w b md n t cs++W3 w m u b md st l)⟩}}
noncomputable def vL(p:Program):Env:={scope:=p.main.scope,locals:=mainNs,globals:=mainNs,cells:=[],code:=.ref 13,frame:=some 14}
noncomputable def pQ:Option Value:=some (.ref 6)
noncomputable def S0(p:Program)(w:World):Shared:=(GS BG p w 100000).getD (start (opening p)).1
noncomputable def SA(p:Program)(w:World):Shared:=((topGo BG p w 11 pQ 12 (S0 p w) (topStub p)).map Prod.fst).getD (S0 p w)
noncomputable def Bd(p:Program)(k:Nat):List Stmt:=(Bz p).take 2++(((Bz p).drop 2).take k++(Bz p).drop (2+k))
noncomputable def Cd(p:Program)(k:Nat):Code:=.body (Bd p k) (vL p)
noncomputable def S1(p:Program)(k:Nat)(w:World):Shared:=((segRun BG p w 11 pQ 1 1000 (SA p w) (GJ ((Bz p).take 2) (vL p) (Cd p k) default [C9 default])).map fun r=>r.2.1).getD (SA p w)
noncomputable def Wd(l:Nat):Pos:=⟨l,0,l+1,8⟩
noncomputable def We(l:Nat):Pos:=⟨l,0,l+5,24⟩
noncomputable def S3(p:Program)(cs:List (Str × Int))(l:Nat)(w:World):Shared:=tgF w 28 207 24 (.str "evenhues.errors" 187) cs ((Bz p).getD (2+cs.length) (.Pass ⟨0,0,0,0⟩)) l (S1 p (cs.length+1) w)
noncomputable def chk(p:Program)(h:Heap)(z:Shared):Option Shared:=match staticsOk (Gr p.main.body) h z.heap&&namesBound p z.heap&&gensDone z&&laidKept h z.heap with
 |true=>some z
 |false=>none
theorem iK{p q:Program}{loose:List Str}{Xt:Shared→Bool}{α:Type}{Yf:Shared→α}{Ya:World→α}{T0 TA T1 T2:World→Shared}{N m k0 n1 n2 n3:Nat}{ann:Option Value}{env:Env}{l1 l2 l3:List Stmt}{cd:Code}{b0 b1 b2 qq:Pos}
 (hc:cd=.body (l1++(l2++l3)) env)
 (h0:∀w,GS BG p w N=some (T0 w))
 (h1:∀w,((T0 w).heap.isNs AL&&(T0 w).gens.size == 0,(T0 w).heap.objs.size,(T0 w).heap.nsMap AL "__annotations__")=(true,m,ann))
 (hA:∀w,topGo BG p w m ann k0 (T0 w) (topStub p)=some (TA w,⟨denote BG (.body (l1++(l2++l3)) env),cd,b0,[C9 qq]⟩))
 (hB:∀w,segRun BG p w m ann 1 1 (TA w) (blockOf (l1++(l2++l3)) env cd b0 [C9 qq])=some (.next,TA w,cd,b0))
 (hC:∀w,segRun BG p w m ann 1 n1 (TA w) (GJ l1 env cd b0 [C9 qq])=some (.next,T1 w,cd,b1))
 (hD:∀w,segRun BG p w m ann 1 n2 (T1 w) (GJ l2 env cd b1 [C9 qq])=some (.next,T2 w,cd,b2))
 (hE:∀w,((topRun BG p w m ann n3 (T2 w) (restOf l3 env cd b2 [C9 qq])).bind (chk p (T0 w).heap)).map (fun z=>(openSeen q loose (Gr p.main.body) Xt true z,Yf z))=some (FW q loose,Ya w))
 (le:Nat.ble (k0+(1+(n1+(n2+n3)))) N=true):LeftO p q loose Xt Yf Ya N:=fun w=>by
 have hs:=h1 w
 simp only[Prod.mk.injEq]at hs
 obtain⟨r,k1,k2⟩:=A5.mp (hE w)
 obtain⟨r',k3,k4⟩:=D5.mp k1
 have go:=topRun_mono (N-(k0+(1+(n1+(n2+n3))))) _ _ _ _ (go_top (hA w) (piece_block (hB w) (piece_app (hC w) (piece_app (hD w) k3))))
 rw[Nat.add_sub_cancel' (Nat.le_of_ble_eq_true le)]at go
 have tf:topFrom BG p w N (T0 w)=some r:=by
  unfold topFrom
  rw[hs.1,hs.2.1,hs.2.2]
  dsimp only
  rw[go]
  unfold chk at k4
  exact k4
 unfold openEnds
 rw[h0 w,Option.bind_some,tf]
 exact congrArg some k2
theorem glue{α β γ δ ε:Type}{o:Option Shared}{f:Shared→α × β × γ × δ}{g:Shared→ε}{v:α × β × γ × δ}{u:ε}(h0:o.map (fun z=>(f z).1)=some v.1)(h1:o.map (fun z=>(f z).2.1)=some v.2.1)(h2:o.map (fun z=>(f z).2.2.1)=some v.2.2.1)(h3:o.map (fun z=>(f z).2.2.2)=some v.2.2.2)(h4:o.map g=some u):o.map (fun z=>(f z,g z))=some (v,u):=by
 cases o with
 |none=>cases h4
 |some z=>
  obtain⟨a,b,c,d⟩:=v
  exact congrArg some (En (En (AF h0) (En (AF h1) (En (AF h2) (AF h3)))) (AF h4))
end Hd
end
section
namespace Hd
open PySem PySem.W
structure XT where
 cs:List Str
 rz:List Str
 tb:List Str
noncomputable def adH(h:Heap)(x:Str):Option Addr:=match nsH h x with
 |some (some (.ref a))=>some a
 |_=>none
noncomputable def Yk(h:Heap)(x:Str):List (Addr × Obj):=match adH h x with
 |some a=>(match h.get? a with
  |some o=>(match o.data with
   |.cls cd=>(a,o)::(match h.get? cd.ns with
    |some n=>if y0 n then [] else [(cd.ns,n)]
    |none=>[])
   |_=>[])
  |none=>[])
 |none=>[]
noncomputable def kcH(h:Heap):List Str→Frag
 |[]=>[]
 |x::xs=>Yk h x++kcH h xs
noncomputable def veM:List Value:=[.type "ValueError",.type "Exception",.type "BaseException",.type "object"]
noncomputable def bP(K:Frag)(C:Addr):Bool:=(findIn K (.ref C) "__getattribute__" == some (some (.builtin "BaseException.__getattribute__")))&&(findIn K (.ref C) "__getattr__" == some none)&&(findIn K (.ref C) "__class__" == some (some (.builtin "object.__class__"))) &&
 (subIn K (.ref C) (.type "BaseException") == some true)&&(subIn K (.ref C) (.type "object") == some true)&&(clsIn K C).isSome
noncomputable def eY(h:Heap)(C:Addr)(bm:List Value):Bool:=match h.get? C with
 |some o=>(match o.data with
  |.cls cd=>(cd.mro == .ref C::bm)&&(match h.get? cd.ns with
   |some n=>!y0 n
   |none=>false)
  |_=>false)
 |none=>false
noncomputable def bmB(h:Heap):Bool:=match adH h "__builtins__" with
 |some b=>(match h.get? b with
  |some o=>!y0 o
  |none=>false)
 |none=>false
noncomputable def l9(h:Heap)(x:Str):Option Addr:=match adH h x with
 |some f=>(match h.get? f with
  |some o=>(match o.data with
   |.func fd=>(match fd.code with
    |.ref c=>(match h.get? c with
     |some oc=>(match oc.data with
      |.fields vs=>(match (vs[11]?:Option Value) with
       |some (.ref P)=>some P
       |_=>none)
      |_=>none)
     |none=>none)
    |_=>none)
   |_=>none)
  |none=>none)
 |none=>none
noncomputable def oI(X:XT)(h:Heap):Bool:=match adH h "HueError" with
 |none=>false
 |some hue=>X.cs.all (fun c=>(adH h c).isSome)&&blB h "ValueError"&&X.rz.all (fun c=>match adH h c with
  |none=>false
  |some C=>bP (kcH h ("HueError"::X.cs)) C&&(exmOne (kcH h ("HueError"::X.cs)) (.ref C) (.ref hue) == some true)&&X.cs.all (fun d=>kitOne (kcH h ("HueError"::X.cs)) (.ref C) (.ref ((adH h d).getD 0)) == some (decide (d=c))) &&
   (kitOne (kcH h ("HueError"::X.cs)) (.ref C) (.type "ValueError") == some true)&&eY h C (.ref hue::veM)) &&
  eY h hue veM&&bmB h&&decide ((X.tb.map (l9 h)).Nodup)
theorem VZ{α β γ:Type}{z:Option γ}{f:γ→α}{g:γ→β}{p:γ→Bool}{a:α}{b:β}(h1:z.map (fun z=>(f z,g z))=some (a,b))(h2:z.map p=some true):z.map (fun z=>(f z,(g z,p z)))=some (a,(b,true)):=by
 cases z with
 |none=>cases h1
 |some z=>
  simp only[DC,Ea,Prod.mk.injEq]at h1 h2 ⊢
  exact⟨h1.1,h1.2,h2⟩
end Hd
end
section
set_option maxHeartbeats 0
open PySem PySem.W PyProof.Rows
namespace P62
noncomputable def top(i:Nat):Stmt:=PySem.Challenge.pw_evenhues_k62_rings_that_fit.main.body.getD i (.Pass ⟨0,0,0,0⟩)
noncomputable def D:List (Str × Stmt):=(("is_whole":Str),top 22)::(("are_wholes":Str),top 23)::(("is_strip":Str),top 26)::(("are_sizes":Str),top 28)::(("need_sizes":Str),top 29)::(("first_hue_wrong":Str),top 30)::(("need_ring":Str),top 32)::(("going_round":Str),top 33)::(("are_unlike":Str),top 34)::(("is_whole_round":Str),top 35)::(("first_round_wrong":Str),top 36)::(("fits_round":Str),top 37)::(("_law_cell_at":Str),top 39)::(("_law_pen":Str),top 40)::(("_law_draw":Str),top 41)::(("_law_kind":Str),top 42)::(("_law_got":Str),top 43)::(("_law_rounds":Str),top 44)::(("_law_wrong":Str),top 45)::(("_law_fits":Str),top 46)::(("law":Str),top 47)::[]
noncomputable def gl:List (Str × Hd.G):=[("MOST_PLACES",.int 40),("LEAST_SIZE",.int 2),("MOST_SIZE",.int 8),("HUES",.ctup [0,1,2,3])]
noncomputable def q:Program:={PySem.Challenge.pw_evenhues_k62_rings_that_fit with main:={PySem.Challenge.pw_evenhues_k62_rings_that_fit.main with body:=[1,2,3,4,5,6,7,8,9,10,11,12,13,14,15,16,17,19,20,21,22,23,25,26,28,29,30,32,33,34,35,36,37,39,40,41,42,43,44,45,46,47].map top}}
noncomputable def dd:DefRec:=Hd.Yn "law" (top 47)
noncomputable def X:Hd.XT:=⟨["NoStrip","NoSizes","NoNumber","NoPlace","NoHue","NoDraft","NoPaper","NoFit","TooGreat","NoLot","NoRing","NoRound","NoStand","NoText","NoDeed","NoLine"],["NoSizes","NoRing"],["law"]⟩
noncomputable abbrev pr:Program:=PySem.Challenge.rw_evenhues_k62_rings_that_fit.row.prog
noncomputable def Yl:List (Str × Int):=[("NoStrip",4),("NoSizes",6),("NoNumber",8),("NoPlace",10),("NoHue",12),("NoDraft",14),("NoPaper",16),("NoFit",18),("NoLot",20),("NoRing",22),("NoRound",24),("NoStand",26),("NoText",28),("NoDeed",30),("NoLine",32)]
noncomputable def Fz(w:World):Option Shared:=(topRun BG pr w 11 Hd.pQ 50000 (Hd.S3 pr Yl 34 w) (restOf ((Bz pr).drop 18) (Hd.vL pr) (Hd.Cd pr 16) (Hd.We 34) [C9 default])).bind (Hd.chk pr (Hd.S0 pr w).heap)
noncomputable def Sn(z:Shared):=openSeen q [] (Gr pr.main.body) (fun s=>Fq PySem.Challenge.rw_evenhues_k62_rings_that_fit.row.records s) true z
theorem e2:∀w,(Fz w).map (fun z=>(Sn z).2.2.1)=some (FW q []).2.2.1:=by
 intro w
 kernel_rfl
theorem e3:∀w,(Fz w).map (fun z=>(Sn z).2.2.2)=some (FW q []).2.2.2:=by
 intro w
 kernel_rfl
theorem e1:∀w,(Fz w).map (fun z=>(Sn z).2.1)=some (FW q []).2.1:=by
 intro w
 kernel_rfl
theorem e0:∀w,(Fz w).map (fun z=>(Sn z).1)=some (FW q []).1:=by
 intro w
 kernel_rfl
theorem e4:∀w,(Fz w).map (Hd.et D gl)=some (Hd.bH D):=by
 intro w
 kernel_rfl
theorem e5:∀w,(Fz w).map (fun z=>Hd.oI X z.heap)=some true:=by
 intro w
 kernel_rfl
theorem h0:∀w,GS BG pr w 100000=some (Hd.S0 pr w):=by
 intro w
 kernel_rfl
theorem h1:∀w,((Hd.S0 pr w).heap.isNs AL&&(Hd.S0 pr w).gens.size == 0,(Hd.S0 pr w).heap.objs.size,(Hd.S0 pr w).heap.nsMap AL "__annotations__")=(true,11,Hd.pQ):=by
 intro w
 kernel_rfl
theorem hA:∀w,topGo BG pr w 11 Hd.pQ 12 (Hd.S0 pr w) (topStub pr)=some (Hd.SA pr w,⟨denote BG (.body (Hd.Bd pr 16) (Hd.vL pr)),Hd.Cd pr 16,default,[C9 default]⟩):=by
 intro w
 kernel_rfl
theorem hB:∀w,segRun BG pr w 11 Hd.pQ 1 1 (Hd.SA pr w) (blockOf (Hd.Bd pr 16) (Hd.vL pr) (Hd.Cd pr 16) default [C9 default])=some (.next,Hd.SA pr w,Hd.Cd pr 16,default):=by
 intro w
 kernel_rfl
theorem hC:∀w,segRun BG pr w 11 Hd.pQ 1 1000 (Hd.SA pr w) (GJ ((Bz pr).take 2) (Hd.vL pr) (Hd.Cd pr 16) default [C9 default])=some (.next,Hd.S1 pr 16 w,Hd.Cd pr 16,Hd.Wd 2):=by
 intro w
 kernel_rfl
theorem hD:∀w,segRun BG pr w 11 Hd.pQ 1 20000 (Hd.S1 pr 16 w) (GJ (((Bz pr).drop 2).take 16) (Hd.vL pr) (Hd.Cd pr 16) (Hd.Wd 2) [C9 default])=some (.next,Hd.S3 pr Yl 34 w,Hd.Cd pr 16,(Hd.We 34)):=by
 intro w
 kernel_rfl
theorem hE:∀w,(Fz w).map (fun z=>(Sn z,Hd.et D gl z))=some (FW q [],Hd.bH D):=fun w=>Hd.glue (e0 w) (e1 w) (e2 w) (e3 w) (e4 w)
theorem left:PySem.W.LeftO pr q [] (fun s=>Fq PySem.Challenge.rw_evenhues_k62_rings_that_fit.row.records s) (fun z=>(Hd.et D gl z,Hd.oI X z.heap)) (fun _=>(Hd.bH D,true)) 100000:=
 Hd.iK (p:=pr) (T0:=Hd.S0 pr) (TA:=Hd.SA pr) (T1:=Hd.S1 pr 16) (T2:=Hd.S3 pr Yl 34) (N:=100000) (m:=11) (k0:=12) (n1:=1000) (n2:=20000) (n3:=50000) (ann:=Hd.pQ) (env:=Hd.vL pr) (l1:=(Bz pr).take 2) (l2:=((Bz pr).drop 2).take 16) (l3:=(Bz pr).drop 18) (cd:=Hd.Cd pr 16) (b0:=default) (b1:=Hd.Wd 2) (b2:=(Hd.We 34)) (qq:=default) rfl h0 h1 hA hB hC hD (fun w=>Hd.VZ (hE w) (e5 w)) (by decide +kernel)
theorem Wq:PySem.Challenge.rw_evenhues_k62_rings_that_fit.wellSaid=true:=by kernel_rfl
theorem fN:PySem.W.defOf q PySem.Challenge.rw_evenhues_k62_rings_that_fit.row.name=some (dd,[]):=by kernel_rfl
theorem hp:PySem.Challenge.rw_evenhues_k62_rings_that_fit.row.prog.theDef PySem.Challenge.rw_evenhues_k62_rings_that_fit.row.name=some (dd.params,dd.body,dd.scope):=by kernel_rfl
theorem hk:PySem.W.kwWritten? dd.params.kwonlyargs dd.params.kw_defaults=some []:=by kernel_rfl
theorem hwr:(!PySem.Challenge.rw_evenhues_k62_rings_that_fit.row.writes||PySem.Challenge.rw_evenhues_k62_rings_that_fit.row.records.isEmpty)=true:=by kernel_rfl
theorem ok:(PySem.W.chainsOk q&&PySem.W.opensWell PySem.Challenge.rw_evenhues_k62_rings_that_fit.row.prog&&(PySem.W.frees PySem.Challenge.rw_evenhues_k62_rings_that_fit.row.toRowW&&PySem.Challenge.rw_evenhues_k62_rings_that_fit.row.within.isEmpty))=true:=by kernel_rfl
theorem hdf:dd.params.defaults=[]:=by kernel_rfl
theorem bare:PySem.Challenge.rw_evenhues_k62_rings_that_fit.row.prog.bare:=⟨rfl,rfl,rfl,rfl,rfl,by decide +kernel⟩
theorem hw:PySem.Challenge.rw_evenhues_k62_rings_that_fit.row.toRowW.promised:=by w_witness2
end P62
end
section
namespace L2
open PySem PySem.Spec PyProof.Rows
noncomputable abbrev Key:=Sum Int Str
noncomputable def Z6:Key→Value→Bool
 |.inl k,v=>Value.isInt k v
 |.inr x,v=>Value.isStrOf x v
noncomputable def TY(w:World):Key→Int
 |.inl k=>hashInt k
 |.inr x=>hashStr w x
theorem yD:∀{k:Key} {v:Value},Z6 k v=true→(∃i t,k=Ew i∧v=Fc i t)∨(∃x t,k=Ey x∧v=DH x t)
 |.inl i,v,h=>by
  obtain⟨t,e⟩:=Value.isInt_shape (k:=i) (v:=v) h
  exact .inl ⟨i,t,rfl,e⟩
 |.inr x,v,h=>by
  obtain⟨t,e⟩:=Value.isStrOf_shape (x:=x) (v:=v) h
  exact .inr ⟨x,t,rfl,e⟩
theorem Xi(a b:Int):decide ((Ew a:Key)=Ew b)=(a == b):=by
 by_cases e:a=b
 . subst e;simp
 . have h:¬(Ew a:Key)=Ew b:=fun q=>e (Ew.inj q)
   rw[decide_eq_false h]
   exact(beq_eq_false_iff_ne.mpr e).symm
theorem Xl(a b:Str):decide ((Ey a:Key)=Ey b)=decide (a=b):=by
 by_cases e:a=b
 . subst e;simp
 . have h:¬(Ey a:Key)=Ey b:=fun q=>e (Ey.inj q)
   rw[decide_eq_false h,decide_eq_false e]
theorem Xj(a:Int)(b:Str):decide ((Ew a:Key)=Ey b)=false:=decide_eq_false (fun q=>nomatch q)
theorem Xk(a:Str)(b:Int):decide ((Ey a:Key)=Ew b)=false:=decide_eq_false (fun q=>nomatch q)
noncomputable def oF(prog:Program)(w:World):PySem.KeyKind prog w Key where
 is:=Z6
 hash:=TY w
 inj:=fun v a b ha hb=>by
  rcases yD ha with⟨i,t,rfl,rfl⟩|⟨x,t,rfl,rfl⟩
  . rcases yD hb with⟨j,u,rfl,e⟩|⟨y,u,rfl,e⟩
    . injection e with e1 _;rw[e1]
    . exact nomatch e
  . rcases yD hb with⟨j,u,rfl,e⟩|⟨y,u,rfl,e⟩
    . exact nomatch e
    . injection e with e1 _;rw[e1]
 byValue:=fun k v h=>by
  rcases yD h with⟨i,t,rfl,rfl⟩|⟨x,t,rfl,rfl⟩<;>rfl
 pyHash:=fun hv h=>by
  rcases yD hv with⟨i,t,rfl,rfl⟩|⟨x,t,rfl,rfl⟩
  . exact wpAny_pyHash_int h
  . exact wpAny_pyHash_str h
 eqBool:=fun hu hv h=>by
  rcases yD hu with⟨i,t,rfl,rfl⟩|⟨x,t,rfl,rfl⟩
  . rcases yD hv with⟨j,u,rfl,rfl⟩|⟨y,u,rfl,rfl⟩
    . rw[Xi]at h;exact wpAny_eqBool_int h
    . rw[Xj]at h;exact Bq.int_str i t y u _ _ _ _ h
  . rcases yD hv with⟨j,u,rfl,rfl⟩|⟨y,u,rfl,rfl⟩
    . rw[Xk]at h;exact Bq.str_int x t j u _ _ _ _ h
    . rw[Xl]at h;exact wpAny_eqBool_str h
 «strs»:=fun k x t v h=>by
  rcases yD h with⟨i,u,rfl,e⟩|⟨y,u,rfl,e⟩
  . exact nomatch e
  . injection e with e1 _
    subst e1
    cases v<;>rfl
end L2
namespace L2
open PySem PySem.Spec PyProof.Rows
inductive V where
 |non|bl (b:Bool)|int (i:Int)|str (x:Str)|byt (b:Array UInt8)|flt (b:UInt64)|ref (a:Addr)|ty (n:String)
 deriving DecidableEq
noncomputable def RelV:V→Value→Prop
 |.non,u=>u=B9
 |.bl b,u=>u=Cz b
 |.int i,u=>∃t,u=Fc i t
 |.str x,u=>∃t,u=DH x t
 |.byt b,u=>∃t,u=Value.bytes b t
 |.flt b,u=>∃t,u=Value.float b t
 |.ref a,u=>u=A0 a
 |.ty n,u=>u=DX n
noncomputable abbrev Vals:List V→List Value→Prop:=Paired RelV
theorem Vals.length{xs:List V}{us:List Value}(r:Vals xs us):xs.length=us.length:=GU r
theorem Vals.get:∀{xs:List V} {us:List Value} {i:Nat} {x:V},Vals xs us→xs[i]?=some x→∃u,us[i]?=some u∧RelV x u
 |_,_,_,_,.nil,e=>by simp at e
 |_,_,0,_,.cons r _,e=>by simp at e;subst e;exact⟨_,rfl,r⟩
 |_,_,i+1,x,.cons _ t,e=>by
  obtain⟨u,h1,h2⟩:=Vals.get (i:=i) (x:=x) t (by simpa using e)
  exact⟨u,by simpa using h1,h2⟩
theorem Vals.set{x:V}{u:Value}(r:RelV x u):∀{xs:List V} {us:List Value} (i:Nat),Vals xs us→Vals (xs.set i x) (us.set i u)
 |_,_,_,.nil=>.nil
 |_,_,0,.cons _ t=>.cons r t
 |_,_,i+1,.cons q t=>.cons q (Vals.set r i t)
theorem Vals.append:∀{xs ys:List V} {us ws:List Value},Vals xs us→Vals ys ws→Vals (xs++ys) (us++ws)
 |_,_,_,_,.nil,s=>s
 |_,_,_,_,.cons r t,s=>.cons r (Vals.append t s)
theorem Vals.take:∀{xs:List V} {us:List Value} (n:Nat),Vals xs us→Vals (xs.take n) (us.take n)
 |_,_,0,_=>.nil
 |_,_,_+1,.nil=>.nil
 |_,_,n+1,.cons r t=>.cons r (Vals.take n t)
theorem Vals.drop:∀{xs:List V} {us:List Value} (n:Nat),Vals xs us→Vals (xs.drop n) (us.drop n)
 |_,_,0,r=>r
 |_,_,_+1,.nil=>.nil
 |_,_,n+1,.cons _ t=>Vals.drop n t
theorem Vals.none_of:∀{xs:List V} {us:List Value} {i:Nat},Vals xs us→xs[i]?=none→us[i]?=none:=fun{xs us i} r e=>by
 have h1:=r.length
 have h2:xs.length≤i:=CQ.mp e
 exact CQ.mpr (by omega)
noncomputable def YY:Option V→Option Value→Prop
 |some v,some u=>RelV v u
 |none,none=>True
 |_,_=>False
noncomputable def KV{κ:Type}:List (κ × V)→List (κ × Value)→Prop:=Paired fun(p:κ × V) (q:κ × Value)=>p.1=q.1∧RelV p.2 q.2
noncomputable def kV:Key→V
 |.inl i=>.int i
 |.inr x=>.str x
inductive HO where
 /-- a list -/
 |lst (xs:List V)
 /-- a tuple (never changes) -/
 |tup (xs:List V)
 /-- a dict whose keys are ints and texts;one whose keys are tuples of ints and texts (the empty one is both) -/
 |dK (kvs:List (Key × V))|dT (kvs:List (List Key × V))
 /-- a set of ints: its members,its size -/
 |set (S:Int→Bool) (n:Nat)
 /-- an instance of the class at C,its dict at dx,its attributes -/
 |ins (C dx:Addr) (fs:List (Str × V))
 /-- the dict of the instance at x -/
 |own (x:Addr)
 /-- the dict of an exception -/
 |xd (fs:List (Str × V))
 /-- a bound method,f of x -/
 |met (f x:Addr)
 /-- a range object lo,lo+1,.. below hi -/
 |rng (lo hi:Int)
 /-- a thing that is known to the object (the script;a dict while a loop walks it): read,never written while it is so -/
 |frz (o:Obj) (u:HO)
 /-- a code object's table -/
 |tbl (ps:Array Value)
 /-- any other thing,by what is true of its one object (a def of one's own: SetO a S n:=HO.ext fun h=>..) -/
 |ext (φ:Heap→Prop)
noncomputable abbrev Hp:=Addr→Option HO
def ux(h:Heap)(a:Addr)(items:Array Value):Prop:=∃o,h.get? a=some o∧o.cls=.type "tuple"∧∃n,o.data=.seq items n∧o.dict=none
theorem ux.tup{h:Heap}{a:Addr}{items:Array Value}(x:ux h a items):IsTup h a items:=let ⟨o,e,c,n,d,_⟩:=x;⟨o,e,c,n,d⟩
theorem ux.lt{h:Heap}{a:Addr}{items:Array Value}(x:ux h a items):a<h.objs.size:=let ⟨_,e,_⟩:=x;An e
theorem ux.new(h:Heap)(items:Array Value):ux (h.push {cls:=.type "tuple",data:=.seq items}) h.objs.size items:=⟨_,Ay _ rfl,rfl,_,rfl,rfl⟩
noncomputable def upd(H:Hp)(a:Addr)(o:HO):Hp:=fun b=>if b=a then some o else H b
theorem zN{H:Hp}{a:Addr}{o:HO}:upd H a o a=some o:=by unfold upd;rw[if_pos rfl]
theorem zI{H:Hp}{a b:Addr}{o:HO}(h:b≠a):upd H a o b=H b:=by unfold upd;rw[if_neg h]
theorem zR{H:Hp}{a b:Addr}{o:HO}(h:H a=some o)(h':H b=none):a≠b:=by
 intro e;subst e;rw[h]at h';cases h'
section
variable (P:Program)(w:World)
noncomputable def z9(H:Hp)(h:Heap)(a:Addr):HO→Prop
 |.lst xs=>xs.length≤AB∧∃(its:List Value) (n:Nat),Vals xs its∧h.get? a=some {cls:=.type "list",data:=.seq its.toArray n}
 |.tup xs=>xs.length≤AB∧∃its:List Value,Vals xs its∧ux h a its.toArray
 |.dK kvs=>kvs.length≤AB∧(a == B0)=false∧∃vs,KV kvs vs∧h.DictOf (oF P w) a vs
 |.dT kvs=>kvs.length≤AB∧(a == B0)=false∧∃xs:List (List Key × Addr × Value),
  Paired (fun(p:List Key × V) (q:List Key × Addr × Value)=>p.1=q.1∧H q.2.1=some (.tup (p.1.map kV))∧RelV p.2 q.2.2) kvs xs ∧
  ∃o es ep,h.get? a=some o∧o.ExactDict∧o.data=.dict es ep∧es.toList=xs.map (entryOfKey (tupleKind (oF P w)))∧(xs.map (·.1)).Nodup
 |.set S n=>h.SetOf (intKind P w) a S n
 |.ins C dx fs=>H dx=some (.own a)∧fs.length≤1000∧dx≠a∧h.get? a=some (Gs C dx) ∧
  ∃mA,h.Ns1 dx mA∧(∀f,YY (fs.lookup f) (mA f))∧PySem.Within mA (fs.map (·.1))
 |.own _=>∃o,h.get? a=some o
 |.xd fs=>∃mA,h.Ns1 a mA∧∀f,YY (fs.lookup f) (mA f)
 |.rng lo hi=>∃t u v,h.get? a=some {cls:=.type "range",data:=.fields #[.int lo t,.int hi u,.int 1 v]}
 |.frz o u=>h.get? a=some o∧z9 H h a u
 |.tbl ps=>h.get? a=some {cls:=.none,data:=.fields ps}
 |.met f x=>h.get? a=some (FG (.ref f) (.ref x))
 |.ext φ=>φ h∧(∃o,h.get? a=some o)∧∀h1 h2:Heap,φ h1→(∀o,h1.get? a=some o→h2.get? a=some o)→φ h2
def HOk(H:Hp)(h:Heap):Prop:=∀a o,H a=some o→z9 P w H h a o
end
section
variable {P:Program}{w:World}{H H':Hp}{h h':Heap}{a:Addr}{o:HO}
theorem z9.lt(x:z9 P w H h a o):a<h.objs.size:=by
 cases o with
 |lst xs=>obtain⟨_,_,_,_,e⟩:=x;exact An e
 |tup xs=>obtain⟨_,_,_,p⟩:=x;exact p.lt
 |dK kvs=>obtain⟨_,_,_,_,o,_,_,e,_⟩:=x;exact An e
 |dT kvs=>obtain⟨_,_,_,_,o,_,_,e,_⟩:=x;exact An e
 |set S n=>obtain⟨o,_,_,_,e,_⟩:=x;exact An e
 |ins C dx fs=>obtain⟨_,_,_,e,_⟩:=x;exact An e
 |own y=>obtain⟨_,e⟩:=x;exact An e
 |xd fs=>obtain⟨_,⟨_,_,_,e,_⟩,_⟩:=x;exact An e
 |rng lo hi=>obtain⟨_,_,_,e⟩:=x;exact An e
 |frz ob u=>obtain⟨e,_⟩:=x;exact An e
 |tbl ps=>exact An (show h.get? a=some _ from x)
 |met f y=>exact An (show h.get? a=some _ from x)
 |ext φ=>obtain⟨_,⟨_,e⟩,_⟩:=x;exact An e
theorem Paired.Vz{α β:Type}{F G:α→β→Prop}:∀{l₁:List α} {l₂:List β},Paired F l₁ l₂→(∀a b,F a b→G a b)→Paired G l₁ l₂
 |_,_,.nil,_=>.nil
 |_,_,.cons r t,f=>.cons (f _ _ r) (Paired.Vz t f)
theorem z9.qP(x:z9 P w H h a o)(k:∀b u,(b=a∨H b=some (.own a))→h.get? b=some u→h'.get? b=some u)
 (ho:∀b,H b=some (.own a)→H' b=some (.own a)) (ht:∀b xs,H b=some (.tup xs)→H' b=some (.tup xs)):z9 P w H' h' a o:=by
 induction o with
 |lst xs=>obtain⟨z,its,n,r,e⟩:=x;exact⟨z,its,n,r,k _ _ (.inl rfl) e⟩
 |tup xs=>obtain⟨z,its,r,ob,e,c⟩:=x;exact⟨z,its,r,ob,k _ _ (.inl rfl) e,c⟩
 |dK kvs=>obtain⟨z,y,vs,r,ob,es,ep,e,c⟩:=x;exact⟨z,y,vs,r,ob,es,ep,k _ _ (.inl rfl) e,c⟩
 |dT kvs=>
  obtain⟨z,y,xs,r,ob,es,ep,e,c⟩:=x
  exact⟨z,y,xs,Paired.Vz r fun p q z=>⟨z.1,ht _ _ z.2.1,z.2.2⟩,ob,es,ep,k _ _ (.inl rfl) e,c⟩
 |set S n=>obtain⟨ob,es,ep,t,e,c⟩:=x;exact⟨ob,es,ep,t,k _ _ (.inl rfl) e,c⟩
 |ins C dx fs=>
  obtain⟨d,z,ne,e,mA,⟨od,es,ep,e2,c⟩,r⟩:=x
  exact⟨ho _ d,z,ne,k _ _ (.inl rfl) e,mA,⟨od,es,ep,k _ _ (.inr d) e2,c⟩,r⟩
 |own y=>obtain⟨ob,e⟩:=x;exact⟨ob,k _ _ (.inl rfl) e⟩
 |xd fs=>obtain⟨mA,⟨od,es,ep,e,c⟩,r⟩:=x;exact⟨mA,⟨od,es,ep,k _ _ (.inl rfl) e,c⟩,r⟩
 |rng lo hi=>obtain⟨t,u,v,e⟩:=x;exact⟨t,u,v,k _ _ (.inl rfl) e⟩
 |frz ob u ih=>obtain⟨e,q⟩:=x;exact⟨k _ _ (.inl rfl) e,ih q⟩
 |tbl ps=>
  have e:h.get? a=some {cls:=.none,data:=.fields ps}:=x
  show h'.get? a=some {cls:=.none,data:=.fields ps}
  exact k a _ (.inl rfl) e
 |met f y=>
  have e:h.get? a=some (FG (.ref f) (.ref y)):=x
  show h'.get? a=some (FG (.ref f) (.ref y))
  exact k a _ (.inl rfl) e
 |ext φ=>obtain⟨p,⟨o,e⟩,st⟩:=x;exact⟨st _ _ p fun o q=>k _ _ (.inl rfl) q,⟨o,k _ _ (.inl rfl) e⟩,st⟩
theorem HOk.lt(x:HOk P w H h)(e:H a=some o):a<h.objs.size:=(x a o e).lt
theorem HOk.fresh(x:HOk P w H h)(e:h.objs.size≤a):H a=none:=by
 cases q:H a with
 |none=>rfl
 |some u=>exact absurd (AA (x.lt q) e) (Bb _)
theorem HOk.kept(x:HOk P w H h)(k:∀b u,h.get? b=some u→h'.get? b=some u):HOk P w H h':=fun a o e=>
 (x a o e).qP (fun b u _ q=>k b u q) (fun _ q=>q) fun _ _ q=>q
theorem HOk.laid(x:HOk P w H h)(k:∀b u,h.get? b=some u→h'.get? b=some u)(hp:h.objs.size≤a)(new:z9 P w (upd H a o) h' a o):HOk P w (upd H a o) h':=fun b u e=>by
 have hn:=x.fresh hp
 by_cases hb:b=a
 . subst hb;rw[zN]at e;cases e;exact new
 . rw[zI hb]at e
   exact(x b u e).qP (fun c v _ q=>k c v q) (fun c q=>by rw[zI (zR q hn)];exact q) fun c xs q=>by rw[zI (zR q hn)];exact q
end
def Rd(H:Hp)(a:Addr)(u:HO):Prop:=H a=some u∨∃o,H a=some (.frz o u)
theorem Rd.ok{P:Program}{w:World}{H:Hp}{h:Heap}{a:Addr}{u:HO}(r:Rd H a u)(x:HOk P w H h):z9 P w H h a u:=by
 rcases r with r|⟨o,r⟩
 . exact x a u r
 . obtain⟨_,q⟩:=x a _ r
   exact q
noncomputable def Mut:Option HO→Prop
 |some (.lst _)=>True
 |some (.dK _)=>True
 |some (.dT _)=>True
 |some (.set _ _)=>True
 |some (.ins _ _ _)=>True
 |some (.ext _)=>True
 |_=>False
section
variable {P:Program}{w:World}{H:Hp}{h h':Heap}{x e:Addr}{o':HO}
theorem HOk.write(ok:HOk P w H h)(mu:Mut (H x))(he:e=x∨H e=some (.own x))(k:∀b u,b≠e→h.get? b=some u→h'.get? b=some u)(heo:∃u,h'.get? e=some u)
 (new:z9 P w (upd H x o') h' x o'):HOk P w (upd H x o') h':=fun b u q=>by
 have nown:∀c y,H c=some (.own y)→c≠x:=fun c y r z=>by subst z;rw[r]at mu;exact mu
 have ntup:∀c xs,H c=some (.tup xs)→c≠x:=fun c xs r z=>by subst z;rw[r]at mu;exact mu
 by_cases hb:b=x
 . subst hb;rw[zN]at q;cases q;exact new
 . rw[zI hb]at q
   by_cases hbe:b=e
   . have q':H b=some (.own x):=by
      rcases he with z|z
      . exact absurd (hbe.trans z) hb
      . rw[hbe];exact z
     rw[q]at q';cases q'
     obtain⟨v,hv⟩:=heo
     exact⟨v,by rw[hbe];exact hv⟩
   . refine(ok b u q).qP (fun c v hc r=>k c v ?_ r) (fun c r=>by rw[zI (nown c b r)];exact r) fun c xs r=>by rw[zI (ntup c xs r)];exact r
     rcases hc with rfl|hc
     . exact hbe
     . rintro rfl
       rcases he with z|z
       . exact nown c b hc z
       . rw[hc]at z;cases z;exact hb rfl
end
structure Un(fs ex:List Addr)(H H':Hp)(h h':Heap):Prop where
 keep:∀b o,h.get? b=some o→H b=none→b ∉ fs→b ∉ ex→h'.get? b=some o
 slot:∀b o,h.get? b=some o→H b=none→b∈fs→b ∉ ex→∃sl,h'.get? b=some {o with slots:=sl}
 free:∀b o,h.get? b=some o→H b=none→b ∉ ex→H' b=none
 there:∀b o,h.get? b=some o→b ∉ ex→∃o',h'.get? b=some o'
 tups:∀b xs,H b=some (.tup xs)→H' b=some (.tup xs)
 frzs:∀b o u,H b=some (.frz o u)→H' b=some (.frz o u)
 tbls:∀b ps,H b=some (.tbl ps)→∃more,H' b=some (.tbl (ps++more))
section
variable {fs fs' ex ex':List Addr}{H H1 H2:Hp}{h h1 h2 h':Heap}{a x e:Addr}{o:HO}
theorem Un.any(u:Un fs ex H H1 h h1){b:Addr}{ob:Obj}(q:h.get? b=some ob)(n:H b=none)(hx:b ∉ ex):∃sl,h1.get? b=some {ob with slots:=sl}:=by
 by_cases hb:b∈fs
 . exact u.slot b ob q n hb hx
 . exact⟨ob.slots,u.keep b ob q n hb hx⟩
theorem Un.kept(k:∀b u,h.get? b=some u→h'.get? b=some u):Un fs ex H H h h':=
 ⟨fun b ob q _ _ _=>k b ob q,fun b ob q _ _ _=>⟨ob.slots,k b ob q⟩,fun _ _ _ n _=>n,fun b ob q _=>⟨ob,k b ob q⟩,fun _ _ q=>q,fun _ _ _ q=>q,fun _ ps q=>⟨#[],by rw[q];simp⟩⟩
theorem Un.refl:Un fs ex H H h h:=Un.kept fun _ _ q=>q
theorem Un.laid(k:∀b u,h.get? b=some u→h'.get? b=some u)(hp:h.objs.size≤a)(hn:H a=none):Un fs ex H (upd H a o) h h' where
 keep:=fun b u q _ _ _=>k b u q
 slot:=fun b u q _ _ _=>⟨u.slots,k b u q⟩
 free:=fun b u q n _=>by rw[zI (AD (AA (An q) hp))];exact n
 there:=fun b u q _=>⟨u,k b u q⟩
 tups:=fun b xs q=>by rw[zI (zR q hn)];exact q
 frzs:=fun b u xs q=>by rw[zI (zR q hn)];exact q
 tbls:=fun b ps q=>⟨#[],by rw[zI (zR q hn),q];simp⟩
theorem Un.write(mu:Mut (H x))(he:e=x∨H e=some (.own x))(k:∀b u,b≠e→h.get? b=some u→h'.get? b=some u)(heo:∃u,h'.get? e=some u):Un fs ex H (upd H x o) h h':=by
 have hx:∀b,H b=none→b≠x:=fun b n z=>by subst z;rw[n]at mu;exact mu
 have hb:∀b,H b=none→b≠e:=fun b n z=>by
  subst z
  rcases he with r|r
  . exact hx b n r
  . rw[n]at r;cases r
 have hm:∀b u,H b=some u→¬Mut (some u)→b≠x:=fun b u q nm z=>by subst z;rw[q]at mu;exact nm mu
 refine⟨fun b u q n _ _=>k b u (hb b n) q,fun b u q n _ _=>⟨u.slots,k b u (hb b n) q⟩,fun b u q n _=>by rw[zI (hx b n)];exact n,fun b u q _=>?_,
  fun b xs q=>by rw[zI (hm b _ q fun z=>z)];exact q,fun b u xs q=>by rw[zI (hm b _ q fun z=>z)];exact q,fun b ps q=>⟨#[],by rw[zI (hm b _ q fun z=>z),q];simp⟩⟩
 by_cases hbe:b=e
 . subst hbe;exact heo
 . exact⟨u,k b u hbe q⟩
end
noncomputable def trk(h:Heap)(H:Hp):List Addr:=(AE h.objs.size).filter fun a=>(H a).isSome
noncomputable def ph(h:Heap)(H:Hp):Heap:=PySem.W.hideAll h (trk h H)
theorem jy(h:Heap)(H:Hp):(ph h H).objs.size=h.objs.size:=PySem.W.hideAll_size _ _
theorem fO{h:Heap}{H:Hp}{b:Addr}{o:Obj}(e:h.get? b=some o)(n:H b=none):(ph h H).get? b=some o:=
 PySem.W.hideAll_get _ e fun hm=>by
  have q:(H b).isSome=true:=(BX.mp hm).2
  rw[n]at q;simp at q
theorem ah{h:Heap}{H:Hp}{b:Addr}{o:Obj}(e:(ph h H).get? b=some o):h.get? b=some o∧H b=none:=by
 have e':h.get? b=some o:=PySem.W.of_hideAll (trk h H) e
 refine⟨e',?_⟩
 cases q:H b with
 |none=>rfl
 |some x=>
  have hm:b∈trk h H:=BX.mpr ⟨AW.mpr (An e'),by simp[q]⟩
  have z:(ph h H).get? b=none:=PySem.W.hideAll_none (trk h H) hm
  rw[z]at e;cases e
end L2
namespace L2
open PySem PySem.Spec PyProof.Rows
structure Mod(K:Af)(mg:Str→Option Value)(base:Heap):Prop where
 kin:K.In base
 glob:base.Ns AL mg
 blt:∃mb,base.Ns FR mb∧∀x:Str,x≠"__name__"→mb x=Ca x
 nolimit:base.NoLimit
structure Cx where
 prog:Program
 w:World
 K:Af
 mg:Str→Option Value
 base:Heap
 A:Around
 N:List Str
 s₀:Shared
 H₀:Hp
 env:Env
 outer:List Env
 stack:List Env
 ex:List Addr
 fn:Str→Bool
 calm:Bool
 pn:List (Addr × Obj)
 xe:Value→Shared→Prop
noncomputable def frs(l:List Env):List Addr:=l.filterMap (·.frame)
noncomputable abbrev Cx.fs(X:Cx):List Addr:=frs X.outer
def Vis(sc:Scope)(x:Str):Prop:=sc.names.lookup x=some .local∨sc.names.lookup x=some .cell∨sc.names.lookup x=some .free
def Loc(sc:Scope)(x:Str):Prop:=sc.names.lookup x=some .local∨sc.names.lookup x=some .cell
def Look(env:Env)(h:Heap)(m:Str→Option Value)(x:Str)(u:Value):Prop:=
 (env.kindOf x=some .local∧m x=some u)∨((env.kindOf x=some .cell∨env.kindOf x=some .free)∧∃c,env.cells.lookup x=some c∧h.IsCell c (some u))
structure Cx.Ok(X:Cx):Prop where
 mod:Mod X.K X.mg X.base
 kind:X.env.scope.kind=.function
 glob:X.env.globals=AL
 blt:X.env.builtins=FR
 above:X.s₀.heap.objs.size≤X.env.locals
 inj:∀x y c,X.env.cells.lookup x=some c→X.env.cells.lookup y=some c→x=y
 has:∀x,(X.env.kindOf x=some .cell∨X.env.kindOf x=some .free)→∃c,X.env.cells.lookup x=some c
 cab:∀x c,X.fn x=true→X.env.cells.lookup x=some c→X.s₀.heap.objs.size≤c
 hd:X.calm=true→X.A.handled=none
 frames:X.A.frames=some X.stack
 stk:X.stack=X.outer∨(X.stack=X.env::X.outer∧X.env.frame=some X.env.locals)
 exf:∀b∈X.ex,b≠X.env.locals∧∀x c,X.env.cells.lookup x=some c→c≠b
 bs:∀b o,X.base.get? b=some o→X.s₀.heap.get? b=some o∧X.H₀ b=none
 bsz:X.base.objs.size≤X.s₀.heap.objs.size
 noex:∀b o,X.base.get? b=some o→b ∉ X.ex
 exfs:∀b∈X.ex,b ∉ X.fs
 vv:X.s₀.heap.FunFrames X.base X.outer
 frf:∀b∈X.fs,X.H₀ b=none
structure Inv(X:Cx)(pins:List (Addr × Obj))(σ:List (Option V))(H:Hp)(s:Shared):Prop where
 ok:X.Ok
 os:s.os=X.s₀.os
 bare:AllBare s.gens
 base:Un X.fs X.ex X.H₀ H X.s₀.heap s.heap
 loc:∃m,s.heap.Ns X.env.locals m∧∀(i:Nat) (x:Str) (v:V),X.N[i]?=some x→σ[i]?=some (some v)→Vis X.env.scope x→∃u,RelV v u∧Look X.env s.heap m x u
 cell:∀x c,X.env.cells.lookup x=some c→∃v,s.heap.IsCell c v
 free:H X.env.locals=none
 freeC:∀x c,X.env.cells.lookup x=some c→H c=none
 pin:∀p∈X.pn++pins,s.heap.get? p.1=some p.2∧H p.1=none∧p.1≠X.env.locals∧p.1 ∉ X.fs∧∀v,p.2.data≠.cell v
 hok:HOk X.prog X.w H s.heap
 len:σ.length=X.N.length
section
variable {X:Cx}{pins:List (Addr × Obj)}{σ:List (Option V)}{H H':Hp}{s:Shared}{h':Heap}
theorem Cx.Ok.Tb(ok:X.Ok){b:Addr}{o:Obj}(e:X.base.get? b=some o):b ∉ X.fs:=fun hb=>by
 have:=(ok.vv.mem hb).1
 rw[e]at this;cases this
theorem Inv.bs(I:Inv X pins σ H s):∀b o,X.base.get? b=some o→s.heap.get? b=some o∧H b=none:=fun b o e=>
 ⟨I.base.keep b o (I.ok.bs b o e).1 (I.ok.bs b o e).2 (I.ok.Tb e) (I.ok.noex b o e),I.base.free b o (I.ok.bs b o e).1 (I.ok.bs b o e).2 (I.ok.noex b o e)⟩
theorem Inv.bk(I:Inv X pins σ H s):∀b o,X.base.get? b=some o→s.heap.get? b=some o:=fun b o e=>(I.bs b o e).1
theorem Inv.mod(I:Inv X pins σ H s):Mod X.K X.mg X.base:=I.ok.mod
theorem Inv.kIn(I:Inv X pins σ H s):X.K.In s.heap:=I.ok.mod.kin.keeps I.bk
theorem Inv.lt(I:Inv X pins σ H s):X.env.locals<s.heap.objs.size:=let ⟨_,hn,_⟩:=I.loc;hn.lt
theorem Inv.sz(I:Inv X pins σ H s):X.s₀.heap.objs.size≤s.heap.objs.size:=Ax I.ok.above (DI I.lt)
theorem Inv.Tc(I:Inv X pins σ H s){a:Addr}(h:s.heap.objs.size≤a):a ∉ X.fs:=fun hb=>by
 obtain⟨_,o,ho,_⟩:=I.ok.vv.mem hb
 exact absurd (AA (An ho) (Ax I.sz h)) (Bb _)
theorem Inv.cne(I:Inv X pins σ H s):∀x c,X.env.cells.lookup x=some c→c≠X.env.locals:=fun x c e z=>by
 obtain⟨v,o,ho,hd⟩:=I.cell x c e
 obtain⟨m,⟨o',es,ep,ho',hd',_⟩,_⟩:=I.loc
 rw[z,ho']at ho;cases ho;rw[hd']at hd;cases hd
theorem Inv.vv(I:Inv X pins σ H s):s.heap.FunFrames X.base X.outer:=by
 have all:∀(l:List Env),(∀b∈frs l,b∈X.fs)→X.s₀.heap.FunFrames X.base l→s.heap.FunFrames X.base l:=by
  intro l
  induction l with
  |nil=>intro _ _;trivial
  |cons env r ih=>
   intro hs hl
   obtain⟨hk,⟨L,o,hf,hn,ho,hd⟩,hr⟩:=hl
   have hL:L∈X.fs:=hs L (by unfold frs;rw[A3,hf];exact Av)
   obtain⟨sl,e⟩:=I.base.slot L o ho (I.ok.frf L hL) hL fun z=>I.ok.exfs L z hL
   exact⟨hk,⟨L,_,hf,hn,e,hd⟩,ih (fun b hb=>hs b (by unfold frs;rw[A3,hf];exact Ao _ hb)) hr⟩
 exact all X.outer (fun _ hb=>hb) I.ok.vv
theorem Inv.stack(I:Inv X pins σ H s):s.heap.FunFrames X.base X.stack:=by
 rcases I.ok.stk with e|⟨e,hf⟩
 . rw[e];exact I.vv
 . rw[e]
   obtain⟨m,hn,_⟩:=I.loc
   refine .cons (by rw[I.ok.kind];decide) hf hn ?_ I.vv
   exact EF (Ax I.ok.bsz I.ok.above)
theorem Inv.oj(I:Inv X pins σ H s):∀b∈frs X.stack,b∈X.env.locals::X.fs:=fun b hb=>by
 rcases I.ok.stk with e|⟨e,hf⟩
 . rw[e]at hb;exact Ao _ hb
 . rw[e]at hb
   unfold frs at hb
   rw[A3,hf]at hb
   exact hb
theorem Inv.oi(I:Inv X pins σ H s):∀b∈frs X.stack,H b=none:=fun b hb=>by
 rcases Ak.mp (I.oj b hb) with e|hb
 . rw[e];exact I.free
 . obtain⟨_,o,ho,_⟩:=I.ok.vv.mem hb
   exact I.base.free b o ho (I.ok.frf b hb) fun z=>I.ok.exfs b z hb
theorem Inv.step{g':Array FX}{t':Nat}{d':Drawn}{ch:List Addr}(I:Inv X pins σ H s)
 (hch:∀b∈ch,(b∈X.ex∨X.s₀.heap.objs.size≤b)∧b≠X.env.locals∧(∀x c,X.env.cells.lookup x=some c→c≠b)∧∀p∈X.pn++pins,p.1≠b)
 (keep:∀b o,b≠X.env.locals→b ∉ X.fs→b ∉ ch→s.heap.get? b=some o→H b=none→h'.get? b=some o)
 (slot:∀b o,b≠X.env.locals→b∈X.fs→b ∉ ch→s.heap.get? b=some o→H b=none→∃sl,h'.get? b=some {o with slots:=sl}) (free:∀b o,b ∉ ch→s.heap.get? b=some o→H b=none→H' b=none)
 (there:∀b o,b ∉ ch→s.heap.get? b=some o→∃o',h'.get? b=some o')
 (tups:∀b xs,H b=some (.tup xs)→H' b=some (.tup xs)) (frzs:∀b o u,H b=some (.frz o u)→H' b=some (.frz o u)) (tbls:∀b ps,H b=some (.tbl ps)→∃more,H' b=some (.tbl (ps++more)))
 (ns:∀m,s.heap.Ns X.env.locals m→h'.Ns X.env.locals m) (hok:HOk X.prog X.w H' h') (hg:AllBare g') :
 Inv X pins σ H' {s with heap:=h',gens:=g',drawn:=d',toks:=t'}:=by
 have neL:∀b o,X.s₀.heap.get? b=some o→b≠X.env.locals:=fun b o e=>AD (AA (An e) I.ok.above)
 have neC:∀b o,X.s₀.heap.get? b=some o→b ∉ X.ex→b ∉ ch:=fun b o e hx hb=>by
  rcases (hch b hb).1 with z|z
  . exact hx z
  . exact absurd (AA (An e) z) (Bb _)
 have cellK:∀x c,X.env.cells.lookup x=some c→∀v,s.heap.IsCell c v→h'.IsCell c v:=fun x c e v ⟨o,ho,hd⟩=>by
  have nch:c ∉ ch:=fun z=>(hch c z).2.2.1 x c e rfl
  by_cases hc:c∈X.fs
  . obtain⟨sl,q⟩:=slot c o (I.cne x c e) hc nch ho (I.freeC x c e)
    exact⟨_,q,hd⟩
  . exact⟨o,keep c o (I.cne x c e) hc nch ho (I.freeC x c e),hd⟩
 refine⟨I.ok,I.os,hg,⟨fun b o e n hb hx=>?_,fun b o e n hb hx=>?_,fun b o e n hx=>?_,fun b o e hx=>?_,fun b xs e=>tups b xs (I.base.tups b xs e),fun b o xs e=>frzs b o xs (I.base.frzs b o xs e),fun b ps e=>?_⟩,?_,fun x c e=>?_,?_,fun x c e=>?_,fun p hp=>?_,hok,I.len⟩
 . exact keep b o (neL b o e) hb (neC b o e hx) (I.base.keep b o e n hb hx) (I.base.free b o e n hx)
 . obtain⟨sl,e1⟩:=I.base.slot b o e n hb hx
   obtain⟨sl',e2⟩:=slot b _ (neL b o e) hb (neC b o e hx) e1 (I.base.free b o e n hx)
   exact⟨sl',e2⟩
 . obtain⟨o',e1⟩:=I.base.there b o e hx
   exact free b o' (neC b o e hx) e1 (I.base.free b o e n hx)
 . obtain⟨o',e1⟩:=I.base.there b o e hx
   exact there b o' (neC b o e hx) e1
 . obtain⟨m1,e1⟩:=I.base.tbls b ps e
   obtain⟨m2,e2⟩:=tbls b _ e1
   exact⟨m1++m2,by rw[e2,Array.append_assoc]⟩
 . obtain⟨m,hn,hl⟩:=I.loc
   refine⟨m,ns m hn,fun i x v e1 e2 e3=>?_⟩
   obtain⟨u,r,l⟩:=hl i x v e1 e2 e3
   refine⟨u,r,?_⟩
   rcases l with l|⟨k,c,e,z⟩
   . exact .inl l
   . exact .inr ⟨k,c,e,cellK x c e _ z⟩
 . obtain⟨v,z⟩:=I.cell x c e
   exact⟨v,cellK x c e v z⟩
 . obtain⟨m,⟨o,_,_,ho,_⟩,_⟩:=I.loc
   exact free _ o (fun z=>(hch _ z).2.1 rfl) ho I.free
 . obtain⟨v,o,ho,hd⟩:=I.cell x c e
   exact free c o (fun z=>(hch c z).2.2.1 x c e rfl) ho (I.freeC x c e)
 . obtain⟨e,n,ne,nf,d⟩:=I.pin p hp
   have nch:p.1 ∉ ch:=fun z=>(hch p.1 z).2.2.2 p hp rfl
   exact⟨keep p.1 p.2 ne nf nch e n,free p.1 p.2 nch e n,ne,nf,d⟩
theorem Inv.un{t':Nat}(I:Inv X pins σ H s)(u:Un X.fs [] H H' s.heap h')(hok:HOk X.prog X.w H' h'):Inv X pins σ H' {s with heap:=h',toks:=t'}:=by
 obtain⟨m,⟨o,es,ep,ho,r⟩,_⟩:=id I.loc
 obtain⟨sl,hL⟩:=u.any ho I.free (by simp)
 exact I.step (g':=s.gens) (d':=s.drawn) (ch:=[]) (fun _ z=>nomatch z) (fun b o _ hb _ e n=>u.keep b o e n hb (by simp)) (fun b o _ hb _ e n=>u.slot b o e n hb (by simp)) (fun b o _ e n=>u.free b o e n (by simp)) (fun b o _ e=>u.there b o e (by simp)) u.tups u.frzs u.tbls (fun m' hm=>by
  obtain⟨o',es',ep',ho',r'⟩:=hm
  rw[ho]at ho';cases ho'
  exact⟨_,es',ep',hL,r'⟩) hok I.bare
theorem Inv.call{g':Array FX}{t':Nat}{d':Drawn}{ch:List Addr}(I:Inv X pins σ H s)(u:Un (frs X.stack) ch H H' s.heap h')(hok:HOk X.prog X.w H' h')(hg:AllBare g')
 (hch:∀b∈ch,(b∈X.ex∨X.s₀.heap.objs.size≤b)∧b≠X.env.locals∧(∀x c,X.env.cells.lookup x=some c→c≠b)∧∀p∈X.pn++pins,p.1≠b) :
 Inv X pins σ H' {s with heap:=h',gens:=g',drawn:=d',toks:=t'}:=by
 obtain⟨m,⟨o,es,ep,ho,r⟩,_⟩:=id I.loc
 obtain⟨sl,hL⟩:=u.any ho I.free fun z=>(hch _ z).2.1 rfl
 exact I.step (ch:=ch) hch (fun b o hL hb hc e n=>u.keep b o e n (fun z=>(Ak.mp (I.oj b z)).elim hL hb) hc) (fun b o _ _ hc e n=>u.any e n hc) (fun b o hc e n=>u.free b o e n hc) (fun b o hc e=>u.there b o e hc) u.tups u.frzs u.tbls (fun m' hm=>by
  obtain⟨o',es',ep',ho',r'⟩:=hm
  rw[ho]at ho';cases ho'
  exact⟨_,es',ep',hL,r'⟩) hok hg
theorem Inv.turned{t':Nat}{it:Addr}(I:Inv X pins σ H s)(k:∀b o,b≠it→s.heap.get? b=some o→h'.get? b=some o)(hn:H it=none)(hL:it≠X.env.locals)
 (h1:it∈X.ex∨X.s₀.heap.objs.size≤it) (h2:∀x c,X.env.cells.lookup x=some c→c≠it) (h3:∀p∈X.pn++pins,p.1≠it):Inv X pins σ H {s with heap:=h',toks:=t'}:=by
 have nit:∀b u,H b=some u→b≠it:=fun b u e z=>by rw[z,hn]at e;cases e
 refine I.step (g':=s.gens) (d':=s.drawn) (ch:=[it]) (fun b hb=>?_) (fun b o _ _ hc e _=>k b o (fun z=>hc (by simp[z])) e) (fun b o _ _ hc e _=>⟨o.slots,k b o (fun z=>hc (by simp[z])) e⟩) (fun _ _ _ _ n=>n)
  (fun b o hc e=>⟨o,k b o (fun z=>hc (by simp[z])) e⟩) (fun _ _ e=>e) (fun _ _ _ e=>e) (fun b ps e=>⟨#[],by rw[e];simp⟩) (fun m hm=>?_) (fun b u e=>?_) I.bare
 . have e:b=it:=by simpa using hb
   subst e
   exact⟨h1,hL,h2,h3⟩
 . obtain⟨o,es,ep,ho,r⟩:=hm
   exact⟨o,es,ep,k _ o (Bp hL) ho,r⟩
 . refine(I.hok b u e).qP (fun c v hc q=>k c v ?_ q) (fun _ q=>q) fun _ _ q=>q
   rcases hc with z|z
   . rw[z];exact nit b u e
   . exact nit c _ z
theorem Inv.tok(I:Inv X pins σ H s)(t:Nat):Inv X pins σ H {s with toks:=t}:=I.un (h':=s.heap) (t':=t) Un.refl I.hok
theorem Inv.kept{t':Nat}(I:Inv X pins σ H s)(k:∀b u,s.heap.get? b=some u→h'.get? b=some u):Inv X pins σ H {s with heap:=h',toks:=t'}:=I.un (Un.kept k) (I.hok.kept k)
theorem Inv.laid{a:Addr}{o:HO}{t':Nat}(I:Inv X pins σ H s)(k:∀b u,s.heap.get? b=some u→h'.get? b=some u)(hp:s.heap.objs.size≤a)(new:z9 X.prog X.w (upd H a o) h' a o) :
 Inv X pins σ (upd H a o) {s with heap:=h',toks:=t'}:=I.un (Un.laid k hp (I.hok.fresh hp)) (I.hok.laid k hp new)
theorem Inv.write{x e:Addr}{o:HO}{t':Nat}(I:Inv X pins σ H s)(mu:Mut (H x))(he:e=x∨H e=some (.own x))(k:∀b u,b≠e→s.heap.get? b=some u→h'.get? b=some u)(heo:∃u,h'.get? e=some u)
 (new:z9 X.prog X.w (upd H x o) h' x o):Inv X pins σ (upd H x o) {s with heap:=h',toks:=t'}:=I.un (Un.write mu he k heo) (I.hok.write mu he k heo new)
theorem Inv.oQ{pins':List (Addr × Obj)}(I:Inv X pins σ H s)(h:∀p∈pins',s.heap.get? p.1=some p.2∧H p.1=none∧p.1≠X.env.locals∧p.1 ∉ X.fs∧∀v,p.2.data≠.cell v):Inv X pins' σ H s:=
 ⟨I.ok,I.os,I.bare,I.base,I.loc,I.cell,I.free,I.freeC,fun p hp=>(AN.mp hp).elim (fun z=>I.pin p (Bc _ z)) (h p),I.hok,I.len⟩
theorem ni{N:List Str}(hN:N.Nodup){i j:Nat}{x:Str}(a:N[i]?=some x)(b:N[j]?=some x):i=j:=by
 obtain⟨h1,e1⟩:=As.mp a
 obtain⟨h2,e2⟩:=As.mp b
 exact(List.getElem_inj hN).mp (e1.trans e2.symm)
theorem pB{M:Model}{A:Around}{E:Value→Shared→Prop}{i:Nat}{x:Str}{v:V}{u:Value}{Q:Unit→Shared→Prop}(I:Inv X pins σ H s)(hN:X.N.Nodup)(hi:X.N[i]?=some x)(hx:Loc X.env.scope x)(r:RelV v u)
 (h:∀s',Inv X pins (σ.set i (some v)) H s'→(∃a,DJ a s.heap s'.heap∧(a=X.env.locals∨X.env.cells.lookup x=some a))→Q () s') (hf:X.fn x=true∨X.env.scope.names.lookup x=some .local:=by first|exact .inl rfl|exact .inr rfl|assumption):wpAny M A (storeName X.env x u) Q E s:=by
 obtain⟨m,hn,hl⟩:=id I.loc
 have hcls:(X.env.scope.kind == .class||(X.env.scope.kind == .module&&X.env.locals != X.env.globals))=false:=by rw[I.ok.kind];rfl
 have hiσ:i<σ.length:=by rw[I.len];exact(As.mp hi).1
 have cne:=I.cne
 have tracked:∀{a:Addr} {h':Heap},(∃o,s.heap.get? a=some o∧H a=none)→DJ a s.heap h'→HOk X.prog X.w H h':=fun{a h'} ha hs b ob e=>by
  obtain⟨_,_,hfree⟩:=ha
  refine(I.hok b ob e).qP (fun c w' hc q=>(hs.2 c ?_).trans q) (fun _ q=>q) fun _ _ q=>q
  rintro rfl
  rcases hc with rfl|hc
  . rw[hfree]at e;cases e
  . rw[hfree]at hc;cases hc
 rcases hx with hk|hk
 . refine wpAny_storeName_local hk hn (fun h' hn' hs=>?_) hcls
   obtain⟨oL,_,_,hoL,_⟩:=id hn
   refine h _ ⟨I.ok,I.os,I.bare,⟨fun b o e n hb hx=>?_,fun b o e n hb hx=>?_,I.base.free,fun b o e hx=>?_,I.base.tups,I.base.frzs,I.base.tbls⟩,⟨_,hn',fun j y v' e1 e2 e3=>?_⟩,fun y c e=>?_,I.free,I.freeC,fun p hp=>?_,tracked ⟨oL,hoL,I.free⟩ hs,by simpa using I.len⟩ ⟨_,hs,.inl rfl⟩
   . exact(hs.2 b (AD (AA (An e) I.ok.above))).trans (I.base.keep b o e n hb hx)
   . obtain⟨sl,e1⟩:=I.base.slot b o e n hb hx
     exact⟨sl,(hs.2 b (AD (AA (An e) I.ok.above))).trans e1⟩
   . obtain⟨o',e1⟩:=I.base.there b o e hx
     exact⟨o',(hs.2 b (AD (AA (An e) I.ok.above))).trans e1⟩
   . by_cases hj:j=i
     . subst hj
       rw[hi]at e1;cases e1
       rw[AR hiσ]at e2
       cases e2
       exact⟨u,r,.inl ⟨hk,by simp⟩⟩
     . rw[BJ (Bp hj)]at e2
       obtain⟨u',r',q⟩:=hl j y v' e1 e2 e3
       refine⟨u',r',?_⟩
       rcases q with⟨k,e⟩|⟨k,c,e,z⟩
       . refine .inl ⟨k,?_⟩
         have:y≠x:=fun e=>hj (ni hN e1 (e▸hi))
         simp[this,e]
       . exact .inr ⟨k,c,e,z.sameBut hs (cne y c e)⟩
   . obtain⟨w',z⟩:=I.cell y c e
     exact⟨w',z.sameBut hs (cne y c e)⟩
   . obtain⟨e,n,ne,nf,d⟩:=I.pin p hp
     exact⟨(hs.2 p.1 ne).trans e,n,ne,nf,d⟩
 . have hfn:X.fn x=true:=by
    rcases hf with z|z
    . exact z
    . rw[z]at hk;cases hk
   obtain⟨c,hc⟩:=I.ok.has x (.inl hk)
   obtain⟨w',z⟩:=I.cell x c hc
   refine wpAny_storeName_cell I.ok.kind hk hc z (fun h' hc' hs=>?_)
   obtain⟨oc,hoc,hocd⟩:=id z
   refine h {s with heap:=h'} ⟨I.ok,I.os,I.bare,⟨fun b o e n hb hx=>?_,fun b o e n hb hx=>?_,I.base.free,fun b o e hx=>?_,I.base.tups,I.base.frzs,I.base.tbls⟩,⟨m,hn.sameBut hs (Bp (cne x c hc)),fun j y v' e1 e2 e3=>?_⟩,fun y c' e=>?_,I.free,I.freeC,fun p hp=>?_,tracked ⟨oc,hoc,I.freeC x c hc⟩ hs,by simpa using I.len⟩ ⟨c,hs,.inr hc⟩
   . exact(hs.2 b (AD (AA (An e) (I.ok.cab x c hfn hc)))).trans (I.base.keep b o e n hb hx)
   . obtain⟨sl,e1⟩:=I.base.slot b o e n hb hx
     exact⟨sl,(hs.2 b (AD (AA (An e) (I.ok.cab x c hfn hc)))).trans e1⟩
   . obtain⟨o',e1⟩:=I.base.there b o e hx
     exact⟨o',(hs.2 b (AD (AA (An e) (I.ok.cab x c hfn hc)))).trans e1⟩
   . by_cases hj:j=i
     . subst hj
       rw[hi]at e1;cases e1
       rw[AR hiσ]at e2
       cases e2
       exact⟨u,r,.inr ⟨.inl hk,c,hc,hc'⟩⟩
     . rw[BJ (Bp hj)]at e2
       obtain⟨u',r',q⟩:=hl j y v' e1 e2 e3
       refine⟨u',r',?_⟩
       rcases q with q|⟨k,c',e,z'⟩
       . exact .inl q
       . refine .inr ⟨k,c',e,z'.sameBut hs ?_⟩
         rintro rfl
         exact hj (ni hN e1 (I.ok.inj _ _ _ e hc▸hi))
   . by_cases hcc:c'=c
     . subst hcc;exact⟨_,hc'⟩
     . obtain⟨w2,z2⟩:=I.cell y c' e
       exact⟨w2,z2.sameBut hs hcc⟩
   . obtain⟨e,n,ne,nf,d⟩:=I.pin p hp
     refine⟨(hs.2 p.1 ?_).trans e,n,ne,nf,d⟩
     intro q
     rw[q,hoc]at e
     have q':oc=p.2:=AF e
     exact d w' (by rw[←q'];exact hocd)
theorem xQ{M:Model}{A:Around}{E:Value→Shared→Prop}{i:Nat}{x:Str}{v:V}{u:Value}{Q:Unit→Shared→Prop}(I:Inv X pins σ H s)(hN:X.N.Nodup)(hi:X.N[i]?=some x)(hx:Loc X.env.scope x)(r:RelV v u)
 (h:∀s',Inv X pins (σ.set i (some v)) H s'→Q () s') (hf:X.fn x=true∨X.env.scope.names.lookup x=some .local:=by first|exact .inl rfl|exact .inr rfl|assumption):wpAny M A (storeName X.env x u) Q E s:=
 pB I hN hi hx r (fun s' I' _=>h s' I') hf
theorem Inv.VR{s':Shared}{ch:List Addr}(I:Inv X pins σ H s)(ho:s'.os=s.os)(u:Un (frs X.stack) ch H H' s.heap s'.heap)(hok:HOk X.prog X.w H' s'.heap)(hg:AllBare s'.gens)
 (hch:∀b∈ch,(b∈X.ex∨X.s₀.heap.objs.size≤b)∧b≠X.env.locals∧(∀x c,X.env.cells.lookup x=some c→c≠b)∧∀p∈X.pn++pins,p.1≠b):Inv X pins σ H' s':=by
 obtain⟨h',g',d',t',o'⟩:=s'
 have e:o'=s.os:=ho
 subst e
 exact I.call (g':=g') (t':=t') (d':=d') u hok hg hch
end
noncomputable abbrev XK:=Value→Option Addr→Hp→Prop
noncomputable abbrev St:=List (Option V)
noncomputable abbrev VK:=V→Hp→Prop
noncomputable abbrev TE:=St→Hp→VK→Prop
noncomputable abbrev TT:=St→Hp→(Bool→Hp→Prop)→Prop
noncomputable abbrev TA:=St→Hp→(List V→Hp→Prop)→Prop
structure Ends where
 nx:St→Hp→Prop
 rt:VK
 bk:St→Hp→Prop:=fun _ _=>False
 ct:St→Hp→Prop:=fun _ _=>False
noncomputable abbrev TS:=Ends→St→Hp→Prop
def EP(X:Cx)(pins:List (Addr × Obj))(σ:St)(Q:VK)(u:Value)(s':Shared):Prop:=∃v H',Inv X pins σ H' s'∧RelV v u∧Q v H'
def TP(X:Cx)(pins:List (Addr × Obj))(σ:St)(Q:Bool→Hp→Prop)(b:Bool)(s':Shared):Prop:=∃H',Inv X pins σ H' s'∧Q b H'
def AP(X:Cx)(pins:List (Addr × Obj))(σ:St)(Q:List V→Hp→Prop)(us:List Value)(s':Shared):Prop:=∃vs H',Inv X pins σ H' s'∧Vals vs us∧Q vs H'
def SP(X:Cx)(pins:List (Addr × Obj))(D:Ends)(f:Flow)(s':Shared):Prop:=
 match f with
 |.next=>∃σ' H',Inv X pins σ' H' s'∧D.nx σ' H'
 |.brk=>∃σ' H',Inv X pins σ' H' s'∧D.bk σ' H'
 |.cont=>∃σ' H',Inv X pins σ' H' s'∧D.ct σ' H'
 |.ret u=>∃v σ' H',Inv X pins σ' H' s'∧RelV v u∧D.rt v H'
def PE(X:Cx)(e:Expr)(t:TE):Prop:=
 ∀(pins:List (Addr × Obj)) (s:Shared) (σ:St) (H:Hp) (Q:VK),Inv X pins σ H s→t σ H Q→wpAny (model X.prog X.w) X.A (eval e X.env) (EP X pins σ Q) X.xe s
def PT(X:Cx)(e:Expr)(t:TT):Prop:=
 ∀(pins:List (Addr × Obj)) (s:Shared) (σ:St) (H:Hp) (Q:Bool→Hp→Prop),Inv X pins σ H s→t σ H Q→wpAny (model X.prog X.w) X.A (isTrue e X.env (eval e X.env)) (TP X pins σ Q) X.xe s
def PW(X:Cx)(e:Expr)(t:TT):Prop:=
 ∀(whole:Sem Value) (pins:List (Addr × Obj)) (s:Shared) (σ:St) (H:Hp) (Q:Bool→Hp→Prop),Inv X pins σ H s→t σ H Q→wpAny (model X.prog X.w) X.A (isTrue e X.env whole) (TP X pins σ Q) X.xe s
theorem PW.pt{X:Cx}{e:Expr}{t:TT}(h:PW X e t):PT X e t:=h _
def PA(X:Cx)(es:List Expr)(t:TA):Prop:=
 ∀(pos:Pos) (pins:List (Addr × Obj)) (s:Shared) (σ:St) (H:Hp) (Q:List V→Hp→Prop),Inv X pins σ H s→t σ H Q→wpAny (model X.prog X.w) X.A (spliced (backTo pos (AM es X.env))) (AP X pins σ Q) X.xe s
def PS(X:Cx)(st:Stmt)(t:TS):Prop:=
 ∀(pins:List (Addr × Obj)) (s:Shared) (σ:St) (H:Hp) (D:Ends),Inv X pins σ H s→t D σ H→wpAny (model X.prog X.w) X.A (exec st X.env) (SP X pins D) X.xe s
def PSs(X:Cx)(st:List Stmt)(t:TS):Prop:=
 ∀(pins:List (Addr × Obj)) (s:Shared) (σ:St) (H:Hp) (D:Ends),Inv X pins σ H s→t D σ H→wpAny (model X.prog X.w) X.A (execs st X.env) (SP X pins D) X.xe s
theorem thn{α:Type}{t:Sem α}{Q Q':α→Shared→Prop}{M:Model}{A:Around}{E:Value→Shared→Prop}{s:Shared}(h:wpAny M A t Q E s)(hQ:∀a s,Q a s→Q' a s):wpAny M A t Q' E s:=A9 h hQ fun _ _ x=>x
end L2
namespace L2
open PySem PySem.Spec PyProof.Rows
section
variable {X:Cx}
theorem bin{a b:Expr}{ta tb:TE}(ha:PE X a ta)(hb:PE X b tb){pins:List (Addr × Obj)}{s:Shared}{σ:St}{H:Hp}{R:V→V→Hp→Prop}(I:Inv X pins σ H s)(h:ta σ H fun x H1=>tb σ H1 fun y H2=>R x y H2)
 {α:Type} {Q:α→Shared→Prop} {f:Value→Value→Sem α}
 (hf:∀v u s2 x y H2,Inv X pins σ H2 s2→RelV x v→RelV y u→R x y H2→wpAny (model X.prog X.w) X.A (f v u) Q X.xe s2) :
 wpAny (model X.prog X.w) X.A (eval a X.env) (fun v s₁=>wpAny (model X.prog X.w) X.A (eval b X.env) (fun u s₂=>wpAny (model X.prog X.w) X.A (f v u) Q X.xe s₂) X.xe s₁) X.xe s:=by
 refine thn (ha pins s σ H _ I h) fun v s1 ⟨x,H1,I1,r1,q1⟩=>?_
 refine thn (hb pins s1 σ H1 _ I1 q1) fun u s2 ⟨y,H2,I2,r2,q2⟩=>?_
 exact hf v u s2 x y H2 I2 r1 r2 q2
noncomputable def uC(i:Nat):TE:=fun σ H Q=>∃v,σ[i]?=some (some v)∧Q v H
noncomputable def tC(v:V):TE:=fun _ H Q=>Q v H
theorem v8{i:Nat}{x:Str}{pos:Pos}(hN:X.N[i]?=some x)(hv:Vis X.env.scope x)(hd:(x == ("__debug__":Str))=false:=by decide)(hcd:(x == ("__classdict__":Str))=false:=by decide):PE X (.Name x pos) (uC i):=by
 intro pins s σ H Q I h
 obtain⟨v,e,h⟩:=h
 obtain⟨m,hn,hl⟩:=I.loc
 obtain⟨u,r,l⟩:=hl i x v hN e hv
 have fin:EP X pins σ Q u s:=⟨v,H,I,r,h⟩
 rcases l with⟨hk,hm⟩|⟨hk,c,hc,hcell⟩
 . exact wpAny_Name (wpAny_loadName_local I.ok.kind hk hn hm fin) hd
 . rcases hk with hk|hk
   . exact wpAny_Name (wpAny_loadName_cell I.ok.kind hk hc hcell fin) hd
   . exact wpAny_Name (wpAny_loadName_free I.ok.kind hk hc hcell fin hcd) hd
theorem da{i j pos}:PE X (.Constant (.int i) j pos) (tC (.int i)):=fun _ _ _ H _ I h=>wpAny_Constant_int ⟨.int i,H,I.tok _,⟨_,rfl⟩,h⟩
theorem dR{b j pos}:PE X (.Constant (.bool b) j pos) (tC (.bl b)):=fun _ _ _ H _ I h=>Constant_bool ⟨.bl b,H,I,rfl,h⟩
theorem WV{j pos}:PE X (.Constant .none j pos) (tC .non):=fun _ _ _ H _ I h=>Constant_none ⟨.non,H,I,rfl,h⟩
theorem tF{x j pos}:PE X (.Constant (.str x) j pos) (tC (.str x)):=fun _ _ _ H _ I h=>DK ⟨.str x,H,I.tok _,⟨_,rfl⟩,h⟩
def Gl(X:Cx)(x:Str):Prop:=X.env.kindOf x=some .globalImplicit
theorem wH{E:Value→Shared→Prop}{pins:List (Addr × Obj)}{s:Shared}{σ:St}{H:Hp}{x:Str}{u:Value}{pos:Pos}{Q:Value→Shared→Prop}(I:Inv X pins σ H s)(hg:Gl X x)(hm:X.mg x=some u)(h:Q u s)
 (hd:(x == ("__debug__":Str))=false:=by decide):wpAny (model X.prog X.w) X.A (eval (.Name x pos) X.env) Q E s:=
 Fs I.ok.kind hg (Calls.loadGlobal_global (by rw[I.ok.glob];exact I.mod.glob.keeps I.bk) hm h) hd
theorem vy{E:Value→Shared→Prop}{pins:List (Addr × Obj)}{s:Shared}{σ:St}{H:Hp}{x:Str}{u:Value}{pos:Pos}{Q:Value→Shared→Prop}(I:Inv X pins σ H s)(hg:Gl X x)(hm:X.mg x=none)(hv:Ca x=some u)(h:Q u s)
 (hn:x≠"__name__":=by decide) (hd:(x == ("__debug__":Str))=false:=by decide):wpAny (model X.prog X.w) X.A (eval (.Name x pos) X.env) Q E s:=by
 obtain⟨mb,h1,h2⟩:=I.mod.blt
 exact Fs I.ok.kind hg (Calls.loadGlobal_builtin (by rw[I.ok.glob];exact I.mod.glob.keeps I.bk) hm (by rw[I.ok.blt];exact h1.keeps I.bk) ((h2 x hn).trans hv) h) hd
theorem ZA{x:Str}{v:V}{u:Value}{pos:Pos}(hg:Gl X x)(hm:X.mg x=some u)(r:RelV v u)(hd:(x == ("__debug__":Str))=false:=by decide):PE X (.Name x pos) (tC v):=
 fun _ _ _ H _ I h=>wH I hg hm ⟨v,H,I,r,h⟩ hd
theorem a0{x:Str}{v:V}{u:Value}{pos:Pos}(hg:Gl X x)(hm:X.mg x=none)(hv:Ca x=some u)(r:RelV v u)(hn:x≠"__name__":=by decide)(hd:(x == ("__debug__":Str))=false:=by decide):PE X (.Name x pos) (tC v):=
 fun _ _ _ H _ I h=>vy I hg hm hv ⟨v,H,I,r,h⟩ hn hd
variable {a b:Expr}{ta tb:TE}{pos:Pos}
def PC(X:Cx)(op:CmpOp)(a b:Expr)(t:TE):Prop:=
 ∀(pins:List (Addr × Obj)) (s:Shared) (σ:St) (H:Hp) (Q:VK),Inv X pins σ H s→t σ H Q →
  wpAny (model X.prog X.w) X.A (eval a X.env) (fun v s₁=>wpAny (model X.prog X.w) X.A (eval b X.env) (fun u s₂=>wpAny (model X.prog X.w) X.A (Bk op v u) (EP X pins σ Q) X.xe s₂) X.xe s₁) X.xe s
theorem rY(b:Expr){op:CmpOp}(h:op≠.In)(h2:op≠.NotIn):Dv op b=false:=by
 have e1:(op == CmpOp.In)=false:=by cases op<;>first|rfl|exact absurd rfl h
 have e2:(op == CmpOp.NotIn)=false:=by cases op<;>first|rfl|exact absurd rfl h2
 cases b<;>simp[Dv,e1,e2]
noncomputable def tB(t:TE):TT:=fun σ H Q=>t σ H fun x H1=>∃c,x=.bl c∧Q c H1
theorem Tj{op:CmpOp}{t:TE}(h:PC X op a b t)(h1:Dv op b=false:=by first|exact rY _ (by decide) (by decide)|rfl):PT X (.Compare a [op] [b] pos) (tB t):=by
 intro pins s σ H Q I hw
 refine wpAny_isTrue_Compare1 (thn (h pins s σ H _ I hw) fun v s1 h1=>thn h1 fun u s2 h2=>thn h2 fun c s3 ⟨x,H1,I1,r1,q1⟩=>?_) h1
 obtain⟨d,rfl,q⟩:=q1
 cases r1
 exact Bv ⟨H1,I1,q⟩
theorem Wi{e:Expr}{t:TE}(h:PE X e t)(he:∀whole,isTrue e X.env whole=(do let v ←whole;standAt e.pos;holding [v] (truthy v)):=by intro _;rfl):PT X e (tB t):=by
 intro pins s σ H Q I hw
 refine isTrue_plain (thn (h pins s σ H _ I hw) fun v s1 ⟨x,H1,I1,r1,q1⟩=>?_) (he _)
 obtain⟨d,rfl,q⟩:=q1
 cases r1
 exact Bv ⟨H1,I1,q⟩
variable {tA tB':TT}{rest:List Expr}
noncomputable def tOr(t u:TT):TT:=fun σ H Q=>t σ H fun c H1=>if c=true then Q true H1 else u σ H1 Q
noncomputable def Uz(t:TT):TT:=fun σ H Q=>t σ H fun c H1=>Q (!c) H1
theorem Wj(ha:PT X a tA):PW X (.BoolOp .Or [a] pos) tA:=by
 intro wh pins s σ H Q I h
 refine isTrue_or (thn (ha pins s σ H Q I h) fun c s1 e=>?_)
 cases c with
 |false=>exact isTrue_or_nil e
 |true=>exact e
theorem Ub(ha:PT X a tA)(hb:PW X (.BoolOp .Or (b::rest) pos) tB'):PW X (.BoolOp .Or (a::b::rest) pos) (tOr tA tB'):=by
 intro wh pins s σ H Q I h
 refine isTrue_or (thn (ha pins s σ H _ I h) fun c s1 ⟨H1,I1,q1⟩=>?_)
 cases c with
 |true=>exact⟨H1,I1,q1⟩
 |false=>exact hb wh pins s1 σ H1 Q I1 q1
theorem d0(ha:PT X a tA):PT X (.UnaryOp .Not a pos) (Uz tA):=by
 intro pins s σ H Q I h
 exact isTrue_not (ha pins s σ H (fun c H1=>Q (!c) H1) I h)
noncomputable def Uw(ta tb:TE):TE:=fun σ H Q=>ta σ H fun x H1=>∃c,x=.bl c∧if c=true then tb σ H1 Q else Q (.bl false) H1
noncomputable def U0(ta:TE):TE:=fun σ H Q=>ta σ H fun x H1=>∃c,x=.bl c∧Q (.bl (!c)) H1
theorem lU{op}{t:TE}(h:PE X a t):PE X (.BoolOp op [a] pos) t:=fun pins s σ H Q I hw=>BoolOp_one (h pins s σ H Q I hw)
theorem WR(ha:PE X a ta)(hb:PE X (.BoolOp .And (b::rest) pos) tb):PE X (.BoolOp .And (a::b::rest) pos) (Uw ta tb):=by
 intro pins s σ H Q I h
 refine BoolOp_and (thn (ha pins s σ H _ I h) fun v s1 ⟨x,H1,I1,r1,q1⟩=>?_)
 obtain⟨c,rfl,q1⟩:=q1
 cases r1
 refine Bv ?_
 cases c with
 |true=>exact hb pins s1 σ H1 Q I1 q1
 |false=>exact⟨.bl false,H1,I1,rfl,q1⟩
theorem WW(ha:PE X a ta):PE X (.UnaryOp .Not a pos) (U0 ta):=by
 intro pins s σ H Q I h
 refine UnaryOp_ (thn (ha pins s σ H _ I h) fun v s1 ⟨x,H1,I1,r1,q1⟩=>?_)
 obtain⟨c,rfl,q1⟩:=q1
 cases r1
 exact not_of (Bv ⟨.bl (!c),H1,I1,rfl,q1⟩)
noncomputable def tIf(t:TT)(ta tb:TE):TE:=fun σ H Q=>t σ H fun c H1=>if c=true then ta σ H1 Q else tb σ H1 Q
theorem nz{c:Expr}(hc:PT X c tA)(ha:PE X a ta)(hb:PE X b tb):PE X (.IfExp c a b pos) (tIf tA ta tb):=by
 intro pins s σ H Q I h
 refine wpAny_IfExp (thn (hc pins s σ H _ I h) fun d s1 ⟨H1,I1,q1⟩=>?_)
 cases d with
 |true=>exact ha pins s1 σ H1 Q I1 q1
 |false=>exact hb pins s1 σ H1 Q I1 q1
end
end L2
namespace L2
open PySem PySem.Spec PyProof.Rows
def SqL(K:Af)(H:Hp)(a:Addr)(xs:List V):Prop:=
 Rd H a (.lst xs) ∨
  ∃(o:Obj) (its:Array Value) (n:Nat),K.lookup a=some o∧o.cls=.type "list"∧o.dict=none∧o.data=.seq its n∧its.size≤AB∧Vals xs its.toList
def SqT(K:Af)(H:Hp)(a:Addr)(xs:List V):Prop:=
 Rd H a (.tup xs) ∨
  ∃(o:Obj) (its:Array Value) (n:Nat),K.lookup a=some o∧o.cls=.type "tuple"∧o.data=.seq its n∧its.size≤AB∧Vals xs its.toList
noncomputable def TM:Value→Option V
 |.none=>some .non
 |.bool b=>some (.bl b)
 |.int i _=>some (.int i)
 |.str x _=>some (.str x)
 |.bytes b _=>some (.byt b)
 |.float b _=>some (.flt b)
 |.ref a=>some (.ref a)
 |.type n=>some (.ty n)
 |_=>none
theorem RelV.abs{x:V}{u:Value}(r:RelV x u):TM u=some x:=by
 cases x with
 |non=>cases r;rfl
 |bl _=>cases r;rfl
 |int _=>obtain⟨t,rfl⟩:=r;rfl
 |str _=>obtain⟨t,rfl⟩:=r;rfl
 |byt _=>obtain⟨t,rfl⟩:=r;rfl
 |flt _=>obtain⟨t,rfl⟩:=r;rfl
 |ref _=>cases r;rfl
 |ty _=>cases r;rfl
theorem RelV.inj{x y:V}{u:Value}(r:RelV x u)(q:RelV y u):x=y:=AF (r.abs.symm.trans q.abs)
theorem Vals.inj:∀{xs ys:List V} {us:List Value},Vals xs us→Vals ys us→xs=ys
 |_,_,_,.nil,.nil=>rfl
 |_,_,_,.cons r t,.cons r' t'=>by rw[r.inj r',Vals.inj t t']
section
variable {X:Cx}{pins:List (Addr × Obj)}{σ:St}{H:Hp}{s:Shared}{a:Addr}{xs ys:List V}
theorem SqL.of{K:Af}(h:H a=some (.lst xs)):SqL K H a xs:=.inl (.inl h)
theorem SqT.of{K:Af}(h:H a=some (.tup xs)):SqT K H a xs:=.inl (.inl h)
theorem Inv.list(I:Inv X pins σ H s)(h:SqL X.K H a xs):∃its:List Value,Vals xs its∧PlainL s.heap a its.toArray∧xs.length≤AB:=by
 rcases h with h|⟨o,its,n,hk,hc,hd,hs,hz,r⟩
 . obtain⟨z,its,n,r,e⟩:=h.ok I.hok
   exact⟨its,r,⟨_,n,e,rfl,rfl,rfl⟩,z⟩
 . refine⟨its.toList,r,⟨o,n,I.kIn a o hk,hc,hd,by simpa using hs⟩,?_⟩
   have e:=r.length
   simp only[Cr]at e
   omega
theorem Inv.tuple(I:Inv X pins σ H s)(h:SqT X.K H a xs):∃its:List Value,Vals xs its∧IsTup s.heap a its.toArray∧xs.length≤AB:=by
 rcases h with h|⟨o,its,n,hk,hc,hs,hz,r⟩
 . obtain⟨z,its,r,p⟩:=h.ok I.hok
   exact⟨its,r,p.tup,z⟩
 . refine⟨its.toList,r,⟨o,I.kIn a o hk,hc,n,by simpa using hs⟩,?_⟩
   have e:=r.length
   simp only[Cr]at e
   omega
theorem Inv.nU(I:Inv X pins σ H s)(h:SqL X.K H a xs)(h':SqL X.K H a ys):xs=ys:=by
 obtain⟨its,r,⟨o,n,e,_,_,d⟩,_⟩:=I.list h
 obtain⟨its',r',⟨o',n',e',_,_,d'⟩,_⟩:=I.list h'
 rw[e]at e';cases e'
 rw[d]at d'
 injection d' with d1 _
 have:its=its':=by simpa using congrArg Array.toList d1
 subst this
 exact r.inj r'
theorem Inv.pF(I:Inv X pins σ H s)(h:SqT X.K H a xs)(h':SqT X.K H a ys):xs=ys:=by
 obtain⟨its,r,⟨o,e,_,n,d⟩,_⟩:=I.tuple h
 obtain⟨its',r',⟨o',e',_,n',d'⟩,_⟩:=I.tuple h'
 rw[e]at e';cases e'
 rw[d]at d'
 injection d' with d1 _
 have:its=its':=by simpa using congrArg Array.toList d1
 subst this
 exact r.inj r'
end
noncomputable abbrev Cx.wB(X:Cx)(E:Value→Shared→Prop):Cx:={X with xe:=E}
noncomputable abbrev Cx.nox(X:Cx):Cx:=X.wB fun _ _=>False
theorem Cx.Ok.wB{X:Cx}(ok:X.Ok)(E:Value→Shared→Prop):(X.wB E).Ok:=
 ⟨ok.mod,ok.kind,ok.glob,ok.blt,ok.above,ok.inj,ok.has,ok.cab,ok.hd,ok.frames,ok.stk,ok.exf,ok.bs,ok.bsz,ok.noex,ok.exfs,ok.vv,ok.frf⟩
theorem Cx.Ok.yp{X:Cx}{E:Value→Shared→Prop}(ok:(X.wB E).Ok):X.Ok:=
 ⟨ok.mod,ok.kind,ok.glob,ok.blt,ok.above,ok.inj,ok.has,ok.cab,ok.hd,ok.frames,ok.stk,ok.exf,ok.bs,ok.bsz,ok.noex,ok.exfs,ok.vv,ok.frf⟩
section
variable {X:Cx}{pins:List (Addr × Obj)}{σ:St}{H:Hp}{s:Shared}{E:Value→Shared→Prop}
theorem Inv.wB(I:Inv X pins σ H s)(E:Value→Shared→Prop):Inv (X.wB E) pins σ H s:=⟨I.ok.wB E,I.os,I.bare,I.base,I.loc,I.cell,I.free,I.freeC,I.pin,I.hok,I.len⟩
theorem Inv.yp(I:Inv (X.wB E) pins σ H s):Inv X pins σ H s:=⟨I.ok.yp,I.os,I.bare,I.base,I.loc,I.cell,I.free,I.freeC,I.pin,I.hok,I.len⟩
theorem SP.yp{D:Ends}{f:Flow}{s':Shared}(h:SP (X.wB E) pins D f s'):SP X pins D f s':=by
 cases f with
 |next=>obtain⟨σ',H',I,q⟩:=h;exact⟨σ',H',I.yp,q⟩
 |brk=>obtain⟨σ',H',I,q⟩:=h;exact⟨σ',H',I.yp,q⟩
 |cont=>obtain⟨σ',H',I,q⟩:=h;exact⟨σ',H',I.yp,q⟩
 |ret u=>obtain⟨v,σ',H',I,r,q⟩:=h;exact⟨v,σ',H',I.yp,r,q⟩
theorem PE.nox{e:Expr}{t:TE}(h:PE X.nox e t):PE X e t:=fun pins s σ H Q I hw=>
 A9 (h pins s σ H Q (I.wB _) hw) (fun _ _ ⟨v,H',I',r,q⟩=>⟨v,H',I'.yp,r,q⟩) fun _ _ z=>AJ z
theorem PT.nox{e:Expr}{t:TT}(h:PT X.nox e t):PT X e t:=fun pins s σ H Q I hw=>
 A9 (h pins s σ H Q (I.wB _) hw) (fun _ _ ⟨H',I',q⟩=>⟨H',I'.yp,q⟩) fun _ _ z=>AJ z
theorem PSs.nox{st:List Stmt}{t:TS}(h:PSs X.nox st t):PSs X st t:=fun pins s σ H D I hw=>
 A9 (h pins s σ H D (I.wB _) hw) (fun _ _ q=>q.yp) fun _ _ z=>AJ z
end
section
variable {X:Cx}{st:Stmt}{rest:List Stmt}{t u:TS}{e:Expr}{te:TE}{pos:Pos}
noncomputable def YL:TS:=fun D σ H=>D.nx σ H
noncomputable def mM(t u:TS):TS:=fun D σ H=>t {D with nx:=u D} σ H
theorem oS:PSs X [] YL:=fun _ _ σ H _ I h=>EG ⟨σ,H,I,h⟩
theorem yc(h1:PS X st t)(h2:PSs X rest u):PSs X (st::rest) (mM t u):=by
 intro pins s σ H D I h
 refine Eo (thn (h1 pins s σ H {D with nx:=u D} I h) fun f s1 q=>?_)
 cases f with
 |next=>
  obtain⟨σ',H',I',q⟩:=q
  exact h2 pins s1 σ' H' D I' q
 |ret v=>exact q
 |brk=>exact q
 |cont=>exact q
theorem wy(h1:PS X st t):PSs X [st] t:=by
 intro pins s σ H D I h
 refine Eo (thn (h1 pins s σ H D I h) fun f s1 q=>?_)
 cases f with
 |next=>exact EG q
 |ret v=>exact q
 |brk=>exact q
 |cont=>exact q
theorem Inv.quiet{pins:List (Addr × Obj)}{σ:St}{H:Hp}{s:Shared}(I:Inv X pins σ H s):interactive X.env=false:=by simp[interactive,I.ok.kind]
noncomputable def Ux(te:TE):TS:=fun D σ H=>te σ H fun _ H1=>D.nx σ H1
theorem oR(he:PE X e te)(hs:Fd e none pos.line X.env=pure false:=by rfl):PS X (.Expr e pos) (Ux te):=by
 intro pins s σ H D I h
 exact wpAny_Expr_any (thn (he pins s σ H _ I h) fun v s1 ⟨x,H1,I1,r1,q1⟩=>⟨σ,H1,I1,q1⟩) I.quiet hs
noncomputable def hX(te:TE):TS:=fun D σ H=>te σ H D.rt
theorem vP(he:PE X e te):PS X (.Return (some e) pos) (hX te):=by
 intro pins s σ H D I h
 exact wpAny_Return_some (thn (he pins s σ H _ I h) fun v s1 ⟨x,H1,I1,r1,q1⟩=>⟨x,σ,H1,I1,r1,q1⟩)
noncomputable def Uy(c:TT)(t u:TS):TS:=fun D σ H=>c σ H fun b H1=>if b=true then t D σ H1 else u D σ H1
theorem dy{c:Expr}{a b:List Stmt}{tc:TT}(hc:PT X c tc)(ha:PSs X a t)(hb:PSs X b u):PS X (.If c a b pos) (Uy tc t u):=by
 intro pins s σ H D I h
 refine wpAny_If (thn (hc pins s σ H _ I h) fun d s1 ⟨H1,I1,q1⟩=>?_)
 cases d with
 |true=>exact ha pins s1 σ H1 D I1 q1
 |false=>exact hb pins s1 σ H1 D I1 q1
end
noncomputable abbrev TG:=V→St→Hp→(St→Hp→Prop)→Prop
noncomputable abbrev TGs:=List V→St→Hp→(St→Hp→Prop)→Prop
def PG(X:Cx)(target:Expr)(t:TG):Prop:=
 ∀(pins:List (Addr × Obj)) (s:Shared) (σ:St) (H:Hp) (v:V) (u:Value) (Q:St→Hp→Prop),Inv X pins σ H s→RelV v u→t v σ H Q →
  wpAny (model X.prog X.w) X.A (assign target X.env u) (fun _ s'=>∃σ' H',Inv X pins σ' H' s'∧Q σ' H') X.xe s
def PGs(X:Cx)(ts:List Expr)(t:TGs):Prop:=
 ∀(pins:List (Addr × Obj)) (s:Shared) (σ:St) (H:Hp) (vs:List V) (us:List Value) (Q:St→Hp→Prop),Inv X pins σ H s→Vals vs us→t vs σ H Q →
  wpAny (model X.prog X.w) X.A (Ej ((CT ts X.env).map (·.2)) us) (fun _ s'=>∃σ' H',Inv X pins σ' H' s'∧Q σ' H') X.xe s
noncomputable abbrev YZ:=V→V→V→Hp→(Hp→Prop)→Prop
def VI(X:Cx)(t:YZ):Prop:=
 ∀(pins:List (Addr × Obj)) (s:Shared) (σ:St) (H:Hp) (o i v:V) (ov iv u:Value) (Q:Hp→Prop),Inv X pins σ H s→RelV o ov→RelV i iv→RelV v u→t o i v H Q →
  wpAny (model X.prog X.w) X.A (setItem ov iv u) (fun _ s'=>∃H',Inv X pins σ H' s'∧Q H') X.xe s
section
variable {X:Cx}{pos:Pos}
noncomputable def xl(i:Nat):TG:=fun v σ H Q=>Q (σ.set i (some v)) H
theorem ZC{i:Nat}{x:Str}(hN:X.N.Nodup)(hi:X.N[i]?=some x)(hx:Loc X.env.scope x)(hf:X.fn x=true∨X.env.scope.names.lookup x=some .local:=by first|exact .inl rfl|exact .inr rfl|assumption):PG X (.Name x pos) (xl i):=by
 intro pins s σ H v u Q I r h
 exact wpAny_assign_Name (xQ I hN hi hx r (fun s' I'=>⟨_,H,I',h⟩) hf)
noncomputable def VV:TGs:=fun vs σ H Q=>vs=[]∧Q σ H
noncomputable def Zx(t:TG)(u:TGs):TGs:=fun vs σ H Q=>∃v r,vs=v::r∧t v σ H fun σ' H'=>u r σ' H' Q
theorem ZD:PGs X [] VV:=by
 intro pins s σ H vs us Q I r h
 obtain⟨e,h⟩:=h
 subst e
 cases r
 exact FH ⟨σ,H,I,h⟩
theorem dg{e:Expr}{es:List Expr}{t:TG}{u:TGs}(h1:PG X e t)(h2:PGs X es u)
 (hs:(CT (e::es) X.env).map (·.2)=assign e X.env::(CT es X.env).map (·.2):=by rfl):PGs X (e::es) (Zx t u):=by
 intro pins s σ H vs us Q I r h
 obtain⟨v,vr,e1,h⟩:=h
 subst e1
 cases r with
 |cons r rr=>
  rw[hs]
  refine CC (thn (h1 pins s σ H _ _ _ I r h) fun _ s1 ⟨σ1,H1,I1,q1⟩=>?_)
  exact h2 pins s1 σ1 H1 _ _ Q I1 rr q1
noncomputable def VX(K:Af)(n:Nat)(t:TGs):TG:=fun v σ H Q=>∃a xs,v=.ref a∧SqT K H a xs∧xs.length=n∧t xs σ H Q
theorem oP{es:List Expr}{k:Nat}{t:TGs}{n:Nat}(hc:X.calm=true)(h:PGs X es t)
 (hn:(CT es X.env).length=n:=by rfl) (hst:(CT es X.env).findIdx? (·.1)=none:=by rfl):PG X (.Tuple es k pos) (VX X.K n t):=by
 intro pins s σ H v u Q I r hw
 obtain⟨a,xs,e1,hq,hl,hw⟩:=hw
 subst e1
 cases r
 obtain⟨its,rv,ht,hz⟩:=I.tuple hq
 refine assign_Tuple_tuple (I.ok.hd hc) ht (by simp[hn,←hl,rv.length]) hst fun h' hx=>?_
 have I1:Inv X pins σ H {s with heap:=h'}:=I.kept (t':=s.toks) fun b o e=>hx b o (AD (An e)) e
 exact h pins _ σ H xs _ Q I1 (by simpa using rv) hw
noncomputable def VW(to ti:TE)(t:YZ):TG:=fun v σ H Q=>to σ H fun o H1=>ti σ H1 fun i H2=>t o i v H2 fun H3=>Q σ H3
theorem Wa{o i:Expr}{to ti:TE}{t:YZ}(ho:PE X o to)(hi:PE X i ti)(hs:VI X t)
 (ha:∀v,assign (.Subscript o i pos) X.env v=(do
  let ov ←holding [v] (eval o X.env)
  let iv ←holding [v,ov] (eval i X.env)
  standAt pos
  holding [v,ov,iv] (setItem ov iv v)
  release [v,ov,iv] []):=by intro _;rfl):PG X (.Subscript o i pos) (VW to ti t):=by
 intro pins s σ H v u Q I r h
 rw[ha]
 refine Ac (BV (thn (ho pins s σ H _ I h) fun ov s1 ⟨x,H1,I1,r1,q1⟩=>?_))
 refine Ac (BV (thn (hi pins s1 σ H1 _ I1 q1) fun iv s2 ⟨y,H2,I2,r2,q2⟩=>?_))
 refine Ac (BL (Ac (BV (thn (hs pins s2 σ H2 x y v ov iv u _ I2 r1 r2 r q2) fun _ s3 ⟨H3,I3,q3⟩=>?_))))
 exact wpAny_release ⟨σ,H3,I3,q3⟩
noncomputable def um(te:TE)(g:TG):TS:=fun D σ H=>te σ H fun x H1=>g x σ H1 D.nx
theorem dq{tg e:Expr}{te:TE}{g:TG}(he:PE X e te)(hg:PG X tg g)(hs:Ek [tg] e pos.line X.env=pure false:=by rfl)(hw:B1 [tg] e X.env=pure none:=by rfl)
 (h1:(CT [tg] X.env).map (·.2)=[assign tg X.env]:=by rfl):PS X (.Assign [tg] e pos) (um te g):=by
 intro pins s σ H D I h
 refine wpAny_Assign_stores (thn (he pins s σ H _ I h) fun v s1 ⟨x,H1,I1,r1,q1⟩=>?_) hs hw
 rw[h1]
 exact thn (hg pins s1 σ H1 x v _ I1 r1 q1) fun _ s2 q=>q
theorem uA{i:Nat}{x:Str}{e:Expr}{te:TE}{pos':Pos}(hN:X.N.Nodup)(hi:X.N[i]?=some x)(hx:Loc X.env.scope x)(he:PE X e te)(hs:Fd e (some (.Name x pos')) pos.line X.env=pure false:=by rfl)(hf:X.fn x=true∨X.env.scope.names.lookup x=some .local:=by first|exact .inl rfl|exact .inr rfl|assumption) :
 PS X (.Assign [.Name x pos'] e pos) (um te (xl i)):=by
 intro pins s σ H D I h
 refine wpAny_Assign_Name (thn (he pins s σ H _ I h) fun v s1 ⟨y,H1,I1,r1,q1⟩=>?_) hs
 exact xQ I1 hN hi hx r1 (fun s2 I2=>⟨_,H1,I2,q1⟩) hf
noncomputable def U2(i j:Nat)(ta:TA):TS:=fun D σ H=>ta σ H fun vs H1=>∃v w,vs=[v,w]∧D.nx ((σ.set i (some v)).set j (some w)) H1
theorem Wh{i j:Nat}{x y:Str}{a b:Expr}{ta:TA}{px py pt:Pos}{kt k2 pt2}(hc:X.calm=true)(hN:X.N.Nodup)(hi:X.N[i]?=some x)(hj:X.N[j]?=some y)(hij:i≠j)
 (hx:X.env.scope.names.lookup x=some .local) (hy:X.env.scope.names.lookup y=some .local) (ha:PA X [a,b] ta)
 (hw:B1 [.Tuple [.Name x px,.Name y py] kt pt] (.Tuple [a,b] k2 pt2) X.env=pure (some [x,y]))
 (hs:Ek [.Tuple [.Name x px,.Name y py] kt pt] (.Tuple [a,b] k2 pt2) pos.line X.env=pure false:=by rfl) :
 PS X (.Assign [.Tuple [.Name x px,.Name y py] kt pt] (.Tuple [a,b] k2 pt2) pos) (U2 i j ta):=by
 intro pins s σ H D I h
 rw[exec_Assign_arm]
 refine Ac (BL ?_)
 rw[hs]
 refine Ac (Al ?_)
 rw[if_neg (by decide)]
 refine Ac (Tuple_ (thn (ha _ pins s σ H _ I h) fun us s1 ⟨vs,H1,I1,r1,q1⟩=>?_))
 obtain⟨v,w,e1,q1⟩:=q1
 subst e1
 obtain⟨u1,u2,rfl,rv,rw'⟩:∃u1 u2,us=[u1,u2]∧RelV v u1∧RelV w u2:=by
  cases r1 with
  |cons p q=>
   cases q with
   |cons p' q'=>
    cases q'
    exact⟨_,_,rfl,p,p'⟩
 refine Be ?_ (by show 2≤AB;decide)
 have I2:Inv X pins σ H1 {s1 with heap:=s1.heap.push {cls:=.type "tuple",data:=.seq [u1,u2].toArray}}:=I1.kept (t':=s1.toks) fun b o e=>Ad _ e
 rw[hw]
 refine Ac (Al ?_)
 show wpAny (model X.prog X.w) X.A (do rule "assign.swapped-stores";let items ←unpackItems (.ref s1.heap.objs.size) 2 none;Ej [fun v=>Dc X.env y v,fun v=>Dc X.env x v] items.reverse;pure GX) _ _ _
 refine Ac (EH (Ac (unpackItems_tuple (items:=#[u1,u2]) (I.ok.hd hc) (IsTup.new s1.heap _) fun h' hx'=>?_)))
 have I3:=I2.kept (h':=h') (t':=s1.toks) fun b o e=>hx' b o (AD (An e)) e
 show wpAny _ _ (Ej [fun v=>Dc X.env y v,fun v=>Dc X.env x v] [u2,u1] >>= fun _=>pure GX) _ _ _
 refine Ac (CC (DY (xQ I3 hN hj (.inl hy) rw' (fun s2 I4=>?_) (.inr hy))))
 refine CC (DY (xQ I4 hN hi (.inl hx) rv (fun s3 I5=>FH (Al ?_)) (.inr hx)))
 rw[Ft _ _ (Bp hij)]at I5
 exact⟨_,H1,I5,q1⟩
end
structure It where
 go:Nat→Hp→Prop
 yld:Nat→Hp→V→Hp→Prop
 stop:Nat→Hp→Prop
def vg(X:Cx)(pins:List (Addr × Obj))(H:Hp)(b:Addr):Prop:=
 H b=none∧b≠X.env.locals∧b ∉ X.fs∧(b∈X.ex∨X.s₀.heap.objs.size≤b)∧(∀x c,X.env.cells.lookup x=some c→c≠b)∧∀p∈X.pn++pins,p.1≠b
theorem Inv.bu{X:Cx}{pins:List (Addr × Obj)}{σ:St}{H H':Hp}{s:Shared}{b:Addr}(I:Inv X pins σ H s)(hb:s.heap.objs.size≤b)(hn:H' b=none):vg X pins H' b:=by
 refine⟨hn,Dh (AA I.lt hb),I.Tc hb,.inr (Ax I.sz hb),fun x c e z=>?_,fun p hp z=>?_⟩
 . obtain⟨v,q⟩:=I.cell x c e
   exact absurd (AA q.lt (by rw[z];exact hb)) (Bb _)
 . exact absurd (AA (An (I.pin p hp).1) (by rw[z];exact hb)) (Bb _)
structure Turn(P:Program)(w:World)(K:Af)(tg:Expr)(J:It)(fp:List Addr)(it:Addr)(tn:Nat→Heap→Prop):Prop where
 mem:it∈fp
 obj:∀i h,tn i h→∀b∈fp,∃o,h.get? b=some o∧∀v,o.data≠.cell v
 keep:∀i h h',tn i h→(∀b∈fp,∀o,h.get? b=some o→h'.get? b=some o)→tn i h'
 item:∀(X:Cx),X.prog=P→X.w=w→X.K=K→X.calm=true→∀(i:Nat) (pins:List (Addr × Obj)) (s:Shared) (σ:St) (H:Hp) (E:Value→Shared→Prop),Inv X pins σ H s→(∀b∈fp,vg X pins H b)→tn i s.heap→J.go i H →
  wpAny (model P w) X.A (pyNext (.ref it)) (fun r s1=>∃u,r=some u ∧
   wpAny (model P w) X.A (Cb tg (.ref it) u) (fun _ s2=>∃x H',Inv X pins σ H' s2∧RelV x u∧J.yld i H x H'∧tn (i+1) s2.heap∧∀b∈fp,H' b=none) E s1) E s
 done:∀(X:Cx),X.prog=P→X.w=w→X.K=K→X.calm=true→∀(i:Nat) (pins:List (Addr × Obj)) (s:Shared) (σ:St) (H:Hp) (E:Value→Shared→Prop),Inv X pins σ H s→(∀b∈fp,vg X pins H b)→tn i s.heap→J.stop i H →
  wpAny (model P w) X.A (pyNext (.ref it)) (fun r s1=>r=none∧Inv X pins σ H s1) E s
 self:∀(A:Around) (i:Nat) (s:Shared) (Q:Value→Shared→Prop) (E:Value→Shared→Prop),tn i s.heap→Q (.ref it) s→wpAny (model P w) A (pyIter (.ref it)) Q E s
noncomputable abbrev TI:=St→Hp→(It→Hp→Prop)→Prop
def PIE(X:Cx)(pins:List (Addr × Obj))(σ:St)(tg:Expr)(R:It→Hp→Prop)(itv:Value)(s2:Shared):Prop:=
 ∃(it:Addr) (fp:List Addr) (tn:Nat→Heap→Prop) (J:It) (H':Hp),itv=.ref it∧Inv X pins σ H' s2∧Turn X.prog X.w X.K tg J fp it tn∧tn 0 s2.heap∧(∀b∈fp,vg X pins H' b)∧R J H'
def PI(X:Cx)(tg iter:Expr)(wi:TI):Prop:=
 ∀(pins:List (Addr × Obj)) (s:Shared) (σ:St) (H:Hp) (R:It→Hp→Prop),Inv X pins σ H s→wi σ H R →
  wpAny (model X.prog X.w) X.A (eval iter X.env) (fun v s1=>wpAny (model X.prog X.w) X.A (pyIter v) (PIE X pins σ tg R) X.xe s1) X.xe s
theorem fM{M:Model}{A:Around}{E:Value→Shared→Prop}{s:Shared}{tg:Expr}{it:Addr}{u:Value}{o:Obj}{n:String}{vs:Array Value}{Q:Unit→Shared→Prop}(ho:s.heap.get? it=some o)(hc:o.cls=.type n)(hd:o.data=.fields vs)
 (hn:["enumerate","zip","dict_itemiterator","dict_reverseitemiterator","odict_iterator","itertools.zip_longest","itertools.pairwise"].contains n=false) (hQ:Q () s):wpAny M A (Cb tg (.ref it) u) Q E s:=by
 unfold Cb
 cases tg<;>first
  |exact Al hQ
  |(cases u<;>first
   |exact Al hQ
   |(refine Ac (wpAny_load ho ?_)
     rw[hc,hd]
     show wpAny M A (if (["enumerate","zip","dict_itemiterator","dict_reverseitemiterator","odict_iterator","itertools.zip_longest","itertools.pairwise"].contains n&&vs[0]? == some (rawInt _))=true then _ else _) Q E s
     rw[if_neg (by intro h;rw[hn,Di]at h;cases h)]
     exact Al hQ))
noncomputable def Itl(K:Af)(a:Addr):It:=
 ⟨fun i H=>∃xs x,SqL K H a xs∧xs[i]?=some x,fun i H x H'=>H'=H∧∀xs,SqL K H a xs→xs[i]?=some x,fun i H=>∃xs,SqL K H a xs∧xs.length≤i⟩
noncomputable def Itt(K:Af)(a:Addr):It:=
 ⟨fun i H=>∃xs x,SqT K H a xs∧xs[i]?=some x,fun i H x H'=>H'=H∧∀xs,SqT K H a xs→xs[i]?=some x,fun i H=>∃xs,SqT K H a xs∧xs.length≤i⟩
noncomputable def Itr(lo:Int)(n:Nat):It:=⟨fun i _=>i<n,fun i H x H'=>H'=H∧x=.int (lo+i),fun i _=>n≤i⟩
theorem gC{P:Program}{w:World}{K:Af}{tg:Expr}(a it:Addr):Turn P w K tg (Itl K a) [it] it (fun i h=>h.IsListIter it a i) where
 mem:=by simp
 obj:=fun i h st b hb=>by
  have e:b=it:=by simpa using hb
  subst e
  obtain⟨o,e,c,d⟩:=st
  exact⟨o,e,fun v z=>by rw[d]at z;cases z⟩
 keep:=fun i h h' st k=>st.at fun o e=>k it (by simp) o e
 item:=by
  intro X hP hw hK hc i pins s σ H E I hf st hg
  subst hP hw hK
  obtain⟨xs,x,hq,hx⟩:=hg
  obtain⟨its,rv,p,hz⟩:=I.list hq
  obtain⟨u,hu,ru⟩:=rv.get hx
  obtain⟨f0,f1,f2,f3,f4,f5⟩:=hf it (by simp)
  refine wpAny_pyNext_list_item st p.isList (x:=u) (by simpa using hu) fun h' st' sb=>?_
  have I1:Inv X pins σ H {s with heap:=h'}:=I.turned (t':=s.toks) (fun b o hb e=>(sb.2 b hb).trans e) f0 f1 f3 f4 f5
  obtain⟨o,e,c,d⟩:=id st'
  exact⟨u,rfl,fM (s:={s with heap:=h'}) e c d (by decide) ⟨x,H,I1,ru,⟨rfl,fun ys hy=>by rw[I.nU hy hq];exact hx⟩,st',fun b hb=>(hf b hb).1⟩⟩
 done:=by
  intro X hP hw hK hc i pins s σ H E I hf st hg
  subst hP hw hK
  obtain⟨xs,hq,hx⟩:=hg
  obtain⟨its,rv,p,hz⟩:=I.list hq
  obtain⟨f0,f1,f2,f3,f4,f5⟩:=hf it (by simp)
  have hl:=rv.length
  exact wpAny_pyNext_list_end (I.ok.hd hc) st p.isList (by simp;omega) fun h' eb=>⟨rfl,I.turned (t':=s.toks) (fun b o hb e=>eb b o hb e) f0 f1 f3 f4 f5⟩
 self:=fun _ _ _ _ _ st h=>wpAny_pyIter_listiter st h
theorem kI{P:Program}{w:World}{K:Af}{tg:Expr}(a it:Addr):Turn P w K tg (Itt K a) [it] it (fun i h=>h.IsTupleIter it a i) where
 mem:=by simp
 obj:=fun i h st b hb=>by
  have e:b=it:=by simpa using hb
  subst e
  obtain⟨o,e,c,d⟩:=st
  exact⟨o,e,fun v z=>by rw[d]at z;cases z⟩
 keep:=fun i h h' st k=>st.at fun o e=>k it (by simp) o e
 item:=by
  intro X hP hw hK hc i pins s σ H E I hf st hg
  subst hP hw hK
  obtain⟨xs,x,hq,hx⟩:=hg
  obtain⟨its,rv,p,hz⟩:=I.tuple hq
  obtain⟨u,hu,ru⟩:=rv.get hx
  obtain⟨f0,f1,f2,f3,f4,f5⟩:=hf it (by simp)
  refine wpAny_pyNext_tuple_item st (show s.heap.IsTuple a its.toArray from p) (x:=u) (by simpa using hu) fun h' st' sb=>?_
  have I1:Inv X pins σ H {s with heap:=h'}:=I.turned (t':=s.toks) (fun b o hb e=>(sb.2 b hb).trans e) f0 f1 f3 f4 f5
  obtain⟨o,e,c,d⟩:=id st'
  exact⟨u,rfl,fM (s:={s with heap:=h'}) e c d (by decide) ⟨x,H,I1,ru,⟨rfl,fun ys hy=>by rw[I.pF hy hq];exact hx⟩,st',fun b hb=>(hf b hb).1⟩⟩
 done:=by
  intro X hP hw hK hc i pins s σ H E I hf st hg
  subst hP hw hK
  obtain⟨xs,hq,hx⟩:=hg
  obtain⟨its,rv,p,hz⟩:=I.tuple hq
  obtain⟨f0,f1,f2,f3,f4,f5⟩:=hf it (by simp)
  have hl:=rv.length
  exact wpAny_pyNext_tuple_end (I.ok.hd hc) st (show s.heap.IsTuple a its.toArray from p) (by simp;omega) fun h' eb=>⟨rfl,I.turned (t':=s.toks) (fun b o hb e=>eb b o hb e) f0 f1 f3 f4 f5⟩
 self:=fun _ _ _ _ _ st h=>wpAny_pyIter_tupleiter st h
theorem kH{P:Program}{w:World}{K:Af}{tg:Expr}(it:Addr)(lo:Int)(n:Nat):Turn P w K tg (Itr lo n) [it] it (fun i h=>IsRangeIter h it (lo+(i:Nat)*1) ((n:Int)-(i:Nat)) 1) where
 mem:=by simp
 obj:=fun i h st b hb=>by
  have e:b=it:=by simpa using hb
  subst e
  exact⟨_,st,fun v z=>by
   have z':Gz _=Data.cell v:=z
   cases z'⟩
 keep:=fun i h h' st k=>k it (by simp) _ st
 item:=by
  intro X hP hw hK hc i pins s σ H E I hf st hg
  subst hP hw hK
  obtain⟨f0,f1,f2,f3,f4,f5⟩:=hf it (by simp)
  have W:=Walks.range (prog:=X.prog) (w:=X.w) (I.ok.hd hc) it lo 1 n
  refine W.item i s _ _ hg st fun v h' tk hv st' kk=>?_
  obtain⟨t,rfl⟩:=hv
  have I1:Inv X pins σ H {s with heap:=h',toks:=tk}:=I.turned (fun b o hb e=>kk b o (by simpa using hb) e) f0 f1 f3 f4 f5
  refine⟨_,rfl,fM (s:={s with heap:=h',toks:=tk}) (n:="range_iterator") st' rfl rfl (by decide) ⟨.int (lo+i),H,I1,⟨t,?_⟩,⟨rfl,rfl⟩,st',fun b hb=>(hf b hb).1⟩⟩
  rw[Int.mul_one]
 done:=by
  intro X hP hw hK hc i pins s σ H E I hf st hg
  subst hP hw hK
  obtain⟨f0,f1,f2,f3,f4,f5⟩:=hf it (by simp)
  exact wpAny_pyNext_range_end (I.ok.hd hc) st (by have:n≤i:=hg;omega) fun h' eb=>⟨rfl,I.turned (t':=s.toks) (fun b o hb e=>eb b o hb e) f0 f1 f3 f4 f5⟩
 self:=fun _ _ _ _ _ st h=>wpAny_pyIter_rangeiter st h
end L2
namespace L2
open PySem PySem.Spec PyProof.Rows
section
variable {X:Cx}{tg:Expr}
noncomputable def Vb(K:Af)(tl:TE):TI:=fun σ H R=>tl σ H fun x H1=>∃a,x=.ref a∧(∃xs,SqL K H1 a xs)∧R (Itl K a) H1
noncomputable def TX(K:Af)(tl:TE):TI:=fun σ H R=>tl σ H fun x H1=>∃a,x=.ref a∧(∃xs,SqT K H1 a xs)∧R (Itt K a) H1
theorem jJ{l:Expr}{tl:TE}(hl:PE X l tl):PI X tg l (Vb X.K tl):=by
 intro pins s σ H R I h
 refine thn (hl pins s σ H _ I h) fun v s1 ⟨x,H1,I1,r1,q1⟩=>?_
 obtain⟨a,e,⟨xs,hq⟩,q⟩:=q1
 subst e
 cases r1
 obtain⟨its,rv,p,hz⟩:=I1.list hq
 refine Dg p.isList ?_
 refine⟨s1.heap.objs.size,[s1.heap.objs.size],_,_,H1,rfl,I1.kept (t':=s1.toks) fun b o e=>Ad _ e,gC a _,⟨_,Ay _ rfl,rfl,rfl⟩,fun b hb=>?_,q⟩
 have e:b=s1.heap.objs.size:=by simpa using hb
 subst e
 exact I1.bu (Ag _) (I1.hok.fresh (Ag _))
theorem dh{l:Expr}{tl:TE}(hl:PE X l tl):PI X tg l (TX X.K tl):=by
 intro pins s σ H R I h
 refine thn (hl pins s σ H _ I h) fun v s1 ⟨x,H1,I1,r1,q1⟩=>?_
 obtain⟨a,e,⟨xs,hq⟩,q⟩:=q1
 subst e
 cases r1
 obtain⟨its,rv,p,hz⟩:=I1.tuple hq
 refine B3 (show s1.heap.IsTuple a its.toArray from p) ?_
 refine⟨s1.heap.objs.size,[s1.heap.objs.size],_,_,H1,rfl,I1.kept (t':=s1.toks) fun b o e=>Ad _ e,kI a _,⟨_,Ay _ rfl,rfl,rfl⟩,fun b hb=>?_,q⟩
 have e:b=s1.heap.objs.size:=by simpa using hb
 subst e
 exact I1.bu (Ag _) (I1.hok.fresh (Ag _))
theorem mE{pins:List (Addr × Obj)}{σ:St}{H:Hp}{s:Shared}{R:It→Hp→Prop}{E:Value→Shared→Prop}{lo hi:Int}{t u v:Tok}{tk:Nat}(I:Inv X pins σ H s)(h1:-(2 ^ 62)≤lo)(h2:lo<2 ^ 62)(h3:-(2 ^ 62)≤hi)(h4:hi<2 ^ 62)
 (q:R (Itr lo (hi-lo).toNat) H):wpAny (model X.prog X.w) X.A (pyIter (.ref s.heap.objs.size)) (PIE X pins σ tg R) E {s with heap:=s.heap.push {cls:=.type "range",data:=.fields #[.int lo t,.int hi u,.int 1 v]},toks:=tk}:=by
 refine wpAny_pyIter_range (IsRange.new ..) (small_one h1 h2 h3 h4) ?_
 have I1:Inv X pins σ H {s with heap:=s.heap.push {cls:=.type "range",data:=.fields #[.int lo t,.int hi u,.int 1 v]},toks:=tk}:=I.kept fun b o e=>Ad _ e
 refine⟨(s.heap.push {cls:=.type "range",data:=.fields #[.int lo t,.int hi u,.int 1 v]}).objs.size,[(s.heap.push {cls:=.type "range",data:=.fields #[.int lo t,.int hi u,.int 1 v]}).objs.size],_,_,H,rfl,
  I1.kept (t':=tk) fun b o e=>Ad _ e,kH _ lo (hi-lo).toNat,?_,fun b hb=>?_,q⟩
 . have e1:lo+((0:Nat):Int)*1=lo:=by simp
   have e2:(((hi-lo).toNat:Nat):Int)-((0:Nat):Int)=Cp lo hi 1:=by rw[rangeSize_one];split<;>omega
   show IsRangeIter _ _ (lo+((0:Nat):Int)*1) ((((hi-lo).toNat:Nat):Int)-((0:Nat):Int)) 1
   rw[e1,e2]
   exact Ay _ rfl
 . have e:b=(s.heap.push {cls:=.type "range",data:=.fields #[.int lo t,.int hi u,.int 1 v]}).objs.size:=by simpa using hb
   subst e
   exact I1.bu (Ag _) (I1.hok.fresh (Ag _))
noncomputable def Vc(ta:TA):TI:=fun σ H R=>ta σ H fun vs H1=>∃j:Int,vs=[.int j]∧-(2 ^ 62)≤j∧j<2 ^ 62∧R (Itr 0 j.toNat) H1
noncomputable def Vd(ta:TA):TI:=fun σ H R=>ta σ H fun vs H1=>∃i j:Int,vs=[.int i,.int j]∧(-(2 ^ 62)≤i∧i<2 ^ 62∧-(2 ^ 62)≤j∧j<2 ^ 62)∧R (Itr i (j-i).toNat) H1
theorem iq{a:Expr}{ta:TA}{p pos:Pos}(hg:Gl X "range")(hm:X.mg "range"=none)(ha:PA X [a] ta)(hs:AM [a] X.env=[(false,eval a X.env)]:=by rfl):PI X tg (.Call (.Name "range" p) [a] [] pos) (Vc ta):=by
 intro pins s σ H R I h
 refine Call_ (vy I hg hm boot_range (CD (thn (ha pos pins s σ H _ I h) fun us s1 ⟨vs,H1,I1,r1,q1⟩=>?_) hs rfl))
 obtain⟨j,e,q1,q2,q⟩:=q1
 subst e
 cases r1 with
 |cons r rr=>
  cases rr
  obtain⟨t,rfl⟩:=r
  exact call_range_1 (mE I1 (by omega) (by omega) q1 q2 (by simpa using q))
theorem ir{a b:Expr}{ta:TA}{p pos:Pos}(hg:Gl X "range")(hm:X.mg "range"=none)(ha:PA X [a,b] ta)(hs:AM [a,b] X.env=[(false,eval a X.env),(false,eval b X.env)]:=by rfl)(hs2:AM [b] X.env=[(false,eval b X.env)]:=by rfl) :
 PI X tg (.Call (.Name "range" p) [a,b] [] pos) (Vd ta):=by
 intro pins s σ H R I h
 refine Call_ (vy I hg hm boot_range (CD (thn (ha pos pins s σ H _ I h) fun us s1 ⟨vs,H1,I1,r1,q1⟩=>?_) (by rw[hs,hs2]) (by rw[hs2];rfl)))
 obtain⟨i,j,e,⟨q1,q2,q3,q4⟩,q⟩:=q1
 subst e
 cases r1 with
 |cons r rr=>
  cases rr with
  |cons r' rr=>
   cases rr
   obtain⟨t,rfl⟩:=r
   obtain⟨t',rfl⟩:=r'
   exact call_range_2 (mE I1 q1 q2 q3 q4 q)
noncomputable def Tv(wi:TI)(g:TG)(tb:TS):TS:=fun D σ H=>wi σ H fun J H1=>∃W:Nat→Nat→St→Hp→Prop,(∃m,W 0 m σ H1)∧∀i m σ H,W i m σ H →
 (J.stop i H∧D.nx σ H)∨(J.go i H∧∃N:St→Hp→Prop,(∀σ' H',N σ' H'→∃m',m'<m∧W (i+1) m' σ' H')∧∀x H',J.yld i H x H'→g x σ H' fun σ2 H2=>tb {D with nx:=N,ct:=N,bk:=D.nx} σ2 H2)
noncomputable def rm(fp:List Addr)(h:Heap):List (Addr × Obj):=fp.filterMap fun b=>(h.get? b).map fun o=>(b,o)
theorem wo{fp:List Addr}{h:Heap}{b:Addr}{o:Obj}(hb:b∈fp)(e:h.get? b=some o):(b,o)∈rm fp h:=BS.mpr ⟨b,hb,by rw[e];rfl⟩
theorem iQ{fp:List Addr}{h:Heap}{p:Addr × Obj}(hp:p∈rm fp h):p.1∈fp∧h.get? p.1=some p.2:=by
 obtain⟨b,hb,e⟩:=BS.mp hp
 cases q:h.get? b with
 |none=>rw[q]at e;cases e
 |some o=>
  rw[q]at e
  have e':(b,o)=p:=AF e
  subst e'
  exact⟨hb,q⟩
theorem Inv.pinned{pins:List (Addr × Obj)}{σ:St}{H:Hp}{s:Shared}{fp:List Addr}(I:Inv X pins σ H s)(hf:∀b∈fp,vg X pins H b)(ho:∀b∈fp,∃o,s.heap.get? b=some o∧∀v,o.data≠.cell v):Inv X (pins++rm fp s.heap) σ H s:=
 I.oQ fun p hp=>(AN.mp hp).elim (fun z=>I.pin p (AU _ z)) fun z=>by
   obtain⟨hb,e⟩:=iQ z
   obtain⟨f0,f1,f2,_⟩:=hf p.1 hb
   obtain⟨o,e',d⟩:=ho p.1 hb
   rw[e]at e';cases e'
   exact⟨e,f0,f1,f2,d⟩
theorem Inv.uu{pins pl:List (Addr × Obj)}{σ:St}{H:Hp}{s:Shared}(I:Inv X (pins++pl) σ H s):Inv X pins σ H s:=I.oQ fun p hp=>I.pin p (AU _ (Bc _ hp))
theorem Wg{iter:Expr}{body:List Stmt}{wi:TI}{g:TG}{tb:TS}{pos:Pos}(hp:PassesOwn (model X.prog X.w) X.A X.env X.xe)(hc:X.calm=true)(hi:PI X tg iter wi)(hg:PG X tg g)(hb:PSs X body tb)
 (hs:∀x,CP iter X.env x=pure x:=by intro _;rfl):PS X (.For tg iter body [] pos) (Tv wi g tb):=by
 intro pins s σ H D I h
 refine wpAny_For (thn (hi pins s σ H _ I h) fun v s1 h1=>thn h1 fun itv s2 h2=>?_) hs
 obtain⟨it,fp,tn,J,H2,e,I2,T,st2,f2,W,⟨m0,w0⟩,turn⟩:=h2
 subst e
 -- what stays true of the iterator's objects through the loop
 have stat:∀{H':Hp},(∀b∈fp,H' b=none)→∀b∈fp,vg X pins H' b:=fun hn b hb=>⟨hn b hb,(f2 b hb).2⟩
 refine codeAny_forLoop_any (fun n s'=>∃i σ' H',Inv X pins σ' H' s'∧tn i s'.heap∧(∀b∈fp,H' b=none)∧W i n σ' H') ?_ m0 ⟨0,σ,H2,I2,st2,fun b hb=>(f2 b hb).1,w0⟩
 rintro n s3 ⟨i,σ3,H3,I3,st3,fr3,w3⟩
 rcases turn i n σ3 H3 w3 with⟨stop,qn⟩|⟨go,N,hN,step⟩
 . refine DE hp (thn (T.done X rfl rfl rfl hc i pins s3 σ3 H3 X.xe I3 (stat fr3) st3 stop) fun r s4 ⟨hr,I4⟩=>?_)
   subst hr
   exact EG ⟨σ3,H3,I4,qn⟩
 . refine DE hp (thn (T.item X rfl rfl rfl hc i pins s3 σ3 H3 X.xe I3 (stat fr3) st3 go) fun r s4 ⟨u,hr,h4⟩=>?_)
   subst hr
   refine DE hp (thn h4 fun _ s5 ⟨x,H5,I5,r5,y5,st5,fr5⟩=>?_)
   have I5':=I5.pinned (stat fr5) (T.obj _ _ st5)
   refine DE hp (thn (hg _ s5 σ3 H5 x u _ I5' r5 (step x H5 y5)) fun _ s6 ⟨σ6,H6,I6,q6⟩=>?_)
   refine DE hp (thn (hb _ s6 σ6 H6 _ I6 q6) fun f s7 q7=>?_)
   have again:∀{σ7:St} {H7:Hp},Inv X (pins++rm fp s5.heap) σ7 H7 s7→N σ7 H7→∃m,m<n∧∃i σ' H',Inv X pins σ' H' s7∧tn i s7.heap∧(∀b∈fp,H' b=none)∧W i m σ' H':=fun{σ7 H7} I7 n7=>by
    obtain⟨m',hm,w7⟩:=hN σ7 H7 n7
    refine⟨m',hm,i+1,σ7,H7,I7.uu,T.keep _ _ _ st5 fun b hb o e=>(I7.pin (b,o) (AU _ (AU _ (wo hb e)))).1,fun b hb=>?_,w7⟩
    obtain⟨o,e,d⟩:=T.obj _ _ st5 b hb
    exact(I7.pin (b,o) (AU _ (AU _ (wo hb e)))).2.1
   cases f with
   |next=>obtain⟨σ7,H7,I7,n7⟩:=q7;exact again I7 n7
   |cont=>obtain⟨σ7,H7,I7,n7⟩:=q7;exact again I7 n7
   |brk=>obtain⟨σ7,H7,I7,q7⟩:=q7;exact⟨σ7,H7,I7.uu,q7⟩
   |ret v=>obtain⟨x7,σ7,H7,I7,r7,q7⟩:=q7;exact⟨x7,σ7,H7,I7.uu,r7,q7⟩
end
end L2
namespace L2
open PySem PySem.Spec PyProof.Rows
noncomputable abbrev R2:=V→V→Hp→VK→Prop
def OpR(X:Cx)(f:Value→Value→Sem Value)(r:R2):Prop:=
 ∀(pins:List (Addr × Obj)) (s:Shared) (σ:St) (H:Hp) (x y:V) (v u:Value) (Q:VK),Inv X pins σ H s→RelV x v→RelV y u→r x y H Q →
  wpAny (model X.prog X.w) X.A (f v u) (EP X pins σ Q) X.xe s
def UnR(X:Cx)(f:Value→Sem Value)(r:V→Hp→VK→Prop):Prop:=
 ∀(pins:List (Addr × Obj)) (s:Shared) (σ:St) (H:Hp) (x:V) (v:Value) (Q:VK),Inv X pins σ H s→RelV x v→r x H Q →
  wpAny (model X.prog X.w) X.A (f v) (EP X pins σ Q) X.xe s
def yI(X:Cx)(f:Value)(r:List V→Hp→VK→Prop):Prop:=
 ∀(pins:List (Addr × Obj)) (s:Shared) (σ:St) (H:Hp) (xs:List V) (us:List Value) (Q:VK),Inv X pins σ H s→Vals xs us→r xs H Q →
  wpAny (model X.prog X.w) X.A (call f us) (EP X pins σ Q) X.xe s
def TL(X:Cx)(r:V→Hp→(Bool→Hp→Prop)→Prop):Prop:=
 ∀(pins:List (Addr × Obj)) (s:Shared) (σ:St) (H:Hp) (x:V) (v:Value) (Q:Bool→Hp→Prop),Inv X pins σ H s→RelV x v→r x H Q →
  wpAny (model X.prog X.w) X.A (truthy v) (TP X pins σ Q) X.xe s
noncomputable def tOp(r:R2)(ta tb:TE):TE:=fun σ H Q=>ta σ H fun x H1=>tb σ H1 fun y H2=>r x y H2 Q
noncomputable def tUn(r:V→Hp→VK→Prop)(ta:TE):TE:=fun σ H Q=>ta σ H fun x H1=>r x H1 Q
noncomputable def rI(C:Int→Int→Prop)(g:Int→Int→V):R2:=fun x y H Q=>∃i j,x=.int i∧y=.int j∧C i j∧Q (g i j) H
noncomputable def rI0(g:Int→Int→V):R2:=fun x y H Q=>∃i j,x=.int i∧y=.int j∧Q (g i j) H
noncomputable def rU(g:Int→V):V→Hp→VK→Prop:=fun x H Q=>∃i,x=.int i∧Q (g i) H
section
variable {X:Cx}{a b c:Expr}{ta tb tc:TE}{pos:Pos}
theorem Ye(ha:PE X a ta)(hb:PE X b tb){pins:List (Addr × Obj)}{s:Shared}{σ:St}{H:Hp}{R:V→V→Hp→Prop}(I:Inv X pins σ H s)
 (h:ta σ H fun x H1=>tb σ H1 fun y H2=>R x y H2) {Q:Value→Shared→Prop} {f:Value→Value→Sem Value}
 (hf:∀v u s2 x y H2,Inv X pins σ H2 s2→RelV x v→RelV y u→R x y H2→wpAny (model X.prog X.w) X.A (f v u) Q X.xe s2) :
 wpAny (model X.prog X.w) X.A (eval a X.env) (fun v s₁=>wpAny (model X.prog X.w) X.A (eval b X.env) (fun u s₂=>wpAny (model X.prog X.w) X.A (f v u) Q X.xe s₂) X.xe s₁) X.xe s:=by
 refine thn (ha pins s σ H _ I h) fun v s1 ⟨x,H1,I1,r1,q1⟩=>?_
 refine thn (hb pins s1 σ H1 _ I1 q1) fun u s2 ⟨y,H2,I2,r2,q2⟩=>?_
 exact hf v u s2 x y H2 I2 r1 r2 q2
theorem jG{op:Operator}{r:R2}(ho:OpR X (BA op) r)(ha:PE X a ta)(hb:PE X b tb):PE X (.BinOp a op b pos) (tOp r ta tb):=by
 intro pins s σ H Q I h
 exact wpAny_BinOp (Ye ha hb I h fun v u s2 x y H2 I2 rx ry q=>ho pins s2 σ H2 x y v u Q I2 rx ry q)
theorem UU{op:UnaryOp}{r:V→Hp→VK→Prop}(ho:UnR X (unaryOp op) r)(ha:PE X a ta):PE X (.UnaryOp op a pos) (tUn r ta):=by
 intro pins s σ H Q I h
 exact UnaryOp_ (thn (ha pins s σ H _ I h) fun v s1 ⟨x,H1,I1,r1,q1⟩=>ho pins s1 σ H1 x v Q I1 r1 q1)
theorem opI{f:Value→Value→Sem Value}{C:Int→Int→Prop}{g:Int→Int→Int}
 (rule:∀(i j:Int) (t u:Tok) (s:Shared) (Q:Value→Shared→Prop) (E:Value→Shared→Prop),C i j→Q (.int (g i j) s.toks) {s with toks:=s.toks+1}→wpAny (model X.prog X.w) X.A (f (.int i t) (.int j u)) Q E s) :
 OpR X f (rI C fun i j=>.int (g i j)):=by
 intro pins s σ H x y v u Q I rx ry h
 obtain⟨i,j,rfl,rfl,hc,q⟩:=h
 obtain⟨t,rfl⟩:=rx
 obtain⟨t',rfl⟩:=ry
 exact rule i j t t' s _ _ hc ⟨.int (g i j),H,I.tok _,⟨_,rfl⟩,q⟩
theorem V2{f:Value→Value→Sem Value}{g:Int→Int→Int}
 (rule:∀(i j:Int) (t u:Tok) (s:Shared) (Q:Value→Shared→Prop) (E:Value→Shared→Prop),Q (.int (g i j) s.toks) {s with toks:=s.toks+1}→wpAny (model X.prog X.w) X.A (f (.int i t) (.int j u)) Q E s) :
 OpR X f (rI0 fun i j=>.int (g i j)):=by
 intro pins s σ H x y v u Q I rx ry h
 obtain⟨i,j,rfl,rfl,q⟩:=h
 obtain⟨t,rfl⟩:=rx
 obtain⟨t',rfl⟩:=ry
 exact rule i j t t' s _ _ ⟨.int (g i j),H,I.tok _,⟨_,rfl⟩,q⟩
theorem ai{f:Value→Value→Sem Value}{g:Int→Int→Bool}
 (rule:∀(i j:Int) (t u:Tok) (s:Shared) (Q:Value→Shared→Prop) (E:Value→Shared→Prop),Q (.bool (g i j)) s→wpAny (model X.prog X.w) X.A (f (.int i t) (.int j u)) Q E s) :
 OpR X f (rI0 fun i j=>.bl (g i j)):=by
 intro pins s σ H x y v u Q I rx ry h
 obtain⟨i,j,rfl,rfl,q⟩:=h
 obtain⟨t,rfl⟩:=rx
 obtain⟨t',rfl⟩:=ry
 exact rule i j t t' s _ _ ⟨.bl (g i j),H,I,rfl,q⟩
def TJ(i j:Int):Prop:=0<j∧j<1073741824
def TK(i j:Int):Prop:=0≤j∧j≤1000000∧i.natAbs<2 ^ 64
def YU(i j:Int):Prop:=(-(2 ^ 64)<i∧i<2 ^ 64)∨(-(2 ^ 64)<j∧j<2 ^ 64)
theorem YU.ok{i j:Int}(h:YU i j):IntMulOk i j:=by
 rcases h with⟨h1,h2⟩|⟨h1,h2⟩
 . exact .of_left (intBits_le_64 h1 h2)
 . exact .of_right (intBits_le_64 h1 h2)
theorem Xz:OpR X (BA .Add) (rI0 fun i j=>.int (i+j)):=V2 fun _ _ _ _ _ _ _ q=>add_int q
theorem X9:OpR X (BA .Sub) (rI0 fun i j=>.int (i-j)):=V2 fun _ _ _ _ _ _ _ q=>sub_int q
theorem X6:OpR X (BA .Mult) (rI YU fun i j=>.int (i*j)):=opI fun _ _ _ _ _ _ _ hc q=>mul_int q hc.ok
theorem ak:OpR X (BA .FloorDiv) (rI TJ fun i j=>.int (i/j)):=opI fun i j _ _ _ _ _ hc q=>by
 have h1:(0:Int)<j:=hc.1
 have h2:j<1073741824:=hc.2
 exact floordiv_int (by omega) (by rw[Int.fdiv_eq_ediv_of_nonneg i (by omega)];exact q) (.inl (PyProof.noPylong_small (by omega)))
theorem X5:OpR X (BA .Mod) (rI (fun _ j=>0<j) fun i j=>.int (i%j)):=opI fun i j _ _ _ _ _ hc q=>by
 have h1:(0:Int)<j:=hc
 exact mod_int' (by omega) (by rw[Int.fmod_eq_emod_of_nonneg i (by omega)];exact q)
theorem X7:OpR X (BA .Pow) (rI TK fun i j=>.int (i ^ j.toNat)):=opI fun _ _ _ _ _ _ _ hc q=>pow_int_small hc.1 hc.2.1 hc.2.2 q
theorem unI{f:Value→Sem Value}{g:Int→Int}
 (rule:∀(i:Int) (t:Tok) (s:Shared) (Q:Value→Shared→Prop) (E:Value→Shared→Prop),Q (.int (g i) s.toks) {s with toks:=s.toks+1}→wpAny (model X.prog X.w) X.A (f (.int i t)) Q E s) :
 UnR X f (rU fun i=>.int (g i)):=by
 intro pins s σ H x v Q I rx h
 obtain⟨i,rfl,q⟩:=h
 obtain⟨t,rfl⟩:=rx
 exact rule i t s _ _ ⟨.int (g i),H,I.tok _,⟨_,rfl⟩,q⟩
theorem VB:UnR X (unaryOp .USub) (rU fun i=>.int (-i)):=unI fun _ _ _ _ _ q=>neg_int q
end
noncomputable def Ur:V→V→Bool
 |.non,.non=>true|.non,.int _=>true|.int _,.non=>true|.non,.bl _=>true|.bl _,.non=>true|.non,.str _=>true|.str _,.non=>true
 |.int _,.int _=>true|.bl _,.bl _=>true|.str _,.str _=>true|.byt _,.byt _=>true
 |.int _,.str _=>true|.str _,.int _=>true|.bl _,.str _=>true|.str _,.bl _=>true
 |_,_=>false
noncomputable def rEq:R2:=fun x y H Q=>Ur x y=true∧Q (.bl (decide (x=y))) H
noncomputable def rNe:R2:=fun x y H Q=>Ur x y=true∧Q (.bl (!decide (x=y))) H
theorem ka{i j:Int}:decide (V.int i=V.int j)=(i == j):=by
 rw[Cc]
 simp
theorem gz{i j:Bool}:decide (V.bl i=V.bl j)=(i == j):=by
 rw[Cc]
 simp
theorem ke{i j:Str}:decide (V.str i=V.str j)=(i == j):=by
 rw[Cc]
 simp
theorem kZ{i j:Array UInt8}:decide (V.byt i=V.byt j)=(i.toList == j.toList):=by
 rw[Cc]
 cases i
 cases j
 simp
section
variable {X:Cx}{a b c:Expr}{ta tb tc:TE}{pos:Pos}
theorem zb{pins:List (Addr × Obj)}{σ:St}{H:Hp}{s:Shared}{Q:VK}{k k':Bool}(I:Inv X pins σ H s)(q:Q (.bl k) H)(e:k=k'):EP X pins σ Q (.bool k') s:=by
 subst e
 exact⟨.bl k,H,I,rfl,q⟩
theorem Z8:OpR X (Bk .Eq) rEq:=by
 intro pins s σ H x y v u Q I rx ry h
 obtain⟨hs,q⟩:=h
 cases x with
 |non=>
  cases rx
  cases y with
  |non=>cases ry;exact PySem.EqNone.eq_none_none (zb I q (by simp))
  |bl j=>cases ry;exact PySem.EqNone.eq_none_bool (zb I q (by simp))
  |int j=>obtain⟨t',rfl⟩:=ry;exact PySem.EqNone.eq_none_int (zb I q (by simp))
  |str j=>obtain⟨t',rfl⟩:=ry;exact PySem.EqNone.eq_none_str (zb I q (by simp))
  |_=>exact absurd (show false=true from hs) Am
 |bl i=>
  cases rx
  cases y with
  |non=>cases ry;exact PySem.EqNone.eq_bool_none (zb I q (by simp))
  |bl j=>cases ry;exact eq_bool (zb I q gz)
  |str j=>obtain⟨t',rfl⟩:=ry;exact PySem.EqMixed.eq_bool_str (zb I q (by simp))
  |_=>exact absurd (show false=true from hs) Am
 |int i=>
  obtain⟨t,rfl⟩:=rx
  cases y with
  |non=>cases ry;exact PySem.EqNone.eq_int_none (zb I q (by simp))
  |int j=>obtain⟨t',rfl⟩:=ry;exact eq_int (zb I q ka)
  |str j=>obtain⟨t',rfl⟩:=ry;exact PySem.EqMixed.eq_int_str (zb I q (by simp))
  |_=>exact absurd (show false=true from hs) Am
 |str i=>
  obtain⟨t,rfl⟩:=rx
  cases y with
  |non=>cases ry;exact PySem.EqNone.eq_str_none (zb I q (by simp))
  |bl j=>cases ry;exact PySem.EqMixed.eq_str_bool (zb I q (by simp))
  |int j=>obtain⟨t',rfl⟩:=ry;exact PySem.EqMixed.eq_str_int (zb I q (by simp))
  |str j=>obtain⟨t',rfl⟩:=ry;exact eq_str (zb I q ke)
  |_=>exact absurd (show false=true from hs) Am
 |byt i=>
  obtain⟨t,rfl⟩:=rx
  cases y with
  |byt j=>obtain⟨t',rfl⟩:=ry;exact PySem.W.eq_bytes (zb I q kZ)
  |_=>exact absurd (show false=true from hs) Am
 |_=>cases y<;>exact absurd (show false=true from hs) Am
theorem Z9:OpR X (Bk .NotEq) rNe:=by
 intro pins s σ H x y v u Q I rx ry h
 obtain⟨hs,q⟩:=h
 cases x with
 |non=>
  cases rx
  cases y with
  |non=>cases ry;exact PySem.EqNone.ne_none_none (zb I q (by simp))
  |bl j=>cases ry;exact PySem.EqNone.ne_none_bool (zb I q (by simp))
  |int j=>obtain⟨t',rfl⟩:=ry;exact PySem.EqNone.ne_none_int (zb I q (by simp))
  |str j=>obtain⟨t',rfl⟩:=ry;exact PySem.EqNone.ne_none_str (zb I q (by simp))
  |_=>exact absurd (show false=true from hs) Am
 |bl i=>
  cases rx
  cases y with
  |non=>cases ry;exact PySem.EqNone.ne_bool_none (zb I q (by simp))
  |bl j=>cases ry;exact ne_bool (zb I q (congrArg not gz))
  |str j=>obtain⟨t',rfl⟩:=ry;exact PySem.EqMixed.ne_bool_str (zb I q (by simp))
  |_=>exact absurd (show false=true from hs) Am
 |int i=>
  obtain⟨t,rfl⟩:=rx
  cases y with
  |non=>cases ry;exact PySem.EqNone.ne_int_none (zb I q (by simp))
  |int j=>obtain⟨t',rfl⟩:=ry;exact ne_int (zb I q (congrArg not ka))
  |str j=>obtain⟨t',rfl⟩:=ry;exact PySem.EqMixed.ne_int_str (zb I q (by simp))
  |_=>exact absurd (show false=true from hs) Am
 |str i=>
  obtain⟨t,rfl⟩:=rx
  cases y with
  |non=>cases ry;exact PySem.EqNone.ne_str_none (zb I q (by simp))
  |bl j=>cases ry;exact PySem.EqMixed.ne_str_bool (zb I q (by simp))
  |int j=>obtain⟨t',rfl⟩:=ry;exact PySem.EqMixed.ne_str_int (zb I q (by simp))
  |str j=>obtain⟨t',rfl⟩:=ry;exact ne_str (zb I q (congrArg not ke))
  |_=>exact absurd (show false=true from hs) Am
 |byt i=>
  obtain⟨t,rfl⟩:=rx
  cases y with
  |byt j=>obtain⟨t',rfl⟩:=ry;exact PySem.W.ne_bytes (zb I q (congrArg not kZ))
  |_=>exact absurd (show false=true from hs) Am
 |_=>cases y<;>exact absurd (show false=true from hs) Am
theorem V6:OpR X (Bk .Lt) (rI0 fun i j=>.bl (decide (i<j))):=ai fun _ _ _ _ _ _ _ q=>lt_int q
theorem V5:OpR X (Bk .LtE) (rI0 fun i j=>.bl (decide (i≤j))):=ai fun _ _ _ _ _ _ _ q=>le_int q
theorem V4:OpR X (Bk .Gt) (rI0 fun i j=>.bl (decide (j<i))):=ai fun _ _ _ _ _ _ _ q=>gt_int q
theorem V3:OpR X (Bk .GtE) (rI0 fun i j=>.bl (decide (j≤i))):=ai fun _ _ _ _ _ _ _ q=>ge_int q
theorem X4:OpR X (Bk .Is) (fun x y H Q=>y=.non∧Q (.bl (decide (x=.non))) H):=by
 intro pins s σ H x y v u Q I rx ry h
 obtain⟨rfl,q⟩:=h
 cases ry
 refine is_none_gen (zb I q ?_)
 cases x<;>first
  |(cases rx;rfl)
  |(obtain⟨t,rfl⟩:=rx;rfl)
theorem ao:OpR X (Bk .IsNot) (fun x y H Q=>y=.non∧Q (.bl (!decide (x=.non))) H):=by
 intro pins s σ H x y v u Q I rx ry h
 obtain⟨rfl,q⟩:=h
 cases ry
 refine isnot_none_gen (zb I q ?_)
 cases x<;>first
  |(cases rx;rfl)
  |(obtain⟨t,rfl⟩:=rx;rfl)
theorem jD{op:CmpOp}{r:R2}(ho:OpR X (Bk op) r)(ha:PE X a ta)(hb:PE X b tb)(hm:Dv op b=false):PE X (.Compare a [op] [b] pos) (tOp r ta tb):=by
 intro pins s σ H Q I h
 exact wpAny_Compare1 (Ye ha hb I h fun v u s2 x y H2 I2 rx ry q=>ho pins s2 σ H2 x y v u Q I2 rx ry q) hm
noncomputable def jT(t:TE):TT:=fun σ H Q=>t σ H fun x H'=>∃k,x=.bl k∧Q k H'
theorem oU{op:CmpOp}{r:R2}(ho:OpR X (Bk op) r)(ha:PE X a ta)(hb:PE X b tb)(hm:Dv op b=false):PT X (.Compare a [op] [b] pos) (jT (tOp r ta tb)):=by
 intro pins s σ H Q I h
 refine wpAny_isTrue_Compare1 (thn (ha pins s σ H _ I h) fun v s1 ⟨x,H1,I1,r1,q1⟩=>thn (hb pins s1 σ H1 _ I1 q1) fun u s2 ⟨y,H2,I2,r2,q2⟩=>
  thn (ho pins s2 σ H2 x y v u _ I2 r1 r2 q2) fun c s3 ⟨z,H3,I3,r3,k,e,q3⟩=>?_) hm
 subst e
 cases r3
 exact Bv ⟨H3,I3,q3⟩
noncomputable def cy(r r':R2)(ta tb tc:TE):TE:=fun σ H Q=>ta σ H fun x H1=>tb σ H1 fun y H2=>r x y H2 fun z H3=>∃k,z=.bl k ∧
 (if k=true then tc σ H3 fun w' H4=>r' y w' H4 Q else Q (.bl false) H3)
theorem dW{op op':CmpOp}{r r':R2}(ho:OpR X (Bk op) r)(ho':OpR X (Bk op') r')(ha:PE X a ta)(hb:PE X b tb)(hc:PE X c tc)
 (hm:GY [op,op'] [b,c]=false:=by with_unfolding_all rfl):PE X (.Compare a [op,op'] [b,c] pos) (cy r r' ta tb tc):=by
 intro pins s σ H Q I h
 refine Compare_chain (thn (ha pins s σ H _ I h) fun v s1 ⟨x,H1,I1,r1,q1⟩=>chain_link (thn (hb pins s1 σ H1 _ I1 q1) fun u s2 ⟨y,H2,I2,r2,q2⟩=>
  thn (ho pins s2 σ H2 x y v u _ I2 r1 r2 q2) fun d s3 ⟨z,H3,I3,r3,k,e,q3⟩=>?_)) hm
 subst e
 cases r3
 refine Bv ?_
 cases k with
 |false=>exact ite_ff ⟨.bl false,H3,I3,rfl,q3⟩
 |true=>exact ite_tt (chain_last (thn (hc pins s3 σ H3 _ I3 q3) fun w' s4 ⟨z',H4,I4,r4,q4⟩=>ho' pins s4 σ H4 y z' u w' Q I4 r2 r4 q4))
theorem dz{op op':CmpOp}{r r':R2}(ho:OpR X (Bk op) r)(ho':OpR X (Bk op') r')(ha:PE X a ta)(hb:PE X b tb)(hc:PE X c tc)
 (hm:GY [op,op'] [b,c]=false:=by with_unfolding_all rfl):PT X (.Compare a [op,op'] [b,c] pos) (jT (cy r r' ta tb tc)):=by
 intro pins s σ H Q I h
 refine isTrue_chain (thn (ha pins s σ H _ I h) fun v s1 ⟨x,H1,I1,r1,q1⟩=>test_link (thn (hb pins s1 σ H1 _ I1 q1) fun u s2 ⟨y,H2,I2,r2,q2⟩=>
  thn (ho pins s2 σ H2 x y v u _ I2 r1 r2 q2) fun d s3 ⟨z,H3,I3,r3,k,e,q3⟩=>?_)) hm
 subst e
 cases r3
 refine Bv ?_
 cases k with
 |false=>
  obtain⟨k',e',q'⟩:=q3
  cases e'
  exact ite_ff ⟨H3,I3,q'⟩
 |true=>
  refine ite_tt (test_last (thn (hc pins s3 σ H3 _ I3 q3) fun w' s4 ⟨z',H4,I4,r4,q4⟩=>thn (ho' pins s4 σ H4 y z' u w' _ I4 r2 r4 q4) fun d' s5 ⟨z2,H5,I5,r5,k2,e2,q5⟩=>?_))
  subst e2
  cases r5
  exact Bv ⟨H5,I5,q5⟩
def bS(K:Af)(x:V)(H:Hp)(k:Bool):Prop:=
 match x with
 |.non=>k=false
 |.bl b=>k=b
 |.int i=>k=(i != 0)
 |.str y=>y.length≤AB∧k=((y.length:Int) != 0)
 |.byt y=>y.size≤AB∧k=((y.size:Int) != 0)
 |.ref p=>(∃xs,SqL K H p xs∧k=!xs.isEmpty)∨(∃xs,SqT K H p xs∧k=!xs.isEmpty)∨∃kvs,H p=some (.dK kvs)∧k=!kvs.isEmpty
 |_=>False
theorem m7{κ:Type}{kvs:List (κ × V)}{vs:List (κ × Value)}(r:KV kvs vs):(!vs.isEmpty)=!kvs.isEmpty:=by
 cases r<;>rfl
theorem rN{xs:List V}{its:List Value}(r:Vals xs its):(!its.toArray.isEmpty)=!xs.isEmpty:=by
 cases r<;>simp
theorem vz:(AB:Nat)<2 ^ 63:=by rw[A2];decide
theorem bC:TL X (fun x H Q=>∃k,bS X.K x H k∧Q k H):=by
 intro pins s σ H x v Q I rx h
 obtain⟨k,e,q⟩:=h
 have hl:=vz
 have hs:AB=16777216:=A2
 cases x with
 |non=>
  cases rx
  have e':k=false:=e
  subst e'
  exact truthy_none ⟨H,I,q⟩
 |bl b=>
  cases rx
  have e':k=b:=e
  subst e'
  exact Bv ⟨H,I,q⟩
 |int i=>
  obtain⟨t,rfl⟩:=rx
  have e':k=(i != 0):=e
  subst e'
  exact PySem.P.truthy_int ⟨H,I,q⟩
 |str y=>
  obtain⟨t,rfl⟩:=rx
  obtain⟨hy,e'⟩:y.length≤AB∧k=((y.length:Int) != 0):=e
  subst e'
  exact PySem.P.truthy_str (by omega) ⟨H,I.tok _,q⟩
 |byt y=>
  obtain⟨t,rfl⟩:=rx
  obtain⟨hy,e'⟩:y.size≤AB∧k=((y.size:Int) != 0):=e
  subst e'
  exact PySem.W.truthy_bytes (by omega) ⟨H,I.tok _,q⟩
 |ref p=>
  cases rx
  have e':(∃xs,SqL X.K H p xs∧k=!xs.isEmpty)∨(∃xs,SqT X.K H p xs∧k=!xs.isEmpty)∨∃kvs,H p=some (.dK kvs)∧k=!kvs.isEmpty:=e
  rcases e' with⟨xs,hx,e'⟩|⟨xs,hx,e'⟩|⟨kvs,hx,e'⟩
  . subst e'
    obtain⟨its,r,pl,hz⟩:=I.list hx
    have hlen:=r.length
    exact wpAny_truthy_list pl.isList (by simp only[Ah];omega) ⟨H,I.tok _,by rw[rN r];exact q⟩
  . subst e'
    obtain⟨its,r,pl,hz⟩:=I.tuple hx
    have hlen:=r.length
    exact truthy_tuple pl (by simp only[Ah];omega) ⟨H,I.tok _,by rw[rN r];exact q⟩
  . subst e'
    obtain⟨hz,hS,vs,r,m⟩:kvs.length≤AB∧(p == B0)=false∧∃vs,KV kvs vs∧s.heap.DictOf (oF X.prog X.w) p vs:=I.hok p _ hx
    have hlen:kvs.length=vs.length:=GU r
    exact wpAny_truthy_dict hS m (by omega) ⟨H,I.tok _,by rw[m7 r];exact q⟩
 |_=>exact(show False from e).elim
theorem d6(ha:PE X a ta)(he:∀whole,isTrue a X.env whole=(do let v ←whole;standAt a.pos;holding [v] (truthy v))) :
 PT X a (fun σ H Q=>ta σ H fun x H'=>∃k,bS X.K x H' k∧Q k H'):=by
 intro pins s σ H Q I h
 exact isTrue_plain (thn (ha pins s σ H _ I h) fun v s1 ⟨x,H1,I1,r1,q1⟩=>bC pins s1 σ H1 x v Q I1 r1 q1) (he _)
theorem rj:OpR X (BA .Add) (fun x y H Q=>∃i j,x=.str i∧y=.str j∧i.length+j.length≤AB∧Q (.str (i++j)) H):=by
 intro pins s σ H x y v u Q I rx ry h
 obtain⟨i,j,rfl,rfl,hz,q⟩:=h
 obtain⟨t,rfl⟩:=rx
 obtain⟨t',rfl⟩:=ry
 exact add_str (fun t' tk=>⟨.str (i++j),H,I.tok _,⟨_,rfl⟩,q⟩) hz
theorem vals1{x:V}{us:List Value}(r:Vals [x] us):∃u,us=[u]∧RelV x u:=by
 cases r with
 |cons r1 r2=>cases r2;exact⟨_,rfl,r1⟩
theorem vals2{x y:V}{us:List Value}(r:Vals [x,y] us):∃u w',us=[u,w']∧RelV x u∧RelV y w':=by
 cases r with
 |cons r1 r2=>
  cases r2 with
  |cons r3 r4=>cases r4;exact⟨_,_,rfl,r1,r3⟩
theorem jg(hc:X.calm=true):yI X (.builtin "max") (fun xs H Q=>∃i j,xs=[.int i,.int j]∧Q (.int (if j > i then j else i)) H):=by
 intro pins s σ H xs us Q I r h
 obtain⟨i,j,rfl,q⟩:=h
 obtain⟨u,w',rfl,⟨t,rfl⟩,⟨t',rfl⟩⟩:=vals2 r
 refine max_two_ints (I.ok.hd hc) fun h' tk k=>⟨_,H,I.kept k,?_,q⟩
 by_cases hj:j > i
 . rw[if_pos hj,if_pos hj];exact⟨_,rfl⟩
 . rw[if_neg hj,if_neg hj];exact⟨_,rfl⟩
theorem jk(hc:X.calm=true):yI X (.builtin "min") (fun xs H Q=>∃i j,xs=[.int i,.int j]∧Q (.int (if j<i then j else i)) H):=by
 intro pins s σ H xs us Q I r h
 obtain⟨i,j,rfl,q⟩:=h
 obtain⟨u,w',rfl,⟨t,rfl⟩,⟨t',rfl⟩⟩:=vals2 r
 refine min_two_ints (I.ok.hd hc) fun h' tk k=>⟨_,H,I.kept k,?_,q⟩
 by_cases hj:j<i
 . rw[if_pos hj,if_pos hj];exact⟨_,rfl⟩
 . rw[if_neg hj,if_neg hj];exact⟨_,rfl⟩
theorem qc:yI X (.type "int") (fun xs H Q=>(∃i,xs=[.int i]∧Q (.int i) H)∨∃k,xs=[.bl k]∧Q (.int (if k then 1 else 0)) H):=by
 intro pins s σ H xs us Q I r h
 rcases h with⟨i,rfl,q⟩|⟨k,rfl,q⟩
 . obtain⟨u,rfl,t,rfl⟩:=vals1 r
   exact call_int_int ⟨.int i,H,I,⟨_,rfl⟩,q⟩
 . obtain⟨u,rfl,r1⟩:=vals1 r
   cases r1
   exact call_int_bool ⟨.int (if k then 1 else 0),H,I.tok _,⟨_,rfl⟩,q⟩
end
end L2
namespace L2
open PySem PySem.Spec PyProof.Rows
structure YX(h:Heap)(x dx C:Addr)(mA:Str→Option Value):Prop where
 obj:h.get? x=some (Gs C dx)
 ns:h.Ns1 dx mA
 ne:dx≠x
theorem iL{h:Heap}{dx:Addr}{mA:Str→Option Value}(n:h.Ns1 dx mA):∃od,h.get? dx=some od∧∀name,GB name od=some (mA name):=by
 obtain⟨o,es,ep,ho,hd,hk,_,hm⟩:=n
 refine⟨o,ho,fun name=>?_⟩
 have e:=hm name
 unfold nsFind findBy at e
 rw[←Array.find?_toList]at e
 unfold GB
 rw[hd]
 dsimp only
 split
 . rename_i y q
   rw[q]at e
   exact congrArg some e
 . rename_i q
   rw[q]at e
   have a:es.toList.any (·.refKey)=false:=by
    rw[List.any_eq_false]
    intro y hy
    obtain⟨z,t,hkey⟩:=hk y (Array.mem_toList_iff.mp hy)
    simp[Gq.refKey,hkey]
   have a':¬es.toList.any (·.refKey)=true:=by rw[a];exact Am
   rw[if_neg a']
   exact congrArg some e
theorem YX.look{h:Heap}{x dx C:Addr}{mA:Str→Option Value}(I:YX h x dx C mA):∃od,PySem.W.InstAt h x (Gs C dx) C (some od)∧∀name,GB name od=some (mA name):=
 let ⟨od,ho,hl⟩:=iL I.ns
 ⟨od,⟨I.obj,rfl,rfl,ho⟩,hl⟩
section
variable {P:Program}{w:World}{H H':Hp}{h h':Heap}{a C dx:Addr}{fs fs':List (Str × V)}
theorem b7(hok:HOk P w H h)(e:H a=some (.ins C dx fs)):∃mA,YX h a dx C mA∧(∀f,YY (fs.lookup f) (mA f))∧PySem.Within mA (fs.map (·.1))∧fs.length≤1000∧H dx=some (.own a):=by
 obtain⟨d,z,ne,ob,mA,n,r,q⟩:=(show z9 P w H h a (.ins C dx fs) from hok a _ e)
 exact⟨mA,⟨ob,n,ne⟩,r,q,z,d⟩
end
structure Cls(K:Af)(C:Addr):Prop where
 pg:PySem.W.plainGet K C Ez=true
 hd:PySem.W.hasDictIn K C=true
 po:PySem.W.plainOver K C=true
 sa:PySem.W.findIn K (.ref C) "__setattr__"=some (some (.builtin "object.__setattr__"))
theorem Cls.get{K:Af}{C:Addr}(c:Cls K C)(f:Str):PySem.W.plainGet K C f=true:=c.pg
section
variable {X:Cx}{pins:List (Addr × Obj)}{σ:St}{H:Hp}{s:Shared}{A:Around}{E:Value→Shared→Prop}{Q:Value→Shared→Prop}{c:Value}{b:Bool}
inductive uG(K:Af)(H:Hp):V→Value→Prop where
 |non:uG K H .non (.type "NoneType")
 |bl (x:Bool):uG K H (.bl x) (.type "bool")
 |int (i:Int):uG K H (.int i) (.type "int")
 |str (x:Str):uG K H (.str x) (.type "str")
 |flt (x:UInt64):uG K H (.flt x) (.type "float")
 |lst {a:Addr} {xs:List V} (e:H a=some (.lst xs)):uG K H (.ref a) (.type "list")
 |frz {a:Addr} {o:Obj} {xs:List V} (e:H a=some (.frz o (.lst xs))):uG K H (.ref a) (.type "list")
 |tup {a:Addr} {xs:List V} (e:H a=some (.tup xs)):uG K H (.ref a) (.type "tuple")
 |dK {a:Addr} {kvs:List (Key × V)} (e:H a=some (.dK kvs)):uG K H (.ref a) (.type "dict")
 |dT {a:Addr} {kvs:List (List Key × V)} (e:H a=some (.dT kvs)):uG K H (.ref a) (.type "dict")
 |ins {a C dx:Addr} {fs:List (Str × V)} (e:H a=some (.ins C dx fs)) (cl:Cls K C) (ha:PySem.W.findIn K (.ref C) "__class__"=some (some (.builtin "object.__class__")))
  (hn:PySem.W.specialIn K (.builtin "object.__class__") "__get__"=some (some (.builtin "getset_descriptor.__get__"))) (htk:PySem.W.takesIn K (.builtin "object.__class__")=some true)
  (hm:PySem.W.mroIn K C (.type "object")=some true):uG K H (.ref a) (.ref C)
theorem j4{x:V}{u t:Value}(I:Inv X pins σ H s)(rx:RelV x u)(ty:uG X.K H x t)(e:GC X.K t c=some b)(h:∀tk,Q (.bool b) {s with toks:=tk}) :
 wpAny (model X.prog X.w) A (call (.builtin "isinstance") [u,c]) Q E s:=by
 cases ty with
 |non=>cases (show u=B9 from rx);exact BF PySem.W.kitx_none I.kIn Bg e (fun z=>nomatch z) h
 |bl y=>cases (show u=Cz y from rx);exact BF PySem.W.kitx_bool I.kIn Bg e (fun z=>nomatch z) h
 |int i=>obtain⟨t,q⟩:=(show ∃t,u=Fc i t from rx);cases q;exact BF PySem.W.kitx_int I.kIn Bg e (fun z=>nomatch z) h
 |str y=>obtain⟨t,q⟩:=(show ∃t,u=DH y t from rx);cases q;exact BF PySem.W.kitx_str I.kIn Bg e (fun z=>nomatch z) h
 |flt y=>obtain⟨t,q⟩:=(show ∃t,u=Value.float y t from rx);cases q;exact BF PySem.W.kitx_float I.kIn Bg e (fun z=>nomatch z) h
 |@lst a xs ea=>
  cases (show u=A0 a from rx)
  obtain⟨_,_,n,_,h1⟩:=(show z9 X.prog X.w H s.heap a (.lst xs) from I.hok a _ ea)
  exact BF PySem.W.kitx_list I.kIn ⟨_,h1,rfl⟩ e (fun z=>nomatch z) h
 |@frz a ob xs ea=>
  cases (show u=A0 a from rx)
  obtain⟨_,_,_,n,_,h1⟩:=(show z9 X.prog X.w H s.heap a (.frz ob (.lst xs)) from I.hok a _ ea)
  exact BF PySem.W.kitx_list I.kIn ⟨_,h1,rfl⟩ e (fun z=>nomatch z) h
 |@tup a xs ea=>
  cases (show u=A0 a from rx)
  obtain⟨_,_,_,p⟩:=(show z9 X.prog X.w H s.heap a (.tup xs) from I.hok a _ ea)
  obtain⟨o,h1,h2,_⟩:=p
  exact BF PySem.W.kitx_tuple I.kIn ⟨o,h1,h2⟩ e (fun z=>nomatch z) h
 |@dK a kvs ea=>
  cases (show u=A0 a from rx)
  obtain⟨_,_,vs,_,p⟩:=(show z9 X.prog X.w H s.heap a (.dK kvs) from I.hok a _ ea)
  obtain⟨o,es,ep,h1,h2,_⟩:=p
  exact BF PySem.W.kitx_dict I.kIn ⟨o,h1,h2.1⟩ e (fun z=>nomatch z) h
 |@dT a kvs ea=>
  cases (show u=A0 a from rx)
  obtain⟨_,_,xs,_,o,es,ep,h1,h2,_⟩:=(show z9 X.prog X.w H s.heap a (.dT kvs) from I.hok a _ ea)
  exact BF PySem.W.kitx_dict I.kIn ⟨o,h1,h2.1⟩ e (fun z=>nomatch z) h
 |@ins a C dx fs ea cl ha hn htk hm=>
  cases (show u=A0 a from rx)
  obtain⟨mA,O,_⟩:=b7 I.hok ea
  obtain⟨od,J,_⟩:=O.look
  exact BF (PySem.W.kitx_own (cl.get _) cl.hd ha hn htk hm) I.kIn J e (fun z=>nomatch z) h
end
end L2
namespace L2
open PySem PySem.Spec PyProof.Rows
structure yu(k:Nat)(A:Around):Prop where
 hd:A.handled=none
 dp:A.depth+3*k+5<CY
 un:A.units+16*k+200<cLine
 gd:A.guards=some []
theorem yu.deeper{k:Nat}{A:Around}(r:yu (k+1) A)(env:Env):yu k (A.deeper env):=
 ⟨r.hd,by have:=r.dp;show A.depth+1+3*k+5<_;omega,by have:=r.un;show A.units+3+16*k+200<_;omega,r.gd⟩
theorem yu.depth{k:Nat}{A:Around}(r:yu k A):A.depth<CY:=by have:=r.dp;omega
noncomputable def r9:TA:=fun _ H Q=>Q [] H
noncomputable def vD(ta:TE)(tr:TA):TA:=fun σ H Q=>ta σ H fun x H1=>tr σ H1 fun xs H2=>Q (x::xs) H2
section
variable {X:Cx}{e:Expr}{es:List Expr}{te:TE}{t:TA}{pos:Pos}
theorem yn:PA X [] r9:=fun _ _ _ _ H Q I h=>Calls.spliced_nil ⟨[],H,I,.nil,h⟩
theorem xY(ha:PE X e te)(hr:PA X es t)(hs:AM (e::es) X.env=(false,eval e X.env)::AM es X.env:=by rfl):PA X (e::es) (vD te t):=by
 intro pos pins s σ H Q I h
 rw[hs]
 show wpAny _ _ (spliced ((false,eval e X.env)::backTo pos (AM es X.env))) _ _ s
 refine Calls.spliced_cons (thn (ha pins s σ H _ I h) fun u s1 ⟨x,H1,I1,r1,q1⟩=>?_)
 exact thn (hr pos pins s1 σ H1 _ I1 q1) fun us s2 ⟨xs,H2,I2,r2,q2⟩=>⟨x::xs,H2,I2,.cons r1 r2,q2⟩
noncomputable def Tx(t:TA):TE:=fun σ H Q=>t σ H fun xs H1=>xs.length≤AB∧∀p,H1 p=none→Q (.ref p) (upd H1 p (.tup xs))
noncomputable def l7(t:TA):TE:=fun σ H Q=>t σ H fun xs H1=>xs.length≤AB∧∀p,H1 p=none→Q (.ref p) (upd H1 p (.lst xs))
theorem WZ{x1}(h:PA X es t):PE X (.Tuple es x1 pos) (Tx t):=by
 intro pins s σ H Q I hq
 refine wpAny_Tuple_spliced (thn (h pos pins s σ H _ I hq) fun us s1 ⟨xs,H1,I1,r,z,q⟩=>⟨by rw[←r.length];exact z,?_⟩)
 have hf:H1 s1.heap.objs.size=none:=I1.hok.fresh (Ag _)
 refine⟨.ref s1.heap.objs.size,upd H1 s1.heap.objs.size (.tup xs),I1.laid (t':=s1.toks) (fun b u e=>Ad _ e) (Ag _) ?_,rfl,q _ hf⟩
 exact⟨z,us,r,⟨_,Ay _ rfl,rfl,_,rfl,rfl⟩⟩
theorem rl(h:PA X es t):PE X (.List es pos) (l7 t):=by
 intro pins s σ H Q I hq
 refine wpAny_List_spliced (thn (h pos pins s σ H _ I hq) fun us s1 ⟨xs,H1,I1,r,z,q⟩=>⟨by rw[←r.length];exact z,?_⟩)
 have hf:H1 s1.heap.objs.size=none:=I1.hok.fresh (Ag _)
 refine⟨.ref s1.heap.objs.size,upd H1 s1.heap.objs.size (.lst xs),I1.laid (t':=s1.toks) (fun b u e=>Ad _ e) (Ag _) ?_,rfl,q _ hf⟩
 exact⟨z,us,0,r,Ay _ rfl⟩
end
noncomputable abbrev Sp:=List V→Hp→VK→XK→Prop
noncomputable abbrev CXT:=List Env→Hp→Shared→XK→Value→Shared→Prop
structure mZ(P:Program)(w:World)(K:Af)(mg:Str→Option Value)(base:Heap)(A:Around)(outer:List Env)(s:Shared)(H:Hp):Prop where
 frames:A.frames=some outer
 mod:Mod K mg base
 bs:∀b o,base.get? b=some o→s.heap.get? b=some o∧H b=none
 bsz:base.objs.size≤s.heap.objs.size
 vv:s.heap.FunFrames base outer
 frf:∀b∈frs outer,H b=none
 hok:HOk P w H s.heap
 bare:AllBare s.gens
def CE(outer:List Env)(P:Program)(w:World)(H:Hp)(s:Shared)(Q:VK)(u:Value)(s':Shared):Prop:=
 ∃v H',s'.os=s.os∧AllBare s'.gens∧Un (frs outer) [] H H' s.heap s'.heap∧HOk P w H' s'.heap∧RelV v u∧Q v H'
def CR(CX:CXT)(outer:List Env)(P:Program)(w:World)(H:Hp)(s:Shared)(Q:VK)(E:XK)(r:Result)(s':Shared):Prop:=
 match r with
 |.ok (.ret u)=>CE outer P w H s Q u s'
 |.ok _=>False
 |.error e=>CX outer H s E e s'
structure uw(P:Program)(w:World)(K:Af)(mg:Str→Option Value)(base:Heap)(CX:CXT)(k:Nat)(f:Addr)(fd:Bx)(ps:List Str)(sp:Sp):Prop where
 len:∀vs H Q E,sp vs H Q E→vs.length=ps.length
 run:∀(A:Around) (outer:List Env) (s:Shared) (H:Hp) (args:Args) (us:List Value) (vs:List V) (Q:VK) (E:XK),yu k A→mZ P w K mg base A outer s H→BindsTo s fd args (ps.zip us)→Vals vs us→sp vs H Q E →
  codeAny (model P w) A (.call (.ref f) args) (CR CX outer P w H s Q E) s
theorem uw.imp{P:Program}{w:World}{K:Af}{mg:Str→Option Value}{base:Heap}{CX:CXT}{k:Nat}{f:Addr}{fd:Bx}{ps:List Str}{sp sp':Sp}(F:uw P w K mg base CX k f fd ps sp)
 (h:∀vs H Q E,sp' vs H Q E→sp vs H Q E):uw P w K mg base CX k f fd ps sp':=
 ⟨fun vs H Q E q=>F.len vs H Q E (h _ _ _ _ q),fun A outer s H args us vs Q E hr he hb hv hs=>F.run A outer s H args us vs Q E hr he hb hv (h _ _ _ _ hs)⟩
section
variable {X:Cx}{pins:List (Addr × Obj)}{σ:St}{H:Hp}{s s':Shared}
theorem Inv.vL(I:Inv X pins σ H s):mZ X.prog X.w X.K X.mg X.base X.A X.stack s H:=
 ⟨I.ok.frames,I.ok.mod,I.bs,Ax I.ok.bsz I.sz,I.stack,I.oi,I.hok,I.bare⟩
theorem Inv.after{Q:VK}{u:Value}(I:Inv X pins σ H s)(h:CE X.stack X.prog X.w H s Q u s'):EP X pins σ Q u s':=by
 obtain⟨v,H',os,bare,un,hok,r,q⟩:=h
 obtain⟨hh,g,d,t,os'⟩:=s'
 obtain rfl:os'=s.os:=os
 exact⟨v,H',I.call (h':=hh) (g':=g) (d':=d) (t':=t) (ch:=[]) un hok bare (fun b z=>absurd z (by simp)),r,q⟩
end
noncomputable def cx(sp:Sp)(dvs:List V)(E:XK)(t:TA):TE:=fun σ H Q=>t σ H fun vs H1=>sp (vs++dvs) H1 Q E
def Binds(K:Af)(fd:Bx)(ps:List Str)(ds:List Value):Prop:=
 ∀(s:Shared) (us:List Value),K.In s.heap→(us++ds).length=ps.length→BindsTo s fd ⟨us,[]⟩ (ps.zip (us++ds))
theorem Binds.all{K:Af}{fd:Bx}{ps:List Str}(h:∀us:List Value,us.length=ps.length→GK fd ⟨us,[]⟩=pure (ps.zip us)):Binds K fd ps []:=fun s us _ hl=>by
 rw[AY]at hl ⊢
 exact .of_eq (h us hl)
def Passes(CX:CXT)(X:Cx)(E:XK):Prop:=∀(pins:List (Addr × Obj)) (σ:St) (H:Hp) (s:Shared) (e:Value) (s':Shared),Inv X pins σ H s→CX X.stack H s E e s'→X.xe e s'
section
variable {X:Cx}{CX:CXT}{k:Nat}{f C:Addr}{fd:Bx}{ps:List Str}{sp:Sp}{dvs:List V}{ds:List Value}{E:XK}{x m:Str}{p pos apos:Pos}{e o:Expr}{es:List Expr}{ta:TE}{t:TA}
theorem cM{pins:List (Addr × Obj)}{σ:St}{H:Hp}{s:Shared}{Q:VK}{us:List Value}{vs:List V}(F:uw X.prog X.w X.K X.mg X.base CX k f fd ps sp)(hr:yu k X.A)(hb:Binds X.K fd ps ds)(hd:Vals dvs ds)(hx:Passes CX X E)
 (I:Inv X pins σ H s) (r:Vals vs us) (h:sp (vs++dvs) H Q E):wpAny (model X.prog X.w) X.A (call (.ref f) us) (EP X pins σ Q) X.xe s:=by
 have r2:Vals (vs++dvs) (us++ds):=r.append hd
 have hl:(us++ds).length=ps.length:=by rw[←r2.length];exact F.len _ _ _ _ h
 refine DZ (CG (F.run X.A X.stack s H ⟨us,[]⟩ (us++ds) (vs++dvs) Q E hr I.vL (hb s us I.kIn hl) r2 h) fun r s' hq=>?_)
 cases r with
 |error e=>exact hx pins σ H s e s' I hq
 |ok fl=>
  cases fl with
  |ret u=>exact I.after hq
  |next=>exact AJ hq
  |brk=>exact AJ hq
  |cont=>exact AJ hq
theorem oO(F:uw X.prog X.w X.K X.mg X.base CX k f fd ps sp)(hr:yu k X.A)(hg:Gl X x)(hm:X.mg x=some (.ref f))(hk:Cu X.K (.ref f)=true)(hb:Binds X.K fd ps ds)(hd:Vals dvs ds)(hx:Passes CX X E)
 (ha:PA X (e::es) t) (hdb:(x == ("__debug__":Str))=false:=by decide) (he:AM (e::es) X.env=(false,eval e X.env)::AM es X.env:=by rfl) (hpl:(backTo pos (AM es X.env)).any (·.1)=false:=by rfl) :
 PE X (.Call (.Name x p) (e::es) [] pos) (cx sp dvs E t):=by
 intro pins s σ H Q I h
 refine B4 (wH I hg hm ?_ hdb)
 refine Fe (h₀:=X.base) I.ok.mod.kin hk (thn (ha pos pins s σ H _ I h) fun us s1 ⟨vs,H1,I1,r,q⟩=>⟨I1.kIn,?_⟩) he hpl
 exact cM F hr hb hd hx I1 r q
theorem ny(F:uw X.prog X.w X.K X.mg X.base CX k f fd ps sp)(hr:yu k X.A)(hg:Gl X x)(hm:X.mg x=some (.ref f))(hk:Cu X.K (.ref f)=true)(hb:Binds X.K fd ps ds)(hd:Vals dvs ds)(hx:Passes CX X E)
 (hdb:(x == ("__debug__":Str))=false:=by decide):PE X (.Call (.Name x p) [] [] pos) (cx sp dvs E r9):=by
 intro pins s σ H Q I h
 refine B4 (wH I hg hm ?_ hdb)
 exact PySem.W.callWith_K0 I.kIn hk (cM (us:=[]) F hr hb hd hx I .nil h)
end
structure wD(N P:List Str)(sc:Scope):Prop where
 kind:sc.kind=.function
 co:sc.isCoroutine=false
 gen:sc.isGenerator=false
 nd:N.Nodup
 pre:N.take P.length=P
 par:∀x∈P,sc.names.lookup x=some .local∨sc.names.lookup x=some .cell
 nofree:∀y∈sc.names,y.2≠.free
theorem qb{kindOf:Str→Option Bl}{x:Str}:∀{binds:List (Str × Value)} {m:Str→Option Value},(∀v,(x,v) ∉ binds)→bindL kindOf binds m x=m x
 |[],_,_=>rfl
 |(n,v)::r,m,h=>by
  unfold bindL
  rw[qb fun w hw=>h w (Ao _ hw)]
  split
  . have:x≠n:=by rintro rfl;exact h v Av
    simp[this]
  . rfl
theorem qZ{kindOf:Str→Option Bl}{x:Str}:∀{binds:List (Str × Value)} {m:Str→Option Value},(∀v,(x,v) ∉ binds)→bindC kindOf binds m x=m x
 |[],_,_=>rfl
 |(n,v)::r,m,h=>by
  unfold bindC
  rw[qZ fun w hw=>h w (Ao _ hw)]
  split
  . rfl
  . have:x≠n:=by rintro rfl;exact h v Av
    simp[this]
theorem qa{kindOf:Str→Option Bl}{x:Str}{v:Value}:∀{P:List Str} {vs:List Value} {i:Nat} {m:Str→Option Value},P.Nodup→P[i]?=some x→vs[i]?=some v→kindOf x=some .local →
 bindL kindOf (P.zip vs) m x=some v
 |[],_,_,_,_,h,_,_=>by simp at h
 |_::_,[],_,_,_,_,h,_=>by simp at h
 |p::P,w::vs,0,m,nd,h1,h2,hk=>by
  simp at h1 h2;subst h1;subst h2
  show bindL kindOf ((p,w)::P.zip vs) m p=_
  unfold bindL
  rw[qb fun v hv=>(By.mp nd).1 (EI hv).1,if_pos hk]
  simp
 |p::P,w::vs,i+1,m,nd,h1,h2,hk=>by
  show bindL kindOf ((p,w)::P.zip vs) m x=_
  unfold bindL
  exact qa (i:=i) (By.mp nd).2 (by simpa using h1) (by simpa using h2) hk
theorem qY{kindOf:Str→Option Bl}{x:Str}{v:Value}:∀{P:List Str} {vs:List Value} {i:Nat} {m:Str→Option Value},P.Nodup→P[i]?=some x→vs[i]?=some v→kindOf x≠some .local →
 bindC kindOf (P.zip vs) m x=some v
 |[],_,_,_,_,h,_,_=>by simp at h
 |_::_,[],_,_,_,_,h,_=>by simp at h
 |p::P,w::vs,0,m,nd,h1,h2,hk=>by
  simp at h1 h2;subst h1;subst h2
  show bindC kindOf ((p,w)::P.zip vs) m p=_
  unfold bindC
  rw[qZ fun v hv=>(By.mp nd).1 (EI hv).1,if_neg hk]
  simp
 |p::P,w::vs,i+1,m,nd,h1,h2,hk=>by
  show bindC kindOf ((p,w)::P.zip vs) m x=_
  unfold bindC
  exact qY (i:=i) (By.mp nd).2 (by simpa using h1) (by simpa using h2) hk
noncomputable def start(N:List Str)(vs:List V):St:=vs.map some++Az (N.length-vs.length) none
noncomputable def xK(CX:CXT)(P:Program)(w:World)(K:Af)(mg:Str→Option Value)(base:Heap)(N:List Str)(qual:Str)(scope:Scope)(f:Addr)(cd:Value)(A:Around)(outer:List Env)(s:Shared)(H:Hp)(E:XK):Cx where
 prog:=P
 w:=w
 K:=K
 mg:=mg
 base:=base
 A:=A.deeper (envOfC qual scope s.heap.objs.size f cd)
 N:=N
 s₀:=s
 H₀:=H
 env:=envOfC qual scope s.heap.objs.size f cd
 outer:=outer
 stack:=envOfC qual scope s.heap.objs.size f cd::outer
 ex:=[]
 calm:=true
 fn:=fun _=>true
 pn:=[]
 xe:=fun e s'=>wpAny (model P w) (A.deeper (envOfC qual scope s.heap.objs.size f cd)) (leaving (envOfC qual scope s.heap.objs.size f cd) e) (fun _ s''=>CX outer H s E e s'') (fun e' s''=>CX outer H s E e' s'') s'
theorem nG{sc:Scope}{n:Nat}{x:Str}(h:sc.names.lookup x=some .cell):∃c,(CH n sc.names []).lookup x=some c:=by
 have q:=Ee sc.names n [] (.inl h)
 exact Ce.mp q
theorem qm{CX:CXT}{P:Program}{w:World}{K:Af}{mg:Str→Option Value}{base:Heap}{N ps:List Str}{qual:Str}{scope:Scope}{f:Addr}{cd:Value}{A:Around}{outer:List Env}{s s1:Shared}{H:Hp}{E:XK}{us:List Value}{vs:List V}
 (S:wD N ps scope) (hd:A.handled=none) (e0:mZ P w K mg base A outer s H) (hl:vs.length=ps.length) (r:Vals vs us)
 (x:InCallC s s.heap.objs.size (bindL (envOfC qual scope s.heap.objs.size f cd).kindOf (ps.zip us) fun _=>none) (CH (s.heap.objs.size+1) scope.names []) (bindC (envOfC qual scope s.heap.objs.size f cd).kindOf (ps.zip us) fun _=>none) s1) :
 Inv (xK CX P w K mg base N qual scope f cd A outer s H E) [] (start N vs) H s1:=by
 have hpl:ps.length≤N.length:=by have:=congrArg CW S.pre;rw[Cv]at this;omega
 obtain⟨h1,tk,rfl,hk⟩:=x.done
 have noA:∀b:Addr,b ∉ (xK CX P w K mg base N qual scope f cd A outer s H E).ex:=fun b z=>absurd (show b∈([]:List Addr) from z) (by simp)
 refine⟨⟨e0.mod,S.kind,rfl,rfl,Ag _,fun y z c h1 h2=>?_,fun y hy=>?_,fun y c _ h=>?_,fun _=>hd,EJ e0.frames,.inr ⟨rfl,rfl⟩,fun b z=>absurd z (noA b),e0.bs,e0.bsz,fun b _ _=>noA b,fun b z=>absurd z (noA b),e0.vv,e0.frf⟩,
  rfl,e0.bare,Un.kept hk,⟨_,x.toInCall.ns,fun i y v h1 h2 h3=>?_⟩,fun y c h=>⟨_,x.cell y c h⟩,e0.hok.fresh (Ag _),fun y c h=>?_,fun p hp=>absurd (show p∈([]:List (Addr × Obj)) from hp) (by simp),e0.hok.kept hk,?_⟩
 . exact name_of_addr x.apart (AZ h1) (AZ h2)
 . have hy:scope.names.lookup y=some .cell∨scope.names.lookup y=some .free:=hy
   rcases hy with hy|hy
   . exact nG hy
   . exact absurd rfl (S.nofree _ (AZ hy))
 . exact DI (x.above y c (AZ h))
 . have hi:i<vs.length:=by
    unfold start at h2
    by_cases hi:i<vs.length
    . exact hi
    . rw[BM (by simpa using hi)]at h2
      rw[D6]at h2
      split at h2<;>cases h2
   have ha:vs[i]?=some v:=by
    unfold start at h2
    rw[Ba (by simpa using hi),AQ]at h2
    cases e:vs[i]? with
    |none=>rw[e]at h2;cases h2
    |some a=>rw[e]at h2;cases h2;rfl
   obtain⟨u,hu,rv⟩:=r.get ha
   have hp:ps[i]?=some y:=by
    rw[←S.pre,FY (by omega)];exact h1
   have ndP:ps.Nodup:=by rw[←S.pre];exact S.nd.sublist (FI _ _)
   refine⟨u,rv,?_⟩
   rcases S.par y (AS hp) with k|k
   . exact .inl ⟨k,qa ndP hp hu k⟩
   . obtain⟨c,e⟩:=nG (n:=s.heap.objs.size+1) k
     refine .inr ⟨.inl k,c,e,?_⟩
     have q:=x.cell y c e
     rw[qY ndP hp hu (by show scope.names.lookup y≠_;rw[k];decide)]at q
     exact q
 . exact e0.hok.fresh (DI (x.above y c (AZ h)))
 . unfold start
   show _=N.length
   rw[Ap,Ai,CI]
   omega
theorem Zv{CX:CXT}{P:Program}{w:World}{K:Af}{mg:Str→Option Value}{base:Heap}{k:Nat}{f:Addr}{name qual:Str}{params:Cm}{body:List Stmt}{scope:Scope}{dV kV doc pm cdv ct oc:Value}{an od:Option Addr}
 {osl:Array (Option Value)} {N ps:List Str} {sp:Sp} (lk:K.lookup f=some ⟨oc,od,.func (BK name qual params body scope dV kV doc pm an cdv ct),osl⟩) (hcd:BW K cdv qual=true) (S:wD N ps scope)
 (len:∀vs H Q E,sp vs H Q E→vs.length=ps.length)
 (hbody:∀(A:Around) (outer:List Env) (s:Shared) (H:Hp) (vs:List V) (Q:VK) (E:XK),yu k (A.deeper (envOfC qual scope s.heap.objs.size f cdv))→sp vs H Q E →
  ∃t,PSs (xK CX P w K mg base N qual scope f cdv A outer s H E) body t∧t {nx:=fun _ H'=>Q .non H',rt:=Q} (start N vs) H) :
 uw P w K mg base CX (k+1) f (BK name qual params body scope dV kV doc pm an cdv ct) ps sp:=by
 refine⟨len,fun A outer s H args us vs Q E hr e0 hb r hsp=>?_⟩
 have hl:=len _ _ _ _ hsp
 have KX:K.In s.heap:=e0.mod.kin.keeps fun b o e=>(e0.bs b o e).1
 have lim:s.heap.NoLimit:=e0.mod.nolimit.keeps fun b o e=>(e0.bs b o e).1
 have hkind:∀y∈ps.zip us,scope.names.lookup y.1=some .local∨(scope.names.lookup y.1=some .cell∧((CH (s.heap.objs.size+1) scope.names []).lookup y.1).isSome=true):=fun⟨n,v⟩ hy=>by
  rcases S.par n (EI hy).1 with q|q
  . exact .inl q
  . exact .inr ⟨q,Ee _ _ _ (.inl q)⟩
 refine codeAny_call_function hr.depth (KX _ _ lk) rfl S.co S.gen rfl (PySem.W.codeRec_of KX hcd) (hb _ _ _ _ ?_)
 refine Fu S.kind hkind fun env he s1 x=>?_
 subst he
 refine⟨lim.keeps x.toInCall.keep,codeAny_func ?_⟩
 obtain⟨t,ht,hq⟩:=hbody A outer s H vs Q E (hr.deeper _) hsp
 have I:Inv (xK CX P w K mg base N qual scope f cdv A outer s H E) [] (start N vs) H s1:=qm S hr.hd e0 hl r x
 refine A9 (ht [] s1 (start N vs) H _ I hq) (fun fl s' hs=>?_) fun e s' hs=>hs
 have fin:∀{σ':St} {H':Hp} {v:V} {u:Value},Inv (xK CX P w K mg base N qual scope f cdv A outer s H E) [] σ' H' s'→RelV v u→Q v H'→CE outer P w H s Q u s':=
  fun{σ' H' v u} J rv q=>⟨v,H',J.os,J.bare,J.base,J.hok,rv,q⟩
 cases fl with
 |ret u=>
  obtain⟨v,σ',H',J,rv,q⟩:=hs
  exact fin J rv q
 |next=>
  obtain⟨σ',H',J,q⟩:=hs
  exact fin (v:=V.non) (u:=B9) J rfl q
 |brk=>
  obtain⟨_,_,_,q⟩:=hs
  exact AJ q
 |cont=>
  obtain⟨_,_,_,q⟩:=hs
  exact AJ q
end L2
namespace L2
open PySem PySem.Spec PyProof.Rows
section
variable {X:Cx}{x:Str}{p pos:Pos}{e:Expr}{es:List Expr}{t:TA}{id T:String}{r:List V→Hp→VK→Prop}
noncomputable def tCB(r:List V→Hp→VK→Prop)(t:TA):TE:=fun σ H Q=>t σ H fun vs H1=>r vs H1 Q
theorem uc(hc:yI X (.builtin id) r)(hg:Gl X x)(hm:X.mg x=none)(hv:Ca x=some (.builtin id))(ha:PA X (e::es) t)(hn:x≠"__name__":=by decide)(hdb:(x == ("__debug__":Str))=false:=by decide)
 (he:AM (e::es) X.env=(false,eval e X.env)::AM es X.env:=by rfl) (hpl:(backTo pos (AM es X.env)).any (·.1)=false:=by rfl):PE X (.Call (.Name x p) (e::es) [] pos) (tCB r t):=by
 intro pins s σ H Q I h
 refine B4 (vy I hg hm hv ?_ hn hdb)
 exact PyProof.Rows.callWith_builtin1 (thn (ha pos pins s σ H _ I h) fun us s1 ⟨vs,H1,I1,r1,q1⟩=>hc pins s1 σ H1 vs us Q I1 r1 q1) he hpl
theorem wZ(hc:yI X (.type T) r)(hg:Gl X x)(hm:X.mg x=none)(hv:Ca x=some (.type T))(ha:PA X (e::es) t)(hn:x≠"__name__":=by decide)(hdb:(x == ("__debug__":Str))=false:=by decide)
 (he:AM (e::es) X.env=(false,eval e X.env)::AM es X.env:=by rfl) (hpl:(backTo pos (AM es X.env)).any (·.1)=false:=by rfl):PE X (.Call (.Name x p) (e::es) [] pos) (tCB r t):=by
 intro pins s σ H Q I h
 refine B4 (vy I hg hm hv ?_ hn hdb)
 exact CD (thn (ha pos pins s σ H _ I h) fun us s1 ⟨vs,H1,I1,r1,q1⟩=>hc pins s1 σ H1 vs us Q I1 r1 q1) he hpl
end
end L2
namespace HT
open PySem PyProof.Rows
section
variable {prog:Program}{w:World}{A:Around}{E:Value→Shared→Prop}{s:Shared}
theorem bY{t b:Addr}{vs ws:List Value}{Q:Value→Shared→Prop}(ht:IsTup s.heap t vs.toArray)(hb:IsTup s.heap b ws.toArray)(hv:vs≠[])
 (h1:ws=[]→Q (.ref t) s) (h2:ws≠[]→Q (.ref s.heap.objs.size) {s with heap:=s.heap.push {cls:=.type "tuple",data:=.seq (vs++ws).toArray}})
 (hsz:vs.length+ws.length≤AB):wpAny (model prog w) A (BA .Add (.ref t) (.ref b)) Q E s:=by
 obtain⟨⟨cls,dd,data,sl⟩,ho,hc,n,hd⟩:=id ht
 obtain⟨⟨cls2,dd2,data2,sl2⟩,ho2,hc2,n2,hd2⟩:=id hb
 simp only at hc hd hc2 hd2
 subst hc hd hc2 hd2
 have e:vs.toArray++ws.toArray=(vs++ws).toArray:=by simp
 by_cases hw:ws=[]
 . exact concat_meets ⟨_,ho,rfl⟩ ⟨_,ho2,rfl⟩ FZ GV Ef D7 (DL _ _)
    (tuple_addW1 t b vs.toArray ws.toArray n n2 dd dd2 sl sl2 (by simpa using hv) (by simp[hw])) ⟨ho,ho2,h1 hw⟩
 . refine concat_meets ⟨_,ho,rfl⟩ ⟨_,ho2,rfl⟩ FZ GV Ef D7 (DL _ _)
    (tuple_addW2 t b vs.toArray ws.toArray n n2 dd dd2 sl sl2 (by simpa using hv) (by simpa using hw) (by rw[Ah,Ah];exact hsz)) ⟨ho,ho2,?_⟩
   rw[e]
   exact h2 hw
noncomputable def sIx(n d:Nat):Option Int→Nat
 |none=>d
 |some v=>if v<0 then (v+(n:Int)).toNat else min v.toNat n
theorem Wo(n d:Nat)(hd:d≤n)(o:Option Int):sIx n d o≤n:=by
 cases o with
 |none=>exact hd
 |some v=>
  show (if v<0 then (v+(n:Int)).toNat else min v.toNat n)≤n
  by_cases hv:v<0
  . rw[if_pos hv];omega
  . rw[if_neg hv];exact Ep _ _
theorem kX(v:Int)(n d:Nat):(if v<0 then max (v+(n:Int)) 0 else min v (n:Int))=((sIx n d (some v):Nat):Int):=by
 show (if v<0 then max (v+(n:Int)) 0 else min v (n:Int))=(((if v<0 then (v+(n:Int)).toNat else min v.toNat n):Nat):Int)
 by_cases hv:v<0
 . simp only[if_pos hv];omega
 . simp only[if_neg hv];omega
theorem mf(lo hi:Option Int)(n:Nat):BP lo hi 1 (n:Int)=(((sIx n 0 lo:Nat):Int),((sIx n n hi:Nat):Int)):=by
 have h1:¬((1:Int)<0):=by omega
 unfold BP
 simp only[h1,if_false]
 refine En ?_ ?_
 . cases lo with
   |none=>rfl
   |some v=>exact kX v n 0
 . cases hi with
   |none=>rfl
   |some v=>exact kX v n n
theorem lX(i j:Nat):B8 (i:Int) (j:Int) 1=j-i:=by
 unfold B8
 have h1:(1:Int) > 0:=by omega
 simp only[h1,if_true,Int.ediv_one]
 split<;>omega
theorem x8{v:Value}{o:Option Int}{Q:Option Int→Shared→Prop}(p:IsPart v o)(h:Q o s):wpAny (model prog w) A (Builtin.Slice.slicePartIndex v) Q E s:=by
 cases p with
 |none=>exact slicePart_none h
 |int i t=>exact slicePart_int h
theorem wd{sl:Addr}{vl vu:Value}{lo hi:Option Int}{n:Nat}{Q:Int × Int × Nat→Shared→Prop}(hs:s.heap.IsSliceOf sl vl vu .none)(pl:IsPart vl lo)(pu:IsPart vu hi)
 (h:Q (((sIx n 0 lo:Nat):Int),1,sIx n n hi-sIx n 0 lo) s):wpAny (model prog w) A (CN (.ref sl) (pure (n:Int))) Q E s:=by
 obtain⟨os,hos,hcs,hds⟩:=id hs
 unfold CN FT
 refine Ac (Ac (CA hos hds (x:=vl) rfl (Ac (CA hos hds (x:=vu) rfl (Ac (CA hos hds (x:=.none) rfl (Al ?_)))))))
 refine Ac (slicePart_none ?_)
 show wpAny _ _ (if ((1:Int) == 0)=true then _ else _) _ _ s
 rw[if_neg (by decide)]
 refine Ac (x8 pl (Ac (x8 pu (Ac (Al ?_)))))
 show wpAny _ _ (match BP lo hi 1 (n:Int) with|(lo,hi)=>pure (lo,(1:Int),B8 lo hi 1)) _ _ s
 rw[mf lo hi n]
 show wpAny _ _ (pure (((sIx n 0 lo:Nat):Int),(1:Int),B8 ((sIx n 0 lo:Nat):Int) ((sIx n n hi:Nat):Int) 1)) _ _ s
 rw[lX]
 exact Al h
theorem di(xs:Array Value)(i k:Nat):((AE k).filterMap fun(m:Nat)=>xs[((i:Int)+(m:Int)*1).toNat]?).toArray=((xs.toList.drop i).take k).toArray:=by
 have e:(fun(m:Nat)=>xs[((i:Int)+(m:Int)*1).toNat]?)=fun m=>xs[i+m]?:=by
  funext m
  have:((i:Int)+(m:Int)*1).toNat=i+m:=by omega
  rw[this]
 rw[e]
 have:=pick_run xs i k
 rw[B5]at this
 have e2:((fun x=>xs[x]?)∘fun x=>i+x)=fun m=>xs[i+m]?:=rfl
 rw[e2]at this
 rw[this]
theorem uR{t sl:Addr}{items:Array Value}{vl vu:Value}{lo hi:Option Int}{Q:Value→Shared→Prop}(ht:IsTup s.heap t items)(hs:s.heap.IsSliceOf sl vl vu .none)(pl:IsPart vl lo)(pu:IsPart vu hi)
 (hw:¬(sIx items.size 0 lo=0∧sIx items.size items.size hi=items.size))
 (h:Q (.ref s.heap.objs.size) {s with heap:=s.heap.push {cls:=.type "tuple",data:=.seq ((items.toList.drop (sIx items.size 0 lo)).take (sIx items.size items.size hi-sIx items.size 0 lo)).toArray}})
 (hsz:items.size≤AB):wpAny (model prog w) A (getItem (.ref t) (.ref sl)) Q E s:=by
 have htake:sizeOk (.seq ((items.toList.drop (sIx items.size 0 lo)).take (sIx items.size items.size hi-sIx items.size 0 lo)).toArray):=by
  show ((items.toList.drop (sIx items.size 0 lo)).take (sIx items.size items.size hi-sIx items.size 0 lo)).toArray.size≤AB
  rw[Ah,Cv,Er,Cr]
  omega
 have hj:sIx items.size items.size hi≤items.size:=Wo _ _ (Ag _) hi
 obtain⟨os,hos,hcs,hds⟩:=id hs
 have hTs:s.TypeIs (.ref sl) "slice":=⟨os,hos,hcs⟩
 unfold getItem
 try with_reducible refine BV ?_
 first|refine Ac (Al ?_)|skip
 refine Ac (FJ ht.typeIs (by decide) ?_)
 refine Ac (Cq (name:=Dj "__getitem__") ht.typeIs A1
  (Dp A1 ht.typeIs EX ?_ (Ff _ _)))
 show wpAny _ _ (Dw (.ref t) >>= _) _ _ s
 refine Ac (El ht ?_)
 refine Ac (EK hTs ?_)
 rw[if_pos (by decide)]
 refine Ac (wd hs pl pu ?_)
 have hno:¬((((sIx items.size 0 lo:Nat):Int) == 0&&(1:Int) == 1&&(sIx items.size items.size hi-sIx items.size 0 lo) == items.size)=true):=by
  intro q
  rw[Aa,Aa]at q
  have q1:((sIx items.size 0 lo:Nat):Int)=0:=Co q.1.1
  have q2:sIx items.size items.size hi-sIx items.size 0 lo=items.size:=Co q.2
  exact hw ⟨by omega,by omega⟩
 show wpAny _ _ (if (((sIx items.size 0 lo:Nat):Int) == 0&&(1:Int) == 1&&(sIx items.size items.size hi-sIx items.size 0 lo) == items.size)=true then _ else _) _ _ s
 rw[if_neg hno,di]
 first
  |exact Ac (m:=Bt _) (Be (Al ⟨_,rfl,Al h⟩) htake)
  |exact Ac (m:=Bt _) (Be (Ac (Al (Al ⟨_,rfl,Al h⟩))) htake)
  |exact Ac (Ac (m:=Bt _) (Be (Al (Al ⟨_,rfl,Al h⟩)) htake))
  |exact Ac (Ac (m:=Bt _) (Be (Al ⟨_,rfl,Al h⟩) htake))
end
end HT
namespace L2
open PySem PySem.Spec PyProof.Rows
noncomputable abbrev TO:=St→Hp→(Option Int→Hp→Prop)→Prop
def PO(X:Cx)(e:Option Expr)(t:TO):Prop:=
 ∀(pins:List (Addr × Obj)) (s:Shared) (σ:St) (H:Hp) (Q:Option Int→Hp→Prop),Inv X pins σ H s→t σ H Q →
  wpAny (model X.prog X.w) X.A (evalPart e X.env) (fun u s'=>∃o H',Inv X pins σ H' s'∧IsPart u o∧Q o H') X.xe s
noncomputable def ZU:TO:=fun _ H Q=>Q none H
noncomputable def U3(t:TE):TO:=fun σ H Q=>t σ H fun x H1=>∃i,x=.int i∧Q (some i) H1
section
variable {X:Cx}{e:Expr}{te:TE}{lo hi:Option Expr}{tl th:TO}{pos p2:Pos}
theorem ZF:PO X none ZU:=by
 intro pins s σ H Q I h
 rw[evalPart_none]
 exact Al ⟨none,H,I,.none,h⟩
theorem ZG(h:PE X e te):PO X (some e) (U3 te):=by
 intro pins s σ H Q I hw
 rw[evalPart_some]
 refine thn (h pins s σ H _ I hw) fun u s1 ⟨x,H1,I1,r1,q1⟩=>?_
 obtain⟨i,rfl,q⟩:=q1
 obtain⟨t,rfl⟩:=r1
 exact⟨some i,H1,I1,.int i t,q⟩
def SlR(X:Cx)(r:V→Option Int→Option Int→Hp→VK→Prop):Prop:=
 ∀(pins:List (Addr × Obj)) (s:Shared) (σ:St) (H:Hp) (x:V) (v vl vu:Value) (lo hi:Option Int) (sl:Addr) (Q:VK),Inv X pins σ H s→RelV x v→s.heap.IsSliceOf sl vl vu .none→IsPart vl lo→IsPart vu hi→r x lo hi H Q →
  ∃T id,GL (.type T) "__getitem__"=pure (some (.builtin id))∧s.TypeIs v T∧wpAny (model X.prog X.w) X.A (getItem v (.ref sl)) (EP X pins σ Q) X.xe s
noncomputable def tSl(r:V→Option Int→Option Int→Hp→VK→Prop)(te:TE)(tl th:TO):TE:=fun σ H Q=>te σ H fun x H1=>tl σ H1 fun l H2=>th σ H2 fun u H3=>r x l u H3 Q
theorem de{r:V→Option Int→Option Int→Hp→VK→Prop}(hr:SlR X r)(he:PE X e te)(hl:PO X lo tl)(hu:PO X hi th):PE X (.Subscript e (.Slice lo hi none p2) pos) (tSl r te tl th):=by
 intro pins s σ H Q I h
 refine GN (thn (he pins s σ H _ I h) fun v s1 ⟨x,H1,I1,r1,q1⟩=>?_)
 refine wpAny_Slice (thn (hl pins s1 σ H1 _ I1 q1) fun vl s2 ⟨l,H2,I2,pl,q2⟩=>thn (hu pins s2 σ H2 _ I2 q2) fun vu s3 ⟨u,H3,I3,pu,q3⟩=>?_)
 rw[evalPart_none]
 refine Al ?_
 have I4:Inv X pins σ H3 {s3 with heap:=s3.heap.push {cls:=.type "slice",data:=.fields #[vl,vu,.none]}}:=I3.kept (t':=s3.toks) fun b ob q=>Ad _ q
 obtain⟨T,id,hT,ht,hg⟩:=hr pins {s3 with heap:=s3.heap.push {cls:=.type "slice",data:=.fields #[vl,vu,.none]}} σ H3 x v vl vu l u s3.heap.objs.size Q I4 r1 (Fg ..) pl pu q3
 show wpAny (model X.prog X.w) X.A (Fv e (.Slice lo hi none p2) v (.ref s3.heap.objs.size)) (EP X pins σ Q) X.xe {s3 with heap:=s3.heap.push {cls:=.type "slice",data:=.fields #[vl,vu,.none]}}
 exact tail_any (ops:=[.ref s3.heap.objs.size,v]) ht hT hg (by with_unfolding_all rfl)
noncomputable def qI(xs:List V)(lo hi:Option Int):List V:=(xs.drop (HT.sIx xs.length 0 lo)).take (HT.sIx xs.length xs.length hi-HT.sIx xs.length 0 lo)
theorem tW(xs:List V)(lo hi:Option Int):(qI xs lo hi).length≤xs.length:=by
 unfold qI
 rw[Cv,Er]
 omega
noncomputable def Ts(K:Af):V→Option Int→Option Int→Hp→VK→Prop:=fun x lo hi H Q=>∃a xs,x=.ref a∧SqT K H a xs ∧
 ¬(HT.sIx xs.length 0 lo=0∧HT.sIx xs.length xs.length hi=xs.length)∧∀p,H p=none→Q (.ref p) (upd H p (.tup (qI xs lo hi)))
theorem Wr:SlR X (Ts X.K):=by
 intro pins s σ H x v vl vu lo hi sl Q I rx hs pl pu h
 obtain⟨a,xs,rfl,hx,hw,q⟩:=h
 cases rx
 obtain⟨its,r,ht,hz⟩:=I.tuple hx
 have hlen:its.toArray.size=xs.length:=by rw[Ah];exact r.length.symm
 refine⟨"tuple",_,A1.lookup,ht.typeIs,?_⟩
 refine HT.uR ht hs pl pu (by rw[hlen];exact hw) ?_ (by rw[hlen];exact hz)
 rw[hlen]
 refine⟨.ref s.heap.objs.size,_,I.laid (t':=s.toks) (o:=.tup (qI xs lo hi)) (fun b ob q=>Ad _ q) (Ag _) ?_,rfl,q _ (I.hok.fresh (Ag _))⟩
 exact⟨Ax (tW xs lo hi) hz,_,(r.drop (HT.sIx xs.length 0 lo)).take (HT.sIx xs.length xs.length hi-HT.sIx xs.length 0 lo),ux.new _ _⟩
noncomputable def Ug(K:Af):R2:=fun x y H Q=>∃a b xs ys,x=.ref a∧y=.ref b∧SqT K H a xs∧SqT K H b ys∧xs≠[]∧xs.length+ys.length≤AB ∧
 (ys=[]→Q (.ref a) H)∧(ys≠[]→∀p,H p=none→Q (.ref p) (upd H p (.tup (xs++ys))))
theorem Vals.uW{xs:List V}{us:List Value}(r:Vals xs us):us=[]↔xs=[]:=by
 cases r with
 |nil=>simp
 |cons _ _=>simp
theorem aj:OpR X (BA .Add) (Ug X.K):=by
 intro pins s σ H x y v u Q I rx ry h
 obtain⟨a,b,xs,ys,rfl,rfl,ha,hb,hx,hz,q1,q2⟩:=h
 cases rx
 cases ry
 obtain⟨its,r1,p1,_⟩:=I.tuple ha
 obtain⟨its2,r2,p2,_⟩:=I.tuple hb
 refine HT.bY p1 p2 (fun z=>hx (r1.uW.mp z)) (fun z=>⟨.ref a,H,I,rfl,q1 (r2.uW.mp z)⟩) (fun z=>?_) (by rw[←r1.length,←r2.length];exact hz)
 refine⟨.ref s.heap.objs.size,_,I.laid (t':=s.toks) (o:=.tup (xs++ys)) (fun b ob q=>Ad _ q) (Ag _) ?_,rfl,q2 (fun w=>z (r2.uW.mpr w)) _ (I.hok.fresh (Ag _))⟩
 exact⟨by rw[Ap];exact hz,_,r1.append r2,ux.new _ _⟩
end
end L2
namespace L2
open PySem PySem.Spec PyProof.Rows
noncomputable def ixN(n:Nat)(i:Int):Option Nat:=if 0≤i then (if i<n then some i.toNat else none) else if -(n:Int)≤i then some (i+n).toNat else none
noncomputable def atI{α:Type}(xs:List α)(i:Int):Option α:=(ixN xs.length i).bind fun j=>xs[j]?
theorem kn{n:Nat}{i:Int}{j:Nat}(h:ixN n i=some j):seqIndex? i n=some j∧j<n∧-(n:Int)≤i∧i<n:=by
 unfold ixN at h
 by_cases h0:0≤i
 . rw[if_pos h0]at h
   by_cases h1:i<n
   . rw[if_pos h1]at h
     have e:i.toNat=j:=AF h
     exact⟨by rw[seqIndex_of h0 h1,e],by omega,by omega,h1⟩
   . rw[if_neg h1]at h;cases h
 . rw[if_neg h0]at h
   by_cases h1:-(n:Int)≤i
   . rw[if_pos h1]at h
     have e:(i+n).toNat=j:=AF h
     exact⟨by rw[seqIndex_neg (by omega) h1,e],by omega,h1,by omega⟩
   . rw[if_neg h1]at h;cases h
theorem pR{α:Type}{xs:List α}{i:Int}{v:α}(h:atI xs i=some v):∃j,seqIndex? i xs.length=some j∧xs[j]?=some v∧j<xs.length∧-(xs.length:Int)≤i∧i<xs.length:=by
 unfold atI at h
 cases e:ixN xs.length i with
 |none=>rw[e]at h;cases h
 |some j=>
  rw[e]at h
  obtain⟨h1,h2,h3,h4⟩:=kn e
  exact⟨j,h1,h,h2,h3,h4⟩
theorem sH{α:Type}{xs:List α}{j:Nat}{v:α}(h:xs[j]?=some v):atI xs (j:Int)=some v:=by
 have hj:j<xs.length:=(As.mp h).1
 have e:ixN xs.length (j:Int)=some j:=by
  unfold ixN
  rw[if_pos (by omega),if_pos (by omega)];simp
 unfold atI;rw[e];exact h
def kT(b:Expr):Prop:=∀o i,subscripted b false o i=operate [o,i] (getItem o i)
def IxR(X:Cx)(r:R2):Prop:=
 ∀(value slice:Expr) (pins:List (Addr × Obj)) (s:Shared) (σ:St) (H:Hp) (x y:V) (v u:Value) (Q:VK),Inv X pins σ H s→RelV x v→RelV y u→r x y H Q →
  subscripted slice false v u=operate [v,u] (getItem v u)→wpAny (model X.prog X.w) X.A (Fv value slice v u) (EP X pins σ Q) X.xe s
def MtR(X:Cx)(id:String)(r:V→List V→Hp→VK→Prop):Prop:=
 ∀(pins:List (Addr × Obj)) (s:Shared) (σ:St) (H:Hp) (x:V) (xs:List V) (v:Value) (us:List Value) (Q:VK),Inv X pins σ H s→RelV x v→Vals xs us→r x xs H Q →
  wpAny (model X.prog X.w) X.A (call (.builtin id) (v::us)) (EP X pins σ Q) X.xe s
section
variable {X:Cx}{a b:Expr}{ta tb:TE}{pos:Pos}
theorem IxR.or{r r':R2}(h:IxR X r)(h':IxR X r'):IxR X (fun x y H Q=>r x y H Q∨r' x y H Q):=by
 intro value slice pins s σ H x y v u Q I rx ry q hs
 rcases q with q|q
 . exact h value slice pins s σ H x y v u Q I rx ry q hs
 . exact h' value slice pins s σ H x y v u Q I rx ry q hs
theorem YE{r:R2}(hr:IxR X r)(ha:PE X a ta)(hb:PE X b tb)(hs:kT b):PE X (.Subscript a b pos) (tOp r ta tb):=by
 intro pins s σ H Q I h
 exact GN (Ye ha hb I h fun v u s2 x y H2 I2 rx ry q=>hr a b pins s2 σ H2 x y v u Q I2 rx ry q (hs _ _))
noncomputable def Wl(K:Af):R2:=fun x y H Q=>∃p xs i v,x=.ref p∧y=.int i∧SqL K H p xs∧atI xs i=some v∧Q v H
noncomputable def Uj(K:Af):R2:=fun x y H Q=>∃p xs i v,x=.ref p∧y=.int i∧SqT K H p xs∧atI xs i=some v∧Q v H
noncomputable def Ui:R2:=fun x y H Q=>∃z i c,x=.str z∧y=.int i∧z.length≤AB∧atI z.cps.toList i=some c∧Q (.str ⟨#[c]⟩) H
theorem kq:IxR X (Wl X.K):=by
 intro value slice pins s σ H x y v u Q I rx ry h hs
 obtain⟨p,xs,i,z,rfl,rfl,hq,he,q⟩:=h
 cases rx
 obtain⟨t,rfl⟩:=ry
 obtain⟨its,r,pl,hz⟩:=I.list hq
 obtain⟨j,h1,h2,h3,h4,h5⟩:=pR he
 obtain⟨w,ew,rw'⟩:=r.get h2
 have hl:=r.length
 have hn:=vz
 have fin:EP X pins σ Q w s:=⟨z,H,I,rw',q⟩
 by_cases h0:0≤i
 . have hj:i.toNat=j:=by
    rw[seqIndex_of h0 h5]at h1
    exact AF h1
   exact item_listR pl.isList h0 (by omega) (by rw[hj];simpa using ew) fin hs
 . have hj:(i+(its.toArray.size:Int)).toNat=j:=by
    rw[seqIndex_neg (by omega) h4]at h1
    rw[Ah,←hl]
    exact AF h1
   exact subscriptTail_builtinR (x:=w) pl.isList.typeIs FK.lookup
    (wpAny_getItem_list_neg (Q:=fun r s'=>r=w∧EP X pins σ Q r s') pl.isList (by omega) (by rw[Ah]<;>omega) (by omega) (by rw[hj];simpa using ew) ⟨rfl,fin⟩) hs
theorem Y5:IxR X (Uj X.K):=by
 intro value slice pins s σ H x y v u Q I rx ry h hs
 obtain⟨p,xs,i,z,rfl,rfl,hq,he,q⟩:=h
 cases rx
 obtain⟨t,rfl⟩:=ry
 obtain⟨its,r,pl,hz⟩:=I.tuple hq
 obtain⟨j,h1,h2,h3,h4,h5⟩:=pR he
 obtain⟨w,ew,rw'⟩:=r.get h2
 have hl:=r.length
 have hn:=vz
 have fin:EP X pins σ Q w s:=⟨z,H,I,rw',q⟩
 exact subscriptTail_builtinR (x:=w) pl.typeIs slot_tuple_getitem.lookup
  (getItem_tuple (j:=j) (Q:=fun r s'=>r=w∧EP X pins σ Q r s') pl (by omega) (by omega) (by rw[Ah,←hl];exact h1) (by simpa using ew) ⟨rfl,fin⟩) hs
theorem Y0:IxR X Ui:=by
 intro value slice pins s σ H x y v u Q I rx ry h hs
 obtain⟨z,i,c,rfl,rfl,hz,he,q⟩:=h
 obtain⟨t,rfl⟩:=rx
 obtain⟨t',rfl⟩:=ry
 obtain⟨j,h1,h2,h3,h4,h5⟩:=pR he
 have hl:z.cps.toList.length=z.length:=by simp[Str.length]
 rw[hl]at h1 h4 h5
 have hn:=vz
 exact tail_any (typeIs_str s z t) slot_str_getitem.lookup (getItem_str (c:=c) (by
  have e1:decide (i < -(2 ^ 63:Int))=false:=decide_eq_false (by omega)
  have e2:decide (i ≥ 2 ^ 63)=false:=decide_eq_false (by omega)
  rw[e1,e2,Bool.or_false]) (by rw[h1];simpa using h2) ⟨.str ⟨#[c]⟩,H,I.tok _,⟨_,rfl⟩,q⟩) hs
noncomputable def rIx(K:Af):R2:=fun x y H Q=>Wl K x y H Q∨Uj K x y H Q∨Ui x y H Q
theorem Yz:IxR X (rIx X.K):=kq.or (Y5.or Y0)
theorem lG(its:List Value)(n j:Nat)(u:Value):FU (·.setIfInBounds j u) {cls:=.type "list",data:=.seq its.toArray n}={cls:=.type "list",data:=.seq (its.set j u).toArray n}:=by
 simp[FU]
theorem Inv.lst{pins:List (Addr × Obj)}{σ:St}{H:Hp}{s:Shared}{p:Addr}{xs:List V}(I:Inv X pins σ H s)(h:H p=some (.lst xs)) :
 ∃(its:List Value) (n:Nat),Vals xs its∧s.heap.get? p=some {cls:=.type "list",data:=.seq its.toArray n}∧xs.length≤AB:=by
 obtain⟨z,its,n,r,e⟩:=I.hok p _ h
 exact⟨its,n,r,e,z⟩
theorem Inv.Xr{pins:List (Addr × Obj)}{σ:St}{H:Hp}{s:Shared}{p:Addr}{xs ys:List V}{its its':List Value}{n n':Nat}{f:Obj→Obj}(I:Inv X pins σ H s)(h:H p=some (.lst xs))
 (ho:s.heap.get? p=some {cls:=.type "list",data:=.seq its.toArray n}) (hf:f {cls:=.type "list",data:=.seq its.toArray n}={cls:=.type "list",data:=.seq its'.toArray n'}) (r:Vals ys its') (hz:ys.length≤AB) (t:Nat) :
 Inv X pins σ (upd H p (.lst ys)) {s with heap:=s.heap.update p f,toks:=t}:=by
 have e:(s.heap.update p f).get? p=some {cls:=.type "list",data:=.seq its'.toArray n'}:=by
  rw[CJ f ho (by rw[hf]<;>rfl),hf]
 refine I.write (x:=p) (e:=p) (by rw[h];trivial) (.inl rfl) (fun b u hb q=>(Br _ _ (Bp hb)).trans q) ⟨_,e⟩ ?_
 exact⟨hz,its',n',r,e⟩
noncomputable def YG:V→V→V→Hp→(Hp→Prop)→Prop:=fun o i v H Q=>∃p xs k j,o=.ref p∧i=.int k∧H p=some (.lst xs)∧ixN xs.length k=some j∧Q (upd H p (.lst (xs.set j v)))
theorem set_list:VI X YG:=by
 intro pins s σ H o i v ov iv u Q I ro ri rv h
 obtain⟨p,xs,k,j,rfl,rfl,hp,hj,q⟩:=h
 cases ro
 obtain⟨t,rfl⟩:=ri
 obtain⟨its,n,r,ho,hz⟩:=I.lst hp
 obtain⟨h1,h2,h3,h4⟩:=kn hj
 have hl:=r.length
 have hn:=vz
 have I':Inv X pins σ (upd H p (.lst (xs.set j v))) {s with heap:=s.heap.update p (FU (·.setIfInBounds j u))}:=
  I.Xr hp ho (lG its n j u) (r.set rv j) (by rw[CK];exact hz) s.toks
 by_cases h0:0≤k
 . have hk:k.toNat=j:=by
    rw[seqIndex_of h0 h4]at h1
    exact AF h1
   exact PySem.W.ki_setAt ho h0 (by omega) (by rw[Ah,←hl];exact h4) (by rw[hk];exact⟨_,I',q⟩)
 . have hk:(k+(its.toArray.size:Int)).toNat=j:=by
    rw[seqIndex_neg (by omega) h3]at h1
    rw[Ah,←hl]
    exact AF h1
   exact PySem.W.ki_setBack ho (by omega) (by rw[Ah,←hl];exact h3) (by omega) (by rw[hk];exact⟨_,I',q⟩)
theorem oh(lo hi:Option Int)(n:Nat):(Bw lo hi none n).1=((HT.sIx n 0 lo:Nat):Int)∧(Bw lo hi none n).2.1=((HT.sIx n n hi:Nat):Int)∧(Bw lo hi none n).2.2=1:=by
 refine⟨?_,?_,rfl⟩
 . cases lo with
   |none=>simp[Bw,HT.sIx]
   |some i=>
    simp only[Bw,HT.sIx,F0,show (1:Int) > 0 by decide,if_true]
    by_cases h:i<0
    . simp only[h,if_true]<;>omega
    . simp only[h,if_false]<;>omega
 . cases hi with
   |none=>simp[Bw,HT.sIx]
   |some i=>
    simp only[Bw,HT.sIx,F0,show (1:Int) > 0 by decide,if_true]
    by_cases h:i<0
    . simp only[h,if_true]<;>omega
    . simp only[h,if_false]<;>omega
theorem qO(its:List Value)(lo hi:Option Int):GZ its.toArray lo hi none=((its.drop (HT.sIx its.length 0 lo)).take (HT.sIx its.length its.length hi-HT.sIx its.length 0 lo)).toArray:=by
 obtain⟨h1,h2,h3⟩:=oh lo hi its.toArray.size
 unfold GZ
 rw[h1,h2,h3]
 simp only[sliceRange_one,pick_run,Ah]<;>rfl
noncomputable def Tr(K:Af):V→Option Int→Option Int→Hp→VK→Prop:=fun x lo hi H Q=>∃a xs,x=.ref a∧SqL K H a xs∧∀p,H p=none→Q (.ref p) (upd H p (.lst (qI xs lo hi)))
theorem ZM:SlR X (Tr X.K):=by
 intro pins s σ H x v vl vu lo hi sl Q I rx hs pl pu h
 obtain⟨a,xs,rfl,hx,q⟩:=h
 cases rx
 obtain⟨its,r,ht,hz⟩:=I.list hx
 have hlen:=r.length
 refine⟨"list",_,FK.lookup,ht.isList.typeIs,?_⟩
 refine F1 ht.isList hs pl pu .none (by simp) ?_ (by rw[Ah]<;>omega)
 rw[qO,←hlen]
 refine⟨.ref s.heap.objs.size,_,I.laid (t':=s.toks) (o:=.lst (qI xs lo hi)) (fun b ob q=>Ad _ q) (Ag _) ?_,rfl,q _ (I.hok.fresh (Ag _))⟩
 exact⟨Ax (tW xs lo hi) hz,_,0,(r.drop (HT.sIx xs.length 0 lo)).take (HT.sIx xs.length xs.length hi-HT.sIx xs.length 0 lo),Ay _ rfl⟩
noncomputable def w9:V→Bool
 |.non=>true
 |.bl _=>true
 |.int _=>true
 |.str _=>true
 |_=>false
noncomputable def eqV:V→V→Bool
 |.non,.non=>true
 |.bl a,.bl b=>a == b
 |.bl a,.int b=>(if a then 1 else 0) == b
 |.int a,.bl b=>a == (if b then 1 else 0)
 |.int a,.int b=>a == b
 |.str a,.str b=>a == b
 |_,_=>false
theorem Yq{A:Around}{s:Shared}{y x:V}{u v:Value}(ry:RelV y u)(rx:RelV x v)(fy:w9 y=true)(fx:w9 x=true):Bq A s u v (eqV y x):=by
 cases y with
 |non=>
  cases ry
  cases x with
  |non=>cases rx;exact Bq.same _
  |bl b=>cases rx;exact Bq.none_bool b
  |int b=>obtain⟨t,rfl⟩:=rx;exact Bq.none_int b t
  |str b=>obtain⟨t,rfl⟩:=rx;exact Bq.none_str b t
  |_=>exact absurd (show false=true from fx) Am
 |bl a=>
  cases ry
  cases x with
  |non=>cases rx;exact Bq.bool_none a
  |bl b=>cases rx;exact Bq.bool_bool a b
  |int b=>obtain⟨t,rfl⟩:=rx;exact Bq.bool_int a b t
  |str b=>obtain⟨t,rfl⟩:=rx;exact Bq.bool_str a b t
  |_=>exact absurd (show false=true from fx) Am
 |int a=>
  obtain⟨t',rfl⟩:=ry
  cases x with
  |non=>cases rx;exact Bq.int_none a t'
  |bl b=>cases rx;exact Bq.int_bool a t' b
  |int b=>obtain⟨t,rfl⟩:=rx;exact Bq.int_int a t' b t
  |str b=>obtain⟨t,rfl⟩:=rx;exact Bq.int_str a t' b t
  |_=>exact absurd (show false=true from fx) Am
 |str a=>
  obtain⟨t',rfl⟩:=ry
  cases x with
  |non=>cases rx;exact Bq.str_none a t'
  |bl b=>cases rx;exact Bq.str_bool a t' b
  |int b=>obtain⟨t,rfl⟩:=rx;exact Bq.str_int a t' b t
  |str b=>obtain⟨t,rfl⟩:=rx;exact Bq.str_str a t' b t
  |_=>exact absurd (show false=true from fx) Am
 |_=>exact absurd (show false=true from fy) Am
noncomputable def eqU(x:V)(u:Value):Bool:=match u with
 |.none=>eqV .non x
 |.bool b=>eqV (.bl b) x
 |.int i _=>eqV (.int i) x
 |.str z _=>eqV (.str z) x
 |_=>false
theorem my{x y:V}{u:Value}(r:RelV y u)(f:w9 y=true):eqU x u=eqV y x:=by
 cases y with
 |non=>cases r;rfl
 |bl b=>cases r;rfl
 |int i=>obtain⟨t,rfl⟩:=r;rfl
 |str z=>obtain⟨t,rfl⟩:=r;rfl
 |_=>exact absurd (show false=true from f) Am
theorem rT{A:Around}{s:Shared}{x:V}{v:Value}(rx:RelV x v)(fx:w9 x=true):∀{xs:List V} {us:List Value},Vals xs us→xs.all w9=true→∀u∈us,Bq A s u v (eqU x u)
 |_,_,.nil,_=>fun u hu=>by cases hu
 |y::xs,u::us,.cons r t,f=>fun u' hu=>by
  rw[Dx,Aa]at f
  rcases Ak.mp hu with rfl|hu
  . rw[my r f.1];exact Yq r rx f.1 fx
  . exact rT rx fx t f.2 u' hu
theorem pT:yI X (.builtin "len") (fun xs H Q=>∃p ys,xs=[.ref p]∧(SqL X.K H p ys∨SqT X.K H p ys)∧Q (.int ys.length) H):=by
 intro pins s σ H xs us Q I r h
 obtain⟨p,ys,rfl,hq,q⟩:=h
 obtain⟨u,rfl,rx⟩:=vals1 r
 cases rx
 have hn:=vz
 rcases hq with hq|hq
 . obtain⟨its,r',pl,hz⟩:=I.list hq
   have hlen:=r'.length
   exact Calls.call_len_list pl.isList (by simp only[Ah]<;>omega) ⟨.int ys.length,H,I.tok _,⟨s.toks+1,by rw[Ah,hlen]⟩,q⟩
 . obtain⟨its,r',pl,hz⟩:=I.tuple hq
   have hlen:=r'.length
   exact len_tuple pl (by simp only[Ah]<;>omega) ⟨.int ys.length,H,I.tok _,⟨s.toks+1,by rw[Ah,hlen]⟩,q⟩
theorem pU:yI X (.builtin "len") (fun xs H Q=>∃z,xs=[.str z]∧z.length≤AB∧Q (.int z.length) H):=by
 intro pins s σ H xs us Q I r h
 obtain⟨z,rfl,hz,q⟩:=h
 obtain⟨u,rfl,t,rfl⟩:=vals1 r
 have hn:=vz
 exact len_str (by omega) ⟨.int z.length,H,I.tok _,⟨_,rfl⟩,q⟩
theorem vn:yI X (.type "tuple") (fun xs H Q=>∃p ys,xs=[.ref p]∧((SqL X.K H p ys∧∀l,H l=none→Q (.ref l) (upd H l (.tup ys)))∨(SqT X.K H p ys∧Q (.ref p) H))):=by
 intro pins s σ H xs us Q I r h
 obtain⟨p,ys,rfl,h⟩:=h
 obtain⟨u,rfl,rx⟩:=vals1 r
 cases rx
 rcases h with⟨hq,q⟩|⟨hq,q⟩
 . obtain⟨its,r',pl,hz⟩:=I.list hq
   have hlen:=r'.length
   refine call_tuple_list pl.isList (fun h' kp=>?_) (by simp only[Ah]<;>omega)
   have I1:Inv X pins σ H {s with heap:=h'}:=I.kept (t':=s.toks) kp
   have I2:Inv X pins σ (upd H h'.objs.size (.tup ys)) {s with heap:=h'.push {cls:=.type "tuple",data:=.seq its.toArray}}:=
    I1.laid (t':=s.toks) (fun b o e=>Ad _ e) (Ag _) (show z9 X.prog X.w _ _ _ (.tup ys) from ⟨hz,its,r',ux.new _ _⟩)
   exact⟨.ref h'.objs.size,_,I2,rfl,q _ (I1.hok.fresh (Ag _))⟩
 . obtain⟨its,r',pl,hz⟩:=I.tuple hq
   exact call_tuple_same pl ⟨.ref p,H,I,rfl,q⟩
def tyV(K:Af)(T:String)(x:V)(H:Hp):Prop:=match x with
 |.str _=>T="str"
 |.int _=>T="int"
 |.ref p=>(T="list"∧∃xs,SqL K H p xs)∨(T="tuple"∧∃o,K.lookup p=some o∧o.cls=.type "tuple"∧o.dict=none) ∨
  (T="dict"∧((∃kvs,H p=some (.dK kvs))∨∃kvs,H p=some (.dT kvs)))∨(T="set"∧∃S n,H p=some (.set S n))
 |_=>False
theorem VA{pins:List (Addr × Obj)}{σ:St}{H:Hp}{s:Shared}{T:String}{x:V}{v:Value}(I:Inv X pins σ H s)(r:RelV x v)(ty:tyV X.K T x H) :
 s.TypeIs v T∧∀a,v=.ref a→∃ob,s.heap.get? a=some ob∧ob.dict=none:=by
 cases x with
 |str z=>
  obtain⟨t,rfl⟩:=r
  cases (show T="str" from ty)
  exact⟨typeIs_str s z t,fun _ e=>nomatch e⟩
 |int i=>
  obtain⟨t,rfl⟩:=r
  cases (show T="int" from ty)
  exact⟨C7 s i t,fun _ e=>nomatch e⟩
 |ref p=>
  cases r
  rcases ty with⟨rfl,xs,hq⟩|⟨rfl,o,hk,hc,hd⟩|⟨rfl,hk⟩|⟨rfl,S,n,hk⟩
  . obtain⟨its,_,pl,_⟩:=I.list hq
    refine⟨pl.isList.typeIs,fun a e=>?_⟩
    cases e
    obtain⟨o,n,e,c,hd,_⟩:=pl
    exact⟨o,e,hd⟩
  . refine⟨⟨o,I.kIn p o hk,hc⟩,fun a e=>?_⟩
    cases e
    exact⟨o,I.kIn _ o hk,hd⟩
  . have z:∃o,s.heap.get? p=some o∧o.ExactDict:=by
     rcases hk with⟨kvs,hk⟩|⟨kvs,hk⟩
     . obtain⟨_,_,_,_,o,_,_,e,ex,_⟩:=I.hok p _ hk
       exact⟨o,e,ex⟩
     . obtain⟨_,_,_,_,o,_,_,e,ex,_⟩:=I.hok p _ hk
       exact⟨o,e,ex⟩
    obtain⟨o,e,ex⟩:=z
    refine⟨⟨o,e,ex.1⟩,fun a e2=>?_⟩
    cases e2
    exact⟨o,e,ex.2.1⟩
  . obtain⟨o,_,_,_,e,ex,_⟩:=I.hok p _ hk
    refine⟨⟨o,e,ex.1⟩,fun a e2=>?_⟩
    cases e2
    exact⟨o,e,ex.2.1⟩
 |_=>exact AJ ty
noncomputable def tBM(K:Af)(T:String)(r:V→List V→Hp→VK→Prop)(to:TE)(t:TA):TE:=fun σ H Q=>to σ H fun x H1=>tyV K T x H1∧t σ H1 fun xs H2=>r x xs H2 Q
variable {o e:Expr}{es:List Expr}{to:TE}{t:TA}{name:Str}{apos cpos:Pos}{T id:String}{r:V→List V→Hp→VK→Prop}
theorem dU(pa:PlainAttrs T)(slot:Slot T name id)(hty:typeOf (.builtin id)=pure (.type "method_descriptor"))(hm:MtR X id r)(ho:PE X o to)(ha:PA X (e::es) t)
 (hbase:Dy o name X.env (eval o X.env)=eval o X.env:=by rfl)
 (hfew:((backTo cpos (AM (e::es) X.env)).all (fun x=>!x.1)&&(backToKw cpos (keywordEach [] X.env)).all (fun x=>x.1.isSome)
  && decide ((e::es).length+([]:List Keyword).length+(if ([]:List Keyword).isEmpty then 0 else 1)<30))=true:=by rfl)
 (hline:(apos.endLine == cpos.line)=true:=by rfl) (hs:AM (e::es) X.env=(false,eval e X.env)::AM es X.env:=by rfl) (hplain:(backTo cpos (AM es X.env)).any (·.1)=false:=by rfl) :
 PE X (.Call (.Attribute o name apos) (e::es) [] cpos) (tBM X.K T r to t):=by
 intro pins s σ H Q I h
 refine wpAny_Call_method_late hbase hfew hline rfl (thn (ho pins s σ H _ I h) fun v s1 ⟨x,H1,I1,r1,ty,q1⟩=>?_)
 obtain⟨h1,h2⟩:=VA I1 r1 ty
 refine⟨T,id,pa,slot,hty,h1,h2,?_⟩
 have hA:=ha cpos pins s1 σ H1 _ I1 q1
 rw[hs]at hA ⊢
 refine Calls.callWith_builtin (by show (false||(backTo cpos (AM es X.env)).any (·.1))=false;rw[hplain]<;>rfl) (Calls.evalArgs_plain ?_)
 exact thn hA fun us s2 ⟨vs,H2,I2,r2,q2⟩=>hm pins s2 σ H2 x vs v us Q I2 r1 r2 q2
/- xs.append(e),list.index on a module's tuple .. are MtR facts of 06m -/
end
end L2
namespace L2
open PySem PySem.Spec PyProof.Rows
def MtM(X:Cx)(id:String)(r:V→List V→Hp→VK→Prop):Prop:=
 ∀(pins:List (Addr × Obj)) (s:Shared) (σ:St) (H:Hp) (x:V) (xs:List V) (v:Value) (us:List Value) (Q:VK),Inv X pins σ H s→RelV x v→Vals xs us→r x xs H Q →
  wpAny (model X.prog X.w) X.A (call (.builtin id) (v::us)) (EP X pins σ Q) X.xe s
theorem Vals.one:∀{x:V} {us:List Value},Vals [x] us→∃u,us=[u]∧RelV x u
 |_,_,.cons r .nil=>⟨_,rfl,r⟩
theorem Vals.rep{xs:List V}{us:List Value}(h:Vals xs us):∀k:Nat,Vals (Az k xs).flatten (Az k us).flatten
 |0=>.nil
 |k+1=>by
  rw[BO,BO,Cj,Cj]
  exact Vals.append h (Vals.rep h k)
theorem foldl_rep(its:List Value):∀(k:Nat) (acc:List Value),
 D0 (fun x1 x2=>x1++x2) acc.toArray (Az k its.toArray)=(acc++(Az k its).flatten).toArray
 |0,acc=>by simp
 |k+1,acc=>by
  have e:acc.toArray++its.toArray=(acc++its).toArray:=by simp
  have e2:(acc++its)++(Az k its).flatten=acc++(Az (k+1) its).flatten:=by
   rw[BO,Cj,Bi]
  rw[←e2,←foldl_rep its k (acc++its),←e,BO,Gu]
section
variable {X:Cx}{pins:List (Addr × Obj)}{σ:St}{H:Hp}{s:Shared}{l b:Addr}{xs ys zs:List V}
theorem Inv.Ta{its its':List Value}{n:Nat}{f:Array Value→Array Value}{t':Nat}(I:Inv X pins σ H s)(hH:H l=some (.lst xs))
 (e:s.heap.get? l=some {cls:=.type "list",data:=.seq its.toArray n}) (hf:f its.toArray=its'.toArray) (hv:Vals ys its') (hz:ys.length≤AB) :
 Inv X pins σ (upd H l (.lst ys)) {s with heap:=s.heap.update l (FU f),toks:=t'}:=by
 have q:=PySem.IsL.update e f
 rw[hf]at q
 refine I.write (x:=l) (e:=l) (by rw[hH];exact trivial) (.inl rfl) (fun b' u hb hu=>(Br s.heap (FU f) (Bp hb)).trans hu) ⟨_,q⟩ ?_
 exact⟨hz,its',_,hv,q⟩
theorem Inv.Vx{its:List Value}{t':Nat}(I:Inv X pins σ H s)(hv:Vals ys its)(hz:ys.length≤AB) :
 Inv X pins σ (upd H s.heap.objs.size (.lst ys)) {s with heap:=s.heap.push {cls:=.type "list",data:=.seq its.toArray},toks:=t'}:=
 I.laid (fun _ _ q=>Ad _ q) (Ag _) ⟨hz,its,0,hv,Ay _ rfl⟩
theorem Inv.fresh(I:Inv X pins σ H s):H s.heap.objs.size=none:=I.hok.fresh (Ag _)
theorem Inv.aY(I:Inv X pins σ H s)(hH:H l=some (.lst xs)):xs.length≤AB∧∃(its:List Value) (n:Nat),Vals xs its∧xs.length=its.length∧s.heap.get? l=some {cls:=.type "list",data:=.seq its.toArray n}:=by
 obtain⟨z,its,n,r,e⟩:=I.hok l _ hH
 exact⟨z,its,n,r,r.length,e⟩
theorem ef{n:Nat}(h:n≤AB):DM n=false:=by
 unfold DM
 exact decide_eq_false (by omega)
end
section
variable {X:Cx}
noncomputable def jN:V→List V→Hp→VK→Prop:=fun x vs H Q=>∃l xs y,x=.ref l∧vs=[y]∧H l=some (.lst xs)∧xs.length<AB∧Q .non (upd H l (.lst (xs++[y])))
theorem qt:MtM X "list.append" jN:=by
 intro pins s σ H x vs v us Q I rx rv h
 obtain⟨l,xs,y,rfl,rfl,hH,hz,q⟩:=h
 cases rx
 obtain⟨u,rfl,ru⟩:=rv.one
 obtain⟨z,its,n,r,hl,e⟩:=I.aY hH
 refine CB F.slot_list_append ⟨_,e,rfl⟩ F.entry_list_append (F.args_list_append_2 _ _) (PySem.list_append l its.toArray n u (by rw[Ah];omega)) ⟨e,?_⟩
 refine⟨.non,_,I.Ta (its':=its++[u]) hH e (by simp) (r.append (.cons ru .nil)) ?_,rfl,q⟩
 rw[Ap,BR]
 omega
noncomputable def ZJ:R2:=fun x y H Q=>∃l b xs zs,x=.ref l∧y=.ref b∧H l=some (.lst xs)∧H b=some (.lst zs)∧xs.length+zs.length≤AB∧∀p,H p=none→Q (.ref p) (upd H p (.lst (xs++zs)))
theorem lQ:OpR X (BA .Add) ZJ:=by
 intro pins s σ H x y v u Q I rx ry h
 obtain⟨l,b,xs,zs,rfl,rfl,hH,hB,hz,q⟩:=h
 cases rx
 cases ry
 obtain⟨z,its,n,r,hl,e⟩:=I.aY hH
 obtain⟨z2,its2,n2,r2,hl2,e2⟩:=I.aY hB
 refine PySem.P.add_list e e2 ?_ (by rw[Ah,Ah];omega)
 have ea:its.toArray++its2.toArray=(its++its2).toArray:=by simp
 rw[ea]
 exact⟨.ref _,_,I.Vx (t':=s.toks) (r.append r2) (by rw[Ap];omega),rfl,q _ I.fresh⟩
noncomputable def To:R2:=fun x y H Q=>∃l k xs,x=.ref l∧y=.int k∧H l=some (.lst xs)∧-(2 ^ 63)≤k∧k<2 ^ 63∧xs.length*k.toNat≤AB ∧
 ∀p,H p=none→Q (.ref p) (upd H p (.lst (Az k.toNat xs).flatten))
theorem len_rep{α:Type}(xs:List α)(k:Nat):(Az k xs).flatten.length=k*xs.length:=by
 induction k with
 |zero=>simp
 |succ k ih=>rw[BO,Cj,Ap,ih,DN,Nat.add_comm]
theorem X8:OpR X (BA .Mult) To:=by
 intro pins s σ H x y v u Q I rx ry h
 obtain⟨l,k,xs,rfl,rfl,hH,h1,h2,hz,q⟩:=h
 cases rx
 obtain⟨t,rfl⟩:=ry
 obtain⟨z,its,n,r,hl,e⟩:=I.aY hH
 have hlen:its.toArray.size*k.toNat≤AB:=by rw[Ah,←hl];exact hz
 have hcap:¬its.toArray.size*k.toNat > (2 ^ 63-1)/8:=by
  have:(AB:Nat)≤(2 ^ 63-1)/8:=by decide
  omega
 have hfit:¬(!Builtin.List.listFitsIndex k)=true:=by
  rw[fitsIndex_both h1 h2]
  exact Am
 have hlong:¬DM (its.toArray.size*k.toNat)=true:=by
  rw[ef hlen]
  exact Am
 have hnew:D0 (fun x1 x2=>x1++x2) #[] (Az (if its.toArray.isEmpty=true then 0 else k.toNat) its.toArray)=(Az k.toNat its).flatten.toArray:=by
  have f0:∀m:Nat,D0 (fun x1 x2=>x1++x2) #[] (Az m its.toArray)=(Az m its).flatten.toArray:=fun m=>by
   have:=foldl_rep its m []
   rw[DF]at this
   exact this
  rw[f0]
  cases its with
  |nil=>simp
  |cons a r'=>rw[if_neg (by simp)]
 refine CU (T:="list") (U:="int") (by decide) ⟨_,e,rfl⟩ (fun s'=>C7 s' k t) noFill_list_mul EL Cf repeat_list Es.lookup
  (CB Cf (C7 s k t) Et (Eb _ _) (int___rmul___int_list k t l its.toArray n)
   ⟨e,rfl,⟨_,e,rfl⟩,CB F.slot_list_mul ⟨_,e,rfl⟩ F.entry_list_mul (F.args_list_mul_2 _ _) (AutoListH.list___mul___list_int_3 l its.toArray n k t hfit hcap hlong) ⟨e,?_⟩⟩)
 rw[hnew]
 exact⟨.ref _,_,I.Vx (t':=s.toks) (r.rep k.toNat) (by rw[len_rep,Nat.mul_comm];exact hz),rfl,q _ I.fresh⟩
end
end L2
namespace Att
open PySem PySem.W PySem.Calls PyProof.Rows
theorem sA{P:Params}{h:Heap}:∀(ns:List Int) (vs:List Value),WellAll P h vs (ns.map WData.int)→IntsAre vs ns:=by
 intro ns
 induction ns with
 |nil=>
  intro vs w
  rw[DO]at w
  cases w
  exact .nil
 |cons n ns ih=>
  intro vs w
  rw[AK]at w
  cases w with
  |cons a b=>
   cases a
   exact .cons _ _ (ih _ b)
theorem i9{l:OpenLaw}{n:Nat}(hn:l.most=some n){P:Params}{h:Heap}{args:List WData}{vals:List Value}
 (hpre:l.row.toRowW.claim.pre args=true) (hwl:WellAll P h vals args) :
 ∃a vs ns,vals=[A0 a]∧args=[WData.list (ns.map WData.int)]∧h.get? a=some {cls:=.type "list",data:=.seq vs.toArray}∧IntsAre vs ns∧ns.length≤n:=by
 have hsh:WShape.hasAll [] args [.list .int]=true:=(pre_splitW hpre).1
 have hc:l.pre.holds [] {args:=args}=true:=(pre_splitW hpre).2
 obtain⟨d,r,rfl,h1,h2⟩:=hasAllW_cons hsh
 obtain rfl:=hasAllW_nil h2
 obtain⟨xs,rfl,h3⟩:=hasW_list h1
 obtain⟨ns,rfl⟩:=items_int h3
 have hlen:ns.length≤n:=by
  unfold OpenLaw.pre at hc
  have h4:(WTm.not (.lt (.lit (.int (n:Int))) (.len (.arg 0)))).holds [] {args:=[.list (ns.map .int)]}=true:=by
   have h4:=(holds_andW hc).1
   rw[hn]at h4
   exact h4
  have h5:=condW_of h4 (w_not (w_lt w_lit (w_len_list (w_arg rfl))))
  rw[Ai]at h5
  refine F2 fun q=>?_
  have q':(n:Int)<((ns.length:Nat):Int):=by omega
  first
   |(rw[decide_eq_true q']at h5;exact absurd h5 (by decide))
   |(simp at h5;omega)
 cases hwl with
 |cons w1 w2=>
  cases w2
  cases w1 with
  |list ho hall=>exact⟨_,_,ns,rfl,rfl,ho,sA ns _ hall,hlen⟩
theorem iw(l:OpenLaw)(args:List WData):l.row.toRowW.claim.post args (.bool true) args=true:=
 postW_of (r:=l.row.toRowW) (X:=(true == true))
  (show WShape.has [] (.bool true) .bool=true by first|rfl|decide|simp[WShape.has,WShape.arms,WShape.armsAll])
  (show (WTm.eq .res (.lit (.bool true))).value [] {args:=args,res:=some (.bool true),after:=args}=some (.bool (true == true)) from w_eq_bool (w_res rfl) w_lit) rfl
theorem nA{l:OpenLaw}{n:Nat}{q:Program}{loose:List Str}{XP:(Str→Option Value)→Heap→Prop}{YP:World→Heap→Prop}{d:DefRec}
 (hn:l.most=some n) (hdf:d.params.defaults=[])
 (call:∀(w:World) (s₀ s₁:Shared) (mg mb:Str→Option Value) (fa:Addr) (o:Obj) (pm cd doc:Value) (a:Addr) (vs:List Value) (ns:List Int),
  Ground q loose [] XP w s₀ mg mb s₁.heap→YP w s₁.heap →
  s₁.heap.get? fa=some o→o.data=.func (docDef d.name d.params d.body d.scope pm cd doc)→s₁.heap.CodeRec cd d.name→mg d.name=some (.ref fa) →
  s₁.heap.get? a=some {cls:=.type "list",data:=.seq vs.toArray}→IntsAre vs ns→ns.length≤n→s₁.gens=#[] →
  codeAny (model l.prog w) callerA (.call (.ref fa) ⟨[.ref a],[]⟩) (fun r s'=>r=.ok (.ret (.bool true))∧OldK s₁.heap s'.heap∧s'.os=s₁.os∧AllBare s'.gens) s₁) :
 WalkO q loose XP YP l.row.toRowW d [] (fun f vs=>PySem.call f vs):=by
 intro w s₀ s₁ mg mb G Y fa o pm cd doc dV kV ho hd hcd hD hmg hg args vals as hpre hlay hrd hwl hlo
 obtain rfl:dV=.none:=Dflts.none hD hdf
 obtain rfl:kV=.none:=Dflts.noKw hD
 obtain⟨a,vs,ns,rfl,rfl,hobj,hints,hlen⟩:=i9 hn hpre hwl
 refine enter_call (CG (call w s₀ s₁ mg mb fa o pm cd doc a vs ns G Y ho (fd_plain hd) hcd hmg hobj hints hlen hg) fun r s' hq=>?_)
 obtain⟨rfl,h2,h3,h4⟩:=hq
 exact⟨.inl ⟨.bool true,.bool true,[],rfl,fun _=>rfl,.bool true,iw l _,fun _=>⟨FL,fun _ hm=>(nomatch hm)⟩⟩,h2,h3,h4⟩
end Att
namespace L2
open PySem PySem.Spec PyProof.Rows
theorem pH:∀{vs:List Value} {ns:List Int},IntsAre vs ns→Vals (ns.map V.int) vs
 |_,_,.nil=>.nil
 |_,_,.cons n t h=>.cons ⟨t,rfl⟩ (pH h)
end L2
namespace L2
open PySem PySem.Spec PyProof.Rows
end L2
/- THE LAST THEOREM (shape;LID,My.* are yours):
   My.Adr: a structure of the addresses that your layer names (classes,functions);My.Txt K t: a structure (Prop) of the equations over K;
   My.txt_mk:{K} {implicit addresses ..} (e1:nsIn K AL "law"=some (some (.ref f))) (e2:K.lookup f=some ⟨oc,od,.func (fnOf "law" "law" params body scope dV kV doc pm an cdv ct),sl⟩) (e3:codeIn K cdv "law"=true) ..:∃t,My.Txt K t
(the tactic k_is has no namespace: write k_is) -/
namespace L2
open PySem PySem.Spec PyProof.Rows
noncomputable def xI(s:Stmt):Cm:=match s with
 |.FunctionDef _ a _ _ _ _ _ _ _ _=>a
 |_=>{posonlyargs:=[],args:=[],vararg:=none,kwonlyargs:=[],kw_defaults:=[],kwarg:=none,defaults:=[]}
noncomputable def yR(s:Stmt):List Stmt:=match s with
 |.FunctionDef _ _ b _ _ _ _ _ _ _=>b
 |_=>[]
noncomputable def zG(s:Stmt):Scope:=match s with
 |.FunctionDef _ _ _ _ _ _ sc _ _ _=>sc
 |_=>{kind:=.function,names:=[],isGenerator:=false,isCoroutine:=false}
noncomputable abbrev CX0:CXT:=fun _ _ _ _ _ _=>False
noncomputable abbrev E0:XK:=fun _ _ _=>False
theorem YD{X:Cx}:Passes CX0 X E0:=fun _ _ _ _ _ _ _ h=>h.elim
structure Fun(K:Af)(x qual:Str)(st:Stmt)(f:Addr)(fd:Bx):Prop where
 ex:∃(oc:Value) (od:Option Addr) (kV doc pm:Value) (an:Option Addr) (cdv ct:Value) (osl:Array (Option Value)),
  fd=BK x qual (xI st) (yR st) (zG st) .none kV doc pm an cdv ct∧K.lookup f=some ⟨oc,od,.func fd,osl⟩∧BW K cdv qual=true
 kp:Cu K (.ref f)=true
section
variable {P:Program}{w:World}{K:Af}{mg:Str→Option Value}{base:Heap}
theorem Fun.binds{x qual:Str}{st:Stmt}{f:Addr}{fd:Bx}{ps:List Str}(F:Fun K x qual st f fd)
 (h:∀(kV doc pm:Value) (an:Option Addr) (cdv ct:Value) (us:List Value),us.length=ps.length→GK (BK x qual (xI st) (yR st) (zG st) .none kV doc pm an cdv ct) ⟨us,[]⟩=pure (ps.zip us)):Binds K fd ps []:=by
 obtain⟨oc,od,kV,doc,pm,an,cdv,ct,osl,rfl,lk,hcd⟩:=F.ex
 exact .all (h kV doc pm an cdv ct)
theorem Yu{x qual:Str}{st:Stmt}{f:Addr}{oc:Value}{od an:Option Addr}{osl:Array (Option Value)}{kV doc pm cdv ct:Value}(l:K.lookup f=some ⟨oc,od,.func (BK x qual (xI st) (yR st) (zG st) .none kV doc pm an cdv ct),osl⟩)
 (c:BW K cdv qual=true) (k:Cu K (.ref f)=true):Fun K x qual st f (BK x qual (xI st) (yR st) (zG st) .none kV doc pm an cdv ct):=⟨⟨oc,od,kV,doc,pm,an,cdv,ct,osl,rfl,l,c⟩,k⟩
end
theorem sD{A B:Prop}(h:B):if false=true then A else B:=by
 rw[if_neg Am]
 exact h
theorem oC{A B:Prop}(h:A):if true=true then A else B:=by
 rw[if_pos rfl]
 exact h
def xf(H H':Hp):Prop:=∀b o,H b=some o→H' b=some o
theorem xf.refl(H:Hp):xf H H:=fun _ _ h=>h
theorem xf.trans{H H1 H2:Hp}(a:xf H H1)(b:xf H1 H2):xf H H2:=fun c o h=>b c o (a c o h)
end L2
end
section
namespace L2
open PySem PySem.Spec PyProof.Rows
noncomputable def vh(cells:List (Str × Addr)):List (Str × Bl)→List (Str × Addr)→List (Str × Addr)
 |[],acc=>acc
 |(n,k)::r,acc=>if k == .free then (match cells.lookup n with|some c=>vh cells r ((n,c)::acc)|none=>vh cells r acc) else vh cells r acc
theorem vt{env:Env}:∀(names:List (Str × Bl)) (acc:List (Str × Addr)),(∀x∈names,x.2=.free→∃c,env.cells.lookup x.1=some c) →
 (forIn names acc fun(x:Str × Bl) (cs:List (Str × Addr))=>(if x.2 == .free then do let a ←cellOf env x.1;pure (Cg ((x.1,a)::cs)) else pure (Cg cs):Sem (ForInStep (List (Str × Addr)))))=pure (vh env.cells names acc)
 |[],acc,_=>rfl
 |(n,k)::r,acc,h=>by
  rw[EM]
  dsimp only
  unfold vh
  by_cases hk:(k == AH)=true
  . have hk':k=.free:=by simpa using hk
    obtain⟨c,hc⟩:=h (n,k) Av hk'
    have hc':env.cells.lookup n=some c:=hc
    have hcell:cellOf env n=pure c:=by unfold cellOf;rw[hc']
    rw[if_pos hk,if_pos hk,hcell,hc',EA,EA]
    exact vt r _ fun x hx=>h x (Ao _ hx)
  . rw[if_neg hk,if_neg hk,EA]
    exact vt r _ fun x hx=>h x (Ao _ hx)
theorem vo{scope:Scope}{env:Env}(h:∀x∈scope.names,x.2=.free→∃c,env.cells.lookup x.1=some c):GO scope env=pure (vh env.cells scope.names []):=by
 have e:=vt (env:=env) scope.names [] h
 show (do let cs ←forIn scope.names [] _;pure cs)=_
 refine GP ?_ e
 refine GP (bind_pure _) ?_
 congr 1
theorem uL{cells:List (Str × Addr)}:∀(names:List (Str × Bl)) (acc:List (Str × Addr)),(∀x c,acc.lookup x=some c→cells.lookup x=some c)→∀x c,(vh cells names acc).lookup x=some c→cells.lookup x=some c
 |[],acc,h,x,c,e=>h x c e
 |(n,k)::r,acc,h,x,c,e=>by
  unfold vh at e
  by_cases hk:(k == AH)=true
  . rw[if_pos hk]at e
    cases hc:cells.lookup n with
    |none=>rw[hc]at e;exact uL r acc h x c e
    |some d=>
     rw[hc]at e
     refine uL r _ (fun y z q=>?_) x c e
     rw[Au]at q
     cases hy:(y == n) with
     |true=>rw[hy]at q;have hy':y=n:=by simpa using hy
            cases q;rw[hy'];exact hc
     |false=>rw[hy]at q;exact h y z q
  . rw[if_neg hk]at e;exact uL r acc h x c e
theorem wV{cells:List (Str × Addr)}:∀(names:List (Str × Bl)) (acc:List (Str × Addr)) (x:Str) (c:Addr),cells.lookup x=some c→(acc.lookup x=some c∨(x,AH)∈names)→(∀y d,acc.lookup y=some d→cells.lookup y=some d)→(vh cells names acc).lookup x=some c
 |[],acc,x,c,_,h,_=>by
  rcases h with h|h
  . exact h
  . cases h
 |(n,k)::r,acc,x,c,hc,h,ha=>by
  unfold vh
  by_cases hk:(k == AH)=true
  . rw[if_pos hk]
    cases hn:cells.lookup n with
    |none=>
     refine wV r acc x c hc ?_ ha
     rcases h with h|h
     . exact .inl h
     . rcases Ak.mp h with e|e
       . cases e;rw[hn]at hc;cases hc
       . exact .inr e
    |some d=>
     have ha':∀y z,((n,d)::acc).lookup y=some z→cells.lookup y=some z:=fun y z q=>by
      rw[Au]at q
      cases hy:(y == n) with
      |true=>rw[hy]at q;have hy':y=n:=by simpa using hy
             cases q;rw[hy'];exact hn
      |false=>rw[hy]at q;exact ha y z q
     by_cases hx:x=n
     . subst hx
       refine wV r _ x c hc (.inl ?_) ha'
       rw[hn]at hc;cases hc
       simp[Au]
     . refine wV r _ x c hc ?_ ha'
       rcases h with h|h
       . refine .inl ?_
         have:(x == n)=false:=by simpa using hx
         rw[Au,this];exact h
       . rcases Ak.mp h with e|e
         . cases e;exact absurd rfl hx
         . exact .inr e
  . rw[if_neg hk]
    refine wV r acc x c hc ?_ ha
    rcases h with h|h
    . exact .inl h
    . rcases Ak.mp h with e|e
      . cases e;exact absurd (by decide) hk
      . exact .inr e
theorem vq:∀(names:List (Str × Bl)) (n:Nat) (acc:List (Str × Addr)),CH n names acc=CH n names []++acc
 |[],_,_=>rfl
 |(x,k)::r,n,acc=>by
  unfold CH
  split
  . rw[vq r (n+1) ((x,n)::acc),vq r (n+1) [(x,n)],Bi];rfl
  . exact vq r n acc
theorem pX:∀(names:List (Str × Bl)) (n:Nat) {x:Str} {c:Addr},(x,c)∈CH n names []→(x,Bn)∈names∧n≤c
 |[],_,_,_,h=>by cases h
 |(y,k)::r,n,x,c,h=>by
  unfold CH at h
  split at h
  . rename_i hk
    rw[vq]at h
    rcases AN.mp h with h|h
    . obtain⟨h1,h2⟩:=pX r (n+1) h
      exact⟨Ao _ h1,by omega⟩
    . cases Aq.mp h
      have:k=.cell:=by simpa using hk
      rw[this]
      exact⟨Av,Ag _⟩
  . obtain⟨h1,h2⟩:=pX r n h
    exact⟨Ao _ h1,h2⟩
theorem pW:∀(names:List (Str × Bl)) (n:Nat) {x:Str},(x,Bn)∈names→∃c,(x,c)∈CH n names []
 |[],_,_,h=>by cases h
 |(y,k)::r,n,x,h=>by
  unfold CH
  rcases Ak.mp h with e|h
  . cases e
    rw[if_pos (by rfl),vq]
    exact⟨n,AU _ Av⟩
  . split
    . obtain⟨c,hc⟩:=pW r (n+1) h
      rw[vq]
      exact⟨c,Bc _ hc⟩
    . exact pW r n h
theorem eU{l:List (Str × Addr)}{x:Str}{c:Addr}:(x,c)∈l→∃d,l.lookup x=some d:=by
 induction l with
 |nil=>intro h;cases h
 |cons p r ih=>
  intro h
  rw[Au]
  cases hx:x == p.1 with
  |true=>exact⟨_,rfl⟩
  |false=>
   rcases Ak.mp h with e|h
   . rw[←e]at hx;simp at hx
   . exact ih h
theorem lD{l m:List (Str × Addr)}{x:Str}:(l++m).lookup x=match l.lookup x with|some c=>some c|none=>m.lookup x:=by
 induction l with
 |nil=>rfl
 |cons p r ih=>
  rw[F3,Au,Au]
  cases hx:x == p.1 with
  |true=>rfl
  |false=>exact ih
noncomputable def wM(sc:Scope)(C:Addr):List (Str × Addr):=CH (C+1) sc.names []
theorem av(h:Heap)(sc:Scope):∃h',CellsOk h' (h.objs.size+1) (wM sc h.objs.size):=by
 have ok:=cellsFrom_ok sc.names (h.push {cls:=.type "dict",data:=.dict #[]}) (h.objs.size+1) [] ⟨fun _ _ hm=>(nomatch hm),FL⟩ (by rw[A4];exact Ag _)
 rw[A4]at ok
 exact⟨_,ok⟩
noncomputable abbrev Cx.comp(X:Cx)(N:List Str)(sc:Scope)(C:Addr)(s:Shared)(H:Hp)(ex:List Addr):Cx:=
 {X with N:=N,s₀:=s,H₀:=H,env:=compEnvC sc (wM sc C++vh X.env.cells sc.names []) C X.env,outer:=X.stack,ex:=ex,fn:=fun x=>sc.names.any fun p=>decide (p=(x,Bn)),pn:=[],xe:=fun _ _=>False}
structure z0(X:Cx)(N:List Str)(sc:Scope)(fr:List (Option Nat)):Prop where
 kind:sc.kind=.function
 apart:∀x,(x,Bn)∈sc.names→(x,AH)∈sc.names→False
 locals:∀x∈sc.names,x.2=.local→sc.names.lookup x.1=some .local
 free:∀x∈sc.names,x.2=.free→X.env.kindOf x.1=some .cell∨X.env.kindOf x.1=some .free
 len:fr.length=N.length
 from_:∀(i j:Nat) (x:Str),N[i]?=some x→fr[i]?=some (some j)→X.N[j]?=some x∧(x,AH)∈sc.names
 one:∀x,sc.names.lookup x=some .local→(x,AH)∈sc.names→False
 nob:("!":Str) ∉ N
noncomputable def zT(fr:List (Option Nat))(σ:St):St:=fr.map fun o=>match o with|some j=>(σ[j]?).join|none=>none
theorem oX{sc:Scope}{env:Env}{x:Str}(h:(relabel sc env).names.lookup x=some .cell∨(relabel sc env).names.lookup x=some .free):(x,AH)∈sc.names∨(x,Bn)∈sc.names:=by
 have key:∀(names:List (Str × Bl)),((names.map fun(n,k)=>if (k == AH&&env.scope.kind == .function&&env.kindOf n == some .cell) then (n,Bn) else (n,k)).lookup x=some .cell ∨
  (names.map fun(n,k)=>if (k == AH&&env.scope.kind == .function&&env.kindOf n == some .cell) then (n,Bn) else (n,k)).lookup x=some .free)→(x,AH)∈names∨(x,Bn)∈names:=by
  intro names
  induction names with
  |nil=>intro h;simp at h
  |cons p r ih=>
   obtain⟨n,k⟩:=p
   intro h
   rw[AK]at h
   dsimp only at h
   by_cases hx:x=n
   . subst hx
     by_cases hf:k=.free
     . subst hf;exact .inl Av
     . have hf':(k == AH)=false:=by simpa using hf
       rw[hf']at h
       simp only[Di,AV,if_false,Au,beq_self_eq_true]at h
       rcases h with h|h
       . cases h;exact .inr Av
       . cases h;exact absurd rfl hf
   . have hx':(x == n)=false:=by simpa using hx
     have:=ih (by split at h<;>simpa only[Au,hx'] using h)
     exact this.elim (fun z=>.inl (Ao _ z)) fun z=>.inr (Ao _ z)
 exact key sc.names h
theorem wz{sc:Scope}{env:Env}{x:Str}(h:sc.names.lookup x=some .cell):(relabel sc env).names.lookup x=some .cell:=by
 have key:∀(names:List (Str × Bl)),names.lookup x=some .cell→(names.map fun(n,k)=>if (k == AH&&env.scope.kind == .function&&env.kindOf n == some .cell) then (n,Bn) else (n,k)).lookup x=some .cell:=by
  intro names
  induction names with
  |nil=>intro h;simp at h
  |cons p r ih=>
   obtain⟨n,k⟩:=p
   intro h
   rw[AK]
   dsimp only
   cases hx:(x == n) with
   |true=>
    rw[Au,hx]at h
    cases h
    have e:(Bn == AH)=false:=rfl
    rw[e]
    simp only[Di,AV,if_false,Au,hx]
   |false=>
    rw[Au,hx]at h
    have:=ih h
    split<;>simpa only[Au,hx] using this
 exact key sc.names h
theorem ui{sc:Scope}{env:Env}{x:Str}(hl:∀y∈sc.names,y.2=.local→sc.names.lookup y.1=some .local)(h:sc.names.lookup x=some .free) :
 (relabel sc env).names.lookup x=some .cell∨(relabel sc env).names.lookup x=some .free:=by
 have key:∀(names:List (Str × Bl)),names.lookup x=some .free→((names.map fun(n,k)=>if (k == AH&&env.scope.kind == .function&&env.kindOf n == some .cell) then (n,Bn) else (n,k)).lookup x=some .cell ∨
  (names.map fun(n,k)=>if (k == AH&&env.scope.kind == .function&&env.kindOf n == some .cell) then (n,Bn) else (n,k)).lookup x=some .free):=by
  intro names
  induction names with
  |nil=>intro h;simp at h
  |cons p r ih=>
   obtain⟨n,k⟩:=p
   intro h
   rw[AK]
   dsimp only
   cases hx:(x == n) with
   |true=>
    rw[Au,hx]at h
    cases h
    split
    . left;simp only[Au,hx]
    . right;simp only[Au,hx]
   |false=>
    rw[Au,hx]at h
    have:=ih h
    split<;>simpa only[Au,hx] using this
 exact key sc.names h
section
variable {X:Cx}{pins:List (Addr × Obj)}{σ:St}{H:Hp}{s:Shared}{N:List Str}{sc:Scope}{fr:List (Option Nat)}{fp:List Addr}
theorem z0.cells(S:z0 X N sc fr)(ok:X.Ok):∀x∈sc.names,x.2=.free→∃c,X.env.cells.lookup x.1=some c:=fun x hx hk=>ok.has x.1 (S.free x hx hk)
theorem wU{sc:Scope}{C:Addr}{cells:List (Str × Addr)}{x:Str}{c:Addr}(h:(wM sc C++vh cells sc.names []).lookup x=some c):((wM sc C).lookup x=some c)∨((wM sc C).lookup x=none∧cells.lookup x=some c):=by
 rw[lD]at h
 cases ho:(wM sc C).lookup x with
 |some d=>rw[ho]at h;exact .inl h
 |none=>rw[ho]at h;exact .inr ⟨rfl,uL sc.names [] (fun x c e=>by simp at e) x c h⟩
theorem rk{sc:Scope}{C:Addr}{x:Str}{c:Addr}(h:(wM sc C).lookup x=some c):@LE.le Nat _ (C+1) c:=(pX sc.names (C+1) (mem_of_lookup h)).2
theorem dC{X:Cx}{N:List Str}{sc:Scope}{fr:List (Option Nat)}{C:Addr}(S:z0 X N sc fr){x:Str}(h:(x,AH)∈sc.names):(wM sc C).lookup x=none:=by
 cases ho:(wM sc C).lookup x with
 |none=>rfl
 |some d=>exact(S.apart x (pX sc.names (C+1) (mem_of_lookup ho)).1 h).elim
theorem bb(I:Inv X pins σ H s)(S:z0 X N sc fr)(hf:∀b∈fp,vg X pins H b)(hlt:∀b∈fp,b<s.heap.objs.size):(X.comp N sc s.heap.objs.size s H fp).Ok:=by
 obtain⟨h',hok⟩:=av s.heap sc
 have old:∀x c,X.env.cells.lookup x=some c→@LT.lt Nat _ c s.heap.objs.size:=fun x c e=>by obtain⟨v,z⟩:=I.cell x c e;exact z.lt
 refine⟨I.ok.mod,S.kind,I.ok.glob,I.ok.blt,Ag _,fun x y c e1 e2=>?_,fun x h=>?_,fun x c h e=>?_,I.ok.hd,I.ok.frames,.inl rfl,fun b hb=>?_,fun b o e=>I.bs b o e,?_,fun b o e hb=>?_,fun b hb z=>?_,I.stack,I.oi⟩
 . rcases wU e1 with e1|⟨_,e1⟩<;>rcases wU e2 with e2|⟨_,e2⟩
   . exact name_of_addr hok.apart (mem_of_lookup e1) (mem_of_lookup e2)
   . exact absurd (AA (old _ _ e2) (Ax (Dd _) (rk e1))) (Bb _)
   . exact absurd (AA (old _ _ e1) (Ax (Dd _) (rk e2))) (Bb _)
   . exact I.ok.inj x y c e1 e2
 . show ∃c,(wM sc s.heap.objs.size++vh X.env.cells sc.names []).lookup x=some c
   rw[lD]
   rcases oX h with m|m
   . obtain⟨c,hc⟩:=S.cells I.ok (x,.free) m rfl
     rw[dC S m]
     exact⟨c,wV sc.names [] x c hc (.inr m) (fun y d e=>by simp at e)⟩
   . obtain⟨c,hc⟩:=pW sc.names (s.heap.objs.size+1) m
     obtain⟨d,hd⟩:=eU hc
     have hd':(wM sc s.heap.objs.size).lookup x=some d:=hd
     rw[hd']
     exact⟨d,rfl⟩
 . have m:(x,Bn)∈sc.names:=by
    obtain⟨p,hp,e'⟩:=BU.mp h
    rw[←of_decide_eq_true e'];exact hp
   rcases wU e with e|⟨e,_⟩
   . exact Ax (Dd _) (rk e)
   . obtain⟨c',hc⟩:=pW sc.names (s.heap.objs.size+1) m
     obtain⟨d,hd⟩:=eU hc
     have hd':(wM sc s.heap.objs.size).lookup x=some d:=hd
     rw[hd']at e;cases e
 . obtain⟨f0,f1,f2,f3,f4,f5⟩:=hf b hb
   refine⟨AD (hlt b hb),fun x c e=>?_⟩
   rcases wU e with e|⟨_,e⟩
   . exact fun z=>absurd (AA (z▸hlt b hb) (Ax (Dd _) (rk e))) (Bb _)
   . exact f4 x c e
 . exact Ax I.ok.bsz I.sz
 . obtain⟨f0,f1,f2,f3,f4,f5⟩:=hf b hb
   rcases f3 with f3|f3
   . exact I.ok.noex b o e f3
   . exact absurd (AA (An e) (Ax I.ok.bsz f3)) (Bb _)
 . obtain⟨f0,f1,f2,f3,f4,f5⟩:=hf b hb
   rcases Ak.mp (I.oj b z) with e|e
   . exact f1 e
   . exact f2 e
theorem mx{h':Heap}{tk:Nat}(I:Inv X pins σ H s)(S:z0 X N sc fr)(hf:∀b∈fp,vg X pins H b)(hlt:∀b∈fp,b<s.heap.objs.size)
 (hns:h'.Ns s.heap.objs.size (fun _=>none)) (k:∀b o,s.heap.get? b=some o→h'.get? b=some o) (m5:∀x c,(wM sc s.heap.objs.size).lookup x=some c→h'.IsCell c none):Inv (X.comp N sc s.heap.objs.size s H fp) [] (zT fr σ) H {s with heap:=h',toks:=tk}:=by
 refine⟨bb I S hf hlt,rfl,I.bare,Un.kept k,⟨_,hns,fun i x v e1 e2 e3=>?_⟩,fun x c e=>?_,I.hok.fresh (Ag _),fun x c e=>?_,fun p hp=>(by simp at hp),I.hok.kept k,?_⟩
 . have e2':(fr.map fun o=>match o with|some j=>(σ[j]?).join|none=>none)[i]?=some (some v):=e2
   rw[AQ]at e2'
   cases hfi:fr[i]? with
   |none=>rw[hfi]at e2';cases e2'
   |some o=>
    rw[hfi]at e2'
    cases o with
    |none=>cases e2'
    |some j=>
     obtain⟨n1,n2⟩:=S.from_ i j x e1 hfi
     have e3':σ[j]?=some (some v):=by
      have q:(σ[j]?).join=some v:=AF e2'
      cases hσ:σ[j]? with
      |none=>rw[hσ]at q;cases q
      |some w=>rw[hσ]at q;cases w with
       |none=>cases q
       |some w'=>have:w'=v:=AF q
                 rw[this]
     have hk:=S.free (x,.free) n2 rfl
     obtain⟨m,hn,hl⟩:=I.loc
     obtain⟨u,r,l⟩:=hl j x v n1 e3' (hk.elim (fun z=>.inr (.inl z)) fun z=>.inr (.inr z))
     refine⟨u,r,?_⟩
     rcases l with⟨hk',_⟩|⟨_,c,hc,z⟩
     . rcases hk with hk|hk<;>(rw[hk]at hk';cases hk')
     . refine .inr ⟨?_,c,(by show (wM sc s.heap.objs.size++vh X.env.cells sc.names []).lookup x=some c;rw[lD,dC S n2];exact wV sc.names [] x c hc (.inr n2) (fun y d e=>by simp at e)),?_⟩
       . rcases e3 with e3|e3|e3
         . -- a local of that name: cannot be,the name is free in the block
           exfalso
           have hloc:sc.names.lookup x=some .local:=by
            have key:∀(names:List (Str × Bl)),(names.map fun(n,k)=>if (k == AH&&X.env.scope.kind == .function&&X.env.kindOf n == some .cell) then (n,Bn) else (n,k)).lookup x=some .local→names.lookup x=some .local:=by
             intro names
             induction names with
             |nil=>intro h;simp at h
             |cons p r ih=>
              obtain⟨n,kk⟩:=p
              intro h
              rw[AK]at h
              dsimp only at h
              cases hx:(x == n) with
              |true=>
               split at h
               . simp only[Au,hx]at h;cases h
               . simp only[Au,hx]at h ⊢;exact h
              |false=>
               rw[Au,hx]
               refine ih ?_
               split at h<;>simpa only[Au,hx] using h
            exact key sc.names e3
           exact S.one x hloc n2
         . exact .inl e3
         . exact .inr e3
       . obtain⟨o,ho,hd⟩:=z
         exact⟨o,k _ _ ho,hd⟩
 . rcases wU e with e|⟨_,e⟩
   . exact⟨none,m5 x c e⟩
   . obtain⟨v,o,ho,hd⟩:=I.cell x c e
     exact⟨v,o,k _ _ ho,hd⟩
 . rcases wU e with e|⟨_,e⟩
   . exact I.hok.fresh (Ax (Dd _) (rk e))
   . exact I.freeC x c e
 . show (fr.map _).length=N.length
   rw[Ai];exact S.len
end
end L2
end
section
namespace L2
open PySem PySem.Spec PyProof.Rows
noncomputable def om:List TT→TT
 |[]=>fun _ H Q=>Q true H
 |t::ts=>fun σ H Q=>t σ H fun c H1=>if c=true then om ts σ H1 Q else Q false H1
inductive PTs(X:Cx):List Expr→List TT→Prop
 |nil:PTs X [] []
 |cons {c:Expr} {cs:List Expr} {t:TT} {ts:List TT}:PT X c t→PTs X cs ts→PTs X (c::cs) (t::ts)
theorem tq{X:Cx}{Q:Bool→Shared→Prop}{E:Value→Shared→Prop}{s:Shared}(h:Q false s):∀cs:List Expr,
 wpAny (model X.prog X.w) X.A (forIn cs false fun c r=>if r=true then do let ok ←isTrue c X.env (eval c X.env);pure (Cg ok) else pure (Cg r)) Q E s
 |[]=>Al h
 |c::cs=>by
  rw[EM]
  exact Ac (Al (tq h cs))
theorem PTs.run{X:Cx}:∀{cs:List Expr} {ts:List TT},PTs X cs ts→∀{pins:List (Addr × Obj)} {s:Shared} {σ:St} {H:Hp} {Q:Bool→Hp→Prop},Inv X pins σ H s→om ts σ H Q →
 wpAny (model X.prog X.w) X.A (forIn cs true fun c r=>if r=true then do let ok ←isTrue c X.env (eval c X.env);pure (Cg ok) else pure (Cg r)) (TP X pins σ Q) X.xe s
 |_,_,.nil,pins,s,σ,H,Q,I,h=>Al ⟨H,I,h⟩
 |_,_,.cons hc hs,pins,s,σ,H,Q,I,h=>by
  rw[EM]
  refine Ac (Ac (thn (hc pins s σ H _ I h) fun c s1 ⟨H1,I1,q1⟩=>Al ?_))
  cases c with
  |true=>exact hs.run I1 q1
  |false=>exact tq ⟨H1,I1,q1⟩ _
noncomputable abbrev TB:=(St→Hp→Prop)→St→Hp→Prop
def PB(X:Cx)(B:Sem PUnit)(tb:TB):Prop:=
 ∀(pins:List (Addr × Obj)) (s:Shared) (σ:St) (H:Hp) (Nx:St→Hp→Prop),Inv X pins σ H s→tb Nx σ H→wpAny (model X.prog X.w) X.A B (fun _ s'=>∃σ' H',Inv X pins σ' H' s'∧Nx σ' H') X.xe s
noncomputable def tTB(ts:List TT)(tb:TB):TS:=fun D σ H=>om ts σ H fun c H1=>if c=true then tb D.nx σ H1 else D.nx σ H1
def mC(J:It)(g:TG)(tb:TS)(D:Ends)(σ:St)(H:Hp):Prop:=∃W:Nat→Nat→St→Hp→Prop,(∃m,W 0 m σ H)∧∀i m σ H,W i m σ H →
 (J.stop i H∧D.nx σ H)∨(J.go i H∧∃N:St→Hp→Prop,(∀σ' H',N σ' H'→∃m',m'<m∧W (i+1) m' σ' H')∧∀x H',J.yld i H x H'→g x σ H' fun σ2 H2=>tb {D with nx:=N,ct:=N,bk:=D.nx} σ2 H2)
theorem u0{X:Cx}{elt:Expr}{gens:List GW}{csc:Scope}{cpos:Pos}{d:Nat}{tg:Expr}{p:Pos}{ifs:List Expr}{B:Sem PUnit}{acc:Value}{it:Addr}{fp:List Addr}{tn:Nat→Heap→Prop}{J:It}{g:TG}{ts:List TT}{tb:TB}{D:Ends}
 {pins:List (Addr × Obj)} {σ:St} {H:Hp} {s:Shared} {R:Result→Shared→Prop}
 (heq:F4 (.ListComp elt gens csc cpos) d (.ref it) acc X.env=(do
  standAt p
  match ←pyNext (.ref it) with
  |none=>pure (.done .next)
  |some v=>
   Cb tg (.ref it) v
   assign tg X.env v
   let mut ok:=true
   for c in ifs do
    if ok then ok ←isTrue c X.env (eval c X.env)
   if ok then B
   again (.compLoop (.ListComp elt gens csc cpos) d (.ref it) acc X.env)))
 (hx:X.xe=fun _ _=>False) (hc:X.calm=true) (T:Turn X.prog X.w X.K tg J fp it tn) (hg:PG X tg g) (ht:PTs X ifs ts) (hb:PB X B tb)
 (I:Inv X pins σ H s) (st:tn 0 s.heap) (f:∀b∈fp,vg X pins H b) (h:mC J g (tTB ts tb) D σ H)
 (hR:∀σ' H' s',Inv X pins σ' H' s'→D.nx σ' H'→(∀b∈fp,H' b=none)→R (.ok .next) s') :
 codeAny (model X.prog X.w) X.A (.compLoop (.ListComp elt gens csc cpos) d (.ref it) acc X.env) R s:=by
 obtain⟨W,⟨m0,w0⟩,turn⟩:=h
 have stat:∀{H':Hp},(∀b∈fp,H' b=none)→∀b∈fp,vg X pins H' b:=fun hn b hb=>⟨hn b hb,(f b hb).2⟩
 have no:∀{α:Type} {t:Sem α} {Q:α→Shared→Prop} {E':Value→Shared→Prop} {s:Shared},wpAny (model X.prog X.w) X.A t Q X.xe s→wpAny (model X.prog X.w) X.A t Q E' s:=fun h=>A9 h (fun _ _ q=>q) fun _ _ z=>by rw[hx]at z;exact z.elim
 refine codeAny_loop rfl (fun n s'=>∃i σ' H',Inv X pins σ' H' s'∧tn i s'.heap∧(∀b∈fp,H' b=none)∧W i n σ' H') (fun n s3 hI=>?_) m0 ⟨0,σ,H,I,st,fun b hb=>(f b hb).1,w0⟩
 obtain⟨i,σ3,H3,I3,st3,fr3,w3⟩:=hI
 show wpAny _ _ ((F4 (.ListComp elt gens csc cpos) d (.ref it) acc X.env).onRaise (fun x=>do noteFrame x X.env;theTreesLotGoes x)) _ _ s3
 refine wpAny_noted ?_
 rw[heq]
 refine Ac (BL (Ac ?_))
 rcases turn i n σ3 H3 w3 with⟨stop,qn⟩|⟨go,N,hN,step⟩
 . refine no (thn (T.done X rfl rfl rfl hc i pins s3 σ3 H3 X.xe I3 (stat fr3) st3 stop) fun r s4 ⟨hr,I4⟩=>?_)
   subst hr
   exact Al (hR σ3 H3 s4 I4 qn fr3)
 . refine no (thn (T.item X rfl rfl rfl hc i pins s3 σ3 H3 X.xe I3 (stat fr3) st3 go) fun r s4 ⟨u,hr,h4⟩=>?_)
   subst hr
   refine Ac (no (thn h4 fun _ s5 ⟨x,H5,I5,r5,y5,st5,fr5⟩=>?_))
   have I5':=I5.pinned (stat fr5) (T.obj _ _ st5)
   refine Ac (no (thn (hg _ s5 σ3 H5 x u _ I5' r5 (step x H5 y5)) fun _ s6 ⟨σ6,H6,I6,q6⟩=>?_))
   refine Ac (no (thn (ht.run I6 q6) fun ok s7 ⟨H7,I7,q7⟩=>?_))
   have again':∀{σ7:St} {H7:Hp} {s7:Shared},Inv X (pins++rm fp s5.heap) σ7 H7 s7→N σ7 H7→∃m,m<n∧∃i σ' H',Inv X pins σ' H' s7∧tn i s7.heap∧(∀b∈fp,H' b=none)∧W i m σ' H':=fun{σ7 H7 s7} I7 n7=>by
    obtain⟨m',hm,w7⟩:=hN σ7 H7 n7
    refine⟨m',hm,i+1,σ7,H7,I7.uu,T.keep _ _ _ st5 fun b hb o e=>(I7.pin (b,o) (AU _ (AU _ (wo hb e)))).1,fun b hb=>?_,w7⟩
    obtain⟨o,e,d⟩:=T.obj _ _ st5 b hb
    exact(I7.pin (b,o) (AU _ (AU _ (wo hb e)))).2.1
   cases ok with
   |false=>exact Al ⟨rfl,again' I7 q7⟩
   |true=>exact Ac (no (thn (hb _ s7 σ6 H7 N I7 q7) fun _ s8 ⟨σ8,H8,I8,n8⟩=>Al ⟨rfl,again' I8 n8⟩))
noncomputable def pC(acc:Addr)(te:TE):TB:=fun Nx σ H=>te σ H fun y H1=>∃ys,H1 acc=some (.lst ys)∧ys.length<AB∧Nx σ (upd H1 acc (.lst (ys++[y])))
theorem jB{X:Cx}{acc:Addr}{elt:Expr}{te:TE}(he:PE X elt te):PB X (do let _ ←call (.builtin "list.append") [.ref acc,←eval elt X.env]) (pC acc te):=by
 intro pins s σ H Nx I h
 refine Ac (thn (he pins s σ H _ I h) fun u s1 ⟨y,H1,I1,r1,ys,hl,hz,q⟩=>?_)
 refine Ac (thn (qt pins s1 σ H1 (.ref acc) [y] (.ref acc) [u] (fun _ H'=>Nx σ H') I1 rfl (.cons r1 .nil) ⟨acc,ys,y,rfl,rfl,hl,hz,q⟩) fun _ s2 ⟨_,H2,I2,_,q2⟩=>?_)
 exact Al ⟨σ,H2,I2,q2⟩
end L2
end
section
namespace L2
open PySem PySem.Spec PyProof.Rows
def tj(fr:List (Option Nat))(wi:TI)(g:TG)(ts:List TT)(tb:Addr→TB)(σ:St)(H:Hp)(Q:VK):Prop:=
 wi σ H fun J H1=>∀acc,H1 acc=none→mC J g (tTB ts (tb acc)) ⟨fun _ H'=>Q (.ref acc) H',fun _ _=>False,fun _ _=>False,fun _ _=>False⟩ (zT fr σ) (upd H1 acc (.lst []))
section
variable {X:Cx}{pins:List (Addr × Obj)}{σ:St}{H:Hp}{s:Shared}{N:List Str}{csc:Scope}{fr:List (Option Nat)}{elt tg iter:Expr}{ifs:List Expr}{rest:List GW}{cpos:Pos}{wi:TI}{g:TG}{ts:List TT}{tb:Addr→TB}
theorem kL{M:Model}{A:Around}{E:Value→Shared→Prop}{s:Shared}{scope:Scope}{globals:Addr}{cl:List (Str × Addr)}{qual:Str}{outer:Env}{Q:Env→Shared→Prop}
 (hQ:∀h':Heap,h'.Ns s.heap.objs.size (fun _=>none)→(∀b o,s.heap.get? b=some o→h'.get? b=some o)→(∀x c,(wM scope s.heap.objs.size).lookup x=some c→h'.IsCell c none) →
  Q {scope:=scope,locals:=s.heap.objs.size,globals:=globals,cells:=wM scope s.heap.objs.size++cl,qual:=qual,func:=none,code:=outer.code,frame:=outer.frame,builtins:=outer.builtins} {s with heap:=h'}) :
 wpAny M A (GD scope globals cl [] qual none .none (some outer)) Q E s:=by
 simp only[GD,Option.isSome_some,if_true]
 refine Ac (wpAny_alloc ?_)
 refine Ac (wpAny_layCells _ (fun name kind cells=>by cases hkc:kind == Bn<;>simp[hkc]) _ _ _ _ ?_)
 have ok:=cellsFrom_ok scope.names (s.heap.push {cls:=.type "dict",data:=.dict #[]}) (s.heap.objs.size+1) [] ⟨fun _ _ hm=>(nomatch hm),FL⟩ (by rw[A4];exact Ag _)
 rw[A4]at ok
 rw[show ({s with heap:=s.heap.push {cls:=.type "dict",data:=.dict #[]}}:Shared).heap.objs.size=s.heap.objs.size+1 from A4 ..]
 rw[GF]
 refine Ac (Al (Al ?_))
 rw[vq]
 exact hQ _ ((Heap.Ns.new s.heap (.type "dict")).keeps (pushCells_keeps _ _)) (fun b o e=>pushCells_keeps _ _ b o (Ad _ e)) fun x c hc=>(ok.empty x c (mem_of_lookup hc)).1
theorem qh{use:Option (Value→Sem Unit)}{QQ:Value→Shared→Prop}{Qv:VK}{B:Value→Env→Sem PUnit}{E:Value→Shared→Prop}(hE:E=X.xe)(hc:X.calm=true)(S:z0 X N csc fr)(hi:PI X tg iter wi)
 (hturn:∀(it:Addr) (acc:Value) (env:Env),F4 (.ListComp elt (⟨tg,iter,ifs,0⟩::rest) csc cpos) 0 (.ref it) acc env=(do
  standAt iter.pos
  match ←pyNext (.ref it) with
  |none=>pure (.done .next)
  |some v=>
   Cb tg (.ref it) v
   assign tg env v
   let mut ok:=true
   for c in ifs do
    if ok then ok ←isTrue c env (eval c env)
   if ok then B acc env
   again (.compLoop (.ListComp elt (⟨tg,iter,ifs,0⟩::rest) csc cpos) 0 (.ref it) acc env)))
 (hg:∀C s0 H0 ex,PG (X.comp N csc C s0 H0 ex) tg g) (ht:∀C s0 H0 ex,PTs (X.comp N csc C s0 H0 ex) ifs ts)
 (hb:∀C s0 H0 ex acc,PB (X.comp N csc C s0 H0 ex) (B (.ref acc) (X.comp N csc C s0 H0 ex).env) (tb acc))
 (I:Inv X pins σ H s) (h:tj fr wi g ts tb σ H Qv)
 (hfin:∀acc C H' s',Inv X pins σ H' s'→Qv (.ref acc) H'→(∃m,s'.heap.Ns C m)→H' C=none→C≠X.env.locals→X.s₀.heap.objs.size≤C→(∀x c,X.env.cells.lookup x=some c→c≠C)→(∀p∈X.pn++pins,p.1≠C) →
  compPost (model X.prog X.w) X.A X.xe use QQ (.ref acc) C (.ok .next) s') :
 wpAny (model X.prog X.w) X.A (eval iter X.env) (fun x s₁=>wpAny (model X.prog X.w) X.A (pyIter x) (fun it s₂=>wpAny (model X.prog X.w) X.A (newList []) (fun acc s₃=>
  wpAny (model X.prog X.w) X.A (GD csc X.env.globals (vh X.env.cells csc.names []) [] X.env.qual none .none (some X.env)) (fun cenv s₄=>
   codeAny (model X.prog X.w) X.A (.compStart (.ListComp elt (⟨tg,iter,ifs,0⟩::rest) csc cpos) 0 it acc {cenv with scope:=relabel csc X.env}) (compPost (model X.prog X.w) X.A E use QQ acc cenv.locals) s₄) E s₃) E s₂) E s₁) E s:=by
 subst hE
 refine thn (hi pins s σ H _ I h) fun v s1 h1=>thn h1 fun itv s2 h2=>?_
 obtain⟨it,fp,tn,J,H2,e,I2,T,st2,f2,q2⟩:=h2
 subst e
 refine Be ?_
 have hfr:H2 s2.heap.objs.size=none:=I2.hok.fresh (Ag _)
 have q3:=q2 s2.heap.objs.size hfr
 generalize hs3:({s2 with heap:=s2.heap.push {cls:=.type "list",dict:=none,data:=.seq ([]:List Value).toArray}}:Shared)=s3
 have k23:∀b u,s2.heap.get? b=some u→s3.heap.get? b=some u:=fun b u e=>by rw[←hs3];exact Ad _ e
 have new3:s3.heap.get? s2.heap.objs.size=some {cls:=.type "list",dict:=none,data:=.seq ([]:List Value).toArray}:=by rw[←hs3];exact Ay _ rfl
 have I3:Inv X pins σ (upd H2 s2.heap.objs.size (.lst [])) s3:=by
  rw[←hs3]
  exact I2.laid (t':=s2.toks) (fun b u e=>Ad _ e) (Ag _) ⟨A8 _,[],0,.nil,Ay _ rfl⟩
 have lt2:∀b∈fp,b<s2.heap.objs.size:=fun b hb=>by obtain⟨o,e,_⟩:=T.obj _ _ st2 b hb;exact An e
 have hsz:s3.heap.objs.size=s2.heap.objs.size+1:=by rw[←hs3];exact A4 ..
 have f3:∀b∈fp,vg X pins (upd H2 s2.heap.objs.size (.lst [])) b:=fun b hb=>⟨by rw[zI (AD (lt2 b hb))];exact(f2 b hb).1,(f2 b hb).2⟩
 have lt3:∀b∈fp,b<s3.heap.objs.size:=fun b hb=>by rw[hsz];exact BC (lt2 b hb)
 refine kL fun h4 hns4' k34 own4=>?_
 have I4:=mx (tk:=s3.toks) I3 S f3 lt3 hns4' k34 own4
 have st4:tn 0 h4:=T.keep _ _ _ st2 fun b hb o e=>k34 b o (k23 b o e)
 have f4:∀b∈fp,vg (X.comp N csc s3.heap.objs.size s3 (upd H2 s2.heap.objs.size (.lst [])) fp) [] (upd H2 s2.heap.objs.size (.lst [])) b:=fun b hb=>by
  have ok:=I4.ok
  obtain⟨g1,g2⟩:=ok.exf b hb
  exact⟨(f3 b hb).1,g1,ok.exfs b hb,.inl hb,g2,fun p hp=>by simp at hp⟩
 have fin:∀σ' H' s',Inv (X.comp N csc s3.heap.objs.size s3 (upd H2 s2.heap.objs.size (.lst [])) fp) [] σ' H' s'→Qv (.ref s2.heap.objs.size) H'→(∀b∈fp,H' b=none) →
  compPost (model X.prog X.w) X.A X.xe use QQ (.ref s2.heap.objs.size) s3.heap.objs.size (.ok .next) s':=fun σ' H' s' I' q' _=>by
  have IX:Inv X pins σ H' s':=I3.VR I'.os I'.base I'.hok I'.bare fun b hb=>by
   obtain⟨g0,g1,g2,g3,g4,g5⟩:=f3 b hb
   exact⟨g3,g1,g4,g5⟩
  obtain⟨m,hn,_⟩:=I'.loc
  refine hfin _ _ H' s' IX q' ⟨m,hn⟩ I'.free (Dh I3.lt) I3.sz (fun x c e=>?_) fun p hp=>?_
  . obtain⟨w',z⟩:=I3.cell x c e
    exact AD z.lt
  . exact AD (An (I3.pin p hp).1)
 have loop:codeAny (model X.prog X.w) X.A (.compLoop (.ListComp elt (⟨tg,iter,ifs,0⟩::rest) csc cpos) 0 (.ref it) (.ref s2.heap.objs.size) (compEnvC csc (wM csc s3.heap.objs.size++vh X.env.cells csc.names []) s3.heap.objs.size X.env))
  (compPost (model X.prog X.w) X.A X.xe use QQ (.ref s2.heap.objs.size) s3.heap.objs.size) {s3 with heap:=h4}:=
  u0 (X:=X.comp N csc s3.heap.objs.size s3 (upd H2 s2.heap.objs.size (.lst [])) fp) (hturn it _ _) rfl hc T (hg _ _ _ _) (ht _ _ _ _) (hb _ _ _ _ _) I4 st4 f4 q3 fin
 exact codeAny_compStart_list loop (T.self X.A 0 _ _ _ st4 loop)
theorem dX{B:Value→Env→Sem PUnit}(hc:X.calm=true)(S:z0 X N csc fr)(hi:PI X tg iter wi)
 (hturn:∀(it:Addr) (acc:Value) (env:Env),F4 (.ListComp elt (⟨tg,iter,ifs,0⟩::rest) csc cpos) 0 (.ref it) acc env=(do
  standAt iter.pos
  match ←pyNext (.ref it) with
  |none=>pure (.done .next)
  |some v=>
   Cb tg (.ref it) v
   assign tg env v
   let mut ok:=true
   for c in ifs do
    if ok then ok ←isTrue c env (eval c env)
   if ok then B acc env
   again (.compLoop (.ListComp elt (⟨tg,iter,ifs,0⟩::rest) csc cpos) 0 (.ref it) acc env)))
 (hg:∀C s0 H0 ex,PG (X.comp N csc C s0 H0 ex) tg g) (ht:∀C s0 H0 ex,PTs (X.comp N csc C s0 H0 ex) ifs ts)
 (hb:∀C s0 H0 ex acc,PB (X.comp N csc C s0 H0 ex) (B (.ref acc) (X.comp N csc C s0 H0 ex).env) (tb acc))
 (hs:∀x,CP iter X.env x=pure x:=by intro _;rfl) :
 PE X (.ListComp elt (⟨tg,iter,ifs,0⟩::rest) csc cpos) (tj fr wi g ts tb):=by
 intro pins s σ H Q I h
 rw[eval_ListComp]
 refine F5 (use:=none) rfl hs (vo (S.cells I.ok)) S.kind S.locals ?_
 refine qh (use:=none) rfl hc S hi hturn hg ht hb I h fun acc C H' s' I' q' hn hC hL h0 hcl hpn=>?_
 obtain⟨m,hn⟩:=hn
 refine⟨m,hn,fun h' sb=>⟨.ref acc,H',?_,rfl,q'⟩⟩
 exact I'.turned (t':=s'.toks) (fun b o hb e=>(sb.2 b hb).trans e) hC (Bp (Bp hL)) (.inr h0) hcl hpn
theorem dw{B:Value→Env→Sem PUnit}{y:Str}{py spos:Pos}{i:Nat}(hc:X.calm=true)(S:z0 X N csc fr)(hi:PI X tg iter wi)
 (hturn:∀(it:Addr) (acc:Value) (env:Env),F4 (.ListComp elt (⟨tg,iter,ifs,0⟩::rest) csc cpos) 0 (.ref it) acc env=(do
  standAt iter.pos
  match ←pyNext (.ref it) with
  |none=>pure (.done .next)
  |some v=>
   Cb tg (.ref it) v
   assign tg env v
   let mut ok:=true
   for c in ifs do
    if ok then ok ←isTrue c env (eval c env)
   if ok then B acc env
   again (.compLoop (.ListComp elt (⟨tg,iter,ifs,0⟩::rest) csc cpos) 0 (.ref it) acc env)))
 (hg:∀C s0 H0 ex,PG (X.comp N csc C s0 H0 ex) tg g) (ht:∀C s0 H0 ex,PTs (X.comp N csc C s0 H0 ex) ifs ts)
 (hb:∀C s0 H0 ex acc,PB (X.comp N csc C s0 H0 ex) (B (.ref acc) (X.comp N csc C s0 H0 ex).env) (tb acc))
 (hN:X.N.Nodup) (hy:X.N[i]?=some y) (hx:Loc X.env.scope y)
 (hsw:Fd (.ListComp elt (⟨tg,iter,ifs,0⟩::rest) csc cpos) (some (.Name y py)) spos.line X.env=pure true:=by rfl)
 (hf:X.fn y=true∨X.env.scope.names.lookup y=some .local:=by first|exact .inl rfl|exact .inr rfl|assumption)
 (hs:∀x,CP iter X.env x=pure x:=by intro _;rfl) :
 PS X (.Assign [.Name y py] (.ListComp elt (⟨tg,iter,ifs,0⟩::rest) csc cpos) spos) (um (tj fr wi g ts tb) (xl i)):=by
 intro pins s σ H D I h
 rw[exec_Assign_Name_used _ _ _ _ hsw]
 refine Ac (BL (Ac ?_))
 show wpAny _ X.A (do let _ ←comprehension (.ListComp elt (⟨tg,iter,ifs,0⟩::rest) csc cpos) csc X.env _ (newList []) false (eval iter X.env) (some (assign (.Name y py) X.env))) _ _ s
 refine Ac (A9 (F5 (use:=some (assign (.Name y py) X.env)) (Q:=fun _ s'=>SP X pins D .next s') rfl hs (vo (S.cells I.ok)) S.kind S.locals ?_) (fun _ s' hq=>Al (Al hq)) fun _ _ e=>e)
 refine qh (use:=some (assign (.Name y py) X.env)) rfl hc S hi hturn hg ht hb I h fun acc C H' s' I' q' hn hC hL h0 hcl hpn=>?_
 obtain⟨m,hn⟩:=hn
 show wpAny _ X.A (assign (.Name y py) X.env (.ref acc)) _ _ _
 refine wpAny_assign_Name (pB I' hN hy hx (show RelV (.ref acc) (.ref acc) from rfl) (fun s2 I2 ⟨a,sb,ha⟩=>?_) hf)
 have haC:C≠a:=by
  rcases ha with ha|ha
  . rw[ha];exact hL
  . exact Bp (hcl y a ha)
 refine⟨m,hn.sameBut sb haC,fun h' sb'=>⟨_,H',?_,q'⟩⟩
 exact I2.turned (t':=s2.toks) (fun b o hb e=>(sb'.2 b hb).trans e) hC hL (.inr h0) hcl hpn
theorem YO(elt tg iter:Expr)(ifs:List Expr)(csc:Scope)(cpos:Pos)(it:Addr)(acc:Value)(env:Env) :
 F4 (.ListComp elt [⟨tg,iter,ifs,0⟩] csc cpos) 0 (.ref it) acc env=(do
  standAt iter.pos
  match ←pyNext (.ref it) with
  |none=>pure (.done .next)
  |some v=>
   Cb tg (.ref it) v
   assign tg env v
   let mut ok:=true
   for c in ifs do
    if ok then ok ←isTrue c env (eval c env)
   if ok then (do let _ ←call (.builtin "list.append") [acc,←eval elt env])
   again (.compLoop (.ListComp elt [⟨tg,iter,ifs,0⟩] csc cpos) 0 (.ref it) acc env)):=by rfl
end
end L2
end
section
namespace L2
open PySem PySem.Spec PyProof.Rows
section
variable {X:Cx}{N:List Str}{csc:Scope}{fr:List (Option Nat)}{elt tg iter tg2 iter2:Expr}{ifs ifs2:List Expr}{cpos:Pos}{wi wi2:TI}{g g2:TG}{ts ts2:List TT}{te:TE}
theorem jF(hc:X.calm=true)(S:z0 X N csc fr)(hi:PI X tg iter wi)(hg:∀C s0 H0 ex,PG (X.comp N csc C s0 H0 ex) tg g)(ht:∀C s0 H0 ex,PTs (X.comp N csc C s0 H0 ex) ifs ts)
 (he:∀C s0 H0 ex,PE (X.comp N csc C s0 H0 ex) elt te) (hs:∀x,CP iter X.env x=pure x:=by intro _;rfl) :
 PE X (.ListComp elt [⟨tg,iter,ifs,0⟩] csc cpos) (tj fr wi g ts fun acc=>pC acc te):=
 dX hc S hi (B:=fun acc env=>(do let _ ←call (.builtin "list.append") [acc,←eval elt env])) (YO elt tg iter ifs csc cpos) hg ht (fun C s0 H0 ex acc=>jB (he C s0 H0 ex)) hs
theorem ZH{y:Str}{py spos:Pos}{i:Nat}(hc:X.calm=true)(S:z0 X N csc fr)(hi:PI X tg iter wi)(hg:∀C s0 H0 ex,PG (X.comp N csc C s0 H0 ex) tg g)(ht:∀C s0 H0 ex,PTs (X.comp N csc C s0 H0 ex) ifs ts)
 (he:∀C s0 H0 ex,PE (X.comp N csc C s0 H0 ex) elt te) (hN:X.N.Nodup) (hy:X.N[i]?=some y) (hx:Loc X.env.scope y)
 (hsw:Fd (.ListComp elt [⟨tg,iter,ifs,0⟩] csc cpos) (some (.Name y py)) spos.line X.env=pure true:=by rfl)
 (hf:X.fn y=true∨X.env.scope.names.lookup y=some .local:=by first|exact .inl rfl|exact .inr rfl|assumption)
 (hs:∀x,CP iter X.env x=pure x:=by intro _;rfl) :
 PS X (.Assign [.Name y py] (.ListComp elt [⟨tg,iter,ifs,0⟩] csc cpos) spos) (um (tj fr wi g ts fun acc=>pC acc te) (xl i)):=
 dw hc S hi (B:=fun acc env=>(do let _ ←call (.builtin "list.append") [acc,←eval elt env])) (YO elt tg iter ifs csc cpos) hg ht (fun C s0 H0 ex acc=>jB (he C s0 H0 ex)) hN hy hx hsw hf hs
end
end L2
end
section
namespace L2
open PySem PySem.Spec PyProof.Rows
section
variable {X:Cx}
theorem su:yI X (.builtin "isinstance") (fun xs H Q=>∃x c t b,xs=[x,.ty c]∧uG X.K H x (.type t)∧GC X.K (.type t) (.type c)=some b∧Q (.bl b) H):=by
 intro pins s σ H xs us Q I r h
 obtain⟨x,c,t,b,rfl,ty,e,q⟩:=h
 obtain⟨u,w',rfl,rx,rc⟩:=vals2 r
 cases (show w'=DX c from rc)
 exact j4 I rx ty e fun tk=>⟨.bl b,H,I.tok _,rfl,q⟩
end
inductive Kd where
 |non|bl|int|str|lst|tup|dct
 deriving DecidableEq
noncomputable def Kd.nm:Kd→String
 |.non=>"NoneType"|.bl=>"bool"|.int=>"int"|.str=>"str"|.lst=>"list"|.tup=>"tuple"|.dct=>"dict"
noncomputable def Kd.sub(a c:Kd):Bool:=decide (a=c)||(decide (a=.bl)&&decide (c=.int))
theorem Xm(K:Af)(a c:Kd)(hc:c≠.non):GC K (.type a.nm) (.type c.nm)=some (a.sub c):=by
 cases c with
 |non=>exact absurd rfl hc
 |bl=>cases a<;>rfl
 |int=>cases a<;>rfl
 |str=>cases a<;>rfl
 |lst=>cases a<;>rfl
 |tup=>cases a<;>rfl
 |dct=>cases a<;>rfl
section
variable {X:Cx}
theorem all_range:∀(bs:List Bool),((AE bs.length).all fun i=>bs.getD i false)=bs.all id:=by
 intro bs
 induction bs with
 |nil=>rfl
 |cons b bs ih=>
  rw[Ar,Eg,Dx,Dx,List.all_map]
  exact congrArg (b&&·) (GP (by congr 1) ih)
theorem Vals.bools:∀{bs:List Bool} {us:List Value},Vals (bs.map V.bl) us→us=bs.map Cz
 |[],us,r=>by cases r;rfl
 |b::bs,us,r=>by
  rw[AK]at r
  cases r with
  |cons r1 r2=>
   cases (show _=Cz b from r1)
   rw[Vals.bools r2,AK]
theorem sr(hc:X.calm=true):yI X (.builtin "all") (fun xs H Q=>∃(a:Addr) (bs:List Bool),xs=[.ref a]∧SqL X.K H a (bs.map V.bl)∧Q (.bl (bs.all id)) H):=by
 intro pins s σ H xs us Q I r h
 obtain⟨a,bs,rfl,ha,q⟩:=h
 obtain⟨u,rfl,ru⟩:=vals1 r
 cases ru
 obtain⟨its,rv,pl,hz⟩:=I.list ha
 have hits:=rv.bools
 have alt:a<s.heap.objs.size:=by obtain⟨o,ho,_⟩:=pl.isList;exact An ho
 refine call_all_walk (Dg pl.isList ?_)
 refine⟨s.heap.objs.size,_,_,_,_,_,fun i=>bs.getD i false,rfl,GQ (A:=X.A.in1) (I.ok.hd hc) s.heap.objs.size a (AD alt) its.toArray,⟨⟨_,Ay _ rfl,rfl,rfl⟩,?_⟩,?_,fun h' tk hk=>?_⟩
 . obtain⟨o,ho,hc',n,hd⟩:=pl.isList
   exact⟨o,Ad _ ho,hc',n,hd⟩
 . intro i v s' Q' E' hv hq
   have hv':(bs.map Cz)[i]?=some v:=by rw[←hits];simpa using hv
   rw[AQ]at hv'
   cases hb:bs[i]? with
   |none=>rw[hb]at hv';cases hv'
   |some b=>
    rw[hb]at hv'
    have:v=Cz b:=(AF hv').symm
    subst this
    have e:bs.getD i false=b:=by rw[Aw,hb];rfl
    have hq':Q' (bs.getD i false) s':=hq
    rw[e]at hq'
    exact Bv hq'
 . have e:(AE its.toArray.size).all (fun i=>bs.getD i false)=bs.all id:=by
    rw[Ah,hits,Ai];exact all_range bs
   rw[e]
   refine⟨.bl (bs.all id),H,I.kept fun b o ho=>hk b o ?_ (Ad _ ho),rfl,q⟩
   simpa using AD (An ho)
end
end L2
end
section
namespace L2
open PySem PySem.Spec PyProof.Rows
theorem cT{H:Hp}{p:Addr}(h:H p=none)(o:HO):xf H (upd H p o):=fun b u q=>by rw[zI (zR q h)];exact q
def tU(H:Hp)(ys:List V)(Q:VK):Prop:=∀p H',xf H H'→H' p=some (.tup ys)→Q (.ref p) H'
theorem tU.new{H:Hp}{ys:List V}{Q:VK}(g:tU H ys Q):∀p,H p=none→Q (.ref p) (upd H p (.tup ys)):=fun p hp=>g p _ (cT hp _) zN
noncomputable def Tp:V→Option Int→Option Int→Hp→VK→Prop:=fun x lo hi H Q=>∃a xs,x=.ref a∧H a=some (.tup xs)∧tU H (qI xs lo hi) Q
noncomputable def Ue:R2:=fun x y H Q=>∃a b xs ys,x=.ref a∧y=.ref b∧H a=some (.tup xs)∧H b=some (.tup ys)∧xs.length+ys.length≤AB∧tU H (xs++ys) Q
noncomputable def Uk:R2:=fun x y H Q=>∃a k xs,x=.ref a∧y=.int k∧H a=some (.tup xs)∧2≤k∧k≤1000∧xs≠[]∧xs.length≤1000∧tU H (Az k.toNat xs).flatten Q
section
variable {X:Cx}
theorem js{t sl:Addr}{items:Array Value}{vl vu:Value}{lo hi:Option Int}{Q:Value→Shared→Prop}{A:Around}{E:Value→Shared→Prop}{s:Shared}{prog:Program}{w:World}(ht:IsTup s.heap t items)(hs:s.heap.IsSliceOf sl vl vu .none)(pl:IsPart vl lo)(pu:IsPart vu hi)
 (h0:HT.sIx items.size 0 lo=0) (h1:HT.sIx items.size items.size hi=items.size) (h:Q (.ref t) s):wpAny (model prog w) A (getItem (.ref t) (.ref sl)) Q E s:=by
 obtain⟨os,hos,hcs,hds⟩:=id hs
 have hTs:s.TypeIs (.ref sl) "slice":=⟨os,hos,hcs⟩
 unfold getItem
 try with_reducible refine BV ?_
 first|refine Ac (Al ?_)|skip
 refine Ac (FJ ht.typeIs (by decide) ?_)
 refine Ac (Cq (name:=Dj "__getitem__") ht.typeIs A1
  (Dp A1 ht.typeIs EX ?_ (Ff _ _)))
 show wpAny _ _ (Dw (.ref t) >>= _) _ _ s
 refine Ac (El ht ?_)
 refine Ac (EK hTs ?_)
 rw[if_pos (by decide)]
 refine Ac (HT.wd hs pl pu ?_)
 have hyes:(((HT.sIx items.size 0 lo:Nat):Int) == 0&&(1:Int) == 1&&(HT.sIx items.size items.size hi-HT.sIx items.size 0 lo) == items.size)=true:=by
  rw[h0,h1];simp
 show wpAny _ _ (if (((HT.sIx items.size 0 lo:Nat):Int) == 0&&(1:Int) == 1&&(HT.sIx items.size items.size hi-HT.sIx items.size 0 lo) == items.size)=true then _ else _) _ _ s
 rw[if_pos hyes]
 unfold Fw
 refine Ac (Ac (EK ht.typeIs (Al ?_)))
 rw[if_pos (by decide)]
 exact Ac (EH (Al ⟨_,rfl,Al h⟩))
theorem ZN:SlR X Tp:=by
 intro pins s σ H x v vl vu lo hi sl Q I rx hs pl pu h
 obtain⟨a,xs,rfl,hx,g⟩:=h
 by_cases hw:HT.sIx xs.length 0 lo=0∧HT.sIx xs.length xs.length hi=xs.length
 . cases rx
   obtain⟨its,r,ht,hz⟩:=I.tuple (.inl (.inl hx))
   have hlen:its.toArray.size=xs.length:=by rw[Ah];exact r.length.symm
   refine⟨"tuple",_,A1.lookup,ht.typeIs,?_⟩
   refine js ht hs pl pu (by rw[hlen];exact hw.1) (by rw[hlen];exact hw.2) ⟨.ref a,H,I,rfl,g a H (xf.refl H) ?_⟩
   rw[hx]
   unfold qI
   rw[hw.1,hw.2,Dk,Nat.sub_zero,List.take_length]
 . exact Wr pins s σ H (.ref a) v vl vu lo hi sl Q I rx hs pl pu ⟨a,xs,rfl,.inl (.inl hx),hw,g.new⟩
theorem dA:OpR X (BA .Add) Ue:=by
 intro pins s σ H x y v u Q I rx ry h
 obtain⟨a,b,xs,ys,rfl,rfl,ha,hb,hz,g⟩:=h
 by_cases hx:xs=[]
 . cases rx
   cases ry
   subst hx
   obtain⟨its,r1,p1,_⟩:=I.tuple (.inl (.inl ha))
   obtain⟨its2,r2,p2,_⟩:=I.tuple (.inl (.inl hb))
   cases r1
   obtain⟨⟨cls,dd,data,sl⟩,ho,hc,n,hd⟩:=id p1
   obtain⟨⟨cls2,dd2,data2,sl2⟩,ho2,hc2,n2,hd2⟩:=id p2
   simp only at hc hd hc2 hd2
   subst hc hd hc2 hd2
   exact concat_meets ⟨_,ho,rfl⟩ ⟨_,ho2,rfl⟩ FZ GV Ef D7 (DL _ _)
    (tuple_addW0 a b #[] its2.toArray n n2 dd dd2 sl sl2 rfl) ⟨ho,ho2,⟨.ref b,H,I,rfl,g b H (xf.refl H) hb⟩⟩
 . refine aj pins s σ H (.ref a) (.ref b) v u Q I rx ry ⟨a,b,xs,ys,rfl,rfl,.inl (.inl ha),.inl (.inl hb),hx,hz,fun e=>?_,fun _=>g.new⟩
   subst e
   rw[AY]at g
   exact g a H (xf.refl H) ha
theorem xH:fillsNumberSlot (.type "tuple") "mul"=pure false:=
 PySem.fillsNumberSlot_seq (id:="tuple.__mul__") (r:=some (.builtin "tuple.__rmul__")) Dq.lookup (by decide +kernel) F.slot_tuple_rmul.lookup (by decide +kernel)
theorem w6:seqRepeat? (.type "tuple")=pure (some (.builtin "tuple.__mul__")):=by
 unfold seqRepeat?
 rw[PySem.seqSlot_of (T:="tuple") (name:="__mul__") (id:="tuple.__mul__") Dq.lookup (by decide +kernel),PySem.seqSlot_of (T:="tuple") (name:="__rmul__") (id:="tuple.__rmul__") F.slot_tuple_rmul.lookup (by decide +kernel)]
 rfl
theorem xm(a:Int)(t:Tok)(l:Addr)(items:Array Value)(n:Nat)(dd:Option Addr)(sl:Array (Option Value)) :
 Meets (Builtin.«int.__rmul__» ⟨[.int a t,.ref l],[]⟩) (fun _ R s=>s.heap.get? l=some {cls:=.type "tuple",dict:=dd,data:=.seq items n,slots:=sl}∧R (.ok (.ret Value.notImplemented)) s):=
 .of_wp fun prog w A R s h=>by obtain⟨hp,g,d,tk,os⟩:=s;obtain⟨hl,h⟩:=h;wp_walk;exact⟨_,rfl,h⟩
theorem kF(l:Addr)(items:Array Value)(n:Nat)(x:Int)(u:Tok)(dd:Option Addr)(sl:Array (Option Value))(h1:2≤x)(h2:x≤1000)(h3:¬items.isEmpty=true)(h4:items.size≤1000) :
 Meets (Builtin.«tuple.__mul__» ⟨[.ref l,.int x u],[]⟩) (fun _ R s=>s.heap.get? l=some {cls:=.type "tuple",dict:=dd,data:=.seq items n,slots:=sl} ∧
  R (.ok (.ret (A0 s.heap.objs.size))) {s with heap:=s.heap.push {cls:=DX "tuple",data:=Data.seq (D0 (fun x1 x2=>x1++x2) #[] (Az x.toNat items))},toks:=s.toks}):=
 .of_wp fun prog w A R s h=>by
  obtain⟨hp,g,d,tk,os⟩:=s;obtain⟨hl,h⟩:=h
  have f1:=F6
  have c1:¬((decide (x < -(2 ^ 63))||decide (x ≥ 2 ^ 63))=true):=by simp;omega
  have c2:¬((items.isEmpty||x == 1)=true):=by simp at h3 ⊢;exact⟨h3,by omega⟩
  have c3:¬((decide (x≤0)||items.isEmpty)=true):=by simp at h3 ⊢;exact⟨by omega,h3⟩
  have hprod:(items.size:Int)*x≤1000*1000:=Int.mul_le_mul (by omega) h2 (by omega) (by omega)
  have c4:¬((items.size:Int)*x > (2 ^ 63-1)/8):=by omega
  have hL:AB=16777216:=A2
  have c5:¬(Dz ((items.size:Int)*x)=true):=by
   unfold Dz
   rw[hL]
   simp only[decide_eq_true_eq]
   omega
  have hn:(D0 (fun x1 x2=>x1++x2) #[] (Az x.toNat items)).size=x.toNat*items.size:=by
   have e:=foldl_rep items.toList x.toNat []
   simp only[Array.toArray_toList,DF]at e
   rw[e,Ah,len_rep,Cr]
  have htake:sizeOk (.seq (D0 (fun x1 x2=>x1++x2) #[] (Az x.toNat items))):=by
   show (D0 (fun x1 x2=>x1++x2) #[] (Az x.toNat items)).size≤AB
   rw[hn,hL]
   have:x.toNat*items.size≤1000*1000:=D1 (by omega) h4
   omega
  wp_walk using Bs hl
  rw[if_neg c1]
  refine Ac (El (items:=items) ⟨_,hl,rfl,n,rfl⟩ ?_)
  rw[if_neg c2]
  show wpAny _ _ (if (decide (x≤0)||items.isEmpty)=true then _ else _) _ _ _
  rw[if_neg c3]
  show wpAny _ _ (if (items.size:Int)*x > (2 ^ 63-1)/8 then _ else _) _ _ _
  rw[if_neg c4]
  show wpAny _ _ (if Dz ((items.size:Int)*x)=true then _ else _) _ _ _
  rw[if_neg c5]
  exact Ac (m:=Bt _) (Be (Al ⟨_,rfl,h⟩) htake)
theorem au:OpR X (BA .Mult) Uk:=by
 intro pins s σ H x y v u Q I rx ry h
 obtain⟨a,k,xs,rfl,rfl,ha,h1,h2,h3,h4,g⟩:=h
 cases rx
 obtain⟨t,rfl⟩:=ry
 obtain⟨its,r,p1,_⟩:=I.tuple (.inl (.inl ha))
 obtain⟨⟨cls,dd,data,sl⟩,ho,hc,n,hd⟩:=id p1
 simp only at hc hd
 subst hc hd
 have hl:=r.length
 have hne:¬its.toArray.isEmpty=true:=by
  simp
  intro e
  exact h3 (r.uW.mp e)
 refine CU (T:="tuple") (U:="int") (by decide) ⟨_,ho,rfl⟩ (fun s'=>C7 s' k t) xH EL Cf w6 Es.lookup
  (CB Cf (C7 s k t) Et (Eb _ _) (xm k t a its.toArray n dd sl)
   ⟨ho,rfl,⟨_,ho,rfl⟩,CB Dq ⟨_,ho,rfl⟩ FN (Fh _ _) (kF a its.toArray n k t dd sl h1 h2 hne (by rw[Ah,←hl];exact h4)) ⟨ho,?_⟩⟩)
 have e:=foldl_rep its k.toNat []
 rw[DF]at e
 have hz:(Az k.toNat xs).flatten.length≤AB:=by
  rw[len_rep,A2]
  have:k.toNat*xs.length≤1000*1000:=D1 (by omega) h4
  omega
 refine⟨.ref s.heap.objs.size,_,I.laid (t':=s.toks) (o:=.tup (Az k.toNat xs).flatten) (fun b ob q=>Ad _ q) (Ag _) ⟨hz,(Az k.toNat its).flatten,r.rep k.toNat,?_⟩,rfl,g.new _ (I.hok.fresh (Ag _))⟩
 rw[show (#[]:Array Value)=([]:List Value).toArray from rfl,e]
 exact ux.new _ _
end
end L2
end
section
namespace L2
open PySem PySem.Spec PyProof.Rows
section
variable {X:Cx}{pos:Pos}
noncomputable def YM(i j k:Nat)(ta:TA):TS:=fun D σ H=>ta σ H fun vs H1=>∃v w z,vs=[v,w,z]∧D.nx (((σ.set i (some v)).set j (some w)).set k (some z)) H1
theorem vals3{x y z:V}{us:List Value}(r:Vals [x,y,z] us):∃u1 u2 u3,us=[u1,u2,u3]∧RelV x u1∧RelV y u2∧RelV z u3:=by
 cases r with
 |cons r1 r2=>
  cases r2 with
  |cons r3 r4=>
   cases r4 with
   |cons r5 r6=>cases r6;exact⟨_,_,_,rfl,r1,r3,r5⟩
theorem ZI{i j k:Nat}{x y z:Str}{a b c:Expr}{ta:TA}{px py pz pt:Pos}{kt k2 pt2}(hc:X.calm=true)(hN:X.N.Nodup)(hi:X.N[i]?=some x)(hj:X.N[j]?=some y)(hk:X.N[k]?=some z)(hij:i≠j)(hik:i≠k)(hjk:j≠k)
 (hx:X.env.scope.names.lookup x=some .local) (hy:X.env.scope.names.lookup y=some .local) (hz:X.env.scope.names.lookup z=some .local) (ha:PA X [a,b,c] ta)
 (hw:B1 [.Tuple [.Name x px,.Name y py,.Name z pz] kt pt] (.Tuple [a,b,c] k2 pt2) X.env=pure (some [x,y,z]))
 (hs:Ek [.Tuple [.Name x px,.Name y py,.Name z pz] kt pt] (.Tuple [a,b,c] k2 pt2) pos.line X.env=pure false:=by rfl) :
 PS X (.Assign [.Tuple [.Name x px,.Name y py,.Name z pz] kt pt] (.Tuple [a,b,c] k2 pt2) pos) (YM i j k ta):=by
 intro pins s σ H D I h
 rw[exec_Assign_arm]
 refine Ac (BL ?_)
 rw[hs]
 refine Ac (Al ?_)
 rw[if_neg (by decide)]
 refine Ac (Tuple_ (thn (ha _ pins s σ H _ I h) fun us s1 ⟨vs,H1,I1,r1,q1⟩=>?_))
 obtain⟨v,w,zz,e1,q1⟩:=q1
 subst e1
 obtain⟨u1,u2,u3,rfl,rv,rw',rz⟩:=vals3 r1
 refine Be ?_ (by show 3≤AB;decide)
 have I2:Inv X pins σ H1 {s1 with heap:=s1.heap.push {cls:=.type "tuple",data:=.seq [u1,u2,u3].toArray}}:=I1.kept (t':=s1.toks) fun b o e=>Ad _ e
 rw[hw]
 refine Ac (Al ?_)
 show wpAny (model X.prog X.w) X.A (do rule "assign.swapped-stores";let items ←unpackItems (.ref s1.heap.objs.size) 3 none;Ej [fun v=>Dc X.env z v,fun v=>Dc X.env y v,fun v=>Dc X.env x v] items.reverse;pure GX) _ _ _
 refine Ac (EH (Ac (unpackItems_tuple (items:=#[u1,u2,u3]) (I.ok.hd hc) (IsTup.new s1.heap _) fun h' hx'=>?_)))
 have I3:=I2.kept (h':=h') (t':=s1.toks) fun b o e=>hx' b o (AD (An e)) e
 show wpAny _ _ (Ej [fun v=>Dc X.env z v,fun v=>Dc X.env y v,fun v=>Dc X.env x v] [u3,u2,u1] >>= fun _=>pure GX) _ _ _
 refine Ac (CC (DY (xQ I3 hN hk (.inl hz) rz (fun s2 I4=>?_) (.inr hz))))
 refine CC (DY (xQ I4 hN hj (.inl hy) rw' (fun s3 I5=>?_) (.inr hy)))
 refine CC (DY (xQ I5 hN hi (.inl hx) rv (fun s4 I6=>FH (Al ?_)) (.inr hx)))
 refine⟨_,H1,?_,q1⟩
 have e:((σ.set k (some zz)).set j (some w)).set i (some v)=((σ.set i (some v)).set j (some w)).set k (some zz):=by
  rw[Ft _ _ (Bp hij),Ft _ _ (Bp hik),Ft _ _ (Bp hjk)]
 rw[←e]
 exact I6
theorem a9(hb:∀(pins:List (Addr × Obj)) (σ:St) (H:Hp) (s:Shared),Inv X pins σ H s→B0<s.heap.objs.size):PE X (.Dict [] [] pos) (fun _ H Q=>∀p,H p=none→Q (.ref p) (upd H p (.dK []))):=fun pins s σ H Q I h=>
 F7 ⟨.ref s.heap.objs.size,_,I.laid (a:=s.heap.objs.size) (o:=.dK []) (t':=s.toks) (fun _ _ q=>Ad _ q) (Ag _)
  ⟨A8 _,beq_eq_false_iff_ne.mpr (Bp (AD (hb pins σ H s I))),[],.nil,Heap.DictOf.new s.heap⟩,rfl,h _ (I.hok.fresh (Ag _))⟩
end
end L2
namespace L2
open PySem PySem.Spec PyProof.Rows
mutual
inductive DD(H:Hp)(p:Addr):V→PyData→Prop
 |non:DD H p .non .none
 |bl (b:Bool):DD H p (.bl b) (.bool b)
 |int (i:Int):DD H p (.int i) (.int i)
 |str (x:Str):DD H p (.str x) (.str x)
 |lst {a:Addr} {xs:List V} {ds:List PyData}:H a=some (.lst xs)→a≠p→DDs H p xs ds→DD H p (.ref a) (.list ds)
 |tup {a:Addr} {xs:List V} {ds:List PyData}:H a=some (.tup xs)→a≠p→DDs H p xs ds→DD H p (.ref a) (.tuple ds)
 |dct {a:Addr}:H a=some (.dK [])→a≠p→DD H p (.ref a) (.dict [])
inductive DDs(H:Hp)(p:Addr):List V→List PyData→Prop
 |nil:DDs H p [] []
 |cons {x:V} {xs:List V} {d:PyData} {ds:List PyData}:DD H p x d→DDs H p xs ds→DDs H p (x::xs) (d::ds)
end
theorem DDs.length{H:Hp}{p:Addr}:∀{vs:List V} {ds:List PyData},DDs H p vs ds→vs.length=ds.length
 |_,_,.nil=>rfl
 |_,_,.cons _ rs=>by rw[Ar,Ar,rs.length]
theorem DDs.append{H:Hp}{p:Addr}:∀{vs ws:List V} {ds es:List PyData},DDs H p vs ds→DDs H p ws es→DDs H p (vs++ws) (ds++es)
 |_,_,_,_,.nil,r=>r
 |_,_,_,_,.cons r rs,q=>.cons r (rs.append q)
mutual
noncomputable def yw:PyData→Bool
 |.none|.bool _|.int _|.str _=>false
 |.list _=>true
 |.tuple xs=>xD xs
 |.dict _=>false
noncomputable def xD:List PyData→Bool
 |[]=>false
 |x::xs=>yw x||xD xs
end
structure Zm(d:PyData):Prop where
 sh:d.showable=true
 mix:d.hasDict=true→yw d=false
 dp:d.depth≤50
 ln:d.shown.length≤AB
end L2
end
section
namespace L2
open PySem PySem.Spec PyProof.Rows
structure vp(k w:Nat)(d:PyData):Prop where
 sh:d.showable=true
 lf:d.leavesShort 40=true
 dp:d.depth≤k
 wt:d.weight≤w
theorem vp.mono{k w k' w':Nat}{d:PyData}(h:vp k w d)(h1:k≤k')(h2:w≤w'):vp k' w' d:=⟨h.sh,h.lf,Ax h.dp h1,Ax h.wt h2⟩
theorem eQ{i:Int}(h1:-(10 ^ 30)<i)(h2:i<10 ^ 30):vp 0 100 (.int i):=by
 have hn:i.natAbs<10 ^ 30:=by omega
 have h100:i.natAbs<2 ^ 100:=Nat.lt_trans hn (by decide)
 have hlog:i.natAbs≠0→i.natAbs.log2<100:=fun z=>(Nat.log2_lt z).mpr h100
 refine⟨?_,?_,A8 _,?_⟩
 . show decide (i.natAbs.log2<1920)=true
   by_cases z:i.natAbs=0
   . rw[z];decide
   . exact decide_eq_true (Nat.lt_trans (hlog z) (by decide))
 . show decide ((PyData.shown (.int i)).length≤40)=true
   refine decide_eq_true ?_
   show (Dj (DP i)).length≤40
   by_cases z:0≤i
   . exact Ax (toString_length_le z (k:=30) (by decide) h2) (by decide)
   . have e:=len_text_negI (n:=i) (by omega)
     have e2:=toString_length_le (v:=0-i) (k:=30) (by omega) (by decide) (by omega)
     omega
 . show (if i == 0 then 0 else i.natAbs.log2+1)≤100
   split
   . exact A8 _
   . rename_i z
     have z':i≠0:=by simpa using z
     exact hlog (by omega)
theorem iG:vp 0 0 .none:=⟨rfl,rfl,Ag _,Ag _⟩
theorem iF(b:Bool):vp 0 0 (.bool b):=⟨rfl,rfl,Ag _,Ag _⟩
theorem uH:∀{ds:List PyData},(∀d∈ds,d.showable=true)→PyData.showableAll ds=true
 |[],_=>rfl
 |d::ds,h=>by rw[PyData.showableAll,h d Av,uH fun x hx=>h x (Ao _ hx)];rfl
theorem qW:∀{ds:List PyData},(∀d∈ds,d.leavesShort 40=true)→PyData.leavesShortAll 40 ds=true
 |[],_=>rfl
 |d::ds,h=>by rw[PyData.leavesShortAll,h d Av,qW fun x hx=>h x (Ao _ hx)];rfl
theorem qV{k:Nat}:∀{ds:List PyData},(∀d∈ds,d.depth≤k)→PyData.depthAll ds≤k
 |[],_=>A8 _
 |d::ds,h=>by rw[PyData.depthAll];exact Nat.max_le.mpr ⟨h d Av,qV fun x hx=>h x (Ao _ hx)⟩
theorem se{w:Nat}:∀{ds:List PyData},(∀d∈ds,d.weight≤w)→F8 ds≤ds.length*(w+1)
 |[],_=>by simp[F8]
 |d::ds,h=>by
  rw[F8,Ar,DN]
  have h1:=h d Av
  have h2:=se fun x hx=>h x (Ao _ hx)
  omega
theorem lA{k w n:Nat}{ds:List PyData}(h:∀d∈ds,vp k w d)(hn:ds.length≤n):vp (k+1) (n*(w+1)) (.tuple ds):=by
 refine⟨uH fun d hd=>(h d hd).sh,qW fun d hd=>(h d hd).lf,Nat.succ_le_succ (qV fun d hd=>(h d hd).dp),?_⟩
 exact Ax (se fun d hd=>(h d hd).wt) (Dr _ hn)
theorem eS{x:Str}(h1:∀c∈x.cps.toList,c<16 ^ 8)(h2:x.cps.size≤100):vp 0 100 (.str x):=by
 refine⟨rfl,?_,A8 _,h2⟩
 show (x.cps.toList.all fun c=>decide (c<16 ^ 8))=true
 rw[AI]
 exact fun c hc=>decide_eq_true (h1 c hc)
theorem vp.Us{k w:Nat}{d:PyData}(h:vp k w d)(hk:k≤50)(hw:w≤300000)(mix:d.hasDict=true→yw d=false):Zm d:=by
 refine⟨h.sh,mix,Ax h.dp hk,?_⟩
 have e:=PyData.shown_le 40 (by decide) d h.lf
 have e2:=h.wt
 rw[A2]
 have:(40+2)*d.weight≤42*300000:=EY _ (Ax e2 hw)
 omega
theorem qw:∀{ds:List PyData},(∀d∈ds,d.hasDict=false)→PyData.hasDictAll ds=false
 |[],_=>rfl
 |d::ds,h=>by rw[PyData.hasDictAll,h d Av,qw fun x hx=>h x (Ao _ hx)];rfl
end L2
end
section
namespace L2
open PySem PySem.Spec PyProof.Rows
section
variable {X:Cx}{pos:Pos}
theorem US{x:Str}{n:String}(hg:Gl X x)(hm:X.mg x=none)(hv:Ca x=some (.type n))(hn:x≠"__name__":=by decide)(hd:(x == ("__debug__":Str))=false:=by decide):PE X (.Name x pos) (tC (.ty n)):=
 a0 hg hm hv (show RelV (.ty n) (.type n) from rfl) hn hd
theorem UZ{a b:Expr}{rest:List Expr}{tA tB':TT}(ha:PT X a tA)(hb:PW X (.BoolOp .Or (b::rest) pos) tB'):PT X (.BoolOp .Or (a::b::rest) pos) (tOr tA tB'):=(Ub ha hb).pt
noncomputable def noStar:Expr→Bool
 |.Starred ..=>false
 |_=>true
theorem zm{e:Expr}{es:List Expr}{env:Env}(h:noStar e=true):AM (e::es) env=(false,eval e env)::AM es env:=by
 cases e<;>first|rfl|cases h
theorem pac{X:Cx}{e:Expr}{es:List Expr}{te:TE}{t:TA}(ha:PE X e te)(hr:PA X es t)(hs:noStar e=true:=by rfl):PA X (e::es) (vD te t):=xY ha hr (zm hs)
noncomputable def mr(sc0:Scope)(N0 N:List Str)(csc:Scope)(fr:List (Option Nat)):Bool:=
 decide (csc.kind=.function)&&csc.names.all (fun x=>decide (x.2≠.cell)||csc.names.all fun y=>decide (y≠(x.1,AH)))&&csc.names.all (fun x=>decide (x.2≠.local)||decide (csc.names.lookup x.1=some .local)) &&
 csc.names.all (fun x=>decide (x.2≠.free)||(decide (sc0.names.lookup x.1=some .cell)||decide (sc0.names.lookup x.1=some .free)))&&decide (fr.length=N.length) &&
 (AE N.length).all (fun i=>match fr[i]?,N[i]? with|some (some j),some x=>decide (N0[j]?=some x)&&csc.names.any (fun y=>decide (y.1=x)&&decide (y.2=.free))|_,_=>true) &&
 csc.names.all (fun x=>decide (x.2≠.free)||decide (csc.names.lookup x.1≠some .local))&&decide (("!":Str) ∉ N)
end
end L2
end
section
namespace L2
open PySem PySem.Spec PyProof.Rows
noncomputable def zv{α:Type}(xs:List α)(lo st:Int)(n:Nat):List α:=(AE n).filterMap fun(k:Nat)=>xs[(lo+(k:Int)*st).toNat]?
theorem Vals.pick{xs:List V}{us:List Value}(r:Vals xs us):∀(is:List Nat),Vals (is.filterMap fun i=>xs[i]?) (is.filterMap fun i=>us[i]?)
 |[]=>.nil
 |i::is=>by
  rw[A3,A3]
  cases hx:xs[i]? with
  |none=>rw[r.none_of hx];exact Vals.pick r is
  |some x=>
   obtain⟨u,hu,ru⟩:=r.get hx
   rw[hu]
   exact .cons ru (Vals.pick r is)
theorem Vals.zv{xs:List V}{us:List Value}(r:Vals xs us)(lo st:Int)(n:Nat):Vals (zv xs lo st n) (L2.zv us lo st n):=by
 have h:=r.pick ((AE n).map fun(k:Nat)=>(lo+(k:Int)*st).toNat)
 rw[B5,B5]at h
 exact h
theorem n5{α:Type}(xs:List α)(lo st:Int)(n:Nat):(zv xs lo st n).length≤n:=by
 have:=F9 (fun(k:Nat)=>xs[(lo+(k:Int)*st).toNat]?) (AE n)
 rw[BD]at this
 exact this
noncomputable def yQ(n:Nat)(lo hi:Option Int)(st:Int):Int × Nat:=((BP lo hi st (n:Int)).1,B8 (BP lo hi st (n:Int)).1 (BP lo hi st (n:Int)).2 st)
section
variable {prog:Program}{w:World}{A:Around}{E:Value→Shared→Prop}{s:Shared}
theorem qN{sl:Addr}{vl vu vc:Value}{lo hi:Option Int}{st:Int}{n:Nat}{Q:Int × Int × Nat→Shared→Prop}(hs:s.heap.IsSliceOf sl vl vu vc)(pl:IsPart vl lo)(pu:IsPart vu hi)(pc:IsPart vc (some st))(h0:st≠0)
 (h:Q ((yQ n lo hi st).1,st,(yQ n lo hi st).2) s):wpAny (model prog w) A (CN (.ref sl) (pure (n:Int))) Q E s:=by
 obtain⟨os,hos,hcs,hds⟩:=id hs
 unfold CN FT
 refine Ac (Ac (CA hos hds (x:=vl) rfl (Ac (CA hos hds (x:=vu) rfl (Ac (CA hos hds (x:=vc) rfl (Al ?_)))))))
 refine Ac (HT.x8 pc ?_)
 show wpAny _ _ (if (st == 0)=true then _ else _) _ _ s
 rw[if_neg (by simpa using h0)]
 exact Ac (HT.x8 pl (Ac (HT.x8 pu (Ac (Al (Al h))))))
theorem bF{t sl:Addr}{items:Array Value}{vl vu vc:Value}{lo hi:Option Int}{st:Int}{Q:Value→Shared→Prop}(ht:IsTup s.heap t items)(hs:s.heap.IsSliceOf sl vl vu vc)(pl:IsPart vl lo)(pu:IsPart vu hi)(pc:IsPart vc (some st))(h0:st≠0)
 (hq1:(yQ items.size lo hi st).1=0→st=1→(yQ items.size lo hi st).2=items.size→Q (.ref t) s)
 (hq2:Q (.ref s.heap.objs.size) {s with heap:=s.heap.push {cls:=.type "tuple",data:=.seq (zv items.toList (yQ items.size lo hi st).1 st (yQ items.size lo hi st).2).toArray}})
 (hsz:(yQ items.size lo hi st).2≤AB):wpAny (model prog w) A (getItem (.ref t) (.ref sl)) Q E s:=by
 obtain⟨os,hos,hcs,hds⟩:=id hs
 have hTs:s.TypeIs (.ref sl) "slice":=⟨os,hos,hcs⟩
 have htake:sizeOk (.seq (zv items.toList (yQ items.size lo hi st).1 st (yQ items.size lo hi st).2).toArray):=by
  show (zv items.toList (yQ items.size lo hi st).1 st (yQ items.size lo hi st).2).toArray.size≤AB
  rw[Ah]
  exact Ax (n5 _ _ _ _) hsz
 have epick:((AE (yQ items.size lo hi st).2).filterMap fun(k:Nat)=>items[((yQ items.size lo hi st).1+(k:Int)*st).toNat]?).toArray=(zv items.toList (yQ items.size lo hi st).1 st (yQ items.size lo hi st).2).toArray:=by
  unfold zv
  simp only[Array.getElem?_toList]
 unfold getItem
 try with_reducible refine BV ?_
 first|refine Ac (Al ?_)|skip
 refine Ac (FJ ht.typeIs (by decide) ?_)
 refine Ac (Cq (name:=Dj "__getitem__") ht.typeIs A1
  (Dp A1 ht.typeIs EX ?_ (Ff _ _)))
 show wpAny _ _ (Dw (.ref t) >>= _) _ _ s
 refine Ac (El ht ?_)
 refine Ac (EK hTs ?_)
 rw[if_pos (by decide)]
 refine Ac (qN (n:=items.size) hs pl pu pc h0 ?_)
 by_cases hw:((yQ items.size lo hi st).1 == 0&&st == 1&&(yQ items.size lo hi st).2 == items.size)=true
 . show wpAny _ _ (if ((yQ items.size lo hi st).1 == 0&&st == 1&&(yQ items.size lo hi st).2 == items.size)=true then _ else _) _ _ s
   rw[if_pos hw]
   simp only[Aa,beq_iff_eq]at hw
   unfold Fw
   refine Ac (Ac (EK ht.typeIs (Al ?_)))
   rw[if_pos (by decide)]
   exact Ac (EH (Al ⟨_,rfl,Al (hq1 hw.1.1 hw.1.2 hw.2)⟩))
 . show wpAny _ _ (if ((yQ items.size lo hi st).1 == 0&&st == 1&&(yQ items.size lo hi st).2 == items.size)=true then _ else _) _ _ s
   rw[if_neg hw,epick]
   first
    |exact Ac (m:=Bt _) (Be (Al ⟨_,rfl,Al hq2⟩) htake)
    |exact Ac (Ac (m:=Bt _) (Be (Al ⟨_,rfl,Al hq2⟩) htake))
end
theorem n6{α:Type}:∀xs:List α,(AE xs.length).filterMap (fun k=>xs[k]?)=xs
 |[]=>rfl
 |x::xs=>by
  rw[Ar,Eg,A3,B5]
  show x::_=_
  refine congrArg (x::·) (GP ?_ (n6 xs))
  congr 1
theorem lW{α:Type}(xs:List α):zv xs 0 1 xs.length=xs:=by
 unfold zv
 have e:(fun(k:Nat)=>xs[(0+(k:Int)*1).toNat]?)=fun k=>xs[k]?:=by
  funext k
  rw[show (0+(k:Int)*1).toNat=k by omega]
 rw[e]
 exact n6 xs
noncomputable def Tq:V→Option Int→Option Int→Option Int→Hp→VK→Prop:=fun x lo hi st H Q=>∃a xs c,x=.ref a∧H a=some (.tup xs)∧st=some c∧c≠0∧(yQ xs.length lo hi c).2≤AB∧tU H (zv xs (yQ xs.length lo hi c).1 c (yQ xs.length lo hi c).2) Q
noncomputable def U4(r:V→Option Int→Option Int→Option Int→Hp→VK→Prop)(te:TE)(tl th tc:TO):TE:=fun σ H Q=>te σ H fun x H1=>tl σ H1 fun l H2=>th σ H2 fun u H3=>tc σ H3 fun c H4=>r x l u c H4 Q
theorem ip{X:Cx}{e:Expr}{te:TE}{lo hi:Option Expr}{st:Expr}{tl th tc:TO}{pos p2:Pos}(he:PE X e te)(hl:PO X lo tl)(hu:PO X hi th)(hc:PO X (some st) tc):PE X (.Subscript e (.Slice lo hi (some st) p2) pos) (U4 Tq te tl th tc):=by
 intro pins s σ H Q I h
 refine GN (thn (he pins s σ H _ I h) fun v s1 ⟨x,H1,I1,r1,q1⟩=>?_)
 refine wpAny_Slice (thn (hl pins s1 σ H1 _ I1 q1) fun vl s2 ⟨l,H2,I2,pl,q2⟩=>thn (hu pins s2 σ H2 _ I2 q2) fun vu s3 ⟨u,H3,I3,pu,q3⟩=>thn (hc pins s3 σ H3 _ I3 q3) fun vc s4 ⟨c,H4,I4,pc,q4⟩=>?_)
 obtain⟨a,xs,cc,rfl,hx,ec,h0,hsz,g⟩:=q4
 subst ec
 cases r1
 have I5:Inv X pins σ H4 {s4 with heap:=s4.heap.push {cls:=.type "slice",data:=.fields #[vl,vu,vc]}}:=I4.kept (t':=s4.toks) fun b ob q=>Ad _ q
 obtain⟨its,r,ht,hz⟩:=I5.tuple (.inl (.inl hx))
 have hlen:its.toArray.size=xs.length:=by rw[Ah];exact r.length.symm
 show wpAny (model X.prog X.w) X.A (Fv e (.Slice lo hi (some st) p2) (.ref a) (.ref s4.heap.objs.size)) (EP X pins σ Q) X.xe {s4 with heap:=s4.heap.push {cls:=.type "slice",data:=.fields #[vl,vu,vc]}}
 refine tail_any (ops:=[.ref a,.ref s4.heap.objs.size]) ht.typeIs A1.lookup (bF ht (Fg ..) pl pu pc h0 (fun z1 z2 z3=>?_) ?_ (by rw[hlen];exact hsz)) (by with_unfolding_all rfl)
 . refine⟨.ref a,H4,I5,rfl,g a H4 (xf.refl H4) ?_⟩
   rw[hlen]at z1 z3
   rw[hx,z1,z3,z2,lW]
 . rw[hlen]
   refine⟨.ref _,_,I5.laid (t':=s4.toks) (o:=.tup (zv xs (yQ xs.length l u cc).1 cc (yQ xs.length l u cc).2)) (fun b ob q=>Ad _ q) (Ag _) ?_,rfl,g.new _ (I5.hok.fresh (Ag _))⟩
   refine⟨Ax (n5 _ _ _ _) hsz,_,r.zv _ _ _,?_⟩
   exact ux.new _ _
end L2
end
section
namespace L2
open PySem PyProof.Rows
section
variable {X:Cx}
noncomputable def vB(d:Int):List Int→Int
 |[]=>d
 |n::ns=>ns.foldl (fun a b=>if b > a then b else a) n
theorem rE:∀(ns:List Int) (a:Int),a≤ns.foldl (fun a b=>if b > a then b else a) a∧(∀x∈ns,x≤ns.foldl (fun a b=>if b > a then b else a) a)∧(ns.foldl (fun a b=>if b > a then b else a) a=a∨ns.foldl (fun a b=>if b > a then b else a) a∈ns)
 |[],a=>⟨Int.le_refl _,fun _ h=>(nomatch h),.inl rfl⟩
 |n::ns,a=>by
  obtain⟨h1,h2,h3⟩:=rE ns (if n > a then n else a)
  show a≤ns.foldl _ (if n > a then n else a)∧_
  have hc:a≤(if n > a then n else a)∧n≤(if n > a then n else a):=by split<;>omega
  refine⟨Ga hc.1 h1,fun x hx=>?_,?_⟩
  . rcases Ak.mp hx with e|hx
    . rw[e];exact Ga hc.2 h1
    . exact h2 x hx
  . rcases h3 with h3|h3
    . show ns.foldl _ (if n > a then n else a)=a∨ns.foldl _ (if n > a then n else a)∈n::ns
      rw[h3]
      split
      . exact .inr (Av ..)
      . exact .inl rfl
    . exact .inr (Ao _ h3)
theorem lH{d:Int}{ns:List Int}(h:ns≠[]):vB d ns∈ns∧∀x∈ns,x≤vB d ns:=by
 cases ns with
 |nil=>exact absurd rfl h
 |cons n ns=>
  obtain⟨h1,h2,h3⟩:=rE ns n
  refine⟨?_,fun x hx=>?_⟩
  . rcases h3 with h3|h3
    . show ns.foldl _ n∈_;rw[h3];exact Av ..
    . exact Ao _ h3
  . rcases Ak.mp hx with e|hx
    . rw[e];exact h1
    . exact h2 x hx
theorem nW{d M:Int}{ns:List Int}(h1:M∈ns)(h2:∀x∈ns,x≤M):vB d ns=M:=by
 have hne:ns≠[]:=fun e=>by rw[e]at h1;exact nomatch h1
 obtain⟨a,b⟩:=lH (d:=d) hne
 exact Int.le_antisymm (h2 _ a) (b _ h1)
theorem Vals.ints:∀{ns:List Int} {us:List Value},Vals (ns.map V.int) us→∀{i:Nat} {v:Value},us[i]?=some v→∃t,v=.int (ns.getD i 0) t
 |[],_,.nil,_,_,h=>by cases h
 |n::ns,_,.cons r rs,0,v,h=>by
  obtain⟨t,e⟩:=r
  have:v=.int n t:=(AF h).symm.trans e
  exact⟨t,this⟩
 |n::ns,_,.cons r rs,i+1,v,h=>by
  have:=Vals.ints rs (i:=i) (v:=v) h
  exact this
end
end L2
end
section
namespace L2
open PySem PyProof PyProof.Rows
section
variable {X:Cx}
theorem kE(l:Addr)(items:Array Value)(n:Nat)(u:Tok)(dd:Option Addr)(sl:Array (Option Value)) :
 Meets (Builtin.«tuple.__mul__» ⟨[.ref l,.int 1 u],[]⟩) (fun _ R s=>s.heap.get? l=some {cls:=.type "tuple",dict:=dd,data:=.seq items n,slots:=sl}∧R (.ok (.ret (A0 l))) s):=
 .of_wp fun prog w A R s h=>by
  obtain⟨hp,g,d,tk,os⟩:=s;obtain⟨hl,h⟩:=h
  have f1:=F6
  have c1:¬((decide ((1:Int) < -(2 ^ 63))||decide ((1:Int) ≥ 2 ^ 63))=true):=by decide
  have c2:((items.isEmpty||((1:Int) == 1))=true):=by simp
  wp_walk using Bs hl
  exact⟨_,rfl,h⟩
theorem kD(l:Addr)(items:Array Value)(n:Nat)(x:Int)(u:Tok)(dd:Option Addr)(sl:Array (Option Value))(h1:x≤0)(h2:-1000≤x)(h3:¬items.isEmpty=true) :
 Meets (Builtin.«tuple.__mul__» ⟨[.ref l,.int x u],[]⟩) (fun _ R s=>s.heap.get? l=some {cls:=.type "tuple",dict:=dd,data:=.seq items n,slots:=sl} ∧
  R (.ok (.ret (A0 s.heap.objs.size))) {s with heap:=s.heap.push {cls:=DX "tuple",data:=Data.seq #[]},toks:=s.toks}):=
 .of_wp fun prog w A R s h=>by
  obtain⟨hp,g,d,tk,os⟩:=s;obtain⟨hl,h⟩:=h
  have f1:=F6
  have c1:¬((decide (x < -(2 ^ 63))||decide (x ≥ 2 ^ 63))=true):=by simp;omega
  have c2:¬((items.isEmpty||x == 1)=true):=by simp at h3 ⊢;exact⟨h3,by omega⟩
  have c3:((decide (x≤0)||items.isEmpty)=true):=by simp;exact .inl h1
  wp_walk using Bs hl
  rw[if_neg c1]
  refine Ac (El (items:=items) ⟨_,hl,rfl,n,rfl⟩ ?_)
  rw[if_neg c2]
  show wpAny _ _ (if (decide (x≤0)||items.isEmpty)=true then _ else _) _ _ _
  rw[if_pos c3]
  exact Ac (m:=Bt _) (Be (Al ⟨_,rfl,h⟩))
noncomputable def Ul:R2:=fun x y H Q=>∃a k xs,x=.ref a∧y=.int k∧H a=some (.tup xs)∧-1000≤k∧k≤1000∧xs≠[]∧xs.length≤1000∧tU H (Az k.toNat xs).flatten Q
theorem aq:OpR X (BA .Mult) Ul:=by
 intro pins s σ H x y v u Q I rx ry h
 obtain⟨a,k,xs,rfl,rfl,ha,h1,h2,h3,h4,g⟩:=h
 by_cases hk2:2≤k
 . exact au pins s σ H _ _ v u Q I rx ry ⟨a,k,xs,rfl,rfl,ha,hk2,h2,h3,h4,g⟩
 cases rx
 obtain⟨t,rfl⟩:=ry
 obtain⟨its,r,p1,_⟩:=I.tuple (.inl (.inl ha))
 obtain⟨⟨cls,dd,data,sl⟩,ho,hc,n,hd⟩:=id p1
 simp only at hc hd
 subst hc hd
 by_cases hk1:k=1
 . subst hk1
   refine CU (T:="tuple") (U:="int") (by decide) ⟨_,ho,rfl⟩ (fun s'=>C7 s' 1 t) xH EL Cf w6 Es.lookup
    (CB Cf (C7 s 1 t) Et (Eb _ _) (xm 1 t a its.toArray n dd sl)
     ⟨ho,rfl,⟨_,ho,rfl⟩,CB Dq ⟨_,ho,rfl⟩ FN (Fh _ _) (kE a its.toArray n t dd sl) ⟨ho,?_⟩⟩)
   refine⟨.ref a,H,I,rfl,g a H (xf.refl H) ?_⟩
   rw[ha];simp
 . have hne:¬its.toArray.isEmpty=true:=by
    simp
    intro e
    exact h3 (r.uW.mp e)
   have e0:k.toNat=0:=by omega
   refine CU (T:="tuple") (U:="int") (by decide) ⟨_,ho,rfl⟩ (fun s'=>C7 s' k t) xH EL Cf w6 Es.lookup
    (CB Cf (C7 s k t) Et (Eb _ _) (xm k t a its.toArray n dd sl)
     ⟨ho,rfl,⟨_,ho,rfl⟩,CB Dq ⟨_,ho,rfl⟩ FN (Fh _ _) (kD a its.toArray n k t dd sl (by omega) h1 hne) ⟨ho,?_⟩⟩)
   rw[e0]at g
   refine⟨.ref s.heap.objs.size,_,I.laid (t':=s.toks) (o:=.tup []) (fun b ob q=>Ad _ q) (Ag _) ⟨A8 _,[],.nil,ux.new _ _⟩,rfl,g.new _ (I.hok.fresh (Ag _))⟩
noncomputable def la(a b c:Int):List Int:=(AE (Cp a b c).toNat).map fun(i:Nat)=>a+(i:Int)*c
end
end L2
end
section
namespace L2
open PySem PyProof PyProof.Rows
section
variable {X:Cx}
theorem qj{x:V}:∀{xs:List V} {us:List Value},Vals xs us→xs.all w9=true→us.countP (eqU x)=xs.countP fun y=>eqV y x
 |_,_,.nil,_=>rfl
 |y::ys,u::us,.cons r rs,h=>by
  rw[Dx,Aa]at h
  rw[List.countP_cons,List.countP_cons,qj rs h.2,my r h.1]
noncomputable def lZ(K:Af)(tup:Bool):V→List V→Hp→VK→Prop:=fun x vs H Q=>∃t xs y,x=.ref t∧vs=[y]∧(if tup=true then SqT K H t xs else SqL K H t xs)∧w9 y=true∧xs.all w9=true∧Q (.int (xs.countP fun z=>eqV z y:Nat)) H
theorem iN:MtR X "list.count" (lZ X.K false):=by
 intro pins s σ H x xs v us Q I rx rs h
 obtain⟨t,ys,y,rfl,rfl,ht,fy,fs,q⟩:=h
 cases rx
 obtain⟨u,rfl,ru⟩:=vals1 rs
 obtain⟨its,r,p1,_⟩:=I.list ht
 obtain⟨⟨cls,dd,data,sl⟩,ho,hc,n,hd⟩:=id p1.isList
 simp only at hc hd
 subst hc hd
 refine CB F.slot_list_count ⟨_,ho,rfl⟩ F.entry_list_count (F.args_list_count_2 _ _) (SeqAt.list_countAt t its.toArray n dd sl u (eqU y)) ⟨ho,fun w hw=>rT ru fy r fs w (by simpa using hw),?_⟩
 rw[show its.toArray.toList=its from rfl,qj r fs]
 exact⟨.int _,H,I.tok _,⟨s.toks,rfl⟩,q⟩
noncomputable def vO(d:Int):List Int→Int
 |[]=>d
 |n::ns=>ns.foldl (fun a b=>if b<a then b else a) n
theorem rF:∀(ns:List Int) (a:Int),ns.foldl (fun a b=>if b<a then b else a) a≤a∧(∀x∈ns,ns.foldl (fun a b=>if b<a then b else a) a≤x)∧(ns.foldl (fun a b=>if b<a then b else a) a=a∨ns.foldl (fun a b=>if b<a then b else a) a∈ns)
 |[],a=>⟨Int.le_refl _,fun _ h=>(nomatch h),.inl rfl⟩
 |n::ns,a=>by
  obtain⟨h1,h2,h3⟩:=rF ns (if n<a then n else a)
  show ns.foldl _ (if n<a then n else a)≤a∧_
  have hc:(if n<a then n else a)≤a∧(if n<a then n else a)≤n:=by split<;>omega
  refine⟨Ga h1 hc.1,fun x hx=>?_,?_⟩
  . rcases Ak.mp hx with e|hx
    . rw[e];exact Ga h1 hc.2
    . exact h2 x hx
  . rcases h3 with h3|h3
    . show ns.foldl _ (if n<a then n else a)=a∨ns.foldl _ (if n<a then n else a)∈n::ns
      rw[h3]
      split
      . exact .inr (Av ..)
      . exact .inl rfl
    . exact .inr (Ao _ h3)
theorem lI{d:Int}{ns:List Int}(h:ns≠[]):vO d ns∈ns∧∀x∈ns,vO d ns≤x:=by
 cases ns with
 |nil=>exact absurd rfl h
 |cons n ns=>
  obtain⟨h1,h2,h3⟩:=rF ns n
  refine⟨?_,fun x hx=>?_⟩
  . rcases h3 with h3|h3
    . show ns.foldl _ n∈_;rw[h3];exact Av ..
    . exact Ao _ h3
  . rcases Ak.mp hx with e|hx
    . rw[e];exact h1
    . exact h2 x hx
theorem nY{d M:Int}{ns:List Int}(h1:M∈ns)(h2:∀x∈ns,M≤x):vO d ns=M:=by
 have hne:ns≠[]:=fun e=>by rw[e]at h1;exact nomatch h1
 obtain⟨a,b⟩:=lI (d:=d) hne
 exact Int.le_antisymm (b _ h1) (h2 _ a)
noncomputable def YF(K:Af)(g:List Int→Int):List V→Hp→VK→Prop:=fun xs H Q=>∃(a:Addr) (ns:List Int),xs=[.ref a]∧SqL K H a (ns.map V.int)∧ns≠[]∧Q (.int (g ns)) H
theorem jh(hc:X.calm=true):yI X (.builtin "max") (YF X.K (vB 0)):=by
 intro pins s σ H xs us Q I r h
 obtain⟨a,ns,rfl,ha,hne,q⟩:=h
 obtain⟨u,rfl,ru⟩:=vals1 r
 cases ru
 obtain⟨its,rv,pl,hz⟩:=I.list ha
 have hlen:=rv.length
 have alt:a<s.heap.objs.size:=by obtain⟨o,ho,_⟩:=pl.isList;exact An ho
 have hl:its.toArray.size=ns.length:=by rw[Ah,←hlen,Ai]
 have hpos:0<ns.length:=BY.mpr hne
 have hat:∀(i:Nat) (v:Value),its.toArray[i]?=some v→∃t,v=.int (ns.getD i 0) t:=fun i v hv=>rv.ints (by simpa using hv)
 refine call_max_walk (Dg pl.isList ?_)
 refine⟨s.heap.objs.size,_,_,_,_,_,_,rfl,GQ (A:=X.A.in1) (I.ok.hd hc) s.heap.objs.size a (AD alt) its.toArray,⟨⟨_,Ay _ rfl,rfl,rfl⟩,?_⟩,fun b hb=>?_,by omega,CmpOf.ints_gt (fun i=>ns.getD i 0) hat,fun v h' tk hP hk=>?_⟩
 . obtain⟨o,ho,hc',n,hd⟩:=pl.isList
   exact⟨o,Ad _ ho,hc',n,hd⟩
 . rw[A4]
   simp only[Ak,BB,or_false]at hb
   rcases hb with e|e
   . rw[e];exact Cw _
   . rw[e];exact BC alt
 . obtain⟨t,rfl⟩:=hat _ _ hP
   obtain⟨b1,b2⟩:=argBest_gt (fun i=>ns.getD i 0) (its.toArray.size-1)
   have e:vB 0 ns=ns.getD (argBest (fun i j=>decide (ns.getD i 0 > ns.getD j 0)) (its.toArray.size-1)) 0:=by
    refine nW ?_ fun x hx=>?_
    . have:argBest (fun i j=>decide (ns.getD i 0 > ns.getD j 0)) (its.toArray.size-1)<ns.length:=by omega
      rw[Aw,Ae this];exact B2 this
    . obtain⟨i,hi,rfl⟩:=Bu hx
      have:=b2 i (by omega)
      simpa [Aw,Ae hi] using this
   refine⟨.int (vB 0 ns),H,I.kept fun b o ho=>hk b o ?_ (Ad _ ho),⟨t,by rw[e]⟩,q⟩
   simpa using AD (An ho)
theorem jm(hc:X.calm=true):yI X (.builtin "min") (YF X.K (vO 0)):=by
 intro pins s σ H xs us Q I r h
 obtain⟨a,ns,rfl,ha,hne,q⟩:=h
 obtain⟨u,rfl,ru⟩:=vals1 r
 cases ru
 obtain⟨its,rv,pl,hz⟩:=I.list ha
 have hlen:=rv.length
 have alt:a<s.heap.objs.size:=by obtain⟨o,ho,_⟩:=pl.isList;exact An ho
 have hl:its.toArray.size=ns.length:=by rw[Ah,←hlen,Ai]
 have hpos:0<ns.length:=BY.mpr hne
 have hat:∀(i:Nat) (v:Value),its.toArray[i]?=some v→∃t,v=.int (ns.getD i 0) t:=fun i v hv=>rv.ints (by simpa using hv)
 refine call_min_walk (Dg pl.isList ?_)
 refine⟨s.heap.objs.size,_,_,_,_,_,_,rfl,GQ (A:=X.A.in1) (I.ok.hd hc) s.heap.objs.size a (AD alt) its.toArray,⟨⟨_,Ay _ rfl,rfl,rfl⟩,?_⟩,fun b hb=>?_,by omega,CmpOf.ints_lt (fun i=>ns.getD i 0) hat,fun v h' tk hP hk=>?_⟩
 . obtain⟨o,ho,hc',n,hd⟩:=pl.isList
   exact⟨o,Ad _ ho,hc',n,hd⟩
 . rw[A4]
   simp only[Ak,BB,or_false]at hb
   rcases hb with e|e
   . rw[e];exact Cw _
   . rw[e];exact BC alt
 . obtain⟨t,rfl⟩:=hat _ _ hP
   obtain⟨b1,b2⟩:=argBest_lt (fun i=>ns.getD i 0) (its.toArray.size-1)
   have e:vO 0 ns=ns.getD (argBest (fun i j=>decide (ns.getD i 0<ns.getD j 0)) (its.toArray.size-1)) 0:=by
    refine nY ?_ fun x hx=>?_
    . have:argBest (fun i j=>decide (ns.getD i 0<ns.getD j 0)) (its.toArray.size-1)<ns.length:=by omega
      rw[Aw,Ae this];exact B2 this
    . obtain⟨i,hi,rfl⟩:=Bu hx
      have:=b2 i (by omega)
      simpa [Aw,Ae hi] using this
   refine⟨.int (vO 0 ns),H,I.kept fun b o ho=>hk b o ?_ (Ad _ ho),⟨t,by rw[e]⟩,q⟩
   simpa using AD (An ho)
theorem ij{o e:Expr}{to te:TE}{apos cpos:Pos}{es:List Expr}(ho:PE X o to)(he:PE X e te)(hbase:Dy o "append" X.env (eval o X.env)=eval o X.env:=by rfl)(hst:noStar e=true:=by rfl)(hline:(apos.endLine == cpos.line)=true:=by rfl) :
 PE X (.Call (.Attribute o "append" apos) [e] [] cpos) (tBM X.K "list" jN to (vD te r9)):=by
 have hs1:AM [e] X.env=(false,eval e X.env)::AM [] X.env:=zm hst
 refine dU D8 PySem.F.slot_list_append PySem.F.type_list_append qt ho (pac he yn hst) hbase ?_ hline hs1 rfl
 rw[hs1];rfl
theorem ik{o e:Expr}{to te:TE}{apos cpos:Pos}(ho:PE X o to)(he:PE X e te)(hbase:Dy o "count" X.env (eval o X.env)=eval o X.env:=by rfl)(hst:noStar e=true:=by rfl)(hline:(apos.endLine == cpos.line)=true:=by rfl) :
 PE X (.Call (.Attribute o "count" apos) [e] [] cpos) (tBM X.K "list" (lZ X.K false) to (vD te r9)):=by
 have hs1:AM [e] X.env=(false,eval e X.env)::AM [] X.env:=zm hst
 refine dU D8 PySem.F.slot_list_count PySem.F.type_list_count iN ho (pac he yn hst) hbase ?_ hline hs1 rfl
 rw[hs1];rfl
end
end L2
namespace L2
open PySem
end L2
namespace L2
open PySem
end L2
end
section
namespace L2
open PySem PySem.W PySem.Calls PyProof PyProof.Rows
noncomputable def kY(z:Int × Int):Int:=z.1*1000+z.2
end L2
end
section
namespace L2
open PySem PySem.W PySem.Calls PyProof PyProof.Rows
noncomputable def Vw:List Int→List Int→Bool
 |x::xs,y::ys=>if x=y then Vw xs ys else decide (x<y)
 |_,_=>false
inductive oy:List Value→List Int→Prop
 |nil:oy [] []
 |cons {i:Int} {t:Tok} {us:List Value} {ns:List Int}:oy us ns→oy (.int i t::us) (i::ns)
theorem Zz:∀{ns:List Int} {us:List Value},Vals (ns.map V.int) us→oy us ns
 |[],_,.nil=>.nil
 |n::ns,_,.cons r rs=>by
  obtain⟨t,rfl⟩:=(show ∃t,_=Fc n t from r)
  exact .cons (Zz rs)
end L2
end
section
namespace L2
open PySem PySem.W PySem.Calls PyProof PyProof.Rows
noncomputable def Vv:List Int→List Int→Bool
 |x::xs,y::ys=>if x=y then Vv xs ys else decide (x<y)
 |[],_::_=>true
 |_,[]=>false
noncomputable def Vf(z:List Int):List (List Int)→List (List Int)
 |[]=>[z]
 |y::ys=>if Vv y z then y::Vf z ys else z::y::ys
noncomputable def YI:List (List Int)→List (List Int)
 |[]=>[]
 |z::zs=>Vf z (YI zs)
end L2
end
section
namespace L2
open PySem PySem.Calls PyProof PyProof.Rows
open AutoSeq1 (wpAny_loadPart')
section
variable {prog:Program}{w:World}{A:Around}{E:Value→Shared→Prop}{s:Shared}
theorem sF{it t:Addr}{i:Nat}{items:Array Value}{x:Value}{Q:Value→Shared→Prop}(hit:s.heap.IsTupleIter it t i)(ht:s.heap.IsTuple t items)(hx:items[i]?=some x)
 (hQ:∀h',h'.IsTupleIter it t (i+1)→DJ it s.heap h'→Q x {s with heap:=h'}):wpAny (model prog w) A (CV (.ref it)) Q E s:=by
 obtain⟨o,ho,hc,hd⟩:=id hit
 obtain⟨ol,hol,_,nl,hdl⟩:=ht
 unfold CV
 refine Ac (Cq (name:=Dj "__next__") hit.typeIs CO
  (Dp CO hit.typeIs Fi ?_ (E5 _)))
 show wpAny _ _ (field (.ref it) 0 >>= _) _ _ s
 refine Ac (CA ho hd (x:=.ref t) rfl ?_)
 show wpAny _ _ (if (A0 t == B9)=true then _ else _) _ _ s
 rw[if_neg (show ¬((A0 t == B9)=true) from Am)]
 show wpAny _ _ (field (.ref it) 1 >>= _) _ _ s
 refine Ac (CA ho hd (x:=.int i 0) rfl ?_)
 show wpAny _ _ (Fj (.ref t) >>= _) _ _ s
 refine Ac (D2 hol hdl ?_)
 simp only[Bj,hx]
 refine Ac (GG ho hd (by simp) (Al ⟨x,rfl,Al (hQ _ ?_ (DJ.update ..))⟩))
 exact⟨_,CJ _ ho (Obj.isFreed_of_fields (Obj.data_mapFields hd _)),(Obj.cls_mapFields ..).trans hc,by
  rw[Obj.data_mapFields hd];simp[rawInt]⟩
theorem rW{it t:Addr}{i:Nat}{items:Array Value}{Q:Value→Shared→Prop}(hh:A.handled=none)(hit:s.heap.IsTupleIter it t i)(ht:s.heap.IsTuple t items)(hx:items[i]?=none)
 (hE:∀h' e,Heap.ExtBut it s.heap h'→(∃o,h'.get? e=some o∧o.cls=.type "StopIteration")→E (.ref e) {s with heap:=h'}):wpAny (model prog w) A (CV (.ref it)) Q E s:=by
 obtain⟨o,ho,hc,hd⟩:=id hit
 obtain⟨ol,hol,_,nl,hdl⟩:=ht
 unfold CV
 refine Ac (Cq (name:=Dj "__next__") hit.typeIs CO
  (Dp CO hit.typeIs Fi ?_ (E5 _)))
 show wpAny _ _ (field (.ref it) 0 >>= _) _ _ s
 refine Ac (CA ho hd (x:=.ref t) rfl ?_)
 show wpAny _ _ (if (A0 t == B9)=true then _ else _) _ _ s
 rw[if_neg (show ¬((A0 t == B9)=true) from Am)]
 show wpAny _ _ (field (.ref it) 1 >>= _) _ _ s
 refine Ac (CA ho hd (x:=.int i 0) rfl ?_)
 show wpAny _ _ (Fj (.ref t) >>= _) _ _ s
 refine Ac (D2 hol hdl ?_)
 simp only[Bj,hx]
 first
  |refine Ac (EH (Ac (GG ho hd (by simp) ?_)))
  |refine Ac (GG ho hd (by simp) ?_)
 first
  |show wpAny _ _ (newExc (.type "StopIteration") [] >>= _) _ _ _
  |(refine Ac (Fb ?_);show wpAny _ _ (newExc (.type "StopIteration") [] >>= _) _ _ _)
 refine Ac ?_
 simp only[newExc,newTuple]
 refine Ac (Be ?_ (by size_fits))
 refine Ac (m:=firstArgMember _ _) (wpAny_of_eq (a:=B9) (by first|rfl|(simp only[firstArgMember];rfl)) ?_)
 refine Be ?_ (by size_fits)
 simp only[raiseNew]
 refine Ac (wpAny_handled ?_)
 first|rw[show A.in1.handled=none from hh]|rw[hh]
 refine Ac (Al (wpAny_throw ?_))
 exact hE _ _ (((DJ.update ..).extBut.push _).push _) ⟨_,Ay _ rfl,rfl⟩
end
theorem qk{prog:Program}{w:World}{A:Around}(hh:A.handled=none)(it t:Addr)(hne:t≠it)(items:Array Value) :
 Draws prog w A it [it,t] items.size (fun i v=>items[i]?=some v) (fun i h=>h.IsTupleIter it t i∧h.IsTuple t items) where
 live:=fun _ _ st=>let ⟨o,ho,_⟩:=st.1;⟨o,ho⟩
 frame:=fun _ _ _ st hk=>⟨st.1.at fun o e=>hk it (by simp) o e,let ⟨o,ho,r⟩:=st.2;⟨o,hk t (by simp) o ho,r⟩⟩
 item:=fun i s Q E hi st hQ=>by
  refine sF st.1 st.2 (x:=items[i]) (by simp[hi]) fun h' hit' hs'=>?_
  exact hQ _ h' s.toks (by simp[hi]) ⟨hit',let ⟨o,ho,r⟩:=st.2;⟨o,hs'.extBut t o hne ho,r⟩⟩ hs'
 done:=fun s Q E st hE=>rW hh st.1 st.2 (by simp) hE
theorem rS(l:Addr)(items:Array Value)(n:Nat)(dct:Option Addr)(sl:Array (Option Value)) :
 Meets (Builtin.«enumerate.__new__» ⟨[.type "enumerate",.ref l],[]⟩) (fun _ R s=>s.heap.get? l=some {cls:=.type "tuple",dict:=dct,data:=.seq items n,slots:=sl} ∧
  R (.ok (.ret (.ref (s.heap.push {cls:=.type "tuple_iterator",data:=.fields #[.ref l,.int 0 0]}).objs.size)))
    {s with heap:=(s.heap.push {cls:=.type "tuple_iterator",data:=.fields #[.ref l,.int 0 0]}).push {cls:=.type "enumerate",data:=.fields #[.none,.bool false,.ref s.heap.objs.size,rawInt 0,.none,.none]}}):=
 .of_wp fun prog w A R s h=>by
  obtain⟨hp,g,d,tk,os⟩:=s;obtain⟨hl,h⟩:=h
  have hsub:=sub_enumerate
  have hL:Heap.IsTuple (Shared.heap ⟨hp,g,d,tk,os⟩) l items:=⟨_,hl,rfl,n,rfl⟩
  wp_walk using Bs hl
  refine wpAny_stack_any fun st=>Al ?_
  split
  . rename_i c _ _ _ _ _
    cases (c == DX "enumerate")
    . wp_walk using Bs hl,B3 hL
      exact⟨_,rfl,h⟩
    . wp_walk using Bs hl,B3 hL
      exact⟨_,rfl,h⟩
  . wp_walk using Bs hl,B3 hL
    exact⟨_,rfl,h⟩
section
variable {prog:Program}{w:World}{A:Around}{E:Value→Shared→Prop}{s:Shared}
theorem qH{l:Addr}{items:Array Value}{Q:Value→Shared→Prop}(hL:s.heap.IsTuple l items)
 (h:∀h',IsEnum h' (s.heap.objs.size+1) s.heap.objs.size 0 .none→h'.IsTupleIter s.heap.objs.size l 0→h'.objs.size=s.heap.objs.size+2 →
  (∀b o,s.heap.get? b=some o→h'.get? b=some o)→Q (.ref (s.heap.objs.size+1)) {s with heap:=h'}) :
 wpAny (model prog w) A (call (.type "enumerate") [.ref l]) Q E s:=by
 obtain⟨⟨c,dct,dt,sl⟩,hl,hc,n,hd⟩:=hL
 replace hc:c=.type "tuple":=hc
 replace hd:dt=.seq items n:=hd
 subst hc hd
 refine callType_new F.called_enumerate (by decide) (F.typeCall_enumerate_1 _) (F.newCall_enumerate_1 _) (fun obj=>F.args_object_init_2 obj _) F.entry_enumerate_new
  (rS l items n dct sl) ⟨hl,?_⟩
 have hz:(s.heap.push {cls:=.type "tuple_iterator",data:=.fields #[.ref l,.int 0 0]}).objs.size=s.heap.objs.size+1:=A4 ..
 show _∧_
 rw[hz]
 have he:IsEnum ((s.heap.push {cls:=.type "tuple_iterator",data:=.fields #[.ref l,.int 0 0]}).push
  {cls:=.type "enumerate",data:=.fields #[.none,.bool false,.ref s.heap.objs.size,rawInt 0,.none,.none]}) (s.heap.objs.size+1) s.heap.objs.size 0 .none:=by
  have:=Ay (s.heap.push {cls:=.type "tuple_iterator",data:=.fields #[.ref l,.int 0 0]})
   (o:={cls:=.type "enumerate",data:=.fields #[.none,.bool false,.ref s.heap.objs.size,rawInt 0,.none,.none]}) rfl
  rw[hz]at this;exact this
 refine⟨⟨_,he,rfl⟩,h _ he ⟨_,Ad _ (Ay _ rfl),rfl,rfl⟩ (by rw[A4,hz]) fun b o x=>Ad _ (Ad _ x)⟩
end
end L2
end
section
namespace L2
open PySem PySem.Calls PyProof PyProof.Rows
noncomputable def Ite(K:Af)(a:Addr):It:=
 ⟨fun i H=>∃xs x,SqT K H a xs∧xs[i]?=some x,fun i H x H'=>∃t y,H t=none∧x=.ref t∧(∀xs,SqT K H a xs→xs[i]?=some y)∧H'=upd H t (.tup [.int (i:Nat),y]),fun i H=>∃xs,SqT K H a xs∧xs.length=i⟩
theorem Inv.jW{X:Cx}{pins:List (Addr × Obj)}{σ:St}{H:Hp}{s:Shared}{h':Heap}{t':Nat}{e it T:Addr}{ys:List V}{its:List Value}{n:Nat}(I:Inv X pins σ H s)(fe:vg X pins H e)(fi:vg X pins H it)
 (k:∀b o,b≠e→b≠it→s.heap.get? b=some o→h'.get? b=some o) (hT:s.heap.objs.size≤T) (hz:ys.length≤AB) (r:Vals ys its) (ho:h'.get? T=some {cls:=.type "tuple",data:=.seq its.toArray n}) :
 Inv X pins σ (upd H T (.tup ys)) {s with heap:=h',toks:=t'}:=by
 obtain⟨e0,e1,e2,e3,e4,e5⟩:=fe
 obtain⟨i0,i1,i2,i3,i4,i5⟩:=fi
 have hn:H T=none:=I.hok.fresh hT
 have neT:∀b u,H b=some u→b≠T:=fun b u q z=>by rw[z,hn]at q;cases q
 have nee:∀b u,H b=some u→b≠e:=fun b u q z=>by rw[z,e0]at q;cases q
 have nei:∀b u,H b=some u→b≠it:=fun b u q z=>by rw[z,i0]at q;cases q
 have neoT:∀b o,s.heap.get? b=some o→b≠T:=fun b o q z=>absurd (AA (An q) hT) (by rw[z];exact Bb _)
 refine I.step (g':=s.gens) (d':=s.drawn) (ch:=[e,it]) (fun b hb=>?_) (fun b o _ _ hc q _=>k b o (fun z=>hc (by simp[z])) (fun z=>hc (by simp[z])) q) (fun b o _ _ hc q _=>⟨o.slots,k b o (fun z=>hc (by simp[z])) (fun z=>hc (by simp[z])) q⟩)
  (fun b o _ q m=>by rw[zI (neoT b o q)];exact m) (fun b o hc q=>⟨o,k b o (fun z=>hc (by simp[z])) (fun z=>hc (by simp[z])) q⟩) (fun b xs q=>by rw[zI (neT b _ q)];exact q) (fun b o u q=>by rw[zI (neT b _ q)];exact q)
  (fun b ps q=>⟨#[],by rw[zI (neT b _ q),q];simp⟩) (fun m hm=>?_) (fun b u q=>?_) I.bare
 . rcases Ak.mp hb with z|hb
   . subst z;exact⟨e3,e1,e4,e5⟩
   . have z:=Aq.mp hb
     subst z;exact⟨i3,i1,i4,i5⟩
 . obtain⟨o,es,ep,ho,r⟩:=hm
   exact⟨o,es,ep,k _ o (Bp e1) (Bp i1) ho,r⟩
 . by_cases hb:b=T
   . subst hb
     rw[zN]at q
     cases q
     exact⟨hz,its,r,_,ho,rfl,n,rfl,rfl⟩
   . rw[zI hb]at q
     refine(I.hok b u q).qP (fun c v hc w=>k c v ?_ ?_ w) (fun c hc=>by rw[zI (neT c _ hc)];exact hc) fun c xs hc=>by rw[zI (neT c _ hc)];exact hc
     . rcases hc with z|z
       . rw[z];exact nee b u q
       . exact nee c _ z
     . rcases hc with z|z
       . rw[z];exact nei b u q
       . exact nei c _ z
theorem Inv.jV{X:Cx}{pins:List (Addr × Obj)}{σ:St}{H:Hp}{s:Shared}{h':Heap}{t':Nat}{it:Addr}(I:Inv X pins σ H s)(fi:vg X pins H it)(k:∀b o,b≠it→s.heap.get? b=some o→h'.get? b=some o):Inv X pins σ H {s with heap:=h',toks:=t'}:=by
 obtain⟨i0,i1,i2,i3,i4,i5⟩:=fi
 exact I.turned k i0 i1 i3 i4 i5
theorem gB{P:Program}{w:World}{K:Af}{elts:List Expr}{x1:Nat}{pos:Pos}(a e it:Addr)(hei:e≠it):Turn P w K (.Tuple elts x1 pos) (Ite K a) [e,it] e (fun i h=>(∃old,IsEnum h e it (i:Nat) old)∧h.IsTupleIter it a i) where
 mem:=by simp
 obj:=fun i h st b hb=>by
  rcases Ak.mp hb with z|hb
  . subst z
    obtain⟨old,he⟩:=st.1
    exact⟨_,he,fun v z=>by cases (show Gz _=Data.cell v from z)⟩
  . have z:=Aq.mp hb
    subst z
    obtain⟨o,q,c,d⟩:=st.2
    exact⟨o,q,fun v z=>by rw[d]at z;cases z⟩
 keep:=fun i h h' st k=>⟨let ⟨old,he⟩:=st.1;⟨old,k e (by simp) _ he⟩,st.2.at fun o q=>k it (by simp) o q⟩
 item:=by
  intro X hP hw hK hc i pins s σ H E I hf st hg
  subst hP hw hK
  obtain⟨xs,x,hq,hx⟩:=hg
  obtain⟨⟨old,he⟩,hit⟩:=st
  obtain⟨its,rv,p,hz⟩:=I.tuple hq
  obtain⟨u,hu,ru⟩:=rv.get hx
  have hlen:=rv.length
  have hi:i<xs.length:=(As.mp hx).1
  have hai:a≠it:=fun z=>by
   obtain⟨o1,q1,c1,_⟩:=id p
   obtain⟨o2,q2,c2,_⟩:=id hit
   rw[z,q2]at q1;cases q1
   rw[c2]at c1;exact absurd (Dl c1) (by decide)
  have hae:a≠e:=fun z=>by
   obtain⟨o1,q1,c1,_⟩:=id p
   have he':s.heap.get? e=_:=he
   rw[z,he']at q1;cases q1
   exact absurd (Dl c1) (by decide)
  have D:=qk (prog:=X.prog) (w:=X.w) (A:=X.A.in1) (I.ok.hd hc) it a hai its.toArray
  refine Gk D he ⟨hit,p⟩ (by rw[Ah];omega) hei (fun m=>?_) fun v h1 tk hP ho hs1 hT hsz hk=>?_
  . rcases Ak.mp m with z|m
    . exact hei z
    . exact hae (Aq.mp m).symm
  . have hP:its.toArray[i]?=some v:=hP
    have ev:v=u:=by
     rw[CL,hu]at hP
     exact(AF hP).symm
    subst ev
    refine⟨_,rfl,Fx (s:={s with heap:=h1,toks:=tk+1}) ho fun h2 he2 sb=>?_⟩
    have sz:s.heap.objs.size≠e:=Dh (An he)
    refine⟨.ref s.heap.objs.size,_,Inv.jW (s:=s) (h':=h2) (t':=tk+1) (T:=s.heap.objs.size) (ys:=[.int (i:Nat),x]) (its:=[.int (i:Nat) tk,v]) (n:=0) I (hf e (by simp)) (hf it (by simp)) (fun b o h1' h2' q=>(sb.2 b h1').trans (hk b o h1' h2' q)) (Ag _) (by rw[A2];show 2≤_;decide) (.cons ⟨tk,rfl⟩ (.cons ru .nil)) ((sb.2 _ sz).trans hT),rfl,
     ⟨s.heap.objs.size,x,I.hok.fresh (Ag _),rfl,fun ys hy=>by rw[I.pF hy hq];exact hx,rfl⟩,⟨⟨v,by simpa using he2⟩,hs1.1.at fun o q=>(sb.2 it (Bp hei)).trans q⟩,fun b hb=>?_⟩
    rw[zI (fun z=>?_)]
    . exact(hf b hb).1
    . have hlt:b<s.heap.objs.size:=by
       rcases Ak.mp hb with y|hb
       . rw[y];exact An he
       . rw[Aq.mp hb];obtain⟨o,q,_⟩:=hit;exact An q
      exact absurd z (AD hlt)
 done:=by
  intro X hP hw hK hc i pins s σ H E I hf st hg
  subst hP hw hK
  obtain⟨xs,hq,hx⟩:=hg
  obtain⟨⟨old,he⟩,hit⟩:=st
  obtain⟨its,rv,p,hz⟩:=I.tuple hq
  have hlen:=rv.length
  have hai:a≠it:=fun z=>by
   obtain⟨o1,q1,c1,_⟩:=id p
   obtain⟨o2,q2,c2,_⟩:=id hit
   rw[z,q2]at q1;cases q1
   rw[c2]at c1;exact absurd (Dl c1) (by decide)
  have D:=qk (prog:=X.prog) (w:=X.w) (A:=X.A.in1) (I.ok.hd hc) it a hai its.toArray
  have en:its.toArray.size=i:=by rw[Ah];omega
  exact wpAny_pyNext_enum_endD D he ⟨by rw[en];exact hit,p⟩ fun h' eb=>⟨rfl,I.jV (t':=s.toks) (hf it (by simp)) fun b o hb q=>eb b o hb q⟩
 self:=fun _ _ _ _ _ st h=>let ⟨old,he⟩:=st.1;Ec he h
noncomputable def YV(K:Af)(a:Addr):It:=
 ⟨fun i H=>∃xs x,SqL K H a xs∧xs[i]?=some x,fun i H x H'=>∃t y,H t=none∧x=.ref t∧(∀xs,SqL K H a xs→xs[i]?=some y)∧H'=upd H t (.tup [.int (i:Nat),y]),fun i H=>∃xs,SqL K H a xs∧xs.length=i⟩
theorem kG{P:Program}{w:World}{K:Af}{elts:List Expr}{x1:Nat}{pos:Pos}(a e it:Addr)(hei:e≠it):Turn P w K (.Tuple elts x1 pos) (YV K a) [e,it] e (fun i h=>(∃old,IsEnum h e it (i:Nat) old)∧h.IsListIter it a i) where
 mem:=by simp
 obj:=fun i h st b hb=>by
  rcases Ak.mp hb with z|hb
  . subst z
    obtain⟨old,he⟩:=st.1
    exact⟨_,he,fun v z=>by cases (show Gz _=Data.cell v from z)⟩
  . have z:=Aq.mp hb
    subst z
    obtain⟨o,q,c,d⟩:=st.2
    exact⟨o,q,fun v z=>by rw[d]at z;cases z⟩
 keep:=fun i h h' st k=>⟨let ⟨old,he⟩:=st.1;⟨old,k e (by simp) _ he⟩,st.2.at fun o q=>k it (by simp) o q⟩
 item:=by
  intro X hP hw hK hc i pins s σ H E I hf st hg
  subst hP hw hK
  obtain⟨xs,x,hq,hx⟩:=hg
  obtain⟨⟨old,he⟩,hit⟩:=st
  obtain⟨its,rv,p0,hz⟩:=I.list hq
  have p:=p0.isList
  obtain⟨u,hu,ru⟩:=rv.get hx
  have hlen:=rv.length
  have hi:i<xs.length:=(As.mp hx).1
  have hai:a≠it:=fun z=>by
   obtain⟨o1,q1,c1,_⟩:=id p
   obtain⟨o2,q2,c2,_⟩:=id hit
   rw[z,q2]at q1;cases q1
   rw[c2]at c1;exact absurd (Dl c1) (by decide)
  have hae:a≠e:=fun z=>by
   obtain⟨o1,q1,c1,_⟩:=id p
   have he':s.heap.get? e=_:=he
   rw[z,he']at q1;cases q1
   exact absurd (Dl c1) (by decide)
  have D:=Draws.list (prog:=X.prog) (w:=X.w) (A:=X.A.in1) (I.ok.hd hc) it a hai its.toArray
  refine Gk D he ⟨hit,p⟩ (by rw[Ah];omega) hei (fun m=>?_) fun v h1 tk hP ho hs1 hT hsz hk=>?_
  . rcases Ak.mp m with z|m
    . exact hei z
    . exact hae (Aq.mp m).symm
  . have hP:its.toArray[i]?=some v:=hP
    have ev:v=u:=by
     rw[CL,hu]at hP
     exact(AF hP).symm
    subst ev
    refine⟨_,rfl,Fx (s:={s with heap:=h1,toks:=tk+1}) ho fun h2 he2 sb=>?_⟩
    have sz:s.heap.objs.size≠e:=Dh (An he)
    refine⟨.ref s.heap.objs.size,_,Inv.jW (s:=s) (h':=h2) (t':=tk+1) (T:=s.heap.objs.size) (ys:=[.int (i:Nat),x]) (its:=[.int (i:Nat) tk,v]) (n:=0) I (hf e (by simp)) (hf it (by simp)) (fun b o h1' h2' q=>(sb.2 b h1').trans (hk b o h1' h2' q)) (Ag _) (by rw[A2];show 2≤_;decide) (.cons ⟨tk,rfl⟩ (.cons ru .nil)) ((sb.2 _ sz).trans hT),rfl,
     ⟨s.heap.objs.size,x,I.hok.fresh (Ag _),rfl,fun ys hy=>by rw[I.nU hy hq];exact hx,rfl⟩,⟨⟨v,by simpa using he2⟩,hs1.1.at fun o q=>(sb.2 it (Bp hei)).trans q⟩,fun b hb=>?_⟩
    rw[zI (fun z=>?_)]
    . exact(hf b hb).1
    . have hlt:b<s.heap.objs.size:=by
       rcases Ak.mp hb with y|hb
       . rw[y];exact An he
       . rw[Aq.mp hb];obtain⟨o,q,_⟩:=hit;exact An q
      exact absurd z (AD hlt)
 done:=by
  intro X hP hw hK hc i pins s σ H E I hf st hg
  subst hP hw hK
  obtain⟨xs,hq,hx⟩:=hg
  obtain⟨⟨old,he⟩,hit⟩:=st
  obtain⟨its,rv,p0,hz⟩:=I.list hq
  have p:=p0.isList
  have hlen:=rv.length
  have hai:a≠it:=fun z=>by
   obtain⟨o1,q1,c1,_⟩:=id p
   obtain⟨o2,q2,c2,_⟩:=id hit
   rw[z,q2]at q1;cases q1
   rw[c2]at c1;exact absurd (Dl c1) (by decide)
  have D:=Draws.list (prog:=X.prog) (w:=X.w) (A:=X.A.in1) (I.ok.hd hc) it a hai its.toArray
  have en:its.toArray.size=i:=by rw[Ah];omega
  exact wpAny_pyNext_enum_endD D he ⟨by rw[en];exact hit,p⟩ fun h' eb=>⟨rfl,I.jV (t':=s.toks) (hf it (by simp)) fun b o hb q=>eb b o hb q⟩
 self:=fun _ _ _ _ _ st h=>let ⟨old,he⟩:=st.1;Ec he h
noncomputable def Va(K:Af)(ta:TA):TI:=fun σ H R=>ta σ H fun vs H1=>∃a,vs=[.ref a]∧(((∃xs,SqT K H1 a xs)∧R (Ite K a) H1)∨((∃xs,SqL K H1 a xs)∧R (YV K a) H1))
theorem ZE{X:Cx}{elts:List Expr}{x1:Nat}{tpos:Pos}{a:Expr}{ta:TA}{p pos:Pos}(hg:Gl X "enumerate")(hm:X.mg "enumerate"=none)(ha:PA X [a] ta)(hs:AM [a] X.env=[(false,eval a X.env)]:=by rfl):PI X (.Tuple elts x1 tpos) (.Call (.Name "enumerate" p) [a] [] pos) (Va X.K ta):=by
 intro pins s σ H R I h
 refine Call_ (vy I hg hm boot_enumerate (CD (thn (ha pos pins s σ H _ I h) fun us s1 ⟨vs,H1,I1,r1,q1⟩=>?_) hs rfl))
 obtain⟨c,e,q⟩:=q1
 subst e
 cases r1 with
 |cons r rr=>
  cases rr
  cases r
  have fp:∀b∈[s1.heap.objs.size+1,s1.heap.objs.size],vg X pins H1 b:=fun b hb=>by
   have hb':s1.heap.objs.size≤b:=by
    rcases Ak.mp hb with z|hb
    . rw[z];exact Dd _
    . rw[Aq.mp hb];exact Ag _
   exact I1.bu hb' (I1.hok.fresh hb')
  rcases q with⟨⟨xs,hq⟩,q⟩|⟨⟨xs,hq⟩,q⟩
  . obtain⟨its,rv,pt,hz⟩:=I1.tuple hq
    refine qH (show s1.heap.IsTuple c its.toArray from pt) fun h' he hit hsz hk=>Ec he ?_
    exact⟨s1.heap.objs.size+1,[s1.heap.objs.size+1,s1.heap.objs.size],_,_,H1,rfl,I1.kept (t':=s1.toks) hk,gB c _ _ (Nat.succ_ne_self _),⟨⟨_,he⟩,hit⟩,fp,q⟩
  . obtain⟨its,rv,pt,hz⟩:=I1.list hq
    refine call_enumerate_list pt.isList fun h' he hit hsz hk=>Ec he ?_
    exact⟨s1.heap.objs.size+1,[s1.heap.objs.size+1,s1.heap.objs.size],_,_,H1,rfl,I1.kept (t':=s1.toks) hk,kG c _ _ (Nat.succ_ne_self _),⟨⟨_,he⟩,hit⟩,fp,q⟩
end L2
end
section
namespace L2
open PySem PyProof.Rows
noncomputable def intsOf:List Expr→Option (List Int)
 |[]=>some []
 |.Constant (.int i) _ _::es=>(intsOf es).map fun r=>i::r
 |.UnaryOp .USub (.Constant (.int i) _ _) _::es=>(intsOf es).map fun r=>-i::r
 |_=>none
end L2
end
section
namespace L2
open PySem PyProof.Rows
section
variable {X:Cx}{a b:Expr}{rest:List Expr}{ta tb:TE}{pos:Pos}
noncomputable def Tw(K:Af)(ta tb:TE):TE:=fun σ H Q=>ta σ H fun x H1=>∃c,bS K x H1 c∧if c=true then Q x H1 else tb σ H1 Q
theorem WX(ha:PE X a ta)(hb:PE X (.BoolOp .Or (b::rest) pos) tb):PE X (.BoolOp .Or (a::b::rest) pos) (Tw X.K ta tb):=by
 intro pins s σ H Q I h
 refine BoolOp_or (thn (ha pins s σ H _ I h) fun v s1 ⟨x,H1,I1,r1,c,ht,q1⟩=>?_)
 refine thn (bC pins s1 σ H1 x v (fun k H2=>if k=true then Q x H2 else tb σ H2 Q) I1 r1 ⟨c,ht,q1⟩) fun k s2 ⟨H2,I2,q2⟩=>?_
 cases k with
 |false=>exact hb pins s2 σ H2 Q I2 q2
 |true=>exact⟨x,H2,I2,r1,q2⟩
end
noncomputable def vK(n:Nat)(lo hi:Option Int)(c:Int):Int × Nat:=((Bw lo hi (some c) n).1,(if c > 0 then (if (Bw lo hi (some c) n).1<(Bw lo hi (some c) n).2.1 then ((Bw lo hi (some c) n).2.1-(Bw lo hi (some c) n).1+c-1)/c else 0) else (if (Bw lo hi (some c) n).1 > (Bw lo hi (some c) n).2.1 then ((Bw lo hi (some c) n).1-(Bw lo hi (some c) n).2.1-c-1)/(-c) else 0):Int).toNat)
theorem vQ(its:List Value)(lo hi:Option Int)(c:Int):GZ its.toArray lo hi (some c)=(zv its (vK its.length lo hi c).1 c (vK its.length lo hi c).2).toArray:=by
 unfold GZ sliceRange zv vK
 rw[B5]
 refine congrArg List.toArray ?_
 have e:(Bw lo hi (some c) its.toArray.size).2.2=c:=rfl
 rw[e]
 simp only[Ah]
 refine congrArg (fun f=>List.filterMap f _) ?_
 funext k
 show its.toArray[_]?=_
 rw[CL,Int.mul_comm]
noncomputable def Um(K:Af):V→Option Int→Option Int→Option Int→Hp→VK→Prop:=fun x lo hi st H Q=>∃a xs c,x=.ref a∧SqL K H a xs∧st=some c∧c≠0∧∀p,H p=none→Q (.ref p) (upd H p (.lst (zv xs (vK xs.length lo hi c).1 c (vK xs.length lo hi c).2)))
theorem lV{X:Cx}{e:Expr}{te:TE}{lo hi:Option Expr}{st:Expr}{tl th tc:TO}{pos p2:Pos}(he:PE X e te)(hl:PO X lo tl)(hu:PO X hi th)(hc:PO X (some st) tc):PE X (.Subscript e (.Slice lo hi (some st) p2) pos) (U4 (Um X.K) te tl th tc):=by
 intro pins s σ H Q I h
 refine GN (thn (he pins s σ H _ I h) fun v s1 ⟨x,H1,I1,r1,q1⟩=>?_)
 refine wpAny_Slice (thn (hl pins s1 σ H1 _ I1 q1) fun vl s2 ⟨l,H2,I2,pl,q2⟩=>thn (hu pins s2 σ H2 _ I2 q2) fun vu s3 ⟨u,H3,I3,pu,q3⟩=>thn (hc pins s3 σ H3 _ I3 q3) fun vc s4 ⟨c,H4,I4,pc,q4⟩=>?_)
 obtain⟨a,xs,cc,rfl,hx,ec,h0,g⟩:=q4
 subst ec
 cases r1
 have I5:Inv X pins σ H4 {s4 with heap:=s4.heap.push {cls:=.type "slice",data:=.fields #[vl,vu,vc]}}:=I4.kept (t':=s4.toks) fun b ob q=>Ad _ q
 obtain⟨its,r,ht,hz⟩:=I5.list hx
 have hlen:=r.length
 show wpAny (model X.prog X.w) X.A (Fv e (.Slice lo hi (some st) p2) (.ref a) (.ref s4.heap.objs.size)) (EP X pins σ Q) X.xe {s4 with heap:=s4.heap.push {cls:=.type "slice",data:=.fields #[vl,vu,vc]}}
 refine tail_any (ops:=[.ref a,.ref s4.heap.objs.size]) ht.isList.typeIs FK.lookup (F1 ht.isList (Fg ..) pl pu pc (fun z=>h0 (AF z)) ?_ (by rw[Ah]<;>omega)) (by with_unfolding_all rfl)
 rw[vQ,←hlen]
 refine⟨.ref _,_,I5.laid (t':=s4.toks) (o:=.lst (zv xs (vK xs.length l u cc).1 cc (vK xs.length l u cc).2)) (fun b ob q=>Ad _ q) (Ag _) ?_,rfl,g _ (I5.hok.fresh (Ag _))⟩
 have rp:=r.zv (vK xs.length l u cc).1 cc (vK xs.length l u cc).2
 have bound:(zv xs (vK xs.length l u cc).1 cc (vK xs.length l u cc).2).length≤xs.length:=by
  have:=slicePick_size_le its.toArray l u (some cc)
  rw[vQ,Ah,Ah,←hlen,←rp.length]at this
  exact this
 exact⟨Ax bound hz,_,0,rp,Ay _ rfl⟩
end L2
end
section
namespace L2
open PySem PyProof PyProof.Rows
section
variable {X:Cx}
noncomputable def Vr(z:Str)(ys:List Str):Str:=Txt.join z ys
end
end L2
end
section
namespace L2
open PySem PySem.Spec PyProof PyProof.Rows
section
variable {X:Cx}
noncomputable def Uv(ns:List Int):Bool:=decide (ns.length≤1000)&&ns.all fun n=>decide (-1000000≤n)&&decide (n≤1000000)
end
end L2
end
section
namespace L2
open PySem PySem.W PySem.Calls PyProof PyProof.Rows
open AutoSeq1 (wpAny_loadPart')
open SeqAt
theorem fB{x:V}:∀{xs:List V} {us:List Value},Vals xs us→xs.all w9=true→us.map (eqU x)=xs.map fun y=>eqV y x
 |_,_,.nil,_=>rfl
 |y::ys,u::us,.cons r rs,h=>by
  rw[Dx,Aa]at h
  rw[AK,AK,fB rs h.2,my r h.1]
theorem rM:∀{ns:List Int} {us:List Value},Vals (ns.map V.int) us→IntsAre us ns
 |[],_,.nil=>.nil
 |n::ns,_,.cons ⟨t,e⟩ r=>by subst e;exact .cons _ _ (rM r)
section
variable {X:Cx}
noncomputable def d8(K:Af)(g:List Int→Int):List V→Hp→VK→Prop:=fun xs H Q=>∃(a:Addr) (ns:List Int),xs=[.ref a]∧SqT K H a (ns.map V.int)∧ns≠[]∧Q (.int (g ns)) H
theorem jj(hc:X.calm=true):yI X (.builtin "max") (d8 X.K (vB 0)):=by
 intro pins s σ H xs us Q I r h
 obtain⟨a,ns,rfl,ha,hne,q⟩:=h
 obtain⟨u,rfl,ru⟩:=vals1 r
 cases ru
 obtain⟨its,rv,pl,hz⟩:=I.tuple ha
 have hlen:=rv.length
 have alt:a<s.heap.objs.size:=by obtain⟨o,ho,_⟩:=id pl;exact An ho
 have hl:its.toArray.size=ns.length:=by rw[Ah,←hlen,Ai]
 have hpos:0<ns.length:=BY.mpr hne
 have hat:∀(i:Nat) (v:Value),its.toArray[i]?=some v→∃t,v=.int (ns.getD i 0) t:=fun i v hv=>rv.ints (by simpa using hv)
 refine call_max_walk (B3 pl ?_)
 refine⟨s.heap.objs.size,_,_,_,_,_,_,rfl,Walks.tuple (A:=X.A.in1) (I.ok.hd hc) s.heap.objs.size a (AD alt) its.toArray,⟨⟨_,Ay _ rfl,rfl,rfl⟩,?_⟩,fun b hb=>?_,by omega,CmpOf.ints_gt (fun i=>ns.getD i 0) hat,fun v h' tk hP hk=>?_⟩
 . obtain⟨o,ho,hc',n,hd⟩:=id pl
   exact⟨o,Ad _ ho,hc',n,hd⟩
 . rw[A4]
   simp only[Ak,BB,or_false]at hb
   rcases hb with e|e
   . rw[e];exact Cw _
   . rw[e];exact BC alt
 . obtain⟨t,rfl⟩:=hat _ _ hP
   obtain⟨b1,b2⟩:=argBest_gt (fun i=>ns.getD i 0) (its.toArray.size-1)
   have e:vB 0 ns=ns.getD (argBest (fun i j=>decide (ns.getD i 0 > ns.getD j 0)) (its.toArray.size-1)) 0:=by
    refine nW ?_ fun x hx=>?_
    . have:argBest (fun i j=>decide (ns.getD i 0 > ns.getD j 0)) (its.toArray.size-1)<ns.length:=by omega
      rw[Aw,Ae this];exact B2 this
    . obtain⟨i,hi,rfl⟩:=Bu hx
      have:=b2 i (by omega)
      simpa [Aw,Ae hi] using this
   refine⟨.int (vB 0 ns),H,I.kept fun b o ho=>hk b o ?_ (Ad _ ho),⟨t,by rw[e]⟩,q⟩
   simpa using AD (An ho)
theorem mn(hc:X.calm=true):yI X (.builtin "min") (d8 X.K (vO 0)):=by
 intro pins s σ H xs us Q I r h
 obtain⟨a,ns,rfl,ha,hne,q⟩:=h
 obtain⟨u,rfl,ru⟩:=vals1 r
 cases ru
 obtain⟨its,rv,pl,hz⟩:=I.tuple ha
 have hlen:=rv.length
 have alt:a<s.heap.objs.size:=by obtain⟨o,ho,_⟩:=id pl;exact An ho
 have hl:its.toArray.size=ns.length:=by rw[Ah,←hlen,Ai]
 have hpos:0<ns.length:=BY.mpr hne
 have hat:∀(i:Nat) (v:Value),its.toArray[i]?=some v→∃t,v=.int (ns.getD i 0) t:=fun i v hv=>rv.ints (by simpa using hv)
 refine call_min_walk (B3 pl ?_)
 refine⟨s.heap.objs.size,_,_,_,_,_,_,rfl,Walks.tuple (A:=X.A.in1) (I.ok.hd hc) s.heap.objs.size a (AD alt) its.toArray,⟨⟨_,Ay _ rfl,rfl,rfl⟩,?_⟩,fun b hb=>?_,by omega,CmpOf.ints_lt (fun i=>ns.getD i 0) hat,fun v h' tk hP hk=>?_⟩
 . obtain⟨o,ho,hc',n,hd⟩:=id pl
   exact⟨o,Ad _ ho,hc',n,hd⟩
 . rw[A4]
   simp only[Ak,BB,or_false]at hb
   rcases hb with e|e
   . rw[e];exact Cw _
   . rw[e];exact BC alt
 . obtain⟨t,rfl⟩:=hat _ _ hP
   obtain⟨b1,b2⟩:=argBest_lt (fun i=>ns.getD i 0) (its.toArray.size-1)
   have e:vO 0 ns=ns.getD (argBest (fun i j=>decide (ns.getD i 0<ns.getD j 0)) (its.toArray.size-1)) 0:=by
    refine nY ?_ fun x hx=>?_
    . have:argBest (fun i j=>decide (ns.getD i 0<ns.getD j 0)) (its.toArray.size-1)<ns.length:=by omega
      rw[Aw,Ae this];exact B2 this
    . obtain⟨i,hi,rfl⟩:=Bu hx
      have:=b2 i (by omega)
      simpa [Aw,Ae hi] using this
   refine⟨.int (vO 0 ns),H,I.kept fun b o ho=>hk b o ?_ (Ad _ ho),⟨t,by rw[e]⟩,q⟩
   simpa using AD (An ho)
end
end L2
end
section
namespace L2
open PySem PySem.W PySem.Calls PyProof PyProof.Rows
def gM(prog:Program)(w:World)(A:Around)(P:Nat→Value→Prop)(bt:Nat→Nat→Bool)(St:Nat→Heap→Prop):Prop:=
 ∀m i j vi vj (s:Shared) (Q:Value→Shared→Prop) (E:Value→Shared→Prop),St m s.heap→P i vi→P j vj→Q (.bool (bt i j)) s→wpAny (model prog w) A (richCompare .Lt vi vj) Q E s
section
variable {prog:Program}{w:World}{A:Around}{R:Result→Shared→Prop}{I:Addr}{fp wr:List Addr}{n:Nat}{P:Nat→Value→Prop}{St:Nat→Heap→Prop}
theorem iM(W:Walks prog w A.in1 I fp wr n P St)(bt:Nat→Nat→Bool)(hcmp:gM prog w A.in1 P bt St)(S:Addr)(hSf:S ∉ fp) :
 ∀(k j:Nat) (s:Shared) (vb:Value) (c:Nat),n-(j+1)=k→j+1≤n→St (j+1) s.heap→P (argBest bt j) vb →
 s.heap.get? S=some {cls:=.type "list",dict:=none,data:=.seq #[vb,vb] c,slots:=#[]} →
 (∀v h' tk,P (argBest bt (n-1)) v→(∀b o,b ∉ wr→b≠S→s.heap.get? b=some o→h'.get? b=some o)→R (.ok (.ret v)) {s with heap:=h',toks:=tk}) →
 codeAny (model prog w) A (.builtin "min.loop" ⟨[.ref I,.none,.ref S],[]⟩) R s:=by
 have hSw:S ∉ wr:=fun h=>hSf (W.sub _ h)
 have hname:(DP "min"++DP ".loop":String)="min.loop":=by decide
 intro k
 induction k with
 |zero=>
  intro j s vb c hk hj hst hPb hS hR
  have hin:j+1=n:=by omega
  refine DG Gb ?_
  rw[EN Cy _]
  show wpAny _ A.in1 (Fj (.ref S) >>= _) _ _ s
  refine Ac (D2 hS rfl ?_)
  show wpAny _ A.in1 (tryCatch (pyNext (.ref I)) _ >>= _) _ _ s
  refine Ac (E6 (W.done s _ _ (hin▸hst) fun h' tk hk'=>?_))
  have hS':=hk' S _ hSw hS
  show wpAny _ A.in1 (updateSeq S (fun _=>#[]) >>= _) _ _ _
  refine Ac ?_
  refine Gv hS' rfl (Ac (Fb (Al ?_)))
  refine hR vb _ tk (by rw[←hin];exact hPb) fun b o hbw hbS e=>(Br _ _ (Bp hbS)).trans (hk' b o hbw e)
 |succ k ih=>
  intro j s vb c hk hj hst hPb hS hR
  have hlt:j+1<n:=by omega
  refine DG Gb ?_
  rw[EN Cy _]
  show wpAny _ A.in1 (Fj (.ref S) >>= _) _ _ s
  refine Ac (D2 hS rfl ?_)
  show wpAny _ A.in1 (tryCatch (pyNext (.ref I)) _ >>= _) _ _ s
  refine Ac (E6 (W.item (j+1) s _ _ hlt hst fun v h' tk hP hst' hk'=>?_))
  have hS':=hk' S _ hSw hS
  show wpAny _ A.in1 (tryCatch (holding [v,v] (richCompare .Lt v vb >>= _)) _ >>= _) _ _ _
  refine Ac (E6 (BV (Ac (hcmp (j+2) (j+1) (argBest bt j) v vb _ _ _ hst' hP hPb ?_))))
  refine Ac (BV (Bv ?_))
  refine Ac (Fb (Al ?_))
  cases hb:bt (j+1) (argBest bt j) with
  |true=>
   simp only[if_true]
   refine Ac ?_
   refine Gv hS' rfl (Ac (Fb ?_))
   rw[hname]
   refine Al ⟨Fy Cy _,ih (j+1) _ v _ (by omega) hlt (W.frame _ _ _ hst' fun b hbf o e=>?_) (by simp only[argBest,hb,if_true];exact hP) (CJ _ hS' rfl)
    fun v' h'' tk'' hP' hk''=>?_⟩
   . exact(Br _ _ (fun h:S=b=>hSf (by rw[h];exact hbf))).trans e
   . exact hR v' h'' tk'' hP' fun b o hbw hbS e=>hk'' b o hbw hbS ((Br _ _ (Bp hbS)).trans (hk' b o hbw e))
  |false=>
   simp only[AV,if_false]
   refine Ac (Fb ?_)
   rw[hname]
   refine Al ⟨Fy Cy _,ih (j+1) _ vb c (by omega) hlt hst' (by simp only[argBest,hb,AV,if_false];exact hPb) hS' fun v' h'' tk'' hP' hk''=>?_⟩
   exact hR v' h'' tk'' hP' fun b o hbw hbS e=>hk'' b o hbw hbS (hk' b o hbw e)
theorem sE(W:Walks prog w A.in1 I fp wr n P St)(bt:Nat→Nat→Bool)(hcmp:gM prog w A.in1 P bt St)(S:Addr)(hSf:S ∉ fp)(hn:0<n){s:Shared}{c:Nat}(hst:St 0 s.heap)
 (hS:s.heap.get? S=some {cls:=.type "list",dict:=none,data:=.seq #[] c,slots:=#[]})
 (hR:∀v h' tk,P (argBest bt (n-1)) v→(∀b o,b ∉ wr→b≠S→s.heap.get? b=some o→h'.get? b=some o)→R (.ok (.ret v)) {s with heap:=h',toks:=tk}) :
 codeAny (model prog w) A (.builtin "min.loop" ⟨[.ref I,.none,.ref S],[]⟩) R s:=by
 have hSw:S ∉ wr:=fun h=>hSf (W.sub _ h)
 have hname:(DP "min"++DP ".loop":String)="min.loop":=by decide
 refine DG Gb ?_
 rw[EN Cy _]
 show wpAny _ A.in1 (Fj (.ref S) >>= _) _ _ s
 refine Ac (D2 hS rfl ?_)
 show wpAny _ A.in1 (tryCatch (pyNext (.ref I)) _ >>= _) _ _ s
 refine Ac (E6 (W.item 0 s _ _ hn hst fun v h' tk hP hst' hk'=>?_))
 have hS':=hk' S _ hSw hS
 show wpAny _ A.in1 (updateSeq S (fun _=>#[v,v]) >>= _) _ _ _
 refine Ac ?_
 refine Gv hS' rfl ?_
 rw[hname]
 refine Al ⟨Fy Cy _,iM W bt hcmp S hSf _ 0 _ v _ rfl hn (W.frame _ _ _ hst' fun b hbf o e=>?_) hP (CJ _ hS' rfl) fun v' h'' tk'' hP' hk''=>?_⟩
 . exact(Br _ _ (fun h:S=b=>hSf (by rw[h];exact hbf))).trans e
 . exact hR v' h'' tk'' hP' fun b o hbw hbS e=>hk'' b o hbw hbS ((Br _ _ (Bp hbS)).trans (hk' b o hbw e))
end
section
variable {prog:Program}{w:World}{A:Around}{E:Value→Shared→Prop}{s:Shared}
theorem call_min_walkS{x:Value}{Q:Value→Shared→Prop}
 (h:wpAny (model prog w) A.in1 (pyIter x) (fun it s₂=>∃I fp wr n P St bt,it=.ref I∧Walks prog w A.in1 I fp wr n P St∧St 0 s₂.heap∧(∀b∈fp,b<s₂.heap.objs.size)∧0<n∧gM prog w A.in1 P bt St ∧
  ∀v h' tk,P (argBest bt (n-1)) v→(∀b o,b ∉ wr→s₂.heap.get? b=some o→h'.get? b=some o)→Q v {s₂ with heap:=h',toks:=tk}) E s) :
 wpAny (model prog w) A (call (.builtin "min") [x]) Q E s:=by
 have hname:(DP "min"++DP ".loop":String)="min.loop":=by decide
 refine call_function_tree F.kind_min F.plain_min F.entry_min (F.args_min1 _) ?_
 show wpAny _ A.in1 (Fm "min" ["key","default"] 0 ⟨[],[]⟩ >>= _) _ _ s
 refine Ac (wpAny_of_eq (show Fm "min" ["key","default"] 0 ⟨[],[]⟩=pure [none,none] from rfl) ?_)
 refine Ac (Al ?_)
 refine Ac (A9 h (fun it s₂ h₂=>?_) fun _ _ e=>e)
 obtain⟨I,fp,wr,n,P,St,bt,rfl,W,hst,hfp,hn,hcmp,hQ⟩:=h₂
 refine Ac (Be ?_)
 have hSf:s₂.heap.objs.size ∉ fp:=fun hm=>Bb _ (hfp _ hm)
 rw[hname]
 refine Al ⟨Fy Cy _,sE W bt hcmp s₂.heap.objs.size hSf hn (W.frame _ _ _ hst fun b _ o e=>Ad _ e) (Ay _ rfl) fun v h' tk hP hk=>?_⟩
 exact hQ v h' tk hP fun b o hbw e=>hk b o hbw (AD (An e)) (Ad _ e)
end
end L2
end
section
namespace L2
open PySem PySem.W PySem.Calls PyProof PyProof.Rows
open AutoSeq1 (wpAny_loadPart')
open SeqAt
noncomputable def wX:List Int→List Int→Bool
 |[],[]=>false
 |[],_::_=>true
 |_::_,[]=>false
 |x::xs,y::ys=>if x=y then wX xs ys else decide (x<y)
end L2
namespace L2
open PySem PySem.W PySem.Calls PyProof PyProof.Rows
theorem kK{prog:Program}{w:World}{A:Around}{I:Addr}{fp wr:List Addr}{n:Nat}{P:Nat→Value→Prop}{St:Nat→Heap→Prop}(W:Walks prog w A I fp wr n P St)(tps:List Addr)(G:Heap→Prop)
 (hG:∀h h',(∀b∈tps,∀o,h.get? b=some o→h'.get? b=some o)→G h→G h') (hd:∀b∈tps,b ∉ wr):Walks prog w A I (fp++tps) wr n P (fun i h=>St i h∧G h) where
 sub:=fun b hb=>Bc _ (W.sub b hb)
 frame:=fun i h h' st hk=>⟨W.frame i h h' st.1 fun b hb=>hk b (Bc _ hb),hG h h' (fun b hb=>hk b (AU _ hb)) st.2⟩
 item:=fun i s Q E hi st hQ=>W.item i s Q E hi st.1 fun v h' tk hp hs hk=>hQ v h' tk hp ⟨hs,hG _ _ (fun b hb o e=>hk b o (hd b hb) e) st.2⟩ hk
 done:=fun s Q E st hQ=>W.done s Q E st.1 hQ
 self:=fun i s Q E st hQ=>W.self i s Q E st.1 hQ
noncomputable def oE:List (List Int)→List Int
 |[]=>[]
 |z::t=>t.foldl (fun m y=>if wX y m then y else m) z
theorem kU{bt:Nat→Nat→Bool}:∀k,argBest bt k≤k
 |0=>Ag _
 |k+1=>by
  unfold argBest
  have:=kU (bt:=bt) k
  split<;>omega
theorem qX(zs:List (List Int)):∀k,k<zs.length→zs.getD (argBest (fun i j=>wX (zs.getD i []) (zs.getD j [])) k) []=((zs.drop 1).take k).foldl (fun m y=>if wX y m then y else m) (zs.getD 0 [])
 |0,_=>rfl
 |k+1,h=>by
  have ih:=qX zs k (by omega)
  have ht:(zs.drop 1).take (k+1)=(zs.drop 1).take k++[zs.getD (k+1) []]:=by
   rw[List.take_add_one]
   congr 1
   rw[List.getElem?_drop,show 1+k=k+1 by omega,Ae h,Aw,Ae h];rfl
  rw[ht,List.foldl_append,←ih]
  show zs.getD (argBest _ (k+1)) []=if wX (zs.getD (k+1) []) (zs.getD (argBest _ k) []) then zs.getD (k+1) [] else zs.getD (argBest _ k) []
  show zs.getD (if wX (zs.getD (k+1) []) (zs.getD (argBest _ k) []) then k+1 else argBest _ k) []=_
  split<;>rfl
theorem gY{zs:List (List Int)}(h:zs≠[]):zs[argBest (fun i j=>wX (zs.getD i []) (zs.getD j [])) (zs.length-1)]?=some (oE zs):=by
 have hpos:0<zs.length:=BY.mpr h
 have hle:=kU (bt:=fun i j=>wX (zs.getD i []) (zs.getD j [])) (zs.length-1)
 have hlt:argBest (fun i j=>wX (zs.getD i []) (zs.getD j [])) (zs.length-1)<zs.length:=by omega
 have hb:=qX zs (zs.length-1) (by omega)
 rw[Aw,Ae hlt]at hb
 rw[Ae hlt]
 congr 1
 refine GP hb ?_
 cases zs with
 |nil=>exact absurd rfl h
 |cons z t=>rw[List.drop_succ_cons,Dk,List.take_of_length_le (by rw[Ar];omega)];rfl
theorem jz{us:List Value}{z:List Int}(h:oy us z):IntsAre us z:=by
 induction h with
 |nil=>exact .nil
 |cons _ ih=>exact .cons _ _ ih
end L2
end
section
namespace PySem
open Sem (wp)
section
variable {prog:Program}{w:World}{A:Around}{E:Value→Shared→Prop}{s:Shared}
theorem sx{l:Addr}{items:Array Value}{ns:List Int}{Q:Value→Shared→Prop}
 (hh:A.handled=none) (hl:s.heap.IsTuple l items) (hi:PyProof.Rows.IntsAre items.toList ns) (hb:items.size+1<scanBound)
 (h:∀(h':Heap) (tk:Nat),h'.SetOf (intKind prog w) s.heap.objs.size (fun k'=>(CM (fun i=>ns.getD i 0) items.size).any (· == k')) (CM (fun i=>ns.getD i 0) items.size).length →
  (∀b o,b<s.heap.objs.size→s.heap.get? b=some o→h'.get? b=some o)→Q (.ref s.heap.objs.size) {s with heap:=h',toks:=tk}) :
 wpAny (model prog w) A (call (.type "set") [.ref l]) Q E s:=by
 obtain⟨c,tl,hmro⟩:=C0.mro
 have hmade:=C0.made
 have hsub:=C0.sub
 refine DZ (codeAny_of_tree ?_)
 show wpAny _ _ (callAny (.type "set") _) _ _ _
 refine Al ⟨DQ _ (by decide +kernel),DG F.entry_type_call ?_⟩
 rw[Around.under_plain (weight_type_call_type "set" [.ref l] []) rfl]
 have h1:=C0.notType
 have h2:=C0.canCreate
 have hct:=F.typeCall_set_1 (.ref l)
 repeat (any_goals (first|assumption|wp_step))
 refine CG (code_set_new_1 (.ref l) (E:=E) (Q₁:=fun obj s₁=>∃led:Bool,obj=.ref s.heap.objs.size∧s₁={s with heap:=s.heap.push {cls:=.type "set",dict:=none,data:=.set #[] 0 (.fresh 0 0 led)}}) fun led=>⟨led,rfl,rfl⟩) fun r s₁ hr=>?_
 cases r with
 |error e=>exact hr
 |ok fl=>
  cases fl with
  |ret obj=>
   obtain⟨led,rfl,rfl⟩:=hr
   have hS:(s.heap.push {cls:=.type "set",dict:=none,data:=.set #[] 0 (.fresh 0 0 led)}).get? s.heap.objs.size=some {cls:=.type "set",dict:=none,data:=.set #[] 0 (.fresh 0 0 led)}:=Ay _ rfl
   have hT:Shared.TypeIs {s with heap:=s.heap.push {cls:=.type "set",dict:=none,data:=.set #[] 0 (.fresh 0 0 led)}} (.ref s.heap.objs.size) "set":=⟨_,hS,rfl⟩
   have hli:=C0.init.lookup
   have hbi:=C0.init.bind (.ref s.heap.objs.size)
   repeat (any_goals (first|assumption|wp_step))
   refine CG (Ds (R:=wants (fun r s₂=>r=.none∧∃h' tk,s₂={s with heap:=h',toks:=tk} ∧
    h'.SetOf (intKind prog w) s.heap.objs.size (fun k'=>(CM (fun i=>ns.getD i 0) items.size).any (· == k')) (CM (fun i=>ns.getD i 0) items.size).length ∧
    (∀b o,b<s.heap.objs.size→s.heap.get? b=some o→h'.get? b=some o)) E) C0.init.plain F.entry_set_init (check_set_init_1 hT ?_)) fun r₂ s₂ hr₂=>?_
   . obtain⟨ol,hol,hcl,nl,hdl⟩:=hl
     obtain⟨ocls,odict,odata,oslots⟩:=ol
     simp only at hcl hdl
     subst hcl;subst hdl
     have hol':(s.heap.push {cls:=.type "set",dict:=none,data:=.set #[] 0 (.fresh 0 0 led)}).get? l=some {cls:=.type "tuple",dict:=odict,data:=.seq items nl,slots:=oslots}:=Ad _ hol
     have hsls:=F.sub_tuple_set
     have hslf:=F.sub_tuple_frozenset
     have hne:(DX "tuple" == DX "dict")=false:=by decide
     have hl1:(s.heap.push {cls:=.type "set",dict:=none,data:=.set #[] 0 (.fresh 0 0 led)}).IsTuple l items:=⟨_,hol',rfl,nl,rfl⟩
     unfold Builtin.«set.__init__» noKeywords Builtin.Frozenset.updateFrom
     generalize hPI:pyIter=PI
     wp_walk
     subst hPI
     refine B3 hl1 ?_
     refine Ac (wpAny_runValue ?_)
     have hlS:l<s.heap.objs.size:=An hol
     have hh3:A.in1.in1.in1.handled=none:=by simp[hh]
     have hneI:l≠(s.heap.push {cls:=.type "set",dict:=none,data:=.set #[] 0 (.fresh 0 0 led)}).objs.size:=by
      rw[A4];exact AD (BC hlS)
     have hSf:s.heap.objs.size ∉ [(s.heap.push {cls:=.type "set",dict:=none,data:=.set #[] 0 (.fresh 0 0 led)}).objs.size,l]:=by
      rw[A4];simp only[Ak,Aq,BB,or_false,not_or]
      exact⟨AD (Cw _),Dh hlS⟩
     have hval:∀(i:Nat) (v:Value),items[i]?=some v→∃t,v=.int ((fun i=>ns.getD i 0) i) t:=fun i v hv=>
      PyProof.Rows.IntsAre.int_at hi i v (by rw[Array.getElem?_toList];exact hv)
     refine PyProof.Rows.codeAny_set_update_loopS ((Walks.tuple hh3 _ l hneI items).toS) s.heap.objs.size
      hSf (fun i=>ns.getD i 0) hval hb (items.size-0) 0 _ (by omega) (A8 _)
      ⟨⟨_,Ay _ rfl,rfl,rfl⟩,(hl1.push _)⟩ ?hS0 ?hR
     case hS0=>
      have hget:((s.heap.push {cls:=.type "set",dict:=none,data:=.set #[] 0 (.fresh 0 0 led)}).push {cls:=.type "tuple_iterator",data:=.fields #[.ref l,.int 0 0]}).get? s.heap.objs.size
       = some {cls:=.type "set",dict:=none,data:=.set #[] 0 (.fresh 0 0 led)}:=Ad _ hS
      exact PyProof.Rows.SetOf_congr ((PyProof.Rows.setObjOf_fresh (knd:=intKind prog w) led).setOf hget (by unfold scanBound;omega)) (fun _=>rfl) rfl
     case hR=>
      intro s' hm hS'
      obtain⟨h',g',d',tk',os'⟩:=s'
      have eg:g'=s.gens:=hm.gens
      have ed:d'=s.drawn:=hm.drawn
      have eo:os'=s.os:=hm.os
      subst eg;subst ed;subst eo
      show wpAny _ _ _ _ _ _
      refine Al ?_
      show wpAny _ _ (ret B9) _ _ _
      refine Al ⟨rfl,h',tk',rfl,hS',fun b o hb e=>?_⟩
      have hb1:b≠s.heap.objs.size:=AD hb
      have hb2:b≠(s.heap.push {cls:=.type "set",dict:=none,data:=.set #[] 0 (.fresh 0 0 led)}).objs.size:=by
       rw[A4];exact AD (BC hb)
      exact hm.heap b o (by simp only[Ak,Aq,BB,or_false,not_or];exact⟨hb1,hb2⟩) (Ad _ (Ad _ e))
   . cases r₂ with
     |error e=>exact hr₂
     |ok fl₂=>
      cases fl₂ with
      |ret r=>
       obtain⟨rfl,h',tk,rfl,hS',hk'⟩:=hr₂
       repeat (any_goals (first|assumption|wp_step))
       exact h _ _ hS' hk'
      |_=>exact hr₂.elim
  |_=>exact hr.elim
end
end PySem
end
section
namespace L2
open PySem PySem.W PySem.Calls PyProof PyProof.Rows
noncomputable def dN(ns:List Int):Nat:=(firstMet (fun i=>ns.getD i 0) ns.length).length
theorem jo{X:Cx}(hc:X.calm=true):yI X (.type "set") (fun xs H Q=>∃p ns,xs=[.ref p]∧(SqL X.K H p (ns.map V.int)∨SqT X.K H p (ns.map V.int))∧ns.length≤1000∧∀l S,H l=none→Q (.ref l) (upd H l (.set S (dN ns)))):=by
 intro pins s σ H xs us Q I r h
 obtain⟨p,ns,rfl,hq,h1000,q⟩:=h
 obtain⟨u,rfl,rx⟩:=vals1 r
 cases rx
 have hsb:scanBound=4096:=rfl
 rcases hq with hq|hq
 . obtain⟨its,rv,pl,hz⟩:=I.list hq
   have hl:=rv.length
   rw[Ai]at hl
   refine call_set_list (ns:=ns) (I.ok.hd hc) pl.isList (by simpa using rM rv) (by rw[Ah];omega) fun h' tk hS kp=>?_
   rw[show its.toArray.size=ns.length by rw[Ah];omega]at hS
   exact⟨.ref _,_,I.laid (t':=tk) (o:=.set _ (dN ns)) (fun b o e=>kp b o (An e) e) (Ag _) (show z9 X.prog X.w _ _ _ (.set _ (dN ns)) from hS),rfl,q _ _ (I.hok.fresh (Ag _))⟩
 . obtain⟨its,rv,p1,_⟩:=I.tuple hq
   have hl:=rv.length
   rw[Ai]at hl
   refine sx (ns:=ns) (I.ok.hd hc) p1 (by simpa using rM rv) (by rw[Ah];omega) fun h' tk hS kp=>?_
   rw[show its.toArray.size=ns.length by rw[Ah];omega]at hS
   exact⟨.ref _,_,I.laid (t':=tk) (o:=.set _ (dN ns)) (fun b o e=>kp b o (An e) e) (Ag _) (show z9 X.prog X.w _ _ _ (.set _ (dN ns)) from hS),rfl,q _ _ (I.hok.fresh (Ag _))⟩
theorem jf{X:Cx}:yI X (.builtin "len") (fun xs H Q=>∃p S n,xs=[.ref p]∧H p=some (.set S n)∧n≤1000∧Q (.int (n:Nat)) H):=by
 intro pins s σ H xs us Q I r h
 obtain⟨p,S,n,rfl,hp,hn,q⟩:=h
 obtain⟨u,rfl,rx⟩:=vals1 r
 cases rx
 obtain⟨o,es,ep,t,ho,hex,hd,_,_,_,hf,e⟩:=(show s.heap.SetOf (intKind X.prog X.w) p S n from I.hok p _ hp)
 subst e
 exact call_len_set ho hex hd hf (by omega) ⟨.int _,H,I.tok _,⟨_,rfl⟩,q⟩
theorem VT(ns:List Int):dN ns≤ns.length:=firstMet_length_le _ _
end L2
end
section
namespace L2
open PySem PySem.W PySem.Calls PyProof PyProof.Rows
open AutoSeq1 (wpAny_loadPart')
open SeqAt
def HdI(x:Str)(us:List Value)(as:List Int):Prop:=∃t us',us=.str x t::us'∧IntsAre us' as
theorem gA(tx:Str)(x y:Addr)(xs ys:Array Value)(n k:Nat)(d1 d2:Option Addr)(sl1 sl2:Array (Option Value))(as bs:List Int)(h1:HdI tx xs.toList as)(h2:HdI tx ys.toList bs) :
 Meets (Builtin.«tuple.__lt__» ⟨[.ref x,.ref y],[]⟩)
  (fun A R s=>s.heap.get? x=some {cls:=.type "tuple",dict:=d1,data:=.seq xs n,slots:=sl1}∧s.heap.get? y=some {cls:=.type "tuple",dict:=d2,data:=.seq ys k,slots:=sl2}∧R (.ok (.ret (.bool (wX as bs)))) s):=
 .of_wp fun prog w A R s h=>by
  obtain⟨hp,g,d,tk,os⟩:=s;obtain⟨hl,hb,h⟩:=h
  have f2:=AutoSeq1.sub_tuple_tuple
  have lenA:∀{vs:List Value} {ns:List Int},IntsAre vs ns→vs.length=ns.length:=fun h=>by
   induction h with
   |nil=>rfl
   |cons _ _ _ ih=>rw[Ar,Ar,ih]
  wp_walk using Bs hl,Bs hb,wpAny_forIn_list _ (fun rest b s'=>b.1=none∧s'=⟨hp,g,d,tk,os⟩∧((∃t1 t2 vs ws,rest=(DH tx t1,DH tx t2)::vs.zip ws∧IntsAre vs as∧IntsAre ws bs∧xs.size+bs.length=ys.size+as.length∧R (.ok (.ret (.bool (wX as bs)))) ⟨hp,g,d,tk,os⟩)∨∃vs ws cs ds,rest=vs.zip ws∧IntsAre vs cs∧IntsAre ws ds∧xs.size+ds.length=ys.size+cs.length∧R (.ok (.ret (.bool (wX cs ds)))) ⟨hp,g,d,tk,os⟩)) _
  case turn=>
   rintro ⟨u,v⟩ rest b s' ⟨hb',rfl,⟨t1,t2,vs,ws,hz,i1,i2,hn,hR⟩|⟨vs,ws,cs,ds,hz,i1,i2,hn,hR⟩⟩
   . injection hz with hu hr
     cases hu
     refine Ac (wpAny_eqBool_str ?_)
     rw[decide_eq_true rfl]
     wp_walk
     exact⟨rfl,rfl,.inr ⟨_,_,_,_,hr,i1,i2,hn,hR⟩⟩
   cases i1 with
   |nil=>cases hz
   |cons c t1 i1=>
    cases i2 with
    |nil=>rw[List.zip_nil_right]at hz;cases hz
    |cons e t2 i2=>
     rw[DR]at hz
     injection hz with hu hr
     cases hu
     refine Ac (wpAny_eqBool_int ?_)
     rw[wX]at hR
     by_cases hce:c=e
     . rw[if_pos hce]at hR
       rw[show (c == e)=true by rw[hce];exact beq_self_eq_true _]
       wp_walk
       exact⟨rfl,rfl,.inr ⟨_,_,_,_,hr,i1,i2,by rw[Ar,Ar]at hn;omega,hR⟩⟩
     . rw[if_neg hce]at hR
       rw[show (c == e)=false from beq_eq_false_iff_ne.mpr hce]
       simp only[Bool.not_false,if_true]
       refine Ac (EH (Ac ?_))
       refine lt_int ?_
       wp_walk
       exact⟨_,rfl,hR⟩
  case fin=>
   rintro ⟨b1,b2⟩ s' ⟨hb',rfl,⟨t1,t2,vs,ws,hz,i1,i2,hn,hR⟩|⟨vs,ws,cs,ds,hz,i1,i2,hn,hR⟩⟩
   . cases hz
   simp only at hb'
   subst hb'
   have e:Builtin.Tuple.tupleCompareSizes .Lt xs.size ys.size=Cz (wX cs ds):=by
    show Cz (decide (xs.size<ys.size))=_
    congr 1
    cases i1 with
    |nil=>
     cases i2 with
     |nil=>exact decide_eq_false (by rw[A7]at hn;omega)
     |cons _ _ _=>exact decide_eq_true (by rw[A7,Ar]at hn;omega)
    |cons _ _ _=>
     cases i2 with
     |nil=>exact decide_eq_false (by rw[A7,Ar]at hn;omega)
     |cons _ _ _=>rw[DR]at hz;cases hz
   wp_walk
   exact⟨_,rfl,by first|(rw[e];exact hR)|exact hR⟩
  case h=>
   obtain⟨t1,us1,e1,i1⟩:=h1
   obtain⟨t2,us2,e2,i2⟩:=h2
   refine⟨rfl,rfl,.inl ⟨t1,t2,us1,us2,by rw[e1,e2];rfl,i1,i2,?_,h⟩⟩
   have e3:=lenA i1
   have e4:=lenA i2
   have e5:=congrArg CW e1
   have e6:=congrArg CW e2
   rw[Cr,Ar]at e5 e6
   omega
def bR(K:Af)(H:Hp)(tx:Str)(ys:List V)(zs:List (List Int)):Prop:=ys.length=zs.length∧∀(i:Nat) (z:List Int),zs[i]?=some z→∃b,ys[i]?=some (V.ref b)∧SqT K H b (V.str tx::z.map V.int)
def SV(tx:Str)(h:Heap)(its:List Value)(zs:List (List Int)):Prop:=
 its.length=zs.length∧∀(i:Nat) (z:List Int),zs[i]?=some z→∃b o n us,its[i]?=some (A0 b)∧h.get? b=some o∧o.cls=.type "tuple"∧o.data=.seq (List.toArray us) n∧HdI tx us z
theorem bR.tv{X:Cx}{pins:List (Addr × Obj)}{σ:St}{H:Hp}{s:Shared}(I:Inv X pins σ H s){tx:Str}{ys:List V}{its:List Value}{zs:List (List Int)}(h:bR X.K H tx ys zs)(r:Vals ys its):SV tx s.heap its zs:=by
 refine⟨by rw[←r.length];exact h.1,fun i z e=>?_⟩
 obtain⟨b,e1,e2⟩:=h.2 i z e
 obtain⟨u,e3,ru⟩:=r.get e1
 obtain⟨us,rt,⟨o,ho,hc,n,hd⟩,_⟩:=I.tuple e2
 have ru':u=A0 b:=ru
 subst ru'
 cases rt with
 |cons r1 r2=>
  obtain⟨t,rfl⟩:=(show ∃t,_=DH tx t from r1)
  exact⟨b,o,n,_,e3,ho,hc,hd,t,_,rfl,jz (Zz r2)⟩
theorem jn{X:Cx}{k:Nat}{tx:Str}(hc:X.calm=true)(hr:yu k X.A):yI X (.builtin "min") (fun xs H Q=>∃a ys zs,xs=[.ref a]∧SqL X.K H a ys∧bR X.K H tx ys zs∧zs≠[]∧∀i,zs[i]?=some (oE zs)→Q (ys.getD i .non) H):=by
 intro pins s σ H xs us Q I r h
 obtain⟨a,ys,zs,rfl,ha,ht,hne,q⟩:=h
 obtain⟨u,rfl,ru⟩:=vals1 r
 cases ru
 obtain⟨its,rv,pl,hz⟩:=I.list ha
 have hlen:=rv.length
 have tv:=ht.tv I rv
 have hn:its.length=zs.length:=tv.1
 have alt:a<s.heap.objs.size:=by obtain⟨o,ho,_⟩:=pl.isList;exact An ho
 have hpos:0<zs.length:=BY.mpr hne
 let tps:List Addr:=its.filterMap fun v=>match v with|.ref b=>some b|_=>none
 have hlt:∀b∈tps,b<s.heap.objs.size:=fun b hb=>by
  obtain⟨v,hv,e⟩:=BS.mp hb
  obtain⟨i,hi,rfl⟩:=Bu hv
  obtain⟨b',o,n,us,e1,e2,_⟩:=tv.2 i zs[i] (Ae (by omega))
  rw[Ae hi]at e1
  rw[AF e1]at e
  cases e
  exact An e2
 have hG:∀h h':Heap,(∀b∈tps,∀o,h.get? b=some o→h'.get? b=some o)→SV tx h its zs→SV tx h' its zs:=fun h h' hk t=>⟨t.1,fun i z e=>by
  obtain⟨b,o,n,us,e1,e2,e3,e4,e5⟩:=t.2 i z e
  exact⟨b,o,n,us,e1,hk b (BS.mpr ⟨_,AS e1,rfl⟩) o e2,e3,e4,e5⟩⟩
 have hu:=hr.un
 refine call_min_walkS (Dg pl.isList ?_)
 have W:=kK (GQ (prog:=X.prog) (w:=X.w) (A:=X.A.in1) (I.ok.hd hc) s.heap.objs.size a (AD alt) its.toArray) tps (fun h=>SV tx h its zs) hG (fun b hb hm=>by have:=hlt b hb;rw[Aq.mp hm]at this;exact Bb _ this)
 refine⟨s.heap.objs.size,_,_,_,_,_,fun i j=>wX (zs.getD i []) (zs.getD j []),rfl,W,⟨⟨⟨_,Ay _ rfl,rfl,rfl⟩,?_⟩,?_⟩,fun b hb=>?_,by rw[Ah];omega,?_,fun v h' tk hP hk=>?_⟩
 . obtain⟨o,ho,hc',n,hd⟩:=pl.isList
   exact⟨o,Ad _ ho,hc',n,hd⟩
 . exact hG _ _ (fun b _ o e=>Ad _ e) tv
 . rw[A4]
   rcases AN.mp hb with hb|hb
   . simp only[Ak,BB,or_false]at hb
     rcases hb with e|e
     . rw[e];exact Cw _
     . rw[e];exact BC alt
   . exact BC (hlt b hb)
 . intro m i j vi vj s' Q' E' st hi hj hq
   have gt:∀{i:Nat} {v:Value},its.toArray[i]?=some v→∃b o n us,v=.ref b∧s'.heap.get? b=some o∧o.cls=.type "tuple"∧o.data=.seq (List.toArray us) n∧HdI tx us (zs.getD i []):=fun{i v} hv=>by
    rw[CL]at hv
    have hil:=(As.mp hv).1
    obtain⟨b,o,n,us,e1,e2,e3,e4,e5⟩:=st.2.2 i zs[i] (Ae (by omega))
    rw[hv]at e1
    refine⟨b,o,n,us,AF e1,e2,e3,e4,?_⟩
    rw[Aw,Ae (by omega)]
    exact e5
   obtain⟨b,⟨c1,dd1,da1,sl1⟩,n1,us1,rfl,e2,e3,e4,e5⟩:=gt hi
   obtain⟨b',⟨c2,dd2,da2,sl2⟩,n2,us2,rfl,f2,f3,f4,f5⟩:=gt hj
   simp only at e3 e4 f3 f4
   subst e3 e4 f3 f4
   refine richCompare_meets_room (T:="tuple") ⟨_,e2,rfl⟩ ⟨_,f2,rfl⟩ F.slot_tuple_lt F.entry_tuple_lt (F.args_tuple_lt_2 _ _) (gA tx b b' us1.toArray us2.toArray n1 n2 dd1 dd2 sl1 sl2 _ _ (by simpa using e5) (by simpa using f5)) ⟨e2,f2,?_⟩ (by show X.A.units+1<_;omega)
   exact⟨by simp,hq⟩
 . rw[Ah,hn]at hP
   have hb:=gY hne
   have hi:argBest (fun i j=>wX (zs.getD i []) (zs.getD j [])) (zs.length-1)<ys.length:=by
    have:=(As.mp hb).1;omega
   rw[CL]at hP
   refine⟨ys.getD (argBest (fun i j=>wX (zs.getD i []) (zs.getD j [])) (zs.length-1)) .non,H,I.kept fun b o ho=>hk b o ?_ (Ad _ ho),?_,q _ hb⟩
   . simpa using AD (An ho)
   . obtain⟨u,hu',ru⟩:=rv.get (Ae hi)
     rw[hP]at hu'
     cases hu'
     rw[Aw,Ae hi]
     exact ru
end L2
end
section
namespace PySem
open Sem (wp)
structure xb(B newId initId:String)(bm:List Value):Prop extends ExcCallFacts B newId initId where
 newSplit:splitId newId=some (B,"__new__")
 newKind:builtinKind newId=some .builtinFn
 newRow:Manifest.signature? newId=some ⟨.any,B,B,.cls,[⟨"args",.varPos,false⟩,⟨"kwargs",.varKw,false⟩]⟩
 hasB:bm.contains (.type B)=true
 hasBase:bm.contains (.type "BaseException")=true
 noAttr:bm.contains (.type "AttributeError")=false
 noName:bm.contains (.type "NameError")=false
 canon:Manifest.canonical newId=Manifest.canonical "BaseException.__new__"
theorem ExcBaseFacts.two{B newId initId:String}{bm:List Value}(F:ExcBaseFacts B newId initId bm)(D:Addr):xb B newId initId (.ref D::bm):=
 ⟨F.toExcCallFacts,F.newSplit,F.newKind,F.newRow,by rw[BH,F.hasB,EO],by rw[BH,F.hasBase,EO],by rw[BH,F.noAttr];rfl,by rw[BH,F.noName];rfl,F.canon⟩
section
variable {M:Model}{A:Around}{E:Value→Shared→Prop}{h:Heap}{g:Array FX}{d:Drawn}{t:Nat}{os:OsState}
variable {nm q:Str}{C N:Addr}{bs bm:List Value}{hdct:Bool}{sn:List Str}{sub:List Value}{ab:Bool}{col:Option Bool}{dd:Option Addr}{k0 k1 k2 k3 k5:Option Value}{B newId initId:String}
theorem vG{nm1 q1:Str}{D N1:Addr}{bs1 bm1:List Value}{hd1:Bool}{sn1:List Str}{sub1:List Value}{ab1:Bool}{col1:Option Bool}{dd1:Option Addr}{j0 j1 j2 j3 j5:Option Value}{new1:String}{mN1:Str→Option Value}{name:Str}{mN:Str→Option Value}{y:Option Value}{Q:Option Value→Shared→Prop}
 (hC:h.get? C=some (BZ nm q C N bs bm hdct sn sub ab col dd k0 k1 k2 k3 k5 newId)) (hn:h.Ns N mN) (hni:mN name=none)
 (hD:h.get? D=some (BZ nm1 q1 D N1 bs1 bm1 hd1 sn1 sub1 ab1 col1 dd1 j0 j1 j2 j3 j5 new1)) (hn1:h.Ns N1 mN1) (hni1:mN1 name=none) (hbm:bm=.ref D::bm1) (hb1:mroOf (.type B)=pure bm1) (hB:GL (.type B) name=pure y)
 (hq:Q y ⟨h,g,d,t,os⟩):wpAny M A (GL (.ref C) name) Q E ⟨h,g,d,t,os⟩:=by
 have hrest:lookupAlong bm1 name=pure y:=by rw[typeLookup_eq,hb1]at hB;exact hB
 rw[typeLookup_eq]
 refine Ac (wpAny_mroOf_exc hC ?_)
 rw[lookupAlong_cons]
 refine Ac (wpAny_classOwn_exc hC hn ?_)
 rw[hni,hbm]
 show wpAny M A (lookupAlong (.ref D::bm1) name) Q E _
 rw[lookupAlong_cons]
 refine Ac (wpAny_classOwn_exc hD hn1 ?_)
 rw[hni1,hrest]
 exact Al hq
theorem vT(F:xb B newId initId bm){rest:List Value}{Q:Unit→Shared→Prop}(hC:h.get? C=some (BZ nm q C N bs bm hdct sn sub ab col dd k0 k1 k2 k3 k5 newId))
 (hq:Q () ⟨h,g,d,t,os⟩):wpAny M A (C1 newId ⟨.ref C::rest,[]⟩) Q E ⟨h,g,d,t,os⟩:=by
 have hcont:(A0 C::bm).contains (.type B)=true:=by rw[BH,F.hasB,EO]
 have hstar:=F.noStar
 simp only[C1,F.newKind,F.newSplit,F.newRow]
 repeat (first|refine Bo hC ?_|(refine DB hC ?_;rw[hcont])|refine wpAny_staticBase_exc hC ?_|refine wpAny_madeBy_exc hC ?_|simp only[bne_self_eq_false,AV,if_false]|wp_step)
 exact hq
end
section
variable {prog:Program}{w:World}{A:Around}{R:Result→Shared→Prop}{h:Heap}{g:Array FX}{d:Drawn}{t:Nat}{os:OsState}
variable {nm q:Str}{C N:Addr}{bs bm:List Value}{hdct:Bool}{sn:List Str}{sub:List Value}{ab:Bool}{col:Option Bool}{dd:Option Addr}{k0 k1 k2 k3 k5:Option Value}{B newId initId:String}
theorem vJ(F:xb B newId initId bm){rest:List Value}(hC:h.get? C=some (BZ nm q C N bs bm hdct sn sub ab col dd k0 k1 k2 k3 k5 newId))
 (hq:R (.ok (.ret (.ref (h.objs.size+1)))) ⟨(h.push {cls:=.type "tuple",data:=.seq rest.toArray}).push
  {cls:=.ref C,data:=.fields #[.ref h.objs.size,.none,.none,.none,.bool false,.none]},g,d,t,os⟩) (hrest:rest.length≤AB:=by size_fits) :
 codeAny (model prog w) A (.builtin newId ⟨.ref C::rest,[]⟩) R ⟨h,g,d,t,os⟩:=by
 have hends:=F.ends
 have hcB:(A0 C::bm).contains (.type B)=true:=by rw[BH,F.hasB,EO]
 have hcA:(A0 C::bm).contains (.type "AttributeError")=false:=by rw[BH,F.noAttr];rfl
 have hcN:(A0 C::bm).contains (.type "NameError")=false:=by rw[BH,F.noName];rfl
 refine codeAny_builtinAt F.entry ?_
 unfold Builtin.«BaseException.__new__»
 refine wpAt_bind ?_
 show wpAt _ _ _ (stack >>= _) _ _ _
 refine wpAt_bind (wpAt_stack fun p below=>wpAt_of_wpAny ?_)
 wp_walk
 refine wpAt_of_wpAny ?_
 rw[F.owner]
 repeat (first|with_reducible refine wpAny_madeHere_exc F.canon hC ?_|with_reducible refine Bo hC ?_|(with_reducible refine DB hC ?_;first|rw[hcB]|rw[hcA]|rw[hcN])|wp_step)
 show R _ _
 rw[A4]
 exact hq
end
section
variable {prog:Program}{w:World}{A:Around}{E:Value→Shared→Prop}{h:Heap}{g:Array FX}{d:Drawn}{t:Nat}{os:OsState}
variable {nm q:Str}{C N:Addr}{bs bm:List Value}{hdct:Bool}{sn:List Str}{sub:List Value}{ab:Bool}{col:Option Bool}{dd:Option Addr}{k0 k1 k2 k3 k5:Option Value}{B newId initId:String}
theorem vF(F:xb B newId initId bm){M:Model}{e:Addr}{oe:Obj}{rest:List Value}{Q:Unit→Shared→Prop}
 (hC:h.get? C=some (BZ nm q C N bs bm hdct sn sub ab col dd k0 k1 k2 k3 k5 newId)) (he:h.get? e=some oe) (hcls:oe.cls=.ref C) (hq:Q () ⟨h,g,d,t,os⟩) :
 wpAny M A (C1 initId ⟨.ref e::rest,[]⟩) Q E ⟨h,g,d,t,os⟩:=by
 have hcB:(A0 C::bm).contains (.type B)=true:=by rw[BH,F.hasB,EO]
 have hshort:=F.noStar
 simp only[C1,F.initKind,F.initSplit,F.initRow]
 repeat (first|(with_reducible refine Bo he ?_;rw[hcls])|with_reducible refine Bo hC ?_|(with_reducible refine DB hC ?_;rw[hcB])|wp_step)
 refine wpAny_onRaise ?_
 rw[show ∀(a b:String) (n:Nat),Bind.check ⟨.positional,"*",B,.self,[⟨"args",.varPos,false⟩]⟩ a b n (E7 (fun x=>x.fst) ({pos:=A0 e::rest}:Args).kw)=pure () from
  fun a b n=>check_star_args _ _ _ _ _ _]
 exact Al hq
theorem wQ(F:xb B newId initId bm){nm1 q1:Str}{D N1:Addr}{bs1 bm1:List Value}{hd1:Bool}{sn1:List Str}{sub1:List Value}{ab1:Bool}{col1:Option Bool}{dd1:Option Addr}{j0 j1 j2 j3 j5:Option Value}{new1:String}{mN1:Str→Option Value}{mN:Str→Option Value}{rest:List Value}{Q:Fin→Shared→Prop}
 (hC:h.get? C=some (BZ nm q C N bs bm hdct sn sub ab col dd k0 k1 k2 k3 k5 newId)) (hn:h.Ns N mN) (hni:mN "__init__"=none) (hD:h.get? D=some (BZ nm1 q1 D N1 bs1 bm1 hd1 sn1 sub1 ab1 col1 dd1 j0 j1 j2 j3 j5 new1)) (hn1:h.Ns N1 mN1) (hni1:mN1 "__init__"=none) (hbm:bm=.ref D::bm1) (hb1:mroOf (.type B)=pure bm1) 
 (hq:∀h' e,D3 h h' e (.ref C) rest→Q (.done (.ret (.ref e))) ⟨h',g,d,t,os⟩) (hrest:rest.length≤AB:=by size_fits) :
 wpAny (model prog w) A (Builtin.«type.__call__» ⟨.ref C::rest,[]⟩) Q E ⟨h,g,d,t,os⟩:=by
 repeat (first|with_reducible refine Bo hC ?_|with_reducible refine wpAny_madeBy_exc hC ?_|wp_step)
 refine codeAny_call_builtin_code (DQ _ F.quiet) (vT F hC ?_)
 refine vJ F hC ?_ hrest
 show wpAny _ _ _ _ _ _
 have hC₁:=Ad {cls:=.ref C,data:=.fields #[.ref h.objs.size,.none,.none,.none,.bool false,.none]}
  (Ad {cls:=.type "tuple",data:=.seq rest.toArray} hC)
 have hn₁:((h.push {cls:=.type "tuple",data:=.seq rest.toArray}).push {cls:=.ref C,data:=.fields #[.ref h.objs.size,.none,.none,.none,.bool false,.none]}).Ns N mN:=
  let ⟨o,es,ep,e,r⟩:=hn;⟨o,es,ep,Ad _ (Ad _ e),r⟩
 have hget:((h.push {cls:=.type "tuple",data:=.seq rest.toArray}).push
  {cls:=.ref C,data:=.fields #[.ref h.objs.size,.none,.none,.none,.bool false,.none]}).get? (h.objs.size+1)=some
  {cls:=.ref C,data:=.fields #[.ref h.objs.size,.none,.none,.none,.bool false,.none]}:=by heap_get
 have hcC:(A0 C::bm).contains (.ref C)=true:=by simp
 unfold isInstance
 repeat (first|with_reducible refine Bo hget ?_|(with_reducible refine DB hC₁ ?_;rw[hcC])|wp_step)
 show wpAny _ _ (GL (.ref C) _) _ _ _
 have hD₁:=Ad {cls:=.ref C,data:=.fields #[.ref h.objs.size,.none,.none,.none,.bool false,.none]}
  (Ad {cls:=.type "tuple",data:=.seq rest.toArray} hD)
 have hn1₁:((h.push {cls:=.type "tuple",data:=.seq rest.toArray}).push {cls:=.ref C,data:=.fields #[.ref h.objs.size,.none,.none,.none,.bool false,.none]}).Ns N1 mN1:=
  let ⟨o,es,ep,e,r⟩:=hn1;⟨o,es,ep,Ad _ (Ad _ e),r⟩
 refine vG hC₁ hn₁ hni hD₁ hn1₁ hni1 hbm hb1 F.init.lookup ?_
 refine BV (Ac (wpAny_of_eq (F.init.bind _) ?_))
 refine Ac (DZ (Ds F.init.plain F.initEntry (vF F hC₁ hget rfl ?_)))
 wp_walk
 refine hq _ _ ⟨fun b o hb=>?_,EF (Dd _),h.objs.size+2,?_,EF (by omega),?_⟩
 . rw[Br _ _ (Dh (BC (An hb)))]
   exact Ad _ (Ad _ (Ad _ hb))
 . rw[CJ _ (Ad _ hget) rfl]
   simp only[A4]
   rfl
 . rw[Br _ _ (show h.objs.size+1≠h.objs.size+2 by omega)]
   exact Heap.get?_push_at (by simp only[A4]) rfl
theorem vm(F:xb B newId initId bm){nm1 q1:Str}{D N1:Addr}{bs1 bm1:List Value}{hd1:Bool}{sn1:List Str}{sub1:List Value}{ab1:Bool}{col1:Option Bool}{dd1:Option Addr}{j0 j1 j2 j3 j5:Option Value}{new1:String}{mN1:Str→Option Value}{mN:Str→Option Value}{rest:List Value}{Q:Value→Shared→Prop}
 (hC:h.get? C=some (BZ nm q C N bs bm hdct sn sub ab col dd k0 k1 k2 k3 k5 newId)) (hn:h.Ns N mN) (hni:mN "__init__"=none) (hD:h.get? D=some (BZ nm1 q1 D N1 bs1 bm1 hd1 sn1 sub1 ab1 col1 dd1 j0 j1 j2 j3 j5 new1)) (hn1:h.Ns N1 mN1) (hni1:mN1 "__init__"=none) (hbm:bm=.ref D::bm1) (hb1:mroOf (.type B)=pure bm1) 
 (hq:∀h' e,D3 h h' e (.ref C) rest→Q (.ref e) ⟨h',g,d,t,os⟩) (hrest:rest.length≤AB:=by size_fits) :
 wpAny (model prog w) A (call (.ref C) rest) Q E ⟨h,g,d,t,os⟩:=by
 have f1:=tc_lookup
 have f2:=tc_bind (.ref C)
 have hT:(⟨h,g,d,t,os⟩:Shared).TypeIs (.ref C) "type":=⟨_,hC,rfl⟩
 refine DZ (codeAny_of_tree ?_)
 show wpAny _ _ (callAny (.ref C) _) _ _ _
 repeat (any_goals (first|assumption|with_reducible refine Bo hC ?_|wp_step))
 refine⟨rfl,?_⟩
 refine codeAny_call_builtin_at (DQ _ (by decide +kernel)) entry_typeCall (wpAny_check_type_call_sub hC (wQ (hrest:=hrest) F hC hn hni hD hn1 hni1 hbm hb1 fun h' e hm=>?_))
 exact hq h' e hm
end
section
variable {prog:Program}{w:World}{A:Around}{E:Value→Shared→Prop}{s:Shared}{env:Env}
variable {nm q:Str}{C N:Addr}{bs bm:List Value}{hdct:Bool}{sn:List Str}{sub:List Value}{ab:Bool}{col:Option Bool}{dd:Option Addr}{k0 k1 k2 k3 k5:Option Value}{B newId initId:String}
theorem vE(F:xb B newId initId bm){nm1 q1:Str}{D N1:Addr}{bs1 bm1:List Value}{hd1:Bool}{sn1:List Str}{sub1:List Value}{ab1:Bool}{col1:Option Bool}{dd1:Option Addr}{j0 j1 j2 j3 j5:Option Value}{new1:String}{mN1:Str→Option Value}{mN:Str→Option Value}{x:Str}{np cpos pos:Pos}{args:List Expr}{Q:Flow→Shared→Prop}
 (hh:A.handled=none) (hplain:(backTo cpos (AM args env)).any (·.1)=false) (hni:mN "__init__"=none) (hni1:mN1 "__init__"=none) (hbm:bm=.ref D::bm1) (hb1:mroOf (.type B)=pure bm1)
 (h:wpAny (model prog w) A (eval (.Name x np) env) (fun f s₁=>f=.ref C∧wpAny (model prog w) A (evalArgs (.ref C) true (backTo cpos (AM args env)) [])
  (fun a s₂=>a.kw=[]∧a.pos.length≤AB∧s₂.heap.get? C=some (BZ nm q C N bs bm hdct sn sub ab col dd k0 k1 k2 k3 k5 newId)∧s₂.heap.Ns N mN∧s₂.heap.get? D=some (BZ nm1 q1 D N1 bs1 bm1 hd1 sn1 sub1 ab1 col1 dd1 j0 j1 j2 j3 j5 new1)∧s₂.heap.Ns N1 mN1 ∧
   ∀h' e,D3 s₂.heap h' e (.ref C) a.pos→E (.ref e) {s₂ with heap:=h'}) E s₁) E s) :
 wpAny (model prog w) A (exec (.Raise (some (.Call (.Name x np) args [] cpos)) none pos) env) Q E s:=by
 rw[arm_exec_Raise]
 first
  |refine Ac (BL (DS (C:=C) (nm:=nm) (q:=q) (N:=N) (bs:=bs) (bm:=bm) (hdct:=hdct) (sn:=sn) (sub:=sub) (ab:=ab) (col:=col) (dd:=dd) (k0:=k0) (k1:=k1) (k2:=k2) (k3:=k3) (k5:=k5) (newId:=newId) F.hasBase hh (Ac (A9 (FO (A9 h (fun f s₁ h₁=>?_) fun _ _ x=>x)) (fun v s₃ h₃=>Ac (BL (Al h₃))) fun _ _ x=>x))))
  |(simp only[evalOpt,Option.map];refine Ac (BL (DS (C:=C) (nm:=nm) (q:=q) (N:=N) (bs:=bs) (bm:=bm) (hdct:=hdct) (sn:=sn) (sub:=sub) (ab:=ab) (col:=col) (dd:=dd) (k0:=k0) (k1:=k1) (k2:=k2) (k3:=k3) (k5:=k5) (newId:=newId) F.hasBase hh (Ac (A9 (FO (A9 h (fun f s₁ h₁=>?_) fun _ _ x=>x)) (fun v s₃ h₃=>Ac (BL (Al h₃))) fun _ _ x=>x)))))
  |(refine Ac (BL (DS (C:=C) (nm:=nm) (q:=q) (N:=N) (bs:=bs) (bm:=bm) (hdct:=hdct) (sn:=sn) (sub:=sub) (ab:=ab) (col:=col) (dd:=dd) (k0:=k0) (k1:=k1) (k2:=k2) (k3:=k3) (k5:=k5) (newId:=newId) F.hasBase hh ?_));refine Ac (A9 (FO (A9 h (fun f s₁ h₁=>?_) fun _ _ x=>x)) (fun v s₃ h₃=>Ac (BL (Al h₃))) fun _ _ x=>x))
 obtain⟨rfl,h₁⟩:=h₁
 unfold callWith
 refine Ac (BV (A9 h₁ (fun a s₂ h₂=>Ac (BL ?_)) fun _ _ x=>x))
 obtain⟨apos,akw⟩:=a
 obtain⟨hkw,hlen,hC,hn,hD,hn1,h₂⟩:=h₂
 obtain rfl:akw=[]:=hkw
 obtain⟨hp,g,d,tk,os⟩:=s₂
 simp only[hplain]
 refine Ac (wpAny_keeperOf_exc hC ?_)
 refine Ac (vm (hrest:=hlen) F hC hn hni hD hn1 hni1 hbm hb1 fun h' e hm=>Ac (BV (wpAny_point (Al ?_))))
 obtain⟨t,ht,_,_⟩:=hm.there
 exact⟨e,t,rfl,hm.keeps _ _ hC,ht,h₂ h' e hm⟩
end
end PySem
end
section
namespace L2
open PySem PySem.W PySem.Spec PyProof PyProof.Rows
structure uF(P:Program)(w:World)(outer:List Env)(H:Hp)(s:Shared)(H':Hp)(a:Addr)(cls:Value)(s':Shared):Prop where
 os:s'.os=s.os
 bare:AllBare s'.gens
 frf:∀b∈frs outer,H' b=none
 fly:∃(t:Addr) (g B:Heap),Un (frs outer) [] H H' s.heap g∧HOk P w H' g∧(∀b o,g.get? b=some o→b ∉ frs outer→(b<s.heap.objs.size∨H' b≠none)→B.get? b=some o) ∧
  (∀b o,g.get? b=some o→b∈frs outer→∃sl,s'.heap.get? b=some {o with slots:=sl})∧Heap.FlyingW B outer a cls (.ref t) s'.heap
noncomputable def CXE(P:Program)(w:World):CXT:=fun outer H s E e s'=>∃(a:Addr) (cls:Value) (H':Hp),e=.ref a∧uF P w outer H s H' a cls s'∧E cls none H'
theorem uF.un{P:Program}{w:World}{outer:List Env}{H H':Hp}{s s':Shared}{a:Addr}{cls:Value}(f:uF P w outer H s H' a cls s'):Un (frs outer) [] H H' s.heap s'.heap∧HOk P w H' s'.heap:=by
 obtain⟨t,g,B,u,hk,cov,fr,k,_⟩:=f.fly
 have go:∀b o,s.heap.get? b=some o→b ∉ frs outer→∀o',g.get? b=some o'→s'.heap.get? b=some o':=fun b o e n o' e'=>k b o' (cov b o' e' n (.inl (An e)))
 refine⟨⟨fun b o e n hb hx=>go b o e hb o (u.keep b o e n hb hx),fun b o e n hb hx=>?_,u.free,fun b o e hx=>?_,u.tups,u.frzs,u.tbls⟩,fun b o e=>(hk b o e).qP (fun c v hc e'=>?_) (fun _ q=>q) fun _ _ q=>q⟩
 . obtain⟨sl,e1⟩:=u.slot b o e n hb hx
   obtain⟨sl',e2⟩:=fr b _ e1 hb
   exact⟨sl',e2⟩
 . obtain⟨o',e1⟩:=u.there b o e hx
   by_cases hb:b∈frs outer
   . obtain⟨sl,e2⟩:=fr b o' e1 hb
     exact⟨_,e2⟩
   . exact⟨o',go b o e hb o' e1⟩
 . have hc':H' c≠none:=by
    rcases hc with rfl|hc
    . rw[e];exact nofun
    . rw[hc];exact nofun
   exact k c v (cov c v e' (fun hm=>hc' (f.frf c hm)) (.inr hc'))
section
variable {P:Program}{w:World}{K:Af}{mg:Str→Option Value}{base:Heap}{N:List Str}{qual:Str}{scope:Scope}{f:Addr}{cd:Value}{A:Around}{outer:List Env}{s₀:Shared}{H₀:Hp}{E:XK}
theorem ig:Passes (CXE P w) (xK (CXE P w) P w K mg base N qual scope f cd A outer s₀ H₀ E) E:=by
 rintro pins σ H s e s' I ⟨a,cls,H',rfl,fl,hE⟩
 obtain⟨t,g,B,u,hk,cov,fr,fly⟩:=fl.fly
 show wpAny _ _ _ _ _ _
 have I1:Inv (xK (CXE P w) P w K mg base N qual scope f cd A outer s₀ H₀ E) pins σ H' {s with heap:=g}:=I.call (g':=s.gens) (t':=s.toks) (d':=s.drawn) (ch:=[]) u hk I.bare fun b z=>absurd z (by simp)
 have hL:∀b,(b<s₀.heap.objs.size∨H' b≠none)→b≠s₀.heap.objs.size:=fun b hb z=>by
  subst z
  rcases hb with hb|hb
  . exact Bb _ hb
  . exact hb I1.free
 have hmem:∀b,b∈frs outer→b∈frs (envOfC qual scope s₀.heap.objs.size f cd::outer):=fun b hb=>Ao _ hb
 refine wpAny_leaves_onW (base:=B) (env:=envOfC qual scope s₀.heap.objs.size f cd) (outer:=outer) (L:=s₀.heap.objs.size) I.ok.frames rfl fly fun h' x1 x2=>?_
 refine⟨a,cls,H',rfl,⟨fl.os.trans I.os,fl.bare,fun b hb=>fl.frf b (hmem b hb),t,g,B,I1.base,hk,fun b o e n hb=>?_,fun b o e hb=>?_,x1⟩,hE⟩
 . refine cov b o e (fun hm=>?_) ?_
   . rcases Ak.mp (show b∈s₀.heap.objs.size::frs outer from hm) with z|z
     . exact hL b hb z
     . exact n z
   . rcases hb with hb|hb
     . exact .inl (AA hb I.sz)
     . exact .inr hb
 . obtain⟨sl,e1⟩:=fr b o e (hmem b hb)
   obtain⟨_,o',e2,hd⟩:=fly.2.2.1.mem (hmem b hb)
   rw[e1]at e2
   cases e2
   obtain⟨sl',e3⟩:=x2 b _ e1 hd
   exact⟨sl',e3⟩
theorem mD{pins:List (Addr × Obj)}{σ:St}{H:Hp}{s:Shared}{h1:Heap}{a C:Addr}{us:List Value}(I:Inv (xK (CXE P w) P w K mg base N qual scope f cd A outer s₀ H₀ E) pins σ H s)(m:D3 s.heap h1 a (.ref C) us)(hE:E (.ref C) none H) :
 (xK (CXE P w) P w K mg base N qual scope f cd A outer s₀ H₀ E).xe (.ref a) {s with heap:=h1}:=by
 have hmem:∀b,b∈frs outer→b∈frs (envOfC qual scope s₀.heap.objs.size f cd::outer):=fun b hb=>Ao _ hb
 have hin:∀env∈(envOfC qual scope s₀.heap.objs.size f cd::outer),∀b,env.frame=some b→b∈frs (envOfC qual scope s₀.heap.objs.size f cd::outer):=fun env he b hb=>BS.mpr ⟨env,he,hb⟩
 have hst:s.heap.FunFrames base (envOfC qual scope s₀.heap.objs.size f cd::outer):=I.stack
 show wpAny _ _ _ _ _ _
 refine wpAny_leaves_madeW (base:=hideAll s.heap (frs (envOfC qual scope s₀.heap.objs.size f cd::outer))) (h:=s.heap) (env:=envOfC qual scope s₀.heap.objs.size f cd) (outer:=outer) (L:=s₀.heap.objs.size) I.ok.frames rfl (fun b o q=>of_hideAll _ q) (funFrames_hide hst hin) m fun h' t x1 x2 x3 x4=>?_
 refine⟨a,_,H,rfl,⟨I.os,I.bare,fun b hb=>I.oi b (hmem b hb),t,s.heap,_,I.base,I.hok,fun b o e n hb=>hideAll_get _ e fun hm=>?_,fun b o e hb=>?_,x1⟩,hE⟩
 . rcases Ak.mp (show b∈s₀.heap.objs.size::frs outer from hm) with z|z
   . subst z
     rcases hb with hb|hb
     . exact Bb _ hb
     . exact hb I.free
   . exact n z
 . obtain⟨_,o',e2,hd⟩:=hst.mem (hmem b hb)
   rw[e]at e2
   cases e2
   obtain⟨sl,e3⟩:=x4 b o (m.keeps b o e) hd
   exact⟨sl,e3⟩
end
end L2
end
section
namespace L2
open PySem PySem.W PySem.Spec PyProof PyProof.Rows
noncomputable def veM:List Value:=[.type "ValueError",.type "Exception",.type "BaseException",.type "object"]
def ClsAt(h:Heap)(C:Addr)(bm:List Value):Prop:=∃(nm q:Str) (N:Addr) (bs:List Value) (hdct:Bool) (sn:List Str) (sub:List Value) (ab:Bool) (col:Option Bool) (dd:Option Addr) (k0 k1 k2 k3 k5:Option Value) (mN:Str→Option Value),
 h.get? C=some (BZ nm q C N bs bm hdct sn sub ab col dd k0 k1 k2 k3 k5 "ValueError.__new__")∧h.Ns N mN∧mN "__init__"=none
def XR(X:Cx)(C:Addr)(H:Hp):Prop:=∀(pins:List (Addr × Obj)) (σ:St) (s:Shared),Inv X pins σ H s→∀(h1:Heap) (a:Addr) (us:List Value),D3 s.heap h1 a (.ref C) us→X.xe (.ref a) {s with heap:=h1}
noncomputable def Wx(X:Cx)(C:Addr)(t:TA):TS:=fun _ σ H=>t σ H fun vs H1=>vs.length≤AB∧XR X C H1
section
variable {X:Cx}
theorem mB{x:Str}{np cpos pos:Pos}{e:Expr}{es:List Expr}{t:TA}{C D:Addr}(hc:X.A.handled=none)(hg:Gl X x)(hm:X.mg x=some (.ref C))(cC:ClsAt X.base C (.ref D::veM))(cD:ClsAt X.base D veM)(ha:PA X (e::es) t)
 (hdb:(x == ("__debug__":Str))=false) (he:AM (e::es) X.env=(false,eval e X.env)::AM es X.env) (hpl:(backTo cpos (AM es X.env)).any (·.1)=false):PS X (.Raise (some (.Call (.Name x np) (e::es) [] cpos)) none pos) (Wx X C t):=by
 intro pins s σ H D' I h
 obtain⟨nm,q,N,bs,hdct,sn,sub,ab,col,dd,k0,k1,k2,k3,k5,mN,hC,hN,hz⟩:=cC
 obtain⟨nm1,q1,N1,bs1,hd1,sn1,sub1,ab1,col1,dd1,j0,j1,j2,j3,j5,mN1,hD,hN1,hz1⟩:=cD
 refine vE (C:=C) (D:=D) (nm:=nm) (q:=q) (N:=N) (bs:=bs) (hdct:=hdct) (sn:=sn) (sub:=sub) (ab:=ab) (col:=col) (dd:=dd) (k0:=k0) (k1:=k1) (k2:=k2) (k3:=k3) (k5:=k5) (mN:=mN)
  (nm1:=nm1) (q1:=q1) (N1:=N1) (bs1:=bs1) (hd1:=hd1) (sn1:=sn1) (sub1:=sub1) (ab1:=ab1) (col1:=col1) (dd1:=dd1) (j0:=j0) (j1:=j1) (j2:=j2) (j3:=j3) (j5:=j5) (mN1:=mN1) (new1:="ValueError.__new__") (FA.two D) hc ?_ hz hz1 rfl FA.mroIs (wH I hg hm ⟨rfl,?_⟩ hdb)
 . rw[he];exact hpl
 . rw[he]
   refine Calls.evalArgs_plain ?_
   have q:=ha cpos pins s σ H _ I h
   rw[he]at q
   refine A9 q (fun us s1 hq=>?_) fun _ _ z=>z
   obtain⟨vs,H1,I1,r,hl,hx⟩:=hq
   exact⟨rfl,by rw[←r.length];exact hl,I1.bk _ _ hC,hN.keeps I1.bk,I1.bk _ _ hD,hN1.keeps I1.bk,fun h' e' m=>hx pins σ s1 I1 h' e' _ m⟩
end
theorem Zi{P:Program}{w:World}{K:Af}{mg:Str→Option Value}{base:Heap}{N:List Str}{qual:Str}{scope:Scope}{f:Addr}{cd:Value}{A:Around}{outer:List Env}{s₀:Shared}{H₀ H:Hp}{E:XK}{C:Addr}
 (hE:E (.ref C) none H):XR (xK (CXE P w) P w K mg base N qual scope f cd A outer s₀ H₀ E) C H:=fun _ _ _ I _ _ _ m=>mD I m hE
end L2
end
section
namespace L2
open PySem PySem.W PySem.Spec PyProof PyProof.Rows
noncomputable def tFs(ta tb:TE):TE:=fun σ H Q=>ta σ H fun x H1=>∃i:Int,x=.int i∧i.natAbs<2 ^ 64∧tb σ H1 fun y H2=>∃j:Int,y=.int j∧j.natAbs<2 ^ 64∧∀z,Q (.str z) H2
theorem tM{i:Int}(h:i.natAbs<2 ^ 64):i.natAbs.log2<64:=by
 by_cases z:i.natAbs=0
 . rw[z];decide
 . exact(Nat.log2_lt z).mpr h
theorem qz{i:Int}(h:i.natAbs<2 ^ 64):(Dj (DP i)).length≤65:=by
 rw[PySem.ofString_length]
 exact int_text_length_le (by decide) (tM h)
section
variable {X:Cx}
theorem UQ{a b:Expr}{ta tb:TE}{c1 c2 c3:Str}{k1 k2 k3:Nat}{p1 p2 p3 p4 p5 pos:Pos}(ha:PE X a ta)(hb:PE X b tb)(h1:c1.length≤1000)(h2:c2.length≤1000)(h3:c3.length≤1000) :
 PE X (.JoinedStr [.Constant (.str c1) k1 p1,.FormattedValue a (-1) none p2,.Constant (.str c2) k2 p3,.FormattedValue b (-1) none p4,.Constant (.str c3) k3 p5] pos) (tFs ta tb):=by
 intro pins s σ H Q I h
 refine JoinedStr_many (D4 (DK ⟨?_,D4 (FormattedValue_plain ?_)⟩))
 . rw[A6,A2,show Ez.length=0 from rfl];omega
 refine thn (ha pins _ σ H _ (I.tok _) h) fun u s1 ⟨x,H1,I1,r1,i,e1,hi,q1⟩=>?_
 subst e1
 obtain⟨t1,rfl⟩:=r1
 have l1:=qz hi
 refine formatField_int_small (AA (tM hi) (by decide)) ⟨?_,D4 (DK ⟨?_,D4 (FormattedValue_plain ?_)⟩)⟩
 . rw[A6,A6,A2,show Ez.length=0 from rfl];omega
 . rw[A6,A6,A6,A2,show Ez.length=0 from rfl];omega
 refine thn (hb pins _ σ H1 _ (I1.tok _) q1) fun u2 s2 ⟨y,H2,I2,r2,j,e2,hj,q2⟩=>?_
 subst e2
 obtain⟨t2,rfl⟩:=r2
 have l2:=qz hj
 refine formatField_int_small (AA (tM hj) (by decide)) ⟨?_,D4 (DK ⟨?_,joinParts_nil ⟨.str _,H2,I2.tok _,⟨_,rfl⟩,q2 _⟩ ?_⟩)⟩
 . rw[A6,A6,A6,A6,A2,show Ez.length=0 from rfl];omega
 . rw[A6,A6,A6,A6,A6,A2,show Ez.length=0 from rfl];omega
 . rw[A6,A6,A6,A6,A6,A2,show Ez.length=0 from rfl];omega
end
end L2
end
section
namespace L2
open PySem PySem.W PySem.Spec PyProof PyProof.Rows
def Bm(base:Heap)(mg:Str→Option Value):Prop:=∃(bm:Addr) (ob:Obj),mg "__builtins__"=some (.ref bm)∧bm≠FR∧base.get? bm=some ob∧ob.cls=.type "module"∧ob.dict=some FR∧ob.data=.plain
def VG(H:Hp)(P:Addr)(ps:Array Value)(pos:Pos)(q:Str)(c:Addr)(H':Hp):Prop:=H'=H ∨
 ∃(o:Obj) (vs:Array Value) (t:Tok),DT pos ps.toList=none∧H c=none∧o.data=.fields vs∧vs[1]?=some (.str q t)∧H'=upd (upd H P (.tbl (ps++#[rawInt pos.line,rawInt pos.col,.ref c]))) c (.frz o (.own 0))
section
variable {X:Cx}{pins:List (Addr × Obj)}{σ:St}{H:Hp}{s:Shared}{M:Model}{A:Around}{E:Value→Shared→Prop}
theorem eO{a:Cm}{body:Expr}{lsc:Scope}{pos:Pos}{c P:Addr}{ps:Array Value}{clos:List (Str × Addr)}{Q:Value→Shared→Prop}(I:Inv X pins σ H s)(fN:defaultsOf a X.env=([],[]))(hcl:GO lsc X.env=pure clos)
 (hcode:X.env.code=.ref c) (C:CodeHd s.heap c P) (hP:H P=some (.tbl ps)) (ht:DU ps.toList) (B:Bm X.base X.mg)
 (hit:∀cv,DT pos ps.toList=some cv→∃(c':Addr) (o:Obj) (vs:Array Value) (t:Tok),cv=.ref c'∧H c'=some (.frz o (.own 0))∧o.data=.fields vs∧vs[1]?=some (.str (X.env.qual++("<lambda>":Str)) t))
 (h:∀(lf c':Addr) (ctv:Value) (H':Hp) (h':Heap) (tk:Nat),Inv X pins σ H' {s with heap:=h',toks:=tk}→VG H P ps pos (X.env.qual++("<lambda>":Str)) c' H'→(H' lf=none∧lf ∉ frs X.stack∧∃(o:Obj) (vs:Array Value) (t:Tok),H' c'=some (.frz o (.own 0))∧o.data=.fields vs∧vs[1]?=some (.str (X.env.qual++("<lambda>":Str)) t)) →
  h'.get? lf=some (kla_obj "<lambda>" (X.env.qual++("<lambda>":Str)) a body lsc clos ((X.mg "__name__").getD .none) c' ctv)→h'.CodeRec (.ref c') (X.env.qual++("<lambda>":Str))→Q (.ref lf) {s with heap:=h',toks:=tk}) :
 wpAny M A (eval (.Lambda a body lsc pos) X.env) Q E s:=by
 obtain⟨bm,ob,b1,b2,b3,b4,b5,b6⟩:=B
 have hPo:s.heap.get? P=some (tabObj ps):=I.hok P _ hP
 have hg:s.heap.Ns AL X.mg:=I.mod.glob.keeps I.bk
 have hbH:H bm=none:=(I.bs _ _ b3).2
 have hbP:bm≠P:=fun z=>by rw[z,hP]at hbH;cases hbH
 obtain⟨og,eg,pg,g1,g2,_⟩:=I.mod.glob
 have hgH:H AL=none:=(I.bs _ _ g1).2
 have hgP:AL≠P:=fun z=>by rw[z,hP]at hgH;cases hgH
 have hbG:bm≠AL:=fun z=>by rw[z,g1]at b3;cases b3;rw[g2]at b6;cases b6
 have hb:s.heap.BuiltinsAt X.mg P:=⟨bm,ob,b1,b2,hbG,hbP,I.bk _ _ b3,b4,b5,b6⟩
 have nst:∀lf,s.heap.objs.size≤lf→lf ∉ frs X.stack:=fun lf hl hm=>by
  obtain⟨_,o,e,_⟩:=I.stack.mem hm
  exact absurd (AA (An e) hl) (Bb _)
 refine kla_eval fN ?_
 cases hf:DT pos ps.toList with
 |some cv=>
  obtain⟨c',o,vs,t,rfl,q1,q2,q3⟩:=hit cv hf
  refine kla_makeFunctionHit (mg:=X.mg) hcl I.ok.glob hg hcode C hPo ht hf hb fun ctv h' tk hk hsz=>?_
  have hk2:∀b u,s.heap.get? b=some u→(h'.push {cls:=.type "function",data:=.func (kla_fn "<lambda>" (X.env.qual++("<lambda>":Str)) a body lsc clos ((X.mg "__name__").getD .none) (.ref c') ctv)}).get? b=some u:=fun b u e=>Ad _ (hk b u e)
  have hcr:s.heap.CodeRec (.ref c') (X.env.qual++("<lambda>":Str)):=⟨c',o,vs,t,rfl,(I.hok c' _ q1).1,q2,q3⟩
  refine h _ c' ctv H _ tk (I.kept hk2) (.inl rfl) ⟨I.hok.fresh hsz,nst _ hsz,o,vs,t,q1,q2,q3⟩ (Ay _ rfl) ?_
  obtain⟨c2,o2,vs2,t2,e1,e2,e3⟩:=hcr
  exact⟨c2,o2,vs2,t2,e1,hk2 _ _ e2,e3⟩
 |none=>
  refine kla_makeFunction (mg:=X.mg) hcl I.ok.glob hg hcode C hPo ht hf hgP hb fun c' ctv h' tk hx hge hlt m6 htb=>?_
  obtain⟨c2,oc,vs,t,e1,e2,e3,e4⟩:=m6
  cases e1
  have hcn:H c'=none:=I.hok.fresh hge
  have hcP:c'≠P:=fun z=>by rw[z,hP]at hcn;cases hcn
  have hk2:∀b u,b≠P→s.heap.get? b=some u→(h'.push (kla_obj "<lambda>" (X.env.qual++("<lambda>":Str)) a body lsc clos ((X.mg "__name__").getD .none) c' ctv)).get? b=some u:=fun b u n e=>Ad _ (hx b u n e)
  have nP:∀b,H b=none→b≠P:=fun b n z=>by rw[z,hP]at n;cases n
  have nc:∀b o,s.heap.get? b=some o→b≠c':=fun b o e z=>absurd (AA (An e) hge) (by rw[z];exact Bb _)
  refine h _ c' ctv (upd (upd H P (.tbl (ps++#[rawInt pos.line,rawInt pos.col,.ref c']))) c' (.frz oc (.own 0))) _ tk (I.un (t':=tk) ⟨fun b o e n _ _=>hk2 b o (nP b n) e,fun b o e n _ _=>⟨o.slots,hk2 b o (nP b n) e⟩,fun b o e n _=>?_,fun b o e _=>?_,fun b xs e=>?_,fun b o u e=>?_,fun b qs e=>?_⟩ fun b u e=>?_)
   (.inr ⟨oc,vs,t,hf,hcn,e3,e4,rfl⟩) ⟨by rw[zI (Dh hlt),zI (nP _ (I.hok.fresh (Ax hge (DI hlt))))];exact I.hok.fresh (Ax hge (DI hlt)),nst _ (Ax hge (DI hlt)),oc,vs,t,zN,e3,e4⟩ (Ay _ rfl) ⟨c',oc,vs,t,rfl,Ad _ e2,e3,e4⟩
  . rw[zI (nc b o e),zI (nP b n)];exact n
  . by_cases z:b=P
    . rw[z];exact⟨_,Ad _ htb⟩
    . exact⟨o,hk2 b o z e⟩
  . have z1:b≠c':=fun z=>by rw[z,hcn]at e;cases e
    have z2:b≠P:=fun z=>by rw[z,hP]at e;cases e
    rw[zI z1,zI z2];exact e
  . have z1:b≠c':=fun z=>by rw[z,hcn]at e;cases e
    have z2:b≠P:=fun z=>by rw[z,hP]at e;cases e
    rw[zI z1,zI z2];exact e
  . have z1:b≠c':=fun z=>by rw[z,hcn]at e;cases e
    rw[zI z1]
    by_cases z:b=P
    . subst z
      rw[hP]at e;cases e
      exact⟨_,zN⟩
    . rw[zI z];exact⟨#[],by rw[e];simp⟩
  . by_cases z1:b=c'
    . subst z1
      rw[zN]at e;cases e
      exact⟨Ad _ e2,oc,Ad _ e2⟩
    . rw[zI z1]at e
      by_cases z:b=P
      . subst z
        rw[zN]at e;cases e
        exact Ad _ htb
      . rw[zI z]at e
        have own:∀d y,H d=some (.own y)→d≠c'∧d≠P:=fun d y r=>⟨fun z=>(by rw[z,hcn]at r;cases r),fun z=>(by rw[z,hP]at r;cases r)⟩
        refine(I.hok b u e).qP (fun d v hd q=>hk2 d v ?_ q) (fun d r=>by rw[zI (own d b r).1,zI (own d b r).2];exact r) fun d xs r=>?_
        . rcases hd with rfl|hd
          . exact z
          . exact(own d b hd).2
        . have y1:d≠c':=fun z=>by rw[z,hcn]at r;cases r
          have y2:d≠P:=fun z=>by rw[z,hP]at r;cases r
          rw[zI y1,zI y2];exact r
end
end L2
end
section
namespace L2
open PySem PySem.W PySem.Spec PyProof PyProof.Rows
section
variable {P:Program}{w:World}{K:Af}{mg:Str→Option Value}{base:Heap}{CX:CXT}{A:Around}{outer:List Env}{s:Shared}{H:Hp}{E:XK}{R:Result→Shared→Prop}
noncomputable abbrev Cx.loud(X:Cx)(A:Around):Cx:={X with A:=A,calm:=false}
theorem Inv.loud{X:Cx}{pins:List (Addr × Obj)}{σ:St}{A':Around}(I:Inv X pins σ H s)(hf:A'.frames=some X.stack):Inv (X.loud A') pins σ H s:=
 ⟨⟨I.ok.mod,I.ok.kind,I.ok.glob,I.ok.blt,I.ok.above,I.ok.inj,I.ok.has,I.ok.cab,fun z=>absurd z Am,hf,I.ok.stk,I.ok.exf,I.ok.bs,I.ok.bsz,I.ok.noex,I.ok.exfs,I.ok.vv,I.ok.frf⟩,I.os,I.bare,I.base,I.loc,I.cell,I.free,I.freeC,I.pin,I.hok,I.len⟩
theorem Inv.calm{X:Cx}{pins:List (Addr × Obj)}{σ:St}{A':Around}(I:Inv (X.loud A') pins σ H s)(ok:X.Ok):Inv X pins σ H s:=
 ⟨ok,I.os,I.bare,I.base,I.loc,I.cell,I.free,I.freeC,I.pin,I.hok,I.len⟩
noncomputable abbrev gN(P:Program)(w:World)(A:Around)(env:Env)(R:Result→Shared→Prop)(body:List Stmt)(s1:Shared):Prop:=
 wpAny (model P w) (A.deeper env) (execs body env) (fun fl s'=>R (.ok (.ret (match fl with|.ret v=>v|_=>.none))) s')
  (fun e s'=>wpAny (model P w) (A.deeper env) (leaving env e) (fun _ s''=>R (.error e) s'') (fun e' s''=>R (.error e') s'') s') s1
theorem nM{f:Addr}{name qual:Str}{params:Cm}{body:List Stmt}{scope:Scope}{dV kV doc pm cdv ct oc:Value}{an od:Option Addr}{osl:Array (Option Value)}{N ps:List Str}{args:Args}{us:List Value}{vs:List V}
 (lk:K.lookup f=some ⟨oc,od,.func (BK name qual params body scope dV kV doc pm an cdv ct),osl⟩) (hcd:BW K cdv qual=true) (S:wD N ps scope) (hdp:A.depth<CY)
 (e0:mZ P w K mg base A outer s H) (hb:BindsTo s (BK name qual params body scope dV kV doc pm an cdv ct) args (ps.zip us)) (hl:vs.length=ps.length) (r:Vals vs us)
 (h:∀s1:Shared,Inv (xK CX P w K mg base N qual scope f cdv {A with handled:=none} outer s H E) [] (start N vs) H s1→(∀b o,s.heap.get? b=some o→s1.heap.get? b=some o)→gN P w A (envOfC qual scope s.heap.objs.size f cdv) R body s1) :
 codeAny (model P w) A (.call (.ref f) args) R s:=by
 have KX:K.In s.heap:=e0.mod.kin.keeps fun b o e=>(e0.bs b o e).1
 have lim:s.heap.NoLimit:=e0.mod.nolimit.keeps fun b o e=>(e0.bs b o e).1
 have hkind:∀y∈ps.zip us,scope.names.lookup y.1=some .local∨(scope.names.lookup y.1=some .cell∧((CH (s.heap.objs.size+1) scope.names []).lookup y.1).isSome=true):=fun⟨n,v⟩ hy=>by
  rcases S.par n (EI hy).1 with q|q
  . exact .inl q
  . exact .inr ⟨q,Ee _ _ _ (.inl q)⟩
 refine codeAny_call_function hdp (KX _ _ lk) rfl S.co S.gen rfl (PySem.W.codeRec_of KX hcd) (hb _ _ _ _ ?_)
 refine Fu S.kind hkind fun env he s1 x=>?_
 subst he
 refine⟨lim.keeps x.toInCall.keep,codeAny_func ?_⟩
 exact h s1 (qm (A:={A with handled:=none}) S rfl ⟨e0.frames,e0.mod,e0.bs,e0.bsz,e0.vv,e0.frf,e0.hok,e0.bare⟩ hl r x) x.toInCall.keep
theorem oz(h:A.handled=none):{A with handled:=none}=A:=by
 cases A
 simp only at h
 subst h
 rfl
noncomputable def noArgs:Cm:=⟨[],[],none,[],[],none,[]⟩
noncomputable def rB(CX:CXT)(P:Program)(w:World)(K:Af)(mg:Str→Option Value)(base:Heap)(N:List Str)(qual:Str)(scope:Scope)(f:Addr)(cd:Value)(cl:List (Str × Addr))(A:Around)(outer:List Env)(s:Shared)(H:Hp)(E:XK):Cx where
 prog:=P
 w:=w
 K:=K
 mg:=mg
 base:=base
 A:=A.deeper (envX qual scope s.heap.objs.size f cd cl)
 N:=N
 s₀:=s
 H₀:=H
 env:=envX qual scope s.heap.objs.size f cd cl
 outer:=outer
 stack:=envX qual scope s.heap.objs.size f cd cl::outer
 ex:=[]
 calm:=true
 fn:=fun _=>false
 pn:=[]
 xe:=fun e s'=>wpAny (model P w) (A.deeper (envX qual scope s.heap.objs.size f cd cl)) (leaving (envX qual scope s.heap.objs.size f cd cl) e) (fun _ s''=>CX outer H s E e s'') (fun e' s''=>CX outer H s E e' s'') s'
theorem aX{lf c:Addr}{nm qual:Str}{body:Expr}{lsc:Scope}{cl:List (Str × Addr)}{pm ctv:Value}{N:List Str}{σ:St}(hdp:A.depth<CY)(hh:A.handled=none)(e0:mZ P w K mg base A outer s H)
 (ho:s.heap.get? lf=some (kla_obj nm qual noArgs body lsc cl pm c ctv)) (hcr:s.heap.CodeRec (.ref c) qual) (hk:lsc.kind=.function) (hco:lsc.isCoroutine=false) (hgen:lsc.isGenerator=false)
 (hnm:∀x∈lsc.names,x.2≠.cell∧x.2≠.local) (hinj:∀x y b,cl.lookup x=some b→cl.lookup y=some b→x=y) (hhas:∀x,lsc.names.lookup x=some .free→∃b,cl.lookup x=some b)
 (hcel:∀x b,cl.lookup x=some b→(∃v,s.heap.IsCell b v)∧H b=none)
 (hval:∀(i:Nat) (x:Str) (v:V),N[i]?=some x→σ[i]?=some (some v)→lsc.names.lookup x=some .free→∃u b,RelV v u∧cl.lookup x=some b∧s.heap.IsCell b (some u)) (hlen:σ.length=N.length)
 (h:∀s1:Shared,Inv (rB CX P w K mg base N qual lsc lf (.ref c) cl A outer s H E) [] σ H s1→wpAny (model P w) (A.deeper (envX qual lsc s.heap.objs.size lf (.ref c) cl)) (eval body (envX qual lsc s.heap.objs.size lf (.ref c) cl)) (fun v s'=>R (.ok (.ret v)) s')
  (fun e s'=>wpAny (model P w) (A.deeper (envX qual lsc s.heap.objs.size lf (.ref c) cl)) (leaving (envX qual lsc s.heap.objs.size lf (.ref c) cl) e) (fun _ s''=>R (.error e) s'') (fun e' s''=>R (.error e') s'') s') s1) :
 codeAny (model P w) A (.call (.ref lf) ⟨[],[]⟩) R s:=by
 have lim:s.heap.NoLimit:=e0.mod.nolimit.keeps fun b o e=>(e0.bs b o e).1
 refine kla_callFunE hdp ho rfl hco hgen rfl hcr ?_
 have hb:GK (kla_fn nm qual noArgs body lsc cl pm (.ref c) ctv) ⟨[],[]⟩=pure []:=rfl
 rw[hb]
 refine Al (wpAny_newFunctionEnv (fun x hx=>(hnm x hx).1) (fun x hx=>absurd hx (by simp)) (fun h₁ hns hsb=>⟨lim.fresh _ hsb,?_⟩) hk)
 show codeAny _ _ (.expr body (envX qual lsc s.heap.objs.size lf (.ref c) cl)) _ _
 have hk₁:∀b o,s.heap.get? b=some o→h₁.get? b=some o:=fun b o e=>hsb.extBut b o (AD (An e)) (Ad _ e)
 have noA:∀b:Addr,b ∉ (rB CX P w K mg base N qual lsc lf (.ref c) cl A outer s H E).ex:=fun b z=>absurd (show b∈([]:List Addr) from z) (by simp)
 have cellK:∀b v,s.heap.IsCell b v→h₁.IsCell b v:=fun b v ⟨o,e,d⟩=>⟨o,hk₁ b o e,d⟩
 refine kla_codeExpr (h _ ⟨⟨e0.mod,hk,rfl,rfl,Ag _,hinj,fun y hy=>?_,fun y b z _=>absurd z Am,fun _=>hh,EJ e0.frames,.inr ⟨rfl,rfl⟩,fun b z=>absurd z (noA b),e0.bs,e0.bsz,fun b _ _=>noA b,fun b z=>absurd z (noA b),e0.vv,e0.frf⟩,
  rfl,e0.bare,Un.kept hk₁,⟨_,hns,fun i y v h1 h2 h3=>?_⟩,fun y b e=>?_,e0.hok.fresh (Ag _),fun y b e=>(hcel y b e).2,fun p hp=>absurd (show p∈([]:List (Addr × Obj)) from hp) (by simp),e0.hok.kept hk₁,hlen⟩)
 . have hy:lsc.names.lookup y=some .cell∨lsc.names.lookup y=some .free:=hy
   rcases hy with hy|hy
   . exact absurd rfl (hnm _ (AZ hy)).1
   . exact hhas y hy
 . have h3:lsc.names.lookup y=some .local∨lsc.names.lookup y=some .cell∨lsc.names.lookup y=some .free:=h3
   rcases h3 with z|z|z
   . exact absurd rfl (hnm _ (AZ z)).2
   . exact absurd rfl (hnm _ (AZ z)).1
   . obtain⟨u,b,q1,q2,q3⟩:=hval i y v h1 h2 z
     exact⟨u,q1,.inr ⟨.inr z,b,q2,cellK _ _ q3⟩⟩
 . obtain⟨v,q⟩:=(hcel y b e).1
   exact⟨v,cellK b v q⟩
end
end L2
end
section
namespace L2
open PySem PySem.W PySem.Spec PyProof PyProof.Rows
section
variable {P:Program}{w:World}{K:Af}{mg:Str→Option Value}{base:Heap}{A:Around}{outer:List Env}{s₀:Shared}{H₀:Hp}{E:XK}
theorem lT{N:List Str}{qual:Str}{scope:Scope}{f:Addr}{cd:Value}{cl:List (Str × Addr)}:Passes (CXE P w) (rB (CXE P w) P w K mg base N qual scope f cd cl A outer s₀ H₀ E) E:=by
 rintro pins σ H s e s' I ⟨a,cls,H',rfl,fl,hE⟩
 obtain⟨t,g,B,u,hk,cov,fr,fly⟩:=fl.fly
 show wpAny _ _ _ _ _ _
 have I1:Inv (rB (CXE P w) P w K mg base N qual scope f cd cl A outer s₀ H₀ E) pins σ H' {s with heap:=g}:=I.call (g':=s.gens) (t':=s.toks) (d':=s.drawn) (ch:=[]) u hk I.bare fun b z=>absurd z (by simp)
 have hL:∀b,(b<s₀.heap.objs.size∨H' b≠none)→b≠s₀.heap.objs.size:=fun b hb z=>by
  subst z
  rcases hb with hb|hb
  . exact Bb _ hb
  . exact hb I1.free
 have hmem:∀b,b∈frs outer→b∈frs (envX qual scope s₀.heap.objs.size f cd cl::outer):=fun b hb=>Ao _ hb
 refine wpAny_leaves_onW (base:=B) (env:=envX qual scope s₀.heap.objs.size f cd cl) (outer:=outer) (L:=s₀.heap.objs.size) I.ok.frames rfl fly fun h' x1 x2=>?_
 refine⟨a,cls,H',rfl,⟨fl.os.trans I.os,fl.bare,fun b hb=>fl.frf b (hmem b hb),t,g,B,I1.base,hk,fun b o e n hb=>?_,fun b o e hb=>?_,x1⟩,hE⟩
 . refine cov b o e (fun hm=>?_) ?_
   . rcases Ak.mp (show b∈s₀.heap.objs.size::frs outer from hm) with z|z
     . exact hL b hb z
     . exact n z
   . rcases hb with hb|hb
     . exact .inl (AA hb I.sz)
     . exact .inr hb
 . obtain⟨sl,e1⟩:=fr b o e (hmem b hb)
   obtain⟨_,o',e2,hd⟩:=fly.2.2.1.mem (hmem b hb)
   rw[e1]at e2
   cases e2
   obtain⟨sl',e3⟩:=x2 b _ e1 hd
   exact⟨sl',e3⟩
end
section
variable {X:Cx}{pins:List (Addr × Obj)}{σ:St}{H H':Hp}{s s':Shared}{a:Addr}{cls:Value}
theorem Inv.Zu(I:Inv X pins σ H s)(f:uF X.prog X.w X.stack H s H' a cls s'):Inv X pins σ H' s':=by
 obtain⟨u,hk⟩:=f.un
 obtain⟨hh,g,d,t,os⟩:=s'
 obtain rfl:os=s.os:=f.os
 exact I.call (h':=hh) (g':=g) (d':=d) (t':=t) (ch:=[]) u hk f.bare fun b z=>absurd z (by simp)
theorem uF.obj(f:uF X.prog X.w X.stack H s H' a cls s')(I:Inv X pins σ H s):∃oe,s'.heap.get? a=some oe∧oe.cls=cls∧H' a=none∧s.heap.get? a=none∧(∃vs,oe.data=.fields vs):=by
 obtain⟨t,g,B,u,hk,cov,fr,fly⟩:=f.fly
 obtain⟨f1,f2,f3,oe,vs,_,_,_,he,hc,hd,_⟩:=id fly
 have nfr:a ∉ frs X.stack:=fun hm=>by
  obtain⟨_,o',e2,hd'⟩:=f3.mem hm
  rw[he]at e2
  cases e2
  exact hd' vs hd
 refine⟨oe,he,hc.1,?_,?_,vs,hd⟩
 . cases q:H' a with
   |none=>rfl
   |some o=>
    have ht:=(hk a o q)
    have:∃ob,g.get? a=some ob:=by
     have hlt:=ht.lt
     cases qg:g.get? a with
     |some ob=>exact⟨ob,rfl⟩
     |none=>
      exfalso
      cases o with
      |lst xs=>obtain⟨_,_,_,_,e⟩:=ht;rw[qg]at e;cases e
      |tup xs=>obtain⟨_,_,_,ob,e,_⟩:=ht;rw[qg]at e;cases e
      |dK kvs=>obtain⟨_,_,_,_,ob,_,_,e,_⟩:=ht;rw[qg]at e;cases e
      |dT kvs=>obtain⟨_,_,_,_,ob,_,_,e,_⟩:=ht;rw[qg]at e;cases e
      |set S n=>obtain⟨ob,_,_,_,e,_⟩:=ht;rw[qg]at e;cases e
      |ins C dx fs=>obtain⟨_,_,_,e,_⟩:=ht;rw[qg]at e;cases e
      |own y=>obtain⟨_,e⟩:=ht;rw[qg]at e;cases e
      |xd fs=>obtain⟨_,⟨_,_,_,e,_⟩,_⟩:=ht;rw[qg]at e;cases e
      |rng lo hi=>obtain⟨_,_,_,e⟩:=ht;rw[qg]at e;cases e
      |frz ob u=>obtain⟨e,_⟩:=ht;rw[qg]at e;cases e
      |tbl ps=>have e:g.get? a=some _:=ht;rw[qg]at e;cases e
      |met f y=>have e:g.get? a=some _:=ht;rw[qg]at e;cases e
      |ext φ=>obtain⟨_,⟨_,e⟩,_⟩:=ht;rw[qg]at e;cases e
    obtain⟨ob,e⟩:=this
    rw[cov a ob e nfr (.inr (by rw[q];exact nofun))]at f2
    cases f2
 . cases q:s.heap.get? a with
   |none=>rfl
   |some o=>
    obtain⟨o',e⟩:=u.there a o q (by simp)
    rw[cov a o' e nfr (.inl (An q))]at f2
    cases f2
theorem Inv.adopt{oe:Obj}{vs:Array Value}(I:Inv X [] σ H s)(hn:H a=none)(he:s.heap.get? a=some oe)(hd:oe.data=.fields vs)(h0:X.s₀.heap.get? a=none)(hpn:X.pn=[]):Inv X [] σ (upd H a (.frz oe (.own 0))) s:=by
 have ne:∀b,H b≠none→b≠a:=fun b n z=>n (by rw[z];exact hn)
 have nL:X.env.locals≠a:=fun z=>by
  obtain⟨m,⟨o,es,ep,e,d,_⟩,_⟩:=I.loc
  rw[z,he]at e;cases e;rw[hd]at d;cases d
 have nC:∀x c,X.env.cells.lookup x=some c→c≠a:=fun x c e z=>by
  obtain⟨v,o,e2,d⟩:=I.cell x c e
  rw[z,he]at e2;cases e2;rw[hd]at d;cases d
 have ob:∀b u,H b=some u→upd H a (.frz oe (.own 0)) b=some u:=fun b u e=>by rw[zI (ne b (by rw[e];exact nofun))];exact e
 refine⟨I.ok,I.os,I.bare,⟨I.base.keep,I.base.slot,fun b o e n hx=>?_,I.base.there,fun b xs e=>ob _ _ (I.base.tups b xs e),fun b o u e=>ob _ _ (I.base.frzs b o u e),fun b ps e=>?_⟩,I.loc,I.cell,?_,fun x c e=>?_,fun p hp=>?_,fun b u e=>?_,I.len⟩
 . rw[zI (fun z=>by rw[z,h0]at e;cases e)];exact I.base.free b o e n hx
 . obtain⟨more,q⟩:=I.base.tbls b ps e
   exact⟨more,ob _ _ q⟩
 . rw[zI nL];exact I.free
 . rw[zI (nC x c e)];exact I.freeC x c e
 . rw[hpn]at hp;cases hp
 . by_cases z:b=a
   . subst z
     rw[zN]at e;cases e
     exact⟨he,oe,he⟩
   . rw[zI z]at e
     exact(I.hok b u e).qP (fun _ _ _ q=>q) (fun c q=>ob _ _ q) fun c xs q=>ob _ _ q
theorem Inv.gone{h':Heap}{m':Str→Option Value}{tk:Nat}(I:Inv X [] σ H s)(hn:h'.Ns X.env.locals m')(hs:DJ X.env.locals s.heap h')(hpn:X.pn=[]):Inv X [] (Az X.N.length none) H {s with heap:=h',toks:=tk}:=by
 have neL:∀b o,X.s₀.heap.get? b=some o→b≠X.env.locals:=fun b o e=>AD (AA (An e) I.ok.above)
 refine⟨I.ok,I.os,I.bare,⟨fun b o e n hb hx=>?_,fun b o e n hb hx=>?_,I.base.free,fun b o e hx=>?_,I.base.tups,I.base.frzs,I.base.tbls⟩,⟨m',hn,fun i x v e1 e2 e3=>?_⟩,fun y c e=>?_,I.free,I.freeC,fun p hp=>?_,fun b u e=>?_,by simp⟩
 . exact(hs.2 b (neL b o e)).trans (I.base.keep b o e n hb hx)
 . obtain⟨sl,e1⟩:=I.base.slot b o e n hb hx
   exact⟨sl,(hs.2 b (neL b o e)).trans e1⟩
 . obtain⟨o',e1⟩:=I.base.there b o e hx
   exact⟨o',(hs.2 b (neL b o e)).trans e1⟩
 . rw[D6]at e2
   split at e2<;>cases e2
 . obtain⟨v,z⟩:=I.cell y c e
   exact⟨v,z.sameBut hs (I.cne y c e)⟩
 . rw[hpn]at hp;cases hp
 . refine(I.hok b u e).qP (fun c v hc q=>(hs.2 c ?_).trans q) (fun _ q=>q) fun _ _ q=>q
   rintro rfl
   have z:=I.free
   rcases hc with rfl|hc
   . rw[z]at e;cases e
   . rw[z]at hc;cases hc
end
end L2
end
section
namespace L2
open PySem PySem.W PySem.Spec PyProof PyProof.Rows
section
variable {prog:Program}{w:World}{A:Around}{E:Value→Shared→Prop}{s:Shared}{env:Env}
theorem jx{e:Addr}{t:Expr}{n:Str}{b₀:Stmt}{suite:List Stmt}{pos:Pos}{rest:List ExceptHandler}{Q:Flow→Shared→Prop}
 (h:wpAny (model prog w) (A.mark (some (.ref e))) (eval t env) (fun c s₁=>Looks (model prog w) s₁.heap (excMatches (.ref e) c) true ∧
  wpAny (model prog w) (A.mark (some (.ref e))) (setFlight (.ref e) none) (fun _ s₂=>
   wpAny (model prog w) (A.mark (some (.ref e))) (storeName env n (.ref e)) (fun _ s₃=>
    wpAny (model prog w) (A.mark (some (.ref e))) (execs (b₀::suite) env)
     (fun f s₄=>wpAny (model prog w) A (do Dc env n .none;unbindBehindTheSuite env n pos) (fun _ s₅=>Q f s₅) E s₄)
     (AsSuiteRaised (model prog w) (A.mark (some (.ref e))) env n pos (notedBy (model prog w) (A.mark (some (.ref e))) env (GR (model prog w) A env E))) s₃) (notedBy (model prog w) (A.mark (some (.ref e))) env (GR (model prog w) A env E)) s₂) (notedBy (model prog w) (A.mark (some (.ref e))) env (GR (model prog w) A env E)) s₁) (notedBy (model prog w) (A.mark (some (.ref e))) env (GR (model prog w) A env E)) s) :
 wpAny (model prog w) A (handleBy (.ref e) env (.ExceptHandler (some t) (some n) (b₀::suite) pos::rest)) Q E s:=by
 refine wpAny_handleBy_cons (codeAny_handlers_test (A9 h (fun c s₁ h₁=>?_) fun _ _ y=>y)) (by intro q;cases q)
 obtain⟨L,hk⟩:=h₁
 exact L.here (codeAny_handlers_suite_as hk)
end
def qF(Kc K:Af):Prop:=∀a o,Kc.lookup a=some o→K.lookup a=some o
theorem qF.inn{Kc K:Af}{h:Heap}(s:qF Kc K)(x:K.In h):Kc.In h:=fun a o e=>x a o (s a o e)
def XC(X:Cx)(EE:Value→Hp→Prop)(e:Value)(s':Shared):Prop:=∃(a:Addr) (cls:Value) (σ2:St) (H2:Hp) (s2:Shared) (H':Hp),e=.ref a∧Inv X [] σ2 H2 s2∧uF X.prog X.w X.stack H2 s2 H' a cls s'∧EE cls H'
theorem rQ{M:Model}{h:Heap}{a:Addr}{o:Obj}{cls:Value}(e:h.get? a=some o)(hc:o.cls=cls):Looks M h (typeOf (.ref a)) cls:=hc▸(Looks.ld e).andThen .now
theorem rG{g B h h':Heap}{l:List Env}(fr:∀b o,g.get? b=some o→b∈frs l→∃sl,h.get? b=some {o with slots:=sl})(ff:h.FunFrames B l)(sm:h.UpToSlots h'):∀b o,g.get? b=some o→b∈frs l→∃sl,h'.get? b=some {o with slots:=sl}:=fun b o e hb=>by
 obtain⟨sl,e1⟩:=fr b o e hb
 obtain⟨_,o',e2,hd⟩:=ff.mem hb
 rw[e1]at e2
 cases e2
 obtain⟨sl',e3⟩:=sm b _ e1 hd
 exact⟨sl',e3⟩
section
variable {X:Cx}{σ:St}{H:Hp}{s:Shared}{D:Ends}{EE:Value→Hp→Prop}
theorem bD{body:List Stmt}{tb ts:TS}{hx n:Str}{np hpos pos:Pos}{b₀:Stmt}{suite:List Stmt}{hue:Addr}{ie:Nat}(I:Inv X [] σ H s)(hpn:X.pn=[])(hxn:X.ex=[])(hN:X.N.Nodup)(hl:X.env.scope.names.lookup n=some .local)(hi:X.N[ie]?=some n)
 (hst:X.stack=X.env::X.outer) (hfr:X.env.frame=some X.env.locals) (hg:Gl X hx) (hdb:(hx == ("__debug__":Str))=false) (hm:X.mg hx=some (.ref hue)) (hb:PSs (X.wB (XC X EE)) body tb) (hq:tb D σ H)
 (hex:∀cls H',EE cls H'→(∃Kc,qF Kc X.K∧exmOne Kc cls (.ref hue)=some true)∧∀(a:Addr) (oe:Obj) (σ2:St),H' a=none→oe.cls=cls→σ2.length=X.N.length→ts {nx:=fun _ _=>False,rt:=D.rt} (σ2.set ie (some (.ref a))) (upd H' a (.frz oe (.own 0))))
 (hs:∀a:Addr,PSs (X.loud (X.A.mark (some (.ref a)))).nox (b₀::suite) ts) :
 wpAny (model X.prog X.w) X.A (exec (.Try body [.ExceptHandler (some (.Name hx np)) (some n) (b₀::suite) hpos] [] [] pos) X.env) (SP X [] D) X.xe s:=by
 refine wpAny_Try_except (A9 (hb [] s σ H D (I.wB _) hq) (fun f s1 hsp=>?_) fun e s1 hx'=>?_)
 . have q:=hsp.yp
   cases f with
   |next=>
    obtain⟨σ1,H1,I1,q1⟩:=q
    exact oS [] s1 σ1 H1 D I1 q1
   |brk=>exact q
   |cont=>exact q
   |ret u=>exact q
 . obtain⟨a,cls,σ2,H2,s2,H',rfl,I2,f,hE⟩:=hx'
   obtain⟨hx1,hx2⟩:=hex cls H' hE
   obtain⟨t,g,B,u,hk,cov,fr,fly⟩:=f.fly
   have fl0:=fly
   rw[hst]at fly
   have hA:X.A.frames=some (X.env::X.outer):=by rw[←hst];exact I.ok.frames
   refine wpAny_looks_onW hA hfr fly fun h4 held4 sm4=>?_
   refine wpAny_landsW held4 fun h5 fly5 sm5=>?_
   have fly5':Heap.FlyingW B X.stack a cls (.ref t) h5:=by rw[hst];exact fly5
   have f5:uF X.prog X.w X.stack H2 s2 H' a cls {s1 with heap:=h5}:=⟨f.os,f.bare,f.frf,t,g,B,u,hk,cov,rG fr fl0.2.2.1 (sm4.trans sm5),fly5'⟩
   have I5:=(I2.Zu f5).loud (A':=X.A.mark (some (.ref a))) (by rw[hst];exact hA)
   refine jx (wH (X:=X.loud (X.A.mark (some (.ref a)))) I5 hg hm ⟨?_,?_⟩ hdb)
   . obtain⟨oe,e1,e2,_⟩:=f5.obj I2
     obtain⟨Kc,sub,hx1⟩:=hx1
     exact exm_one (sub.inn I5.kIn) (rQ e1 e2) hx1
   . refine lands_againW fly5' fun h6 fly6 sm6=>?_
     have f6:uF X.prog X.w X.stack H2 s2 H' a cls {s1 with heap:=h6}:=⟨f.os,f.bare,f.frf,t,g,B,u,hk,cov,rG (rG fr fl0.2.2.1 (sm4.trans sm5)) fly5'.2.2.1 sm6,fly6⟩
     obtain⟨oe,e1,e2,e3,e4,vs,e5⟩:=f6.obj I2
     have I6:=I2.Zu f6
     have h0:X.s₀.heap.get? a=none:=by
      cases q:X.s₀.heap.get? a with
      |none=>rfl
      |some o=>
       have hne:a ∉ X.ex:=by rw[hxn];exact nofun
       obtain⟨o',q'⟩:=I2.base.there a o q hne
       rw[e4]at q';cases q'
     have I7:=(I6.adopt e3 e1 e5 h0 hpn).loud (A':=X.A.mark (some (.ref a))) (by rw[hst];exact hA)
     refine xQ (X:=X.loud (X.A.mark (some (.ref a)))) (v:=.ref a) I7 hN hi (.inl hl) rfl (fun s8 I8=>?_) (.inr hl)
     refine A9 ((hs a) [] s8 _ _ {nx:=fun _ _=>False,rt:=D.rt} (I8.wB _) (hx2 a oe σ2 e3 e2 I2.len)) (fun fl s9 hsp=>?_) fun _ _ z=>AJ z
     have q:=hsp.yp
     cases fl with
     |next=>obtain⟨_,_,_,z⟩:=q;exact AJ z
     |brk=>obtain⟨_,_,_,z⟩:=q;exact AJ z
     |cont=>obtain⟨_,_,_,z⟩:=q;exact AJ z
     |ret u=>
      obtain⟨v,σ',H3,I9,rv,q9⟩:=q
      have I10:Inv X [] σ' H3 s9:=I9.calm I.ok
      obtain⟨m,hn,_⟩:=I10.loc
      exact wpAny_nameGoes hl hn (by rw[I.ok.kind];rfl) fun h' m' hn' hs'=>⟨v,_,H3,I10.gone hn' hs' hpn,rv,q9⟩
end
end L2
end
section
namespace L2
open PySem PySem.W PySem.Spec PyProof PyProof.Rows
open Sem (wp)
structure sX(K:Af)(C:Addr):Prop where
 ga:findIn K (.ref C) "__getattribute__"=some (some (.builtin "BaseException.__getattribute__"))
 gt:findIn K (.ref C) "__getattr__"=some none
 cl:findIn K (.ref C) "__class__"=some (some (.builtin "object.__class__"))
 be:subIn K (.ref C) (.type "BaseException")=some true
 ob:subIn K (.ref C) (.type "object")=some true
 it:(clsIn K C).isSome=true
section
variable {prog:Program}{w:World}{A:Around}{E:Value→Shared→Prop}{h:Heap}{g:Array FX}{d:Drawn}{t:Nat}{os:OsState}{a C:Addr}{o:Obj}{K:Af}
theorem kP{R:Result→Shared→Prop}(F:sX K C)(X:K.In h)(hx:h.get? a=some o)(hc:o.cls=.ref C)(hq:R (.ok (.ret (.ref C))) ⟨h,g,d,t,os⟩) :
 codeAny (model prog w) A (.call (.builtin "getset_descriptor.__get__") ⟨[.builtin "object.__class__",.ref a,.ref C],[]⟩) R ⟨h,g,d,t,os⟩:=by
 have hT5:(⟨h,g,d,t,os⟩:Shared).TypeIs (.builtin "object.__class__") "getset_descriptor":=Dn
 have L1:Looks (model prog w) h (isSubtype (.ref C) (.type (".".intercalate ("object.__class__".cutAt '.').dropLast))) true:=by rw[PySem.F.owner_object_class];exact looks_subIn X F.ob
 refine Ds EZ.plain PySem.F.entry_gs_get (EZ.check _ _ _ _ _ _ _ _ hT5 (PySem.F.args_gs_get _ _ _) ?_)
 repeat (any_goals (first|assumption|(with_reducible refine Bo hx ?_;rw[hc])|with_reducible refine L1.at ?_|wp_step))
 refine⟨DQ _ (by decide +kernel),DG PySem.F.entry_object_class ?_⟩
 repeat (any_goals (first|assumption|(with_reducible refine Bo hx ?_;rw[hc])|wp_step))
theorem ow{tk:Tok}{Q:Fin→Shared→Prop}(F:sX K C)(X:K.In h)(hx:h.get? a=some o)(hc:o.cls=.ref C)(hq:Q (.done (.ret (.ref C))) ⟨h,g,d,t,os⟩) :
 wpAny (model prog w) A (Builtin.«object.__getattribute__» ⟨[.ref a,.str "__class__" tk],[]⟩) Q E ⟨h,g,d,t,os⟩:=by
 have hT5:(⟨h,g,d,t,os⟩:Shared).TypeIs (.builtin "object.__class__") "getset_descriptor":=Dn
 have f5:=Dn
 have f6:=EZ.lookup
 have f7:=PySem.F.slot_gs_set.lookup
 have L1:=looks_findIn (M:=model prog w) X F.cl
 repeat (any_goals (first|assumption|(with_reducible refine Bo hx ?_;rw[hc])|with_reducible refine L1.at ?_|wp_step))
 refine kP F X hx hc ?_
 repeat (any_goals (first|assumption|wp_step))
theorem ou{M:Model}{nameV:Value}{Q:Unit→Shared→Prop}(F:sX K C)(X:K.In h)(hx:h.get? a=some o)(hc:o.cls=.ref C)(hq:Q () ⟨h,g,d,t,os⟩):wpAny M A (C1 "BaseException.__getattribute__" ⟨[.ref a,nameV],[]⟩) Q E ⟨h,g,d,t,os⟩:=by
 have hk:builtinKind "BaseException.__getattribute__"=some .slot:=by decide +kernel
 have hsplit:splitId "BaseException.__getattribute__"=some ("BaseException","__getattribute__"):=by decide +kernel
 have L1:=looks_subIn (M:=M) X F.be
 have ha:=PySem.F.args_bexc_ga (.ref a) nameV
 simp only[C1,hk,hsplit]
 refine Ac ?_
 . unfold isInstance
   repeat (first|(with_reducible refine Bo hx ?_;rw[hc])|with_reducible refine L1.at ?_|wp_step)
   exact hq
theorem mX{tk:Tok}{R:Result→Shared→Prop}(F:sX K C)(X:K.In h)(hx:h.get? a=some o)(hc:o.cls=.ref C)(hq:R (.ok (.ret (.ref C))) ⟨h,g,d,t,os⟩) :
 codeAny (model prog w) A (.call (.builtin "BaseException.__getattribute__") ⟨[.ref a,.str "__class__" tk],[]⟩) R ⟨h,g,d,t,os⟩:=
 Ds FC.ga.plain PySem.F.entry_bexc_ga (ou F X hx hc (ow F X hx hc hq))
theorem gI{tk:Tok}{fill expr:Bool}{Q:Value→Shared→Prop}(F:sX K C)(X:K.In h)(hx:h.get? a=some o)(hc:o.cls=.ref C)(hq:Q (.ref C) ⟨h,g,d,t,os⟩) :
 wpAny (model prog w) A (getAttrBy (.ref a) (.str "__class__" tk) fill expr) Q E ⟨h,g,d,t,os⟩:=by
 have f3:=FC.ga.bind (.ref a)
 have hx0:(expr&&onTheHeap (Em "BaseException.__getattribute__"))=false:=by cases expr<;>rfl
 have hx2:(Em "BaseException.__getattribute__" == Em "object.__getattribute__")=false:=by decide +kernel
 have hx1:(onTheHeap (A0 C)&&Em "BaseException.__getattribute__" == Em "object.__getattribute__")=false:=by rw[hx2];rfl
 have L1:=looks_findIn (M:=model prog w) X F.ga
 have L2:=looks_findIn (M:=model prog w) X F.gt
 repeat (any_goals (first|assumption|(with_reducible refine Bo hx ?_;rw[hc])|with_reducible refine L1.at ?_|with_reducible refine L2.at ?_|wp_step))
 refine mX F X hx hc ?_
 repeat (any_goals (first|assumption|wp_step))
theorem mW{Q:Option Value→Shared→Prop}(F:sX K C)(X:K.In h)(hx:h.get? a=some o)(hc:o.cls=.ref C)(hq:Q (some (.ref C)) ⟨h,g,d,t+1,os⟩):wpAny (model prog w) A (getAttr? (.ref a) "__class__") Q E ⟨h,g,d,t,os⟩:=by
 unfold getAttr? getAttrBy?
 repeat (any_goals (first|assumption|with_reducible apply gI F X hx hc|wp_step))
theorem eK(F:sX K C)(hc:o.cls=.ref C):KitX K (.ref a) (.ref C) (fun h=>h.get? a=some o) where
 ty:=fun M h _ e=>rQ e hc
 it:=fun M h X _=>by
  have z:=F.it
  unfold clsIn at z
  split at z
  . rename_i c' d' cd' sl' ho
    intro A' Q' E' s' k q
    unfold isType loadHead
    exact Ac (wpAny_loadPart (k _ _ (X _ _ ho)) (Al q))
  . cases z
 ne:=fun h tp dd its n sl X htp=>by
  have z:=F.it
  refine Bool.eq_false_iff.mpr fun q=>?_
  have e:C=tp:=A0.inj (beq_iff_eq.mp q)
  subst e
  unfold clsIn at z
  split at z
  . rename_i c' d' cd' sl' ho
    have z:=(X _ _ ho).symm.trans htp
    cases z
  . cases z
 ca:=fun{prog w A E Q s} X e k=>by
  obtain⟨h,g,d,t,os⟩:=s
  exact mW F X e hc k
end
end L2
end
section
namespace L2
open PySem PySem.W PySem.Spec PySem.Calls PyProof PyProof.Rows
open SeqAt
noncomputable def oW(K:Af):V→List V→Hp→VK→Prop:=fun x vs H Q=>∃t xs y j,x=.ref t∧vs=[y]∧SqL K H t xs∧w9 y=true∧xs.all w9=true∧xs.findIdx? (fun z=>eqV z y)=some j∧Q (.int (j:Nat)) H
noncomputable def Uh(K:Af):List V→Hp→VK→Prop:=fun xs H Q=>∃(a:Addr) (oe:Obj) (C:Addr) (dv:V) (du:Value) (b:Bool) (Kc:Af),xs=[.ref a,dv]∧H a=some (.frz oe (.own 0))∧oe.cls=.ref C∧qF Kc K∧sX Kc C∧(∀u,RelV dv u→u=du)∧kitOne Kc (.ref C) du=some b∧Q (.bl b) H
section
variable {X:Cx}
theorem iO:MtR X "list.index" (oW X.K):=by
 intro pins s σ H x xs v us Q I rx rs h
 obtain⟨t,ys,y,j,rfl,rfl,ht,fy,fs,hx,q⟩:=h
 cases rx
 obtain⟨u,rfl,ru⟩:=vals1 rs
 obtain⟨its,r,p1,hz⟩:=I.list ht
 obtain⟨⟨cls,dd,data,sl⟩,ho,hc,n,hd⟩:=id p1.isList
 simp only at hc hd
 subst hc hd
 have hm:=fB (x:=y) r fs
 have at_:∀(i:Nat) (h1:i<its.length) (h2:i<ys.length),eqU y its[i]=eqV ys[i] y:=fun i h1 h2=>by
  have:=congrArg (·[i]?) hm
  simp only[AQ,Ae h1,Ae h2,DC,Ea]at this
  exact this
 have hl:=r.length
 obtain⟨hj,hit,hno⟩:=Eh.mp hx
 have hsz:its.length≤AB:=by first|exact hz|(rw[←hl];exact hz)|simpa using hz
 rw[A2]at hsz
 refine CB F.slot_list_index ⟨_,ho,rfl⟩ F.entry_list_index (F.args_list_index_2 _ _) (list_indexAt t its.toArray n dd sl u (eqU y) j (by rw[Ah];omega) (by omega) ?_ fun m hm hmj=>?_) ⟨ho,fun w hw=>rT ru fy r fs w (by simpa using hw),?_⟩
 . rw[List.getElem_toArray,at_ j (by omega) hj];exact hit
 . rw[Ah]at hm
   rw[List.getElem_toArray,at_ m hm (by omega)]
   have:=hno m hmj
   simpa using this
 . exact⟨.int _,H,I.tok _,⟨s.toks,rfl⟩,q⟩
theorem il{o e:Expr}{to te:TE}{apos cpos:Pos}(ho:PE X o to)(he:PE X e te)(hbase:Dy o "index" X.env (eval o X.env)=eval o X.env:=by rfl)(hst:noStar e=true:=by rfl)(hline:(apos.endLine == cpos.line)=true:=by rfl) :
 PE X (.Call (.Attribute o "index" apos) [e] [] cpos) (tBM X.K "list" (oW X.K) to (vD te r9)):=by
 have hs1:AM [e] X.env=(false,eval e X.env)::AM [] X.env:=zm hst
 refine dU D8 PySem.F.slot_list_index PySem.F.type_list_index iO ho (pac he yn hst) hbase ?_ hline hs1 rfl
 rw[hs1];rfl
theorem nE:yI X (.builtin "isinstance") (Uh X.K):=by
 intro pins s σ H vs us Q I r h
 obtain⟨a,oe,C,dv,du,b,Kc,rfl,ha,hc,sub,F,hd,hk,q⟩:=h
 cases r with
 |cons r1 r2=>
  cases r2 with
  |cons r2 r3=>
   cases r3
   cases r1
   rw[hd _ r2]
   exact kia_one (eK F hc) (sub.inn I.kIn) (I.hok a _ ha).1 hk (fun z=>nomatch z) fun tk=>⟨.bl b,H,I.tok tk,rfl,q⟩
theorem WY{c:Str}{D:Addr}{p:Pos}(hg:Gl X c)(hm:X.mg c=some (.ref D))(hdb:(c == ("__debug__":Str))=false):PE X (.Name c p) (tC (.ref D)):=fun pins s σ H Q I h=>wH I hg hm ⟨.ref D,H,I,rfl,h⟩ hdb
theorem WS{c:Str}{n:String}{p:Pos}(hg:Gl X c)(hm:X.mg c=none)(hv:Ca c=some (.type n))(hn:c≠"__name__")(hdb:(c == ("__debug__":Str))=false):PE X (.Name c p) (tC (.ty n)):=fun pins s σ H Q I h=>vy I hg hm hv ⟨.ty n,H,I,rfl,h⟩ hn hdb
end
end L2
end
section
namespace L2
open PySem PySem.W PySem.Spec PySem.Calls PyProof PyProof.Rows
noncomputable def wF(sc:Scope):List Str→List Expr→Bool
 |[],[]=>true
 |c::cs,.Call (.Name f _) [.Name e _,.Name x _] [] _::es=>decide (f="isinstance")&&decide (e="_law_e")&&decide (x=c)&&decide (sc.names.lookup c=some .globalImplicit)&&!(c == ("__debug__":Str))&&wF sc cs es
 |_,_=>false
noncomputable def wj:List Str→List Expr→Bool
 |[],[]=>true
 |w::ws,.Constant (.str x) _ _::es=>decide (x=w)&&wj ws es
 |_,_=>false
noncomputable def adr(mg:Str→Option Value)(c:Str):Addr:=match mg c with|some (.ref D)=>D|_=>0
theorem gV{mg:Str→Option Value}{c:Str}{D:Addr}(h:mg c=some (.ref D)):adr mg c=D:=by unfold adr;rw[h]
noncomputable def cz(K:Af)(dv:V):TE:=tCB (Uh K) (vD (uC 0) (vD (tC dv) r9))
noncomputable def l6(K:Af)(mg:Str→Option Value):List Str→TA
 |[]=>r9
 |c::cs=>vD (cz K (.ref (adr mg c))) (l6 K mg cs)
noncomputable def mO:List Str→TA
 |[]=>r9
 |w::ws=>vD (tC (.str w)) (mO ws)
structure KB(X:Cx)(sc:Scope):Prop where
 es:X.env.scope=sc
 nd:X.N.Nodup
 n0:X.N[0]?=some ("_law_e":Str)
 n1:X.N[1]?=some ("_law_marks":Str)
 n2:X.N[2]?=some ("_law_words":Str)
 l0:sc.names.lookup ("_law_e":Str)=some .local
 l1:sc.names.lookup ("_law_marks":Str)=some .local
 l2:sc.names.lookup ("_law_words":Str)=some .local
 gi:sc.names.lookup ("isinstance":Str)=some .globalImplicit
 gv:sc.names.lookup ("ValueError":Str)=some .globalImplicit
 mi:X.mg "isinstance"=none
 mv:X.mg "ValueError"=none
structure KS(K Kc:Af)(C a:Addr)(oe:Obj)(H0:Hp)(σ:St)(H:Hp):Prop where
 e0:σ[0]?=some (some (.ref a))
 ha:H a=some (.frz oe (.own 0))
 hc:oe.cls=.ref C
 F:sX Kc C
 sub:qF Kc K
 sm:xf H0 H
section
variable {X:Cx}{sc:Scope}
theorem KB.gl(B:KB X sc){x:Str}(h:sc.names.lookup x=some .globalImplicit):Gl X x:=by show X.env.scope.names.lookup x=_;rw[B.es];exact h
theorem KB.vis(B:KB X sc){x:Str}(h:sc.names.lookup x=some .local):Vis X.env.scope x:=by rw[B.es];exact .inl h
theorem KB.UP(B:KB X sc){p:Pos}:PE X (.Name "_law_e" p) (uC 0):=v8 B.n0 (B.vis B.l0) (by decide) (by decide)
theorem KB.WU(B:KB X sc){p:Pos}:PE X (.Name "_law_marks" p) (uC 1):=v8 B.n1 (B.vis B.l1) (by decide) (by decide)
theorem KB.Ti(B:KB X sc){p:Pos}:PE X (.Name "_law_words" p) (uC 2):=v8 B.n2 (B.vis B.l2) (by decide) (by decide)
theorem KB.UR(B:KB X sc){c:Str}{D:Addr}{p1 p2 p3 p4:Pos}(hg:sc.names.lookup c=some .globalImplicit)(hdb:(c == ("__debug__":Str))=false)(hm:X.mg c=some (.ref D)):PE X (.Call (.Name "isinstance" p1) [.Name "_law_e" p2,.Name c p3] [] p4) (cz X.K (.ref D)):=
 uc nE (B.gl B.gi) B.mi boot_isinstance (xY B.UP (xY (WY (B.gl hg) hm hdb) yn))
theorem KB.WT(B:KB X sc){p1 p2 p3 p4:Pos}:PE X (.Call (.Name "isinstance" p1) [.Name "_law_e" p2,.Name "ValueError" p3] [] p4) (cz X.K (.ty "ValueError")):=
 uc nE (B.gl B.gi) B.mi boot_isinstance (xY B.UP (xY (WS (B.gl B.gv) B.mv (by first|rfl|decide +kernel) (by decide) (by decide)) yn))
theorem KB.isl(B:KB X sc):∀{cs:List Str} {es:List Expr},wF sc cs es=true→(∀c∈cs,∃D,X.mg c=some (.ref D))→PA X es (l6 X.K X.mg cs)
 |[],[],_,_=>yn
 |[],_::_,h,_=>by simp[wF]at h
 |_::_,[],h,_=>by simp[wF]at h
 |c::cs,e::es,h,hm=>by
  unfold wF at h
  split at h
  . cases ‹_=[]›
  . rename_i hc he
    cases hc
    cases he
    simp only[Aa,decide_eq_true_eq,AX]at h
    obtain⟨⟨⟨⟨⟨rfl,rfl⟩,rfl⟩,h4⟩,h5⟩,h6⟩:=h
    obtain⟨D,hD⟩:=hm _ (Av ..)
    refine xY ?_ (KB.isl B h6 fun c' hc'=>hm c' (Ao _ hc'))
    rw[gV hD]
    exact B.UR h4 h5 hD
  . cases h
theorem Wu:∀{ws:List Str} {es:List Expr},wj ws es=true→PA X es (mO ws)
 |[],[],_=>yn
 |[],_::_,h=>by simp[wj]at h
 |_::_,[],h=>by simp[wj]at h
 |w::ws,e::es,h=>by
  unfold wj at h
  split at h
  . cases ‹_=[]›
  . rename_i hc he
    cases hc
    cases he
    simp only[Aa,decide_eq_true_eq]at h
    obtain⟨rfl,h⟩:=h
    exact xY tF (Wu h)
  . cases h
end
section
variable {K Kc:Af}{mg:Str→Option Value}{C a:Addr}{oe:Obj}{H0 H:Hp}{σ:St}
theorem fV{dv:V}{du:Value}{b:Bool}{Q:VK}(S:KS K Kc C a oe H0 σ H)(hd:∀u,RelV dv u→u=du)(hk:kitOne Kc (.ref C) du=some b)(q:Q (.bl b) H):cz K dv σ H Q:=
 ⟨_,S.e0,a,oe,C,dv,du,b,Kc,rfl,S.ha,S.hc,S.sub,S.F,hd,hk,q⟩
theorem oA(S:KS K Kc C a oe H0 σ H)(b:Str→Bool):∀{cs:List Str} {Q:List V→Hp→Prop},(∀c∈cs,kitOne Kc (.ref C) (.ref (adr mg c))=some (b c))→Q (cs.map fun c=>.bl (b c)) H→l6 K mg cs σ H Q
 |[],_,_,q=>q
 |c::cs,Q,hk,q=>fV S (fun u z=>z) (hk c (Av ..)) (oA S b (fun c' hc'=>hk c' (Ao _ hc')) q)
theorem r8:∀{ws:List Str} {Q:List V→Hp→Prop},Q (ws.map V.str) H→mO ws σ H Q
 |[],_,q=>q
 |w::ws,Q,q=>r8 (ws:=ws) q
theorem xO{p:Addr}{o:HO}(h:H p=none):xf H (upd H p o):=fun b u e=>by rw[zI (zR e h)];exact e
theorem KS.new{p:Addr}{o:HO}(S:KS K Kc C a oe H0 σ H)(h:H p=none):KS K Kc C a oe H0 σ (upd H p o):=⟨S.e0,xO h _ _ S.ha,S.hc,S.F,S.sub,S.sm.trans (xO h)⟩
theorem KS.put{i:Nat}{v:V}(S:KS K Kc C a oe H0 σ H):KS K Kc C a oe H0 (σ.set (i+1) (some v)) H:=⟨by rw[BJ (by omega)];exact S.e0,S.ha,S.hc,S.F,S.sub,S.sm⟩
theorem aa{b:Str→Bool}{cs:List Str}{D:Ends}(S:KS K Kc C a oe H0 σ H)(hl:3≤σ.length)(hz:cs.length≤1000)(hk:∀c∈cs,kitOne Kc (.ref C) (.ref (adr mg c))=some (b c))
 (q:∀(p:Addr) (σ':St) (H':Hp),KS K Kc C a oe H0 σ' H'→σ'.length=σ.length→σ'[1]?=some (some (.ref p))→H' p=some (.lst (cs.map fun c=>.bl (b c)))→D.nx σ' H'):um (l7 (l6 K mg cs)) (xl 1) D σ H:=
 oA S b hk ⟨by rw[Ai,A2];omega,fun p hp=>q p _ _ (S.new hp).put (by simp) (by rw[AR (by omega)]) zN⟩
theorem oG{b:Str→Bool}{ds cs:List Str}{D:Ends}{p0:Addr}(S:KS K Kc C a oe H0 σ H)(hl:3≤σ.length)(h1:σ[1]?=some (some (.ref p0)))(h2:H p0=some (.lst (ds.map fun c=>.bl (b c))))(hz:ds.length+cs.length≤1000)(hk:∀c∈cs,kitOne Kc (.ref C) (.ref (adr mg c))=some (b c))
 (q:∀(p:Addr) (σ':St) (H':Hp),KS K Kc C a oe H0 σ' H'→σ'.length=σ.length→σ'[1]?=some (some (.ref p))→H' p=some (.lst ((ds++cs).map fun c=>.bl (b c)))→D.nx σ' H'):um (tOp ZJ (uC 1) (l7 (l6 K mg cs))) (xl 1) D σ H:=by
 refine⟨_,h1,oA S b hk ⟨by rw[Ai,A2];omega,fun p1 hp1=>⟨p0,p1,_,_,rfl,rfl,by rw[zI (zR h2 hp1)];exact h2,zN,by rw[Ai,Ai,A2];omega,fun p hp=>?_⟩⟩⟩
 refine q p _ _ ((S.new hp1).new hp).put (by simp) (by rw[AR (by omega)]) ?_
 rw[zN,Ci]
end
end L2
end
section
namespace L2
open PySem PySem.W PySem.Spec PySem.Calls PyProof PyProof.Rows
noncomputable def ans(pre:Option Str)(w:Str):Str:=match pre with|none=>w|some x=>x++w
noncomputable def Ud:R2:=fun x y H Q=>∃i j,x=.str i∧y=.str j∧i.length+j.length≤AB∧Q (.str (i++j)) H
noncomputable def jR(K:Af)(ws2:List Str):TE:=tOp (Wl K) (tOp ZJ (uC 2) (l7 (mO ws2))) (tBM K "list" (oW K) (uC 1) (vD (tC (.bl true)) r9))
noncomputable def l8(K:Af)(pre:Option Str)(ws2:List Str):TE:=match pre with
 |none=>jR K ws2
 |some x=>tOp Ud (tC (.str x)) (jR K ws2)
noncomputable def tMk(K:Af)(mg:Str→Option Value)(cs:List Str):TS:=um (tOp ZJ (uC 1) (l7 (l6 K mg cs))) (xl 1)
noncomputable def YK(K:Af)(mg:Str→Option Value)(cs1 cs2 cs3 cs4 ws1 ws2:List Str)(pre:Option Str)(odd:Str):TS:=
 mM (um (l7 (l6 K mg cs1)) (xl 1)) (mM (tMk K mg cs2) (mM (tMk K mg cs3) (mM (tMk K mg cs4)
  (mM (Uy (tOr (Uz (tB (cz K (.ty "ValueError")))) (jT (tOp rNe (tBM K "list" (lZ K false) (uC 1) (vD (tC (.bl true)) r9)) (tC (.int 1))))) (hX (tC (.str odd))) YL)
   (mM (um (l7 (mO ws1)) (xl 2)) (hX (l8 K pre ws2)))))))
section
variable {X:Cx}{sc:Scope}
theorem KB.pick(B:KB X sc){ws2:List Str}{l2:List Expr}{p1 p2 p3 p4 p5 p6 ap cp:Pos}{k:Nat}(w2:wj ws2 l2=true)(hline:(ap.endLine == cp.line)=true) :
 PE X (.Subscript (.BinOp (.Name "_law_words" p1) .Add (.List l2 p2) p3) (.Call (.Attribute (.Name "_law_marks" p4) "index" ap) [.Constant (.bool true) k p5] [] cp) p6) (jR X.K ws2):=
 YE kq (jG lQ B.Ti (rl (Wu w2))) (il B.WU dR (hline:=hline)) (fun _ _=>rfl)
theorem KB.mks(B:KB X sc){cs:List Str}{es:List Expr}{p1 p2 p3 p4 p5:Pos}(h:wF sc cs es=true)(hm:∀c∈cs,∃D,X.mg c=some (.ref D)) :
 PS X (.Assign [.Name "_law_marks" p1] (.BinOp (.Name "_law_marks" p2) .Add (.List es p3) p4) p5) (tMk X.K X.mg cs):=
 uA B.nd B.n1 (by rw[B.es];exact .inl B.l1) (jG lQ B.WU (rl (B.isl h hm))) (hf:=.inr (by rw[B.es];exact B.l1))
theorem eI(B:KB X sc){cs1 cs2 cs3 cs4 ws1 ws2:List Str}{pre:Option Str}{odd:Str}{e1 e2 e3 e4 l1:List Expr}{r:Expr}{a1 a2 a3 b1 b2 b3 b4 b5 c1 c2 c3 c4 c5 d1 d2 d3 d4 d5 f1 f2 f3 f4 f5 f6 f7 f8 f9 fa fb fc fd g1 g2 g3 ap cp r1:Pos}{k1 k2 k3:Nat}
 (h1:wF sc cs1 e1=true) (h2:wF sc cs2 e2=true) (h3:wF sc cs3 e3=true) (h4:wF sc cs4 e4=true) (hm:∀c∈cs1++cs2++cs3++cs4,∃D,X.mg c=some (.ref D)) (w1:wj ws1 l1=true) (hline:(ap.endLine == cp.line)=true) (hr:PE X r (l8 X.K pre ws2)) :
 PSs X [.Assign [.Name "_law_marks" a1] (.List e1 a2) a3,.Assign [.Name "_law_marks" b1] (.BinOp (.Name "_law_marks" b2) .Add (.List e2 b3) b4) b5,.Assign [.Name "_law_marks" c1] (.BinOp (.Name "_law_marks" c2) .Add (.List e3 c3) c4) c5,
  .Assign [.Name "_law_marks" d1] (.BinOp (.Name "_law_marks" d2) .Add (.List e4 d3) d4) d5,
  .If (.BoolOp .Or [.UnaryOp .Not (.Call (.Name "isinstance" f1) [.Name "_law_e" f2,.Name "ValueError" f3] [] f4) f5,.Compare (.Call (.Attribute (.Name "_law_marks" f6) "count" ap) [.Constant (.bool true) k1 f7] [] cp) [.NotEq] [.Constant (.int 1) k2 f8] f9] fa) [.Return (some (.Constant (.str odd) k3 fb)) fc] [] fd,
  .Assign [.Name "_law_words" g1] (.List l1 g2) g3,.Return (some r) r1] (YK X.K X.mg cs1 cs2 cs3 cs4 ws1 ws2 pre odd):=by
 have m1:∀c∈cs1,∃D,X.mg c=some (.ref D):=fun c h=>hm c (by simp[h])
 have m2:∀c∈cs2,∃D,X.mg c=some (.ref D):=fun c h=>hm c (by simp[h])
 have m3:∀c∈cs3,∃D,X.mg c=some (.ref D):=fun c h=>hm c (by simp[h])
 have m4:∀c∈cs4,∃D,X.mg c=some (.ref D):=fun c h=>hm c (by simp[h])
 refine yc (uA B.nd B.n1 (by rw[B.es];exact .inl B.l1) (rl (B.isl h1 m1)) (hf:=.inr (by rw[B.es];exact B.l1))) (yc (B.mks h2 m2) (yc (B.mks h3 m3) (yc (B.mks h4 m4) (yc ?_ (yc
  (uA B.nd B.n2 (by rw[B.es];exact .inl B.l2) (rl (Wu w1)) (hf:=.inr (by rw[B.es];exact B.l2))) (wy (vP hr)))))))
 exact dy (UZ (d0 (Wi B.WT)) (Wj (oU Z9 (ik B.WU dR (hline:=hline)) da (rY _ (by decide) (by decide))))) (wy (vP tF)) oS
end
section
variable {K Kc:Af}{mg:Str→Option Value}{C a:Addr}{oe:Obj}{H0 H:Hp}{σ:St}
theorem kW{cs:List Str}{b:Str→Bool}:(cs.map fun c=>V.bl (b c)).all w9=true:=by rw[List.all_map,AI];intro _ _;rfl
theorem ey{cs:List Str}{c0:Str}(nd:cs.Nodup)(hm:c0∈cs):((cs.map fun c=>V.bl (decide (c=c0))).countP fun z=>eqV z (.bl true))=1:=by
 rw[List.countP_map]
 have e:((fun z=>eqV z (.bl true))∘fun c=>V.bl (decide (c=c0)))=fun c:Str=>c == c0:=by
  funext c
  by_cases z:c=c0
  . subst z;simp[eqV]
  . simp[eqV,z]
 rw[e]
 have h1:cs.count c0≤1:=List.nodup_iff_count.mp nd c0
 have h2:0<cs.count c0:=List.count_pos_iff.mpr hm
 show cs.count c0=1
 omega
theorem aC{cs:List Str}{c0:Str}{i:Nat}(nd:cs.Nodup)(hi:cs[i]?=some c0):(cs.map fun c=>V.bl (decide (c=c0))).findIdx? (fun z=>eqV z (.bl true))=some i:=by
 obtain⟨h1,h2⟩:=As.mp hi
 rw[Eh]
 refine⟨by rw[Ai];exact h1,by rw[Gd,h2];simp[eqV],fun j hj=>?_⟩
 rw[Gd]
 have:cs[j]≠c0:=fun z=>by
  rw[←h2]at z
  exact absurd ((List.getElem_inj nd).mp z) (by omega)
 simp[eqV,this]
theorem eJ{cs1 cs2 cs3 cs4 ws1 ws2:List Str}{pre:Option Str}{odd c0 w:Str}{i:Nat}{D:Ends}(S:KS K Kc C a oe H0 σ H)(hl:3≤σ.length)(nd:(cs1++cs2++cs3++cs4).Nodup)(hz:(cs1++cs2++cs3++cs4).length≤100)(hz2:(ws1++ws2).length≤100)
 (hi:(cs1++cs2++cs3++cs4)[i]?=some c0) (hw:(ws1++ws2)[i]?=some w) (hwl:w.length≤100) (hpl:∀x,pre=some x→x.length≤100) (hk:∀c∈cs1++cs2++cs3++cs4,kitOne Kc (.ref C) (.ref (adr mg c))=some (decide (c=c0))) (hv:kitOne Kc (.ref C) (.type "ValueError")=some true)
 (q:∀H',xf H0 H'→D.rt (.str (ans pre w)) H'):YK K mg cs1 cs2 cs3 cs4 ws1 ws2 pre odd D σ H:=by
 simp only[Ap]at hz hz2
 have k1:∀c∈cs1,kitOne Kc (.ref C) (.ref (adr mg c))=some (decide (c=c0)):=fun c h=>hk c (by simp[h])
 have k2:∀c∈cs2,kitOne Kc (.ref C) (.ref (adr mg c))=some (decide (c=c0)):=fun c h=>hk c (by simp[h])
 have k3:∀c∈cs3,kitOne Kc (.ref C) (.ref (adr mg c))=some (decide (c=c0)):=fun c h=>hk c (by simp[h])
 have k4:∀c∈cs4,kitOne Kc (.ref C) (.ref (adr mg c))=some (decide (c=c0)):=fun c h=>hk c (by simp[h])
 refine aa (b:=fun c=>decide (c=c0)) S hl (by omega) k1 fun p1 σ1 H1 S1 n1 e1 q1=>?_
 refine oG (b:=fun c=>decide (c=c0)) (ds:=cs1) S1 (by omega) e1 q1 (by omega) k2 fun p2 σ2 H2 S2 n2 e2 q2=>?_
 refine oG (b:=fun c=>decide (c=c0)) (ds:=cs1++cs2) S2 (by omega) e2 q2 (by rw[Ap];omega) k3 fun p3 σ3 H3 S3 n3 e3 q3=>?_
 refine oG (b:=fun c=>decide (c=c0)) (ds:=cs1++cs2++cs3) S3 (by omega) e3 q3 (by rw[Ap,Ap];omega) k4 fun p4 σ4 H4 S4 n4 e4 q4=>?_
 have hmem:c0∈cs1++cs2++cs3++cs4:=AS hi
 refine fV S4 (fun u z=>z) hv ⟨true,rfl,?_⟩
 refine sD ?_
 refine⟨_,e4,?_,p4,_,.bl true,rfl,rfl,.inl (.inl q4),rfl,kW,rfl,_,rfl,?_⟩
 . exact .inl ⟨rfl,_,.inl (.inl q4)⟩
 rw[ey nd hmem]
 refine sD ?_
 refine r8 ⟨by rw[Ai,A2];omega,fun p5 hp5=>?_⟩
 have S5:KS K Kc C a oe H0 (σ4.set 2 (some (.ref p5))) (upd H4 p5 (.lst (ws1.map V.str))):=(S4.new hp5).put
 have e5:(σ4.set 2 (some (V.ref p5)))[1]?=some (some (.ref p4)):=by rw[BJ (by omega)];exact e4
 have q5:upd H4 p5 (.lst (ws1.map V.str)) p4=some (.lst ((cs1++cs2++cs3++cs4).map fun c=>V.bl (decide (c=c0)))):=by rw[zI (zR q4 hp5)];exact q4
 have pick:∀Q:VK,(∀H',xf H0 H'→Q (.str w) H')→jR K ws2 (σ4.set 2 (some (.ref p5))) (upd H4 p5 (.lst (ws1.map V.str))) Q:=fun Q hQ=>by
  refine⟨_,by rw[AR (by omega)],r8 ⟨by rw[Ai,A2];omega,fun p6 hp6=>⟨p5,p6,_,_,rfl,rfl,by rw[zI (zR zN hp6)];exact zN,zN,by rw[Ai,Ai,A2];omega,fun p7 hp7=>?_⟩⟩⟩
  have q6:=xO (o:=.lst (ws1.map V.str++ws2.map V.str)) hp7 _ _ (xO (o:=.lst (ws2.map V.str)) hp6 _ _ q5)
  refine⟨_,e5,.inl ⟨rfl,_,.inl (.inl q6)⟩,p4,_,.bl true,i,rfl,rfl,.inl (.inl q6),rfl,kW,aC nd hi,p7,_,i,.str w,rfl,rfl,.inl (.inl zN),?_,hQ _ ((S5.sm.trans (xO hp6)).trans (xO hp7))⟩
  obtain⟨h1,h2⟩:=As.mp hw
  rw[Ap]at h1
  unfold atI ixN
  rw[←Ci,if_pos (by omega),Ai,Ap,if_pos (by omega)]
  show (E7 V.str (ws1++ws2))[(i:Int).toNat]?=_
  rw[Bj,AQ,hw];rfl
 cases pre with
 |none=>exact pick _ q
 |some x=>
  refine pick _ fun H' sm=>⟨x,w,rfl,rfl,?_,q H' sm⟩
  have:=hpl x rfl
  rw[A2];omega
end
end L2
end
section
namespace L2
open PySem PySem.W PySem.Spec PySem.Calls PyProof PyProof.Rows
noncomputable def kN:List Str:=["_law_e","_law_marks","_law_words"]
def gO(sc:Scope)(cs ws:List Str)(pre:Option Str)(body:List Stmt):Prop:=
 ∃(cs1 cs2 cs3 cs4 ws1 ws2:List Str) (odd:Str) (e1 e2 e3 e4 l1 l2:List Expr) (r s:Expr) (a1 a2 a3 b1 b2 b3 b4 b5 c1 c2 c3 c4 c5 d1 d2 d3 d4 d5 f1 f2 f3 f4 f5 f6 f7 f8 f9 fa fb fc fd g1 g2 g3 ap cp r1 q1 q2 q3 q4 q5 q6 ap2 cp2 t1 t2:Pos) (k1 k2 k3 k4 k5:Nat),
  body=[.Assign [.Name "_law_marks" a1] (.List e1 a2) a3,.Assign [.Name "_law_marks" b1] (.BinOp (.Name "_law_marks" b2) .Add (.List e2 b3) b4) b5,.Assign [.Name "_law_marks" c1] (.BinOp (.Name "_law_marks" c2) .Add (.List e3 c3) c4) c5,
   .Assign [.Name "_law_marks" d1] (.BinOp (.Name "_law_marks" d2) .Add (.List e4 d3) d4) d5,
   .If (.BoolOp .Or [.UnaryOp .Not (.Call (.Name "isinstance" f1) [.Name "_law_e" f2,.Name "ValueError" f3] [] f4) f5,.Compare (.Call (.Attribute (.Name "_law_marks" f6) "count" ap) [.Constant (.bool true) k1 f7] [] cp) [.NotEq] [.Constant (.int 1) k2 f8] f9] fa) [.Return (some (.Constant (.str odd) k3 fb)) fc] [] fd,
   .Assign [.Name "_law_words" g1] (.List l1 g2) g3,.Return (some r) r1] ∧
  s=.Subscript (.BinOp (.Name "_law_words" q1) .Add (.List l2 q2) q3) (.Call (.Attribute (.Name "_law_marks" q4) "index" ap2) [.Constant (.bool true) k4 q5] [] cp2) q6 ∧
  (match pre with|none=>r=s|some x=>r=.BinOp (.Constant (.str x) k5 t1) .Add s t2) ∧
  (wF sc cs1 e1&&wF sc cs2 e2&&wF sc cs3 e3&&wF sc cs4 e4&&wj ws1 l1&&wj ws2 l2&&(ap.endLine == cp.line)&&(ap2.endLine == cp2.line))=true∧cs=cs1++cs2++cs3++cs4∧ws=ws1++ws2
structure pN(K:Af)(mg:Str→Option Value)(x:Str)(cs ws:List Str)(pre:Option Str):Prop where
 ex:∃(st:Stmt) (f:Addr) (fd:Bx),mg x=some (.ref f)∧Fun K x x st f fd∧wD kN ["_law_e"] (zG st)∧Binds K fd ["_law_e"] []∧gO (zG st) cs ws pre (yR st) ∧
  ((zG st).names.lookup ("_law_e":Str)=some .local∧(zG st).names.lookup ("_law_marks":Str)=some .local∧(zG st).names.lookup ("_law_words":Str)=some .local∧(zG st).names.lookup ("isinstance":Str)=some .globalImplicit∧(zG st).names.lookup ("ValueError":Str)=some .globalImplicit)
 own:∀c∈cs,∃D,mg c=some (.ref D)
 mi:mg "isinstance"=none
 mv:mg "ValueError"=none
 nd:cs.Nodup
 hz:cs.length≤100
 hz2:ws.length≤100
 hw:∀w∈ws,w.length≤100
 hp:∀x,pre=some x→x.length≤100
structure YW(Kc:Af)(mg:Str→Option Value)(cs:List Str)(C:Addr)(c0:Str):Prop where
 F:sX Kc C
 kit:∀c∈cs,kitOne Kc (.ref C) (.ref (adr mg c))=some (decide (c=c0))
 ve:kitOne Kc (.ref C) (.type "ValueError")=some true
def Named(K:Af)(mg:Str→Option Value)(cs:List Str)(C:Addr)(c0:Str):Prop:=∃Kc,qF Kc K∧YW Kc mg cs C c0
noncomputable def tKC(K:Af)(mg:Str→Option Value)(cs ws:List Str)(pre:Option Str)(ie:Nat):TE:=fun σ H Q=>∃(a:Addr) (oe:Obj) (C:Addr) (c0:Str) (i:Nat) (w:Str),σ[ie]?=some (some (.ref a))∧H a=some (.frz oe (.own 0))∧oe.cls=.ref C∧Named K mg cs C c0 ∧
 cs[i]?=some c0∧ws[i]?=some w∧∀H',xf H H'→Q (.str (ans pre w)) H'
section
variable {X:Cx}
theorem iC{x e:Str}{cs ws:List Str}{pre:Option Str}{ie:Nat}{p p2 pos:Pos}(F:pN X.K X.mg x cs ws pre)(hdp:X.A.depth<CY)(hg:Gl X x)(hdb:(x == ("__debug__":Str))=false)(hN:X.N[ie]?=some e)(hv:Vis X.env.scope e)(hd1:(e == ("__debug__":Str))=false)(hd2:(e == ("__classdict__":Str))=false) :
 PE X (.Call (.Name x p) [.Name e p2] [] pos) (tKC X.K X.mg cs ws pre ie):=by
 intro pins s σ H Q I ⟨a,oe,C,c0,i,w,h0,ha,hc,nm,hi,hw,q⟩
 obtain⟨st,f,fd,hm,Fn,S,hb,sh,hl0,hl1,hl2,hgi,hgv⟩:=F.ex
 refine B4 (wH I hg hm ?_ hdb)
 have hpa:PA X [.Name e p2] (vD (uC ie) r9):=xY (v8 hN hv hd1 hd2) yn
 refine Fe (h₀:=X.base) I.ok.mod.kin Fn.kp (thn (hpa pos pins s σ H (fun vs H1=>vs=[V.ref a]∧H1=H) I ⟨_,h0,rfl,rfl⟩) fun us s1 ⟨vs,H1,I1,r,hvs,hH⟩=>⟨I1.kIn,?_⟩)
 subst hvs hH
 obtain⟨oc,od,kV,doc,pm,an,cdv,ct,osl,rfl,lk,hcd⟩:=Fn.ex
 have hl:us.length=1:=by rw[←r.length];rfl
 have hbt:=hb s1 us I1.kIn (by rw[AY];exact hl)
 rw[AY]at hbt
 refine DZ (CG (nM (CX:=CX0) (E:=E0) (R:=CR CX0 X.stack X.prog X.w H1 s1 Q E0) (N:=kN) lk hcd S hdp I1.vL hbt rfl r fun s2 I2 _=>?_) fun r s' hq=>?_)
 . have I3:=I2.loud (A':=X.A.deeper (envOfC x (zG st) s1.heap.objs.size f cdv)) (EJ I1.vL.frames)
   have B:KB ((xK CX0 X.prog X.w X.K X.mg X.base kN x (zG st) f cdv {X.A with handled:=none} X.stack s1 H1 E0).loud (X.A.deeper (envOfC x (zG st) s1.heap.objs.size f cdv))).nox (zG st):=
    ⟨rfl,S.nd,rfl,rfl,rfl,hl0,hl1,hl2,hgi,hgv,F.mi,F.mv⟩
   obtain⟨cs1,cs2,cs3,cs4,ws1,ws2,odd,e1,e2,e3,e4,l1,l2,rr,ss,a1,a2,a3,b1,b2,b3,b4,b5,c1,c2,c3,c4,c5,d1,d2,d3,d4,d5,f1,f2,f3,f4,f5,f6,f7,f8,f9,fa,fb,fc,fd,g1,g2,g3,ap,cp,r1,q1,q2,q3,q4,q5,q6,ap2,cp2,t1,t2,k1,k2,k3,k4,k5,hbody,hs,hr,hck,hcs,hws⟩:=sh
   simp only[Aa]at hck
   obtain⟨⟨⟨⟨⟨⟨⟨y1,y2⟩,y3⟩,y4⟩,y5⟩,y6⟩,y7⟩,y8⟩:=hck
   subst hcs hws hs
   have hpe:PE ((xK CX0 X.prog X.w X.K X.mg X.base kN x (zG st) f cdv {X.A with handled:=none} X.stack s1 H1 E0).loud (X.A.deeper (envOfC x (zG st) s1.heap.objs.size f cdv))).nox rr (l8 X.K pre ws2):=by
    cases pre with
    |none=>subst hr;exact B.pick y6 y8
    |some x=>subst hr;exact jG rj tF (B.pick y6 y8)
   have t:=eI B (a1:=a1) (a2:=a2) (a3:=a3) (b1:=b1) (b2:=b2) (b3:=b3) (b4:=b4) (b5:=b5) (c1:=c1) (c2:=c2) (c3:=c3) (c4:=c4) (c5:=c5) (d1:=d1) (d2:=d2) (d3:=d3) (d4:=d4) (d5:=d5) (f1:=f1) (f2:=f2) (f3:=f3) (f4:=f4) (f5:=f5) (f6:=f6) (f7:=f7) (f8:=f8) (f9:=f9) (fa:=fa) (fb:=fb) (fc:=fc) (fd:=fd) (g1:=g1) (g2:=g2) (g3:=g3) (ap:=ap) (cp:=cp) (r1:=r1) (k1:=k1) (k2:=k2) (k3:=k3) (odd:=odd) (pre:=pre) (ws2:=ws2) y1 y2 y3 y4 F.own y5 y7 hpe
   unfold gN
   rw[hbody]
   obtain⟨Kc,sub,nm⟩:=nm
   have KS0:KS X.K Kc C a oe H1 (start kN [.ref a]) H1:=⟨rfl,ha,hc,nm.F,sub,xf.refl _⟩
   refine A9 (t [] s2 (start kN [.ref a]) H1 {nx:=fun _ _=>False,rt:=Q} (I3.wB _) (eJ KS0 (show 3≤3 from Ag _) F.nd F.hz F.hz2 hi hw (F.hw _ (AS hw)) F.hp nm.kit nm.ve fun H' sm=>q H' sm)) (fun fl s' hs=>?_) fun _ _ z=>AJ z
   cases fl with
   |ret u=>
    obtain⟨v,σ',H',J,rv,q'⟩:=hs
    exact⟨v,H',J.os,J.bare,J.base,J.hok,rv,q'⟩
   |next=>obtain⟨_,_,_,z⟩:=hs;exact AJ z
   |brk=>obtain⟨_,_,_,z⟩:=hs;exact AJ z
   |cont=>obtain⟨_,_,_,z⟩:=hs;exact AJ z
 . cases r with
   |error e=>exact AJ hq
   |ok fl=>
    cases fl with
    |ret u=>exact I1.after hq
    |next=>exact AJ hq
    |brk=>exact AJ hq
    |cont=>exact AJ hq
end
end L2
end
section
namespace L2
open PySem PySem.W PySem.Spec PySem.Calls PyProof PyProof.Rows
structure kS(outer:List Env)(h:Heap)(H:Hp)(lf c:Addr)(qual:Str)(body:Expr)(lsc:Scope)(cl:List (Str × Addr))(pm ctv:Value)(N:List Str)(σ:St):Prop where
 ob:h.get? lf=some (kla_obj "<lambda>" qual noArgs body lsc cl pm c ctv)
 nl:H lf=none
 fl:lf ∉ frs outer
 cd:∃(o:Obj) (vs:Array Value) (t:Tok),H c=some (.frz o (.own 0))∧o.data=.fields vs∧vs[1]?=some (.str qual t)
 inj:∀x y b,cl.lookup x=some b→cl.lookup y=some b→x=y
 has:∀x,lsc.names.lookup x=some .free→∃b,cl.lookup x=some b
 cel:∀x b,cl.lookup x=some b→(∃v,h.IsCell b v)∧H b=none∧b ∉ frs outer
 val:∀(i:Nat) (x:Str) (v:V),N[i]?=some x→σ[i]?=some (some v)→lsc.names.lookup x=some .free→∃u b,RelV v u∧cl.lookup x=some b∧h.IsCell b (some u)
 len:σ.length=N.length
 kd:lsc.kind=.function
 co:lsc.isCoroutine=false
 gn:lsc.isGenerator=false
 nm:∀x∈lsc.names,x.2≠.cell∧x.2≠.local
section
variable {X:Cx}{EE:Value→Hp→Prop}
theorem eN{lf c:Addr}{qual:Str}{body:Expr}{lsc:Scope}{cl:List (Str × Addr)}{pm ctv:Value}{N:List Str}{σ:St}{tb:TE}{ic:Nat}{p pos:Pos}(L:kS X.outer X.s₀.heap X.H₀ lf c qual body lsc cl pm ctv N σ)(hxn:X.ex=[])(hdp:X.A.depth<CY)(hh:X.A.handled=none)
 (hN:X.N[ic]?=some ("_law_call":Str)) (hv:Vis X.env.scope "_law_call")
 (hbody:∀(s':Shared) (H':Hp),PE (rB (CXE X.prog X.w) X.prog X.w X.K X.mg X.base N qual lsc lf (.ref c) cl X.A X.stack s' H' (fun cls _ H'=>EE cls H')) body tb) :
 PE (X.wB (XC X EE)) (.Call (.Name "_law_call" p) [] [] pos) (fun σ1 H1 Q=>σ1[ic]?=some (some (.ref lf))∧tb σ H1 Q):=by
 intro pins s1 σ1 H1 Q I ⟨h0,hq⟩
 have hpe:PE (X.wB (XC X EE)) (.Name "_law_call" p) (uC ic):=v8 hN hv (by decide) (by decide)
 refine B4 (thn (hpe pins s1 σ1 H1 (fun v H2=>v=V.ref lf∧H2=H1) I ⟨_,h0,rfl,rfl⟩) fun u s2 ⟨v,H2,I2,r,hv2,hH2⟩=>?_)
 subst hv2 hH2
 cases r
 have un:Un (frs X.outer) [] X.H₀ H2 X.s₀.heap s2.heap:=by have:=I2.base;rw[show (X.wB (XC X EE)).ex=[] from hxn]at this;exact this
 have ob2:s2.heap.get? lf=some (kla_obj "<lambda>" qual noArgs body lsc cl pm c ctv):=un.keep _ _ L.ob L.nl L.fl (by simp)
 have cr2:s2.heap.CodeRec (.ref c) qual:=by
  obtain⟨o,vs,t,q1,q2,q3⟩:=L.cd
  exact⟨c,o,vs,t,rfl,(I2.hok c _ (un.frzs c o _ q1)).1,q2,q3⟩
 have cell2:∀b v,X.s₀.heap.IsCell b v→X.H₀ b=none→b ∉ frs X.outer→s2.heap.IsCell b v:=fun b v ⟨o,e,d⟩ n f=>⟨o,un.keep b o e n f (by simp),d⟩
 refine callWith_of (P:=fun h=>h.get? lf=some (kla_obj "<lambda>" qual noArgs body lsc cl pm c ctv)) rfl (fun h e=>⟨.frame,.inl rfl,(Looks.ld (part:=none) e).andThen .now⟩) (evalArgs_nil3 ⟨ob2,?_⟩)
 refine DZ (CG (aX (CX:=CXE X.prog X.w) (E:=fun cls _ H'=>EE cls H') (R:=CR (CXE X.prog X.w) X.stack X.prog X.w H2 s2 Q (fun cls _ H'=>EE cls H')) (N:=N) (σ:=σ) hdp hh I2.vL ob2 cr2 L.kd L.co L.gn L.nm L.inj L.has (fun x b e=>?_) (fun i x v e1 e2 e3=>?_) L.len fun s3 I3=>?_) fun r s' hq=>?_)
 . obtain⟨⟨v,z⟩,n,f⟩:=L.cel x b e
   obtain⟨o,eo,_⟩:=id z
   exact⟨⟨v,cell2 b v z n f⟩,un.free b o eo n (by simp)⟩
 . obtain⟨u,b,q1,q2,q3⟩:=L.val i x v e1 e2 e3
   obtain⟨_,n,f⟩:=L.cel x b q2
   exact⟨u,b,q1,q2,cell2 b _ q3 n f⟩
 . refine A9 (hbody s2 H2 [] s3 σ H2 Q I3 hq) (fun u s' ⟨v,H',J,rv,q⟩=>?_) fun e s' z=>z
   exact⟨v,H',J.os,J.bare,J.base,J.hok,rv,q⟩
 . cases r with
   |error e=>
    obtain⟨a,cls,H',rfl,fl,hE⟩:=hq
    exact⟨a,cls,σ1,H2,s2,H',rfl,I2.yp.oQ fun p hp=>absurd hp (by simp),fl,hE⟩
   |ok fl=>
    cases fl with
    |ret u=>exact I2.after hq
    |next=>exact AJ hq
    |brk=>exact AJ hq
    |cont=>exact AJ hq
end
end L2
end
section
namespace L2
open PySem PySem.W PySem.Spec PySem.Calls PyProof PyProof.Rows
noncomputable def yl(m:Bool):Str:=if m then "_law_got" else "_law_said"
noncomputable def xN(m:Bool):List Str:=if m then ["_law_call","_law_e"] else ["_law_call","_law_e","_law_word"]
def gQ(m:Bool)(kx:Str)(body:List Stmt):Prop:=∃(te:Expr) (p1 p2 p3 p4 p5 p6 p7 p8 p9 pa pb q1 q2 q3 q4 q5 q6 q7 q8:Pos) (k1 k2:Nat),body=if m then
 [.Try [.Return (some (.Call (.Name "_law_call" p1) [] [] p2)) p3] [.ExceptHandler (some (.Name "HueError" p4)) (some "_law_e") [.Return (some (.Call (.Name kx p6) [.Name "_law_e" p7] [] p8)) p9] pa] [] [] pb]
 else [.Try [.Expr (.Call (.Name "_law_call" p1) [] [] p2) p3] [.ExceptHandler (some (.Name "HueError" p4)) (some "_law_e") [.Assign [.Name "_law_word" p5] (.Call (.Name kx p6) [.Name "_law_e" p7] [] p8) p9,
  .Return (some (.IfExp (.Compare (.Name "_law_word" q1) [.Eq] [.Constant (.str "great") k1 q2] q3) te (.Name "_law_word" q4) q5)) q6] pa] [] [] pb,.Return (some (.Constant (.str "told") k2 q7)) q8]
structure gP(K:Af)(mg:Str→Option Value)(m:Bool)(kx:Str)(f:Addr):Prop where
 ex:∃(st:Stmt) (fd:Bx),mg (yl m)=some (.ref f)∧Fun K (yl m) (yl m) st f fd∧wD (xN m) ["_law_call"] (zG st)∧Binds K fd ["_law_call"] []∧gQ m kx (yR st) ∧
  (zG st).names.lookup ("_law_call":Str)=some .local∧(zG st).names.lookup ("_law_e":Str)=some .local∧(m=false→(zG st).names.lookup ("_law_word":Str)=some .local)∧(zG st).names.lookup ("HueError":Str)=some .globalImplicit∧(zG st).names.lookup kx=some .globalImplicit
 kd:(kx == ("__debug__":Str))=false
section
variable {X:Cx}{D:Ends}{s:Shared}{E:Value→Shared→Prop}
theorem jt{st:Stmt}(h:wpAny (model X.prog X.w) X.A (exec st X.env) (SP X [] D) E s):wpAny (model X.prog X.w) X.A (execs [st] X.env) (SP X [] D) E s:=by
 refine Eo (thn h fun f s1 q=>?_)
 cases f with
 |next=>exact EG q
 |brk=>exact q
 |cont=>exact q
 |ret u=>exact q
theorem ju{st st2:Stmt}{t:TS}(h:wpAny (model X.prog X.w) X.A (exec st X.env) (SP X [] {D with nx:=t D}) X.xe s)(h2:PS X st2 t):wpAny (model X.prog X.w) X.A (execs [st,st2] X.env) (SP X [] D) X.xe s:=by
 refine Eo (thn h fun f s1 q=>?_)
 cases f with
 |next=>obtain⟨σ',H',I,q⟩:=q;exact wy h2 [] s1 σ' H' D I q
 |brk=>exact q
 |cont=>exact q
 |ret u=>exact q
end
section
variable {P:Program}{w:World}{K:Af}{mg:Str→Option Value}{base:Heap}{A:Around}{outer:List Env}{s:Shared}{H:Hp}{Q:VK}
theorem cS{m:Bool}{kx:Str}{cs ws:List Str}{pre:Option Str}{f hue lf c:Addr}{qual:Str}{body:Expr}{lsc:Scope}{cl:List (Str × Addr)}{pm ctv:Value}{N:List Str}{σ:St}{EE:Value→Hp→Prop}{tb:TE}
 (e0:mZ P w K mg base A outer s H) (hh:A.handled=none) (hdp:A.depth+1<CY) (S:gP K mg m kx f) (KF:pN K mg kx cs ws pre) (hu:mg "HueError"=some (.ref hue)) (L:kS outer s.heap H lf c qual body lsc cl pm ctv N σ)
 (hbody:∀(env:Env) (s':Shared) (H':Hp),PE (rB (CXE P w) P w K mg base N qual lsc lf (.ref c) cl (A.deeper env) (env::outer) s' H' (fun cls _ H'=>EE cls H')) body tb)
 (hq:tb σ H fun v H1=>Q (if m then v else .str "told") H1)
 (hE:∀cls H',EE cls H'→∃(C:Addr) (c0:Str) (i:Nat) (x:Str),cls=.ref C∧(∃Kc,qF Kc K∧exmOne Kc (.ref C) (.ref hue)=some true)∧Named K mg cs C c0∧cs[i]?=some c0∧ws[i]?=some x∧(m=false→ans pre x≠"great")∧∀H'',xf H' H''→Q (.str (ans pre x)) H'') :
 codeAny (model P w) A (.call (.ref f) ⟨[.ref lf],[]⟩) (CR CX0 outer P w H s Q E0) s:=by
 obtain⟨st,fd,hm,Fn,Sc,hb,sh,l0,l1,l2,g0,g1⟩:=S.ex
 obtain⟨oc,od,kV,doc,pm',an,cdv,ct,osl,rfl,lk,hcd⟩:=Fn.ex
 have KX:K.In s.heap:=e0.mod.kin.keeps fun b o e=>(e0.bs b o e).1
 have hbt:=hb s [.ref lf] KX rfl
 refine nM (CX:=CX0) (E:=E0) (R:=CR CX0 outer P w H s Q E0) (N:=xN m) (vs:=[.ref lf]) lk hcd Sc (by omega) e0 hbt rfl (.cons rfl .nil) fun s1 I1 _=>?_
 rw[oz hh]at I1
 obtain⟨te,p1,p2,p3,p4,p5,p6,p7,p8,p9,pa,pb,q1,q2,q3,q4,q5,q6,q7,q8,k1,k2,hbd⟩:=sh
 have hLam:kS (xK CX0 P w K mg base (xN m) (yl m) (zG st) f cdv A outer s H E0).outer (xK CX0 P w K mg base (xN m) (yl m) (zG st) f cdv A outer s H E0).s₀.heap (xK CX0 P w K mg base (xN m) (yl m) (zG st) f cdv A outer s H E0).H₀ lf c qual body lsc cl pm ctv N σ:=L
 have hA:(xK CX0 P w K mg base (xN m) (yl m) (zG st) f cdv A outer s H E0).A.depth=A.depth+1:=rfl
 have hlam:∀{p pos:Pos},PE ((xK CX0 P w K mg base (xN m) (yl m) (zG st) f cdv A outer s H E0).wB (XC (xK CX0 P w K mg base (xN m) (yl m) (zG st) f cdv A outer s H E0) EE)) (.Call (.Name "_law_call" p) [] [] pos) (fun σ1 H1 Q=>σ1[0]?=some (some (.ref lf))∧tb σ H1 Q):=fun{p pos}=>
  eN hLam rfl (by rw[hA];exact hdp) hh (by cases m<;>rfl) (.inl l0) fun s' H'=>hbody _ s' H'
 have n1:(xN m)[1]?=some ("_law_e":Str):=by cases m<;>rfl
 have fin:∀(fl:Flow) (s':Shared),SP (xK CX0 P w K mg base (xN m) (yl m) (zG st) f cdv A outer s H E0) [] {nx:=fun _ _=>False,rt:=Q} fl s'→CR CX0 outer P w H s Q E0 (.ok (.ret (match fl with|.ret v=>v|_=>.none))) s':=fun fl s' hs=>by
  cases fl with
  |ret u=>
   obtain⟨v,σ',H',J,rv,q'⟩:=hs
   exact⟨v,H',J.os,J.bare,J.base,J.hok,rv,q'⟩
  |next=>obtain⟨_,_,_,z⟩:=hs;exact AJ z
  |brk=>obtain⟨_,_,_,z⟩:=hs;exact AJ z
  |cont=>obtain⟨_,_,_,z⟩:=hs;exact AJ z
 have kc:∀(a:Addr) {p p2 pos:Pos},PE ((xK CX0 P w K mg base (xN m) (yl m) (zG st) f cdv A outer s H E0).loud ((xK CX0 P w K mg base (xN m) (yl m) (zG st) f cdv A outer s H E0).A.mark (some (.ref a)))).nox (.Call (.Name kx p) [.Name "_law_e" p2] [] pos) (tKC K mg cs ws pre 1):=fun a {p p2 pos}=>
  iC KF (by show A.depth+1<_;exact hdp) g1 S.kd n1 (.inl l1) (by decide) (by decide)
 unfold gN
 rw[hbd]
 cases m with
 |true=>
  rw[if_pos rfl]
  refine A9 (jt (X:=xK CX0 P w K mg base (xN true) (yl true) (zG st) f cdv A outer s H E0) (D:={nx:=fun _ _=>False,rt:=Q}) (bD (EE:=EE) (ts:=hX (tKC K mg cs ws pre 1)) (ie:=1) I1 rfl rfl Sc.nd l1 n1 rfl rfl g0 (by decide) hu (wy (vP hlam)) ⟨rfl,hq⟩ (fun cls H' hc=>?_) fun a=>wy (vP (kc a)))) fin fun e s' z=>z
  obtain⟨C,c0,i,x,rfl,hx,nm,hi,hw,_,qq⟩:=hE cls H' hc
  refine⟨hx,fun a oe σ2 hn hcl hl=>⟨a,oe,C,c0,i,x,?_,zN,hcl,nm,hi,hw,fun H'' sm=>qq H'' ((xO hn).trans sm)⟩⟩
  rw[AR (by rw[hl];exact(by decide:1<2))]
 |false=>
  rw[if_neg Am]
  have n2:(xN false)[2]?=some ("_law_word":Str):=rfl
  refine A9 (ju (X:=xK CX0 P w K mg base (xN false) (yl false) (zG st) f cdv A outer s H E0) (D:={nx:=fun _ _=>False,rt:=Q}) (t:=hX (tC (.str "told"))) (bD (EE:=EE) (ts:=mM (um (tKC K mg cs ws pre 1) (xl 2)) (hX (tIf (jT (tOp rEq (uC 2) (tC (.str "great")))) (fun _ _ _=>False) (uC 2)))) (ie:=1) I1 rfl rfl Sc.nd l1 n1 rfl rfl g0 (by decide) hu (wy (oR hlam)) ⟨rfl,hq⟩ (fun cls H' hc=>?_) fun a=>?_) (vP tF)) fin fun e s' z=>z
  . obtain⟨C,c0,i,x,rfl,hx,nm,hi,hw,ng,qq⟩:=hE cls H' hc
    refine⟨hx,fun a oe σ2 hn hcl hl=>⟨a,oe,C,c0,i,x,?_,zN,hcl,nm,hi,hw,fun H'' sm=>?_⟩⟩
    . rw[AR (by rw[hl];exact(by decide:1<3))]
    . have e2:((σ2.set 1 (some (V.ref a))).set 2 (some (V.str (ans pre x))))[2]?=some (some (.str (ans pre x))):=by rw[AR (by rw[CK,hl];exact(by decide:2<3))]
      refine⟨_,e2,rfl,_,rfl,?_⟩
      have hne:¬(V.str (ans pre x)=V.str "great"):=fun z=>ng rfl (V.str.inj z)
      rw[decide_eq_false hne]
      exact sD ⟨_,e2,qq H'' ((xO hn).trans sm)⟩
  . have vw:Vis (zG st) "_law_word":=.inl (l2 rfl)
    have pw:∀{X':Cx} {p:Pos},X'.N=xN false→X'.env.scope=zG st→PE X' (.Name "_law_word" p) (uC 2):=fun{X' p} h1 h2=>v8 (by rw[h1];exact n2) (by rw[h2];exact vw) (by decide) (by decide)
    exact yc (uA Sc.nd n2 (.inl (l2 rfl)) (kc a) (hf:=.inr (l2 rfl))) (wy (vP (nz (oU Z8 (pw rfl rfl) tF (rY _ (by decide) (by decide))) (fun _ _ _ _ _ _ z=>AJ z) (pw rfl rfl))))
end
end L2
end
section
namespace M
open PySem
inductive Val where
 |none|bool (b:Bool)|int (i:Int)|str (x:Str)
 |tup (vs:List Val)|lst (vs:List Val)|dct0
 |ctup (ns:List Int)|scr (ns:List Int)
 |ref (i:Nat)|fn (x:Str)|ty (n:String)|dref (i:Nat)
 deriving Inhabited
inductive Cel where
 |lst (vs:List Val)
 |dS (kvs:List (Str × Val))
 |dT (kvs:List (List Int × Val))
 /-- the table of the codes that lie within the def x -/
 |tb (x:Str)
 deriving Inhabited
noncomputable abbrev Sto:=List Cel
noncomputable abbrev Env:=List (Option Val)
inductive Out(α:Type) where
 |ok (a:α) (s:Sto)
 |exc (c:Str) (args:List Val) (s:Sto)
 |stuck
noncomputable def Out.bind{α β:Type}(o:Out α)(f:α→Sto→Out β):Out β:=
 match o with
 |.ok a s=>f a s
 |.exc c as s=>.exc c as s
 |.stuck=>.stuck
@[simp] theorem zV{α β:Type}(a:α)(s:Sto)(f:α→Sto→Out β):(Out.ok a s).bind f=f a s:=rfl
@[simp] theorem sk{α β:Type}(f:α→Sto→Out β):(Out.stuck:Out α).bind f=.stuck:=rfl
@[simp] theorem gc{α β:Type}(c:Str)(as:List Val)(s:Sto)(f:α→Sto→Out β):(Out.exc c as s:Out α).bind f=.exc c as s:=rfl
mutual
noncomputable def Val.isD:Val→Bool
 |.none|.bool _|.int _=>true
 |.str x=>PyData.strOk x
 |.tup vs=>xF vs
 |.lst vs=>xF vs
 |.dct0|.ctup _|.scr _|.ref _|.fn _|.ty _|.dref _=>false
noncomputable def xF:List Val→Bool
 |[]=>true
 |v::vs=>v.isD&&xF vs
end
mutual
noncomputable def Val.isR:Val→Bool
 |.none|.bool _|.int _|.str _|.dct0=>true
 |.tup vs=>sC vs
 |.lst vs=>sC vs
 |.ctup _|.scr _|.ref _|.fn _|.ty _|.dref _=>false
noncomputable def sC:List Val→Bool
 |[]=>true
 |v::vs=>v.isR&&sC vs
end
mutual
noncomputable def Val.d:Val→PyData
 |.none=>.none
 |.bool b=>.bool b
 |.int i=>.int i
 |.str x=>.str x
 |.tup vs=>.tuple (ds vs)
 |.lst vs=>.list (ds vs)
 |.dct0=>.dict []
 |.ctup _|.scr _|.ref _|.fn _|.ty _|.dref _=>.none
noncomputable def ds:List Val→List PyData
 |[]=>[]
 |v::vs=>v.d::ds vs
end
mutual
noncomputable def Val.noRef:Val→Bool
 |.ref _|.dref _=>false
 |.tup vs=>zh vs
 |.lst vs=>zh vs
 |.none|.bool _|.int _|.str _|.dct0|.ctup _|.scr _|.fn _|.ty _=>true
noncomputable def zh:List Val→Bool
 |[]=>true
 |v::vs=>v.noRef&&zh vs
end
noncomputable def Cel.noRef:Cel→Bool
 |.lst vs=>zh vs
 |.dS kvs=>zh (kvs.map (·.2))
 |.dT kvs=>zh (kvs.map (·.2))
 |.tb _=>true
mutual
noncomputable def Val.beq:Val→Val→Bool
 |.none,.none=>true
 |.bool a,.bool b=>a == b
 |.int a,.int b=>a == b
 |.str a,.str b=>a == b
 |.tup a,.tup b=>uy a b
 |.lst a,.lst b=>uy a b
 |.dct0,.dct0=>true
 |.ctup a,.ctup b=>a == b
 |.scr a,.scr b=>a == b
 |.ref a,.ref b=>a == b
 |.fn a,.fn b=>a == b
 |.ty a,.ty b=>a == b
 |.dref a,.dref b=>a == b
 |_,_=>false
noncomputable def uy:List Val→List Val→Bool
 |[],[]=>true
 |a::as,b::bs=>a.beq b&&uy as bs
 |_,_=>false
end
noncomputable def Cel.beq:Cel→Cel→Bool
 |.lst a,.lst b=>uy a b
 |.dS a,.dS b=>decide (a.map (·.1)=b.map (·.1))&&uy (a.map (·.2)) (b.map (·.2))
 |.dT a,.dT b=>decide (a.map (·.1)=b.map (·.1))&&uy (a.map (·.2)) (b.map (·.2))
 |.tb a,.tb b=>decide (a=b)
 |_,_=>false
noncomputable def xt:Sto→Sto→Bool
 |[],_=>true
 |o::r,o'::r'=>(o'.noRef||o'.beq o)&&xt r r'
 |_::_,[]=>false
mutual
noncomputable def wG(n0:Nat)(s:Sto):Nat→Val→Option Val
 |_,.dref i=>if i<n0 then some (.dref i) else Ab
 |_,.ref i=>if i<n0 then some (.ref i) else match s[i]? with
  |some (.lst vs)=>if zh vs then some (.lst vs) else Ab
  |_=>Ab
 |k+1,.tup vs=>(uQ n0 s k vs).map .tup
 |_,v=>if v.noRef then some v else Ab
noncomputable def uQ(n0:Nat)(s:Sto):Nat→List Val→Option (List Val)
 |_,[]=>some []
 |0,_::_=>Ab
 |k+1,v::vs=>match (if v.noRef then some v else wG n0 s k v),uQ n0 s k vs with
  |some v',some vs'=>some (v'::vs')
  |_,_=>Ab
end
noncomputable def freeze(n0:Nat)(s:Sto)(v:Val):Option Val:=if v.noRef then some v else wG n0 s 20 v
inductive Bop|add|sub|mul|fdiv|mod|pow|shl|shr|band
 deriving DecidableEq
inductive Cop|eq|ne|lt|le|gt|ge|is|isNot|in_|notIn|inD|notInD|notInK
 deriving DecidableEq
inductive Bf|len|all|any|tuple|list|sorted|repr|max|min|sum|int|isi|divmod|str|sortedI|minT|sortedR|minS
 deriving DecidableEq
inductive Mf|count|append|extend|pop|index|join
 deriving DecidableEq
inductive Tgt
 |nm (i:Nat)
 |nms (is:List Nat)
mutual
inductive Ex
 |lit (v:Val)|var (i:Nat)|gl (x:Str)|ty (x:Str) (n:String)
 |bin (m:Bool) (op:Bop) (a b:Ex)|neg (a:Ex)|not (a:Ex)
 |cmp (op:Cop) (a b:Ex)|chain (op op':Cop) (a b c:Ex)
 |andE (a:Ex) (es:Exs)|orE (a:Ex) (es:Exs)|ife (c:Cn) (a b:Ex)
 |tup (es:Exs)|lst (m:Bool) (es:Exs)|dct0
 |call (f:Str) (ver:Nat) (es:Exs)|blt (f:Bf) (m:Bool) (es:Exs)|maxD (a d:Ex)
 |yx (f:Mf) (m:Bool) (o:Ex) (es:Exs)
 |ix (a b:Ex)|sl (m:Bool) (a:Ex) (lo hi st:OEx)
 |comp (m:Bool) (N:List Str) (fr:List (Option Nat)) (elt:Ex) (t:Tgt) (it:Itb) (ifs:Cns)
 |comp2 (m:Bool) (N:List Str) (fr:List (Option Nat)) (elt:Ex) (t:Tgt) (it:Itb) (ifs:Cns) (t2:Tgt) (it2:Itb) (ifs2:Cns)
 |listRange (m:Bool) (a b c:Ex)
 |dctN (t:Bool)|ixD (a b:Ex)
inductive Exs
 |nil|cons (e:Ex) (es:Exs)
inductive OEx
 |no|yes (e:Ex)
inductive Cn
 |val (e:Ex)|not (c:Cn)|and (c:Cn) (cs:Cns)|or (c:Cn) (cs:Cns)
inductive Cns
 |nil|cons (c:Cn) (cs:Cns)
inductive Itb
 |val (e:Ex)|range1 (a:Ex)|range2 (a b:Ex)|enum (e:Ex)|zip (a b:Ex)
end
mutual
inductive Sm
 |expr (e:Ex)|ret (e:Ex)|retN|asg (i:Nat) (e:Ex)|asgT (is:List Nat) (e:Ex)|par (is:List Nat) (es:Exs)
 |aug (i:Nat) (op:Bop) (e:Ex)|setIx (o i e:Ex)
 |ifS (c:Cn) (a b:Sms)|forS (t:Tgt) (it:Itb) (b:Sms)|whileS (c:Cn) (b:Sms)
 |pass|brk|cont|raise (e:Ex)|setD (o i e:Ex)
inductive Sms
 |nil|cons (s:Sm) (ss:Sms)
end
structure Fn where
 N:List Str
 ps:List Str
 keep:Bool
 body:Sms
noncomputable abbrev Calls:=Str→Nat→List Val→Sto→Out Val
noncomputable def zU:Nat:=16777216
noncomputable def newList(m:Bool)(vs:List Val)(s:Sto):Out Val:=if m then .ok (.ref s.length) (s++[.lst vs]) else .ok (.lst vs) s
noncomputable def y9(s:Sto):Val→Option (List Val)
 |.tup vs=>some vs
 |.lst vs=>some vs
 |.ctup ns=>some (ns.map .int)
 |.scr ns=>some (ns.map .int)
 |.ref i=>match s[i]? with
  |some (.lst vs)=>some vs
  |_=>Ab
 |_=>Ab
noncomputable def yL(s:Sto):Val→Option (List Val)
 |.lst vs=>some vs
 |.ref i=>match s[i]? with
  |some (.lst vs)=>some vs
  |_=>Ab
 |_=>Ab
noncomputable def truth(s:Sto):Val→Option Bool
 |.none=>some false
 |.bool b=>some b
 |.int i=>some (i != 0)
 |.str x=>if x.length≤zU then some ((x.length:Int) != 0) else Ab
 |.tup vs=>some !vs.isEmpty
 |.lst vs=>some !vs.isEmpty
 |.dct0=>some false
 |.ref i=>match s[i]? with
  |some (.lst vs)=>some !vs.isEmpty
  |_=>Ab
 |_=>Ab
noncomputable def Out.truth(o:Out Val):Out Bool:=o.bind fun v s=>match M.truth s v with
 |some b=>.ok b s
 |Ab=>.stuck
noncomputable def yH(s:Sto):Val→Val
 |.ref i=>match s[i]? with
  |some (.lst vs)=>.lst vs
  |_=>.ref i
 |v=>v
noncomputable def ze(s:Sto):Val→Val
 |.tup vs=>.tup (vs.map (yH s))
 |v=>yH s v
noncomputable def rh(d:PyData):Bool:=d.showable&&d.leavesShort 40&&decide (d.depth≤50)&&decide (d.weight≤300000)&&(!d.hasDict||!L2.yw d)
noncomputable def flat:Val→Bool
 |.none|.bool _|.int _|.str _=>true
 |_=>false
noncomputable def eqF:Val→Val→Bool
 |.none,.none=>true
 |.bool a,.bool b=>a == b
 |.bool a,.int b=>(if a then 1 else 0) == b
 |.int a,.bool b=>a == (if b then 1 else 0)
 |.int a,.int b=>a == b
 |.str a,.str b=>a == b
 |_,_=>false
noncomputable def rD(a b:Val):Option Bool:=if a.isD&&b.isD&&decide (b.d.depth≤60) then some (Dt a.d b.d) else Ab
noncomputable def intsOf:List Val→Option (List Int)
 |[]=>some []
 |.int i::vs=>(intsOf vs).map (i::·)
 |_=>Ab
noncomputable def Val.isN:Val→Bool
 |.none=>true
 |_=>false
noncomputable def inD(x:Val)(vs:List Val):Bool:=x.isD&&xF vs&&decide (x.d.depth≤60)
noncomputable def bh{κ:Type} [DecidableEq κ]:List (κ × Val)→κ→Option Val
 |[],_=>Ab
 |p::r,k=>if p.1=k then some p.2 else bh r k
noncomputable def VU{κ:Type} [DecidableEq κ] (kvs:List (κ × Val))(k:κ)(v:Val):List (κ × Val):=
 if (bh kvs k).isSome then kvs.map (fun p=>if p.1=k then (p.1,v) else p) else kvs++[(k,v)]
noncomputable def Zs(s:Sto):Val→Option (Nat × Cel)
 |.dref i=>(s[i]?).map fun c=>(i,c)
 |_=>Ab
noncomputable def Yh:Cel→Val→Option (Option Val)
 |.dS kvs,.str k=>some (bh kvs k)
 |.dT kvs,.tup vs=>(intsOf vs).map fun k=>bh kvs k
 |_,_=>Ab
noncomputable def Yi:Cel→Val→Val→Option Cel
 |.dS kvs,.str k,v=>if kvs.length<zU then some (.dS (VU kvs k v)) else Ab
 |.dT kvs,.tup vs,v=>(intsOf vs).bind fun k=>if kvs.length<zU then some (.dT (VU kvs k v)) else Ab
 |_,_,_=>Ab
noncomputable def getD(d y:Val)(s:Sto):Option (Option Val):=(Zs s d).bind fun c=>Yh c.2 y
noncomputable def ixD(d y:Val)(s:Sto):Out Val:=match getD d y s with
 |some (some v)=>.ok v s
 |_=>.stuck
noncomputable def putD(d y v:Val)(s:Sto):Option Sto:=(Zs s d).bind fun c=>(Yi c.2 y v).map fun c'=>s.set c.1 c'
noncomputable def strsOf:List Val→Option (List Str)
 |[]=>some []
 |.str x::vs=>(strsOf vs).map (x::·)
 |_=>Ab
noncomputable def zQ(op:Cop)(x y:Val)(s:Sto):Out Val:=
 match op with
 |.eq=>match x,y with
  |.str a,.str b=>.ok (.bool (decide (a=b))) s
  |.tup a,.ctup ns=>match rD (ze s (.tup a)) (.tup (ns.map .int)) with|some b=>.ok (.bool b) s|Ab=>.stuck
  |_,_=>match rD (ze s x) (ze s y) with|some b=>.ok (.bool b) s|Ab=>.stuck
 |.ne=>match x,y with
  |.str a,.str b=>.ok (.bool !(decide (a=b))) s
  |_,_=>match rD (ze s x) (ze s y) with|some b=>.ok (.bool !b) s|Ab=>.stuck
 |.is=>match y with|.none=>.ok (.bool x.isN) s|.bool b=>(match x with|.bool a=>.ok (.bool (decide (a=b))) s|_=>.stuck)|_=>.stuck
 |.isNot=>match y with|.none=>.ok (.bool !x.isN) s|.bool b=>(match x with|.bool a=>.ok (.bool !(decide (a=b))) s|_=>.stuck)|_=>.stuck
 |.in_=>match y9 s y with
  |some vs=>if flat x&&vs.all flat then .ok (.bool (vs.any fun z=>eqF z x)) s else if inD x vs then .ok (.bool (vs.any fun z=>Dt z.d x.d)) s else .stuck
  |Ab=>.stuck
 |.notIn=>match y9 s y with
  |some vs=>if flat x&&vs.all flat then .ok (.bool !(vs.any fun z=>eqF z x)) s else if inD x vs then .ok (.bool !(vs.any fun z=>Dt z.d x.d)) s else .stuck
  |Ab=>.stuck
 |.inD=>match getD y x s with|some o=>.ok (.bool o.isSome) s|Ab=>.stuck
 |.notInD=>match getD y x s with|some o=>.ok (.bool !o.isSome) s|Ab=>.stuck
 |.notInK=>match x with
  |.dct0=>(match y9 s y with
   |some vs=>(match M.intsOf vs with|some _=>.ok (.bool true) s|Ab=>.stuck)
   |Ab=>.stuck)
  |_=>(match y9 s y with
   |some vs=>if flat x&&vs.all flat then .ok (.bool !(vs.any fun z=>eqF z x)) s else if inD x vs then .ok (.bool !(vs.any fun z=>Dt z.d x.d)) s else .stuck
   |Ab=>.stuck)
 |.lt=>match x,y with|.int i,.int j=>.ok (.bool (decide (i<j))) s|_,_=>.stuck
 |.le=>match x,y with|.int i,.int j=>.ok (.bool (decide (i≤j))) s|_,_=>.stuck
 |.gt=>match x,y with|.int i,.int j=>.ok (.bool (decide (j<i))) s|_,_=>.stuck
 |.ge=>match x,y with|.int i,.int j=>.ok (.bool (decide (j≤i))) s|_,_=>.stuck
noncomputable def binOp(m:Bool)(op:Bop)(x y:Val)(s:Sto):Out Val:=
 match op with
 |.add=>match x,y with
  |.int i,.int j=>.ok (.int (i+j)) s
  |.str a,.str b=>if a.length+b.length≤zU then .ok (.str (a++b)) s else .stuck
  |.tup a,.tup b=>if a.length+b.length≤zU then .ok (.tup (a++b)) s else .stuck
  |_,_=>match yL s x,yL s y with
   |some a,some b=>if a.length+b.length≤zU then newList m (a++b) s else .stuck
   |_,_=>.stuck
 |.sub=>match x,y with|.int i,.int j=>.ok (.int (i-j)) s|_,_=>.stuck
 |.mul=>match x,y with
  |.int i,.int j=>if (-(2 ^ 64)<i∧i<2 ^ 64)∨(-(2 ^ 64)<j∧j<2 ^ 64) then .ok (.int (i*j)) s else .stuck
  |.tup a,.int k=>if -1000≤k∧k≤1000∧a≠[]∧a.length≤1000 then .ok (.tup (Az k.toNat a).flatten) s else .stuck
  |_,.int k=>match yL s x with
   |some a=>if -1000≤k∧k≤1000∧a.length*k.toNat≤zU then newList m (Az k.toNat a).flatten s else .stuck
   |Ab=>.stuck
  |_,_=>.stuck
 |.fdiv=>match x,y with|.int i,.int j=>if 0<j∧j<1073741824 then .ok (.int (i/j)) s else .stuck|_,_=>.stuck
 |.mod=>match x,y with|.int i,.int j=>if 0<j then .ok (.int (i%j)) s else .stuck|_,_=>.stuck
 |.pow=>match x,y with|.int i,.int j=>if 0≤j∧j≤1000000∧i.natAbs<2 ^ 64 then .ok (.int (i ^ j.toNat)) s else .stuck|_,_=>.stuck
 |.shl=>match x,y with|.int i,.int j=>if 0≤j∧j≤1000000∧i.natAbs<2 ^ 64 then .ok (.int (i*2 ^ j.toNat)) s else .stuck|_,_=>.stuck
 |.shr=>match x,y with|.int i,.int j=>if 0≤j then .ok (.int (i/2 ^ j.toNat)) s else .stuck|_,_=>.stuck
 |.band=>match x,y with|.int i,.int j=>.ok (.int (Builtin.bitAnd i j)) s|_,_=>.stuck
noncomputable def kindOf:Val→Option L2.Kd
 |.none=>some .non
 |.bool _=>some .bl
 |.int _=>some .int
 |.str _=>some .str
 |.tup _=>some .tup
 |.lst _=>some .lst
 |.dct0=>some .dct
 |.ref _=>some .lst
 |_=>Ab
noncomputable def vM:String→Option L2.Kd
 |"bool"=>some .bl
 |"int"=>some .int
 |"str"=>some .str
 |"list"=>some .lst
 |"tuple"=>some .tup
 |"dict"=>some .dct
 |_=>Ab
noncomputable def boolsOf:List Val→Option (List Bool)
 |[]=>some []
 |.bool b::vs=>(boolsOf vs).map (b::·)
 |_=>Ab
noncomputable def pairsOf:List Val→Option (List (Int × Int))
 |[]=>some []
 |.tup [.int a,.int b]::vs=>(pairsOf vs).map ((a,b)::·)
 |_=>Ab
noncomputable def prV(z:Int × Int):Val:=.tup [.int z.1,.int z.2]
noncomputable def Ve(z:Int × Int):List (Int × Int)→List (Int × Int)
 |[]=>[z]
 |y::ys=>if L2.kY z≤L2.kY y then z::y::ys else y::Ve z ys
noncomputable def mI:List (Int × Int)→List (Int × Int)
 |[]=>[]
 |z::zs=>Ve z (mI zs)
noncomputable def ot:List Val→Option (List (List Int))
 |[]=>some []
 |.tup a::vs=>match intsOf a,ot vs with
  |some z,some zs=>some (z::zs)
  |_,_=>Ab
 |_=>Ab
noncomputable def tpV(z:List Int):Val:=.tup (z.map .int)
noncomputable def tpS(x:Str)(z:List Int):Val:=.tup (.str x::z.map .int)
noncomputable def pG(x:Str):List Val→Option (List (List Int))
 |[]=>some []
 |.tup (.str y::a)::vs=>if y=x then (match intsOf a,pG x vs with
  |some z,some zs=>some (z::zs)
  |_,_=>Ab) else Ab
 |_=>Ab
noncomputable def kl:List Val→Str
 |.tup (.str x::_)::_=>x
 |_=>""
noncomputable def cg(m:Bool)(vs:List Val)(s:Sto):Out Val:=match ot vs with
 |some zs=>if zs.Nodup∧(zs.length<2∨∀z∈zs,z≠[]) then newList m ((L2.YI zs).map tpV) s else .stuck
 |Ab=>.stuck
noncomputable def Uo(zs:List (List Int)):Bool:=decide (zs.length<2)||match zs with
 |[]=>true
 |z::_=>decide (0<z.length)&&zs.all (fun y=>decide (y.length=z.length))&&(AE (zs.length-1)).all fun i=>!L2.Vw (zs.getD (i+1) []) (zs.getD i [])
noncomputable def Wm(m:Bool)(vs:List Val)(s:Sto):Out Val:=match ot vs with
 |some zs=>if Uo zs then newList m vs s else .stuck
 |Ab=>.stuck
noncomputable def insI(z:Int):List Int→List Int
 |[]=>[z]
 |y::ys=>if z≤y then z::y::ys else y::insI z ys
noncomputable def sortI:List Int→List Int
 |[]=>[]
 |z::zs=>insI z (sortI zs)
noncomputable def blt(f:Bf)(m:Bool)(xs:List Val)(s:Sto):Out Val:=
 match f with
 |.len=>match xs with
  |[.str x]=>if x.length≤zU then .ok (.int x.length) s else .stuck
  |[x]=>match y9 s x with|some vs=>.ok (.int vs.length) s|Ab=>.stuck
  |_=>.stuck
 |.all=>match xs with
  |[x]=>match yL s x with|some vs=>(match boolsOf vs with|some bs=>.ok (.bool (bs.all id)) s|Ab=>.stuck)|Ab=>.stuck
  |_=>.stuck
 |.any=>match xs with
  |[x]=>match yL s x with|some vs=>(match boolsOf vs with|some bs=>.ok (.bool (bs.any id)) s|Ab=>.stuck)|Ab=>.stuck
  |_=>.stuck
 |.tuple=>match xs with
  |[.tup vs]=>.ok (.tup vs) s
  |[x]=>match yL s x with|some vs=>.ok (.tup vs) s|Ab=>.stuck
  |_=>.stuck
 |.list=>match xs with
  |[x]=>match y9 s x with|some vs=>newList m vs s|Ab=>.stuck
  |_=>.stuck
 |.repr=>match xs with
  |[x]=>if (ze s x).isR&&rh (ze s x).d then .ok (.str (ze s x).d.shown) s else .stuck
  |_=>.stuck
 |.max=>match xs with
  |[.int i,.int j]=>.ok (.int (if j > i then j else i)) s
  |[.tup vs]=>(match M.intsOf vs with|some ns=>if ns≠[] then .ok (.int (L2.vB 0 ns)) s else .stuck|Ab=>.stuck)
  |[x]=>match yL s x with|some vs=>(match M.intsOf vs with|some ns=>if ns≠[] then .ok (.int (L2.vB 0 ns)) s else .stuck|Ab=>.stuck)|Ab=>.stuck
  |_=>.stuck
 |.min=>match xs with
  |[.int i,.int j]=>.ok (.int (if j<i then j else i)) s
  |[.tup vs]=>(match M.intsOf vs with|some ns=>if ns≠[] then .ok (.int (L2.vO 0 ns)) s else .stuck|Ab=>.stuck)
  |[x]=>match yL s x with|some vs=>(match M.intsOf vs with|some ns=>if ns≠[] then .ok (.int (L2.vO 0 ns)) s else .stuck|Ab=>.stuck)|Ab=>.stuck
  |_=>.stuck
 |.int=>match xs with
  |[.int i]=>.ok (.int i) s
  |[.bool b]=>.ok (.int (if b then 1 else 0)) s
  |_=>.stuck
 |.isi=>match xs with
  |[x,.ty n]=>match kindOf x,vM n with|some a,some c=>.ok (.bool (a.sub c)) s|_,_=>.stuck
  |_=>.stuck
 |.divmod=>match xs with
  |[.int i,.int j]=>if 0<j∧j<1073741824 then .ok (.tup [.int (i/j),.int (i%j)]) s else .stuck
  |_=>.stuck
 |.str=>match xs with
  |[.int i]=>if i.natAbs.log2<1920 then .ok (.str (DP i)) s else .stuck
  |_=>.stuck
 |.sum=>match xs with
  |[x]=>match yL s x with|some vs=>(match M.intsOf vs with|some ns=>if L2.Uv ns then .ok (.int ns.sum) s else .stuck|Ab=>.stuck)|Ab=>.stuck
  |_=>.stuck
 |.sorted=>match xs with
  |[x]=>match yL s x with
   |some vs=>(match pairsOf vs with
    |some zs=>if zs.Nodup∧∀z∈zs,0≤z.2∧z.2<1000 then newList m ((mI zs).map prV) s else cg m vs s
    |Ab=>cg m vs s)
   |Ab=>.stuck
  |_=>.stuck
 |.minT=>match xs with
  |[x]=>match yL s x with|some vs=>(match ot vs with|some zs=>if zs≠[] then .ok (tpV (L2.oE zs)) s else .stuck|Ab=>.stuck)|Ab=>.stuck
  |_=>.stuck
 |.minS=>match xs with
  |[x]=>match yL s x with|some vs=>(match pG (kl vs) vs with|some zs=>if zs≠[] then .ok (tpS (kl vs) (L2.oE zs)) s else .stuck|Ab=>.stuck)|Ab=>.stuck
  |_=>.stuck
 |.sortedR=>match xs with
  |[x]=>match yL s x with|some vs=>Wm m vs s|Ab=>.stuck
  |_=>.stuck
 |.sortedI=>match xs with
  |[x]=>match y9 s x with|some vs=>(match M.intsOf vs with|some ns=>if ns.length<64 then newList m ((sortI ns).map .int) s else .stuck|Ab=>.stuck)|Ab=>.stuck
  |_=>.stuck
noncomputable def mxD(x y:Val)(s:Sto):Out Val:=match y with
 |.int k=>(match yL s x with|some vs=>(match M.intsOf vs with|some ns=>.ok (.int (L2.vB k ns)) s|Ab=>.stuck)|Ab=>.stuck)
 |_=>.stuck
noncomputable def upd(s:Sto)(i:Nat)(vs:List Val):Sto:=s.set i (.lst vs)
noncomputable def yx(f:Mf)(o:Val)(xs:List Val)(s:Sto):Out Val:=
 match f with
 |.count=>match o,xs with
  |.tup vs,[y]=>if flat y&&vs.all flat then .ok (.int (vs.countP fun z=>eqF z y:Nat)) s else .stuck
  |_,[y]=>match yL s o with|some vs=>if flat y&&vs.all flat then .ok (.int (vs.countP fun z=>eqF z y:Nat)) s else .stuck|Ab=>.stuck
  |_,_=>.stuck
 |.append=>match o,xs with
  |.ref i,[y]=>match s[i]? with|some (.lst vs)=>if vs.length<zU then .ok .none (upd s i (vs++[y])) else .stuck|_=>.stuck
  |_,_=>.stuck
 |.extend=>match o,xs with
  |.ref i,[y]=>match s[i]?,yL s y with|some (.lst vs),some ws=>if vs.length+ws.length≤zU then .ok .none (upd s i (vs++ws)) else .stuck|_,_=>.stuck
  |_,_=>.stuck
 |.pop=>match o,xs with
  |.ref i,[.int k]=>(match s[i]? with
   |some (.lst vs)=>if -(2 ^ 63)≤k∧k<2 ^ 63 then (match seqIndex? k vs.length with
    |some j=>(match vs[j]? with|some y=>.ok y (upd s i (vs.eraseIdx j))|Ab=>.stuck)
    |Ab=>.stuck) else .stuck
   |_=>.stuck)
  |_,_=>.stuck
 |.index=>match o,xs with
  |.tup vs,[y]=>if flat y&&vs.all flat then (match vs.findIdx? fun z=>eqF z y with|some j=>.ok (.int (j:Nat)) s|Ab=>.stuck) else .stuck
  |_,_=>.stuck
 |.join=>match o,xs with
  |.str z,[y]=>(match yL s y with
   |some vs=>(match strsOf vs with|some ys=>if (ys.map (·.length)).sum+ys.length*z.length≤16777216 then .ok (.str (L2.Vr z ys)) s else .stuck|Ab=>.stuck)
   |Ab=>.stuck)
  |_,_=>.stuck
noncomputable def wK(a b:Val)(s:Sto):Out Val:=
 match b with
 |.int i=>match y9 s a with|some vs=>(match L2.atI vs i with|some v=>.ok v s|Ab=>.stuck)|Ab=>.stuck
 |_=>.stuck
noncomputable def xC{α:Type}(xs:List α)(lo hi:Option Int):List α:=(xs.drop (HT.sIx xs.length 0 lo)).take (HT.sIx xs.length xs.length hi-HT.sIx xs.length 0 lo)
noncomputable def tL(m:Bool)(a:Val)(lo hi st:Option Int)(s:Sto):Out Val:=
 match a,st with
 |.tup vs,Ab=>.ok (.tup (xC vs lo hi)) s
 |.tup vs,some c=>if c≠0∧(L2.yQ vs.length lo hi c).2≤zU then .ok (.tup (L2.zv vs (L2.yQ vs.length lo hi c).1 c (L2.yQ vs.length lo hi c).2)) s else .stuck
 |_,Ab=>match yL s a with|some vs=>newList m (xC vs lo hi) s|Ab=>.stuck
 |_,some c=>match yL s a with|some vs=>if c≠0 then newList m (L2.zv vs (L2.vK vs.length lo hi c).1 c (L2.vK vs.length lo hi c).2) s else .stuck|Ab=>.stuck
noncomputable def lF(m:Bool)(x y z:Val)(s:Sto):Out Val:=match x,y,z with
 |.int i,.int j,.int k=>if -(2 ^ 30)≤i∧i≤2 ^ 30∧-(2 ^ 30)≤j∧j≤2 ^ 30∧0<k∧k≤2 ^ 29∧Cp i j k≤1000 then newList m ((L2.la i j k).map .int) s else .stuck
 |.none,y,.str _=>(match y9 s y with|some vs=>(match M.intsOf vs with|some ns=>if ns.length≤1000 then .ok (.int (L2.dN ns:Nat)) s else .stuck|Ab=>.stuck)|Ab=>.stuck)
 |.int i,.int j,.bool _=>if -(2 ^ 30)≤i∧i≤2 ^ 30∧-(2 ^ 30)≤j∧j≤2 ^ 30∧Cp i j 1≤1000 then newList m ((L2.la i j 1).map .int) s else .stuck
 |.int i,.int j,.none=>if -(2 ^ 30)≤i∧i≤2 ^ 30∧-(2 ^ 30)≤j∧j≤2 ^ 30∧Cp i j 1≤1000 then .ok (.tup ((L2.la i j 1).map .int)) s else .stuck
 |_,_,_=>.stuck
noncomputable def yi(t:Tgt)(v:Val)(env:Env):Option Env:=
 match t with
 |.nm i=>some (env.set i (some v))
 |.nms is=>match v with
  |.tup vs=>if vs.length=is.length then some ((is.zip vs).foldl (fun e p=>e.set p.1 (some p.2)) env) else Ab
  |_=>Ab
structure Src where
 xs:List Val
 at_:Option Nat
noncomputable def Src.ok(r:Src)(s:Sto):Bool:=match r.at_ with
 |Ab=>true
 |some i=>match s[i]? with
  |some (.lst vs)=>uy vs r.xs
  |_=>false
noncomputable def TH:List Val→List Val→List Val
 |v::vs,w::ws=>.tup [v,w]::TH vs ws
 |_,_=>[]
noncomputable def zr(n:Nat):List Val→List Val
 |[]=>[]
 |v::vs=>.tup [.int n,v]::zr (n+1) vs
noncomputable def srcOf(s:Sto):Val→Option Src
 |.tup vs=>some ⟨vs,Ab⟩
 |.lst vs=>some ⟨vs,Ab⟩
 |.ctup ns=>some ⟨ns.map .int,Ab⟩
 |.ref i=>match s[i]? with
  |some (.lst vs)=>some ⟨vs,some i⟩
  |_=>Ab
 |_=>Ab
noncomputable def yJ(lo:Int)(n:Nat):List Val:=(AE n).map fun(k:Nat)=>Val.int (lo+k)
noncomputable def yb(r:Src)(t:Tgt)(body:Env→Sto→List Val→Out (List Val × Env)):List Val→Env→Sto→List Val→Out (List Val × Env)
 |[],env,s,acc=>if r.ok s then .ok (acc,env) s else .stuck
 |x::xs,env,s,acc=>if r.ok s then match yi t x env with
    |Ab=>.stuck
    |some env'=>(body env' s acc).bind fun p s'=>yb r t body xs p.2 s' p.1
  else .stuck
noncomputable def zT(fr:List (Option Nat))(env:Env):Env:=fr.map fun o=>match o with|some j=>(env[j]?).join|Ab=>Ab
inductive Fl
 |nx (env:Env)|bk (env:Env)|ct (env:Env)|rt (v:Val)
noncomputable def vA(r:Src)(t:Tgt)(body:Env→Sto→Out Fl):List Val→Env→Sto→Out Fl
 |[],env,s=>if r.ok s then .ok (.nx env) s else .stuck
 |x::xs,env,s=>if r.ok s then match yi t x env with
    |Ab=>.stuck
    |some env'=>(body env' s).bind fun fl s'=>match fl with
     |.nx e=>vA r t body xs e s'
     |.ct e=>vA r t body xs e s'
     |.bk e=>.ok (.nx e) s'
     |.rt v=>.ok (.rt v) s'
  else .stuck
noncomputable def eV(c:Env→Sto→Out Bool)(body:Env→Sto→Out Fl):Nat→Env→Sto→Out Fl
 |0,_,_=>.stuck
 |n+1,env,s=>(c env s).bind fun b s1=>if b then (body env s1).bind fun fl s2=>match fl with
    |.nx e=>eV c body n e s2
    |.ct e=>eV c body n e s2
    |.bk e=>.ok (.nx e) s2
    |.rt v=>.ok (.rt v) s2
  else .ok (.nx env) s1
noncomputable def VN:Nat:=100000
section
variable (Φ:Calls)(G:Str→Option Val)
mutual
noncomputable def evE(env:Env):Ex→Sto→Out Val
 |.lit v,s=>.ok v s
 |.var i,s=>match env[i]? with|some (some v)=>.ok v s|_=>.stuck
 |.gl x,s=>match G x with|some v=>.ok v s|Ab=>.stuck
 |.ty _ n,s=>.ok (.ty n) s
 |.bin m op a b,s=>(evE env a s).bind fun x s1=>(evE env b s1).bind fun y s2=>binOp m op x y s2
 |.neg a,s=>(evE env a s).bind fun x s1=>match x with|.int i=>.ok (.int (-i)) s1|_=>.stuck
 |.not a,s=>(evE env a s).bind fun x s1=>match x with|.bool b=>.ok (.bool !b) s1|_=>.stuck
 |.cmp op a b,s=>(evE env a s).bind fun x s1=>(evE env b s1).bind fun y s2=>zQ op x y s2
 |.chain op op' a b c,s=>(evE env a s).bind fun x s1=>(evE env b s1).bind fun y s2=>(zQ op x y s2).bind fun r s3=>match r with
  |.bool true=>(evE env c s3).bind fun z s4=>zQ op' y z s4
  |.bool false=>.ok (.bool false) s3
  |_=>.stuck
 |.andE a es,s=>match es with
  |.nil=>evE env a s
  |.cons _ _=>(evE env a s).bind fun x s1=>match x with
   |.bool true=>tY env es s1
   |.bool false=>.ok (.bool false) s1
   |_=>.stuck
 |.orE a es,s=>match es with
  |.nil=>evE env a s
  |.cons _ _=>(evE env a s).bind fun x s1=>match truth s1 x with
   |some false=>nJ env es s1
   |some true=>.ok x s1
   |Ab=>.stuck
 |.ife c a b,s=>(evT env c s).bind fun t s1=>if t then evE env a s1 else evE env b s1
 |.tup es,s=>(zi env es s).bind fun vs s1=>if vs.length≤zU then .ok (.tup vs) s1 else .stuck
 |.lst m es,s=>(zi env es s).bind fun vs s1=>if vs.length≤zU then newList m vs s1 else .stuck
 |.dct0,s=>.ok .dct0 s
 |.call f ver es,s=>(zi env es s).bind fun vs s1=>Φ f ver vs s1
 |.blt f m es,s=>(zi env es s).bind fun vs s1=>blt f m vs s1
 |.maxD a d,s=>(evE env a s).bind fun x s1=>(evE env d s1).bind fun y s2=>mxD x y s2
 |.yx f _ o es,s=>(evE env o s).bind fun x s1=>(zi env es s1).bind fun vs s2=>yx f x vs s2
 |.ix a b,s=>(evE env a s).bind fun x s1=>(evE env b s1).bind fun y s2=>wK x y s2
 |.sl m a lo hi st,s=>(evE env a s).bind fun x s1=>(evO env lo s1).bind fun l s2=>(evO env hi s2).bind fun h s3=>(evO env st s3).bind fun c s4=>tL m x l h c s4
 |.comp m _ fr elt t it ifs,s=>(yv env it s).bind fun r s1=>
  (yb r t (fun e s' acc=>(x9 e ifs s').bind fun b s2=>if b then (evE e elt s2).bind fun v s3=>.ok (acc++[v],e) s3 else .ok (acc,e) s2) r.xs (zT fr env) s1 []).bind fun p s2=>newList m p.1 s2
 |.comp2 m _ fr elt t it ifs t2 it2 ifs2,s=>(yv env it s).bind fun r s1=>
  (yb r t (fun e s' acc=>(x9 e ifs s').bind fun b s2=>if b then (yv e it2 s2).bind fun r2 s3=>
      yb r2 t2 (fun e' s4 acc'=>(x9 e' ifs2 s4).bind fun b' s5=>if b' then (evE e' elt s5).bind fun v s6=>.ok (acc'++[v],e') s6 else .ok (acc',e') s5) r2.xs e s3 acc
   else .ok (acc,e) s2) r.xs (zT fr env) s1 []).bind fun p s2=>if p.1.length≤zU then newList m p.1 s2 else .stuck
 |.dctN t,s=>.ok (.dref s.length) (s++[if t then .dT [] else .dS []])
 |.ixD a b,s=>(evE env a s).bind fun x s1=>(evE env b s1).bind fun y s2=>ixD x y s2
 |.listRange m a b c,s=>(evE env a s).bind fun x s1=>(evE env b s1).bind fun y s2=>(evE env c s2).bind fun z s3=>lF m x y z s3
noncomputable def tY(env:Env):Exs→Sto→Out Val
 |.nil,_=>.stuck
 |.cons a es,s=>match es with
  |.nil=>evE env a s
  |.cons _ _=>(evE env a s).bind fun x s1=>match x with
   |.bool true=>tY env es s1
   |.bool false=>.ok (.bool false) s1
   |_=>.stuck
noncomputable def nJ(env:Env):Exs→Sto→Out Val
 |.nil,_=>.stuck
 |.cons a es,s=>match es with
  |.nil=>evE env a s
  |.cons _ _=>(evE env a s).bind fun x s1=>match truth s1 x with
   |some false=>nJ env es s1
   |some true=>.ok x s1
   |Ab=>.stuck
noncomputable def zi(env:Env):Exs→Sto→Out (List Val)
 |.nil,s=>.ok [] s
 |.cons e es,s=>(evE env e s).bind fun v s1=>(zi env es s1).bind fun vs s2=>.ok (v::vs) s2
noncomputable def evO(env:Env):OEx→Sto→Out (Option Int)
 |.no,s=>.ok Ab s
 |.yes e,s=>(evE env e s).bind fun v s1=>match v with|.int i=>.ok (some i) s1|_=>.stuck
/-- a test -/
noncomputable def evT(env:Env):Cn→Sto→Out Bool
 |.val e,s=>(evE env e s).truth
 |.not a,s=>(evT env a s).bind fun b s1=>.ok (!b) s1
 |.and a es,s=>(evT env a s).bind fun b s1=>if b then x9 env es s1 else .ok false s1
 |.or a es,s=>(evT env a s).bind fun b s1=>if b then .ok true s1 else tw env es s1
noncomputable def x9(env:Env):Cns→Sto→Out Bool
 |.nil,s=>.ok true s
 |.cons a es,s=>(evT env a s).bind fun b s1=>if b then x9 env es s1 else .ok false s1
noncomputable def tw(env:Env):Cns→Sto→Out Bool
 |.nil,s=>.ok false s
 |.cons a es,s=>(evT env a s).bind fun b s1=>if b then .ok true s1 else tw env es s1
noncomputable def yv(env:Env):Itb→Sto→Out Src
 |.val e,s=>(evE env e s).bind fun v s1=>match srcOf s1 v with|some r=>.ok r s1|Ab=>.stuck
 |.range1 a,s=>(evE env a s).bind fun x s1=>match x with
  |.int j=>if -(2 ^ 62)≤j∧j≤zU then .ok ⟨yJ 0 j.toNat,Ab⟩ s1 else .stuck
  |_=>.stuck
 |.range2 a b,s=>(evE env a s).bind fun x s1=>(evE env b s1).bind fun y s2=>match x,y with
  |.int i,.int j=>if -(2 ^ 62)≤i∧i<2 ^ 62∧-(2 ^ 62)≤j∧j<2 ^ 62∧j-i≤zU then .ok ⟨yJ i (j-i).toNat,Ab⟩ s2 else .stuck
  |_,_=>.stuck
 |.enum e,s=>(evE env e s).bind fun v s1=>match v with
  |.tup vs=>.ok ⟨zr 0 vs,Ab⟩ s1
  |.lst vs=>.ok ⟨zr 0 vs,Ab⟩ s1
  |_=>.stuck
 |.zip a b,s=>(evE env a s).bind fun x s1=>(evE env b s1).bind fun y s2=>match x,y with
  |.tup vs,.tup ws=>if ws.length≤vs.length then .ok ⟨TH vs ws,Ab⟩ s2 else .stuck
  |_,_=>.stuck
end
mutual
noncomputable def exS(env:Env):Sm→Sto→Out Fl
 |.expr e,s=>(evE Φ G env e s).bind fun _ s1=>.ok (.nx env) s1
 |.ret e,s=>(evE Φ G env e s).bind fun v s1=>.ok (.rt v) s1
 |.retN,s=>.ok (.rt .none) s
 |.asg i e,s=>(evE Φ G env e s).bind fun v s1=>.ok (.nx (env.set i (some v))) s1
 |.asgT is e,s=>(evE Φ G env e s).bind fun v s1=>match yi (.nms is) v env with|some env'=>.ok (.nx env') s1|Ab=>.stuck
 |.par is es,s=>(zi Φ G env es s).bind fun vs s1=>if vs.length=is.length then .ok (.nx ((is.zip vs).foldl (fun e p=>e.set p.1 (some p.2)) env)) s1 else .stuck
 |.aug i op e,s=>match env[i]? with
  |some (some (.int x))=>(evE Φ G env e s).bind fun v s1=>match v with
   |.int y=>(binOp false op (.int x) (.int y) s1).bind fun z s2=>.ok (.nx (env.set i (some z))) s2
   |_=>.stuck
  |some (some (.tup x))=>if op=.add then (evE Φ G env e s).bind fun v s1=>match v with
   |.tup y=>(binOp false .add (.tup x) (.tup y) s1).bind fun z s2=>.ok (.nx (env.set i (some z))) s2
   |_=>.stuck
   else .stuck
  |_=>.stuck
 |.setIx o i e,s=>(evE Φ G env e s).bind fun v s1=>(evE Φ G env o s1).bind fun x s2=>(evE Φ G env i s2).bind fun y s3=>match x,y with
  |.ref r,.int k=>(match s3[r]? with
   |some (.lst vs)=>(match L2.ixN vs.length k with|some j=>.ok (.nx env) (upd s3 r (vs.set j v))|Ab=>.stuck)
   |_=>.stuck)
  |_,_=>.stuck
 |.ifS c a b,s=>(evT Φ G env c s).bind fun t s1=>if t then zW env a s1 else zW env b s1
 |.forS t it b,s=>(yv Φ G env it s).bind fun r s1=>vA r t (fun e s'=>zW e b s') r.xs env s1
 |.whileS c b,s=>eV (fun e s'=>evT Φ G e c s') (fun e s'=>zW e b s') VN env s
 |.pass,s=>.ok (.nx env) s
 |.brk,s=>.ok (.bk env) s
 |.cont,s=>.ok (.ct env) s
 |.raise _,_=>.stuck
 |.setD o i e,s=>(evE Φ G env e s).bind fun v s1=>(evE Φ G env o s1).bind fun x s2=>(evE Φ G env i s2).bind fun y s3=>match putD x y v s3 with|some s4=>.ok (.nx env) s4|Ab=>.stuck
noncomputable def zW(env:Env):Sms→Sto→Out Fl
 |.nil,s=>.ok (.nx env) s
 |.cons c cs,s=>(exS env c s).bind fun fl s1=>match fl with
  |.nx e=>zW e cs s1
  |fl=>.ok fl s1
end
end
noncomputable abbrev pP:=Option (Str × List Val × Sto)
noncomputable abbrev xg:=Str→Nat→List Val→Sto→pP
noncomputable def nZ:List Val→Bool
 |[.str _]=>true
 |[.int i,.int j]=>decide (i.natAbs<2 ^ 64)&&decide (j.natAbs<2 ^ 64)
 |_=>false
section
variable (W:Str→Bool)(Φ:Calls)(Ψ:xg)(G:Str→Option Val)
noncomputable def xE(env:Env):Ex→Sto→pP
 |.call f v es,s=>match zi Φ G env es s with
  |.ok vs s1=>Ψ f v vs s1
  |_=>Ab
 |.cmp _ a _,s=>xE env a s
 |_,_=>Ab
mutual
noncomputable def xS(env:Env):Sm→Sto→pP
 |.expr e,s=>xE Φ Ψ G env e s
 |.ret e,s=>xE Φ Ψ G env e s
 |.asg _ e,s=>xE Φ Ψ G env e s
 |.ifS c a b,s=>match evT Φ G env c s with
  |.ok t s1=>if t then xSs env a s1 else xSs env b s1
  |_=>Ab
 |.raise e,s=>match e with
  |.call c _ es=>(match zi Φ G env es s with
   |.ok vs s1=>if nZ vs&&W c then some (c,vs,s1) else Ab
   |_=>Ab)
  |_=>Ab
 |_,_=>Ab
noncomputable def xSs(env:Env):Sms→Sto→pP
 |.nil,_=>Ab
 |.cons c cs,s=>match exS Φ G env c s with
  |.ok fl s1=>(match fl with
   |.nx e=>xSs e cs s1
   |_=>Ab)
  |_=>xS env c s
end
end
noncomputable def zX(N:List Str)(vs:List Val):Env:=vs.map some++Az (N.length-vs.length) Ab
noncomputable def leave(F:Fn)(s0:Sto)(v:Val)(s:Sto):Out Val:=
 if F.keep then .ok v s
 else if xt s0 s then (match freeze s0.length s v with|some v'=>.ok v' (s.take s0.length)|Ab=>.stuck) else .stuck
structure Tbl where
 fn:Str→Nat→Option Fn
 gl:Str→Option Val
 /-- the defs whose tables the store holds,from its start -/
 tb:List Str:=[]
 /-- the classes of exceptions,and what the law's def says of each -/
 xc:List (Str × Str):=[]
 /-- which of the law's two defs that try a call is there -/
 md:Bool→Bool:=fun _=>false
noncomputable def yS:List Str→Sto→Bool
 |[],_=>true
 |x::r,.tb y::s=>decide (x=y)&&yS r s
 |_::_,_=>false
noncomputable def cQ(T:Tbl)(m:Bool)(o:Out Val)(x:pP):Out Val:=match o with
 |.ok v s=>.ok (if m then v else .str "told") s
 |_=>match x with
  |some (c,_,s)=>(match T.xc.lookup c with
   |some w=>.ok (.str w) s
   |Ab=>.stuck)
  |Ab=>.stuck
noncomputable def run(T:Tbl)(Φ:Calls)(F:Fn)(vs:List Val)(s:Sto):Out Val:=
 if vs.length=F.ps.length then (zW Φ T.gl (zX F.N vs) F.body s).bind fun fl s1=>match fl with
  |.nx _=>leave F s .none s1
  |.rt v=>leave F s v s1
  |_=>.stuck
 else .stuck
mutual
noncomputable def zE(T:Tbl):Nat→Calls
 |0=>fun _ _ _ _=>.stuck
 |n+1=>fun f ver vs s=>match T.fn f ver with|some F=>run T (zE T n) F vs s|Ab=>if ((decide (ver=100)&&T.md false)||(decide (ver=101)&&T.md true))&&yS T.tb s then cQ T (decide (ver=101)) (zE T n f 0 vs s) (zq T n f 0 vs s) else .stuck
noncomputable def zq(T:Tbl):Nat→xg
 |0=>fun _ _ _ _=>Ab
 |n+1=>fun f ver vs s=>match T.fn f ver with
  |some F=>if vs.length=F.ps.length then xSs (fun c=>(T.xc.lookup c).isSome) (zE T n) (zq T n) T.gl (zX F.N vs) F.body s else Ab
  |Ab=>Ab
end
end M
end
section
namespace M
open PySem
noncomputable abbrev KF:=Af
structure Own where
 o:List Addr
 h:List Addr
def Own.no(ρ:Own)(a:Addr):Prop:=a ∉ ρ.o∧a ∉ ρ.h
def KT(K:KF)(a:Addr)(xs:List L2.V):Prop:=∃(o:Obj) (its:Array Value) (n:Nat),K.lookup a=some o∧o.cls=.type "tuple"∧o.data=.seq its n∧its.size≤AB∧L2.Vals xs its.toList
def SC(K:KF)(ρ:Own)(H:L2.Hp)(a:Addr)(xs:List L2.V):Prop:=(ρ.no a∧L2.Rd H a (.lst xs)) ∨
 ∃(o:Obj) (its:Array Value) (n:Nat),K.lookup a=some o∧o.cls=.type "list"∧o.dict=none∧o.data=.seq its n∧its.size≤AB∧L2.Vals xs its.toList
noncomputable def hk:Option L2.HO→Nat
 |some (.lst _)=>1
 |some (.dK _)=>2
 |some (.dT _)=>3
 |some (.tbl _)=>4
 |_=>0
mutual
inductive RD(K:KF)(mg:Str→Option Value)(ρ:Own)(H:L2.Hp):Val→L2.V→Prop
 |none:RD K mg ρ H .none .non
 |bool (b:Bool):RD K mg ρ H (.bool b) (.bl b)
 |int (i:Int):RD K mg ρ H (.int i) (.int i)
 |str (x:Str):RD K mg ρ H (.str x) (.str x)
 |tup {a:Addr} {vs:List Val} {xs:List L2.V}:ρ.no a→H a=some (.tup xs)→RDs K mg ρ H vs xs→RD K mg ρ H (.tup vs) (.ref a)
 |lst {a:Addr} {vs:List Val} {xs:List L2.V}:ρ.no a→H a=some (.lst xs)→RDs K mg ρ H vs xs→RD K mg ρ H (.lst vs) (.ref a)
 |dct0 {a:Addr}:ρ.no a→H a=some (.dK [])→RD K mg ρ H .dct0 (.ref a)
 |ctup {a:Addr} {ns:List Int}:KT K a (ns.map L2.V.int)→RD K mg ρ H (.ctup ns) (.ref a)
 |scr {a:Addr} {ns:List Int}:SC K ρ H a (ns.map L2.V.int)→RD K mg ρ H (.scr ns) (.ref a)
 |ref {a:Addr} {i:Nat}:ρ.o[i]?=some a→hk (H a)=1→RD K mg ρ H (.ref i) (.ref a)
 |dref {a:Addr} {i:Nat}:ρ.o[i]?=some a→1<hk (H a)→RD K mg ρ H (.dref i) (.ref a)
 |fn {x:Str} {f:Addr}:mg x=some (.ref f)→RD K mg ρ H (.fn x) (.ref f)
 |ty (n:String):RD K mg ρ H (.ty n) (.ty n)
inductive RDs(K:KF)(mg:Str→Option Value)(ρ:Own)(H:L2.Hp):List Val→List L2.V→Prop
 |nil:RDs K mg ρ H [] []
 |cons {v:Val} {x:L2.V} {vs:List Val} {xs:List L2.V}:RD K mg ρ H v x→RDs K mg ρ H vs xs→RDs K mg ρ H (v::vs) (x::xs)
end
noncomputable def Xn(x:Str):Str:=(x++(".<locals>.":Str))++("<lambda>":Str)
def VM(K:KF)(mg:Str→Option Value)(ρ:Own)(H:L2.Hp)(P:Addr)(x:Str):Prop:=∃ps,H P=some (.tbl ps)∧DU ps.toList ∧
 (∀(pos:Pos) (cv:Value),DT pos ps.toList=some cv→∃(c:Addr) (o:Obj) (vs:Array Value) (t:Tok),cv=.ref c∧ρ.no c∧H c=some (.frz o (.own 0))∧o.data=.fields vs∧vs[1]?=some (.str (Xn x) t)) ∧
 ∃(fa c:Addr) (o:Obj) (fd:Bx),mg x=some (.ref fa)∧K.lookup fa=some o∧o.data=.func fd∧fd.code=.ref c∧∀h:Heap,K.In h→PySem.W.CodeHd h c P
noncomputable def CR(K:KF)(mg:Str→Option Value)(ρ:Own)(H:L2.Hp)(a:Addr):Cel→Prop
 |.lst vs=>∃xs,H a=some (.lst xs)∧RDs K mg ρ H vs xs
 |.dS kvs=>∃kxs,H a=some (.dK kxs)∧kxs.map (·.1)=kvs.map (fun p=>Ey p.1)∧RDs K mg ρ H (kvs.map (·.2)) (kxs.map (·.2))
 |.dT kvs=>∃kxs,H a=some (.dT kxs)∧kxs.map (·.1)=kvs.map (fun p=>p.1.map Ew)∧RDs K mg ρ H (kvs.map (·.2)) (kxs.map (·.2))
 |.tb x=>VM K mg ρ H a x
structure HR(K:KF)(mg:Str→Option Value)(ρ:Own)(s:Sto)(H:L2.Hp):Prop where
 len:ρ.o.length=s.length
 nd:ρ.o.Nodup
 cel:∀(i:Nat) (c:Cel),s[i]?=some c→∃a:Addr,ρ.o[i]?=some a∧CR K mg ρ H a c
 hid:∀a∈ρ.h,(∃xs,H a=some (.lst xs))∧a ∉ ρ.o
structure Ext(ρ:Own)(H:L2.Hp)(ρ':Own)(H':L2.Hp):Prop where
 pre:∃new:List Addr,ρ'.o=ρ.o++new∧∀a∈new,H a=none
 hid:ρ'.h=ρ.h
 keep:∀(a:Addr) (o:L2.HO),H a=some o→a ∉ ρ.o→H' a=some o
 kd:∀a∈ρ.o,hk (H' a)=hk (H a)
structure ER(K:KF)(mg:Str→Option Value)(ρ:Own)(H:L2.Hp)(env:Env)(σ:L2.St):Prop where
 len:env.length=σ.length
 at_:∀(i:Nat) (v:Val),env[i]?=some (some v)→∃x:L2.V,σ[i]?=some (some x)∧RD K mg ρ H v x
section
variable {K:KF}{mg:Str→Option Value}{ρ ρ' ρ'':Own}{H H' H'':L2.Hp}{s s':Sto}
theorem HR.obj(h:HR K mg ρ s H)(i:Nat)(vs:List Val)(e:s[i]?=some (Cel.lst vs)):∃(a:Addr) (xs:List L2.V),ρ.o[i]?=some a∧H a=some (.lst xs)∧RDs K mg ρ H vs xs:=by
 obtain⟨a,e1,xs,e2,r⟩:=h.cel i _ e
 exact⟨a,xs,e1,e2,r⟩
theorem CR.there{a:Addr}{c:Cel}(h:CR K mg ρ H a c):∃o,H a=some o:=by
 cases c with
 |lst vs=>obtain⟨xs,e,_⟩:=h;exact⟨_,e⟩
 |dS kvs=>obtain⟨xs,e,_⟩:=h;exact⟨_,e⟩
 |dT kvs=>obtain⟨xs,e,_⟩:=h;exact⟨_,e⟩
 |tb x=>obtain⟨ps,e,_⟩:=h;exact⟨_,e⟩
theorem CR.hk{a:Addr}{c:Cel}(h:CR K mg ρ H a c):0<hk (H a):=by
 cases c with
 |lst vs=>obtain⟨xs,e,_⟩:=h;rw[e];exact Cw 0
 |dS kvs=>obtain⟨xs,e,_⟩:=h;rw[e];exact EB rfl
 |dT kvs=>obtain⟨xs,e,_⟩:=h;rw[e];exact EB rfl
 |tb x=>obtain⟨ps,e,_⟩:=h;rw[e];exact EB rfl
theorem HR.trk(h:HR K mg ρ s H){a:Addr}(ha:a∈ρ.o):∃o,H a=some o:=by
 obtain⟨i,hi,e⟩:=Bu ha
 have hs:i<s.length:=by rw[←h.len];exact hi
 obtain⟨b,e1,e2⟩:=h.cel i _ (Ae hs)
 rw[Ae hi,e]at e1
 cases e1
 exact e2.there
theorem fP{a:Addr}(h:hk (H a)=1):∃xs,H a=some (.lst xs):=by
 cases e:H a with
 |none=>rw[e]at h;cases h
 |some o=>
  rw[e]at h
  cases o with
  |lst xs=>exact⟨xs,rfl⟩
  |_=>cases h
theorem HR.new(h:HR K mg ρ s H){p:Addr}(hp:H p=none):ρ.no p:=by
 refine⟨fun hm=>?_,fun hm=>?_⟩
 . obtain⟨xs,e⟩:=h.trk hm
   rw[hp]at e;cases e
 . obtain⟨⟨xs,e⟩,_⟩:=h.hid p hm
   rw[hp]at e;cases e
theorem Ext.refl:Ext ρ H ρ H:=⟨⟨[],by simp,fun a ha=>by cases ha⟩,rfl,fun a o e _=>e,fun _ _=>rfl⟩
theorem Ext.V0(x:Ext ρ H ρ' H'){a:Addr}{o:L2.HO}(e:H a=some o)(n:ρ.no a):ρ'.no a:=by
 obtain⟨new,e1,hn⟩:=x.pre
 refine⟨?_,by rw[x.hid];exact n.2⟩
 rw[e1]
 intro hm
 rcases AN.mp hm with hm|hm
 . exact n.1 hm
 . rw[hn a hm]at e;cases e
theorem Ext.get(x:Ext ρ H ρ' H'){i:Nat}{a:Addr}(e:ρ.o[i]?=some a):ρ'.o[i]?=some a:=by
 obtain⟨new,e1,hn⟩:=x.pre
 have hi:i<ρ.o.length:=(As.mp e).1
 rw[e1,Ba hi];exact e
theorem Ext.trans(x:Ext ρ H ρ' H')(h:HR K mg ρ' s H')(y:Ext ρ' H' ρ'' H''):Ext ρ H ρ'' H'':=by
 obtain⟨new,e1,hn⟩:=x.pre
 obtain⟨new2,e2,hn2⟩:=y.pre
 refine⟨⟨new++new2,by rw[e2,e1,Bi],fun a ha=>?_⟩,y.hid.trans x.hid,fun a o e n=>y.keep a o (x.keep a o e n) ?_,fun a ha=>(y.kd a (by rw[e1];exact Bc _ ha)).trans (x.kd a ha)⟩
 . rcases AN.mp ha with ha|ha
   . exact hn a ha
   . cases q:H a with
     |none=>rfl
     |some o=>
      by_cases hm:a∈ρ.o
      . obtain⟨xs,e⟩:=h.trk (a:=a) (by rw[e1];exact Bc _ hm)
        rw[hn2 a ha]at e;cases e
      . have:=x.keep a o q hm
        rw[hn2 a ha]at this;cases this
 . rw[e1]
   intro hm
   rcases AN.mp hm with hm|hm
   . exact n hm
   . rw[hn a hm]at e;cases e
theorem SC.sql{a:Addr}{xs:List L2.V}(h:SC K ρ H a xs):L2.SqL K H a xs:=by
 rcases h with⟨_,h⟩|h
 . exact .inl h
 . exact .inr h
theorem KT.sqt{a:Addr}{xs:List L2.V}(h:KT K a xs):L2.SqT K H a xs:=.inr h
structure Mv(ρ:Own)(H:L2.Hp)(ρ':Own)(H':L2.Hp):Prop where
 keep:∀(a:Addr) (o:L2.HO),H a=some o→ρ.no a→H' a=some o∧ρ'.no a
 get:∀(i:Nat) (a:Addr),ρ.o[i]?=some a→ρ'.o[i]?=some a
 kd:∀a∈ρ.o,hk (H' a)=hk (H a)
theorem Ext.mv(x:Ext ρ H ρ' H'):Mv ρ H ρ' H':=⟨fun a o e n=>⟨x.keep a o e n.1,x.V0 e n⟩,fun i a e=>x.get e,x.kd⟩
theorem SC.mv{a:Addr}{xs:List L2.V}(x:Mv ρ H ρ' H')(h:SC K ρ H a xs):SC K ρ' H' a xs:=by
 rcases h with⟨n,h|⟨o,h⟩⟩|h
 . exact .inl ⟨(x.keep _ _ h n).2,.inl (x.keep _ _ h n).1⟩
 . exact .inl ⟨(x.keep _ _ h n).2,.inr ⟨o,(x.keep _ _ h n).1⟩⟩
 . exact .inr h
end
mutual
theorem RD.mv{K:KF}{mg:Str→Option Value}{ρ ρ':Own}{H H':L2.Hp}(x:Mv ρ H ρ' H'){v:Val}{u:L2.V}(q:RD K mg ρ H v u):RD K mg ρ' H' v u:=by
 cases q with
 |none=>exact .none
 |bool b=>exact .bool b
 |int i=>exact .int i
 |str t=>exact .str t
 |tup n e r=>exact .tup (x.keep _ _ e n).2 (x.keep _ _ e n).1 (RDs.mv x r)
 |lst n e r=>exact .lst (x.keep _ _ e n).2 (x.keep _ _ e n).1 (RDs.mv x r)
 |dct0 n e=>exact .dct0 (x.keep _ _ e n).2 (x.keep _ _ e n).1
 |ctup h=>exact .ctup h
 |scr h=>exact .scr (h.mv x)
 |ref e k=>exact .ref (x.get _ _ e) ((x.kd _ (AS e)).trans k)
 |dref e k=>exact .dref (x.get _ _ e) (by rw[x.kd _ (AS e)];exact k)
 |fn e=>exact .fn e
 |ty n=>exact .ty n
theorem RDs.mv{K:KF}{mg:Str→Option Value}{ρ ρ':Own}{H H':L2.Hp}(x:Mv ρ H ρ' H'){vs:List Val}{us:List L2.V}(q:RDs K mg ρ H vs us):RDs K mg ρ' H' vs us:=by
 cases q with
 |nil=>exact .nil
 |cons r rs=>exact .cons (RD.mv x r) (RDs.mv x rs)
end
theorem CR.mv{K:KF}{mg:Str→Option Value}{ρ ρ':Own}{H H':L2.Hp}{a:Addr}{c:Cel}(x:Mv ρ H ρ' H')(e:H' a=H a)(h:CR K mg ρ H a c):CR K mg ρ' H' a c:=by
 cases c with
 |lst vs=>obtain⟨xs,e1,r⟩:=h;exact⟨xs,e.trans e1,RDs.mv x r⟩
 |dS kvs=>obtain⟨xs,e1,k,r⟩:=h;exact⟨xs,e.trans e1,k,RDs.mv x r⟩
 |dT kvs=>obtain⟨xs,e1,k,r⟩:=h;exact⟨xs,e.trans e1,k,RDs.mv x r⟩
 |tb y=>
  obtain⟨ps,e1,k,r,g⟩:=h
  refine⟨ps,e.trans e1,k,fun pos cv hc=>?_,g⟩
  obtain⟨c,o,vs,t,q1,q2,q3,q4⟩:=r pos cv hc
  exact⟨c,o,vs,t,q1,(x.keep _ _ q3 q2).2,(x.keep _ _ q3 q2).1,q4⟩
theorem RD.mono{K:KF}{mg:Str→Option Value}{ρ ρ':Own}{H H':L2.Hp}{v:Val}{u:L2.V}(r:RD K mg ρ H v u)(x:Ext ρ H ρ' H'):RD K mg ρ' H' v u:=RD.mv x.mv r
theorem RDs.mono{K:KF}{mg:Str→Option Value}{ρ ρ':Own}{H H':L2.Hp}{v:List Val}{u:List L2.V}(r:RDs K mg ρ H v u)(x:Ext ρ H ρ' H'):RDs K mg ρ' H' v u:=RDs.mv x.mv r
end M
end
section
namespace M
open PySem
section
variable {K:KF}{mg:Str→Option Value}{ρ ρ' ρ'':Own}{H H' H'':L2.Hp}{s s':Sto}
theorem RDs.length{vs:List Val}{xs:List L2.V}(q:RDs K mg ρ H vs xs):vs.length=xs.length:=by
 cases q with
 |nil=>rfl
 |cons _ r=>rw[Ar,Ar,r.length]
theorem RDs.get{vs:List Val}{xs:List L2.V}{i:Nat}{v:Val}(q:RDs K mg ρ H vs xs)(e:vs[i]?=some v):∃x,xs[i]?=some x∧RD K mg ρ H v x:=by
 cases q with
 |nil=>cases e
 |cons r rs=>
  cases i with
  |zero=>cases e;exact⟨_,rfl,r⟩
  |succ i=>exact RDs.get (i:=i) rs e
theorem RDs.append{vs ws:List Val}{xs ys:List L2.V}(p:RDs K mg ρ H vs xs)(q:RDs K mg ρ H ws ys):RDs K mg ρ H (vs++ws) (xs++ys):=by
 cases p with
 |nil=>exact q
 |cons r rs=>exact .cons r (rs.append q)
theorem RDs.take{vs:List Val}{xs:List L2.V}(n:Nat)(q:RDs K mg ρ H vs xs):RDs K mg ρ H (vs.take n) (xs.take n):=by
 cases n with
 |zero=>exact .nil
 |succ n=>cases q with
  |nil=>exact .nil
  |cons r rs=>exact .cons r (rs.take n)
theorem RDs.drop{vs:List Val}{xs:List L2.V}(n:Nat)(q:RDs K mg ρ H vs xs):RDs K mg ρ H (vs.drop n) (xs.drop n):=by
 cases n with
 |zero=>exact q
 |succ n=>cases q with
  |nil=>exact .nil
  |cons _ rs=>exact rs.drop n
theorem RDs.set{v:Val}{x:L2.V}(r:RD K mg ρ H v x){vs:List Val}{xs:List L2.V}(i:Nat)(q:RDs K mg ρ H vs xs):RDs K mg ρ H (vs.set i v) (xs.set i x):=by
 cases q with
 |nil=>exact .nil
 |cons q t=>cases i with
  |zero=>exact .cons r t
  |succ i=>exact .cons q (RDs.set r i t)
theorem RDs.rep{vs:List Val}{xs:List L2.V}(r:RDs K mg ρ H vs xs):∀k:Nat,RDs K mg ρ H (Az k vs).flatten (Az k xs).flatten
 |0=>.nil
 |k+1=>by
  rw[BO,BO,Cj,Cj]
  exact r.append (RDs.rep r k)
theorem RDs.pick{vs:List Val}{xs:List L2.V}(r:RDs K mg ρ H vs xs):∀(is:List Nat),RDs K mg ρ H (is.filterMap fun i=>vs[i]?) (is.filterMap fun i=>xs[i]?)
 |[]=>.nil
 |i::is=>by
  rw[A3,A3]
  cases hx:vs[i]? with
  |none=>
   have:xs[i]?=none:=by
    have h2:vs.length≤i:=CQ.mp hx
    exact CQ.mpr (by rw[←r.length];exact h2)
   rw[this];exact RDs.pick r is
  |some v=>
   obtain⟨u,hu,ru⟩:=r.get hx
   rw[hu]
   exact .cons ru (RDs.pick r is)
theorem RDs.zv{vs:List Val}{xs:List L2.V}(r:RDs K mg ρ H vs xs)(lo st:Int)(n:Nat):RDs K mg ρ H (L2.zv vs lo st n) (L2.zv xs lo st n):=by
 have h:=r.pick ((AE n).map fun(k:Nat)=>(lo+(k:Int)*st).toNat)
 rw[B5,B5]at h
 exact h
theorem RDs.ints:∀(ns:List Int),RDs K mg ρ H (ns.map .int) (ns.map .int)
 |[]=>.nil
 |n::ns=>.cons (.int n) (RDs.ints ns)
theorem RDs.cut{vs:List Val}{xs:List L2.V}(r:RDs K mg ρ H vs xs)(lo hi:Option Int):RDs K mg ρ H (xC vs lo hi) (L2.qI xs lo hi):=by
 unfold xC L2.qI
 rw[r.length]
 exact(r.drop _).take _
theorem ee{α:Type}:∀{l:List α} {i j:Nat} {x:α},l.Nodup→l[i]?=some x→l[j]?=some x→i=j
 |[],_,_,_,_,e,_=>by simp at e
 |a::l,0,0,_,_,_,_=>rfl
 |a::l,0,j+1,x,nd,e1,e2=>by
  simp at e1 e2;subst e1
  exact absurd (AS e2) (By.mp nd).1
 |a::l,i+1,0,x,nd,e1,e2=>by
  simp at e1 e2;subst e2
  exact absurd (AS e1) (By.mp nd).1
 |a::l,i+1,j+1,x,nd,e1,e2=>by
  simp at e1 e2
  rw[ee (By.mp nd).2 e1 e2]
theorem Ext.new(h:HR K mg ρ s H){p:Addr}(hp:H p=none)(o:L2.HO):Ext ρ H ρ (L2.upd H p o):=
 ⟨⟨[],by simp,fun a ha=>by cases ha⟩,rfl,fun a u e _=>by rw[L2.zI (L2.zR e hp)];exact e,fun a ha=>by rw[L2.zI fun z=>(h.new hp).1 (by rw[←z];exact ha)]⟩
theorem HR.more(h:HR K mg ρ s H){p:Addr}(hp:H p=none)(o:L2.HO):HR K mg ρ s (L2.upd H p o):=by
 refine⟨h.len,h.nd,fun i c e=>?_,fun a ha=>?_⟩
 . obtain⟨a,e1,r⟩:=h.cel i c e
   obtain⟨u,e2⟩:=r.there
   exact⟨a,e1,r.mv (Ext.new h hp o).mv (L2.zI (L2.zR e2 hp))⟩
 . obtain⟨⟨xs,e⟩,n⟩:=h.hid a ha
   exact⟨⟨xs,by rw[L2.zI (L2.zR e hp)];exact e⟩,n⟩
noncomputable def Own.more(ρ:Own)(p:Addr):Own:=⟨ρ.o++[p],ρ.h⟩
theorem Ext.own(h:HR K mg ρ s H){p:Addr}(hp:H p=none)(o:L2.HO):Ext ρ H (ρ.more p) (L2.upd H p o):=
 ⟨⟨[p],rfl,fun a ha=>by rw[Aq.mp ha];exact hp⟩,rfl,fun a u e _=>by rw[L2.zI (L2.zR e hp)];exact e,fun a ha=>by rw[L2.zI fun z=>(h.new hp).1 (by rw[←z];exact ha)]⟩
theorem sP(h:HR K mg ρ s H)(p:Addr):(ρ.more p).o[s.length]?=some p:=by
 show (ρ.o++[p])[s.length]?=some p
 rw[←h.len,BM (Ag _)];simp
theorem HR.wM(h:HR K mg ρ s H){p:Addr}(hp:H p=none){c:Cel}{o:L2.HO}(r:CR K mg (ρ.more p) (L2.upd H p o) p c):HR K mg (ρ.more p) (s++[c]) (L2.upd H p o):=by
 have X:=Ext.own h hp o
 refine⟨by show (ρ.o++[p]).length=_;rw[Ap,Ap,h.len];rfl,?_,fun i ws q=>?_,fun a ha=>?_⟩
 . show (ρ.o++[p]).Nodup
   rw[FP]
   exact⟨h.nd,by simp,fun a ha b hb=>by rw[Aq.mp hb];intro z;subst z;exact(h.new hp).1 ha⟩
 . by_cases hi:i<s.length
   . rw[Ba hi]at q
     obtain⟨a,e1,t⟩:=h.cel i ws q
     obtain⟨u,e2⟩:=t.there
     exact⟨a,X.get e1,t.mv X.mv (L2.zI (L2.zR e2 hp))⟩
   . have hi':i=s.length:=by
      have:=(As.mp q).1
      rw[Ap]at this
      simp at this;omega
     subst hi'
     rw[BM (Ag _)]at q
     simp at q
     subst q
     exact⟨p,sP h p,r⟩
 . obtain⟨⟨ys,q⟩,n⟩:=h.hid a ha
   refine⟨⟨ys,by rw[L2.zI (L2.zR q hp)];exact q⟩,fun hm=>?_⟩
   rcases AN.mp hm with hm|hm
   . exact n hm
   . rw[Aq.mp hm,hp]at q;cases q
theorem HR.own(h:HR K mg ρ s H){p:Addr}(hp:H p=none){vs:List Val}{xs:List L2.V}(r:RDs K mg ρ H vs xs):HR K mg (ρ.more p) (s++[.lst vs]) (L2.upd H p (.lst xs)):=h.wM hp ⟨xs,L2.zN,r.mono (Ext.own h hp _)⟩
theorem Ext.tR(h:HR K mg ρ s H){i:Nat}{a:Addr}(e:ρ.o[i]?=some a){o:L2.HO}(k:hk (some o)=hk (H a)):Ext ρ H ρ (L2.upd H a o):=
 ⟨⟨[],by simp,fun a ha=>by cases ha⟩,rfl,fun b u q n=>by rw[L2.zI (fun z=>n (by rw[z];exact AS e))];exact q,fun b hb=>by
   by_cases z:b=a
   . subst z;rw[L2.zN];exact k
   . rw[L2.zI z]⟩
theorem Ext.write(h:HR K mg ρ s H){i:Nat}{a:Addr}(e:ρ.o[i]?=some a){ys:List L2.V}(k:H a=some (.lst ys))(xs:List L2.V):Ext ρ H ρ (L2.upd H a (.lst xs)):=Ext.tR h e (by rw[k];rfl)
theorem HR.tR(h:HR K mg ρ s H){i:Nat}{a:Addr}(e:ρ.o[i]?=some a){c:Cel}{o:L2.HO}(k:hk (some o)=hk (H a))(r:CR K mg ρ (L2.upd H a o) a c):HR K mg ρ (s.set i c) (L2.upd H a o):=by
 have X:=Ext.tR h e k
 refine⟨by rw[CK];exact h.len,h.nd,fun j ws q=>?_,fun b hb=>?_⟩
 . skip
   by_cases hij:i=j
   . subst hij
     have hi:i<s.length:=by rw[←h.len];exact(As.mp e).1
     rw[AR hi]at q
     cases q
     exact⟨a,e,r⟩
   . rw[BJ hij]at q
     obtain⟨b,e1,t⟩:=h.cel j ws q
     refine⟨b,e1,t.mv X.mv ?_⟩
     have hb:b≠a:=by
      intro z
      subst z
      exact hij (ee h.nd e e1)
     rw[L2.zI hb]
 . obtain⟨⟨ys,q⟩,n⟩:=h.hid b hb
   exact⟨⟨ys,by rw[L2.zI (fun z=>n (by rw[z];exact AS e))];exact q⟩,n⟩
theorem HR.write(h:HR K mg ρ s H){i:Nat}{a:Addr}(e:ρ.o[i]?=some a){ys:List L2.V}(k:H a=some (.lst ys)){vs:List Val}{xs:List L2.V}(r:RDs K mg ρ H vs xs):HR K mg ρ (upd s i vs) (L2.upd H a (.lst xs)):=
 h.tR e (by rw[k];rfl) ⟨xs,L2.zN,r.mono (Ext.write h e k xs)⟩
theorem ER.mono{env:Env}{σ:L2.St}(x:Ext ρ H ρ' H')(h:ER K mg ρ H env σ):ER K mg ρ' H' env σ:=⟨h.len,fun i v e=>by
 obtain⟨u,h1,h2⟩:=h.at_ i v e
 exact⟨u,h1,h2.mono x⟩⟩
theorem ER.set{env:Env}{σ:L2.St}(h:ER K mg ρ H env σ)(i:Nat){v:Val}{x:L2.V}(r:RD K mg ρ H v x):ER K mg ρ H (env.set i (some v)) (σ.set i (some x)):=by
 refine⟨by rw[CK,CK,h.len],fun j w e=>?_⟩
 by_cases hij:i=j
 . subst hij
   by_cases hi:i<env.length
   . rw[AR hi]at e
     cases e
     exact⟨x,by rw[AR (by rw[←h.len];exact hi)],r⟩
   . rw[B6 (by rw[CK];omega)]at e
     cases e
 . rw[BJ hij]at e
   rw[BJ hij]
   exact h.at_ j w e
end
section
variable (K:KF)(mg:Str→Option Value)
def yg{α β:Type}(R:Own→L2.Hp→α→β→Prop)(ρ:Own)(H:L2.Hp)(o:Out α)(Q:β→L2.Hp→Prop):Prop:=
 match o with
 |.ok v s'=>∀ρ' x H',Ext ρ H ρ' H'→HR K mg ρ' s' H'→R ρ' H' v x→Q x H'
 |_=>False
noncomputable def tV(env:Env)(s:Sto)(o:Out Val):L2.TE:=fun σ H Q=>∃ρ,HR K mg ρ s H∧ER K mg ρ H env σ∧yg K mg (RD K mg) ρ H o Q
noncomputable def tVs(env:Env)(s:Sto)(o:Out (List Val)):L2.TA:=fun σ H Q=>∃ρ,HR K mg ρ s H∧ER K mg ρ H env σ∧yg K mg (RDs K mg) ρ H o Q
noncomputable def tT(env:Env)(s:Sto)(o:Out Bool):L2.TT:=fun σ H Q=>∃ρ,HR K mg ρ s H∧ER K mg ρ H env σ∧yg K mg (fun _ _ a b=>a=b) ρ H o Q
noncomputable def tO(env:Env)(s:Sto)(o:Out (Option Int)):L2.TO:=fun σ H Q=>∃ρ,HR K mg ρ s H∧ER K mg ρ H env σ∧yg K mg (fun _ _ a b=>a=b) ρ H o Q
end
section
variable {X:L2.Cx}{e:Expr}
theorem zf{t t':L2.TE}(h:L2.PE X e t)(i:∀σ H Q,t' σ H Q→t σ H Q):L2.PE X e t':=fun pins s σ H Q I q=>h pins s σ H Q I (i σ H Q q)
theorem oV{t t':L2.TT}(h:L2.PT X e t)(i:∀σ H Q,t' σ H Q→t σ H Q):L2.PT X e t':=fun pins s σ H Q I q=>h pins s σ H Q I (i σ H Q q)
theorem dP{es:List Expr}{t t':L2.TA}(h:L2.PA X es t)(i:∀σ H Q,t' σ H Q→t σ H Q):L2.PA X es t':=fun pos pins s σ H Q I q=>h pos pins s σ H Q I (i σ H Q q)
theorem yo{st:Stmt}{t t':L2.TS}(h:L2.PS X st t)(i:∀D σ H,t' D σ H→t D σ H):L2.PS X st t':=fun pins s σ H D I q=>h pins s σ H D I (i D σ H q)
theorem ue{st:List Stmt}{t t':L2.TS}(h:L2.PSs X st t)(i:∀D σ H,t' D σ H→t D σ H):L2.PSs X st t':=fun pins s σ H D I q=>h pins s σ H D I (i D σ H q)
theorem yF{t:L2.TE}(h:∀σ H Q,¬t σ H Q):L2.PE X e t:=fun pins s σ H Q I q=>(h σ H Q q).elim
theorem UY{t:L2.TT}(h:∀σ H Q,¬t σ H Q):L2.PT X e t:=fun pins s σ H Q I q=>(h σ H Q q).elim
theorem Ua{t:L2.TT}(h:∀σ H Q,¬t σ H Q):L2.PW X e t:=fun wh pins s σ H Q I q=>(h σ H Q q).elim
theorem UO{es:List Expr}{t:L2.TA}(h:∀σ H Q,¬t σ H Q):L2.PA X es t:=fun pos pins s σ H Q I q=>(h σ H Q q).elim
end
section
variable {K:KF}{mg:Str→Option Value}{env:Env}{s:Sto}
theorem U5{o:Out Val}(h:∀v s',o≠.ok v s'){σ:L2.St}{H:L2.Hp}{Q:L2.VK}:¬tV K mg env s o σ H Q:=by
 rintro ⟨ρ,_,_,w⟩
 cases o with
 |ok v s'=>exact h v s' rfl
 |_=>exact w
theorem Wz{o:Out (List Val)}(h:∀v s',o≠.ok v s'){σ:L2.St}{H:L2.Hp}{Q:List L2.V→L2.Hp→Prop}:¬tVs K mg env s o σ H Q:=by
 rintro ⟨ρ,_,_,w⟩
 cases o with
 |ok v s'=>exact h v s' rfl
 |_=>exact w
theorem YN{o:Out Bool}(h:∀v s',o≠.ok v s'){σ:L2.St}{H:L2.Hp}{Q:Bool→L2.Hp→Prop}:¬tT K mg env s o σ H Q:=by
 rintro ⟨ρ,_,_,w⟩
 cases o with
 |ok v s'=>exact h v s' rfl
 |_=>exact w
end
end M
end
section
namespace M
open PySem
theorem yh:zU=AB:=by rw[A2];rfl
section
variable {K:KF}{mg:Str→Option Value}{ρ ρ':Own}{H H':L2.Hp}{s s':Sto}
theorem wL(hr:HR K mg ρ s H){v:Val}{x:L2.V}{vs:List Val}(r:RD K mg ρ H v x)(e:yL s v=some vs):∃a xs,x=.ref a∧H a=some (.lst xs)∧RDs K mg ρ H vs xs:=by
 cases r with
 |lst n h q=>cases e;exact⟨_,_,rfl,h,q⟩
 |@ref a i h _=>
  simp only[yL]at e
  split at e
  . rename_i ws hw
    cases e
    obtain⟨b,xs,e1,e2,q⟩:=hr.obj i _ hw
    rw[h]at e1;cases e1
    exact⟨_,_,rfl,e2,q⟩
  . cases e
 |_=>cases e
theorem ly(hr:HR K mg ρ s H){v:Val}{x:L2.V}{vs:List Val}(r:RD K mg ρ H v x)(e:y9 s v=some vs):∃a xs,x=.ref a∧(L2.SqL K H a xs∨L2.SqT K H a xs)∧RDs K mg ρ H vs xs:=by
 cases r with
 |lst n h q=>cases e;exact⟨_,_,rfl,.inl (.of h),q⟩
 |tup n h q=>cases e;exact⟨_,_,rfl,.inr (.of h),q⟩
 |ctup h=>cases e;exact⟨_,_,rfl,.inr h.sqt,RDs.ints _⟩
 |scr h=>cases e;exact⟨_,_,rfl,.inl h.sql,RDs.ints _⟩
 |@ref a i h _=>
  simp only[y9]at e
  split at e
  . rename_i ws hw
    cases e
    obtain⟨b,xs,e1,e2,q⟩:=hr.obj i _ hw
    rw[h]at e1;cases e1
    exact⟨_,_,rfl,.inl (.of e2),q⟩
  . cases e
 |_=>cases e
mutual
theorem RD.reads{P:Program}{w:World}{h:Heap}(ok:L2.HOk P w H h){v:Val}{x:L2.V}{u:Value}(q:RD K mg ρ H v x)(hv:v.isR=true)(r:L2.RelV x u):∃as,Reads h u v.d as∧(L2.yw v.d=false→B0 ∉ as):=by
 cases q with
 |none=>cases (show u=B9 from r);exact⟨[],.none,fun _=>by simp⟩
 |bool b=>cases (show u=Cz b from r);exact⟨[],.bool b,fun _=>by simp⟩
 |int i=>obtain⟨t,q⟩:=(show ∃t,u=Fc i t from r);cases q;exact⟨[],.int i t,fun _=>by simp⟩
 |str x=>obtain⟨t,q⟩:=(show ∃t,u=DH x t from r);cases q;exact⟨[],.str x t,fun _=>by simp⟩
 |@lst a vs xs n ha rs=>
  cases (show u=A0 a from r)
  obtain⟨z,its,n,rv,e⟩:=(show L2.z9 P w H h a (.lst xs) from ok a _ ha)
  obtain⟨as,q,_⟩:=RDs.reads ok rs (by simpa only[Val.isR] using hv) rv
  exact⟨a::as,.list e rfl rfl (by simpa using q),fun z=>by simp[Val.d,L2.yw]at z⟩
 |@tup a vs xs n ha rs=>
  cases (show u=A0 a from r)
  obtain⟨z,its,rv,o,e,c,n,dd⟩:=(show L2.z9 P w H h a (.tup xs) from ok a _ ha)
  obtain⟨as,q,q2⟩:=RDs.reads ok rs (by simpa only[Val.isR] using hv) rv
  exact⟨as,.tuple e c dd.1 (by simpa using q),fun z=>q2 (by simpa [Val.d,L2.yw] using z)⟩
 |@dct0 a n ha=>
  cases (show u=A0 a from r)
  obtain⟨z,y,vs,rv,o,es,ep,e,c,dd,k⟩:=(show L2.z9 P w H h a (.dK []) from ok a _ ha)
  cases rv
  have hes:es=#[]:=by
   have h2:=k.2.1
   cases hl:es.toList with
   |nil=>simpa using hl
   |cons a r=>rw[hl]at h2;cases h2
  subst hes
  refine⟨[a]++[],Reads.dict (as:=[]) (bs:=[]) e c.1 dd .nil .nil,fun _=>?_⟩
  have:a≠B0:=by simpa using y
  simpa using Bp this
 |ctup _=>cases hv
 |scr _=>cases hv
 |ref _ _=>cases hv
 |dref _ _=>cases hv
 |fn _=>cases hv
 |ty _=>cases hv
theorem RDs.reads{P:Program}{w:World}{h:Heap}(ok:L2.HOk P w H h){vs:List Val}{xs:List L2.V}{us:List Value}(p:RDs K mg ρ H vs xs)(hv:sC vs=true)(q:L2.Vals xs us):∃as,ReadsAll h us (ds vs) as∧(L2.xD (ds vs)=false→B0 ∉ as):=by
 cases p with
 |nil=>cases q;exact⟨[],.nil,fun _=>by simp⟩
 |cons r rs=>
  cases q with
  |cons q1 q2=>
   rw[sC,Aa]at hv
   obtain⟨as,h1,h2⟩:=RD.reads ok r hv.1 q1
   obtain⟨bs,h3,h4⟩:=RDs.reads ok rs hv.2 q2
   refine⟨as++bs,.cons h1 h3,fun z=>?_⟩
   rw[ds,L2.xD,ES]at z
   intro hm
   rcases AN.mp hm with hm|hm
   . exact h2 z.1 hm
   . exact h4 z.2 hm
end
theorem uN{P:Program}{w:World}{h:Heap}(ok:L2.HOk P w H h)(hr:HR K mg ρ s H){v:Val}{x:L2.V}{u:Value}(hv:(yH s v).isR=true)(r:RD K mg ρ H v x)(ru:L2.RelV x u) :
 ∃as,Reads h u (yH s v).d as∧(L2.yw (yH s v).d=false→B0 ∉ as):=by
 cases v with
 |ref i=>
  cases r with
  |@ref a _ e0=>
  simp only[yH]at hv ⊢
  split at hv
  . rename_i ws hw
    obtain⟨b,xs,e1,e2,q⟩:=hr.obj i _ hw
    rw[e0]at e1;cases e1
    cases (show u=A0 a from ru)
    obtain⟨z,its,n,rv,e⟩:=(show L2.z9 P w H h a (.lst xs) from ok a _ e2)
    obtain⟨as,q,_⟩:=RDs.reads ok q (by simpa only[Val.isR] using hv) rv
    exact⟨a::as,.list e rfl rfl (by simpa using q),fun z=>by simp[Val.d,L2.yw]at z⟩
  . cases hv
 |_=>exact RD.reads ok r hv ru
theorem RDs.cA{P:Program}{w:World}{h:Heap}(ok:L2.HOk P w H h)(hr:HR K mg ρ s H):∀{vs:List Val} {xs:List L2.V} {us:List Value},RDs K mg ρ H vs xs→sC (vs.map (yH s))=true→L2.Vals xs us→∃as,ReadsAll h us (ds (vs.map (yH s))) as∧(L2.xD (ds (vs.map (yH s)))=false→B0 ∉ as)
 |_,_,_,.nil,_,r=>by cases r;exact⟨[],.nil,fun _=>by simp⟩
 |_,_,_,.cons r rs,hv,q=>by
  cases q with
  |cons q1 q2=>
   rw[AK,sC,Aa]at hv
   obtain⟨as,h1,h2⟩:=uN ok hr hv.1 r q1
   obtain⟨bs,h3,h4⟩:=RDs.cA ok hr rs hv.2 q2
   rw[AK]
   refine⟨as++bs,.cons h1 h3,fun z=>?_⟩
   rw[ds,L2.xD,ES]at z
   intro hm
   rcases AN.mp hm with hm|hm
   . exact h2 z.1 hm
   . exact h4 z.2 hm
theorem g7{v:Val}(h:∀vs,v≠.tup vs):ze s v=yH s v:=by
 cases v<;>first|rfl|exact absurd rfl (h _)
theorem yr{P:Program}{w:World}{h:Heap}(ok:L2.HOk P w H h)(hr:HR K mg ρ s H){v:Val}{x:L2.V}{u:Value}(hv:(ze s v).isR=true)(r:RD K mg ρ H v x)(ru:L2.RelV x u) :
 ∃as,Reads h u (ze s v).d as∧(L2.yw (ze s v).d=false→B0 ∉ as):=by
 cases v with
 |tup vs=>
  cases r with
  |@tup a _ xs n ha rs=>
   cases (show u=A0 a from ru)
   obtain⟨z,its,rv,o,e,c,n,dd⟩:=(show L2.z9 P w H h a (.tup xs) from ok a _ ha)
   obtain⟨as,q,q2⟩:=RDs.cA ok hr rs (by simpa only[ze,Val.isR] using hv) rv
   exact⟨as,.tuple e c dd.1 (by simpa using q),fun z=>q2 (by simpa [ze,Val.d,L2.yw] using z)⟩
 |_=>exact(show _ from by rw[g7 (fun _ h=>by cases h)]at hv ⊢;exact uN ok hr hv r ru)
mutual
theorem ym:∀{v:Val},v.isD=true→v.isR=true
 |.none,_=>rfl
 |.bool _,_=>rfl
 |.int _,_=>rfl
 |.str _,_=>rfl
 |.tup vs,h=>by rw[Val.isR];exact wk (by simpa only[Val.isD] using h)
 |.lst vs,h=>by rw[Val.isR];exact wk (by simpa only[Val.isD] using h)
 |.dct0,h=>by cases h
 |.ctup _,h=>by cases h
 |.scr _,h=>by cases h
 |.ref _,h=>by cases h
 |.fn _,h=>by cases h
 |.ty _,h=>by cases h
theorem wk:∀{vs:List Val},xF vs=true→sC vs=true
 |[],_=>rfl
 |v::vs,h=>by
  rw[xF,Aa]at h
  rw[sC,ym h.1,wk h.2];rfl
end
mutual
theorem yG:∀{v:Val},v.isD=true→v.d.canLay0=true
 |.none,_=>rfl
 |.bool _,_=>rfl
 |.int _,_=>rfl
 |.str _,h=>by simpa only[Val.isD,Val.d,GH] using h
 |.tup vs,h=>by rw[Val.d,GH];exact xR (by simpa only[Val.isD] using h)
 |.lst vs,h=>by rw[Val.d,GH];exact xR (by simpa only[Val.isD] using h)
 |.dct0,h=>by cases h
 |.ctup _,h=>by cases h
 |.scr _,h=>by cases h
 |.ref _,h=>by cases h
 |.fn _,h=>by cases h
 |.ty _,h=>by cases h
theorem xR:∀{vs:List Val},xF vs=true→PyData.canLayAll0 (ds vs)=true
 |[],_=>rfl
 |v::vs,h=>by
  rw[xF,Aa]at h
  rw[ds,PyData.canLayAll0,yG h.1,xR h.2];rfl
end
theorem uV(hr:HR K mg ρ s H){m:Bool}{vs:List Val}{xs:List L2.V}(r:RDs K mg ρ H vs xs){Q:L2.VK}(w:yg K mg (RD K mg) ρ H (newList m vs s) Q):∀p,H p=none→Q (.ref p) (L2.upd H p (.lst xs)):=fun p hp=>by
 cases m with
 |true=>exact w _ _ _ (Ext.own hr hp _) (hr.own hp r) (.ref (sP hr p) (by rw[L2.zN];rfl))
 |false=>exact w _ _ _ (Ext.new hr hp _) (hr.more hp _) (.lst (hr.new hp) L2.zN (r.mono (Ext.new hr hp _)))
theorem k7(hr:HR K mg ρ s H){vs:List Val}{xs:List L2.V}(r:RDs K mg ρ H vs xs){Q:L2.VK}(w:yg K mg (RD K mg) ρ H (.ok (.tup vs) s) Q):∀p,H p=none→Q (.ref p) (L2.upd H p (.tup xs)):=fun p hp=>
 w _ _ _ (Ext.new hr hp _) (hr.more hp _) (.tup (hr.new hp) L2.zN (r.mono (Ext.new hr hp _)))
theorem Ext.same(hr:HR K mg ρ s H)(e:L2.xf H H'):Ext ρ H ρ H':=⟨⟨[],by simp,fun a ha=>by cases ha⟩,rfl,fun a o h _=>e a o h,fun a ha=>by
 obtain⟨o,q⟩:=hr.trk ha
 rw[q,e a o q]⟩
theorem HR.same(hr:HR K mg ρ s H)(e:L2.xf H H'):HR K mg ρ s H':=⟨hr.len,hr.nd,fun i c q=>by
 obtain⟨a,e1,r⟩:=hr.cel i c q
 obtain⟨o,e2⟩:=r.there
 exact⟨a,e1,r.mv (Ext.same hr e).mv ((e a _ e2).trans e2.symm)⟩,fun a ha=>by
 obtain⟨⟨ys,q⟩,n⟩:=hr.hid a ha
 exact⟨⟨ys,e a _ q⟩,n⟩⟩
theorem uS(hr:HR K mg ρ s H){vs:List Val}{xs:List L2.V}(r:RDs K mg ρ H vs xs){Q:L2.VK}(w:yg K mg (RD K mg) ρ H (.ok (.tup vs) s) Q):L2.tU H xs Q:=fun p H' e h=>by
 have hr':=hr.same e
 refine w _ _ _ (Ext.same hr e) hr' (.tup ⟨fun hm=>?_,fun hm=>?_⟩ h (r.mono (Ext.same hr e)))
 . obtain⟨i,hi,q⟩:=Bu hm
   have hs:i<s.length:=by rw[←hr'.len];exact hi
   obtain⟨b,e1,e2⟩:=hr'.cel i _ (Ae hs)
   rw[Ae hi,q]at e1
   cases e1
   have:=e2.hk
   rw[h]at this
   exact absurd this (Bb 0)
 . obtain⟨⟨ys,q⟩,_⟩:=hr'.hid _ hm
   rw[h]at q;cases q
end
section
variable (K:KF)(mg:Str→Option Value)
noncomputable def rM2(g:Val→Val→Sto→Out Val):L2.R2:=fun x y H Q=>∃ρ s v w,HR K mg ρ s H∧RD K mg ρ H v x∧RD K mg ρ H w y∧yg K mg (RD K mg) ρ H (g v w s) Q
noncomputable def rMc(g:List Val→Sto→Out Val):List L2.V→L2.Hp→L2.VK→Prop:=fun xs H Q=>∃ρ s vs,HR K mg ρ s H∧RDs K mg ρ H vs xs∧yg K mg (RD K mg) ρ H (g vs s) Q
end
section
variable {X:L2.Cx}{k:Nat}
theorem zM{K:KF}{mg:Str→Option Value}{ρ:Own}{H:L2.Hp}{s:Sto}(hr:HR K mg ρ s H){v:Val}{x:L2.V}(r:RD K mg ρ H v x){Q:L2.VK}(w:yg K mg (RD K mg) ρ H (.ok v s) Q):Q x H:=w _ _ _ Ext.refl hr r
theorem lL(m:Bool):L2.OpR X (BA .Add) (rM2 X.K X.mg (binOp m .add)):=by
 intro pins s σ H x y v u Q I rx ry h
 obtain⟨ρ,t,a,b,hr,ra,rb,w⟩:=h
 simp only[binOp]at w
 split at w
 . cases ra;cases rb
   exact L2.Xz pins s σ H _ _ v u Q I rx ry ⟨_,_,rfl,rfl,zM hr (.int _) w⟩
 . split at w
   . rename_i hz
     cases ra;cases rb
     exact L2.rj pins s σ H _ _ v u Q I rx ry ⟨_,_,rfl,rfl,by rw[←yh];exact hz,zM hr (.str _) w⟩
   . exact w.elim
 . split at w
   . rename_i hz
     cases ra with
     |tup n1 h1 q1=>
      cases rb with
      |tup n2 h2 q2=>
       refine L2.dA pins s σ H _ _ v u Q I rx ry ⟨_,_,_,_,rfl,rfl,h1,h2,?_,uS hr (q1.append q2) w⟩
       rw[←q1.length,←q2.length,←yh];exact hz
   . exact w.elim
 . split at w
   . rename_i ea eb
     split at w
     . rename_i hz
       obtain⟨p1,xs,rfl,h1,q1⟩:=wL hr ra ea
       obtain⟨p2,ys,rfl,h2,q2⟩:=wL hr rb eb
       refine L2.lQ pins s σ H _ _ v u Q I rx ry ⟨_,_,_,_,rfl,rfl,h1,h2,?_,uV hr (q1.append q2) w⟩
       rw[←q1.length,←q2.length,←yh];exact hz
     . exact w.elim
   . exact w.elim
theorem lP(m:Bool):L2.OpR X (BA .Sub) (rM2 X.K X.mg (binOp m .sub)):=by
 intro pins s σ H x y v u Q I rx ry h
 obtain⟨ρ,t,a,b,hr,ra,rb,w⟩:=h
 simp only[binOp]at w
 split at w
 . cases ra;cases rb
   exact L2.X9 pins s σ H _ _ v u Q I rx ry ⟨_,_,rfl,rfl,zM hr (.int _) w⟩
 . exact w.elim
theorem lN(m:Bool):L2.OpR X (BA .Mult) (rM2 X.K X.mg (binOp m .mul)):=by
 intro pins s σ H x y v u Q I rx ry h
 obtain⟨ρ,t,a,b,hr,ra,rb,w⟩:=h
 simp only[binOp]at w
 split at w
 . split at w
   . rename_i hz
     cases ra;cases rb
     exact L2.X6 pins s σ H _ _ v u Q I rx ry ⟨_,_,rfl,rfl,hz,zM hr (.int _) w⟩
   . exact w.elim
 . split at w
   . rename_i hz
     obtain⟨z1,z2,z3,z4⟩:=hz
     cases ra with
     |tup n1 h1 q1=>
      cases rb
      refine L2.aq pins s σ H _ _ v u Q I rx ry ⟨_,_,_,rfl,rfl,h1,z1,z2,?_,?_,uS hr (q1.rep _) w⟩
      . intro e;subst e;cases q1;exact z3 rfl
      . rw[←q1.length];exact z4
   . exact w.elim
 . split at w
   . rename_i ea
     split at w
     . rename_i hz
       obtain⟨z1,z2,z3⟩:=hz
       obtain⟨p1,xs,rfl,h1,q1⟩:=wL hr ra ea
       cases rb
       refine L2.X8 pins s σ H _ _ v u Q I rx ry ⟨_,_,_,rfl,rfl,h1,by omega,by omega,?_,uV hr (q1.rep _) w⟩
       rw[←q1.length,←yh];exact z3
     . exact w.elim
   . exact w.elim
 . exact w.elim
theorem nq(m:Bool):L2.OpR X (BA .FloorDiv) (rM2 X.K X.mg (binOp m .fdiv)):=by
 intro pins s σ H x y v u Q I rx ry h
 obtain⟨ρ,t,a,b,hr,ra,rb,w⟩:=h
 simp only[binOp]at w
 split at w
 . split at w
   . rename_i hz
     cases ra;cases rb
     exact L2.ak pins s σ H _ _ v u Q I rx ry ⟨_,_,rfl,rfl,hz,zM hr (.int _) w⟩
   . exact w.elim
 . exact w.elim
theorem lM(m:Bool):L2.OpR X (BA .Mod) (rM2 X.K X.mg (binOp m .mod)):=by
 intro pins s σ H x y v u Q I rx ry h
 obtain⟨ρ,t,a,b,hr,ra,rb,w⟩:=h
 simp only[binOp]at w
 split at w
 . split at w
   . rename_i hz
     cases ra;cases rb
     exact L2.X5 pins s σ H _ _ v u Q I rx ry ⟨_,_,rfl,rfl,hz,zM hr (.int _) w⟩
   . exact w.elim
 . exact w.elim
theorem lO(m:Bool):L2.OpR X (BA .Pow) (rM2 X.K X.mg (binOp m .pow)):=by
 intro pins s σ H x y v u Q I rx ry h
 obtain⟨ρ,t,a,b,hr,ra,rb,w⟩:=h
 simp only[binOp]at w
 split at w
 . split at w
   . rename_i hz
     cases ra;cases rb
     exact L2.X7 pins s σ H _ _ v u Q I rx ry ⟨_,_,rfl,rfl,hz,zM hr (.int _) w⟩
   . exact w.elim
 . exact w.elim
end
end M
end
section
namespace L2
open PySem PyProof PyProof.Rows
section
variable {κ:Type} [DecidableEq κ]
theorem KV.length{kvs:List (κ × V)}{vs:List (κ × Value)}(r:KV kvs vs):kvs.length=vs.length:=GU r
end
section
variable {X:Cx}{pins:List (Addr × Obj)}{σ:St}{H:Hp}{s:Shared}{a:Addr}{y v:V}{u r:Value}{o:Option V}{A:Around}{E:Value→Shared→Prop}
theorem Inv.big(I:Inv X pins σ H s):B0<s.heap.objs.size:=by
 have h:AL<s.heap.objs.size:=(I.mod.glob.keeps I.bk).lt
 exact Nat.lt_trans (by decide) h
end
theorem g8{P:Program}{w:World}{H:Hp}(h:Heap)(hb:B0<h.objs.size):z9 P w H (h.push {cls:=.type "dict",data:=.dict #[]}) h.objs.size (.dK []):=
 ⟨A8 _,beq_eq_false_iff_ne.mpr (Bp (AD hb)),[],.nil,Heap.DictOf.new h⟩
theorem g9{P:Program}{w:World}{H:Hp}(h:Heap)(hb:B0<h.objs.size):z9 P w H (h.push {cls:=.type "dict",data:=.dict #[]}) h.objs.size (.dT []):=
 ⟨A8 _,beq_eq_false_iff_ne.mpr (Bp (AD hb)),[],.nil,_,#[],0,Ay _ rfl,⟨rfl,rfl,rfl⟩,rfl,rfl,List.nodup_nil⟩
noncomputable def Wv:TE:=fun _ H Q=>∀p,H p=none→Q (.ref p) (upd H p (.dK []))
noncomputable def Ww:TE:=fun _ H Q=>∀p,H p=none→Q (.ref p) (upd H p (.dT []))
section
variable {X:Cx}{pos:Pos}
theorem dY:PE X (.Dict [] [] pos) Wv:=fun pins s σ H Q I h=>
 F7 ⟨.ref s.heap.objs.size,_,I.laid (a:=s.heap.objs.size) (o:=.dK []) (t':=s.toks) (fun _ _ q=>Ad _ q) (Ag _) (g8 s.heap I.big),rfl,h _ (I.hok.fresh (Ag _))⟩
theorem dZ:PE X (.Dict [] [] pos) Ww:=fun pins s σ H Q I h=>
 F7 ⟨.ref s.heap.objs.size,_,I.laid (a:=s.heap.objs.size) (o:=.dT []) (t':=s.toks) (fun _ _ q=>Ad _ q) (Ag _) (g9 s.heap I.big),rfl,h _ (I.hok.fresh (Ag _))⟩
end
end L2
end
section
namespace M
open PySem
section
variable {K:KF}{mg:Str→Option Value}{ρ:Own}{H:L2.Hp}{s:Sto}
noncomputable def RO(K:KF)(mg:Str→Option Value)(ρ:Own)(H:L2.Hp):Option Val→Option L2.V→Prop
 |none,none=>True
 |some v,some x=>RD K mg ρ H v x
 |_,_=>False
theorem RO.isSome{o:Option Val}{o':Option L2.V}(h:RO K mg ρ H o o'):o'.isSome=o.isSome:=by
 cases o with
 |none=>cases o' with|none=>rfl|some _=>exact h.elim
 |some v=>cases o' with|none=>exact h.elim|some _=>rfl
end
end M
end
section
namespace M
open PySem
section
variable {K:KF}{mg:Str→Option Value}{ρ ρ':Own}{H H':L2.Hp}{s s':Sto}
theorem RDs.bools:∀{vs:List Val} {xs:List L2.V} {bs:List Bool},RDs K mg ρ H vs xs→boolsOf vs=some bs→xs=bs.map L2.V.bl
 |_,_,_,.nil,h=>by cases h;rfl
 |_,_,_,.cons r rs,h=>by
  cases r with
  |bool b=>
   simp only[boolsOf,A5]at h
   obtain⟨bs',h1,h2⟩:=h
   subst h2
   rw[rs.bools h1];rfl
  |_=>cases h
theorem RDs.rL:∀{vs:List Val} {xs:List L2.V} {ns:List Int},RDs K mg ρ H vs xs→intsOf vs=some ns→xs=ns.map L2.V.int
 |_,_,_,.nil,h=>by cases h;rfl
 |_,_,_,.cons r rs,h=>by
  cases r with
  |int b=>
   simp only[intsOf,A5]at h
   obtain⟨bs',h1,h2⟩:=h
   subst h2
   rw[rs.rL h1];rfl
  |_=>cases h
theorem bT{vs:List Val}{xs:List L2.V}{i:Int}{v:Val}(r:RDs K mg ρ H vs xs)(h:L2.atI vs i=some v):∃x,L2.atI xs i=some x∧RD K mg ρ H v x:=by
 unfold L2.atI at h ⊢
 rw[←r.length]
 obtain⟨j,h1,h2⟩:=D5.mp h
 obtain⟨x,h3,h4⟩:=r.get h2
 exact⟨x,by rw[h1];exact h3,h4⟩
theorem bB(hr:HR K mg ρ s H){v:Val}{x:L2.V}{b:Bool}(r:RD K mg ρ H v x)(h:truth s v=some b):L2.bS K x H b:=by
 have hz:∀{vs:List Val} {xs:List L2.V},RDs K mg ρ H vs xs→vs.isEmpty=xs.isEmpty:=fun r=>by cases r<;>rfl
 cases r with
 |none=>cases h;rfl
 |bool b=>cases h;rfl
 |int i=>cases h;rfl
 |str x=>
  simp only[truth]at h
  split at h
  . cases h
    rename_i q
    exact⟨by rw[←yh];exact q,rfl⟩
  . cases h
 |tup n e q=>cases h;exact .inr (.inl ⟨_,.of e,by rw[hz q]⟩)
 |lst n e q=>cases h;exact .inl ⟨_,.of e,by rw[hz q]⟩
 |dct0 n e=>cases h;exact .inr (.inr ⟨_,e,rfl⟩)
 |ctup _=>cases h
 |scr _=>cases h
 |@ref a i e _=>
  simp only[truth]at h
  split at h
  . rename_i ws hw
    cases h
    obtain⟨c,xs,e1,e2,q⟩:=hr.obj i _ hw
    rw[e]at e1;cases e1
    exact .inl ⟨_,.of e2,by rw[hz q]⟩
  . cases h
 |fn _=>cases h
 |ty _=>cases h
 |dref _ _=>cases h
theorem TC(hr:HR K mg ρ s H){v:Val}{x:L2.V}{a:L2.Kd}(r:RD K mg ρ H v x)(h:kindOf v=some a):(L2.uG K H x (.type a.nm)):=by
 cases r with
 |none=>cases h;exact .non
 |bool b=>cases h;exact .bl b
 |int i=>cases h;exact .int i
 |str x=>cases h;exact .str x
 |tup n e q=>cases h;exact .tup e
 |lst n e q=>cases h;exact .lst e
 |dct0 n e=>cases h;exact .dK e
 |ref e k=>
  cases h
  obtain⟨xs,q⟩:=fP k
  exact .lst q
 |_=>cases h
theorem Vu{n:String}{c:L2.Kd}(h:vM n=some c):n=c.nm∧c≠.non:=by
 unfold vM at h
 split at h<;>first|(cases h;exact⟨rfl,by decide⟩)|cases h
end
section
variable {X:L2.Cx}{k:Nat}
theorem Vy{d:PyData}(h:rh d=true):L2.Zm d:=by
 unfold rh at h
 simp only[Aa,decide_eq_true_eq,AO,AX]at h
 obtain⟨⟨⟨⟨h1,h2⟩,h3⟩,h4⟩,h5⟩:=h
 have L:L2.vp d.depth d.weight d:=⟨h1,h2,Ag _,Ag _⟩
 refine L.Us h3 h4 fun z=>?_
 rcases h5 with h5|h5
 . rw[h5]at z;cases z
 . exact h5
theorem iT(hr0:L2.yu k X.A):L2.OpR X (Bk .Eq) (rM2 X.K X.mg (zQ .eq)):=by
 intro pins s σ H x y v u Q I rx ry h
 obtain⟨ρ,t,a,b,hr,ra,rb,w⟩:=h
 simp only[zQ,rD]at w
 split at w
 . rename_i p q
   cases ra;cases rb
   have e:decide (L2.V.str p=L2.V.str q)=decide (p=q):=by
    rw[Cc];simp
   refine L2.Z8 pins s σ H _ _ v u Q I rx ry ⟨rfl,?_⟩
   rw[e]
   exact zM hr (.bool _) w
 . rename_i a ns
   cases rb with
   |ctup g=>
    by_cases hc:((ze t (.tup a)).isD&&(Val.tup (ns.map .int)).isD&&decide ((Val.tup (ns.map .int)).d.depth≤60))=true
    . rw[if_pos hc]at w
      simp only[Aa,decide_eq_true_eq]at hc
      obtain⟨as,r1,_⟩:=yr I.hok hr (ym hc.1.1) ra rx
      obtain⟨its,rv,p1,_⟩:=I.tuple g.sqt
      obtain⟨o,ho,hcl,n,hd⟩:=id p1
      obtain⟨bs,q,_⟩:=RDs.reads I.hok (RDs.ints (K:=X.K) (mg:=X.mg) (ρ:=ρ) (H:=H) ns) (ym hc.1.2) rv
      have r2:Reads s.heap u (Val.tup (ns.map .int)).d bs:=by cases ry;exact .tuple ho hcl hd (by simpa using q)
      have hu:=hr0.un
      have hm:=Ep (ze t (.tup a)).d.depth (Val.tup (ns.map .int)).d.depth
      exact SeqAt.compareEq_reads r1 r2 (yG hc.1.1) (yG hc.1.2) (by omega) ⟨.bl _,H,I,rfl,zM hr (.bool _) w⟩
    . rw[if_neg hc]at w;exact w.elim
 . by_cases hc:((ze t a).isD&&(ze t b).isD&&decide ((ze t b).d.depth≤60))=true
   . rw[if_pos hc]at w
     simp only[Aa,decide_eq_true_eq]at hc
     obtain⟨as,r1,_⟩:=yr I.hok hr (ym hc.1.1) ra rx
     obtain⟨bs,r2,_⟩:=yr I.hok hr (ym hc.1.2) rb ry
     have hu:=hr0.un
     have hm:=Ep (ze t a).d.depth (ze t b).d.depth
     exact SeqAt.compareEq_reads r1 r2 (yG hc.1.1) (yG hc.1.2) (by omega) ⟨.bl _,H,I,rfl,zM hr (.bool _) w⟩
   . rw[if_neg hc]at w;exact w.elim
theorem iZ(hr0:L2.yu k X.A):L2.OpR X (Bk .NotEq) (rM2 X.K X.mg (zQ .ne)):=by
 intro pins s σ H x y v u Q I rx ry h
 obtain⟨ρ,t,a,b,hr,ra,rb,w⟩:=h
 simp only[zQ,rD]at w
 split at w
 . rename_i p q
   cases ra;cases rb
   have e:decide (L2.V.str p=L2.V.str q)=decide (p=q):=by
    rw[Cc];simp
   refine L2.Z9 pins s σ H _ _ v u Q I rx ry ⟨rfl,?_⟩
   rw[e]
   exact zM hr (.bool _) w
 . by_cases hc:((ze t a).isD&&(ze t b).isD&&decide ((ze t b).d.depth≤60))=true
   . rw[if_pos hc]at w
     simp only[Aa,decide_eq_true_eq]at hc
     obtain⟨as,r1,_⟩:=yr I.hok hr (ym hc.1.1) ra rx
     obtain⟨bs,r2,_⟩:=yr I.hok hr (ym hc.1.2) rb ry
     have hu:=hr0.un
     have hm:=Ep (ze t a).d.depth (ze t b).d.depth
     exact SeqAt.compareNe_reads r1 r2 (yG hc.1.1) (yG hc.1.2) (by omega) ⟨.bl _,H,I,rfl,zM hr (.bool _) w⟩
   . rw[if_neg hc]at w;exact w.elim
theorem RD.isNone{K:KF}{mg:Str→Option Value}{ρ:Own}{H:L2.Hp}{v:Val}{x:L2.V}(r:RD K mg ρ H v x):decide (x=.non)=v.isN:=by
 cases r<;>first|rfl|exact decide_eq_false (fun z=>nomatch z)
theorem iW:L2.OpR X (Bk .Is) (rM2 X.K X.mg (zQ .is)):=by
 intro pins s σ H x y v u Q I rx ry h
 obtain⟨ρ,t,a,b,hr,ra,rb,w⟩:=h
 cases rb with
 |none=>
  refine L2.X4 pins s σ H _ _ v u Q I rx ry ⟨rfl,?_⟩
  rw[ra.isNone]
  exact zM hr (.bool _) w
 |bool c=>
  cases ra with
  |bool d=>cases rx;cases ry;cases c<;>cases d<;>exact Al ⟨.bl _,H,I,rfl,zM hr (.bool _) w⟩
  |_=>exact w.elim
 |_=>exact w.elim
theorem oJ:L2.OpR X (Bk .IsNot) (rM2 X.K X.mg (zQ .isNot)):=by
 intro pins s σ H x y v u Q I rx ry h
 obtain⟨ρ,t,a,b,hr,ra,rb,w⟩:=h
 cases rb with
 |none=>
  refine L2.ao pins s σ H _ _ v u Q I rx ry ⟨rfl,?_⟩
  rw[ra.isNone]
  exact zM hr (.bool _) w
 |bool c=>
  cases ra with
  |bool d=>cases rx;cases ry;cases c<;>cases d<;>exact Al ⟨.bl _,H,I,rfl,zM hr (.bool _) w⟩
  |_=>exact w.elim
 |_=>exact w.elim
theorem iY:L2.OpR X (Bk .Lt) (rM2 X.K X.mg (zQ .lt)):=by
 intro pins s σ H x y v u Q I rx ry h
 obtain⟨ρ,t,a,b,hr,ra,rb,w⟩:=h
 simp only[zQ]at w
 split at w
 . cases ra;cases rb
   exact L2.V6 pins s σ H _ _ v u Q I rx ry ⟨_,_,rfl,rfl,zM hr (.bool _) w⟩
 . exact w.elim
theorem iX:L2.OpR X (Bk .LtE) (rM2 X.K X.mg (zQ .le)):=by
 intro pins s σ H x y v u Q I rx ry h
 obtain⟨ρ,t,a,b,hr,ra,rb,w⟩:=h
 simp only[zQ]at w
 split at w
 . cases ra;cases rb
   exact L2.V5 pins s σ H _ _ v u Q I rx ry ⟨_,_,rfl,rfl,zM hr (.bool _) w⟩
 . exact w.elim
theorem iV:L2.OpR X (Bk .Gt) (rM2 X.K X.mg (zQ .gt)):=by
 intro pins s σ H x y v u Q I rx ry h
 obtain⟨ρ,t,a,b,hr,ra,rb,w⟩:=h
 simp only[zQ]at w
 split at w
 . cases ra;cases rb
   exact L2.V4 pins s σ H _ _ v u Q I rx ry ⟨_,_,rfl,rfl,zM hr (.bool _) w⟩
 . exact w.elim
theorem iU:L2.OpR X (Bk .GtE) (rM2 X.K X.mg (zQ .ge)):=by
 intro pins s σ H x y v u Q I rx ry h
 obtain⟨ρ,t,a,b,hr,ra,rb,w⟩:=h
 simp only[zQ]at w
 split at w
 . cases ra;cases rb
   exact L2.V3 pins s σ H _ _ v u Q I rx ry ⟨_,_,rfl,rfl,zM hr (.bool _) w⟩
 . exact w.elim
noncomputable def Cop.op:Cop→CmpOp
 |.eq=>.Eq|.ne=>.NotEq|.lt=>.Lt|.le=>.LtE|.gt=>.Gt|.ge=>.GtE|.is=>.Is|.isNot=>.IsNot|.in_=>.In|.notIn=>.NotIn|.inD=>.In|.notInD=>.NotIn|.notInK=>.NotIn
noncomputable def okC:Cop→Bool
 |.in_|.notIn|.inD|.notInD|.notInK=>false
 |_=>true
theorem v7(hr0:L2.yu k X.A):∀op:Cop,okC op=true→L2.OpR X (Bk op.op) (rM2 X.K X.mg (zQ op))
 |.eq,_=>iT hr0
 |.ne,_=>iZ hr0
 |.lt,_=>iY
 |.le,_=>iX
 |.gt,_=>iV
 |.ge,_=>iU
 |.is,_=>iW
 |.isNot,_=>oJ
 |.in_,h=>by cases h
 |.notIn,h=>by cases h
 |.inD,h=>by cases h
 |.notInD,h=>by cases h
 |.notInK,h=>by cases h
noncomputable def Bop.op:Bop→Operator
 |.add=>.Add|.sub=>.Sub|.mul=>.Mult|.fdiv=>.FloorDiv|.mod=>.Mod|.pow=>.Pow|.shl=>.LShift|.shr=>.RShift|.band=>.BitAnd
noncomputable def okB:Bop→Bool
 |.shl|.shr|.band=>false
 |_=>true
theorem X3(m:Bool):∀op:Bop,okB op=true→L2.OpR X (BA op.op) (rM2 X.K X.mg (binOp m op))
 |.add,_=>lL m
 |.sub,_=>lP m
 |.mul,_=>lN m
 |.fdiv,_=>nq m
 |.mod,_=>lM m
 |.pow,_=>lO m
 |.shl,h=>by cases h
 |.shr,h=>by cases h
 |.band,h=>by cases h
theorem Vh:L2.IxR X (rM2 X.K X.mg wK):=by
 intro value slice pins s σ H x y v u Q I rx ry h hs
 obtain⟨ρ,t,a,b,hr,ra,rb,w⟩:=h
 simp only[wK]at w
 split at w
 . split at w
   . rename_i vs e
     split at w
     . rename_i z hz
       obtain⟨p,xs,rfl,hq,q⟩:=ly hr ra e
       cases rb
       obtain⟨xz,h1,h2⟩:=bT q hz
       refine L2.Yz value slice pins s σ H _ _ v u Q I rx ry ?_ hs
       rcases hq with hq|hq
       . exact .inl ⟨p,xs,_,xz,rfl,rfl,hq,h1,zM hr h2 w⟩
       . exact .inr (.inl ⟨p,xs,_,xz,rfl,rfl,hq,h1,zM hr h2 w⟩)
     . exact w.elim
   . exact w.elim
 . exact w.elim
end
end M
end
section
namespace M
open PySem
noncomputable def Bf.nm:Bf→Str
 |.len=>"len"|.all=>"all"|.any=>"any"|.tuple=>"tuple"|.list=>"list"|.sorted=>"sorted"|.repr=>"repr"|.max=>"max"|.min=>"min"|.sum=>"sum"|.int=>"int"|.isi=>"isinstance"|.divmod=>"divmod"|.str=>"str"|.sortedI=>"sorted"|.minT=>"min"|.sortedR=>"sorted"|.minS=>"min"
noncomputable def Bf.val:Bf→Value
 |.len=>.builtin "len"|.all=>.builtin "all"|.any=>.builtin "any"|.tuple=>.type "tuple"|.list=>.type "list"|.sorted=>.builtin "sorted"|.repr=>.builtin "repr"|.max=>.builtin "max"|.min=>.builtin "min"|.sum=>.builtin "sum"|.int=>.type "int"
 |.isi=>.builtin "isinstance"|.divmod=>.builtin "divmod"|.str=>.type "str"|.sortedI=>.builtin "sorted"|.minT=>.builtin "min"|.sortedR=>.builtin "sorted"|.minS=>.builtin "min"
theorem Bf.boot:∀f:Bf,Ca f.nm=some f.val
 |.len=>boot_len|.all=>PyProof.Rows.boot_all|.any=>PyProof.Rows.boot_any|.tuple=>Gm|.list=>PyProof.Rows.boot_list|.sorted=>DV|.repr=>PyProof.Rows.boot_repr|.max=>PyProof.Rows.boot_max|.min=>EC
 |.sum=>PyProof.Rows.boot_sum|.int=>PyProof.Rows.boot_int|.isi=>PyProof.Rows.boot_isinstance|.divmod=>PyProof.Rows.boot_divmod|.str=>PyProof.Rows.boot_str|.sortedI=>DV|.minT=>EC|.sortedR=>DV|.minS=>EC
section
variable {X:L2.Cx}{k:Nat}{m:Bool}
theorem ug{K:KF}{mg:Str→Option Value}{ρ:Own}{H:L2.Hp}{v:Val}{xs:List L2.V}(r:RDs K mg ρ H [v] xs):∃x,xs=[x]∧RD K mg ρ H v x:=by
 cases r with
 |cons r1 r2=>cases r2;exact⟨_,rfl,r1⟩
theorem d9{K:KF}{mg:Str→Option Value}{ρ:Own}{H:L2.Hp}{v w:Val}{xs:List L2.V}(r:RDs K mg ρ H [v,w] xs):∃x y,xs=[x,y]∧RD K mg ρ H v x∧RD K mg ρ H w y:=by
 cases r with
 |cons r1 r2=>
  obtain⟨y,rfl,r3⟩:=ug r2
  exact⟨_,_,rfl,r1,r3⟩
theorem gk:L2.yI X (.builtin "len") (rMc X.K X.mg (blt .len m)):=by
 intro pins s σ H xs us Q I r h
 obtain⟨ρ,t,vs,hr,rv,w⟩:=h
 simp only[blt]at w
 split at w
 . split at w
   . rename_i hz
     obtain⟨x,rfl,rx⟩:=ug rv
     cases rx
     exact L2.pU pins s σ H _ us Q I r ⟨_,rfl,by rw[←yh];exact hz,zM hr (.int _) w⟩
   . exact w.elim
 . split at w
   . rename_i e
     obtain⟨x,rfl,rx⟩:=ug rv
     obtain⟨p,ys,rfl,hq,q⟩:=ly hr rx e
     refine L2.pT pins s σ H _ us Q I r ⟨p,ys,rfl,hq,?_⟩
     rw[←q.length]
     exact zM hr (.int _) w
   . exact w.elim
 . exact w.elim
theorem sr(hc:X.calm=true):L2.yI X (.builtin "all") (rMc X.K X.mg (blt .all m)):=by
 intro pins s σ H xs us Q I r h
 obtain⟨ρ,t,vs,hr,rv,w⟩:=h
 simp only[blt]at w
 split at w
 . split at w
   . rename_i e
     split at w
     . rename_i bs eb
       obtain⟨x,rfl,rx⟩:=ug rv
       obtain⟨p,ys,rfl,hq,q⟩:=wL hr rx e
       rw[q.bools eb]at hq
       exact L2.sr hc pins s σ H _ us Q I r ⟨p,bs,rfl,.of hq,zM hr (.bool _) w⟩
     . exact w.elim
   . exact w.elim
 . exact w.elim
theorem mq:L2.yI X (.type "tuple") (rMc X.K X.mg (blt .tuple m)):=by
 intro pins s σ H xs us Q I r h
 obtain⟨ρ,t,vs,hr,rv,w⟩:=h
 simp only[blt]at w
 split at w
 . obtain⟨x,rfl,rx⟩:=ug rv
   cases rx with
   |tup n e q=>exact L2.vn pins s σ H _ us Q I r ⟨_,_,rfl,.inr ⟨.of e,zM hr (.tup n e q) w⟩⟩
 . split at w
   . rename_i e
     obtain⟨x,rfl,rx⟩:=ug rv
     obtain⟨p,ys,rfl,hq,q⟩:=wL hr rx e
     exact L2.vn pins s σ H _ us Q I r ⟨p,ys,rfl,.inl ⟨.of hq,k7 hr q w⟩⟩
   . exact w.elim
 . exact w.elim
theorem gq(hr0:L2.yu k X.A):L2.yI X (.builtin "repr") (rMc X.K X.mg (blt .repr m)):=by
 intro pins s σ H xs us Q I r h
 obtain⟨ρ,t,vs,hr,rv,w⟩:=h
 simp only[blt]at w
 split at w
 . rename_i v
   split at w
   . rename_i hc
     rw[Aa]at hc
     obtain⟨x,rfl,rx⟩:=ug rv
     obtain⟨u,rfl,ru⟩:=L2.vals1 r
     have S:=Vy hc.2
     have q:Q (.str (ze t v).d.shown) H:=zM hr (.str _) w
     have fin:∀(tk':Tok) (tk:Nat),L2.EP X pins σ Q (.str (ze t v).d.shown tk') {s with toks:=tk}:=fun _ tk=>⟨.str _,H,I.tok _,⟨_,rfl⟩,q⟩
     obtain⟨as,R,hs⟩:=yr I.hok hr hc.1 rx ru
     have fr:∀a,u=.ref a→wpAny (model X.prog X.w) X.A (call (.builtin "repr") [u]) (L2.EP X pins σ Q) X.xe s:=fun a e=>by
      subst e
      refine repr_of_reads' R S.sh (fun z=>hs (S.mix z)) hr0.gd ?_ (fun _ _ e=>e) (fun h' u tk hk=>⟨.str _,H,I.kept hk,⟨_,rfl⟩,q⟩) S.ln
      have:=S.dp
      have:=hr0.un
      omega
     cases rx with
     |none=>cases (show u=B9 from ru);exact PySem.P.repr_of_none (fin _ _)
     |bool b=>cases (show u=Cz b from ru);exact PySem.P.repr_of_bool (fin _ _)
     |int i=>obtain⟨t',z⟩:=(show ∃t,u=Fc i t from ru);cases z;exact PySem.P.repr_of_int (by simpa [ze,yH,Val.d,PyData.showable] using S.sh) (fin _ _)
     |str x=>obtain⟨t',z⟩:=(show ∃t,u=DH x t from ru);cases z;exact PySem.P.repr_of_str (fin _ _) S.ln
     |tup _ _ _=>exact fr _ ru
     |lst _ _ _=>exact fr _ ru
     |dct0 _ _=>exact fr _ ru
     |ref _ _=>exact fr _ ru
     |ctup _=>exact fr _ ru
     |scr _=>exact fr _ ru
     |fn _=>exact fr _ ru
     |ty _=>exact absurd hc.1 (by simp[ze,yH,Val.isR])
     |dref _ _=>exact fr _ ru
   . exact w.elim
 . exact w.elim
theorem gm(hc:X.calm=true):L2.yI X (.builtin "max") (rMc X.K X.mg (blt .max m)):=by
 intro pins s σ H xs us Q I r h
 obtain⟨ρ,t,vs,hr,rv,w⟩:=h
 simp only[blt]at w
 split at w
 . obtain⟨x,y,rfl,rx,ry⟩:=d9 rv
   cases rx;cases ry
   exact L2.jg hc pins s σ H _ us Q I r ⟨_,_,rfl,zM hr (.int _) w⟩
 . split at w
   . rename_i ns en
     split at w
     . rename_i hn
       obtain⟨x,rfl,rx⟩:=ug rv
       cases rx with
       |tup n e q=>
        rw[q.rL en]at e
        exact L2.jj hc pins s σ H _ us Q I r ⟨_,ns,rfl,.of e,hn,zM hr (.int _) w⟩
     . exact w.elim
   . exact w.elim
 . split at w
   . rename_i e
     split at w
     . rename_i ns en
       split at w
       . rename_i hn
         obtain⟨x,rfl,rx⟩:=ug rv
         obtain⟨p,ys,rfl,hq,q⟩:=wL hr rx e
         rw[q.rL en]at hq
         exact L2.jh hc pins s σ H _ us Q I r ⟨p,ns,rfl,.of hq,hn,zM hr (.int _) w⟩
       . exact w.elim
     . exact w.elim
   . exact w.elim
 . exact w.elim
theorem gp(hc:X.calm=true):L2.yI X (.builtin "min") (rMc X.K X.mg (blt .min m)):=by
 intro pins s σ H xs us Q I r h
 obtain⟨ρ,t,vs,hr,rv,w⟩:=h
 simp only[blt]at w
 split at w
 . obtain⟨x,y,rfl,rx,ry⟩:=d9 rv
   cases rx;cases ry
   exact L2.jk hc pins s σ H _ us Q I r ⟨_,_,rfl,zM hr (.int _) w⟩
 . split at w
   . rename_i ns en
     split at w
     . rename_i hn
       obtain⟨x,rfl,rx⟩:=ug rv
       cases rx with
       |tup n e q=>
        rw[q.rL en]at e
        exact L2.mn hc pins s σ H _ us Q I r ⟨_,ns,rfl,.of e,hn,zM hr (.int _) w⟩
     . exact w.elim
   . exact w.elim
 . split at w
   . rename_i e
     split at w
     . rename_i ns en
       split at w
       . rename_i hn
         obtain⟨x,rfl,rx⟩:=ug rv
         obtain⟨p,ys,rfl,hq,q⟩:=wL hr rx e
         rw[q.rL en]at hq
         exact L2.jm hc pins s σ H _ us Q I r ⟨p,ns,rfl,.of hq,hn,zM hr (.int _) w⟩
       . exact w.elim
     . exact w.elim
   . exact w.elim
 . exact w.elim
theorem gj:L2.yI X (.type "int") (rMc X.K X.mg (blt .int m)):=by
 intro pins s σ H xs us Q I r h
 obtain⟨ρ,t,vs,hr,rv,w⟩:=h
 simp only[blt]at w
 split at w
 . obtain⟨x,rfl,rx⟩:=ug rv
   cases rx
   exact L2.qc pins s σ H _ us Q I r (.inl ⟨_,rfl,zM hr (.int _) w⟩)
 . obtain⟨x,rfl,rx⟩:=ug rv
   cases rx
   exact L2.qc pins s σ H _ us Q I r (.inr ⟨_,rfl,zM hr (.int _) w⟩)
 . exact w.elim
theorem su:L2.yI X (.builtin "isinstance") (rMc X.K X.mg (blt .isi m)):=by
 intro pins s σ H xs us Q I r h
 obtain⟨ρ,t,vs,hr,rv,w⟩:=h
 simp only[blt]at w
 split at w
 . split at w
   . rename_i ea ec
     obtain⟨x,y,rfl,rx,ry⟩:=d9 rv
     cases ry
     obtain⟨e1,e2⟩:=Vu ec
     subst e1
     exact L2.su pins s σ H _ us Q I r ⟨_,_,_,_,rfl,TC hr rx ea,L2.Xm X.K _ _ e2,zM hr (.bool _) w⟩
   . exact w.elim
 . exact w.elim
theorem ints_map:∀{a:List Val} {z:List Int},intsOf a=some z→a=z.map .int
 |[],_,h=>by cases h;rfl
 |v::vs,z,h=>by
  cases v with
  |int i=>
   obtain⟨n,h1,rfl⟩:=A5.mp (show (intsOf vs).map (i::·)=some z from h)
   rw[ints_map h1];rfl
  |_=>cases h
theorem bA{K:KF}{mg:Str→Option Value}{ρ:Own}{H:L2.Hp}{tx:Str}:∀{vs:List Val} {xs:List L2.V} {zs:List (List Int)},RDs K mg ρ H vs xs→pG tx vs=some zs→L2.bR K H tx xs zs∧vs=zs.map (tpS tx)
 |_,_,_,.nil,h=>by cases h;exact⟨⟨rfl,fun i z e=>by simp at e⟩,rfl⟩
 |_,_,_,.cons (v:=v) (x:=x) (vs:=vs) (xs:=xs) r rs,h=>by
  unfold pG at h
  split at h
  . rename_i hv;cases hv
  . rename_i y a ws hv
    cases hv
    split at h
    . rename_i hy
      subst hy
      split at h
      . rename_i z zs' h1 h2
        cases h
        obtain⟨⟨e2,e3⟩,e4⟩:=bA rs h2
        refine⟨⟨by rw[Ar,Ar,e2],fun i z' hz=>?_⟩,by rw[AK,←e4,ints_map h1];rfl⟩
        cases i with
        |zero=>
         simp at hz;subst hz
         cases r with
         |tup n e q=>
          cases q with
          |cons q1 q2=>
           cases q1 with
           |str=>exact⟨_,rfl,by rw[q2.rL h1]at e;exact .of e⟩
        |succ i=>
         simp only[List.getElem?_cons_succ]at hz ⊢
         exact e3 i z' hz
      . cases h
    . cases h
  . cases h
theorem ml(hc:X.calm=true)(hr0:L2.yu k X.A):L2.yI X (.builtin "min") (rMc X.K X.mg (blt .minS m)):=by
 intro pins s σ H xs us Q I r h
 obtain⟨ρ,t,vs,hr,rv,w⟩:=h
 simp only[blt]at w
 split at w
 . split at w
   . rename_i e
     split at w
     . rename_i zs ez
       split at w
       . rename_i hz
         obtain⟨x,rfl,rx⟩:=ug rv
         obtain⟨p,ys,rfl,hq,q⟩:=wL hr rx e
         obtain⟨hs,hv⟩:=bA q ez
         refine L2.jn hc hr0 pins s σ H _ us Q I r ⟨p,ys,zs,rfl,.of hq,hs,hz,fun i hi=>?_⟩
         generalize kl _=tx at *
         subst hv
         obtain⟨y,h1,h2⟩:=q.get (show (zs.map (tpS tx))[i]?=some (tpS tx (L2.oE zs)) by rw[AQ,hi];rfl)
         rw[Aw,h1]
         exact zM hr h2 w
       . exact w.elim
     . exact w.elim
   . exact w.elim
 . exact w.elim
noncomputable def okF:Bf→Bool
 |.any|.list|.sorted|.sum|.divmod|.str|.sortedI|.minT|.sortedR=>false
 |_=>true
theorem bX(hc:X.calm=true)(hr0:L2.yu k X.A):∀(f:Bf) (m:Bool),okF f=true→L2.yI X f.val (rMc X.K X.mg (blt f m))
 |.len,_,_=>gk
 |.all,_,_=>sr hc
 |.any,_,h=>by cases h
 |.tuple,_,_=>mq
 |.list,_,h=>by cases h
 |.sorted,_,h=>by cases h
 |.repr,_,_=>gq hr0
 |.max,_,_=>gm hc
 |.min,_,_=>gp hc
 |.sum,_,h=>by cases h
 |.int,_,_=>gj
 |.isi,_,_=>su
 |.divmod,_,h=>by cases h
 |.str,_,h=>by cases h
 |.sortedI,_,h=>by cases h
 |.sortedR,_,h=>by cases h
 |.minT,_,h=>by cases h
 |.minS,_,_=>ml hc hr0
end
end M
end
section
namespace M
open PySem
noncomputable def Out.isOk{α:Type}:Out α→Bool
 |.ok _ _=>true
 |.exc _ _ _|.stuck=>false
theorem zF{α:Type}{o:Out α}(h:o.isOk=false)(v:α)(s:Sto):o≠.ok v s:=fun e=>by subst e;cases h
noncomputable def plain:Expr→Bool
 |.Starred ..|.Set ..|.Slice ..|.SetComp ..=>false
 |_=>true
theorem zZ{e:Expr}(h:plain e=true):L2.noStar e=true:=by cases e<;>first|rfl|cases h
theorem xu{op:CmpOp}{e:Expr}(h:plain e=true):Dv op e=false:=by cases e<;>first|rfl|cases h
theorem dk{e:Expr}(h:plain e=true):L2.kT e:=by
 intro o i
 cases e<;>first|rfl|cases h
theorem wu{e:Expr}{env:BI}(h:plain e=true)(x:Value):CP e env x=pure x:=by cases e<;>first|rfl|cases h
noncomputable def oH:Expr→Bool
 |.Call (.Name _ _) [] [] _=>false
 |_=>true
theorem sI{o:Expr}{name:Str}{env:BI}(h:oH o=true):Dy o name env (eval o env)=eval o env:=by
 unfold Dy
 split
 . cases h
 . rfl
noncomputable def plainT:Expr→Bool
 |.UnaryOp .Not _ _|.BoolOp ..|.IfExp ..|.Compare ..=>false
 |_=>true
theorem iu{e:Expr}{env:BI}(h:plainT e=true)(whole:Sem Value):isTrue e env whole=(do let v ←whole;standAt e.pos;holding [v] (truthy v)):=by
 cases e with
 |UnaryOp op a p=>cases op<;>first|rfl|cases h
 |_=>first|rfl|cases h
noncomputable def zo:List Expr→Bool
 |[]=>true
 |e::es=>plain e&&zo es
theorem xw:∀{es:List Expr} {pos:Pos} {env:BI},zo es=true→(backTo pos (AM es env)).any (·.1)=false
 |[],_,_,_=>rfl
 |e::es,pos,env,h=>by
  rw[zo,Aa]at h
  rw[L2.zm (zZ h.1)]
  show (false||(backTo pos (AM es env)).any (·.1))=false
  rw[xw h.2];rfl
section
variable {K:KF}{mg:Str→Option Value}{env:Env}{s s1:Sto}{ρ ρ':Own}{H H':L2.Hp}
theorem yg.mono{α β:Type}{R:Own→L2.Hp→α→β→Prop}{o:Out α}{Q:β→L2.Hp→Prop}(w:yg K mg R ρ H o Q)(x:Ext ρ H ρ' H')(h:HR K mg ρ' s1 H'):yg K mg R ρ' H' o Q:=by
 cases o with
 |ok v s'=>exact fun ρ2 y H2 x2 h2 r2=>w ρ2 y H2 (x.trans h x2) h2 r2
 |_=>exact w
end
section
variable {X:L2.Cx}{env:Env}{s:Sto}{E a b c:Expr}
theorem zJ{o:Out Val}(h:∀v s',o≠.ok v s'):L2.PE X E (tV X.K X.mg env s o):=yF fun _ _ _=>U5 h
theorem un1{o:Out Val}{r:L2.V→L2.Hp→L2.VK→Prop}{g:Val→Sto→Out Val}(h:L2.PE X a (tV X.K X.mg env s o))(rule:∀ta,L2.PE X a ta→L2.PE X E (L2.tUn r ta))
 (op:∀ρ H s1 v x Q,HR X.K X.mg ρ s1 H→RD X.K X.mg ρ H v x→yg X.K X.mg (RD X.K X.mg) ρ H (g v s1) Q→r x H Q):L2.PE X E (tV X.K X.mg env s (o.bind g)):=by
 cases o with
 |ok v s1=>exact zf (rule _ h) fun σ H Q ⟨ρ,hr,er,w⟩=>⟨ρ,hr,er,fun ρ1 x H1 x1 hr1 r1=>op ρ1 H1 s1 v x Q hr1 r1 (w.mono x1 hr1)⟩
 |exc _ _ _=>exact zJ (zF rfl)
 |stuck=>exact zJ (zF rfl)
theorem Yd{o:Out Val}{f2:Sto→Out Val}{g:Val→Val→Sto→Out Val}(h1:L2.PE X a (tV X.K X.mg env s o))(h2:∀s1,L2.PE X b (tV X.K X.mg env s1 (f2 s1)))
 (rule:∀ta tb,L2.PE X a ta→L2.PE X b tb→L2.PE X E (L2.tOp (rM2 X.K X.mg g) ta tb)):L2.PE X E (tV X.K X.mg env s (o.bind fun x s1=>(f2 s1).bind fun y s2=>g x y s2)):=by
 cases o with
 |ok v s1=>
  show L2.PE X E (tV X.K X.mg env s ((f2 s1).bind fun y s2=>g v y s2))
  have h2':=h2 s1
  cases hb:f2 s1 with
  |ok w s2=>
   rw[hb]at h2'
   exact zf (rule _ _ h1 h2') fun σ H Q ⟨ρ,hr,er,wt⟩=>⟨ρ,hr,er,fun ρ1 x H1 x1 hr1 r1=>⟨ρ1,hr1,er.mono x1,fun ρ2 y H2 x2 hr2 r2=>⟨ρ2,s2,v,w,hr2,r1.mono x2,r2,wt.mono (x1.trans hr1 x2) hr2⟩⟩⟩
  |exc _ _ _=>exact zJ (zF rfl)
  |stuck=>exact zJ (zF rfl)
 |exc _ _ _=>exact zJ (zF rfl)
 |stuck=>exact zJ (zF rfl)
theorem fq{op op':Cop}{o:Out Val}{f2 f3:Sto→Out Val}{k:Nat}{pos:Pos}(k1:okC op=true)(k2:okC op'=true)(hr0:L2.yu k X.A)(h1:L2.PE X a (tV X.K X.mg env s o))(h2:∀s1,L2.PE X b (tV X.K X.mg env s1 (f2 s1)))(h3:∀s1,L2.PE X c (tV X.K X.mg env s1 (f3 s1)))(hm:plain c=true) :
 L2.PE X (.Compare a [op.op,op'.op] [b,c] pos) (tV X.K X.mg env s (o.bind fun x s1=>(f2 s1).bind fun y s2=>(zQ op x y s2).bind fun r s3=>match r with
  |.bool true=>(f3 s3).bind fun z s4=>zQ op' y z s4
  |.bool false=>.ok (.bool false) s3
  |_=>.stuck)):=by
 cases o with
 |ok v s1=>
  have h2':=h2 s1
  show L2.PE X _ (tV X.K X.mg env s ((f2 s1).bind _))
  cases hb:f2 s1 with
  |ok w s2=>
   rw[hb]at h2'
   show L2.PE X _ (tV X.K X.mg env s ((zQ op v w s2).bind _))
   cases hc:zQ op v w s2 with
   |ok r s3=>
    cases r with
    |bool t=>
     have h3':=h3 s3
     have rule:=L2.dW (pos:=pos) (v7 hr0 op k1) (v7 hr0 op' k2) h1 h2' h3' (show GY [op.op,op'.op] [b,c]=false from xu hm)
     refine zf rule fun σ H Q ⟨ρ,hr,er,wt⟩=>⟨ρ,hr,er,fun ρ1 x H1 x1 hr1 r1=>⟨ρ1,hr1,er.mono x1,fun ρ2 y H2 x2 hr2 r2=>⟨ρ2,s2,v,w,hr2,r1.mono x2,r2,?_⟩⟩⟩
     rw[hc]
     intro ρ3 z H3 x3 hr3 r3
     cases r3
     refine⟨t,rfl,?_⟩
     have xx:=(x1.trans hr1 x2).trans hr2 x3
     have wt':=wt.mono xx hr3
     cases t with
     |true=>
      rw[if_pos rfl]
      refine⟨ρ3,hr3,er.mono xx,?_⟩
      have wt2:yg X.K X.mg (RD X.K X.mg) ρ3 H3 ((f3 s3).bind fun z s4=>zQ op' w z s4) Q:=wt'
      cases hz:f3 s3 with
      |ok u s4=>
       rw[hz]at wt2
       exact fun ρ4 q H4 x4 hr4 r4=>⟨ρ4,s4,w,u,hr4,(r2.mono x3).mono x4,r4,wt2.mono x4 hr4⟩
      |exc _ _ _=>rw[hz]at wt2;exact wt2
      |stuck=>rw[hz]at wt2;exact wt2
     |false=>
      rw[if_neg Am]
      exact zM hr3 (.bool false) wt'
    |_=>exact zJ (zF rfl)
   |exc _ _ _=>exact zJ (zF rfl)
   |stuck=>exact zJ (zF rfl)
  |exc _ _ _=>exact zJ (zF rfl)
  |stuck=>exact zJ (zF rfl)
 |exc _ _ _=>exact zJ (zF rfl)
 |stuck=>exact zJ (zF rfl)
theorem XW{o:Out Val}{pos:Pos}(h:L2.PE X a (tV X.K X.mg env s o)):L2.PE X (.UnaryOp .USub a pos) (tV X.K X.mg env s (o.bind fun x s1=>match x with|.int i=>.ok (.int (-i)) s1|_=>.stuck)):=by
 refine un1 h (fun ta q=>L2.UU L2.VB q) fun ρ H s1 v x Q hr r w=>?_
 cases r with
 |int i=>exact⟨i,rfl,zM hr (.int _) w⟩
 |_=>exact w.elim
theorem XX{o:Out Val}{pos:Pos}(h:L2.PE X a (tV X.K X.mg env s o)):L2.PE X (.UnaryOp .Not a pos) (tV X.K X.mg env s (o.bind fun x s1=>match x with|.bool b=>.ok (.bool !b) s1|_=>.stuck)):=by
 refine un1 (r:=fun x H Q=>∃c,x=.bl c∧Q (.bl (!c)) H) h (fun ta q=>L2.WW q) fun ρ H s1 v x Q hr r w=>?_
 cases r with
 |bool i=>exact⟨i,rfl,zM hr (.bool _) w⟩
 |_=>exact w.elim
theorem fm{rest:List Expr}{o:Out Val}{f2:Sto→Out Val}{pos:Pos}(h1:L2.PE X a (tV X.K X.mg env s o))(h2:∀s1,L2.PE X (.BoolOp .And (b::rest) pos) (tV X.K X.mg env s1 (f2 s1))) :
 L2.PE X (.BoolOp .And (a::b::rest) pos) (tV X.K X.mg env s (o.bind fun x s1=>match x with|.bool true=>f2 s1|.bool false=>.ok (.bool false) s1|_=>.stuck)):=by
 cases o with
 |ok v s1=>
  refine zf (L2.WR h1 (h2 s1)) fun σ H Q ⟨ρ,hr,er,wt⟩=>⟨ρ,hr,er,fun ρ1 x H1 x1 hr1 r1=>?_⟩
  have wt':=wt.mono x1 hr1
  cases r1 with
  |bool t=>
   refine⟨t,rfl,?_⟩
   cases t with
   |true=>exact L2.oC (⟨ρ1,hr1,er.mono x1,wt'⟩)
   |false=>exact L2.sD (zM hr1 (.bool _) wt')
  |_=>exact wt'.elim
 |exc _ _ _=>exact zJ (zF rfl)
 |stuck=>exact zJ (zF rfl)
theorem Vn{rest:List Expr}{o:Out Val}{f2:Sto→Out Val}{pos:Pos}(h1:L2.PE X a (tV X.K X.mg env s o))(h2:∀s1,L2.PE X (.BoolOp .Or (b::rest) pos) (tV X.K X.mg env s1 (f2 s1))) :
 L2.PE X (.BoolOp .Or (a::b::rest) pos) (tV X.K X.mg env s (o.bind fun x s1=>match truth s1 x with|some false=>f2 s1|some true=>.ok x s1|Ab=>.stuck)):=by
 cases o with
 |ok v s1=>
  refine zf (L2.WX h1 (h2 s1)) fun σ H Q ⟨ρ,hr,er,wt⟩=>⟨ρ,hr,er,fun ρ1 x H1 x1 hr1 r1=>?_⟩
  have wt':yg X.K X.mg (RD X.K X.mg) ρ1 H1 (match truth s1 v with|some false=>f2 s1|some true=>.ok v s1|Ab=>.stuck) Q:=wt.mono x1 hr1
  cases ht:truth s1 v with
  |none=>rw[ht]at wt';exact wt'.elim
  |some t=>
   rw[ht]at wt'
   refine⟨t,bB hr1 r1 ht,?_⟩
   cases t with
   |true=>exact L2.oC (zM hr1 r1 wt')
   |false=>exact L2.sD (⟨ρ1,hr1,er.mono x1,wt'⟩)
 |exc _ _ _=>exact zJ (zF rfl)
 |stuck=>exact zJ (zF rfl)
theorem XU{o:Out Bool}{f2 f3:Sto→Out Val}{pos:Pos}(h1:L2.PT X c (tT X.K X.mg env s o))(h2:∀s1,L2.PE X a (tV X.K X.mg env s1 (f2 s1)))(h3:∀s1,L2.PE X b (tV X.K X.mg env s1 (f3 s1))) :
 L2.PE X (.IfExp c a b pos) (tV X.K X.mg env s (o.bind fun t s1=>if t then f2 s1 else f3 s1)):=by
 cases o with
 |ok v s1=>
  refine zf (L2.nz h1 (h2 s1) (h3 s1)) fun σ H Q ⟨ρ,hr,er,wt⟩=>⟨ρ,hr,er,fun ρ1 x H1 x1 hr1 r1=>?_⟩
  have wt':=wt.mono x1 hr1
  cases r1
  cases v with
  |true=>exact L2.oC (⟨ρ1,hr1,er.mono x1,wt'⟩)
  |false=>exact L2.sD (⟨ρ1,hr1,er.mono x1,wt'⟩)
 |exc _ _ _=>exact zJ (zF rfl)
 |stuck=>exact zJ (zF rfl)
theorem ub{es:List Expr}{o:Out (List Val)}(h:∀v s',o≠.ok v s'):L2.PA X es (tVs X.K X.mg env s o):=UO fun _ _ _=>Wz h
theorem kr:L2.PA X [] (tVs X.K X.mg env s (.ok [] s)):=dP L2.yn fun σ H Q ⟨ρ,hr,er,wt⟩=>wt ρ [] H Ext.refl hr .nil
theorem nR{es:List Expr}{o:Out Val}{f2:Sto→Out (List Val)}(hp:plain a=true)(h1:L2.PE X a (tV X.K X.mg env s o))(h2:∀s1,L2.PA X es (tVs X.K X.mg env s1 (f2 s1))) :
 L2.PA X (a::es) (tVs X.K X.mg env s (o.bind fun v s1=>(f2 s1).bind fun vs s2=>.ok (v::vs) s2)):=by
 cases o with
 |ok v s1=>
  have h2':=h2 s1
  show L2.PA X _ (tVs X.K X.mg env s ((f2 s1).bind _))
  cases hb:f2 s1 with
  |ok ws s2=>
   rw[hb]at h2'
   exact dP (L2.pac h1 h2' (zZ hp)) fun σ H Q ⟨ρ,hr,er,wt⟩=>⟨ρ,hr,er,fun ρ1 x H1 x1 hr1 r1=>⟨ρ1,hr1,er.mono x1,fun ρ2 y H2 x2 hr2 r2=>wt ρ2 _ H2 (x1.trans hr1 x2) hr2 (.cons (r1.mono x2) r2)⟩⟩
  |exc _ _ _=>exact ub (zF rfl)
  |stuck=>exact ub (zF rfl)
 |exc _ _ _=>exact ub (zF rfl)
 |stuck=>exact ub (zF rfl)
theorem m8{es:List Expr}{o:Out (List Val)}{k:Nat}{pos:Pos}(h:L2.PA X es (tVs X.K X.mg env s o)):L2.PE X (.Tuple es k pos) (tV X.K X.mg env s (o.bind fun vs s1=>if vs.length≤zU then .ok (.tup vs) s1 else .stuck)):=by
 cases o with
 |ok vs s1=>
  refine zf (L2.WZ h) fun σ H Q ⟨ρ,hr,er,wt⟩=>⟨ρ,hr,er,fun ρ1 xs H1 x1 hr1 r1=>?_⟩
  have wt':yg X.K X.mg (RD X.K X.mg) ρ1 H1 (if vs.length≤zU then .ok (.tup vs) s1 else .stuck) Q:=wt.mono x1 hr1
  by_cases hz:vs.length≤zU
  . rw[if_pos hz]at wt'
    exact⟨by rw[←r1.length,←yh];exact hz,k7 hr1 r1 wt'⟩
  . rw[if_neg hz]at wt';exact wt'.elim
 |exc _ _ _=>exact zJ (zF rfl)
 |stuck=>exact zJ (zF rfl)
theorem fu{es:List Expr}{o:Out (List Val)}{m:Bool}{pos:Pos}(h:L2.PA X es (tVs X.K X.mg env s o)):L2.PE X (.List es pos) (tV X.K X.mg env s (o.bind fun vs s1=>if vs.length≤zU then newList m vs s1 else .stuck)):=by
 cases o with
 |ok vs s1=>
  refine zf (L2.rl h) fun σ H Q ⟨ρ,hr,er,wt⟩=>⟨ρ,hr,er,fun ρ1 xs H1 x1 hr1 r1=>?_⟩
  have wt':yg X.K X.mg (RD X.K X.mg) ρ1 H1 (if vs.length≤zU then newList m vs s1 else .stuck) Q:=wt.mono x1 hr1
  by_cases hz:vs.length≤zU
  . rw[if_pos hz]at wt'
    exact⟨by rw[←r1.length,←yh];exact hz,uV hr1 r1 wt'⟩
  . rw[if_neg hz]at wt';exact wt'.elim
 |exc _ _ _=>exact zJ (zF rfl)
 |stuck=>exact zJ (zF rfl)
theorem Vm{es:List Expr}{o:Out (List Val)}{g:List Val→Sto→Out Val}(h:L2.PA X es (tVs X.K X.mg env s o))(rule:∀t,L2.PA X es t→L2.PE X E (L2.tCB (rMc X.K X.mg g) t)):L2.PE X E (tV X.K X.mg env s (o.bind g)):=by
 cases o with
 |ok vs s1=>exact zf (rule _ h) fun σ H Q ⟨ρ,hr,er,wt⟩=>⟨ρ,hr,er,fun ρ1 xs H1 x1 hr1 r1=>⟨ρ1,s1,vs,hr1,r1,wt.mono x1 hr1⟩⟩
 |exc _ _ _=>exact zJ (zF rfl)
 |stuck=>exact zJ (zF rfl)
theorem XS{es:List Expr}{o:Out (List Val)}{f:Bf}{m:Bool}{k:Nat}{p pos:Pos}(k1:okF f=true)(hc:X.calm=true)(hr0:L2.yu k X.A)(hg:L2.Gl X f.nm)(hm:X.mg f.nm=none)(hp:zo (a::es)=true)(h:L2.PA X (a::es) (tVs X.K X.mg env s o)) :
 L2.PE X (.Call (.Name f.nm p) (a::es) [] pos) (tV X.K X.mg env s (o.bind (blt f m))):=by
 rw[zo,Aa]at hp
 refine Vm h fun t ht=>?_
 have hb:=bX hc hr0 f m k1
 have bo:=f.boot
 have st:=L2.zm (es:=es) (env:=X.env) (zZ hp.1)
 have hn:=xw (pos:=pos) (env:=X.env) hp.2
 cases f with
 |tuple=>exact L2.wZ hb hg hm bo ht (by decide) (by decide) st hn
 |list=>exact L2.wZ hb hg hm bo ht (by decide) (by decide) st hn
 |int=>exact L2.wZ hb hg hm bo ht (by decide) (by decide) st hn
 |str=>exact L2.wZ hb hg hm bo ht (by decide) (by decide) st hn
 |_=>exact L2.uc hb hg hm bo ht (by decide) (by decide) st hn
theorem z8{o:Out Bool}(h:∀v s',o≠.ok v s'):L2.PT X E (tT X.K X.mg env s o):=UY fun _ _ _=>YN h
theorem Xe{o:Out Val}(hp:plainT a=true)(h:L2.PE X a (tV X.K X.mg env s o)):L2.PT X a (tT X.K X.mg env s o.truth):=by
 cases o with
 |ok v s1=>
  refine oV (L2.d6 h (iu hp)) fun σ H Q ⟨ρ,hr,er,wt⟩=>⟨ρ,hr,er,fun ρ1 x H1 x1 hr1 r1=>?_⟩
  have wt':=wt.mono x1 hr1
  simp only[Out.truth,zV]at wt'
  cases ht:truth s1 v with
  |none=>rw[ht]at wt';exact wt'.elim
  |some b=>rw[ht]at wt';exact⟨b,bB hr1 r1 ht,wt' _ _ _ Ext.refl hr1 rfl⟩
 |exc _ _ _=>exact z8 (zF rfl)
 |stuck=>exact z8 (zF rfl)
theorem Xd{o:Out Bool}{pos:Pos}(h:L2.PT X a (tT X.K X.mg env s o)):L2.PT X (.UnaryOp .Not a pos) (tT X.K X.mg env s (o.bind fun b s1=>.ok (!b) s1)):=by
 cases o with
 |ok v s1=>exact oV (L2.d0 h) fun σ H Q ⟨ρ,hr,er,wt⟩=>⟨ρ,hr,er,fun ρ1 x H1 x1 hr1 r1=>by cases r1;exact wt _ _ _ x1 hr1 rfl⟩
 |exc _ _ _=>exact z8 (zF rfl)
 |stuck=>exact z8 (zF rfl)
theorem uf{o:Out Bool}(h:∀v s',o≠.ok v s'):L2.PW X E (tT X.K X.mg env s o):=Ua fun _ _ _=>YN h
theorem m9{pos:Pos}:L2.PW X (.BoolOp .And [] pos) (tT X.K X.mg env s (.ok true s)):=fun wh pins sh σ H Q I ⟨ρ,hr,er,wt⟩=>PyProof.Rows.isTrue_and_nil ⟨H,I,wt _ _ _ Ext.refl hr rfl⟩
theorem iB{pos:Pos}:L2.PW X (.BoolOp .Or [] pos) (tT X.K X.mg env s (.ok false s)):=fun wh pins sh σ H Q I ⟨ρ,hr,er,wt⟩=>PyProof.Rows.isTrue_or_nil ⟨H,I,wt _ _ _ Ext.refl hr rfl⟩
theorem eD{rest:List Expr}{o:Out Bool}{f2:Sto→Out Bool}{pos:Pos}(h1:L2.PT X a (tT X.K X.mg env s o))(h2:∀s1,L2.PW X (.BoolOp .And rest pos) (tT X.K X.mg env s1 (f2 s1))) :
 L2.PW X (.BoolOp .And (a::rest) pos) (tT X.K X.mg env s (o.bind fun b s1=>if b then f2 s1 else .ok false s1)):=by
 cases o with
 |ok v s1=>
  intro wh pins sh σ H Q I h
  obtain⟨ρ,hr,er,wt⟩:=h
  refine PyProof.Rows.isTrue_and (L2.thn (h1 pins sh σ H (fun c H1=>if c=true then tT X.K X.mg env s1 (f2 s1) σ H1 Q else Q false H1) I ⟨ρ,hr,er,fun ρ1 x H1 x1 hr1 r1=>?_⟩) fun c s' ⟨H1,I1,q1⟩=>?_)
  . have wt':=wt.mono x1 hr1
    cases r1
    cases v with
    |true=>exact L2.oC (⟨ρ1,hr1,er.mono x1,wt'⟩)
    |false=>exact L2.sD (wt' _ _ _ Ext.refl hr1 rfl)
  . cases c with
    |true=>exact h2 s1 wh pins s' σ H1 Q I1 q1
    |false=>exact⟨H1,I1,q1⟩
 |exc _ _ _=>exact uf (zF rfl)
 |stuck=>exact uf (zF rfl)
theorem Z5{rest:List Expr}{o:Out Bool}{f2:Sto→Out Bool}{pos:Pos}(h1:L2.PT X a (tT X.K X.mg env s o))(h2:∀s1,L2.PW X (.BoolOp .Or rest pos) (tT X.K X.mg env s1 (f2 s1))) :
 L2.PW X (.BoolOp .Or (a::rest) pos) (tT X.K X.mg env s (o.bind fun b s1=>if b then .ok true s1 else f2 s1)):=by
 cases o with
 |ok v s1=>
  intro wh pins sh σ H Q I h
  obtain⟨ρ,hr,er,wt⟩:=h
  refine PyProof.Rows.isTrue_or (L2.thn (h1 pins sh σ H (fun c H1=>if c=true then Q true H1 else tT X.K X.mg env s1 (f2 s1) σ H1 Q) I ⟨ρ,hr,er,fun ρ1 x H1 x1 hr1 r1=>?_⟩) fun c s' ⟨H1,I1,q1⟩=>?_)
  . have wt':=wt.mono x1 hr1
    cases r1
    cases v with
    |true=>exact L2.oC (wt' _ _ _ Ext.refl hr1 rfl)
    |false=>exact L2.sD (⟨ρ1,hr1,er.mono x1,wt'⟩)
  . cases c with
    |true=>exact⟨H1,I1,q1⟩
    |false=>exact h2 s1 wh pins s' σ H1 Q I1 q1
 |exc _ _ _=>exact uf (zF rfl)
 |stuck=>exact uf (zF rfl)
end
end M
end
section
namespace M
open PySem
section
variable {X:L2.Cx}{env:Env}{s:Sto}{E a b c:Expr}
theorem dm{e:Option Expr}{t t':L2.TO}(h:L2.PO X e t)(i:∀σ H Q,t' σ H Q→t σ H Q):L2.PO X e t':=fun pins s σ H Q I q=>h pins s σ H Q I (i σ H Q q)
theorem U1{o:Out (Option Int)}(h:∀v s',o≠.ok v s'){σ:L2.St}{H:L2.Hp}{Q:Option Int→L2.Hp→Prop}:¬tO X.K X.mg env s o σ H Q:=by
 rintro ⟨ρ,_,_,w⟩
 cases o with
 |ok v s'=>exact h v s' rfl
 |_=>exact w
theorem n9{e:Option Expr}{o:Out (Option Int)}(h:∀v s',o≠.ok v s'):L2.PO X e (tO X.K X.mg env s o):=fun pins sh σ H Q I q=>(U1 h q).elim
theorem Vq:L2.PO X none (tO X.K X.mg env s (.ok none s)):=dm L2.ZF fun σ H Q ⟨ρ,hr,er,wt⟩=>wt _ _ _ Ext.refl hr rfl
theorem XZ{o:Out Val}(h:L2.PE X a (tV X.K X.mg env s o)):L2.PO X (some a) (tO X.K X.mg env s (o.bind fun v s1=>match v with|.int i=>.ok (some i) s1|_=>.stuck)):=by
 cases o with
 |ok v s1=>
  refine dm (L2.ZG h) fun σ H Q ⟨ρ,hr,er,wt⟩=>⟨ρ,hr,er,fun ρ1 x H1 x1 hr1 r1=>?_⟩
  have wt':=wt.mono x1 hr1
  cases r1 with
  |int i=>exact⟨i,rfl,wt' _ _ _ Ext.refl hr1 rfl⟩
  |_=>exact wt'.elim
 |exc _ _ _=>exact n9 (zF rfl)
 |stuck=>exact n9 (zF rfl)
noncomputable def rMs(K:KF)(mg:Str→Option Value)(m:Bool):L2.V→Option Int→Option Int→L2.Hp→L2.VK→Prop:=fun x lo hi H Q=>∃ρ s v,HR K mg ρ s H∧RD K mg ρ H v x∧yg K mg (RD K mg) ρ H (tL m v lo hi none s) Q
theorem Ut(m:Bool):L2.SlR X (rMs X.K X.mg m):=by
 intro pins s σ H x v vl vu lo hi sl Q I rx hs pl pu h
 obtain⟨ρ,t,w,hr,rw',wt⟩:=h
 simp only[tL]at wt
 split at wt
 . cases rw' with
   |tup n e q=>exact L2.ZN pins s σ H _ v vl vu lo hi sl Q I rx hs pl pu ⟨_,_,rfl,e,uS hr (q.cut lo hi) wt⟩
 . rename_i heq
   cases heq
 . split at wt
   . rename_i e
     obtain⟨p,xs,rfl,hq,q⟩:=wL hr rw' e
     exact L2.ZM pins s σ H _ v vl vu lo hi sl Q I rx hs pl pu ⟨_,_,rfl,.of hq,uV hr (q.cut lo hi) wt⟩
   . exact wt.elim
 . rename_i heq
   cases heq
theorem Vo{lo hi st:Option Expr}{o:Out Val}{f2 f3 f4:Sto→Out (Option Int)}{m:Bool}{p2 pos:Pos}(h1:L2.PE X a (tV X.K X.mg env s o))(h2:∀s1,L2.PO X lo (tO X.K X.mg env s1 (f2 s1)))(h3:∀s1,L2.PO X hi (tO X.K X.mg env s1 (f3 s1)))
 (h4:∀s1,L2.PO X st (tO X.K X.mg env s1 (f4 s1))) (hst:(st=none∧∀s1,f4 s1=.ok none s1)∨∃e,st=some e∧∀s1 s2,f4 s1≠.ok none s2) :
 L2.PE X (.Subscript a (.Slice lo hi st p2) pos) (tV X.K X.mg env s (o.bind fun x s1=>(f2 s1).bind fun l s2=>(f3 s2).bind fun h s3=>(f4 s3).bind fun c s4=>tL m x l h c s4)):=by
 cases o with
 |ok v s1=>
  have h2':=h2 s1
  show L2.PE X _ (tV X.K X.mg env s ((f2 s1).bind _))
  cases hl:f2 s1 with
  |ok l s2=>
   rw[hl]at h2'
   have h3':=h3 s2
   show L2.PE X _ (tV X.K X.mg env s ((f3 s2).bind _))
   cases hh:f3 s2 with
   |ok h s3=>
    rw[hh]at h3'
    have h4':=h4 s3
    show L2.PE X _ (tV X.K X.mg env s ((f4 s3).bind _))
    rcases hst with⟨rfl,e4⟩|⟨e,rfl,e4⟩
    . rw[e4 s3]
      refine zf (L2.de (Ut m) h1 h2' h3') fun σ H Q ⟨ρ,hr,er,wt⟩=>⟨ρ,hr,er,fun ρ1 x H1 x1 hr1 r1=>⟨ρ1,hr1,er.mono x1,fun ρ2 y H2 x2 hr2 r2=>?_⟩⟩
      cases r2
      refine⟨ρ2,hr2,(er.mono x1).mono x2,fun ρ3 z H3 x3 hr3 r3=>?_⟩
      cases r3
      exact⟨ρ3,s3,v,hr3,(r1.mono x2).mono x3,wt.mono ((x1.trans hr1 x2).trans hr2 x3) hr3⟩
    . cases hc:f4 s3 with
      |ok cc s4=>
       rw[hc]at h4'
       cases cc with
       |none=>exact absurd hc (e4 s3 s4)
       |some ci=>
        by_cases hv:∃vs,v=.tup vs
        case neg=>
         refine zf (L2.lV h1 h2' h3' h4') fun σ H Q ⟨ρ,hr,er,wt⟩=>⟨ρ,hr,er,fun ρ1 x H1 x1 hr1 r1=>⟨ρ1,hr1,er.mono x1,fun ρ2 y H2 x2 hr2 r2=>?_⟩⟩
         cases r2
         refine⟨ρ2,hr2,(er.mono x1).mono x2,fun ρ3 z H3 x3 hr3 r3=>?_⟩
         cases r3
         refine⟨ρ3,hr3,((er.mono x1).mono x2).mono x3,fun ρ4 z4 H4 x4 hr4 r4=>?_⟩
         cases r4
         have wt':yg X.K X.mg (RD X.K X.mg) ρ4 H4 (tL m v l h (some ci) s4) Q:=wt.mono (((x1.trans hr1 x2).trans hr2 x3).trans hr3 x4) hr4
         have em:tL m v l h (some ci) s4=(match yL s4 v with|some vs=>if ci≠0 then newList m (L2.zv vs (L2.vK vs.length l h ci).1 ci (L2.vK vs.length l h ci).2) s4 else .stuck|Ab=>.stuck):=by
          cases v with
          |tup vs=>exact absurd ⟨vs,rfl⟩ hv
          |_=>rfl
         rw[em]at wt'
         cases hl:yL s4 v with
         |none=>rw[hl]at wt';exact wt'.elim
         |some vs=>
          rw[hl]at wt'
          dsimp only at wt'
          obtain⟨p,xs,rfl,hq,q⟩:=wL hr4 (((r1.mono x2).mono x3).mono x4) hl
          by_cases c0:ci≠0
          . have wt2:yg X.K X.mg (RD X.K X.mg) ρ4 H4 (newList m (L2.zv vs (L2.vK vs.length l h ci).1 ci (L2.vK vs.length l h ci).2) s4) Q:=by rwa [if_pos c0]at wt'
            refine⟨p,xs,ci,rfl,.of hq,rfl,c0,?_⟩
            rw[←q.length]
            exact uV hr4 (q.zv _ _ _) wt2
          . rw[if_neg c0]at wt';exact wt'.elim
        refine zf (L2.ip h1 h2' h3' h4') fun σ H Q ⟨ρ,hr,er,wt⟩=>⟨ρ,hr,er,fun ρ1 x H1 x1 hr1 r1=>⟨ρ1,hr1,er.mono x1,fun ρ2 y H2 x2 hr2 r2=>?_⟩⟩
        cases r2
        refine⟨ρ2,hr2,(er.mono x1).mono x2,fun ρ3 z H3 x3 hr3 r3=>?_⟩
        cases r3
        refine⟨ρ3,hr3,((er.mono x1).mono x2).mono x3,fun ρ4 z4 H4 x4 hr4 r4=>?_⟩
        cases r4
        have xx:=((x1.trans hr1 x2).trans hr2 x3).trans hr3 x4
        have wt':yg X.K X.mg (RD X.K X.mg) ρ4 H4 (tL m v l h (some ci) s4) Q:=wt.mono xx hr4
        have r:=((r1.mono x2).mono x3).mono x4
        cases r with
        |tup n e q=>
         change yg X.K X.mg (RD X.K X.mg) ρ4 H4 (if ci≠0∧(L2.yQ (CW _) l h ci).2≤zU then .ok (.tup (L2.zv _ (L2.yQ (CW _) l h ci).1 ci (L2.yQ (CW _) l h ci).2)) s4 else .stuck) Q at wt'
         split at wt'
         . rename_i hz
           have hlen:=q.length
           refine⟨_,_,ci,rfl,e,rfl,hz.1,by rw[←hlen,←yh];exact hz.2,?_⟩
           rw[←hlen]
           exact uS hr4 (q.zv _ _ _) wt'
         . exact wt'.elim
        |_=>obtain⟨_,e⟩:=hv;cases e
      |exc _ _ _=>exact zJ (zF rfl)
      |stuck=>exact zJ (zF rfl)
   |exc _ _ _=>exact zJ (zF rfl)
   |stuck=>exact zJ (zF rfl)
  |exc _ _ _=>exact zJ (zF rfl)
  |stuck=>exact zJ (zF rfl)
 |exc _ _ _=>exact zJ (zF rfl)
 |stuck=>exact zJ (zF rfl)
noncomputable def Mf.nm:Mf→Str
 |.count=>"count"|.append=>"append"|.extend=>"extend"|.pop=>"pop"|.index=>"index"|.join=>"join"
noncomputable def okM:Mf→Bool
 |.count|.extend|.pop|.index|.join=>false
 |_=>true
theorem fv{f:Mf}{o:Out Val}{f2:Sto→Out Val}{apos cpos:Pos}(hm:okM f=true)(hs:oH a=true)(hp:plain b=true)(hline:(apos.endLine == cpos.line)=true)(h1:L2.PE X a (tV X.K X.mg env s o))(h2:∀s1,L2.PE X b (tV X.K X.mg env s1 (f2 s1))) :
 L2.PE X (.Call (.Attribute a f.nm apos) [b] [] cpos) (tV X.K X.mg env s (o.bind fun x s1=>((f2 s1).bind fun v s2=>(Out.ok [v] s2:Out (List Val))).bind fun vs s2=>yx f x vs s2)):=by
 cases o with
 |ok v s1=>
  have h2':=h2 s1
  show L2.PE X _ (tV X.K X.mg env s (((f2 s1).bind fun v s2=>(Out.ok [v] s2:Out (List Val))).bind fun vs s2=>yx f v vs s2))
  cases hb:f2 s1 with
  |ok w s2=>
   rw[hb]at h2'
   show L2.PE X _ (tV X.K X.mg env s (yx f v [w] s2))
   cases f with
   |count=>cases hm
   |append=>
    cases v with
    |ref i=>
     refine zf (L2.ij (es:=[]) h1 h2' (sI hs) (zZ hp) hline) fun σ H Q ⟨ρ,hr,er,wt⟩=>⟨ρ,hr,er,fun ρ1 x H1 x1 hr1 r1=>?_⟩
     cases r1 with
     |ref e k=>
      obtain⟨xs,q⟩:=fP k
      refine⟨.inl ⟨rfl,_,.of q⟩,ρ1,hr1,er.mono x1,fun ρ2 y H2 x2 hr2 r2=>?_⟩
      have wt':yg X.K X.mg (RD X.K X.mg) ρ2 H2 (yx .append (.ref i) [w] s2) Q:=wt.mono (x1.trans hr1 x2) hr2
      simp only[yx]at wt'
      split at wt'
      . rename_i vs hv
        split at wt'
        . rename_i hz
          obtain⟨b',ys,e1,e2,q2⟩:=hr2.obj i _ hv
          have e':=x2.get e
          rw[e']at e1;cases e1
          refine⟨_,ys,y,rfl,rfl,e2,by rw[←q2.length,←yh];exact hz,?_⟩
          exact wt' _ _ _ (Ext.write hr2 e' e2 _) (hr2.write e' e2 (q2.append (.cons r2 .nil))) .none
        . exact wt'.elim
      . exact wt'.elim
    |_=>exact zJ (zF rfl)
   |extend=>cases hm
   |pop=>cases hm
   |index=>cases hm
   |join=>cases hm
  |exc _ _ _=>exact zJ (zF rfl)
  |stuck=>exact zJ (zF rfl)
 |exc _ _ _=>exact zJ (zF rfl)
 |stuck=>exact zJ (zF rfl)
end
noncomputable def spN(T:Tbl)(K:KF)(mg:Str→Option Value)(n:Nat)(f:Str)(ver:Nat):L2.Sp:=fun vs H Q _=>∃ρ s args,HR K mg ρ s H∧RDs K mg ρ H args vs∧yg K mg (RD K mg) ρ H (zE T n f ver args s) Q
structure Callee(T:Tbl)(n:Nat)(X:L2.Cx)(f:Str)(ver:Nat)(F:Fn):Prop where
 ex:∃fa fd,X.mg f=some (.ref fa)∧Cu X.K (.ref fa)=true∧L2.Binds X.K fd F.ps []∧L2.uw X.prog X.w X.K X.mg X.base L2.CX0 n fa fd F.ps (spN T X.K X.mg n f ver)
section
variable {X:L2.Cx}{env:Env}{s:Sto}{T:Tbl}{n ver:Nat}{f:Str}{F:Fn}
theorem fo{p pos:Pos}(C:Callee T n X f ver F)(hr0:L2.yu n X.A)(hg:L2.Gl X f)(hd:(f == ("__debug__":Str))=false):L2.PE X (.Call (.Name f p) [] [] pos) (tV X.K X.mg env s (zE T n f ver [] s)):=by
 obtain⟨fa,fd,hm,hk,hb,hf⟩:=C.ex
 exact zf (L2.ny hf hr0 hg hm hk hb .nil L2.YD hd) fun σ H Q ⟨ρ,hr,er,wt⟩=>⟨ρ,s,[],hr,.nil,wt⟩
theorem aL{es:List Expr}{o:Out (List Val)}{p pos:Pos}(C:Callee T n X f ver F)(hr0:L2.yu n X.A)(hg:L2.Gl X f)(hd:(f == ("__debug__":Str))=false)(hp:zo es=true)(hne:es≠[])(h:L2.PA X es (tVs X.K X.mg env s o)) :
 L2.PE X (.Call (.Name f p) es [] pos) (tV X.K X.mg env s (o.bind (zE T n f ver))):=by
 obtain⟨fa,fd,hm,hk,hb,hf⟩:=C.ex
 cases o with
 |ok vs s1=>
  cases es with
  |nil=>exact absurd rfl hne
  |cons e es=>
   rw[zo,Aa]at hp
   refine zf (L2.oO hf hr0 hg hm hk hb .nil L2.YD h hd (L2.zm (zZ hp.1)) (xw hp.2)) fun σ H Q ⟨ρ,hr,er,wt⟩=>⟨ρ,hr,er,fun ρ1 xs H1 x1 hr1 r1=>?_⟩
   show spN T X.K X.mg n f ver (xs++[]) H1 Q L2.E0
   rw[AY]
   exact⟨ρ1,s1,vs,hr1,r1,wt.mono x1 hr1⟩
 |exc _ _ _=>exact zJ (zF rfl)
 |stuck=>exact zJ (zF rfl)
end
end M
end
section
namespace M
open PySem
theorem xT:∀{c:Bool} {p:Prop},(c=true→p)→cond c p True
 |true,_,h=>h rfl
 |false,_,_=>Bg
theorem rA{c:Bool}{p:Prop}(h:cond c p True)(e:c=true):p:=by subst e;exact h
mutual
theorem VP:∀(a b:Val),cond (a.beq b) (a=b) True
 |.none,b=>by cases b<;>first|exact(rfl:Val.none=Val.none)|exact Bg
 |.bool x,b=>by cases b with|bool y=>exact xT fun h=>congrArg Val.bool (Co (show (x == y)=true from h))|_=>exact Bg
 |.int x,b=>by cases b with|int y=>exact xT fun h=>congrArg Val.int (Co (show (x == y)=true from h))|_=>exact Bg
 |.str x,b=>by cases b with|str y=>exact xT fun h=>congrArg Val.str (Co (show (x == y)=true from h))|_=>exact Bg
 |.tup x,b=>by cases b with|tup y=>exact xT fun h=>congrArg Val.tup (rA (pS x y) h)|_=>exact Bg
 |.lst x,b=>by cases b with|lst y=>exact xT fun h=>congrArg Val.lst (rA (pS x y) h)|_=>exact Bg
 |.dct0,b=>by cases b<;>first|exact(rfl:Val.dct0=Val.dct0)|exact Bg
 |.ctup x,b=>by cases b with|ctup y=>exact xT fun h=>congrArg Val.ctup (Co (show (x == y)=true from h))|_=>exact Bg
 |.scr x,b=>by cases b with|scr y=>exact xT fun h=>congrArg Val.scr (Co (show (x == y)=true from h))|_=>exact Bg
 |.ref x,b=>by cases b with|ref y=>exact xT fun h=>congrArg Val.ref (Co (show (x == y)=true from h))|_=>exact Bg
 |.fn x,b=>by cases b with|fn y=>exact xT fun h=>congrArg Val.fn (Co (show (x == y)=true from h))|_=>exact Bg
 |.ty x,b=>by cases b with|ty y=>exact xT fun h=>congrArg Val.ty (Co (show (x == y)=true from h))|_=>exact Bg
 |.dref x,b=>by cases b with|dref y=>exact xT fun h=>congrArg Val.dref (Co (show (x == y)=true from h))|_=>exact Bg
theorem pS:∀(a b:List Val),cond (uy a b) (a=b) True
 |[],[]=>(rfl:([]:List Val)=[])
 |[],_::_=>Bg
 |_::_,[]=>Bg
 |x::xs,y::ys=>xT fun h=>by
  have h:(x.beq y&&uy xs ys)=true:=h
  rw[Aa]at h
  rw[rA (VP x y) h.1,rA (pS xs ys) h.2]
end
theorem uJ{a b:List Val}(h:uy a b=true):a=b:=rA (pS a b) h
mutual
theorem beq_refl:∀a:Val,a.beq a=true
 |.none=>rfl
 |.bool x=>(beq_self_eq_true x:(x == x)=true)
 |.int x=>(beq_self_eq_true x:(x == x)=true)
 |.str x=>(beq_self_eq_true x:(x == x)=true)
 |.tup x=>vX x
 |.lst x=>vX x
 |.dct0=>rfl
 |.ctup x=>(beq_self_eq_true x:(x == x)=true)
 |.scr x=>(beq_self_eq_true x:(x == x)=true)
 |.ref x=>(beq_self_eq_true x:(x == x)=true)
 |.fn x=>(beq_self_eq_true x:(x == x)=true)
 |.ty x=>(beq_self_eq_true x:(x == x)=true)
 |.dref x=>(beq_self_eq_true x:(x == x)=true)
theorem vX:∀a:List Val,uy a a=true
 |[]=>rfl
 |x::xs=>by rw[uy,beq_refl x,vX xs];rfl
end
section
variable {K:KF}{mg:Str→Option Value}
theorem Mv.refl{ρ:Own}{H:L2.Hp}:Mv ρ H ρ H:=⟨fun a o e n=>⟨e,n⟩,fun i a e=>e,fun _ _=>rfl⟩
theorem Mv.trans{ρ ρ1 ρ2:Own}{H H1 H2:L2.Hp}(x:Mv ρ H ρ1 H1)(y:Mv ρ1 H1 ρ2 H2):Mv ρ H ρ2 H2:=
 ⟨fun a o e n=>y.keep a o (x.keep a o e n).1 (x.keep a o e n).2,fun i a e=>y.get i a (x.get i a e),fun a ha=>by
  obtain⟨i,hi⟩:=List.getElem?_of_mem ha
  exact(y.kd a (AS (x.get i a hi))).trans (x.kd a ha)⟩
structure Walk(K:KF)(mg:Str→Option Value)(ρ:Own)(H:L2.Hp)(r:Src)(J:L2.It):Prop where
 len:r.xs.length≤zU
 go:∀(ρ2:Own) (H2:L2.Hp) (s2:Sto) (i:Nat) (v:Val),Mv ρ H ρ2 H2→HR K mg ρ2 s2 H2→r.ok s2=true→r.xs[i]?=some v→J.go i H2∧∀x H3,J.yld i H2 x H3→(H3=H2∨∃p o,H2 p=none∧H3=L2.upd H2 p o)∧RD K mg ρ2 H3 v x
 stop:∀(ρ2:Own) (H2:L2.Hp) (s2:Sto) (i:Nat),Mv ρ H ρ2 H2→HR K mg ρ2 s2 H2→r.ok s2=true→i=r.xs.length→J.stop i H2
theorem Walk.mv{ρ ρ1:Own}{H H1:L2.Hp}{r:Src}{J:L2.It}(w:Walk K mg ρ H r J)(x:Mv ρ H ρ1 H1):Walk K mg ρ1 H1 r J:=
 ⟨w.len,fun ρ2 H2 s2 i v y=>w.go ρ2 H2 s2 i v (x.trans y),fun ρ2 H2 s2 i y=>w.stop ρ2 H2 s2 i (x.trans y)⟩
def gS(H:L2.Hp):Prop:=∀a xs,(H a=some (.tup xs)∨H a=some (.lst xs))→xs.length≤AB
theorem ud{X:L2.Cx}{tg it:Expr}{wi:L2.TI}(h:L2.PI X tg it wi):L2.PI X tg it (fun σ H R=>wi σ H fun J H1=>gS H1→R J H1):=fun pins s σ H R I q=>
 L2.thn (h pins s σ H _ I q) fun v s1 h1=>L2.thn h1 fun itv s2 ⟨i,fp,tn,J,H',e,I',T,t0,f,r⟩=>⟨i,fp,tn,J,H',e,I',T,t0,f,r fun a xs hx=>by
  rcases hx with hx|hx
  . obtain⟨z,_⟩:=(show L2.z9 X.prog X.w H' s2.heap a (.tup xs) from I'.hok a _ hx);exact z
  . obtain⟨z,_⟩:=(show L2.z9 X.prog X.w H' s2.heap a (.lst xs) from I'.hok a _ hx);exact z⟩
theorem bK{ρ:Own}{H:L2.Hp}{a:Addr}{vs:List Val}{xs:List L2.V}(hz:vs.length≤zU)(n:ρ.no a)(e:H a=some (.tup xs))(q:RDs K mg ρ H vs xs):Walk K mg ρ H ⟨vs,none⟩ (L2.Itt K a) where
 len:=hz
 go:=fun ρ2 H2 s2 i v x hr _ hv=>by
  have e2:=(x.keep a _ e n).1
  have q2:=RDs.mv x q
  obtain⟨y,h1,h2⟩:=q2.get hv
  refine⟨⟨xs,y,.of e2,h1⟩,fun z H3 ⟨e3,h3⟩=>⟨.inl e3,?_⟩⟩
  subst e3
  have:=h3 xs (.of e2)
  rw[h1]at this;cases this
  exact h2
 stop:=fun ρ2 H2 s2 i x hr _ hi=>⟨xs,.of (x.keep a _ e n).1,by rw[←q.length];exact ET hi.symm⟩
theorem bI{ρ:Own}{H:L2.Hp}{a:Addr}{vs:List Val}{xs:List L2.V}(hz:vs.length≤zU)(n:ρ.no a)(e:H a=some (.lst xs))(q:RDs K mg ρ H vs xs):Walk K mg ρ H ⟨vs,none⟩ (L2.Itl K a) where
 len:=hz
 go:=fun ρ2 H2 s2 i v x hr _ hv=>by
  have e2:=(x.keep a _ e n).1
  have q2:=RDs.mv x q
  obtain⟨y,h1,h2⟩:=q2.get hv
  refine⟨⟨xs,y,.of e2,h1⟩,fun z H3 ⟨e3,h3⟩=>⟨.inl e3,?_⟩⟩
  subst e3
  have:=h3 xs (.of e2)
  rw[h1]at this;cases this
  exact h2
 stop:=fun ρ2 H2 s2 i x hr _ hi=>⟨xs,.of (x.keep a _ e n).1,by rw[←q.length];exact ET hi.symm⟩
theorem gE{ρ:Own}{H:L2.Hp}{a:Addr}{ns:List Int}(k:KT K a (ns.map L2.V.int)):Walk K mg ρ H ⟨ns.map .int,none⟩ (L2.Itt K a) where
 len:=by
  obtain⟨o,its,n,_,_,_,h4,h5⟩:=k
  have:=h5.length
  simp only[Ai,Cr]at this
  show (ns.map Val.int).length≤_
  rw[Ai,yh,this];exact h4
 go:=fun ρ2 H2 s2 i v x hr _ hv=>by
  obtain⟨y,h1,h2⟩:=(RDs.ints (K:=K) (mg:=mg) (ρ:=ρ2) (H:=H2) ns).get hv
  refine⟨⟨_,y,k.sqt,h1⟩,fun z H3 ⟨e3,h3⟩=>⟨.inl e3,?_⟩⟩
  subst e3
  have:=h3 _ k.sqt
  rw[h1]at this;cases this
  exact h2
 stop:=fun ρ2 H2 s2 i x hr _ hi=>⟨_,k.sqt,by rw[Ai];rw[hi];simp⟩
theorem bJ{ρ:Own}{H:L2.Hp}{i0:Nat}{a:Addr}{vs:List Val}(hz:vs.length≤zU)(e:ρ.o[i0]?=some a):Walk K mg ρ H ⟨vs,some i0⟩ (L2.Itl K a) where
 len:=hz
 go:=fun ρ2 H2 s2 i v x hr ho hv=>by
  simp only[Src.ok]at ho
  split at ho
  . rename_i ws hw
    cases uJ ho
    obtain⟨b,xs,e1,e2,q⟩:=hr.obj i0 _ hw
    rw[x.get _ _ e]at e1;cases e1
    obtain⟨y,h1,h2⟩:=q.get hv
    refine⟨⟨xs,y,.of e2,h1⟩,fun z H3 ⟨e3,h3⟩=>⟨.inl e3,?_⟩⟩
    subst e3
    have:=h3 xs (.of e2)
    rw[h1]at this;cases this
    exact h2
  . cases ho
 stop:=fun ρ2 H2 s2 i x hr ho hi=>by
  simp only[Src.ok]at ho
  split at ho
  . rename_i ws hw
    cases uJ ho
    obtain⟨b,xs,e1,e2,q⟩:=hr.obj i0 _ hw
    rw[x.get _ _ e]at e1;cases e1
    exact⟨xs,.of e2,by rw[←q.length];exact ET hi.symm⟩
  . cases ho
theorem cG{lo:Int}{n i:Nat}:(yJ lo n)[i]?=if i<n then some (.int (lo+i)) else none:=by
 unfold yJ
 rw[AQ]
 by_cases h:i<n
 . rw[if_pos h,E1 h];rfl
 . rw[if_neg h,B6 (by rw[BD];omega)];rfl
theorem uj{lo:Int}{n:Nat}:(yJ lo n).length=n:=by unfold yJ;rw[Ai,BD]
theorem mU{ρ:Own}{H:L2.Hp}{lo:Int}{n:Nat}(hz:n≤zU):Walk K mg ρ H ⟨yJ lo n,none⟩ (L2.Itr lo n) where
 len:=by show (yJ lo n).length≤_;rw[uj];exact hz
 go:=fun ρ2 H2 s2 i v x hr _ hv=>by
  have hv':(yJ lo n)[i]?=some v:=hv
  rw[cG]at hv'
  split at hv'
  . rename_i hi
    cases hv'
    refine⟨hi,fun z H3 ⟨e3,h3⟩=>⟨.inl e3,?_⟩⟩
    subst h3
    exact .int _
  . cases hv'
 stop:=fun ρ2 H2 s2 i x hr _ hi=>by
  have:i=(yJ lo n).length:=hi
  rw[uj]at this;exact ET this.symm
theorem vY:∀{vs:List Val} {n i:Nat},(zr n vs)[i]?=(vs[i]?).map fun v=>.tup [.int ((n+i:Nat):Int),v]
 |[],_,_=>rfl
 |v::vs,n,0=>rfl
 |v::vs,n,i+1=>by
  show (zr (n+1) vs)[i]?=(vs[i]?).map _
  rw[vY]
  rw[show n+1+i=n+(i+1) by omega]
theorem wW:∀{vs:List Val} {n:Nat},(zr n vs).length=vs.length
 |[],_=>rfl
 |v::vs,n=>by show (zr (n+1) vs).length+1=_;rw[wW];rfl
theorem gF{ρ:Own}{H:L2.Hp}{a:Addr}{vs:List Val}{xs:List L2.V}(hz:vs.length≤zU)(n:ρ.no a)(e:H a=some (.tup xs))(q:RDs K mg ρ H vs xs):Walk K mg ρ H ⟨zr 0 vs,none⟩ (L2.Ite K a) where
 len:=by show (zr 0 vs).length≤_;rw[wW];exact hz
 go:=fun ρ2 H2 s2 i v x hr _ hv=>by
  have e2:=(x.keep a _ e n).1
  have q2:=RDs.mv x q
  have hv':(zr 0 vs)[i]?=some v:=hv
  rw[vY,A5]at hv'
  obtain⟨w,h0,rfl⟩:=hv'
  obtain⟨y,h1,h2⟩:=q2.get h0
  refine⟨⟨xs,y,.of e2,h1⟩,fun z H3 ⟨t,y',ht,e3,h3,e4⟩=>⟨.inr ⟨t,_,ht,e4⟩,?_⟩⟩
  subst e3 e4
  have:=h3 xs (.of e2)
  rw[h1]at this;cases this
  have X:=Ext.new hr ht (.tup [.int ((i:Nat):Int),y])
  refine .tup (hr.new ht) L2.zN (.cons ?_ (.cons (h2.mono X) .nil))
  rw[Dm];exact .int _
 stop:=fun ρ2 H2 s2 i x hr _ hi=>⟨xs,.of (x.keep a _ e n).1,by rw[←q.length,hi];exact wW.symm⟩
theorem kJ{ρ:Own}{H:L2.Hp}{a:Addr}{vs:List Val}{xs:List L2.V}(hz:vs.length≤zU)(n:ρ.no a)(e:H a=some (.lst xs))(q:RDs K mg ρ H vs xs):Walk K mg ρ H ⟨zr 0 vs,none⟩ (L2.YV K a) where
 len:=by show (zr 0 vs).length≤_;rw[wW];exact hz
 go:=fun ρ2 H2 s2 i v x hr _ hv=>by
  have e2:=(x.keep a _ e n).1
  have q2:=RDs.mv x q
  have hv':(zr 0 vs)[i]?=some v:=hv
  rw[vY,A5]at hv'
  obtain⟨w,h0,rfl⟩:=hv'
  obtain⟨y,h1,h2⟩:=q2.get h0
  refine⟨⟨xs,y,.of e2,h1⟩,fun z H3 ⟨t,y',ht,e3,h3,e4⟩=>⟨.inr ⟨t,_,ht,e4⟩,?_⟩⟩
  subst e3 e4
  have:=h3 xs (.of e2)
  rw[h1]at this;cases this
  have X:=Ext.new hr ht (.tup [.int ((i:Nat):Int),y])
  refine .tup (hr.new ht) L2.zN (.cons ?_ (.cons (h2.mono X) .nil))
  rw[Dm];exact .int _
 stop:=fun ρ2 H2 s2 i x hr _ hi=>⟨xs,.of (x.keep a _ e n).1,by rw[←q.length,hi];exact wW.symm⟩
noncomputable def tI(env:Env)(s:Sto)(o:Out Src):L2.TI:=fun σ H R=>∃ρ,HR K mg ρ s H∧ER K mg ρ H env σ∧(match o with
 |.ok r s'=>∀ρ' H' J,Ext ρ H ρ' H'→HR K mg ρ' s' H'→Walk K mg ρ' H' r J→R J H'
 |_=>False)
end
section
variable {X:L2.Cx}{env:Env}{s:Sto}{a b tg:Expr}
theorem v9{it:Expr}{t t':L2.TI}(h:L2.PI X tg it t)(i:∀σ H R,t' σ H R→t σ H R):L2.PI X tg it t':=fun pins s σ H R I q=>h pins s σ H R I (i σ H R q)
theorem yM{it:Expr}{o:Out Src}(h:∀v s',o≠.ok v s'):L2.PI X tg it (tI (K:=X.K) (mg:=X.mg) env s o):=fun pins sh σ H R I q=>by
 obtain⟨ρ,_,_,w⟩:=q
 cases o with
 |ok v s'=>exact(h v s' rfl).elim
 |exc _ _ _=>exact w.elim
 |stuck=>exact w.elim
theorem gS.of{K:KF}{mg:Str→Option Value}{ρ:Own}{H:L2.Hp}(z:gS H){a:Addr}{vs:List Val}{xs:List L2.V}(q:RDs K mg ρ H vs xs)(h:H a=some (.tup xs)∨H a=some (.lst xs)):vs.length≤zU:=by
 rw[q.length,yh];exact z a xs h
theorem XY{o:Out Val}(h:L2.PE X a (tV X.K X.mg env s o)):L2.PI X tg a (tI (K:=X.K) (mg:=X.mg) env s (o.bind fun v s1=>match srcOf s1 v with|some r=>.ok r s1|Ab=>.stuck)):=by
 cases o with
 |ok v s1=>
  show L2.PI X tg a (tI (K:=X.K) (mg:=X.mg) env s (match srcOf s1 v with|some r=>.ok r s1|Ab=>.stuck))
  cases v with
  |tup vs=>
   refine v9 (ud (L2.dh h)) fun σ H R ⟨ρ,hr,er,w⟩=>⟨ρ,hr,er,fun ρ1 x H1 x1 hr1 r1=>?_⟩
   cases r1 with
   |tup n e q=>exact⟨_,rfl,⟨_,.of e⟩,fun z=>w ρ1 H1 _ x1 hr1 (bK (z.of q (.inl e)) n e q)⟩
  |lst vs=>
   refine v9 (ud (L2.jJ h)) fun σ H R ⟨ρ,hr,er,w⟩=>⟨ρ,hr,er,fun ρ1 x H1 x1 hr1 r1=>?_⟩
   cases r1 with
   |lst n e q=>exact⟨_,rfl,⟨_,.of e⟩,fun z=>w ρ1 H1 _ x1 hr1 (bI (z.of q (.inr e)) n e q)⟩
  |ctup ns=>
   refine v9 (L2.dh h) fun σ H R ⟨ρ,hr,er,w⟩=>⟨ρ,hr,er,fun ρ1 x H1 x1 hr1 r1=>?_⟩
   cases r1 with
   |ctup k=>exact⟨_,rfl,⟨_,k.sqt⟩,w ρ1 H1 _ x1 hr1 (gE k)⟩
  |ref i=>
   simp only[srcOf]
   cases hs:s1[i]? with
   |none=>exact yM (zF rfl)
   |some cl=>
    cases cl with
    |lst vs=>
     refine v9 (ud (L2.jJ h)) fun σ H R ⟨ρ,hr,er,w⟩=>⟨ρ,hr,er,fun ρ1 x H1 x1 hr1 r1=>?_⟩
     cases r1 with
     |ref e=>
      obtain⟨b',xs,e1,e2,q⟩:=hr1.obj i _ hs
      rw[e]at e1;cases e1
      exact⟨_,rfl,⟨_,.of e2⟩,fun z=>w ρ1 H1 _ x1 hr1 (bJ (z.of q (.inr e2)) e)⟩
    |_=>exact yM (zF rfl)
  |_=>exact yM (zF rfl)
 |exc _ _ _=>exact yM (zF rfl)
 |stuck=>exact yM (zF rfl)
theorem j9{o:Out Val}{p pos:Pos}(hp:plain a=true)(hg:L2.Gl X "range")(hm:X.mg "range"=none)(h:L2.PE X a (tV X.K X.mg env s o)) :
 L2.PI X tg (.Call (.Name "range" p) [a] [] pos) (tI (K:=X.K) (mg:=X.mg) env s (o.bind fun x s1=>match x with
  |.int j=>if -(2 ^ 62)≤j∧j≤zU then .ok ⟨yJ 0 j.toNat,Ab⟩ s1 else .stuck
  |_=>.stuck)):=by
 cases o with
 |ok v s1=>
  have st:AM [a] X.env=[(false,eval a X.env)]:=L2.zm (zZ hp)
  refine v9 (L2.iq hg hm (L2.pac h L2.yn (zZ hp)) st) fun σ H R ⟨ρ,hr,er,w⟩=>⟨ρ,hr,er,fun ρ1 x H1 x1 hr1 r1=>?_⟩
  cases r1 with
  |int j=>
   simp only[zV]at w
   by_cases hz:-(2 ^ 62)≤j∧j≤zU
   . rw[if_pos hz]at w
     have hl:(zU:Int)<2 ^ 62:=by decide
     exact⟨j,rfl,hz.1,by omega,w ρ1 H1 _ x1 hr1 (mU (by omega))⟩
   . rw[if_neg hz]at w;exact w.elim
  |_=>exact w.elim
 |exc _ _ _=>exact yM (zF rfl)
 |stuck=>exact yM (zF rfl)
theorem iA{o:Out Val}{f2:Sto→Out Val}{p pos:Pos}(hp:plain a=true)(hp2:plain b=true)(hg:L2.Gl X "range")(hm:X.mg "range"=none)(h:L2.PE X a (tV X.K X.mg env s o))(h2:∀s1,L2.PE X b (tV X.K X.mg env s1 (f2 s1))) :
 L2.PI X tg (.Call (.Name "range" p) [a,b] [] pos) (tI (K:=X.K) (mg:=X.mg) env s (o.bind fun x s1=>(f2 s1).bind fun y s2=>match x,y with
  |.int i,.int j=>if -(2 ^ 62)≤i∧i<2 ^ 62∧-(2 ^ 62)≤j∧j<2 ^ 62∧j-i≤zU then .ok ⟨yJ i (j-i).toNat,Ab⟩ s2 else .stuck
  |_,_=>.stuck)):=by
 cases o with
 |ok v s1=>
  have h2':=h2 s1
  simp only[zV]
  cases hb:f2 s1 with
  |ok w s2=>
   rw[hb]at h2'
   have st2:AM [b] X.env=[(false,eval b X.env)]:=L2.zm (zZ hp2)
   have st:AM [a,b] X.env=[(false,eval a X.env),(false,eval b X.env)]:=by rw[L2.zm (zZ hp),st2]
   refine v9 (L2.ir hg hm (L2.pac h (L2.pac h2' L2.yn (zZ hp2)) (zZ hp)) st st2) fun σ H R ⟨ρ,hr,er,wt⟩=>⟨ρ,hr,er,fun ρ1 x H1 x1 hr1 r1=>⟨ρ1,hr1,er.mono x1,fun ρ2 y H2 x2 hr2 r2=>?_⟩⟩
   simp only[zV]at wt
   cases r1 with
   |int i=>
    cases r2 with
    |int j=>
     simp only at wt
     by_cases hz:-(2 ^ 62)≤i∧i<2 ^ 62∧-(2 ^ 62)≤j∧j<2 ^ 62∧j-i≤zU
     . rw[if_pos hz]at wt
       exact⟨i,j,rfl,⟨hz.1,hz.2.1,hz.2.2.1,hz.2.2.2.1⟩,wt ρ2 H2 _ (x1.trans hr1 x2) hr2 (mU (by omega))⟩
     . rw[if_neg hz]at wt;exact wt.elim
    |_=>exact wt.elim
   |_=>exact wt.elim
  |exc _ _ _=>exact yM (zF rfl)
  |stuck=>exact yM (zF rfl)
 |exc _ _ _=>exact yM (zF rfl)
 |stuck=>exact yM (zF rfl)
theorem aP{es:List Expr}{k:Nat}{o:Out Val}{p pos tp:Pos}(hp:plain a=true)(hg:L2.Gl X "enumerate")(hm:X.mg "enumerate"=none)(h:L2.PE X a (tV X.K X.mg env s o)) :
 L2.PI X (.Tuple es k tp) (.Call (.Name "enumerate" p) [a] [] pos) (tI (K:=X.K) (mg:=X.mg) env s (o.bind fun v s1=>match v with
  |.tup vs=>.ok ⟨zr 0 vs,Ab⟩ s1
  |.lst vs=>.ok ⟨zr 0 vs,Ab⟩ s1
  |_=>.stuck)):=by
 cases o with
 |ok v s1=>
  have st:AM [a] X.env=[(false,eval a X.env)]:=L2.zm (zZ hp)
  refine v9 (ud (L2.ZE hg hm (L2.pac h L2.yn (zZ hp)) st)) fun σ H R ⟨ρ,hr,er,w⟩=>⟨ρ,hr,er,fun ρ1 x H1 x1 hr1 r1=>?_⟩
  cases r1 with
  |tup n e q=>exact⟨_,rfl,.inl ⟨⟨_,.of e⟩,fun z=>w ρ1 H1 _ x1 hr1 (gF (z.of q (.inl e)) n e q)⟩⟩
  |lst n e q=>exact⟨_,rfl,.inr ⟨⟨_,.of e⟩,fun z=>w ρ1 H1 _ x1 hr1 (kJ (z.of q (.inr e)) n e q)⟩⟩
  |_=>exact w.elim
 |exc _ _ _=>exact yM (zF rfl)
 |stuck=>exact yM (zF rfl)
end
end M
end
section
namespace M
open PySem
def qG(K:KF)(mg:Str→Option Value)(t:Tgt)(g:L2.TG):Prop:=∀(ρ:Own) (s:Sto) (H:L2.Hp) (v:Val) (x:L2.V) (env env':Env) (σ:L2.St) (Q:L2.St→L2.Hp→Prop),HR K mg ρ s H→RD K mg ρ H v x→ER K mg ρ H env σ→yi t v env=some env' →
 (∀σ',ER K mg ρ H env' σ'→Q σ' H)→g x σ H Q
theorem oo{K:KF}{mg:Str→Option Value}{i:Nat}:qG K mg (.nm i) (L2.xl i):=fun ρ s H v x env env' σ Q hr r er e q=>by
 cases e
 exact q _ (er.set i r)
noncomputable def pZ:List Nat→L2.TGs
 |[]=>L2.VV
 |i::is=>L2.Zx (L2.xl i) (pZ is)
theorem qu{K:KF}{mg:Str→Option Value}{ρ:Own}{H:L2.Hp}{Q:L2.St→L2.Hp→Prop}:∀{is:List Nat} {vs:List Val} {xs:List L2.V} {env:Env} {σ:L2.St},RDs K mg ρ H vs xs→ER K mg ρ H env σ→vs.length=is.length →
 (∀σ',ER K mg ρ H ((is.zip vs).foldl (fun e p=>e.set p.1 (some p.2)) env) σ'→Q σ' H)→pZ is xs σ H Q
 |[],[],_,env,σ,.nil,er,_,q=>⟨rfl,q σ er⟩
 |[],_::_,_,_,_,_,_,h,_=>by cases h
 |_::_,[],_,_,_,_,_,h,_=>by cases h
 |i::is,v::vs,x::xs,env,σ,.cons r rs,er,h,q=>⟨x,xs,rfl,qu rs (er.set i r) (by simpa using h) q⟩
theorem uo{K:KF}{mg:Str→Option Value}{is:List Nat}:qG K mg (.nms is) (L2.VX K is.length (pZ is)):=fun ρ s H v x env env' σ Q hr r er e q=>by
 simp only[yi]at e
 split at e
 . split at e
   . rename_i hl
     cases e
     cases r with
     |tup n e q2=>exact⟨_,_,rfl,.of e,by rw[←q2.length];exact hl,qu q2 er hl q⟩
   . cases e
 . cases e
noncomputable def yC(sc:Scope)(N:List Str):List Nat→List Expr→Bool
 |[],[]=>true
 |i::is,.Name x _::es=>decide (N[i]?=some x)&&(decide (sc.names.lookup x=some .local)||decide (sc.names.lookup x=some .cell))&&yC sc N is es
 |_,_=>false
noncomputable def ckT(sc:Scope)(N:List Str):Tgt→Expr→Bool
 |.nm i,.Name x _=>decide (N[i]?=some x)&&(decide (sc.names.lookup x=some .local)||decide (sc.names.lookup x=some .cell))
 |.nms is,.Tuple es _ _=>yC sc N is es&&decide (es≠[])
 |_,_=>false
section
variable {X:L2.Cx}
structure Scp(sc:Scope)(N:List Str)(X:L2.Cx):Prop where
 hN:X.N=N
 nd:N.Nodup
 vis:∀x,sc.names.lookup x=some .local∨sc.names.lookup x=some .cell∨sc.names.lookup x=some .free→L2.Vis X.env.scope x
 loc:∀x,sc.names.lookup x=some .local∨sc.names.lookup x=some .cell→L2.Loc X.env.scope x∧(X.fn x=true∨X.env.scope.names.lookup x=some .local)
 gl:∀x,sc.names.lookup x=some .globalImplicit→L2.Gl X x
 cf:∀x,sc.names.lookup x=some .cell∨sc.names.lookup x=some .free→X.env.kindOf x=some .cell∨X.env.kindOf x=some .free
theorem jH{sc:Scope}{N:List Str}(S:Scp sc N X){i:Nat}{x:Str}{p:Pos}(h1:N[i]?=some x)(h2:sc.names.lookup x=some .local∨sc.names.lookup x=some .cell):L2.PG X (.Name x p) (L2.xl i):=by
 obtain⟨a,b⟩:=S.loc x h2
 exact L2.ZC (by rw[S.hN];exact S.nd) (by rw[S.hN];exact h1) a b
theorem wa{sc:Scope}{N:List Str}(S:Scp sc N X):∀{is:List Nat} {es:List Expr},yC sc N is es=true→L2.PGs X es (pZ is)∧(CT es X.env).length=is.length∧(CT es X.env).findIdx? (·.1)=none
 |[],[],_=>⟨L2.ZD,rfl,rfl⟩
 |[],_::_,h=>by cases h
 |_::_,[],h=>by cases h
 |i::is,e::es,h=>by
  cases e with
  |Name x p=>
   simp only[yC,Aa,AO,decide_eq_true_eq]at h
   obtain⟨a,b,c⟩:=wa S h.2
   refine⟨L2.dg (jH S h.1.1 h.1.2) a,?_,?_⟩
   . show (CT es X.env).length+1=is.length+1
     rw[b]
   . show List.findIdx? (·.1) ((false,assign (.Name x p) X.env)::CT es X.env)=none
     rw[List.findIdx?_cons]
     simp only[AV,if_false]
     rw[c];rfl
  |_=>cases h
theorem UX{sc:Scope}{N:List Str}(S:Scp sc N X)(hc:X.calm=true){t:Tgt}{e:Expr}(h:ckT sc N t e=true):∃g,L2.PG X e g∧qG X.K X.mg t g:=by
 cases t with
 |nm i=>
  cases e with
  |Name x p=>
   simp only[ckT,Aa,AO,decide_eq_true_eq]at h
   exact⟨_,jH S h.1 h.2,oo⟩
  |_=>cases h
 |nms is=>
  cases e with
  |Tuple es k p=>
   simp only[ckT,Aa,decide_eq_true_eq]at h
   obtain⟨a,b,c⟩:=wa S h.1
   exact⟨_,L2.oP hc a b c,uo⟩
  |_=>cases h
end
structure Lp(acc:Addr)(ρ:Own)(H:L2.Hp)(ρ':Own)(H':L2.Hp):Prop where
 pre:∃new:List Addr,ρ'.o=ρ.o++new∧∀a∈new,H a=none
 hid:ρ'.h=acc::ρ.h
 keep:∀(a:Addr) (o:L2.HO),H a=some o→a ∉ ρ.o→H' a=some o
 kd:∀a∈ρ.o,hk (H' a)=hk (H a)
section
variable {K:KF}{mg:Str→Option Value}{ρ ρ1 ρ2:Own}{H H1 H2:L2.Hp}{s s1:Sto}{acc:Addr}
noncomputable def Own.hide(ρ:Own)(acc:Addr):Own:=⟨ρ.o,acc::ρ.h⟩
theorem pj(hr:HR K mg ρ s H)(hn:H acc=none)(o:L2.HO):Mv ρ H (ρ.hide acc) (L2.upd H acc o):=
 ⟨fun a u e n=>⟨by rw[L2.zI (L2.zR e hn)];exact e,n.1,fun hm=>by
  rcases Ak.mp hm with z|z
  . exact L2.zR e hn z
  . exact n.2 z⟩,fun i a e=>e,fun a ha=>by rw[L2.zI fun z=>(hr.new hn).1 (by rw[←z];exact ha)]⟩
theorem HR.hide(hr:HR K mg ρ s H)(hn:H acc=none){xs:List L2.V}:HR K mg (ρ.hide acc) s (L2.upd H acc (.lst xs)):=by
 refine⟨hr.len,hr.nd,fun i c e=>?_,fun a ha=>?_⟩
 . obtain⟨a,e1,q⟩:=hr.cel i c e
   obtain⟨o,e2⟩:=q.there
   exact⟨a,e1,q.mv (pj hr hn _) (L2.zI (L2.zR e2 hn))⟩
 . rcases Ak.mp ha with z|z
   . subst z;exact⟨⟨xs,L2.zN⟩,(hr.new hn).1⟩
   . obtain⟨⟨ys,e⟩,n⟩:=hr.hid a z
     exact⟨⟨ys,by rw[L2.zI (L2.zR e hn)];exact e⟩,n⟩
theorem Lp.start(hr:HR K mg ρ s H)(hn:H acc=none)(o:L2.HO):Lp acc ρ H (ρ.hide acc) (L2.upd H acc o):=
 ⟨⟨[],by simp[Own.hide],fun a ha=>by cases ha⟩,rfl,fun a u e _=>by rw[L2.zI (L2.zR e hn)];exact e,(pj hr hn o).kd⟩
theorem Lp.step(l:Lp acc ρ H ρ1 H1)(hr:HR K mg ρ1 s1 H1)(x:Ext ρ1 H1 ρ2 H2):Lp acc ρ H ρ2 H2:=by
 obtain⟨new,e1,hn⟩:=l.pre
 obtain⟨new2,e2,hn2⟩:=x.pre
 refine⟨⟨new++new2,by rw[e2,e1,Bi],fun a ha=>?_⟩,x.hid.trans l.hid,fun a o e n=>x.keep a o (l.keep a o e n) ?_,fun a ha=>(x.kd a (by rw[e1];exact Bc _ ha)).trans (l.kd a ha)⟩
 . rcases AN.mp ha with ha|ha
   . exact hn a ha
   . cases q:H a with
     |none=>rfl
     |some o=>
      by_cases hm:a∈ρ.o
      . obtain⟨xs,e⟩:=hr.trk (a:=a) (by rw[e1];exact Bc _ hm)
        rw[hn2 a ha]at e;cases e
      . have:=l.keep a o q hm
        rw[hn2 a ha]at this;cases this
 . rw[e1]
   intro hm
   rcases AN.mp hm with hm|hm
   . exact n hm
   . rw[hn a hm]at e;cases e
theorem Lp.emit(l:Lp acc ρ H ρ1 H1)(hr:HR K mg ρ1 s1 H1)(hn:H acc=none)(o:L2.HO):Lp acc ρ H ρ1 (L2.upd H1 acc o):=
 ⟨l.pre,l.hid,fun a u e n=>by rw[L2.zI (L2.zR e hn)];exact l.keep a u e n,fun a ha=>by
  obtain⟨new,e1,_⟩:=l.pre
  rw[L2.zI fun z=>(hr.hid acc (by rw[l.hid];exact Av)).2 (by rw[←z,e1];exact Bc _ ha)]
  exact l.kd a ha⟩
theorem Lp.here(l:Lp acc ρ H ρ1 H1):acc∈ρ1.h:=by rw[l.hid];exact Av
theorem kg(hr:HR K mg ρ1 s1 H1)(ha:acc∈ρ1.h)(o:L2.HO):Mv ρ1 H1 ρ1 (L2.upd H1 acc o):=
 ⟨fun a u e n=>⟨by rw[L2.zI (fun z=>n.2 (by rw[z];exact ha))];exact e,n⟩,fun i a e=>e,fun a h=>by rw[L2.zI fun z=>(hr.hid acc ha).2 (by rw[←z];exact h)]⟩
theorem HR.emit(hr:HR K mg ρ1 s1 H1)(ha:acc∈ρ1.h){xs:List L2.V}:HR K mg ρ1 s1 (L2.upd H1 acc (.lst xs)):=by
 have hno:=(hr.hid acc ha).2
 refine⟨hr.len,hr.nd,fun i c e=>?_,fun a hm=>?_⟩
 . obtain⟨a,e1,q⟩:=hr.cel i c e
   exact⟨a,e1,q.mv (kg hr ha _) (L2.zI (fun z=>hno (by rw[←z];exact AS e1)))⟩
 . obtain⟨⟨ys,e⟩,n⟩:=hr.hid a hm
   by_cases z:a=acc
   . subst z;exact⟨⟨xs,L2.zN⟩,n⟩
   . exact⟨⟨ys,by rw[L2.zI z];exact e⟩,n⟩
theorem Lp.done(l:Lp acc ρ H ρ1 H1)(h0:HR K mg ρ s H)(hn:H acc=none)(hr:HR K mg ρ1 s1 H1){vs:List Val}{ys:List L2.V}(e:H1 acc=some (.lst ys))(q:RDs K mg ρ1 H1 vs ys){m:Bool}{Q:L2.VK}(w:yg K mg (RD K mg) ρ H (newList m vs s1) Q):Q (.ref acc) H1:=by
 have ha:=l.here
 have hacc:=(hr.hid acc ha).2
 have hnh:=(h0.new hn).2
 cases m with
 |false=>
  have mv:Mv ρ1 H1 ⟨ρ1.o,ρ.h⟩ H1:=⟨fun a u e n=>⟨e,n.1,fun z=>n.2 (by rw[l.hid];exact Ao _ z)⟩,fun i a e=>e,fun _ _=>rfl⟩
  refine w ⟨ρ1.o,ρ.h⟩ _ H1 ⟨l.pre,rfl,l.keep,l.kd⟩ ⟨hr.len,hr.nd,fun i ws e=>?_,fun a hm=>?_⟩ (.lst ⟨hacc,hnh⟩ e (RDs.mv mv q))
  . obtain⟨a,e1,t⟩:=hr.cel i ws e
    exact⟨a,e1,t.mv mv rfl⟩
  . exact hr.hid a (by rw[l.hid];exact Ao _ hm)
 |true=>
  have mv:Mv ρ1 H1 ⟨ρ1.o++[acc],ρ.h⟩ H1:=by
   refine⟨fun a u e n=>⟨e,fun hm=>?_,fun z=>n.2 (by rw[l.hid];exact Ao _ z)⟩,fun i a e=>?_,fun _ _=>rfl⟩
   . rcases AN.mp hm with hm|hm
     . exact n.1 hm
     . rw[Aq.mp hm]at n;exact n.2 ha
   . show (ρ1.o++[acc])[i]?=_
     rw[Ba (As.mp e).1];exact e
  have rf:(ρ1.o++[acc])[s1.length]?=some acc:=by rw[←hr.len,BM (Ag _)];simp
  refine w ⟨ρ1.o++[acc],ρ.h⟩ _ H1 ⟨?_,rfl,l.keep,l.kd⟩ ⟨?_,?_,fun i ws q'=>?_,fun a hm=>?_⟩ (.ref rf (by rw[e];rfl))
  . obtain⟨new,e1,hnew⟩:=l.pre
    refine⟨new++[acc],by show ρ1.o++[acc]=_;rw[e1,Bi],fun a hm=>?_⟩
    rcases AN.mp hm with hm|hm
    . exact hnew a hm
    . rw[Aq.mp hm];exact hn
  . show (ρ1.o++[acc]).length=(s1++[Cel.lst vs]).length
    rw[Ap,Ap,hr.len];rfl
  . show (ρ1.o++[acc]).Nodup
    rw[FP]
    exact⟨hr.nd,by simp,fun a ha' b hb=>by rw[Aq.mp hb];intro z;subst z;exact hacc ha'⟩
  . by_cases hi:i<s1.length
    . rw[Ba hi]at q'
      obtain⟨a,e1,t⟩:=hr.cel i ws q'
      exact⟨a,mv.get i a e1,t.mv mv rfl⟩
    . have hi':i=s1.length:=by
       have:=(As.mp q').1
       rw[Ap]at this
       simp at this;omega
      subst hi'
      rw[BM (Ag _)]at q'
      simp at q'
      subst q'
      exact⟨acc,rf,ys,e,RDs.mv mv q⟩
  . obtain⟨x,n⟩:=hr.hid a (by rw[l.hid];exact Ao _ hm)
    refine⟨x,fun z=>?_⟩
    rcases AN.mp z with z|z
    . exact n z
    . rw[Aq.mp z]at hm;exact hnh hm
end
end M
end
section
namespace M
open PySem
section
variable {K:KF}{mg:Str→Option Value}
theorem nN{J:L2.It}{g:L2.TG}{tb:L2.TS}{D:L2.Ends}{σ:L2.St}{H:L2.Hp}{n:Nat}(Pv:Nat→L2.St→L2.Hp→Prop)(h0:Pv 0 σ H)(hd:∀σ H,Pv n σ H→J.stop n H∧D.nx σ H)
 (hs:∀i σ H,i<n→Pv i σ H→J.go i H∧∀x H',J.yld i H x H'→g x σ H' fun σ2 H2=>tb {D with nx:=Pv (i+1),ct:=Pv (i+1),bk:=D.nx} σ2 H2):L2.mC J g tb D σ H:=by
 refine⟨fun i m σ H=>m=n-i∧i≤n∧Pv i σ H,⟨n,by simp,A8 _,h0⟩,?_⟩
 rintro i m σ H ⟨rfl,hi,p⟩
 by_cases hlt:i<n
 . obtain⟨a,b⟩:=hs i σ H hlt p
   exact .inr ⟨a,Pv (i+1),fun σ' H' p'=>⟨n-(i+1),by omega,rfl,hlt,p'⟩,b⟩
 . have e:i=n:=by omega
   subst e
   exact .inl (hd σ H p)
structure CS(K:KF)(mg:Str→Option Value)(acc:Addr)(ρ0:Own)(H0:L2.Hp)(a:List Val)(s:Sto)(env:Env)(ρ:Own)(σ:L2.St)(H:L2.Hp):Prop where
 lp:Lp acc ρ0 H0 ρ H
 hr:HR K mg ρ s H
 er:ER K mg ρ H env σ
 ac:∃ys,H acc=some (.lst ys)∧RDs K mg ρ H a ys
def Grows(body:Env→Sto→List Val→Out (List Val × Env)):Prop:=∀e s a p s',body e s a=.ok p s'→a.length≤p.1.length
theorem tZ{r:Src}{t:Tgt}{body:Env→Sto→List Val→Out (List Val × Env)}(hb:Grows body):∀{xs:List Val} {env:Env} {s:Sto} {a:List Val} {p:List Val × Env} {s':Sto},yb r t body xs env s a=.ok p s'→a.length≤p.1.length
 |[],env,s,a,p,s',h=>by
  rw[yb]at h
  split at h
  . cases h;exact Ag _
  . cases h
 |x::xs,env,s,a,p,s',h=>by
  rw[yb]at h
  split at h
  . split at h
    . cases h
    . rename_i env' he
      cases hc:body env' s a with
      |ok q s1=>
       rw[hc]at h
       exact Ax (hb _ _ _ _ _ hc) (tZ hb h)
      |exc _ _ _=>rw[hc]at h;cases h
      |stuck=>rw[hc]at h;cases h
  . cases h
def BodyOk(K:KF)(mg:Str→Option Value)(acc:Addr)(ρ0:Own)(H0:L2.Hp)(body:Env→Sto→List Val→Out (List Val × Env))(tb:L2.TS):Prop:=
 ∀(ρ:Own) (s:Sto) (H:L2.Hp) (env:Env) (σ:L2.St) (a:List Val) (p:List Val × Env) (s':Sto) (D:L2.Ends),CS K mg acc ρ0 H0 a s env ρ σ H→body env s a=.ok p s'→p.1.length≤zU →
  (∀ρ' H' σ',CS K mg acc ρ0 H0 p.1 s' p.2 ρ' σ' H'→Mv ρ H ρ' H'→D.nx σ' H')→tb D σ H
theorem u0{acc:Addr}{ρ0:Own}{H0:L2.Hp}{r:Src}{J:L2.It}{t:Tgt}{g:L2.TG}{body:Env→Sto→List Val→Out (List Val × Env)}{tb:L2.TS}{D:L2.Ends}{ρ:Own}{s:Sto}{H:L2.Hp}{env:Env}{σ:L2.St}{a:List Val}
 {p:List Val × Env} {sf:Sto} (W:Walk K mg ρ H r J) (TG:qG K mg t g) (hg:Grows body) (hb:BodyOk K mg acc ρ0 H0 body tb)
 (C:CS K mg acc ρ0 H0 a s env ρ σ H) (h:yb r t body r.xs env s a=.ok p sf) (hz:p.1.length≤zU) (fin:∀ρ' H' σ',CS K mg acc ρ0 H0 p.1 sf p.2 ρ' σ' H'→Mv ρ H ρ' H'→D.nx σ' H'):L2.mC J g tb D σ H:=by
 refine nN (n:=r.xs.length) (fun i σ2 H2=>∃ρ2 s2 env2 a2,CS K mg acc ρ0 H0 a2 s2 env2 ρ2 σ2 H2∧Mv ρ H ρ2 H2∧yb r t body (r.xs.drop i) env2 s2 a2=.ok p sf) ⟨ρ,s,env,a,C,Mv.refl,by rw[Dk];exact h⟩ ?_ ?_
 . rintro σ2 H2 ⟨ρ2,s2,env2,a2,C2,mv,h2⟩
   rw[List.drop_length,yb]at h2
   split at h2
   . rename_i ho
     cases h2
     exact⟨W.stop ρ2 H2 _ _ mv C2.hr ho rfl,fin ρ2 H2 σ2 C2 mv⟩
   . cases h2
 . rintro i σ2 H2 hi ⟨ρ2,s2,env2,a2,C2,mv,h2⟩
   rw[BQ hi,yb]at h2
   split at h2
   . rename_i ho
     obtain⟨hgo,hy⟩:=W.go ρ2 H2 s2 i (r.xs[i]) mv C2.hr ho (Ae hi)
     refine⟨hgo,fun x H3 y=>?_⟩
     obtain⟨hH,rx⟩:=hy x H3 y
     split at h2
     . cases h2
     . rename_i env' he
       -- the item is there: perhaps a new thing
       have C3:CS K mg acc ρ0 H0 a2 s2 env2 ρ2 σ2 H3∧Mv ρ2 H2 ρ2 H3:=by
        rcases hH with e|⟨q,o,hq,e⟩
        . subst e;exact⟨C2,Mv.refl⟩
        . subst e
          have X:=Ext.new C2.hr hq o
          refine⟨⟨C2.lp.step C2.hr X,C2.hr.more hq o,C2.er.mono X,?_⟩,X.mv⟩
          obtain⟨ys,e1,e2⟩:=C2.ac
          exact⟨ys,by rw[L2.zI (L2.zR e1 hq)];exact e1,e2.mono X⟩
       refine TG ρ2 s2 H3 _ x env2 env' σ2 _ C3.1.hr rx C3.1.er he fun σ4 er4=>?_
       cases hc:body env' s2 a2 with
       |ok q s5=>
        rw[hc]at h2
        have hlen:q.1.length≤zU:=Ax (tZ hg h2) hz
        exact hb ρ2 s2 H3 env' σ4 a2 q s5 _ ⟨C3.1.lp,C3.1.hr,er4,C3.1.ac⟩ hc hlen fun ρ5 H5 σ5 C5 mv5=>⟨ρ5,s5,q.2,q.1,C5,(mv.trans C3.2).trans mv5,h2⟩
       |exc _ _ _=>rw[hc]at h2;cases h2
       |stuck=>rw[hc]at h2;cases h2
   . cases h2
end
section
variable (K:KF)(mg:Str→Option Value)(Φ:Calls)(G:Str→Option Val)
noncomputable def uE(e:Ex):L2.TE:=fun σ H Q=>∃env s,tV K mg env s (evE Φ G env e s) σ H Q
noncomputable def uT(e:Cn):L2.TT:=fun σ H Q=>∃env s,tT K mg env s (evT Φ G env e s) σ H Q
noncomputable def uI(it:Itb):L2.TI:=fun σ H R=>∃env s,tI (K:=K) (mg:=mg) env s (yv Φ G env it s) σ H R
noncomputable def uTs:Cns→List L2.TT
 |.nil=>[]
 |.cons e es=>uT K mg Φ G e::uTs es
end
section
variable {K:KF}{mg:Str→Option Value}{Φ:Calls}{G:Str→Option Val}
theorem UT{X:L2.Cx}{e:Ex}{E:Expr}(h:∀env s,L2.PE X E (tV X.K X.mg env s (evE Φ G env e s))):L2.PE X E (uE X.K X.mg Φ G e):=fun pins s σ H Q I ⟨env,t,q⟩=>h env t pins s σ H Q I q
theorem Tn{X:L2.Cx}{e:Cn}{E:Expr}(h:∀env s,L2.PT X E (tT X.K X.mg env s (evT Φ G env e s))):L2.PT X E (uT X.K X.mg Φ G e):=fun pins s σ H Q I ⟨env,t,q⟩=>h env t pins s σ H Q I q
theorem Wb{X:L2.Cx}{it:Itb}{tg E:Expr}(h:∀env s,L2.PI X tg E (tI (K:=X.K) (mg:=X.mg) env s (yv Φ G env it s))):L2.PI X tg E (uI X.K X.mg Φ G it):=fun pins s σ H Q I ⟨env,t,q⟩=>h env t pins s σ H Q I q
theorem mR{s2:Sto}{env:Env}{σ:L2.St}{b:Bool}{Q:Bool→L2.Hp→Prop}:∀{es:Cns} {ρ:Own} {s:Sto} {H:L2.Hp},HR K mg ρ s H→ER K mg ρ H env σ→x9 Φ G env es s=.ok b s2 →
 (∀ρ' H',Ext ρ H ρ' H'→HR K mg ρ' s2 H'→Q b H')→L2.om (uTs K mg Φ G es) σ H Q
 |.nil,ρ,s,H,hr,er,h,q=>by
  rw[x9]at h;cases h
  exact q ρ H Ext.refl hr
 |.cons e es,ρ,s,H,hr,er,h,q=>by
  rw[x9]at h
  refine⟨env,s,ρ,hr,er,?_⟩
  cases hc:evT Φ G env e s with
  |ok c s1=>
   rw[hc]at h
   intro ρ1 c' H1 x1 hr1 e1
   cases e1
   cases c with
   |true=>exact L2.oC (mR hr1 (er.mono x1) h fun ρ' H' x' hr'=>q ρ' H' (x1.trans hr1 x') hr')
   |false=>
    simp only[zV]at h
    cases h
    exact L2.sD (q ρ1 H1 x1 hr1)
  |exc _ _ _=>rw[hc]at h;cases h
  |stuck=>rw[hc]at h;cases h
noncomputable def ur(Φ:Calls)(G:Str→Option Val)(elt:Ex)(ifs:Cns):Env→Sto→List Val→Out (List Val × Env):=fun e s' acc=>(x9 Φ G e ifs s').bind fun b s2=>if b then (evE Φ G e elt s2).bind fun v s3=>.ok (acc++[v],e) s3 else .ok (acc,e) s2
theorem tu{elt:Ex}{ifs:Cns}:Grows (ur Φ G elt ifs):=by
 intro e s a p s' h
 unfold ur at h
 cases hc:x9 Φ G e ifs s with
 |ok b s1=>
  rw[hc]at h
  cases b with
  |true=>
   simp only[zV,if_true]at h
   cases hv:evE Φ G e elt s1 with
   |ok v s2=>rw[hv]at h;cases h;simp
   |exc _ _ _=>rw[hv]at h;cases h
   |stuck=>rw[hv]at h;cases h
  |false=>simp only[zV]at h;cases h;exact Ag _
 |exc _ _ _=>rw[hc]at h;cases h
 |stuck=>rw[hc]at h;cases h
theorem mT{acc:Addr}{ρ0:Own}{H0:L2.Hp}(hn:H0 acc=none){elt:Ex}{ifs:Cns}:BodyOk K mg acc ρ0 H0 (ur Φ G elt ifs) (L2.tTB (uTs K mg Φ G ifs) (L2.pC acc (uE K mg Φ G elt))):=by
 intro ρ s H env σ a p s' D C h hz q
 unfold ur at h
 cases hc:x9 Φ G env ifs s with
 |ok b s1=>
  rw[hc]at h
  refine mR (ρ:=ρ) (s:=s) C.hr C.er hc fun ρ1 H1 x1 hr1=>?_
  have hacc1:∃ys,H1 acc=some (.lst ys)∧RDs K mg ρ1 H1 a ys:=by
   obtain⟨ys,e1,e2⟩:=C.ac
   exact⟨ys,x1.keep _ _ e1 (C.hr.hid acc C.lp.here).2,e2.mono x1⟩
  cases b with
  |true=>
   simp only[zV,if_true]at h
   refine L2.oC ⟨env,s1,ρ1,hr1,C.er.mono x1,?_⟩
   cases hv:evE Φ G env elt s1 with
   |ok v s2=>
    rw[hv]at h
    cases h
    intro ρ2 y H2 x2 hr2 r2
    have xx:=x1.trans hr1 x2
    have lp2:=C.lp.step C.hr xx
    obtain⟨ys,e1,e2⟩:=hacc1
    have e3:H2 acc=some (.lst ys):=x2.keep _ _ e1 (hr1.hid acc (C.lp.step C.hr x1).here).2
    have e4:=e2.mono x2
    have hl:ys.length<AB:=by
     have h1:(a++[v]).length≤zU:=hz
     rw[Ap,e2.length,yh]at h1
     simp at h1;omega
    have mv2:=kg (H1:=H2) hr2 lp2.here (.lst (ys++[y]))
    refine⟨ys,e3,hl,q ρ2 _ σ ⟨lp2.emit hr2 hn _,hr2.emit lp2.here,⟨C.er.len,fun i v' e'=>?_⟩,⟨_,L2.zN,RDs.mv mv2 (e4.append (.cons r2 .nil))⟩⟩ (xx.mv.trans mv2)⟩
    obtain⟨u,h1,h2⟩:=(C.er.mono xx).at_ i v' e'
    exact⟨u,h1,RD.mv mv2 h2⟩
   |exc _ _ _=>rw[hv]at h;cases h
   |stuck=>rw[hv]at h;cases h
  |false=>
   simp only[zV]at h
   cases h
   exact L2.sD (q ρ1 H1 σ ⟨C.lp.step C.hr x1,hr1,C.er.mono x1,hacc1⟩ x1.mv)
 |exc _ _ _=>rw[hc]at h;cases h
 |stuck=>rw[hc]at h;cases h
theorem hJ{ρ:Own}{H:L2.Hp}{env:Env}{σ:L2.St}(er:ER K mg ρ H env σ)(fr:List (Option Nat)):ER K mg ρ H (zT fr env) (L2.zT fr σ):=by
 refine⟨by unfold zT L2.zT;rw[Ai,Ai],fun i v e=>?_⟩
 unfold zT at e
 unfold L2.zT
 rw[AQ]at e ⊢
 cases hf:fr[i]? with
 |none=>rw[hf]at e;cases e
 |some o=>
  rw[hf]at e
  cases o with
  |none=>cases e
  |some j=>
   have e':(env[j]?).join=some v:=AF e
   have e2:env[j]?=some (some v):=by
    cases h1:env[j]? with
    |none=>rw[h1]at e';cases e'
    |some w=>rw[h1]at e';have:w=some v:=e';rw[this]
   obtain⟨x,h1,h2⟩:=er.at_ j v e2
   refine⟨x,?_,h2⟩
   show some ((σ[j]?).join)=_
   rw[h1];rfl
theorem qi{fr:List (Option Nat)}{it:Itb}{t:Tgt}{g:L2.TG}{ts:List L2.TT}{tb:Addr→L2.TB}{body:Env→Sto→List Val→Out (List Val × Env)}{m:Bool}{env:Env}{s:Sto}(TG:qG K mg t g)(hg:Grows body)
 (hb:∀acc ρ0 H0,H0 acc=none→BodyOk K mg acc ρ0 H0 body (L2.tTB ts (tb acc))) {σ:L2.St} {H:L2.Hp} {Q:L2.VK} {chk:Bool}
 (h:tV K mg env s ((yv Φ G env it s).bind fun r s1=>(yb r t body r.xs (zT fr env) s1 []).bind fun p s2=>if chk=true→p.1.length≤zU then newList m p.1 s2 else .stuck) σ H Q)
 (hlen:chk=false→∀r s1 p s2,yb r t body r.xs (zT fr env) s1 []=.ok p s2→p.1.length≤r.xs.length):L2.tj fr (uI K mg Φ G it) g ts tb σ H Q:=by
 obtain⟨ρ,hr,er,w⟩:=h
 refine⟨env,s,ρ,hr,er,?_⟩
 cases hi:yv Φ G env it s with
 |ok r s1=>
  rw[hi]at w
  simp only[zV]at w
  intro ρ1 H1 J x1 hr1 W acc hacc
  cases hl:yb r t body r.xs (zT fr env) s1 [] with
  |ok p s2=>
   rw[hl]at w
   simp only[zV]at w
   have hz:p.1.length≤zU∧yg K mg (RD K mg) ρ H (newList m p.1 s2) Q:=by
    by_cases hc:chk=true→p.1.length≤zU
    . rw[if_pos hc]at w
      refine⟨?_,w⟩
      cases chk with
      |true=>exact hc rfl
      |false=>exact Ax (hlen rfl r s1 p s2 hl) W.len
    . rw[if_neg hc]at w;exact w.elim
   have mv:=pj (ρ:=ρ1) hr1 hacc (.lst [])
   have ers:=hJ (er.mono x1) fr
   refine u0 (ρ0:=ρ1) (H0:=H1) (W.mv mv) TG hg (hb acc ρ1 H1 hacc) ⟨Lp.start hr1 hacc _,hr1.hide hacc,⟨ers.len,fun i v e=>?_⟩,⟨[],L2.zN,.nil⟩⟩ hl hz.1 fun ρ3 H3 σ3 C3 _=>?_
   . obtain⟨x,h1,h2⟩:=ers.at_ i v e
     exact⟨x,h1,RD.mv mv h2⟩
   . obtain⟨ys,e1,e2⟩:=C3.ac
     exact C3.lp.done hr1 hacc C3.hr e1 e2 (hz.2.mono x1 hr1)
  |exc _ _ _=>rw[hl]at w;exact w.elim
  |stuck=>rw[hl]at w;exact w.elim
 |exc _ _ _=>rw[hi]at w;exact w.elim
 |stuck=>rw[hi]at w;exact w.elim
theorem tQ{r:Src}{t:Tgt}{elt:Ex}{ifs:Cns}:∀{xs:List Val} {env:Env} {s:Sto} {a:List Val} {p:List Val × Env} {s':Sto},yb r t (ur Φ G elt ifs) xs env s a=.ok p s'→p.1.length≤a.length+xs.length
 |[],env,s,a,p,s',h=>by
  rw[yb]at h
  split at h
  . cases h;exact Ag _
  . cases h
 |x::xs,env,s,a,p,s',h=>by
  rw[yb]at h
  split at h
  . split at h
    . cases h
    . rename_i env' he
      cases hc:ur Φ G elt ifs env' s a with
      |ok q s1=>
       rw[hc]at h
       have h1:=tQ h
       have h2:q.1.length≤a.length+1:=by
        unfold ur at hc
        cases h3:x9 Φ G env' ifs s with
        |ok b s2=>
         rw[h3]at hc
         cases b with
         |true=>
          simp only[zV,if_true]at hc
          cases h4:evE Φ G env' elt s2 with
          |ok v s3=>rw[h4]at hc;cases hc;simp
          |exc _ _ _=>rw[h4]at hc;cases hc
          |stuck=>rw[h4]at hc;cases hc
         |false=>simp only[zV]at hc;cases hc;exact Dd _
        |exc _ _ _=>rw[h3]at hc;cases hc
        |stuck=>rw[h3]at hc;cases hc
       rw[Ar];omega
      |exc _ _ _=>rw[hc]at h;cases h
      |stuck=>rw[hc]at h;cases h
  . cases h
end
end M
end
section
namespace M
open PySem PySem.W
def qD(K:KF)(mg:Str→Option Value)(ρ:Own)(H:L2.Hp)(x:pP)(E:L2.XK):Prop:=match x with
 |some (c,_,s')=>∀ρ' H',Ext ρ H ρ' H'→HR K mg ρ' s' H'→∀C,mg c=some (.ref C)→E (.ref C) none H'
 |Ab=>False
noncomputable def spX(T:Tbl)(K:KF)(mg:Str→Option Value)(n:Nat)(f:Str)(ver:Nat):L2.Sp:=fun vs H Q E=>∃ρ s args,HR K mg ρ s H∧RDs K mg ρ H args vs∧(yg K mg (RD K mg) ρ H (zE T n f ver args s) Q∨qD K mg ρ H (zq T n f ver args s) E)
structure Sc(T:Tbl)(K:KF)(mg:Str→Option Value):Prop where
 ex:∃(kx:Str) (cs ws:List Str) (pre:Option Str) (hue:Addr),mg "HueError"=some (.ref hue)∧L2.pN K mg kx cs ws pre∧(∀b,T.md b=true→∃f,L2.gP K mg b kx f) ∧
  (∀c w,T.xc.lookup c=some w→∃(C:Addr) (i:Nat) (x:Str),mg c=some (.ref C)∧(∃Kc,L2.qF Kc K∧exmOne Kc (.ref C) (.ref hue)=some true)∧L2.Named K mg cs C c∧cs[i]?=some c∧ws[i]?=some x∧w=L2.ans pre x∧w≠"great") ∧
  ∀c w,T.xc.lookup c=some w→∀base,K.In base→∃C,mg c=some (.ref C)∧L2.ClsAt base C (.ref hue::L2.veM)∧L2.ClsAt base hue L2.veM
 bm:∀base,K.In base→L2.Bm base mg
structure Lv(T:Tbl)(P:Program)(w:World)(K:KF)(mg:Str→Option Value)(base:Heap)(n:Nat):Prop where
 ex:∀f v F,T.fn f v=some F→∃fa fd,mg f=some (.ref fa)∧Cu K (.ref fa)=true∧L2.Binds K fd F.ps []∧L2.uw P w K mg base L2.CX0 n fa fd F.ps (spN T K mg n f v)∧L2.uw P w K mg base (L2.CXE P w) n fa fd F.ps (spX T K mg n f v)
structure Sd(T:Tbl)(P:Program)(w:World)(K:KF)(mg:Str→Option Value)(base:Heap)(m:Nat):Prop where
 sc:Sc T K mg
 lv:∀j,j≤m→Lv T P w K mg base j
def Cod(T:Tbl)(X:L2.Cx):Prop:=∃g∈T.tb,∃(fa c:Addr) (o:Obj) (fd:Bx),X.mg g=some (.ref fa)∧X.K.lookup fa=some o∧o.data=.func fd∧fd.code=.ref c∧X.env.code=.ref c∧X.env.qual=g++(".<locals>.":Str)
theorem nO:∀{l:List Str} {s:Sto} {g:Str},yS l s=true→g∈l→∃j:Nat,s[j]?=some (.tb g)
 |[],_,_,_,h=>by cases h
 |x::r,[],_,h,_=>by cases h
 |x::r,c::s,g,h,hm=>by
  cases c with
  |tb y=>
   rw[yS,Aa,decide_eq_true_eq]at h
   rcases Ak.mp hm with z|z
   . subst z;rw[h.1];exact⟨0,rfl⟩
   . obtain⟨j,e⟩:=nO h.2 z
     exact⟨j+1,e⟩
  |_=>cases h
section
variable {K:KF}{mg:Str→Option Value}{ρ:Own}{H H':L2.Hp}{s:Sto}
theorem HR.Up(h:HR K mg ρ s H)(sm:L2.xf H H'):HR K mg ρ s H'∧Ext ρ H ρ H':=by
 have X:Ext ρ H ρ H':=⟨⟨[],by simp,fun a ha=>by cases ha⟩,rfl,fun a o e _=>sm a o e,fun a ha=>by
  obtain⟨o,e⟩:=h.trk ha
  rw[e,sm a o e]⟩
 refine⟨⟨h.len,h.nd,fun i c e=>?_,fun a ha=>?_⟩,X⟩
 . obtain⟨a,e1,r⟩:=h.cel i c e
   obtain⟨o,e2⟩:=r.there
   exact⟨a,e1,r.mv X.mv (by rw[e2,sm a o e2])⟩
 . obtain⟨⟨xs,e⟩,n⟩:=h.hid a ha
   exact⟨⟨xs,sm _ _ e⟩,n⟩
theorem pE{l:List Value}(h:DU l):l=[]∨∃(i j:Int) (t u:Tok) (c:Value) (r:List Value),l=.int i t::.int j u::c::r∧DU r:=by
 unfold DU at h
 split at h
 . exact .inl rfl
 . exact .inr ⟨_,_,_,_,_,_,rfl,h⟩
 . exact h.elim
theorem pD{i j:Int}{t u:Tok}{c:Value}:∀(n:Nat) {l:List Value},l.length≤n→DU l→DU (l++[.int i t,.int j u,c])
 |n,l,hl,h=>by
  rcases pE h with rfl|⟨i',j',t',u',c',r,rfl,h'⟩
  . exact Bg
  . cases n with
    |zero=>cases hl
    |succ n=>exact pD n (l:=r) (by simp only[Ar]at hl;omega) h'
theorem si{pos:Pos}{c cv:Value}{i j:Int}{t u:Tok}:∀(n:Nat) {l:List Value},l.length≤n→DU l→DT pos (l++[.int i t,.int j u,c])=some cv→DT pos l=some cv∨cv=c
 |n,l,hl,h,e=>by
  rcases pE h with rfl|⟨i',j',t',u',c',r,rfl,h'⟩
  . have e':(if i == pos.line&&j == pos.col then some c else none)=some cv:=e
    split at e'
    . cases e';exact .inr rfl
    . cases e'
  . have e':(if i' == pos.line&&j' == pos.col then some c' else DT pos (r++[.int i t,.int j u,c]))=some cv:=e
    show (if i' == pos.line&&j' == pos.col then some c' else DT pos r)=some cv∨_
    cases n with
    |zero=>cases hl
    |succ n=>
     split at e'
     . rename_i z;rw[if_pos z];exact .inl e'
     . rename_i z;rw[if_neg z];exact si n (l:=r) (by simp only[Ar]at hl;omega) h' e'
theorem HR.lam{P c:Addr}{ps:Array Value}{pos:Pos}{g:Str}{j:Nat}(h:HR K mg ρ s H)(hs:s[j]?=some (.tb g))(hj:ρ.o[j]?=some P)(tr:VM K mg ρ H P g)(hP:H P=some (.tbl ps))(l:L2.VG H P ps pos (Xn g) c H'):HR K mg ρ s H'∧Ext ρ H ρ H':=by
 rcases l with rfl|⟨o,vs,t,hf,hc,hd,hv,rfl⟩
 . exact⟨h,Ext.refl⟩
 . obtain⟨ps',e1,tok,among,fn⟩:=tr
   rw[hP]at e1;cases e1
   have hcP:c≠P:=fun z=>by rw[z,hP]at hc;cases hc
   have comm:L2.upd (L2.upd H P (.tbl (ps++#[rawInt pos.line,rawInt pos.col,.ref c]))) c (.frz o (.own 0))=L2.upd (L2.upd H c (.frz o (.own 0))) P (.tbl (ps++#[rawInt pos.line,rawInt pos.col,.ref c])):=by
    funext b
    unfold L2.upd
    by_cases z1:b=c
    . subst z1;rw[if_pos rfl,if_neg hcP,if_pos rfl]
    . rw[if_neg z1]
      by_cases z2:b=P
      . rw[if_pos z2,if_pos z2]
      . rw[if_neg z2,if_neg z2,if_neg z1]
   rw[comm]
   have h1:=h.more hc (.frz o (.own 0))
   have X1:=Ext.new h hc (.frz o (.own 0))
   have hP1:L2.upd H c (.frz o (.own 0)) P=some (.tbl ps):=by rw[L2.zI (Bp hcP)];exact hP
   have kk:hk (some (.tbl (ps++#[rawInt pos.line,rawInt pos.col,.ref c])))=hk (L2.upd H c (.frz o (.own 0)) P):=by rw[hP1];rfl
   have X2:=Ext.tR h1 hj kk
   have hnoc:ρ.no c:=h.new hc
   have kc:∀b u,ρ.no b→H b=some u→L2.upd (L2.upd H c (.frz o (.own 0))) P (.tbl (ps++#[rawInt pos.line,rawInt pos.col,.ref c])) b=some u:=fun b u nb e=>X2.keep b u (X1.keep b u e nb.1) nb.1
   refine⟨?_,X1.trans h1 X2⟩
   have hr:=h1.tR (c:=.tb g) hj kk ⟨_,L2.zN,?_,fun pos' cv hcv=>?_,fn⟩
   . rw[show s.set j (.tb g)=s from ?_]at hr
     . exact hr
     . refine FQ fun i=>?_
       by_cases z:j=i
       . subst z;rw[AR (As.mp hs).1,hs]
       . rw[BJ z]
   . rw[Array.toList_append];exact pD _ (Ag _) tok
   . rw[Array.toList_append]at hcv
     rcases si _ (Ag _) tok hcv with z|z
     . obtain⟨b,ob,vb,tb,q1,q2,q3,q4⟩:=among pos' cv z
       exact⟨b,ob,vb,tb,q1,q2,kc b _ q2 q3,q4⟩
     . exact⟨c,o,vs,t,z,hnoc,X2.keep c _ L2.zN hnoc.1,hd,hv⟩
end
noncomputable def xj(cells:List (Str × Addr)):List (Str × Bl)→List (Str × Addr)→List (Str × Addr)
 |[],acc=>acc
 |(x,k)::r,acc=>xj cells r (if k == .free then (x,(cells.lookup x).getD 0)::acc else acc)
theorem bZ{lsc:Scope}{env:BI}(h:∀x∈lsc.names,x.2=.free→∃c,env.cells.lookup x.1=some c):GO lsc env=pure (xj env.cells lsc.names []):=by
 have key:∀(names:List (Str × Bl)) (acc:List (Str × Addr)),(∀x∈names,x.2=.free→∃c,env.cells.lookup x.1=some c) →
  (forIn names acc fun(x:Str × Bl) (cs:List (Str × Addr))=>(do if x.2 == .free then pure (Cg ((x.1,←cellOf env x.1)::cs)) else pure (Cg cs):Sem (ForInStep (List (Str × Addr)))))=pure (xj env.cells names acc):=by
  intro names
  induction names with
  |nil=>intro acc _;rfl
  |cons p r ih=>
   obtain⟨x,k⟩:=p
   intro acc hh
   rw[EM]
   by_cases hk:k=.free
   . subst hk
     obtain⟨c,hc⟩:=hh (x,.free) (Av ..) rfl
     have e:cellOf env x=pure c:=by unfold cellOf;rw[hc]
     have e2:xj env.cells ((x,.free)::r) acc=xj env.cells r ((x,c)::acc):=by
      show xj env.cells r ((x,(env.cells.lookup x).getD 0)::acc)=_
      rw[hc];rfl
     rw[e2]
     simp only[show ((AH == AH)=true) from rfl,if_true,e,EA]
     exact ih _ fun y hy=>hh y (Ao _ hy)
   . have hb:(k == AH)=false:=by simpa using hk
     have e2:xj env.cells ((x,k)::r) acc=xj env.cells r acc:=by
      show xj env.cells r (if k == .free then _ else acc)=_
      rw[hb];rfl
     rw[e2]
     simp only[hb,AV,if_false,EA]
     exact ih _ fun y hy=>hh y (Ao _ hy)
 unfold GO
 have:=key lsc.names [] h
 simpa using this
theorem qf{cells:List (Str × Addr)}:∀{names:List (Str × Bl)} {acc:List (Str × Addr)} {x:Str} {b:Addr},(x,b)∈xj cells names acc→(x,b)∈acc∨((x,AH)∈names∧b=(cells.lookup x).getD 0)
 |[],_,_,_,h=>.inl h
 |(y,k)::r,acc,x,b,h=>by
  rcases qf (names:=r) h with z|z
  . by_cases hk:k=.free
    . subst hk
      rcases Ak.mp z with z|z
      . cases z;exact .inr ⟨Av ..,rfl⟩
      . exact .inl z
    . have hb:(k == AH)=false:=by simpa using hk
      rw[hb]at z
      exact .inl z
  . exact .inr ⟨Ao _ z.1,z.2⟩
theorem qe{cells:List (Str × Addr)}:∀{names:List (Str × Bl)} {acc:List (Str × Addr)} {x:Str} {b:Addr},(x,b)∈acc→(x,b)∈xj cells names acc
 |[],_,_,_,h=>h
 |(y,k)::r,acc,x,b,h=>qe (names:=r) (by
  split
  . exact Ao _ h
  . exact h)
theorem uz{cells:List (Str × Addr)}:∀{names:List (Str × Bl)} {acc:List (Str × Addr)} {x:Str},(x,AH)∈names→(x,(cells.lookup x).getD 0)∈xj cells names acc
 |(y,k)::r,acc,x,h=>by
  rcases Ak.mp h with z|z
  . cases z;exact qe (names:=r) (Av ..)
  . exact uz (names:=r) z
theorem lookup_mem{α:Type}{l:List (Str × α)}{x:Str}{b:α}(h:(x,b)∈l):∃c,l.lookup x=some c:=by
 cases e:l.lookup x with
 |some c=>exact⟨c,rfl⟩
 |none=>
  rw[Gn]at e
  have:=e _ h
  simp at this
end M
end
section
namespace L2
open PySem PySem.Spec PyProof.Rows
def VH(tabs:List Addr)(H:Hp):Prop:=∀b,H b=none∨(∃o xs,H b=some (.frz o (.lst xs)))∨(b∈tabs∧H b=some (.tbl #[]))
theorem iE{P:Program}{w:World}{K:Af}{mg mb:Str→Option Value}{CX:CXT}{k:Nat}{fa a:Addr}{fd:Bx}{x:Str}{sp:Sp}{s₁:Shared}{vs:List Value}{ns:List Int}{tabs:List Addr}
 (KX:K.In s₁.heap) (hns:s₁.heap.Ns AL mg) (hb:s₁.heap.Ns FR mb) (hbb:∀x:Str,x≠"__name__"→mb x=Ca x) (hlim:s₁.heap.NoLimit) (hg:s₁.gens=#[])
 (ha:s₁.heap.get? a=some {cls:=.type "list",data:=.seq vs.toArray}) (hi:IntsAre vs ns) (hl:ns.length≤AB) (hr:yu k callerA)
 (ht:∀b∈tabs,s₁.heap.get? b=some (E8 #[])∧K.lookup b=none∧GA s₁.heap b)
 (F:∀base:Heap,K.In base→base.Ns AL mg→uw P w K mg base CX k fa fd [x] sp) (hbind:∀(s:Shared) (u:Value),BindsTo s fd ⟨[u],[]⟩ [(x,u)])
 (hsp:∀H:Hp,(∀b∈tabs,H b=some (.tbl #[]))→SqL K H a (ns.map V.int)→sp [.ref a] H (fun v _=>v=.bl true) fun _ _ _=>False)
 (hCX:∀H e s',CX [] H s₁ (fun _ _ _=>False) e s'→False) :
 codeAny (model P w) callerA (.call (.ref fa) ⟨[.ref a],[]⟩) (fun r s'=>r=.ok (.ret (.bool true))∧OldK s₁.heap s'.heap∧s'.os=s₁.os∧AllBare s'.gens) s₁:=by
 have rv:=pH hi
 have lenV:=hi.length
 have nat:a ∉ tabs:=fun z=>by
  have:=(ht a z).1
  rw[ha]at this;cases this
 have core:∀H:Hp,VH tabs H→(∀b∈tabs,H b=some (.tbl #[]))→SqL K H a (ns.map V.int)→HOk P w H s₁.heap→(∀b,H b≠none→b=a∨b∈tabs)→(H a≠none→K.lookup a=none) →
  codeAny (model P w) callerA (.call (.ref fa) ⟨[.ref a],[]⟩) (fun r s'=>r=.ok (.ret (.bool true))∧OldK s₁.heap s'.heap∧s'.os=s₁.os∧AllBare s'.gens) s₁:=by
  intro H hO hT hS hok hA hK
  have sI:∀{b:Addr} {o:Obj},s₁.heap.get? b=some o→H b=none→(ph s₁.heap H).get? b=some o:=fun e n=>fO e n
  have noA:∀{b:Addr} {o:Obj} {es:Array Gq} {ep:Nat},s₁.heap.get? b=some o→o.data=.dict es ep→H b=none:=fun{b o es ep} e d=>by
   cases q:H b with
   |none=>rfl
   |some u=>
    rcases hA b (by rw[q];simp) with e'|e'
    . subst e'
      rw[ha]at e;cases e
      have d':Data.seq vs.toArray _=Data.dict es ep:=d
      cases d'
    . rw[(ht b e').1]at e;cases e
      have d':Gz #[]=Data.dict es ep:=d
      cases d'
  have nsK:∀{b:Addr} {m:Str→Option Value},s₁.heap.Ns b m→(ph s₁.heap H).Ns b m:=fun{b m} ⟨o,es,ep,e,d,r⟩=>⟨o,es,ep,sI e (noA e d),d,r⟩
  have hKb:K.In (ph s₁.heap H):=fun b o e=>sI (KX b o e) (by
   cases q:H b with
   |none=>rfl
   |some u=>
    rcases hA b (by rw[q];simp) with e'|e'
    . subst e'
      rw[hK (by rw[q];simp)]at e;cases e
    . rw[(ht b e').2.1]at e;cases e)
  have hM:Mod K mg (ph s₁.heap H):=⟨hKb,nsK hns,⟨mb,nsK hb,hbb⟩,let ⟨mc,h1,h2⟩:=hlim;⟨mc,nsK h1,h2⟩⟩
  have e0:mZ P w K mg (ph s₁.heap H) callerA [] s₁ H:=⟨rfl,hM,fun b o e=>ah e,ET (jy _ _),trivial,fun b hb=>absurd (show b∈([]:List Addr) from hb) (by simp),hok,.of_eq hg⟩
  refine CG ((F _ hKb (nsK hns)).run callerA [] s₁ H ⟨[.ref a],[]⟩ [.ref a] [.ref a] _ _ hr e0 (hbind s₁ (.ref a)) (.cons rfl .nil) (hsp H hT hS)) fun r s' h=>?_
  cases r with
  |error e=>exact(hCX H e s' h).elim
  |ok fl=>
   cases fl with
   |next=>exact AJ h
   |brk=>exact AJ h
   |cont=>exact AJ h
   |ret u=>
    obtain⟨v,H',os,bare,un,hok',r',q⟩:=h
    have q':v=.bl true:=q
    subst q'
    obtain rfl:u=Cz true:=r'
    have all:∀b o,s₁.heap.get? b=some o→asItWas s₁.heap s'.heap b o:=fun b o e=>by
     cases q:H b with
     |none=>exact .inl (un.keep b o e q (by intro z;exact absurd (show b∈([]:List Addr) from z) (by simp)) (by simp))
     |some u=>
      rcases hO b with z|⟨ob,xs,z⟩|⟨z1,z⟩
      . rw[q]at z;cases z
      . have z2:=un.frzs b ob _ z
        obtain⟨e1,_⟩:=hok b _ z
        obtain⟨e2,_⟩:=hok' b _ z2
        rw[e]at e1;cases e1
        exact .inl e2
      . obtain⟨more,z2⟩:=un.tbls b _ z
        have e2:s'.heap.get? b=some (E8 (#[]++more)):=hok' b _ z2
        obtain⟨t1,_,t3⟩:=ht b z1
        rw[e]at t1;cases t1
        exact .inr (.inl ⟨t3,rfl,#[],more,rfl,e2⟩)
    exact⟨rfl,⟨all,fun b o e=>by
     rcases all b o e with z|⟨_,_,_,_,_,z⟩|⟨_,_,⟨o',_,_,z,_⟩,_⟩
     . exact⟨_,z⟩
     . exact⟨_,z⟩
     . exact⟨_,z⟩⟩,os,bare⟩
 cases hk:K.lookup a with
 |some o=>
  have e:=KX a o hk
  rw[ha]at e
  cases e
  refine core (fun b=>if b∈tabs then some (.tbl #[]) else none) (fun b=>?_) (fun b hb=>if_pos hb) (.inr ⟨_,vs.toArray,_,hk,rfl,rfl,rfl,by rw[Ah,lenV];exact hl,by simpa using rv⟩) (fun b u z=>?_) (fun b z=>?_) fun z=>?_
  . by_cases hb:b∈tabs
    . exact .inr (.inr ⟨hb,if_pos hb⟩)
    . exact .inl (if_neg hb)
  . by_cases hb:b∈tabs
    . have z':=(if_pos hb).symm.trans z
      cases z'
      exact(ht b hb).1
    . have z':=(if_neg hb).symm.trans z
      cases z'
  . by_cases hb:b∈tabs
    . exact .inr hb
    . exact absurd (if_neg hb) z
  . exact absurd (if_neg nat) z
 |none=>
  refine core (fun b=>if b=a then some (.frz {cls:=.type "list",data:=.seq vs.toArray} (.lst (ns.map V.int))) else if b∈tabs then some (.tbl #[]) else none) (fun b=>?_) (fun b hb=>(if_neg (fun z=>nat (by rw[←z];exact hb))).trans (if_pos hb)) (.inl (.inr ⟨{cls:=.type "list",data:=.seq vs.toArray},if_pos rfl⟩)) (fun b u z=>?_) (fun b z=>?_) fun _=>hk
  . by_cases hb:b=a
    . exact .inr (.inl ⟨_,_,if_pos hb⟩)
    . by_cases hb2:b∈tabs
      . exact .inr (.inr ⟨hb2,(if_neg hb).trans (if_pos hb2)⟩)
      . exact .inl ((if_neg hb).trans (if_neg hb2))
  . by_cases hb:b=a
    . have z':=(if_pos hb).symm.trans z
      cases z'
      subst hb
      exact⟨ha,by rw[Ai];exact hl,vs,_,rv,ha⟩
    . by_cases hb2:b∈tabs
      . have z':=((if_neg hb).trans (if_pos hb2)).symm.trans z
        cases z'
        exact(ht b hb2).1
      . have z':=((if_neg hb).trans (if_neg hb2)).symm.trans z
        cases z'
  . by_cases hb:b=a
    . exact .inl hb
    . by_cases hb2:b∈tabs
      . exact .inr hb2
      . exact absurd ((if_neg hb).trans (if_neg hb2)) z
end L2
end
section
namespace M
open PySem
noncomputable def Z0(sc:Scope)(x:Str):Bool:=decide (sc.names.lookup x=some .local)||decide (sc.names.lookup x=some .cell)||decide (sc.names.lookup x=some .free)
noncomputable def xn(sc:Scope)(x:Str):Bool:=decide (sc.names.lookup x=some .globalImplicit)
noncomputable def xh:List Str:=["len","all","any","tuple","list","sorted","repr","max","min","sum","int","isinstance","divmod","str","bool","dict","set","range","enumerate","zip"]
noncomputable def U9(y:Str)(n:String):Bool:=(decide (y="int")&&decide (n="int"))||(decide (y="bool")&&decide (n="bool"))||(decide (y="str")&&decide (n="str"))||(decide (y="list")&&decide (n="list"))||(decide (y="tuple")&&decide (n="tuple"))||(decide (y="dict")&&decide (n="dict"))
noncomputable def qd:Val→Expr→Bool
 |.none,.Constant .none _ _=>true
 |.bool b,.Constant (.bool c) _ _=>b == c
 |.int i,.Constant (.int j) _ _=>decide (i=j)
 |.str x,.Constant (.str y) _ _=>decide (x=y)
 |_,_=>false
noncomputable def isLit:Ex→Int→Bool
 |.lit (.int i),j=>decide (i=j)
 |_,_=>false
noncomputable def Yv:Ex→Bool
 |.lit (.str _)=>true
 |_=>false
theorem b9{e:Ex}(h:Yv e=true):∃t,e=.lit (.str t):=by
 unfold Yv at h
 split at h
 . exact⟨_,rfl⟩
 . cases h
noncomputable def fT:Ex→Bool
 |.lit .none=>true
 |_=>false
theorem fU{e:Ex}(h:fT e=true):e=.lit .none:=by
 unfold fT at h
 split at h
 . rfl
 . cases h
noncomputable def bG:Expr→Option (Str × Cm × Str × List Expr × Scope)
 |.Call (.Name x _) [.Lambda a (.Call (.Name y _) ys [] _) lsc _] [] _=>some (x,a,y,ys,lsc)
 |_=>none
theorem qC{e:Expr}{x y:Str}{a:Cm}{ys:List Expr}{lsc:Scope}(h:bG e=some (x,a,y,ys,lsc)):∃p1 p2 p3 p4 p5,e=.Call (.Name x p1) [.Lambda a (.Call (.Name y p2) ys [] p3) lsc p4] [] p5:=by
 unfold bG at h
 split at h
 . cases h;exact⟨_,_,_,_,_,rfl⟩
 . cases h
noncomputable def pY(a:Cm):Bool:=a.posonlyargs.isEmpty&&a.args.isEmpty&&a.vararg.isNone&&a.kwonlyargs.isEmpty&&a.kw_defaults.isEmpty&&a.kwarg.isNone&&a.defaults.isEmpty
noncomputable def gr(sc lsc:Scope):Bool:=decide (lsc.kind=.function)&&!lsc.isCoroutine&&!lsc.isGenerator&&lsc.names.all (fun y=>decide (y.2=.globalImplicit)||(decide (y.2=.free)&&decide (sc.names.lookup y.1=some .cell)))&&lsc.names.any (fun y=>decide (y.2=.free))
mutual
noncomputable def sim:Ex→Bool
 |.lit _|.var _|.gl _=>true
 |.bin m _ a b=>!m&&sim a&&sim b
 |.neg a=>sim a
 |.tup es=>r0 es
 |.lst m es=>!m&&r0 es
 |.ix a b=>sim a&&sim b
 |_=>false
noncomputable def r0:Exs→Bool
 |.nil=>true
 |.cons e es=>sim e&&r0 es
end
mutual
noncomputable def ck(sc:Scope)(N:List Str):Ex→Expr→Bool
 |.lit v,e=>qd v e
 |.var i,e=>(match e with|.Name x _=>decide (N[i]?=some x)&&Z0 sc x&&!(x == ("__debug__":Str))&&!(x == ("__classdict__":Str))|_=>false)
 |.gl y,e=>(match e with|.Name x _=>decide (x=y)&&xn sc x&&!(x == ("__debug__":Str))|_=>false)
 |.ty y n,e=>(match e with|.Name x _=>decide (x=y)&&xn sc x&&U9 y n|_=>false)
 |.bin _ op a b,e=>(match e with|.BinOp l o r _=>(okB op&&decide (o=op.op))&&ck sc N a l&&ck sc N b r|_=>false)
 |.neg a,e=>(match e with|.UnaryOp .USub x _=>ck sc N a x|_=>false)
 |.not a,e=>(match e with|.UnaryOp .Not x _=>ck sc N a x|_=>false)
 |.cmp op a b,e=>(match e with|.Compare l [o] [r] _=>(okC op&&decide (o=op.op))&&ck sc N a l&&ck sc N b r&&plain r|_=>false)
 |.chain op op' a b c,e=>(match e with|.Compare l [o,o'] [r,r'] _=>(okC op&&decide (o=op.op))&&(okC op'&&decide (o'=op'.op))&&ck sc N a l&&ck sc N b r&&ck sc N c r'&&plain r'|_=>false)
 |.andE a es,e=>(match e with|.BoolOp .And (x::xs) _=>ck sc N a x&&ckL sc N es xs|_=>false)
 |.orE _ _,_=>false
 |.ife c a b,e=>(match e with|.IfExp t x y _=>ckC sc N c t&&ck sc N a x&&ck sc N b y|_=>false)
 |.tup es,e=>(match e with|.Tuple xs _ _=>ckL sc N es xs&&zo xs|_=>false)
 |.lst _ es,e=>(match e with|.List xs _=>ckL sc N es xs&&zo xs|_=>false)
 |.dct0,e=>(match e with|.Dict [] [] _=>true|_=>false)
 |.dctN _,e=>(match e with|.Dict [] [] _=>true|_=>false)
 |.ixD _ _,_=>false
 |.call f ver es,e=>if ver<100 then (match e with|.Call (.Name x _) xs [] _=>decide (x=f)&&xn sc x&&!(x == ("__debug__":Str))&&ckL sc N es xs&&zo xs|_=>false)
  else (match bG e with|some (x,a,y,ys,lsc)=>decide (x=L2.yl (decide (ver=101)))&&xn sc x&&pY a&&gr sc lsc&&decide (y=f)&&xn lsc y&&!(y == ("__debug__":Str))&&r0 es&&ckL lsc N es ys&&zo ys&&!ys.isEmpty&&decide (("!":Str)∈N)|none=>false)
 |.blt f _ es,e=>(match e with|.Call (.Name x _) (y::ys) [] _=>(okF f&&decide (x=f.nm))&&xn sc x&&ckL sc N es (y::ys)&&zo (y::ys)|_=>false)
 |.maxD _ _,_=>false
 |.yx f _ o es,e=>(match e with|.Call (.Attribute ob x ap) [y] [] cp=>decide (x=f.nm)&&ck sc N o ob&&ckL sc N es [y]&&plain y&&oH ob&&(ap.endLine == cp.line)&&okM f|_=>false)
 |.ix a b,e=>(match e with|.Subscript l r _=>ck sc N a l&&ck sc N b r&&plain r|_=>false)
 |.sl _ a lo hi st,e=>(match e with|.Subscript l (.Slice x y z _) _=>ck sc N a l&&ckO sc N lo x&&ckO sc N hi y&&ckO sc N st z|_=>false)
 |.comp _ N' fr elt t it ifs,e=>(match e with|.ListComp x [⟨tg,iter,fs,0⟩] csc _=>L2.mr sc N N' csc fr&&decide N'.Nodup&&ckT csc N' t tg&&ckI sc N it iter tg&&mw csc N' ifs fs&&ck csc N' elt x&&plain iter|_=>false)
 |.comp2 _ _ _ _ _ _ _ _ _ _,_=>false
 |.listRange _ z a w,e=>(match e with|.Call (.Name x _) [.Call (.Name y _) [c] [] _] [] _=>(if Yv w then fT z&&decide (x="len")&&decide (y="set") else false)&&xn sc x&&xn sc y&&ck sc N a c&&plain c|_=>false)
noncomputable def ckL(sc:Scope)(N:List Str):Exs→List Expr→Bool
 |.nil,es=>(match es with|[]=>true|_=>false)
 |.cons a as,es=>(match es with|e::es=>ck sc N a e&&ckL sc N as es|_=>false)
noncomputable def ckO(sc:Scope)(N:List Str):OEx→Option Expr→Bool
 |.no,e=>(match e with|none=>true|_=>false)
 |.yes a,e=>(match e with|some e=>ck sc N a e|_=>false)
noncomputable def ckC(sc:Scope)(N:List Str):Cn→Expr→Bool
 |.val a,e=>ck sc N a e&&(plainT e||(match e with|.Compare ..=>true|_=>false))
 |.not c,e=>(match e with|.UnaryOp .Not x _=>ckC sc N c x|_=>false)
 |.and c cs,e=>(match e with|.BoolOp .And (x::xs) _=>ckC sc N c x&&mw sc N cs xs|_=>false)
 |.or c cs,e=>(match e with|.BoolOp .Or (x::xs) _=>ckC sc N c x&&mw sc N cs xs|_=>false)
noncomputable def mw(sc:Scope)(N:List Str):Cns→List Expr→Bool
 |.nil,es=>(match es with|[]=>true|_=>false)
 |.cons a as,es=>(match es with|e::es=>ckC sc N a e&&mw sc N as es|_=>false)
noncomputable def ckI(sc:Scope)(N:List Str):Itb→Expr→Expr→Bool
 |.val a,e,_=>ck sc N a e
 |.range1 a,e,_=>(match e with|.Call (.Name x _) [y] [] _=>decide (x="range")&&xn sc x&&ck sc N a y&&plain y|_=>false)
 |.range2 a b,e,_=>(match e with|.Call (.Name x _) [y,z] [] _=>decide (x="range")&&xn sc x&&ck sc N a y&&ck sc N b z&&plain y&&plain z|_=>false)
 |.enum a,e,tg=>(match e,tg with|.Call (.Name x _) [y] [] _,.Tuple _ _ _=>decide (x="enumerate")&&xn sc x&&ck sc N a y&&plain y|_,_=>false)
 |.zip _ _,_,_=>false
end
structure Ok(T:Tbl)(n:Nat)(sc:Scope)(N:List Str)(X:L2.Cx):Prop where
 calm:X.calm=true
 room:L2.yu n X.A
 scp:Scp sc N X
 fns:∀f v F,T.fn f v=some F→Callee T n X f v F
 gls:∀x v,T.gl x=some v→∃u xv,X.mg x=some u∧L2.RelV xv u∧∀ρ H,RD X.K X.mg ρ H v xv
 blt:∀x∈xh,X.mg x=none
 xe:X.xe=fun _ _=>False
 no:∀f v,100≤v→T.fn f v=none
 sd:∀m,n=m+1→(∃b,T.md b=true)→Sd T X.prog X.w X.K X.mg X.base m
 cod:(∃b,T.md b=true)→(∃x,sc.names.lookup x=some .cell)→("!":Str)∈N→Cod T X
theorem Zq{sc:Scope}{N N':List Str}{csc:Scope}{fr:List (Option Nat)}{X:L2.Cx}(S:Scp sc N X)(h:L2.mr sc N N' csc fr=true):L2.z0 X N' csc fr:=by
 unfold L2.mr at h
 simp only[Aa,AI,AO,decide_eq_true_eq,AW]at h
 obtain⟨⟨⟨⟨⟨⟨⟨a1,a2⟩,a3⟩,a4⟩,a5⟩,a6⟩,a7⟩,a8⟩:=h
 refine⟨a1,fun x h1 h2=>(a2 _ h1).elim (fun z=>z rfl) fun z=>z _ h2 rfl,fun x hx hk=>?_,fun x hx hk=>?_,a5,fun i j x e1 e2=>?_,fun x e1 e2=>?_,a8⟩
 . rcases a3 x hx with z|z
   . exact absurd hk z
   . exact z
 . rcases a4 x hx with z|z
   . exact absurd hk z
   . exact S.cf x.1 z
 . have hi:i<N'.length:=(As.mp e1).1
   have q:=a6 i hi
   rw[e1,e2]at q
   simp only[Aa,decide_eq_true_eq,BU]at q
   obtain⟨q1,y,q2,q3,q4⟩:=q
   refine⟨by rw[S.hN];exact q1,?_⟩
   have:y=(x,AH):=En q3 q4
   rw[←this];exact q2
 . rcases a7 (x,.free) e2 with z|z
   . exact z rfl
   . exact z e1
theorem wO{sc:Scope}{env:BI}{x:Str}(h:sc.names.lookup x=some .local):(relabel sc env).names.lookup x=some .local:=lookup_relabel_local h
theorem lg{sc:Scope}{env:BI}{x:Str}(h:sc.names.lookup x=some .globalImplicit):(relabel sc env).names.lookup x=some .globalImplicit:=by
 have key:∀(names:List (Str × Bl)),names.lookup x=some .globalImplicit→(names.map fun(n,k)=>if (k == AH&&env.scope.kind == .function&&env.kindOf n == some .cell) then (n,Bn) else (n,k)).lookup x=some .globalImplicit:=by
  intro names
  induction names with
  |nil=>intro h;simp at h
  |cons p r ih=>
   obtain⟨n,k⟩:=p
   intro h
   rw[AK]
   dsimp only
   cases hx:(x == n) with
   |true=>
    rw[Au,hx]at h
    cases h
    have e:(D9 == AH)=false:=rfl
    rw[e]
    simp only[Di,AV,if_false,Au,hx]
   |false=>
    rw[Au,hx]at h
    have:=ih h
    split<;>simpa only[Au,hx] using this
 exact key sc.names h
theorem Scp.comp{sc:Scope}{N N':List Str}{csc:Scope}{fr:List (Option Nat)}{X:L2.Cx}(S:Scp sc N X)(hc:L2.z0 X N' csc fr)(nd:N'.Nodup)(C:Addr)(s0:Shared)(H0:L2.Hp)(ex:List Addr):Scp csc N' (X.comp N' csc C s0 H0 ex):=by
 refine⟨rfl,nd,fun x h=>?_,fun x h=>?_,fun x h=>?_,fun x h=>?_⟩
 . rcases h with h|h|h
   . exact .inl (wO h)
   . exact .inr (.inl (L2.wz h))
   . exact(L2.ui hc.locals h).elim (fun z=>.inr (.inl z)) fun z=>.inr (.inr z)
 . rcases h with h|h
   . exact⟨.inl (wO h),.inr (wO h)⟩
   . exact⟨.inr (L2.wz h),.inl (BU.mpr ⟨_,AZ h,decide_eq_true rfl⟩)⟩
 . exact lg h
 . rcases h with h|h
   . exact .inl (L2.wz h)
   . exact L2.ui hc.locals h
theorem Callee.comp{T:Tbl}{n:Nat}{X:L2.Cx}{f:Str}{v:Nat}{F:Fn}(c:Callee T n X f v F)(N':List Str)(csc:Scope)(C:Addr)(s0:Shared)(H0:L2.Hp)(ex:List Addr):Callee T n (X.comp N' csc C s0 H0 ex) f v F:=⟨c.ex⟩
theorem Ok.comp{T:Tbl}{n:Nat}{sc:Scope}{N N':List Str}{csc:Scope}{fr:List (Option Nat)}{X:L2.Cx}(o:Ok T n sc N X)(hc:L2.z0 X N' csc fr)(nd:N'.Nodup)(C:Addr)(s0:Shared)(H0:L2.Hp)(ex:List Addr):Ok T n csc N' (X.comp N' csc C s0 H0 ex):=
 ⟨o.calm,o.room,o.scp.comp hc nd C s0 H0 ex,fun f v F h=>(o.fns f v F h).comp N' csc C s0 H0 ex,o.gls,o.blt,rfl,o.no,o.sd,fun _ _ h=>absurd h hc.nob⟩
end M
end
section
namespace M
open PySem
section
variable {T:Tbl}{n:Nat}
def JE(T:Tbl)(n:Nat)(a:Ex):Prop:=∀(sc:Scope) (N:List Str) (X:L2.Cx) (e:Expr),Ok T n sc N X→ck sc N a e=true→∀env s,L2.PE X e (tV X.K X.mg env s (evE (zE T n) T.gl env a s))
def JL(T:Tbl)(n:Nat)(a:Exs):Prop:=∀(sc:Scope) (N:List Str) (X:L2.Cx) (es:List Expr),Ok T n sc N X→ckL sc N a es=true →
 (zo es=true→∀env s,L2.PA X es (tVs X.K X.mg env s (zi (zE T n) T.gl env a s))) ∧
 (∀e es' pos,es=e::es'→∀env s,L2.PE X (.BoolOp .And es pos) (tV X.K X.mg env s (tY (zE T n) T.gl env a s))) ∧
 (∀e es' pos,es=e::es'→∀env s,L2.PE X (.BoolOp .Or es pos) (tV X.K X.mg env s (nJ (zE T n) T.gl env a s))) ∧
 (∀y,es=[y]→plain y=true→∃b,a=.cons b .nil∧∀env s,L2.PE X y (tV X.K X.mg env s (evE (zE T n) T.gl env b s)))
def JO(T:Tbl)(n:Nat)(a:OEx):Prop:=∀(sc:Scope) (N:List Str) (X:L2.Cx) (e:Option Expr),Ok T n sc N X→ckO sc N a e=true→(∀env s,L2.PO X e (tO X.K X.mg env s (evO (zE T n) T.gl env a s))) ∧
 ((e=none∧∀env s1,evO (zE T n) T.gl env a s1=.ok none s1)∨∃e',e=some e'∧∀env s1 s2,evO (zE T n) T.gl env a s1≠.ok none s2)
def JC(T:Tbl)(n:Nat)(a:Cn):Prop:=∀(sc:Scope) (N:List Str) (X:L2.Cx) (e:Expr),Ok T n sc N X→ckC sc N a e=true→∀env s,L2.PT X e (tT X.K X.mg env s (evT (zE T n) T.gl env a s))
def JCs(T:Tbl)(n:Nat)(a:Cns):Prop:=∀(sc:Scope) (N:List Str) (X:L2.Cx) (es:List Expr),Ok T n sc N X→mw sc N a es=true →
 (∀pos env s,L2.PW X (.BoolOp .And es pos) (tT X.K X.mg env s (x9 (zE T n) T.gl env a s)))∧(∀pos env s,L2.PW X (.BoolOp .Or es pos) (tT X.K X.mg env s (tw (zE T n) T.gl env a s)))∧L2.PTs X es (uTs X.K X.mg (zE T n) T.gl a)
def JI(T:Tbl)(n:Nat)(a:Itb):Prop:=∀(sc:Scope) (N:List Str) (X:L2.Cx) (e tg:Expr),Ok T n sc N X→ckI sc N a e tg=true→∀env s,L2.PI X tg e (tI (K:=X.K) (mg:=X.mg) env s (yv (zE T n) T.gl env a s))
theorem ft{v:Val}:JE T n (.lit v):=by
 intro sc N X e o h env s
 simp only[ck]at h
 show L2.PE X e (tV X.K X.mg env s (.ok v s))
 unfold qd at h
 split at h
 . exact zf L2.WV fun σ H Q ⟨ρ,hr,er,w⟩=>zM hr .none w
 . have h':=(beq_iff_eq.mp h);subst h'
   exact zf L2.dR fun σ H Q ⟨ρ,hr,er,w⟩=>zM hr (.bool _) w
 . have h':=of_decide_eq_true h;subst h'
   exact zf L2.da fun σ H Q ⟨ρ,hr,er,w⟩=>zM hr (.int _) w
 . have h':=of_decide_eq_true h;subst h'
   exact zf L2.tF fun σ H Q ⟨ρ,hr,er,w⟩=>zM hr (.str _) w
 . cases h
theorem fw{i:Nat}:JE T n (.var i):=by
 intro sc N X e o h env s
 simp only[ck]at h
 split at h
 . rename_i x p
   simp only[Aa,decide_eq_true_eq,Z0,AO,AX]at h
   obtain⟨⟨⟨h1,h2⟩,h3⟩,h4⟩:=h
   have hv:L2.Vis X.env.scope x:=o.scp.vis x (by rcases h2 with (z|z)|z;exact .inl z;exact .inr (.inl z);exact .inr (.inr z))
   show L2.PE X _ (tV X.K X.mg env s (match env[i]? with|some (some v)=>.ok v s|_=>.stuck))
   refine zf (L2.v8 (i:=i) (by rw[o.scp.hN];exact h1) hv h3 h4) fun σ H Q ⟨ρ,hr,er,w⟩=>?_
   split at w
   . rename_i v e
     obtain⟨x',h5,h6⟩:=er.at_ i v e
     exact⟨x',h5,zM hr h6 w⟩
   . exact w.elim
 . cases h
theorem Z4{y:Str}:JE T n (.gl y):=by
 intro sc N X e o h env s
 simp only[ck]at h
 split at h
 . rename_i x p
   simp only[Aa,decide_eq_true_eq,xn,AX]at h
   obtain⟨⟨h1,h2⟩,h3⟩:=h
   subst h1
   show L2.PE X _ (tV X.K X.mg env s (match T.gl x with|some v=>.ok v s|Ab=>.stuck))
   cases hv:T.gl x with
   |none=>exact zJ (zF rfl)
   |some v=>
    obtain⟨u,xv,e1,e2,e3⟩:=o.gls x v hv
    exact zf (L2.ZA (o.scp.gl x h2) e1 e2 h3) fun σ H Q ⟨ρ,hr,er,w⟩=>zM hr (e3 ρ H) w
 . cases h
theorem Vp{y:Str}{m:String}:JE T n (.ty y m):=by
 intro sc N X e o h env s
 simp only[ck]at h
 split at h
 . rename_i x p
   simp only[Aa,decide_eq_true_eq,xn]at h
   obtain⟨⟨h1,h2⟩,h3⟩:=h
   subst h1
   show L2.PE X _ (tV X.K X.mg env s (.ok (.ty m) s))
   have key:x∈xh∧Ca x=some (.type m)∧x≠"__name__"∧(x == ("__debug__":Str))=false:=by
    unfold U9 at h3
    simp only[AO,Aa,decide_eq_true_eq]at h3
    rcases h3 with ((((⟨rfl,rfl⟩|⟨rfl,rfl⟩)|⟨rfl,rfl⟩)|⟨rfl,rfl⟩)|⟨rfl,rfl⟩)|⟨rfl,rfl⟩
    . exact⟨by decide,PyProof.Rows.boot_int,by decide,by decide⟩
    . exact⟨by decide,PyProof.Rows.boot_bool,by decide,by decide⟩
    . exact⟨by decide,PyProof.Rows.boot_str,by decide,by decide⟩
    . exact⟨by decide,PyProof.Rows.boot_list,by decide,by decide⟩
    . exact⟨by decide,Gm,by decide,by decide⟩
    . exact⟨by decide,PyProof.Rows.boot_dict,by decide,by decide⟩
   exact zf (L2.US (o.scp.gl x h2) (o.blt x key.1) key.2.1 key.2.2.1 key.2.2.2) fun σ H Q ⟨ρ,hr,er,w⟩=>zM hr (.ty _) w
 . cases h
theorem aN{t:Bool}:JE T n (.dctN t):=by
 intro sc N X e o h env s
 simp only[ck]at h
 split at h
 . show L2.PE X _ (tV X.K X.mg env s (.ok (.dref s.length) (s++[if t then .dT [] else .dS []])))
   cases t with
   |true=>exact zf L2.dZ fun σ H Q ⟨ρ,hr,er,w⟩ p hp=>w _ _ _ (Ext.own hr hp _) (hr.wM hp ⟨[],L2.zN,rfl,.nil⟩) (.dref (sP hr p) (by rw[L2.zN];decide))
   |false=>exact zf L2.dY fun σ H Q ⟨ρ,hr,er,w⟩ p hp=>w _ _ _ (Ext.own hr hp _) (hr.wM hp ⟨[],L2.zN,rfl,.nil⟩) (.dref (sP hr p) (by rw[L2.zN];decide))
 . cases h
theorem aM:JE T n .dct0:=by
 intro sc N X e o h env s
 simp only[ck]at h
 split at h
 . show L2.PE X _ (tV X.K X.mg env s (.ok .dct0 s))
   exact zf (L2.a9 fun pins σ H s I=>I.big) fun σ H Q ⟨ρ,hr,er,w⟩ p hp=>w _ _ _ (Ext.new hr hp _) (hr.more hp _) (.dct0 (hr.new hp) L2.zN)
 . cases h
theorem nI{op:Cop}{x y v:Val}{s s':Sto}(h:zQ op x y s=.ok v s'):∃b,v=.bool b:=by
 unfold zQ at h
 split at h<;>(split at h<;>first|(cases h;exact⟨_,rfl⟩)|cases h|(split at h<;>first|(cases h;exact⟨_,rfl⟩)|cases h|(split at h<;>first|(cases h;exact⟨_,rfl⟩)|cases h|(split at h<;>first|(cases h;exact⟨_,rfl⟩)|cases h))))
theorem qB{K:KF}{mg:Str→Option Value}{ρ:Own}{H:L2.Hp}{o:Out Val}{Q:Bool→L2.Hp→Prop}(hb:∀v s',o=.ok v s'→∃b,v=.bool b)(w:yg K mg (fun _ _ a b=>a=b) ρ H o.truth Q):yg K mg (RD K mg) ρ H o fun x H'=>∃k,x=.bl k∧Q k H':=by
 cases o with
 |ok v s1=>
  obtain⟨b,rfl⟩:=hb v s1 rfl
  intro ρ1 x H1 x1 hr1 r1
  cases r1
  exact⟨b,rfl,w _ _ _ x1 hr1 rfl⟩
 |exc _ _ _=>exact w
 |stuck=>exact w
theorem Xc{X:L2.Cx}{env:Env}{s:Sto}{a b:Expr}{op:Cop}{o:Out Val}{f2:Sto→Out Val}{k:Nat}{pos:Pos}(k1:okC op=true)(hr0:L2.yu k X.A)(h1:L2.PE X a (tV X.K X.mg env s o))(h2:∀s1,L2.PE X b (tV X.K X.mg env s1 (f2 s1)))(hm:plain b=true) :
 L2.PT X (.Compare a [op.op] [b] pos) (tT X.K X.mg env s (o.bind fun x s1=>(f2 s1).bind fun y s2=>zQ op x y s2).truth):=by
 cases o with
 |ok v s1=>
  have h2':=h2 s1
  show L2.PT X _ (tT X.K X.mg env s ((f2 s1).bind fun y s2=>zQ op v y s2).truth)
  cases hb:f2 s1 with
  |ok w s2=>
   rw[hb]at h2'
   exact oV (L2.oU (v7 hr0 op k1) h1 h2' (xu hm)) fun σ H Q ⟨ρ,hr,er,wt⟩=>⟨ρ,hr,er,fun ρ1 x H1 x1 hr1 r1=>⟨ρ1,hr1,er.mono x1,fun ρ2 y H2 x2 hr2 r2=>⟨ρ2,s2,v,w,hr2,r1.mono x2,r2,qB (fun _ _ h=>nI h) (wt.mono (x1.trans hr1 x2) hr2)⟩⟩⟩
  |exc _ _ _=>exact z8 (zF rfl)
  |stuck=>exact z8 (zF rfl)
 |exc _ _ _=>exact z8 (zF rfl)
 |stuck=>exact z8 (zF rfl)
theorem eC{X:L2.Cx}{env:Env}{s:Sto}{a b c:Expr}{op op':Cop}{o:Out Val}{f2 f3:Sto→Out Val}{k:Nat}{pos:Pos}(k1:okC op=true)(k2:okC op'=true)(hr0:L2.yu k X.A)(h1:L2.PE X a (tV X.K X.mg env s o))(h2:∀s1,L2.PE X b (tV X.K X.mg env s1 (f2 s1)))(h3:∀s1,L2.PE X c (tV X.K X.mg env s1 (f3 s1)))(hm:plain c=true) :
 L2.PT X (.Compare a [op.op,op'.op] [b,c] pos) (tT X.K X.mg env s (o.bind fun x s1=>(f2 s1).bind fun y s2=>(zQ op x y s2).bind fun r s3=>match r with
  |.bool true=>(f3 s3).bind fun z s4=>zQ op' y z s4
  |.bool false=>.ok (.bool false) s3
  |_=>.stuck).truth):=by
 cases o with
 |ok v s1=>
  have h2':=h2 s1
  show L2.PT X _ (tT X.K X.mg env s ((f2 s1).bind _).truth)
  cases hb:f2 s1 with
  |ok w s2=>
   rw[hb]at h2'
   show L2.PT X _ (tT X.K X.mg env s ((zQ op v w s2).bind _).truth)
   cases hc:zQ op v w s2 with
   |ok r s3=>
    cases r with
    |bool t=>
     have h3':=h3 s3
     have rule:=L2.dz (pos:=pos) (v7 hr0 op k1) (v7 hr0 op' k2) h1 h2' h3' (show GY [op.op,op'.op] [b,c]=false from xu hm)
     refine oV rule fun σ H Q ⟨ρ,hr,er,wt⟩=>⟨ρ,hr,er,fun ρ1 x H1 x1 hr1 r1=>⟨ρ1,hr1,er.mono x1,fun ρ2 y H2 x2 hr2 r2=>⟨ρ2,s2,v,w,hr2,r1.mono x2,r2,?_⟩⟩⟩
     rw[hc]
     intro ρ3 z H3 x3 hr3 r3
     cases r3
     refine⟨t,rfl,?_⟩
     have xx:=(x1.trans hr1 x2).trans hr2 x3
     have wt':=wt.mono xx hr3
     cases t with
     |true=>
      rw[if_pos rfl]
      refine⟨ρ3,hr3,er.mono xx,?_⟩
      have wt2:yg X.K X.mg (fun _ _ a b=>a=b) ρ3 H3 ((f3 s3).bind fun z s4=>zQ op' w z s4).truth Q:=wt'
      cases hz:f3 s3 with
      |ok u s4=>
       rw[hz]at wt2
       exact fun ρ4 q H4 x4 hr4 r4=>⟨ρ4,s4,w,u,hr4,(r2.mono x3).mono x4,r4,qB (fun _ _ h=>nI h) (wt2.mono x4 hr4)⟩
      |exc _ _ _=>rw[hz]at wt2;exact wt2
      |stuck=>rw[hz]at wt2;exact wt2
     |false=>
      rw[if_neg Am]
      exact⟨false,rfl,wt' _ _ _ Ext.refl hr3 rfl⟩
    |_=>exact z8 (zF rfl)
   |exc _ _ _=>exact z8 (zF rfl)
   |stuck=>exact z8 (zF rfl)
  |exc _ _ _=>exact z8 (zF rfl)
  |stuck=>exact z8 (zF rfl)
 |exc _ _ _=>exact z8 (zF rfl)
 |stuck=>exact z8 (zF rfl)
theorem XQ{op:Cop}{a b:Ex}(ja:JE T n a)(jb:JE T n b):JC T n (.val (.cmp op a b)):=by
 intro sc N X e o h env s
 simp only[ckC,Aa,ck]at h
 obtain⟨h1,_⟩:=h
 split at h1
 . simp only[Aa,decide_eq_true_eq]at h1
   obtain⟨⟨⟨⟨k1,rfl⟩,h3⟩,h4⟩,h5⟩:=h1
   exact Xc k1 o.room (ja _ _ _ _ o h3 env s) (fun s1=>jb _ _ _ _ o h4 env s1) h5
 . cases h1
theorem fk{op op':Cop}{a b c:Ex}(ja:JE T n a)(jb:JE T n b)(jc:JE T n c):JC T n (.val (.chain op op' a b c)):=by
 intro sc N X e o h env s
 simp only[ckC,Aa,ck]at h
 obtain⟨h1,_⟩:=h
 split at h1
 . simp only[Aa,decide_eq_true_eq]at h1
   obtain⟨⟨⟨⟨⟨⟨k1,rfl⟩,k2,rfl⟩,h3⟩,h4⟩,h5⟩,h6⟩:=h1
   exact eC k1 k2 o.room (ja _ _ _ _ o h3 env s) (fun s1=>jb _ _ _ _ o h4 env s1) (fun s1=>jc _ _ _ _ o h5 env s1) h6
 . cases h1
noncomputable def Vg:Ex→Bool
 |.cmp ..|.chain ..=>true
 |_=>false
theorem zy{a:Ex}(ja:JE T n a)(hn:Vg a=false):JC T n (.val a):=by
 intro sc N X e o h env s
 simp only[ckC,Aa,AO]at h
 obtain⟨h1,h2⟩:=h
 have je:=ja sc N X e o h1 env s
 rcases h2 with h2|h2
 . exact Xe h2 je
 . split at h2
   . cases a<;>first|(cases hn;done)|(simp only[ck,qd]at h1;cases h1;done)|(simp only[ck,qd]at h1;split at h1<;>first|(rename_i heq;cases heq;done)|(cases h1;done))
   . cases h2
end
end M
end
section
namespace M
open PySem
section
variable {T:Tbl}{n:Nat}
theorem fX{m:Bool}{op:Bop}{a b:Ex}(ja:JE T n a)(jb:JE T n b):JE T n (.bin m op a b):=by
 intro sc N X e o h env s
 simp only[ck]at h
 split at h
 . simp only[Aa,decide_eq_true_eq]at h
   obtain⟨⟨⟨k1,rfl⟩,h1⟩,h2⟩:=h
   exact Yd (ja _ _ _ _ o h1 env s) (fun s1=>jb _ _ _ _ o h2 env s1) fun ta tb pa pb=>L2.jG (X3 m op k1) pa pb
 . cases h
theorem fZ{a:Ex}(ja:JE T n a):JE T n (.neg a):=by
 intro sc N X e o h env s
 simp only[ck]at h
 split at h
 . exact XW (ja _ _ _ _ o h env s)
 . cases h
theorem XF{es:Exs}(jl:JL T n es):JE T n (.tup es):=by
 intro sc N X e o h env s
 simp only[ck]at h
 split at h
 . simp only[Aa]at h
   exact m8 ((jl _ _ _ _ o h.1).1 h.2 env s)
 . cases h
theorem XD{m:Bool}{es:Exs}(jl:JL T n es):JE T n (.lst m es):=by
 intro sc N X e o h env s
 simp only[ck]at h
 split at h
 . simp only[Aa]at h
   exact fu ((jl _ _ _ _ o h.1).1 h.2 env s)
 . cases h
theorem Z3{a b:Ex}(ja:JE T n a)(jb:JE T n b):JE T n (.ix a b):=by
 intro sc N X e o h env s
 simp only[ck]at h
 split at h
 . simp only[Aa]at h
   exact Yd (ja _ _ _ _ o h.1.1 env s) (fun s1=>jb _ _ _ _ o h.1.2 env s1) fun ta tb pa pb=>L2.YE Vh pa pb (dk h.2)
 . cases h
end
section
variable {Φ Φ':Calls}{G:Str→Option Val}{env:Env}
mutual
theorem tJ:∀(a:Ex) (s:Sto),sim a=true→evE Φ G env a s=evE Φ' G env a s
 |.lit _,_,_=>by simp only[evE]
 |.var _,_,_=>by simp only[evE]
 |.gl _,_,_=>by simp only[evE]
 |.bin m op a b,s,h=>by
  simp only[sim,Aa]at h
  simp only[evE,tJ a s h.1.2]
  exact congrArg _ (funext fun x=>funext fun s1=>by rw[tJ b s1 h.2])
 |.neg a,s,h=>by
  simp only[sim]at h
  simp only[evE,tJ a s h]
 |.tup es,s,h=>by
  simp only[sim]at h
  simp only[evE,sS es s h]
 |.lst m es,s,h=>by
  simp only[sim,Aa]at h
  simp only[evE,sS es s h.2]
 |.ix a b,s,h=>by
  simp only[sim,Aa]at h
  simp only[evE,tJ a s h.1]
  exact congrArg _ (funext fun x=>funext fun s1=>by rw[tJ b s1 h.2])
 |.ty _ _,_,h=>by cases h
 |.not _,_,h=>by cases h
 |.cmp _ _ _,_,h=>by cases h
 |.chain _ _ _ _ _,_,h=>by cases h
 |.andE _ _,_,h=>by cases h
 |.orE _ _,_,h=>by cases h
 |.ife _ _ _,_,h=>by cases h
 |.dct0,_,h=>by cases h
 |.call _ _ _,_,h=>by cases h
 |.blt _ _ _,_,h=>by cases h
 |.maxD _ _,_,h=>by cases h
 |.yx _ _ _ _,_,h=>by cases h
 |.sl _ _ _ _ _,_,h=>by cases h
 |.comp _ _ _ _ _ _ _,_,h=>by cases h
 |.comp2 _ _ _ _ _ _ _ _ _ _,_,h=>by cases h
 |.listRange _ _ _ _,_,h=>by cases h
 |.dctN _,_,h=>by cases h
 |.ixD _ _,_,h=>by cases h
theorem sS:∀(es:Exs) (s:Sto),r0 es=true→zi Φ G env es s=zi Φ' G env es s
 |.nil,_,_=>by simp only[zi]
 |.cons e es,s,h=>by
  simp only[r0,Aa]at h
  simp only[zi,tJ e s h.1]
  exact congrArg _ (funext fun x=>funext fun s1=>by rw[sS es s1 h.2])
end
theorem rV{vs:List Val}{s s':Sto}{v:Val}(h:newList false vs s=.ok v s'):s'=s:=by
 simp only[newList,AV,if_false]at h
 cases h;rfl
theorem gZ{op:Bop}{x y v:Val}{s s':Sto}(h:binOp false op x y s=.ok v s'):s'=s:=by
 unfold binOp at h
 split at h<;>(repeat' split at h)<;>first|exact rV h|(cases h;rfl)|cases h
theorem aA{x y v:Val}{s s':Sto}(h:wK x y s=.ok v s'):s'=s:=by
 unfold wK at h
 split at h
 . split at h
   . split at h
     . cases h;rfl
     . cases h
   . cases h
 . cases h
theorem yK{α β:Type}{o:Out α}{f:α→Sto→Out β}{b:β}{s:Sto}(h:o.bind f=.ok b s):∃a s1,o=.ok a s1∧f a s1=.ok b s:=by
 cases o with
 |ok a s1=>exact⟨a,s1,rfl,h⟩
 |exc _ _ _=>cases h
 |stuck=>cases h
mutual
theorem tK:∀(a:Ex) (s s':Sto) (v:Val),sim a=true→evE Φ G env a s=.ok v s'→s'=s
 |.lit _,_,_,_,_,h=>by simp only[evE]at h;cases h;rfl
 |.var _,_,_,_,_,h=>by
  simp only[evE]at h
  split at h
  . cases h;rfl
  . cases h
 |.gl _,_,_,_,_,h=>by
  simp only[evE]at h
  split at h
  . cases h;rfl
  . cases h
 |.bin m op a b,s,s',v,z,h=>by
  simp only[sim,Aa,AX]at z
  obtain⟨⟨rfl,z1⟩,z2⟩:=z
  simp only[evE]at h
  obtain⟨x,s1,e1,h⟩:=yK h
  obtain⟨y,s2,e2,h⟩:=yK h
  rw[gZ h,tK b _ _ _ z2 e2,tK a _ _ _ z1 e1]
 |.neg a,s,s',v,z,h=>by
  simp only[sim]at z
  simp only[evE]at h
  obtain⟨x,s1,e1,h⟩:=yK h
  rw[←tK a _ _ _ z e1]
  split at h
  . cases h;rfl
  . cases h
 |.tup es,s,s',v,z,h=>by
  simp only[sim]at z
  simp only[evE]at h
  obtain⟨x,s1,e1,h⟩:=yK h
  rw[←sT es _ _ _ z e1]
  split at h
  . cases h;rfl
  . cases h
 |.lst m es,s,s',v,z,h=>by
  simp only[sim,Aa,AX]at z
  obtain⟨rfl,z⟩:=z
  simp only[evE]at h
  obtain⟨x,s1,e1,h⟩:=yK h
  rw[←sT es _ _ _ z e1]
  split at h
  . exact rV h
  . cases h
 |.ix a b,s,s',v,z,h=>by
  simp only[sim,Aa]at z
  simp only[evE]at h
  obtain⟨x,s1,e1,h⟩:=yK h
  obtain⟨y,s2,e2,h⟩:=yK h
  rw[aA h,tK b _ _ _ z.2 e2,tK a _ _ _ z.1 e1]
 |.ty _ _,_,_,_,h,_=>by cases h
 |.not _,_,_,_,h,_=>by cases h
 |.cmp _ _ _,_,_,_,h,_=>by cases h
 |.chain _ _ _ _ _,_,_,_,h,_=>by cases h
 |.andE _ _,_,_,_,h,_=>by cases h
 |.orE _ _,_,_,_,h,_=>by cases h
 |.ife _ _ _,_,_,_,h,_=>by cases h
 |.dct0,_,_,_,h,_=>by cases h
 |.call _ _ _,_,_,_,h,_=>by cases h
 |.blt _ _ _,_,_,_,h,_=>by cases h
 |.maxD _ _,_,_,_,h,_=>by cases h
 |.yx _ _ _ _,_,_,_,h,_=>by cases h
 |.sl _ _ _ _ _,_,_,_,h,_=>by cases h
 |.comp _ _ _ _ _ _ _,_,_,_,h,_=>by cases h
 |.comp2 _ _ _ _ _ _ _ _ _ _,_,_,_,h,_=>by cases h
 |.listRange _ _ _ _,_,_,_,h,_=>by cases h
 |.dctN _,_,_,_,h,_=>by cases h
 |.ixD _ _,_,_,_,h,_=>by cases h
theorem sT:∀(es:Exs) (s s':Sto) (vs:List Val),r0 es=true→zi Φ G env es s=.ok vs s'→s'=s
 |.nil,_,_,_,_,h=>by simp only[zi]at h;cases h;rfl
 |.cons e es,s,s',vs,z,h=>by
  simp only[r0,Aa]at z
  simp only[zi]at h
  obtain⟨x,s1,e1,h⟩:=yK h
  obtain⟨y,s2,e2,h⟩:=yK h
  cases h
  rw[sT es _ _ _ z.2 e2,tK e _ _ _ z.1 e1]
end
end
section
variable {T:Tbl}{n:Nat}
mutual
theorem u7:∀(a:Ex),sim a=true→JE T n a
 |.lit _,_=>ft
 |.var _,_=>fw
 |.gl _,_=>Z4
 |.bin m op a b,h=>by
  simp only[sim,Aa]at h
  exact fX (u7 a h.1.2) (u7 b h.2)
 |.neg a,h=>fZ (u7 a (by simpa only[sim] using h))
 |.tup es,h=>by
  simp only[sim]at h
  intro sc N X e o hc env s
  simp only[ck]at hc
  split at hc
  . simp only[Aa]at hc
    exact m8 (oM es h _ _ _ _ o hc.1 hc.2 env s)
  . cases hc
 |.lst m es,h=>by
  simp only[sim,Aa]at h
  intro sc N X e o hc env s
  simp only[ck]at hc
  split at hc
  . simp only[Aa]at hc
    exact fu (oM es h.2 _ _ _ _ o hc.1 hc.2 env s)
  . cases hc
 |.ix a b,h=>by
  simp only[sim,Aa]at h
  exact Z3 (u7 a h.1) (u7 b h.2)
 |.ty _ _,h=>by cases h
 |.not _,h=>by cases h
 |.cmp _ _ _,h=>by cases h
 |.chain _ _ _ _ _,h=>by cases h
 |.andE _ _,h=>by cases h
 |.orE _ _,h=>by cases h
 |.ife _ _ _,h=>by cases h
 |.dct0,h=>by cases h
 |.call _ _ _,h=>by cases h
 |.blt _ _ _,h=>by cases h
 |.maxD _ _,h=>by cases h
 |.yx _ _ _ _,h=>by cases h
 |.sl _ _ _ _ _,h=>by cases h
 |.comp _ _ _ _ _ _ _,h=>by cases h
 |.comp2 _ _ _ _ _ _ _ _ _ _,h=>by cases h
 |.listRange _ _ _ _,h=>by cases h
 |.dctN _,h=>by cases h
 |.ixD _ _,h=>by cases h
theorem oM:∀(es:Exs),r0 es=true→∀(sc:Scope) (N:List Str) (X:L2.Cx) (xs:List Expr),Ok T n sc N X→ckL sc N es xs=true→zo xs=true→∀env s,L2.PA X xs (tVs X.K X.mg env s (zi (zE T n) T.gl env es s))
 |.nil,_=>fun sc N X xs o h hp env s=>by
  simp only[ckL]at h
  split at h
  . exact kr
  . cases h
 |.cons e es,hs=>fun sc N X xs o h hp env s=>by
  simp only[r0,Aa]at hs
  simp only[ckL]at h
  split at h
  . simp only[Aa]at h
    rw[zo,Aa]at hp
    exact nR hp.1 (u7 e hs.1 _ _ _ _ o h.1 env s) fun s1=>oM es hs.2 _ _ _ _ o h.2 hp.2 env s1
  . cases h
end
end
end M
end
section
namespace M
open PySem PySem.W PyProof.Rows
theorem lS{X:L2.Cx}{es:List Expr}{t:L2.TA}(h:L2.PA X.nox es t):L2.PA X es t:=fun pos pins s σ H Q I hw=>
 A9 (h pos pins s σ H Q (I.wB _) hw) (fun _ _ ⟨vs,H',I',r,q⟩=>⟨vs,H',I'.yp,r,q⟩) fun _ _ z=>AJ z
theorem iP{a:Cm}(h:pY a=true):a=L2.noArgs:=by
 obtain⟨po,ar,va,ko,kd,kw,df⟩:=a
 simp only[pY,Aa,Ge,FV]at h
 obtain⟨⟨⟨⟨⟨⟨rfl,rfl⟩,rfl⟩,rfl⟩,rfl⟩,rfl⟩,rfl⟩:=h
 rfl
theorem YH{m:Nat}{A:Around}(r:L2.yu (m+1) A)(e1 e2:BI):L2.yu m ((A.deeper e1).deeper e2):=
 ⟨r.hd,by have:=r.dp;show A.depth+1+1+3*m+5<_;omega,by have:=r.un;show A.units+3+3+16*m+200<_;omega,r.gd⟩
section
variable {T:Tbl}{n:Nat}{sc lsc:Scope}{N:List Str}{X:L2.Cx}
theorem aO{f:Str}{ver:Nat}{es:Exs}{a:Cm}{ys:List Expr}{p1 p2 p3 p4 p5:Pos}(o:Ok T n sc N X)(hver:¬ver<100)(h2:sc.names.lookup (L2.yl (decide (ver=101)))=some .globalImplicit)(h3:pY a=true)(h4:gr sc lsc=true)(h6:lsc.names.lookup f=some .globalImplicit)
 (h7:(f == ("__debug__":Str))=false) (h8:r0 es=true) (h9:ckL lsc N es ys=true) (h10:zo ys=true) (h11:ys.isEmpty=false) (h12:("!":Str)∈N) (env:Env) (s:Sto) :
 L2.PE X (.Call (.Name (L2.yl (decide (ver=101))) p1) [.Lambda a (.Call (.Name f p2) ys [] p3) lsc p4] [] p5) (tV X.K X.mg env s (evE (zE T n) T.gl env (.call f ver es) s)):=by
 show L2.PE X _ (tV X.K X.mg env s ((zi (zE T n) T.gl env es s).bind fun vs s1=>zE T n f ver vs s1))
 cases n with
 |zero=>
  refine zJ fun v s' e=>?_
  obtain⟨_,_,_,z⟩:=yK e
  cases z
 |succ m=>
  rw[sS (Φ':=zE T m) es s h8]
  cases ho:zi (zE T m) T.gl env es s with
  |exc _ _ _=>exact zJ (zF rfl)
  |stuck=>exact zJ (zF rfl)
  |ok vs s1=>
   obtain rfl:s=s1:=(sT es _ _ _ h8 ho).symm
   rw[zV]
   have hcall:zE T (m+1) f ver vs s=if ((decide (ver=100)&&T.md false)||(decide (ver=101)&&T.md true))&&yS T.tb s then cQ T (decide (ver=101)) (zE T m f 0 vs s) (zq T m f 0 vs s) else .stuck:=by
    simp only[zE,o.no f ver (by omega)]
   rw[hcall]
   by_cases hcond:(((decide (ver=100)&&T.md false)||(decide (ver=101)&&T.md true))&&yS T.tb s)=true
   case neg=>rw[if_neg hcond];exact zJ (zF rfl)
   rw[if_pos hcond]
   rw[Aa]at hcond
   obtain⟨hmd0,htb⟩:=hcond
   have hmd:T.md (decide (ver=101))=true:=by
    simp only[AO,Aa,decide_eq_true_eq]at hmd0
    rcases hmd0 with⟨z1,z2⟩|⟨z1,z2⟩
    . rw[decide_eq_false (by omega)];exact z2
    . rw[decide_eq_true z1];exact z2
   generalize decide (ver=101)=md at *
   obtain rfl:=iP h3
   intro pins s0 σ H Q I ⟨ρ,hr,er,wt⟩
   have sd:=o.sd m rfl ⟨md,hmd⟩
   obtain⟨kx,cs,ws,pre,hue,hhue,KF,SF,CF,RF⟩:=sd.sc.ex
   obtain⟨fS,SF'⟩:=SF md hmd
   obtain⟨stS,fdS,hmS,FnS,_⟩:=id SF'.ex
   simp only[gr,Aa,decide_eq_true_eq,AX,AI,BU,AO]at h4
   obtain⟨⟨⟨⟨k1,k2⟩,k3⟩,k4⟩,⟨x0,hx0,hx0f⟩⟩:=h4
   have fcell:∀x∈lsc.names,x.2=.free→sc.names.lookup x.1=some .cell:=fun x hx hf=>by
    rcases k4 x hx with z|z
    . rw[hf]at z;cases z
    . exact z.2
   obtain⟨g,hg,fa,c,ob,fd,q1,q2,q3,q4,q5,q6⟩:=o.cod ⟨md,hmd⟩ ⟨x0.1,fcell x0 hx0 hx0f⟩ h12
   obtain⟨j,hj⟩:=nO htb hg
   obtain⟨P,hPo,tr⟩:=hr.cel j _ hj
   obtain⟨ps,hP,tok,among,fa',c',o',fd',w1,w2,w3,w4,w5⟩:=id tr
   rw[q1]at w1;cases w1
   rw[q2]at w2;cases w2
   rw[q3]at w3;cases w3
   rw[q4]at w4;cases w4
   have hq:X.env.qual++("<lambda>":Str)=Xn g:=by rw[q6];rfl
   have cellOf':∀x,(x,AH)∈lsc.names→∃b,X.env.cells.lookup x=some b:=fun x hx=>I.ok.has x (o.scp.cf x (.inl (fcell _ hx rfl)))
   have clk:∀x b,(xj X.env.cells lsc.names []).lookup x=some b→(x,AH)∈lsc.names∧X.env.cells.lookup x=some b:=fun x b e=>by
    rcases qf (AZ e) with z|⟨z1,z2⟩
    . cases z
    . obtain⟨b',hb'⟩:=cellOf' x z1
      rw[hb']at z2
      exact⟨z1,by rw[hb',z2];rfl⟩
   have hdbg:(L2.yl md == ("__debug__":Str))=false:=by cases md<;>decide
   refine B4 (L2.wH I (o.scp.gl _ h2) hmS ?_ hdbg)
   refine Fe (h₀:=X.base) I.ok.mod.kin FnS.kp ?_
   show wpAny _ _ (spliced ((false,eval (.Lambda L2.noArgs (.Call (.Name f p2) ys [] p3) lsc p4) X.env)::backTo p5 (AM [] X.env))) _ _ s0
   refine Calls.spliced_cons (L2.eO (P:=P) (ps:=ps) (c:=c) I rfl (bZ fun x hx hf=>cellOf' x.1 (by rw[←hf];exact hx)) q5 (w5 _ I.kIn) hP tok (sd.sc.bm _ I.ok.mod.kin) (fun cv hcv=>?_) fun lf c2 ctv H' h' tk I' lamh ⟨nl,nf,cdr⟩ obj cr=>Calls.spliced_nil ⟨I'.kIn,?_⟩)
   . obtain⟨b,ob',vb,tb,z1,_,z3,z4,z5⟩:=among _ cv hcv
     exact⟨b,ob',vb,tb,z1,z3,z4,by rw[hq];exact z5⟩
   rw[hq]at lamh
   obtain⟨hr',X0⟩:=hr.lam hj hPo tr hP lamh
   cases hfn:T.fn f 0 with
   |none=>
    exfalso
    have h1:zE T m f 0 vs s=.stuck:=by
     cases m with
     |zero=>rfl
     |succ m=>simp only[zE,hfn];rfl
    have h2:zq T m f 0 vs s=Ab:=by
     cases m with
     |zero=>rfl
     |succ m=>simp only[zq,hfn]
    rw[h1,h2]at wt
    exact wt
   |some F=>
    obtain⟨fa2,fd2,e1,e2,e3,e4,e5⟩:=(sd.lv m (Ag _)).ex f 0 F hfn
    have notFr:∀x b,(x,AH)∈lsc.names→X.env.cells.lookup x=some b→b ∉ L2.frs X.stack:=fun x b hx hb hm=>by
     have hcl:=fcell _ hx rfl
     have hfn':X.fn x=true:=by
      rcases (o.scp.loc x (.inr hcl)).2 with z|z
      . exact z
      . rcases o.scp.cf x (.inl hcl) with y|y
        . have y':X.env.scope.names.lookup x=some .cell:=y
          rw[z]at y';cases y'
        . have y':X.env.scope.names.lookup x=some .free:=y
          rw[z]at y';cases y'
     have hab:=I.ok.cab x b hfn' hb
     rcases Ak.mp (I.oj b hm) with z|z
     . exact I.cne x b hb z
     . obtain⟨_,ob2,e,_⟩:=I.ok.vv.mem z
       exact absurd (AA (An e) hab) (Bb _)
    have L:L2.kS X.stack h' H' lf c2 (X.env.qual++("<lambda>":Str)) (.Call (.Name f p2) ys [] p3) lsc (xj X.env.cells lsc.names []) ((X.mg "__name__").getD .none) ctv N σ:=by
     refine⟨obj,nl,nf,cdr,fun x y b z1 z2=>I.ok.inj x y b (clk x b z1).2 (clk y b z2).2,fun x hx=>lookup_mem (uz (AZ hx)),fun x b e=>?_,fun i x v z1 z2 z3=>?_,by rw[←o.scp.hN];exact I'.len,k1,k2,k3,fun x hx=>?_⟩
     . obtain⟨y1,y2⟩:=clk x b e
       exact⟨I'.cell x b y2,I'.freeC x b y2,notFr x b y1 y2⟩
     . have hm3:=AZ z3
       have hcl:=fcell _ hm3 rfl
       obtain⟨mm,hn,hl⟩:=I'.loc
       obtain⟨u,ru,lk⟩:=hl i x v (by rw[o.scp.hN];exact z1) z2 (o.scp.vis x (.inr (.inl hcl)))
       rcases lk with⟨y,_⟩|⟨_,b,y2,y3⟩
       . rcases o.scp.cf x (.inl hcl) with y'|y'
         . rw[y]at y';cases y'
         . rw[y]at y';cases y'
       . obtain⟨b',hb'⟩:=lookup_mem (uz (cells:=X.env.cells) (acc:=[]) hm3)
         have:=(clk x b' hb').2
         rw[y2]at this;cases this
         exact⟨u,b,ru,hb',y3⟩
     . rcases k4 x hx with z|z
       . rw[z];exact⟨nofun,nofun⟩
       . rw[z.1];exact⟨nofun,nofun⟩
    refine DZ (CG (L2.cS (EE:=fun cls H2=>∃(cc:Str) (as:List Val) (s':Sto) (ρ2:Own) (C:Addr),((∀v s1,zE T m f 0 vs s≠.ok v s1)∧zq T m f 0 vs s=some (cc,as,s'))∧Ext ρ H' ρ2 H2∧HR X.K X.mg ρ2 s' H2∧X.mg cc=some (.ref C)∧cls=.ref C)
     (Q:=Q) (tb:=fun σ1 H1 Q1=>L2.cx (spX T X.K X.mg m f 0) [] (fun cls _ H2=>∃(cc:Str) (as:List Val) (s':Sto) (ρ2:Own) (C:Addr),((∀v s1,zE T m f 0 vs s≠.ok v s1)∧zq T m f 0 vs s=some (cc,as,s'))∧Ext ρ H' ρ2 H2∧HR X.K X.mg ρ2 s' H2∧X.mg cc=some (.ref C)∧cls=.ref C) (tVs X.K X.mg env s (zi (zE T m) T.gl env es s)) σ1 H1 Q1)
     I'.vL o.room.hd (by have:=o.room.dp;omega) SF' KF hhue L (fun vL s' H2=>?_) ?_ fun cls H2 hEE=>?_) fun r s' hres=>?_)
    . cases ys with
      |nil=>cases h11
      |cons y ys=>
       have hp2:=h10
       rw[zo,Aa]at hp2
       have okL:Ok T m lsc N (L2.rB (L2.CXE X.prog X.w) X.prog X.w X.K X.mg X.base N (X.env.qual++("<lambda>":Str)) lsc lf (.ref c2) (xj X.env.cells lsc.names []) (X.A.deeper vL) (vL::X.stack) s' H2 (fun cls _ H2=>∃(cc:Str) (as:List Val) (s':Sto) (ρ2:Own) (C:Addr),((∀v s1,zE T m f 0 vs s≠.ok v s1)∧zq T m f 0 vs s=some (cc,as,s'))∧Ext ρ H' ρ2 H2∧HR X.K X.mg ρ2 s' H2∧X.mg cc=some (.ref C)∧cls=.ref C)).nox:=by
        refine⟨rfl,YH o.room _ _,⟨rfl,o.scp.nd,fun x hx=>hx,fun x hx=>?_,fun x hx=>hx,fun x hx=>hx⟩,fun f' v' F' hf'=>?_,o.gls,o.blt,rfl,o.no,fun m' hm' hmd'=>⟨sd.sc,fun j hj=>sd.lv j (by omega)⟩,fun _ ⟨x,hx⟩ _=>?_⟩
        . exfalso
          rcases hx with hx|hx
          . rcases k4 _ (AZ hx) with z|z
            . cases z
            . cases z.1
          . rcases k4 _ (AZ hx) with z|z
            . cases z
            . cases z.1
        . obtain⟨fa3,fd3,y1,y2,y3,y4,y5⟩:=(sd.lv m (Ag _)).ex f' v' F' hf'
          exact⟨⟨fa3,fd3,y1,y2,y3,y4⟩⟩
        . exfalso
          rcases k4 _ (AZ hx) with z|z
          . cases z
          . cases z.1
       exact L2.oO e5 (YH o.room _ _) h6 e1 e2 e3 .nil L2.lT (lS (oM es h8 lsc N _ _ okL h9 h10 env s)) h7 (L2.zm (zZ hp2.1)) (xw hp2.2)
    . refine⟨ρ,hr',er.mono X0,?_⟩
      rw[ho]
      intro ρ1 xs H1 x1 hr1 r1
      refine⟨ρ1,s,vs,hr1,by rw[AY];exact r1,?_⟩
      cases hres:zE T m f 0 vs s with
      |ok v s'=>
       rw[hres]at wt
       refine .inl fun ρ2 x H2 x2 hr2 r2=>?_
       have X2:=X0.trans hr' (x1.trans hr1 x2)
       cases md with
       |true=>exact wt ρ2 x H2 X2 hr2 r2
       |false=>exact wt ρ2 _ H2 X2 hr2 (.str _)
      |exc _ _ _=>
       rw[hres]at wt
       cases hx:zq T m f 0 vs s with
       |none=>rw[hx]at wt;exact wt.elim
       |some r=>
        obtain⟨cc,as,s'⟩:=r
        exact .inr fun ρ2 H2 x2 hr2 C hC=>⟨cc,as,s',ρ2,C,⟨zF rfl,rfl⟩,x1.trans hr1 x2,hr2,hC,rfl⟩
      |stuck=>
       rw[hres]at wt
       cases hx:zq T m f 0 vs s with
       |none=>rw[hx]at wt;exact wt.elim
       |some r=>
        obtain⟨cc,as,s'⟩:=r
        exact .inr fun ρ2 H2 x2 hr2 C hC=>⟨cc,as,s',ρ2,C,⟨zF rfl,rfl⟩,x1.trans hr1 x2,hr2,hC,rfl⟩
    . obtain⟨cc,as,s',ρ2,C,⟨hno,hexc⟩,x2,hr2,hC,rfl⟩:=hEE
      have wt:yg X.K X.mg (RD X.K X.mg) ρ H (match T.xc.lookup cc with|some w=>.ok (.str w) s'|Ab=>.stuck) Q:=by
       rw[hexc]at wt
       cases hn:zE T m f 0 vs s with
       |ok v s1=>exact absurd hn (hno v s1)
       |exc _ _ _=>rw[hn]at wt;exact wt
       |stuck=>rw[hn]at wt;exact wt
      cases hw:T.xc.lookup cc with
      |none=>rw[hw]at wt;exact wt.elim
      |some w=>
       rw[hw]at wt
       obtain⟨C',i,x,c1,c2,c3,c4,c5,c6,c7⟩:=CF cc w hw
       rw[hC]at c1;cases c1
       refine⟨C,cc,i,x,rfl,c2,c3,c4,c5,fun _=>by rw[←c6];exact c7,fun H3 sm=>?_⟩
       obtain⟨hr3,x3⟩:=hr2.Up sm
       have:=wt ρ2 (.str w) H3 (X0.trans hr' (x2.trans hr2 x3)) hr3 (.str w)
       rw[←c6];exact this
    . cases r with
      |error e=>exact AJ hres
      |ok fl=>
       cases fl with
       |ret u=>exact I'.after hres
       |next=>exact AJ hres
       |brk=>exact AJ hres
       |cont=>exact AJ hres
end
end M
end
section
namespace M
open PySem
section
variable {T:Tbl}{n:Nat}
theorem XE{a:Ex}(ja:JE T n a):JE T n (.not a):=by
 intro sc N X e o h env s
 simp only[ck]at h
 split at h
 . exact XX (ja _ _ _ _ o h env s)
 . cases h
theorem XA{op:Cop}{a b:Ex}(ja:JE T n a)(jb:JE T n b):JE T n (.cmp op a b):=by
 intro sc N X e o h env s
 simp only[ck]at h
 split at h
 . simp only[Aa,decide_eq_true_eq]at h
   obtain⟨⟨⟨⟨k1,rfl⟩,h1⟩,h2⟩,h3⟩:=h
   exact Yd (ja _ _ _ _ o h1 env s) (fun s1=>jb _ _ _ _ o h2 env s1) fun ta tb pa pb=>L2.jD (v7 o.room op k1) pa pb (xu h3)
 . cases h
theorem fY{op op':Cop}{a b c:Ex}(ja:JE T n a)(jb:JE T n b)(jc:JE T n c):JE T n (.chain op op' a b c):=by
 intro sc N X e o h env s
 simp only[ck]at h
 split at h
 . simp only[Aa,decide_eq_true_eq]at h
   obtain⟨⟨⟨⟨⟨⟨k1,rfl⟩,k2,rfl⟩,h3⟩,h4⟩,h5⟩,h6⟩:=h
   exact fq k1 k2 o.room (ja _ _ _ _ o h3 env s) (fun s1=>jb _ _ _ _ o h4 env s1) (fun s1=>jc _ _ _ _ o h5 env s1) h6
 . cases h
theorem Y8{a:Ex}{es:Exs}(ja:JE T n a)(jl:JL T n es):JE T n (.andE a es):=by
 intro sc N X e o h env s
 simp only[ck]at h
 split at h
 . rename_i x xs pos
   simp only[Aa]at h
   obtain⟨h1,h2⟩:=h
   cases es with
   |nil=>
    simp only[ckL]at h2
    split at h2
    . exact L2.lU (ja _ _ _ _ o h1 env s)
    . cases h2
   |cons b es'=>
    cases xs with
    |nil=>cases h2
    |cons y ys=>exact fm (ja _ _ _ _ o h1 env s) fun s1=>(jl _ _ _ _ o h2).2.1 y ys pos rfl env s1
 . cases h
theorem XB{c:Cn}{a b:Ex}(jc:JC T n c)(ja:JE T n a)(jb:JE T n b):JE T n (.ife c a b):=by
 intro sc N X e o h env s
 simp only[ck]at h
 split at h
 . simp only[Aa]at h
   exact XU (jc _ _ _ _ o h.1.1 env s) (fun s1=>ja _ _ _ _ o h.1.2 env s1) (fun s1=>jb _ _ _ _ o h.2 env s1)
 . cases h
theorem mj{f:Str}{ver:Nat}(hv:ver<100)(h:T.fn f ver=none)(vs:List Val)(s:Sto):zE T n f ver vs s=.stuck:=by
 cases n with
 |zero=>rfl
 |succ n=>
  have h1:decide (ver=100)=false:=decide_eq_false (by omega)
  have h2:decide (ver=101)=false:=decide_eq_false (by omega)
  simp only[zE,h,h1,h2,Di,Bool.or_self,AV,if_false]
theorem aE{f:Str}{ver:Nat}{es:Exs}(jl:JL T n es):JE T n (.call f ver es):=by
 intro sc N X e o h env s
 simp only[ck]at h
 split at h
 . rename_i hver
   split at h
   . rename_i x p xs pos
     simp only[Aa,decide_eq_true_eq,xn,AX]at h
     obtain⟨⟨⟨⟨rfl,h2⟩,h3⟩,h4⟩,h5⟩:=h
     show L2.PE X _ (tV X.K X.mg env s ((zi (zE T n) T.gl env es s).bind fun vs s1=>zE T n x ver vs s1))
     cases hf:T.fn x ver with
     |none=>
      refine zJ fun v s' e=>?_
      cases hv:zi (zE T n) T.gl env es s with
      |ok vs s1=>rw[hv]at e;simp only[zV,mj hver hf]at e;cases e
      |exc _ _ _=>rw[hv]at e;cases e
      |stuck=>rw[hv]at e;cases e
     |some F=>
      have C:=o.fns x ver F hf
      cases xs with
      |nil=>
       cases es with
       |nil=>exact fo C o.room (o.scp.gl x h2) h3
       |cons _ _=>cases h4
      |cons y ys=>exact aL C o.room (o.scp.gl x h2) h3 h5 (by simp) ((jl _ _ _ _ o h4).1 h5 env s)
   . cases h
 . rename_i hver
   split at h
   . rename_i x a y ys lsc hv
     simp only[Aa,decide_eq_true_eq,xn,AX]at h
     obtain⟨⟨⟨⟨⟨⟨⟨⟨⟨⟨⟨rfl,h2⟩,h3⟩,h4⟩,rfl⟩,h6⟩,h7⟩,h8⟩,h9⟩,h10⟩,h11⟩,h12⟩:=h
     obtain⟨p1,p2,p3,p4,p5,rfl⟩:=qC hv
     exact aO o hver h2 h3 h4 h6 h7 h8 h9 h10 h11 h12 env s
   . cases h
theorem Yc(f:Bf):f.nm∈xh:=by cases f<;>decide
theorem Y9{f:Bf}{m:Bool}{es:Exs}(jl:JL T n es):JE T n (.blt f m es):=by
 intro sc N X e o h env s
 simp only[ck]at h
 split at h
 . rename_i x p y ys pos
   simp only[Aa,decide_eq_true_eq,xn]at h
   obtain⟨⟨⟨⟨k1,rfl⟩,h2⟩,h3⟩,h4⟩:=h
   exact XS k1 o.calm o.room (o.scp.gl _ h2) (o.blt _ (Yc f)) h4 ((jl _ _ _ _ o h3).1 h4 env s)
 . cases h
theorem j6{m:Bool}{z a w:Ex}(_:JE T n z)(ja:JE T n a):JE T n (.listRange m z a w):=by
 intro sc N X e o h env s
 simp only[ck]at h
 split at h
 . rename_i x p y p2 c pos2 pos
   simp only[Aa,xn]at h
   obtain⟨⟨⟨⟨hw,h3⟩,h4⟩,h5⟩,h6⟩:=h
   replace h3:=of_decide_eq_true h3
   replace h4:=of_decide_eq_true h4
   split at hw
   case isTrue htx=>
    obtain⟨t,rfl⟩:=b9 htx
    simp only[Aa,decide_eq_true_eq]at hw
    obtain⟨⟨h1,rfl⟩,rfl⟩:=hw
    obtain rfl:=fU h1
    have je:=ja _ _ _ _ o h5 env s
    show L2.PE X _ (tV X.K X.mg env s ((evE (zE T n) T.gl env a s).bind fun y s2=>lF m .none y (.str t) s2))
    cases ho:evE (zE T n) T.gl env a s with
    |ok v s1=>
     rw[ho]at je
     have hs1:AM [c] X.env=(false,eval c X.env)::AM [] X.env:=L2.zm (zZ h6)
     have inner:=L2.wZ (p:=p2) (pos:=pos2) (L2.jo o.calm) (o.scp.gl _ h4) (o.blt _ (by decide)) PySem.Pv.boot_set (L2.pac je L2.yn (zZ h6)) (he:=hs1)
     refine zf (L2.uc (p:=p) (pos:=pos) L2.jf (o.scp.gl _ h3) (o.blt _ (by decide)) PySem.boot_len (L2.pac inner L2.yn rfl)) fun σ H Q ⟨ρ,hr,er,w⟩=>⟨ρ,hr,er,fun ρ1 x H1 x1 hr1 r1=>?_⟩
     have w':yg X.K X.mg (RD X.K X.mg) ρ1 H1 (lF m .none v (.str t) s1) Q:=w.mono x1 hr1
     simp only[lF]at w'
     split at w'
     . rename_i vs hv
       split at w'
       . rename_i ns hi
         split at w'
         . rename_i hz
           obtain⟨a',ys,rfl,hq,q⟩:=ly hr1 r1 hv
           obtain rfl:=RDs.rL q hi
           refine⟨a',ns,rfl,hq,hz,fun l S hl=>⟨l,S,L2.dN ns,rfl,L2.zN,Ax (L2.VT ns) hz,?_⟩⟩
           exact w' _ _ _ (Ext.new hr1 hl _) (hr1.more hl _) (.int _)
         . exact w'.elim
       . exact w'.elim
     . exact w'.elim
    |exc _ _ _=>exact zJ (zF rfl)
    |stuck=>exact zJ (zF rfl)
   cases hw
 . cases h
theorem aG{f:Mf}{m:Bool}{a:Ex}{es:Exs}(ja:JE T n a)(jl:JL T n es):JE T n (.yx f m a es):=by
 intro sc N X e o h env s
 simp only[ck]at h
 split at h
 . rename_i ob x ap y cp
   simp only[Aa,decide_eq_true_eq]at h
   obtain⟨⟨⟨⟨⟨⟨rfl,h1⟩,h2⟩,h3⟩,h4⟩,h5⟩,hm⟩:=h
   obtain⟨b,rfl,jb⟩:=(jl _ _ _ _ o h2).2.2.2 y rfl h3
   exact fv hm h4 h3 h5 (ja _ _ _ _ o h1 env s) fun s1=>jb env s1
 . cases h
theorem Vj{m:Bool}{a:Ex}{lo hi st:OEx}(ja:JE T n a)(j1:JO T n lo)(j2:JO T n hi)(j3:JO T n st):JE T n (.sl m a lo hi st):=by
 intro sc N X e o h env s
 simp only[ck]at h
 split at h
 . simp only[Aa]at h
   obtain⟨⟨⟨h1,h2⟩,h3⟩,h4⟩:=h
   obtain⟨p3,q3⟩:=j3 _ _ _ _ o h4
   refine Vo (ja _ _ _ _ o h1 env s) (fun s1=>(j1 _ _ _ _ o h2).1 env s1) (fun s1=>(j2 _ _ _ _ o h3).1 env s1) (fun s1=>p3 env s1) ?_
   rcases q3 with⟨e1,e2⟩|⟨e',e1,e2⟩
   . exact .inl ⟨e1,fun s1=>e2 env s1⟩
   . exact .inr ⟨e',e1,fun s1 s2=>e2 env s1 s2⟩
 . cases h
theorem aF{m:Bool}{N':List Str}{fr:List (Option Nat)}{elt:Ex}{t:Tgt}{it:Itb}{ifs:Cns}(je:JE T n elt)(ji:JI T n it)(jc:JCs T n ifs):JE T n (.comp m N' fr elt t it ifs):=by
 intro sc N X e o h env s
 simp only[ck]at h
 split at h
 . rename_i x tg iter fs csc cpos
   simp only[Aa,decide_eq_true_eq]at h
   obtain⟨⟨⟨⟨⟨⟨h1,h2⟩,h3⟩,h4⟩,h5⟩,h6⟩,h7⟩:=h
   have S:=Zq o.scp h1
   have oc:=o.comp S h2
   obtain⟨g,pg,tg'⟩:∃g,(∀C s0 H0 ex,L2.PG (X.comp N' csc C s0 H0 ex) tg g)∧qG X.K X.mg t g:=by
    cases t with
    |nm i=>
     cases tg with
     |Name y p=>
      simp only[ckT,Aa,AO,decide_eq_true_eq]at h3
      exact⟨_,fun C s0 H0 ex=>jH (oc C s0 H0 ex).scp h3.1 h3.2,oo⟩
     |_=>cases h3
    |nms is=>
     cases tg with
     |Tuple es k p=>
      simp only[ckT,Aa,decide_eq_true_eq]at h3
      refine⟨_,fun C s0 H0 ex=>?_,uo (is:=is)⟩
      obtain⟨a,b,c⟩:=wa (oc C s0 H0 ex).scp h3.1
      exact L2.oP (X:=X.comp N' csc C s0 H0 ex) o.calm a b c
     |_=>cases h3
   have rule:L2.PE X (.ListComp x [⟨tg,iter,fs,0⟩] csc cpos) (L2.tj fr (uI X.K X.mg (zE T n) T.gl it) g (uTs X.K X.mg (zE T n) T.gl ifs) fun acc=>L2.pC acc (uE X.K X.mg (zE T n) T.gl elt)):=
    L2.jF o.calm S (Wb fun env s=>ji _ _ _ _ _ o h4 env s) pg (fun C s0 H0 ex=>(jc _ _ _ _ (oc C s0 H0 ex) h5).2.2) (fun C s0 H0 ex=>UT (X:=X.comp N' csc C s0 H0 ex) fun env s=>je _ _ _ _ (oc C s0 H0 ex) h6 env s) (wu h7)
   refine zf rule fun σ H Q hq=>qi (env:=env) (s:=s) (chk:=false) (m:=m) (body:=ur (zE T n) T.gl elt ifs) tg' tu (fun acc ρ0 H0 hn=>mT hn) ?_ fun _ r s1 p s2 hl=>?_
   . simp only[AV,false_implies,if_true];exact hq
   . have:=tQ hl
     simpa using this
 . cases h
theorem XH:JL T n .nil:=by
 intro sc N X es o h
 simp only[ckL]at h
 split at h
 . exact⟨fun _ env s=>kr,⟨fun e es' pos z=>(nomatch z),⟨fun e es' pos z=>(nomatch z),fun y z=>(nomatch z)⟩⟩⟩
 . cases h
theorem aI{a:Ex}{as:Exs}(ja:JE T n a)(jl:JL T n as):JL T n (.cons a as):=by
 intro sc N X es o h
 simp only[ckL]at h
 split at h
 . rename_i e es
   simp only[Aa]at h
   obtain⟨h1,h2⟩:=h
   obtain⟨l1,l2,l3,l4⟩:=jl _ _ _ _ o h2
   refine⟨fun hp env s=>?_,fun e' es' pos z env s=>?_,fun e' es' pos z env s=>?_,fun y z hp=>?_⟩
   . rw[zo,Aa]at hp
     exact nR hp.1 (ja _ _ _ _ o h1 env s) fun s1=>l1 hp.2 env s1
   . cases as with
     |nil=>
      simp only[ckL]at h2
      split at h2
      . exact L2.lU (ja _ _ _ _ o h1 env s)
      . cases h2
     |cons b as'=>
      cases es with
      |nil=>cases h2
      |cons y ys=>exact fm (ja _ _ _ _ o h1 env s) fun s1=>l2 y ys pos rfl env s1
   . cases as with
     |nil=>
      simp only[ckL]at h2
      split at h2
      . exact L2.lU (ja _ _ _ _ o h1 env s)
      . cases h2
     |cons b as'=>
      cases es with
      |nil=>cases h2
      |cons y ys=>exact Vn (ja _ _ _ _ o h1 env s) fun s1=>l3 y ys pos rfl env s1
   . cases z
     cases as with
     |nil=>exact⟨a,rfl,fun env s=>ja _ _ _ _ o h1 env s⟩
     |cons _ _=>cases h2
 . cases h
theorem Vk:JO T n .no:=by
 intro sc N X e o h
 simp only[ckO]at h
 split at h
 . exact⟨fun env s=>Vq,.inl ⟨rfl,fun env s1=>rfl⟩⟩
 . cases h
theorem XI{a:Ex}(ja:JE T n a):JO T n (.yes a):=by
 intro sc N X e o h
 simp only[ckO]at h
 split at h
 . refine⟨fun env s=>XZ (ja _ _ _ _ o h env s),.inr ⟨_,rfl,fun env s1 s2 z=>?_⟩⟩
   have z':((evE (zE T n) T.gl env a s1).bind fun v s1=>match v with|.int i=>.ok (some i) s1|_=>.stuck)=.ok none s2:=z
   cases hv:evE (zE T n) T.gl env a s1 with
   |ok v s3=>rw[hv]at z';cases v<;>cases z'
   |exc _ _ _=>rw[hv]at z';cases z'
   |stuck=>rw[hv]at z';cases z'
 . cases h
theorem Y7{c:Cn}(jc:JC T n c):JC T n (.not c):=by
 intro sc N X e o h env s
 simp only[ckC]at h
 split at h
 . exact Xd (jc _ _ _ _ o h env s)
 . cases h
theorem Y6{c:Cn}{cs:Cns}(jc:JC T n c)(jcs:JCs T n cs):JC T n (.and c cs):=by
 intro sc N X e o h env s
 simp only[ckC]at h
 split at h
 . simp only[Aa]at h
   exact(eD (jc _ _ _ _ o h.1 env s) fun s1=>(jcs _ _ _ _ o h.2).1 _ env s1).pt
 . cases h
theorem Vi{c:Cn}{cs:Cns}(jc:JC T n c)(jcs:JCs T n cs):JC T n (.or c cs):=by
 intro sc N X e o h env s
 simp only[ckC]at h
 split at h
 . simp only[Aa]at h
   exact(Z5 (jc _ _ _ _ o h.1 env s) fun s1=>(jcs _ _ _ _ o h.2).2.1 _ env s1).pt
 . cases h
theorem aD:JCs T n .nil:=by
 intro sc N X es o h
 simp only[mw]at h
 split at h
 . exact⟨fun pos env s=>m9,fun pos env s=>iB,.nil⟩
 . cases h
theorem fW{c:Cn}{cs:Cns}(jc:JC T n c)(jcs:JCs T n cs):JCs T n (.cons c cs):=by
 intro sc N X es o h
 simp only[mw]at h
 split at h
 . simp only[Aa]at h
   obtain⟨a,b,d⟩:=jcs _ _ _ _ o h.2
   exact⟨fun pos env s=>eD (jc _ _ _ _ o h.1 env s) fun s1=>a pos env s1,fun pos env s=>Z5 (jc _ _ _ _ o h.1 env s) fun s1=>b pos env s1,.cons (Tn fun env s=>jc _ _ _ _ o h.1 env s) d⟩
 . cases h
theorem XG{a:Ex}(ja:JE T n a):JI T n (.val a):=fun sc N X e tg o h env s=>XY (ja _ _ _ _ o (by simpa only[ckI] using h) env s)
theorem j7{a:Ex}(ja:JE T n a):JI T n (.range1 a):=by
 intro sc N X e tg o h env s
 simp only[ckI]at h
 split at h
 . simp only[Aa,decide_eq_true_eq,xn]at h
   obtain⟨⟨⟨rfl,h1⟩,h2⟩,h3⟩:=h
   exact j9 h3 (o.scp.gl _ h1) (o.blt _ (by decide)) (ja _ _ _ _ o h2 env s)
 . cases h
theorem j8{a b:Ex}(ja:JE T n a)(jb:JE T n b):JI T n (.range2 a b):=by
 intro sc N X e tg o h env s
 simp only[ckI]at h
 split at h
 . simp only[Aa,decide_eq_true_eq,xn]at h
   obtain⟨⟨⟨⟨⟨rfl,h1⟩,h2⟩,h3⟩,h4⟩,h5⟩:=h
   exact iA h4 h5 (o.scp.gl _ h1) (o.blt _ (by decide)) (ja _ _ _ _ o h2 env s) fun s1=>jb _ _ _ _ o h3 env s1
 . cases h
theorem aH{a:Ex}(ja:JE T n a):JI T n (.enum a):=by
 intro sc N X e tg o h env s
 simp only[ckI]at h
 split at h
 . simp only[Aa,decide_eq_true_eq,xn]at h
   obtain⟨⟨⟨rfl,h1⟩,h2⟩,h3⟩:=h
   exact aP h3 (o.scp.gl _ h1) (o.blt _ (by decide)) (ja _ _ _ _ o h2 env s)
 . cases h
end
section
variable (T:Tbl)(n:Nat)
mutual
theorem jE:∀a:Ex,JE T n a
 |.lit _=>ft
 |.var _=>fw
 |.gl _=>Z4
 |.ty _ _=>Vp
 |.bin _ _ a b=>fX (jE a) (jE b)
 |.neg a=>fZ (jE a)
 |.not a=>XE (jE a)
 |.cmp _ a b=>XA (jE a) (jE b)
 |.chain _ _ a b c=>fY (jE a) (jE b) (jE c)
 |.andE a es=>Y8 (jE a) (jL es)
 |.orE _ _=>fun sc N X e o h=>by cases h
 |.ife c a b=>XB (jC c) (jE a) (jE b)
 |.tup es=>XF (jL es)
 |.lst _ es=>XD (jL es)
 |.dct0=>aM
 |.dctN _=>aN
 |.ixD _ _=>fun sc N X e o h=>by cases h
 |.call _ _ es=>aE (jL es)
 |.blt _ _ es=>Y9 (jL es)
 |.maxD _ _=>fun sc N X e o h=>by cases h
 |.yx _ _ a es=>aG (jE a) (jL es)
 |.ix a b=>Z3 (jE a) (jE b)
 |.sl _ a lo hi st=>Vj (jE a) (jO lo) (jO hi) (jO st)
 |.comp _ _ _ elt _ it ifs=>aF (jE elt) (jI it) (jCs ifs)
 |.comp2 _ _ _ _ _ _ _ _ _ _=>fun sc N X e o h=>by cases h
 |.listRange _ z a _=>j6 (jE z) (jE a)
theorem jL:∀a:Exs,JL T n a
 |.nil=>XH
 |.cons a as=>aI (jE a) (jL as)
theorem jO:∀a:OEx,JO T n a
 |.no=>Vk
 |.yes a=>XI (jE a)
theorem jC:∀a:Cn,JC T n a
 |.val (.cmp _ a b)=>XQ (jE a) (jE b)
 |.val (.chain _ _ a b c)=>fk (jE a) (jE b) (jE c)
 |.val (.lit v)=>zy (jE (.lit v)) rfl
 |.val (.var v)=>zy (jE (.var v)) rfl
 |.val (.gl v)=>zy (jE (.gl v)) rfl
 |.val (.ty v w)=>zy (jE (.ty v w)) rfl
 |.val (.bin m o a b)=>zy (jE (.bin m o a b)) rfl
 |.val (.neg a)=>zy (jE (.neg a)) rfl
 |.val (.not a)=>zy (jE (.not a)) rfl
 |.val (.andE a b)=>zy (jE (.andE a b)) rfl
 |.val (.orE a b)=>zy (jE (.orE a b)) rfl
 |.val (.ife a b c)=>zy (jE (.ife a b c)) rfl
 |.val (.tup a)=>zy (jE (.tup a)) rfl
 |.val (.lst m a)=>zy (jE (.lst m a)) rfl
 |.val .dct0=>zy (jE .dct0) rfl
 |.val (.dctN t)=>zy (jE (.dctN t)) rfl
 |.val (.ixD a b)=>zy (jE (.ixD a b)) rfl
 |.val (.call a b c)=>zy (jE (.call a b c)) rfl
 |.val (.blt a b c)=>zy (jE (.blt a b c)) rfl
 |.val (.maxD a b)=>zy (jE (.maxD a b)) rfl
 |.val (.yx a b c d)=>zy (jE (.yx a b c d)) rfl
 |.val (.ix a b)=>zy (jE (.ix a b)) rfl
 |.val (.sl a b c d e)=>zy (jE (.sl a b c d e)) rfl
 |.val (.comp a b c d e f g)=>zy (jE (.comp a b c d e f g)) rfl
 |.val (.comp2 a b c d e f g h i j)=>zy (jE (.comp2 a b c d e f g h i j)) rfl
 |.val (.listRange a b c d)=>zy (jE (.listRange a b c d)) rfl
 |.not c=>Y7 (jC c)
 |.and c cs=>Y6 (jC c) (jCs cs)
 |.or c cs=>Vi (jC c) (jCs cs)
theorem jCs:∀a:Cns,JCs T n a
 |.nil=>aD
 |.cons c cs=>fW (jC c) (jCs cs)
theorem jI:∀a:Itb,JI T n a
 |.val a=>XG (jE a)
 |.range1 a=>j7 (jE a)
 |.range2 a b=>j8 (jE a) (jE b)
 |.enum a=>aH (jE a)
 |.zip _ _=>fun sc N X e tg o h=>by cases h
end
end
end M
end
section
namespace M
open PySem
section
variable (K:KF)(mg:Str→Option Value)
def qU(ρ:Own)(H:L2.Hp)(o:Out Fl)(D:L2.Ends):Prop:=
 match o with
 |.ok (.nx e) s'=>∀ρ' H' σ',Ext ρ H ρ' H'→HR K mg ρ' s' H'→ER K mg ρ' H' e σ'→D.nx σ' H'
 |.ok (.bk e) s'=>∀ρ' H' σ',Ext ρ H ρ' H'→HR K mg ρ' s' H'→ER K mg ρ' H' e σ'→D.bk σ' H'
 |.ok (.ct e) s'=>∀ρ' H' σ',Ext ρ H ρ' H'→HR K mg ρ' s' H'→ER K mg ρ' H' e σ'→D.ct σ' H'
 |.ok (.rt v) s'=>∀ρ' H' x,Ext ρ H ρ' H'→HR K mg ρ' s' H'→RD K mg ρ' H' v x→D.rt x H'
 |_=>False
noncomputable def tSt(env:Env)(s:Sto)(o:Out Fl):L2.TS:=fun D σ H=>∃ρ,HR K mg ρ s H∧ER K mg ρ H env σ∧qU K mg ρ H o D
end
section
variable {K:KF}{mg:Str→Option Value}{ρ ρ':Own}{H H':L2.Hp}
theorem qU.mono{s1:Sto}{o:Out Fl}{D:L2.Ends}(w:qU K mg ρ H o D)(x:Ext ρ H ρ' H')(h:HR K mg ρ' s1 H'):qU K mg ρ' H' o D:=by
 cases o with
 |ok fl s'=>
  cases fl with
  |nx e=>exact fun ρ2 H2 σ2 x2 h2 r2=>w ρ2 H2 σ2 (x.trans h x2) h2 r2
  |bk e=>exact fun ρ2 H2 σ2 x2 h2 r2=>w ρ2 H2 σ2 (x.trans h x2) h2 r2
  |ct e=>exact fun ρ2 H2 σ2 x2 h2 r2=>w ρ2 H2 σ2 (x.trans h x2) h2 r2
  |rt v=>exact fun ρ2 H2 y x2 h2 r2=>w ρ2 H2 y (x.trans h x2) h2 r2
 |exc _ _ _=>exact w
 |stuck=>exact w
end
noncomputable def uY:Expr→Bool
 |.ListComp ..|.SetComp ..|.DictComp ..=>false
 |_=>true
theorem uk{e:Expr}{t:Option Expr}{l:Nat}{env:BI}(h:uY e=true):Fd e t l env=pure false:=by cases e<;>first|rfl|cases h
theorem tP{e:Expr}{ts:List Expr}{k:Nat}{p:Pos}{l:Nat}{env:BI}:Ek [.Tuple ts k p] e l env=pure false:=by cases e<;>rfl
theorem hV{e o i:Expr}{p:Pos}{l:Nat}{env:BI}:Ek [.Subscript o i p] e l env=pure false:=by cases e<;>rfl
theorem mK{o i e:Expr}{p:Pos}{env:BI}:B1 [.Subscript o i p] e env=pure none:=by cases e<;>rfl
noncomputable def YJ(sc:Scope)(ts vs:List Expr):Bool:=
 match ts with
 |[.Name x px,.Name y py]=>decide (sc.names.lookup x=some .local)&&decide (sc.names.lookup y=some .local)&&(px.line == py.line)&&decide (x≠y)&&!(vs.all (FD 8))&&!(vs.all (E9 8))
 |[.Name x px,.Name y py,.Name z pz]=>decide (sc.names.lookup x=some .local)&&decide (sc.names.lookup y=some .local)&&decide (sc.names.lookup z=some .local)&&(px.line == py.line)&&(px.line == pz.line)&&decide (x≠y)&&decide (x≠z)&&decide (y≠z)&&!(vs.all (FD 8))&&!(vs.all (E9 8))
 |_=>false
noncomputable def YQ(sc:Scope)(ts:List Expr):Bool:=ts.any (fun|.Name x _=>decide (sc.names.lookup x≠some .local)|_=>false)||decide (3<ts.length)
theorem rX{vs:List Expr}(h:zo vs=true):(vs.any fun|.Starred ..=>true|_=>false)=false:=by
 induction vs with
 |nil=>rfl
 |cons v vs ih=>
  rw[zo,Aa]at h
  rw[List.any_cons,ih h.2]
  cases v<;>first|rfl|(have z:=h.1;cases z)
theorem mL{x y:Str}{px py pt pt2:Pos}{kt k2:Nat}{a b:Expr}{env:BI}(hb:env.blockKind=.function)(hx:env.kindOf x=some .local)(hy:env.kindOf y=some .local)(hl:(px.line == py.line)=true)(hne:x≠y)(hp:zo [a,b]=true)
 (hf:[a,b].all (FD 8)=false) (hc:[a,b].all (E9 8)=false):B1 [.Tuple [.Name x px,.Name y py] kt pt] (.Tuple [a,b] k2 pt2) env=pure (some [x,y]):=by
 have hs:=rX hp
 have hl':(py.line == px.line)=true:=by rw[beq_iff_eq]at hl ⊢;exact hl.symm
 unfold B1
 have e1:([x,y].eraseDups.length != [x,y].length)=false:=by
  have:(y == x)=false:=by simpa using Bp hne
  simp[List.eraseDups_cons,this]
 simp only[Ar,A7,hb,hf,hs,hc,hx,hy,hl',List.head?_cons,DC,Option.getD_some,A3,List.filterMap_nil,beq_self_eq_true,FE,if_true]
 have hpos:(G0 x px).pos.line=px.line:=rfl
 refine(if_neg (by decide)).trans ((if_neg (fun z=>Am (hs.symm.trans z))).trans ?_)
 simp only[hpos,beq_self_eq_true,hl',FE,if_true,e1,Ar,A7,bne_self_eq_false,Bool.or_self,AV,if_false]
 exact if_neg (fun z=>Am (e1.symm.trans (by rw[Bool.false_or]at z;exact z)))
theorem qQ{x y z:Str}{px py pz pt pt2:Pos}{kt k2:Nat}{a b c:Expr}{env:BI}(hb:env.blockKind=.function)(hx:env.kindOf x=some .local)(hy:env.kindOf y=some .local)(hz:env.kindOf z=some .local)(hl:(px.line == py.line)=true)(hl2:(px.line == pz.line)=true)
 (hne:x≠y) (hne2:x≠z) (hne3:y≠z) (hp:zo [a,b,c]=true) (hf:[a,b,c].all (FD 8)=false) (hc:[a,b,c].all (E9 8)=false):B1 [.Tuple [.Name x px,.Name y py,.Name z pz] kt pt] (.Tuple [a,b,c] k2 pt2) env=pure (some [x,y,z]):=by
 have hs:=rX hp
 have hl':(py.line == px.line)=true:=by rw[beq_iff_eq]at hl ⊢;exact hl.symm
 have hl2':(pz.line == px.line)=true:=by rw[beq_iff_eq]at hl2 ⊢;exact hl2.symm
 unfold B1
 have e1:([x,y,z].eraseDups.length != [x,y,z].length)=false:=by
  have h1:(y == x)=false:=by simpa using Bp hne
  have h2:(z == x)=false:=by simpa using Bp hne2
  have h3:(z == y)=false:=by simpa using Bp hne3
  simp[List.eraseDups_cons,h1,h2,h3]
 simp only[Ar,A7,hb,hf,hs,hc,hx,hy,hz,hl',hl2',List.head?_cons,DC,Option.getD_some,A3,List.filterMap_nil,beq_self_eq_true,FE,if_true]
 have hpos:(G0 x px).pos.line=px.line:=rfl
 refine(if_neg (by decide)).trans ((if_neg (fun z=>Am (hs.symm.trans z))).trans ?_)
 simp only[hpos,beq_self_eq_true,hl',hl2',FE,if_true,e1,Ar,A7,bne_self_eq_false,Bool.or_self,AV,if_false]
 exact if_neg (fun z=>Am (e1.symm.trans (by rw[Bool.false_or]at z;exact z)))
theorem uO{α β:Type}{f:α→Option β}:∀{l:List α},(∃a∈l,f a=none)→(l.filterMap f).length<l.length
 |[],⟨a,h,_⟩=>by cases h
 |b::l,⟨a,h,e⟩=>by
  rw[A3]
  have hle:=F9 f l
  rcases Ak.mp h with z|z
  . subst z;rw[e];simp only[Ar];omega
  . have:=uO ⟨a,z,e⟩
    cases f b with
    |none=>simp only[Ar];omega
    |some _=>simp only[Ar];omega
theorem gD{ts vs:List Expr}{kt k2:Nat}{pt pt2:Pos}{env:BI}(h:(∃x p,G0 x p∈ts∧env.kindOf x≠some .local)∨3<ts.length):B1 [.Tuple ts kt pt] (.Tuple vs k2 pt2) env=pure none:=by
 unfold B1
 simp only[]
 split
 . rfl
 . rename_i h1
   split
   . rfl
   . rw[if_pos]
     rcases h with⟨x,p,hm,hk⟩|h
     . rw[AO]
       left
       rw[bne_iff_ne]
       refine AD (uO ⟨_,hm,?_⟩)
       have:(env.kindOf x == some .local)=false:=by simpa using hk
       simp only[this,Di,AV,if_false]
     . exfalso
       apply h1
       have:(ts.length == 2||ts.length == 3)=false:=by
        rw[ES]
        constructor<;>(rw[beq_eq_false_iff_ne];omega)
       rw[this];rfl
theorem lz{o i:Expr}{p:Pos}{env:BI}(h:plain i=true)(v:Value):assign (.Subscript o i p) env v=(do
 let ov ←holding [v] (eval o env)
 let iv ←holding [v,ov] (eval i env)
 standAt p
 holding [v,ov,iv] (setItem ov iv v)
 release [v,ov,iv] []):=by
 cases i<;>first|rfl|cases h
section
variable {X:L2.Cx}{env:Env}{s:Sto}
theorem yz{st:Stmt}{t:L2.TS}(h:∀D σ H,¬t D σ H):L2.PS X st t:=fun pins s σ H D I q=>(h D σ H q).elim
theorem Wy{o:Out Fl}(h:∀v s',o≠.ok v s'){D:L2.Ends}{σ:L2.St}{H:L2.Hp}:¬tSt X.K X.mg env s o D σ H:=by
 rintro ⟨ρ,_,_,w⟩
 cases o with
 |ok v s'=>exact h v s' rfl
 |exc _ _ _=>exact w
 |stuck=>exact w
theorem zP{st:Stmt}{o:Out Fl}(h:∀v s',o≠.ok v s'):L2.PS X st (tSt X.K X.mg env s o):=yz fun _ _ _=>Wy h
theorem aR{e:Expr}{o:Out Val}{pos:Pos}(hn:uY e=true)(h:L2.PE X e (tV X.K X.mg env s o)):L2.PS X (.Expr e pos) (tSt X.K X.mg env s (o.bind fun _ s1=>.ok (.nx env) s1)):=by
 cases o with
 |ok v s1=>exact yo (L2.oR h (uk hn)) fun D σ H ⟨ρ,hr,er,w⟩=>⟨ρ,hr,er,fun ρ1 x H1 x1 hr1 r1=>w ρ1 H1 σ x1 hr1 (er.mono x1)⟩
 |exc _ _ _=>exact zP (zF rfl)
 |stuck=>exact zP (zF rfl)
theorem Xb{e:Expr}{o:Out Val}{pos:Pos}(h:L2.PE X e (tV X.K X.mg env s o)):L2.PS X (.Return (some e) pos) (tSt X.K X.mg env s (o.bind fun v s1=>.ok (.rt v) s1)):=by
 cases o with
 |ok v s1=>exact yo (L2.vP h) fun D σ H ⟨ρ,hr,er,w⟩=>⟨ρ,hr,er,fun ρ1 x H1 x1 hr1 r1=>w ρ1 H1 x x1 hr1 r1⟩
 |exc _ _ _=>exact zP (zF rfl)
 |stuck=>exact zP (zF rfl)
theorem fz{i:Nat}{o:Out Val}{st:Stmt}{te:L2.TE}(rule:L2.PS X st (L2.um te (L2.xl i)))(h:∀σ H Q,tV X.K X.mg env s o σ H Q→te σ H Q):L2.PS X st (tSt X.K X.mg env s (o.bind fun v s1=>.ok (.nx (env.set i (some v))) s1)):=by
 cases o with
 |ok v s1=>exact yo rule fun D σ H ⟨ρ,hr,er,w⟩=>h _ _ _ ⟨ρ,hr,er,fun ρ1 x H1 x1 hr1 r1=>w ρ1 H1 _ x1 hr1 ((er.mono x1).set i r1)⟩
 |exc _ _ _=>exact zP (zF rfl)
 |stuck=>exact zP (zF rfl)
theorem aQ{t:Tgt}{g:L2.TG}{o:Out Val}{st:Stmt}{te:L2.TE}(TG:qG X.K X.mg t g)(rule:L2.PS X st (L2.um te g))(h:∀σ H Q,tV X.K X.mg env s o σ H Q→te σ H Q) :
 L2.PS X st (tSt X.K X.mg env s (o.bind fun v s1=>match yi t v env with|some env'=>.ok (.nx env') s1|Ab=>.stuck)):=by
 cases o with
 |ok v s1=>
  show L2.PS X st (tSt X.K X.mg env s (match yi t v env with|some env'=>.ok (.nx env') s1|Ab=>.stuck))
  cases hb:yi t v env with
  |none=>exact zP (zF rfl)
  |some env'=>exact yo rule fun D σ H ⟨ρ,hr,er,w⟩=>h _ _ _ ⟨ρ,hr,er,fun ρ1 x H1 x1 hr1 r1=>TG ρ1 s1 H1 v x env env' σ _ hr1 r1 (er.mono x1) hb fun σ' er'=>w ρ1 H1 σ' x1 hr1 er'⟩
 |exc _ _ _=>exact zP (zF rfl)
 |stuck=>exact zP (zF rfl)
theorem eA{a i e:Expr}{o:Out Val}{f2 f3:Sto→Out Val}{p pos:Pos}(hi0:plain i=true)(h1:L2.PE X e (tV X.K X.mg env s o))(h2:∀s1,L2.PE X a (tV X.K X.mg env s1 (f2 s1)))(h3:∀s1,L2.PE X i (tV X.K X.mg env s1 (f3 s1))) :
 L2.PS X (.Assign [.Subscript a i p] e pos) (tSt X.K X.mg env s (o.bind fun v s1=>(f2 s1).bind fun x s2=>(f3 s2).bind fun y s3=>match x,y with
  |.ref r,.int k=>(match s3[r]? with
   |some (.lst vs)=>(match L2.ixN vs.length k with|some j=>.ok (.nx env) (upd s3 r (vs.set j v))|Ab=>.stuck)
   |_=>.stuck)
  |_,_=>.stuck)):=by
 cases o with
 |ok v s1=>
  have h2':=h2 s1
  simp only[zV]
  cases hb:f2 s1 with
  |ok x s2=>
   rw[hb]at h2'
   have h3':=h3 s2
   simp only[zV]
   cases hc:f3 s2 with
   |ok y s3=>
    rw[hc]at h3'
    simp only[zV]
    have rule:L2.PS X (.Assign [.Subscript a i p] e pos) (L2.um _ (L2.VW _ _ L2.YG)):=L2.dq h1 (L2.Wa h2' h3' L2.set_list (lz hi0)) hV mK
    cases x with
    |ref r=>
     cases y with
     |int k=>
      simp only[]
      cases hs:s3[r]? with
      |none=>exact zP (zF rfl)
      |some cl=>
       cases cl with
       |dS _=>exact zP (zF rfl)
       |dT _=>exact zP (zF rfl)
       |tb _=>exact zP (zF rfl)
       |lst vs=>
        simp only[]
        cases hj:L2.ixN vs.length k with
        |none=>exact zP (zF rfl)
        |some j=>
         refine yo rule fun D σ H ⟨ρ,hr,er,w⟩=>⟨ρ,hr,er,fun ρ1 xv H1 x1 hr1 r1=>⟨ρ1,hr1,er.mono x1,fun ρ2 xo H2 x2 hr2 r2=>⟨ρ2,hr2,(er.mono x1).mono x2,fun ρ3 xi H3 x3 hr3 r3=>?_⟩⟩⟩
         cases r3
         have r2':=r2.mono x3
         cases r2' with
         |ref e0 _=>
          obtain⟨b',xs,e1,e2,q⟩:=hr3.obj r _ hs
          rw[e0]at e1;cases e1
          have xx:=(x1.trans hr1 x2).trans hr2 x3
          refine⟨_,xs,k,j,rfl,rfl,e2,by rw[←q.length];exact hj,?_⟩
          exact w ρ3 _ σ (xx.trans hr3 (Ext.write hr3 e0 e2 _)) (hr3.write e0 e2 (RDs.set ((r1.mono x2).mono x3) j q)) ((er.mono xx).mono (Ext.write hr3 e0 e2 _))
     |_=>exact zP (zF rfl)
    |_=>exact zP (zF rfl)
   |exc _ _ _=>exact zP (zF rfl)
   |stuck=>exact zP (zF rfl)
  |exc _ _ _=>exact zP (zF rfl)
  |stuck=>exact zP (zF rfl)
 |exc _ _ _=>exact zP (zF rfl)
 |stuck=>exact zP (zF rfl)
end
end M
end
section
namespace M
open PySem
section
variable {X:L2.Cx}{env:Env}{s:Sto}
theorem aS{i j:Nat}{o:Out (List Val)}{st:Stmt}{ta:L2.TA}(rule:L2.PS X st (L2.U2 i j ta))(h:∀σ H Q,tVs X.K X.mg env s o σ H Q→ta σ H Q) :
 L2.PS X st (tSt X.K X.mg env s (o.bind fun vs s1=>if vs.length=[i,j].length then .ok (.nx (([i,j].zip vs).foldl (fun e p=>e.set p.1 (some p.2)) env)) s1 else .stuck)):=by
 cases o with
 |ok vs s1=>
  show L2.PS X st (tSt X.K X.mg env s (if vs.length=[i,j].length then .ok (.nx (([i,j].zip vs).foldl (fun e p=>e.set p.1 (some p.2)) env)) s1 else .stuck))
  match vs with
  |[v,w]=>
   refine yo rule fun D σ H ⟨ρ,hr,er,wt⟩=>h _ _ _ ⟨ρ,hr,er,fun ρ1 xs H1 x1 hr1 r1=>?_⟩
   obtain⟨x,y,rfl,rx,ry⟩:=d9 r1
   exact⟨x,y,rfl,wt ρ1 H1 _ x1 hr1 (((er.mono x1).set i rx).set j ry)⟩
  |[]=>exact zP (zF rfl)
  |[_]=>exact zP (zF rfl)
  |_::_::_::r=>exact zP (fun _ _ e=>by simp at e)
 |exc _ _ _=>exact zP (zF rfl)
 |stuck=>exact zP (zF rfl)
theorem Tt{K:KF}{mg:Str→Option Value}{ρ:Own}{H:L2.Hp}{v w z:Val}{xs:List L2.V}(r:RDs K mg ρ H [v,w,z] xs):∃x y t,xs=[x,y,t]∧RD K mg ρ H v x∧RD K mg ρ H w y∧RD K mg ρ H z t:=by
 cases r with
 |cons r1 r2=>
  obtain⟨y,t,rfl,r3,r4⟩:=d9 r2
  exact⟨_,_,_,rfl,r1,r3,r4⟩
theorem aT{i j k:Nat}{o:Out (List Val)}{st:Stmt}{ta:L2.TA}(rule:L2.PS X st (L2.YM i j k ta))(h:∀σ H Q,tVs X.K X.mg env s o σ H Q→ta σ H Q) :
 L2.PS X st (tSt X.K X.mg env s (o.bind fun vs s1=>if vs.length=[i,j,k].length then .ok (.nx (([i,j,k].zip vs).foldl (fun e p=>e.set p.1 (some p.2)) env)) s1 else .stuck)):=by
 cases o with
 |ok vs s1=>
  show L2.PS X st (tSt X.K X.mg env s (if vs.length=[i,j,k].length then .ok (.nx (([i,j,k].zip vs).foldl (fun e p=>e.set p.1 (some p.2)) env)) s1 else .stuck))
  match vs with
  |[v,w,z]=>
   refine yo rule fun D σ H ⟨ρ,hr,er,wt⟩=>h _ _ _ ⟨ρ,hr,er,fun ρ1 xs H1 x1 hr1 r1=>?_⟩
   obtain⟨x,y,t,rfl,rx,ry,rt⟩:=Tt r1
   exact⟨x,y,t,rfl,wt ρ1 H1 _ x1 hr1 ((((er.mono x1).set i rx).set j ry).set k rt)⟩
  |[]=>exact zP (zF rfl)
  |[_]=>exact zP (zF rfl)
  |[_,_]=>exact zP (zF rfl)
  |_::_::_::_::r=>exact zP (fun _ _ e=>by simp at e)
 |exc _ _ _=>exact zP (zF rfl)
 |stuck=>exact zP (zF rfl)
noncomputable def uSs(K:KF)(mg:Str→Option Value)(Φ:Calls)(G:Str→Option Val)(b:Sms):L2.TS:=fun D σ H=>∃env s,tSt K mg env s (zW Φ G env b s) D σ H
theorem Vs{c:Expr}{a b:List Stmt}{o:Out Bool}{f2 f3:Sto→Out Fl}{ta tb:L2.TS}{pos:Pos}(hc:L2.PT X c (tT X.K X.mg env s o))(ha:L2.PSs X a ta)(hb:L2.PSs X b tb)(ia:∀s1 D σ H,tSt X.K X.mg env s1 (f2 s1) D σ H→ta D σ H)(ib:∀s1 D σ H,tSt X.K X.mg env s1 (f3 s1) D σ H→tb D σ H) :
 L2.PS X (.If c a b pos) (tSt X.K X.mg env s (o.bind fun t s1=>if t then f2 s1 else f3 s1)):=by
 cases o with
 |ok v s1=>
  refine yo (L2.dy hc ha hb) fun D σ H ⟨ρ,hr,er,wt⟩=>⟨ρ,hr,er,fun ρ1 x H1 x1 hr1 r1=>?_⟩
  have wt':=wt.mono x1 hr1
  cases r1
  cases v with
  |true=>exact L2.oC (ia s1 D σ H1 ⟨ρ1,hr1,er.mono x1,wt'⟩)
  |false=>exact L2.sD (ib s1 D σ H1 ⟨ρ1,hr1,er.mono x1,wt'⟩)
 |exc _ _ _=>exact zP (zF rfl)
 |stuck=>exact zP (zF rfl)
theorem fI{K:KF}{mg:Str→Option Value}{r:Src}{J:L2.It}{t:Tgt}{g:L2.TG}{body:Env→Sto→Out Fl}{tb:L2.TS}{D:L2.Ends}{ρ:Own}{H:L2.Hp}{σ:L2.St}(W:Walk K mg ρ H r J)(TG:qG K mg t g)(hb:∀env s D σ H,tSt K mg env s (body env s) D σ H→tb D σ H)
 (hr:HR K mg ρ s H) (er:ER K mg ρ H env σ) (w:qU K mg ρ H (vA r t body r.xs env s) D):L2.mC J g tb D σ H:=by
 refine nN (n:=r.xs.length) (fun i σ2 H2=>∃ρ2 s2 env2,HR K mg ρ2 s2 H2∧ER K mg ρ2 H2 env2 σ2∧Ext ρ H ρ2 H2∧vA r t body (r.xs.drop i) env2 s2=vA r t body r.xs env s) ⟨ρ,s,env,hr,er,Ext.refl,by rw[Dk]⟩ ?_ ?_
 . rintro σ2 H2 ⟨ρ2,s2,env2,hr2,er2,x2,h2⟩
   rw[List.drop_length,vA]at h2
   split at h2
   . rename_i ho
     rw[←h2]at w
     exact⟨W.stop ρ2 H2 s2 _ x2.mv hr2 ho rfl,w ρ2 H2 σ2 x2 hr2 er2⟩
   . rw[←h2]at w;exact w.elim
 . rintro i σ2 H2 hi ⟨ρ2,s2,env2,hr2,er2,x2,h2⟩
   rw[BQ hi,vA]at h2
   split at h2
   . rename_i ho
     obtain⟨hgo,hy⟩:=W.go ρ2 H2 s2 i (r.xs[i]) x2.mv hr2 ho (Ae hi)
     refine⟨hgo,fun x H3 y=>?_⟩
     obtain⟨hH,rx⟩:=hy x H3 y
     split at h2
     . rw[←h2]at w;exact w.elim
     . rename_i env' he
       have C3:HR K mg ρ2 s2 H3∧Ext ρ2 H2 ρ2 H3:=by
        rcases hH with e|⟨q,o,hq,e⟩
        . subst e;exact⟨hr2,Ext.refl⟩
        . subst e;exact⟨hr2.more hq o,Ext.new hr2 hq o⟩
       have x3:=x2.trans hr2 C3.2
       refine TG ρ2 s2 H3 _ x env2 env' σ2 _ C3.1 rx (er2.mono C3.2) he fun σ4 er4=>hb env' s2 _ σ4 H3 ⟨ρ2,C3.1,er4,?_⟩
       cases hc:body env' s2 with
       |ok fl s5=>
        rw[hc]at h2
        simp only[zV]at h2
        cases fl with
        |nx e=>exact fun ρ5 H5 σ5 x5 hr5 er5=>⟨ρ5,s5,e,hr5,er5,x3.trans C3.1 x5,h2⟩
        |ct e=>exact fun ρ5 H5 σ5 x5 hr5 er5=>⟨ρ5,s5,e,hr5,er5,x3.trans C3.1 x5,h2⟩
        |bk e=>
         simp only[]at h2
         rw[←h2]at w
         exact fun ρ5 H5 σ5 x5 hr5 er5=>w ρ5 H5 σ5 (x3.trans C3.1 x5) hr5 er5
        |rt v=>
         simp only[]at h2
         rw[←h2]at w
         exact fun ρ5 H5 y5 x5 hr5 r5=>w ρ5 H5 y5 (x3.trans C3.1 x5) hr5 r5
       |exc _ _ _=>rw[hc]at h2;simp only[gc]at h2;rw[←h2]at w;exact w.elim
       |stuck=>rw[hc]at h2;simp only[sk]at h2;rw[←h2]at w;exact w.elim
   . rw[←h2]at w;exact w.elim
theorem Xa{Φ:Calls}{G:Str→Option Val}{it:Itb}{t:Tgt}{b:Sms}{tg iter:Expr}{body:List Stmt}{g:L2.TG}{pos:Pos}(hx:X.xe=fun _ _=>False)(hc:X.calm=true)(hp:plain iter=true)(hi:∀env s,L2.PI X tg iter (tI (K:=X.K) (mg:=X.mg) env s (yv Φ G env it s)))(hg:L2.PG X tg g)(TG:qG X.K X.mg t g)
 (hb:L2.PSs X body (uSs X.K X.mg Φ G b)):L2.PS X (.For tg iter body [] pos) (tSt X.K X.mg env s ((yv Φ G env it s).bind fun r s1=>vA r t (fun e s'=>zW Φ G e b s') r.xs env s1)):=by
 have hpass:PassesOwn (model X.prog X.w) X.A X.env X.xe:=by rw[hx];exact PassesOwn.never
 refine yo (L2.Wg hpass hc (Wb hi) hg hb (wu hp)) fun D σ H ⟨ρ,hr,er,w⟩=>⟨env,s,ρ,hr,er,?_⟩
 cases hv:yv Φ G env it s with
 |ok r s1=>
  rw[hv]at w
  exact fun ρ1 H1 J x1 hr1 W=>fI W TG (fun env s D σ H h=>⟨env,s,h⟩) hr1 (er.mono x1) (w.mono x1 hr1)
 |exc _ _ _=>rw[hv]at w;exact w.elim
 |stuck=>rw[hv]at w;exact w.elim
theorem aU:L2.PSs X [] (tSt X.K X.mg env s (.ok (.nx env) s)):=ue L2.oS fun D σ H ⟨ρ,hr,er,w⟩=>w ρ H σ Ext.refl hr er
theorem eB{st:Stmt}{rest:List Stmt}{o:Out Fl}{f:Env→Sto→Out Fl}{tr:L2.TS}(h1:L2.PS X st (tSt X.K X.mg env s o))(h2:L2.PSs X rest tr)(i2:∀env s D σ H,tSt X.K X.mg env s (f env s) D σ H→tr D σ H) :
 L2.PSs X (st::rest) (tSt X.K X.mg env s (o.bind fun fl s1=>match fl with|.nx e=>f e s1|fl=>.ok fl s1)):=by
 refine ue (L2.yc h1 h2) fun D σ H ⟨ρ,hr,er,w⟩=>⟨ρ,hr,er,?_⟩
 cases o with
 |ok fl s1=>
  simp only[zV]at w
  cases fl with
  |nx e=>exact fun ρ1 H1 σ1 x1 hr1 er1=>i2 e s1 D σ1 H1 ⟨ρ1,hr1,er1,w.mono x1 hr1⟩
  |bk e=>exact w
  |ct e=>exact w
  |rt v=>exact w
 |exc _ _ _=>exact w.elim
 |stuck=>exact w.elim
end
end M
end
section
namespace M
open PySem
noncomputable def vFs:Expr→Option (Expr × Expr)
 |.JoinedStr [.Constant (.str c1) _ _,.FormattedValue u k none _,.Constant (.str c2) _ _,.FormattedValue v l none _,.Constant (.str c3) _ _] _=>if k=-1∧l=-1∧c1.length≤1000∧c2.length≤1000∧c3.length≤1000 then some (u,v) else none
 |_=>none
noncomputable def VS(sc:Scope)(N:List Str)(es:Exs)(a:Expr):Bool:=match vFs a,es with
 |some (u,v),.cons e1 (.cons e2 .nil)=>ck sc N e1 u&&ck sc N e2 v
 |_,_=>false
mutual
noncomputable def ckS(sc:Scope)(N:List Str):Sm→Stmt→Bool
 |.expr e,st=>(match st with|.Expr x _=>ck sc N e x&&uY x|_=>false)
 |.ret e,st=>(match st with|.Return (some x) _=>ck sc N e x|_=>false)
 |.retN,_=>false
 |.asg i e,st=>(match st with|.Assign [.Name x _] v _=>decide (N[i]?=some x)&&(decide (sc.names.lookup x=some .local)||decide (sc.names.lookup x=some .cell))&&ck sc N e v|_=>false)
 |.asgT _ _,_=>false
 |.par is es,st=>(match st with|.Assign [.Tuple ts _ _] (.Tuple vs _ _) _=>yC sc N is ts&&ckL sc N es vs&&zo vs&&decide (is.length≤8)&&decide is.Nodup&&decide (ts.length=vs.length)&&(YJ sc ts vs||YQ sc ts)|_=>false)
 |.aug _ _ _,_=>false
 |.setD _ _ _,_=>false
 |.setIx o i e,st=>(match st with|.Assign [.Subscript a b _] v _=>ck sc N o a&&ck sc N i b&&ck sc N e v&&plain b|_=>false)
 |.ifS c a b,st=>(match st with|.If t x y _=>ckC sc N c t&&sy sc N a x&&sy sc N b y|_=>false)
 |.forS t it b,st=>(match st with|.For tg iter body [] _=>ckT sc N t tg&&ckI sc N it iter tg&&sy sc N b body&&plain iter|_=>false)
 |.whileS _ _,_=>false
 |.pass,_=>false
 |.brk,_=>false
 |.cont,_=>false
 |.raise e,st=>(match e with
  |.call c _ es=>(match st with|.Raise (some (.Call (.Name x _) [a] [] _)) none _=>decide (x=c)&&xn sc x&&!(x == ("__debug__":Str))&&((ckL sc N es [a]&&plain a)||VS sc N es a)|_=>false)
  |.lit _=>true
  |_=>false)
noncomputable def sy(sc:Scope)(N:List Str):Sms→List Stmt→Bool
 |.nil,ss=>(match ss with|[]=>true|_=>false)
 |.cons c cs,ss=>(match ss with|t::ts=>ckS sc N c t&&sy sc N cs ts|_=>false)
end
structure OkF(T:Tbl)(n:Nat)(sc:Scope)(N:List Str)(X:L2.Cx):Prop where
 ok:Ok T n sc N X
 esc:X.env.scope=sc
 bk:X.env.blockKind=.function
section
variable {T:Tbl}{n:Nat}
def JS(T:Tbl)(n:Nat)(a:Sm):Prop:=∀(sc:Scope) (N:List Str) (X:L2.Cx) (st:Stmt),OkF T n sc N X→ckS sc N a st=true→∀env s,L2.PS X st (tSt X.K X.mg env s (exS (zE T n) T.gl env a s))
def JSs(T:Tbl)(n:Nat)(a:Sms):Prop:=∀(sc:Scope) (N:List Str) (X:L2.Cx) (st:List Stmt),OkF T n sc N X→sy sc N a st=true→∀env s,L2.PSs X st (tSt X.K X.mg env s (zW (zE T n) T.gl env a s))
theorem jK{X:L2.Cx}{b:Sms}{st:List Stmt}{Φ:Calls}{G:Str→Option Val}(h:∀env s,L2.PSs X st (tSt X.K X.mg env s (zW Φ G env b s))):L2.PSs X st (uSs X.K X.mg Φ G b):=fun pins s σ H D I ⟨env,t,q⟩=>h env t pins s σ H D I q
theorem aJ{e:Ex}:JS T n (.expr e):=by
 intro sc N X st o h env s
 simp only[ckS]at h
 split at h
 . simp only[Aa]at h
   exact aR h.2 (jE T n e _ _ _ _ o.ok h.1 env s)
 . cases h
theorem XO{e:Ex}:JS T n (.ret e):=by
 intro sc N X st o h env s
 simp only[ckS]at h
 split at h
 . exact Xb (jE T n e _ _ _ _ o.ok h env s)
 . cases h
theorem l5{elt:Expr}{gens:List GW}{csc:Scope}{cpos py:Pos}{y:Str}{l:Nat}{env:BI}:∃b,Fd (.ListComp elt gens csc cpos) (some (.Name y py)) l env=pure b:=⟨_,rfl⟩
theorem XJ{i:Nat}{e:Ex}:JS T n (.asg i e):=by
 intro sc N X st o h env s
 simp only[ckS]at h
 split at h
 . rename_i x px v pos
   simp only[Aa,decide_eq_true_eq,AO]at h
   obtain⟨⟨h1,h2⟩,h3⟩:=h
   obtain⟨l1,l2⟩:=o.ok.scp.loc x h2
   have hN:X.N.Nodup:=by rw[o.ok.scp.hN];exact o.ok.scp.nd
   have hi:X.N[i]?=some x:=by rw[o.ok.scp.hN];exact h1
   by_cases hn:uY v=true
   . exact fz (L2.uA hN hi l1 (jE T n e _ _ _ _ o.ok h3 env s) (uk hn) l2) fun σ H Q q=>q
   . -- a comprehension
     cases e with
     |comp m N' fr elt t it ifs=>
      simp only[ck]at h3
      split at h3
      . rename_i x' tg iter fs csc cpos
        simp only[Aa,decide_eq_true_eq]at h3
        obtain⟨⟨⟨⟨⟨⟨c1,c2⟩,c3⟩,c4⟩,c5⟩,c6⟩,c7⟩:=h3
        have S:=Zq o.ok.scp c1
        have oc:=o.ok.comp S c2
        obtain⟨g,pg,tg'⟩:∃g,(∀C s0 H0 ex,L2.PG (X.comp N' csc C s0 H0 ex) tg g)∧qG X.K X.mg t g:=by
         cases t with
         |nm i=>
          cases tg with
          |Name y p=>
           simp only[ckT,Aa,AO,decide_eq_true_eq]at c3
           exact⟨_,fun C s0 H0 ex=>jH (oc C s0 H0 ex).scp c3.1 c3.2,oo⟩
          |_=>cases c3
         |nms is=>
          cases tg with
          |Tuple es k p=>
           simp only[ckT,Aa,decide_eq_true_eq]at c3
           refine⟨_,fun C s0 H0 ex=>?_,uo (is:=is)⟩
           obtain⟨a,b,c⟩:=wa (oc C s0 H0 ex).scp c3.1
           exact L2.oP (X:=X.comp N' csc C s0 H0 ex) o.ok.calm a b c
          |_=>cases c3
        have hpi:L2.PI X tg iter (uI X.K X.mg (zE T n) T.gl it):=Wb fun env s=>jI T n it _ _ _ _ _ o.ok c4 env s
        have hts:∀C s0 H0 ex,L2.PTs (X.comp N' csc C s0 H0 ex) fs (uTs X.K X.mg (zE T n) T.gl ifs):=fun C s0 H0 ex=>(jCs T n ifs _ _ _ _ (oc C s0 H0 ex) c5).2.2
        have hel:∀C s0 H0 ex,L2.PE (X.comp N' csc C s0 H0 ex) x' (uE X.K X.mg (zE T n) T.gl elt):=fun C s0 H0 ex=>UT (X:=X.comp N' csc C s0 H0 ex) fun env s=>jE T n elt _ _ _ _ (oc C s0 H0 ex) c6 env s
        have rule:L2.PS X (.Assign [.Name x px] (.ListComp x' [⟨tg,iter,fs,0⟩] csc cpos) pos) (L2.um (L2.tj fr (uI X.K X.mg (zE T n) T.gl it) g (uTs X.K X.mg (zE T n) T.gl ifs) fun acc=>L2.pC acc (uE X.K X.mg (zE T n) T.gl elt)) (L2.xl i)):=by
         obtain⟨b,hb⟩:=l5 (elt:=x') (gens:=[⟨tg,iter,fs,0⟩]) (csc:=csc) (cpos:=cpos) (y:=x) (py:=px) (l:=pos.line) (env:=X.env)
         cases b with
         |true=>exact L2.ZH o.ok.calm S hpi pg hts hel hN hi l1 hb l2 (wu c7)
         |false=>exact L2.uA hN hi l1 (L2.jF o.ok.calm S hpi pg hts hel (wu c7)) hb l2
        refine fz (o:=evE (zE T n) T.gl env (.comp m N' fr elt t it ifs) s) rule fun σ H Q hq=>qi (env:=env) (s:=s) (chk:=false) (m:=m) (body:=ur (zE T n) T.gl elt ifs) tg' tu (fun acc ρ0 H0 hn=>mT hn) ?_ fun _ r s1 p s2 hl=>?_
        . simp only[AV,false_implies,if_true];exact hq
        . have:=tQ hl
          simpa using this
      . cases h3
     |call f ver es=>
      exfalso;apply hn
      simp only[ck]at h3
      split at h3
      . split at h3
        . rfl
        . cases h3
      . split at h3
        . rename_i hv
          obtain⟨_,_,_,_,_,rfl⟩:=qC hv
          rfl
        . cases h3
     |_=>exfalso;apply hn;first|(simp only[ck,qd]at h3;cases h3;done)|(simp only[ck,qd]at h3;split at h3<;>first|rfl|(cases h3;done))
 . cases h
theorem XN{is:List Nat}{es:Exs}:JS T n (.par is es):=by
 intro sc N X st o h env s
 simp only[ckS]at h
 split at h
 . rename_i ts k p vs k2 p2 pos
   simp only[Aa,decide_eq_true_eq,AO]at h
   obtain⟨⟨⟨⟨⟨⟨h1,h2⟩,h3⟩,h4⟩,h5⟩,h6⟩,h7⟩:=h
   have hes:=(jL T n es _ _ _ _ o.ok h2).1 h3 env s
   have hN:X.N.Nodup:=by rw[o.ok.scp.hN];exact o.ok.scp.nd
   have kind:∀x,X.env.kindOf x=sc.names.lookup x:=fun x=>by show X.env.scope.names.lookup x=_;rw[o.esc]
   rcases h7 with h7|h7
   . unfold YJ at h7
     split at h7
     . rename_i x px y py
       simp only[Aa,decide_eq_true_eq,AX]at h7
       obtain⟨⟨⟨⟨⟨q1,q2⟩,q3⟩,q4⟩,q5⟩,q6⟩:=h7
       match is,h1,h5 with
       |[i,j],h1,h5=>
        simp only[yC,Aa,decide_eq_true_eq,AO]at h1
        obtain⟨⟨i1,i2⟩,⟨j1,j2⟩,_⟩:=h1
        match vs,h6 with
        |[a,b],_=>
         have hij:i≠j:=by rw[By]at h5;exact fun z=>h5.1 (by rw[z];exact Aq.mpr rfl)
         exact aS (L2.Wh o.ok.calm hN (by rw[o.ok.scp.hN];exact i1) (by rw[o.ok.scp.hN];exact j1) hij (by rw[o.esc];exact q1) (by rw[o.esc];exact q2) hes
          (mL o.bk (by rw[kind];exact q1) (by rw[kind];exact q2) q3 q4 h3 q5 q6) tP) fun σ H Q q=>q
       |[],h1,_=>exact absurd h1 (by simp[yC])
       |[_],h1,_=>exact absurd h1 (by simp[yC])
       |_::_::_::_,h1,_=>exact absurd h1 (by simp[yC])
     . rename_i x px y py z pz
       simp only[Aa,decide_eq_true_eq,AX]at h7
       obtain⟨⟨⟨⟨⟨⟨⟨⟨⟨q1,q2⟩,q3⟩,q4⟩,q5⟩,q6⟩,q7⟩,q8⟩,q9⟩,q10⟩:=h7
       match is,h1,h5 with
       |[i,j,l],h1,h5=>
        simp only[yC,Aa,decide_eq_true_eq,AO]at h1
        obtain⟨⟨i1,i2⟩,⟨j1,j2⟩,⟨l1,l2⟩,_⟩:=h1
        match vs,h6 with
        |[a,b,c],_=>
         simp only[By,Ak,BB,or_false,not_or]at h5
         exact aT (L2.ZI o.ok.calm hN (by rw[o.ok.scp.hN];exact i1) (by rw[o.ok.scp.hN];exact j1) (by rw[o.ok.scp.hN];exact l1) h5.1.1 h5.1.2 h5.2.1 (by rw[o.esc];exact q1) (by rw[o.esc];exact q2) (by rw[o.esc];exact q3) hes
          (qQ o.bk (by rw[kind];exact q1) (by rw[kind];exact q2) (by rw[kind];exact q3) q4 q5 q6 q7 q8 h3 q9 q10) tP) fun σ H Q q=>q
       |[],h1,_=>exact absurd h1 (by simp[yC])
       |[_],h1,_=>exact absurd h1 (by simp[yC])
       |[_,_],h1,_=>exact absurd h1 (by simp[yC])
       |_::_::_::_::_,h1,_=>exact absurd h1 (by simp[yC])
     . cases h7
   . have hun:(∃x p,G0 x p∈ts∧X.env.kindOf x≠some .local)∨3<ts.length:=by
      unfold YQ at h7
      simp only[AO,decide_eq_true_eq,BU]at h7
      rcases h7 with⟨e,hm,he⟩|h7
      . cases e with
        |Name x px=>
         simp only[decide_eq_true_eq]at he
         exact .inl ⟨x,px,hm,by rw[kind];exact he⟩
        |_=>cases he
      . exact .inr h7
     obtain⟨a,b,c⟩:=wa o.ok.scp h1
     have rule:=aQ (t:=.nms is) (env:=env) (s:=s) uo (L2.dq (pos:=pos) (m8 (k:=k2) (pos:=p2) hes) (L2.oP (k:=k) (pos:=p) o.ok.calm a b c) tP (gD hun)) fun σ H Q q=>q
     have e:((zi (zE T n) T.gl env es s).bind fun vs s1=>if vs.length=is.length then (.ok:Fl→Sto→Out Fl) (.nx ((is.zip vs).foldl (fun e p=>e.set p.1 (some p.2)) env)) s1 else .stuck)=(((zi (zE T n) T.gl env es s).bind fun vs s1=>if vs.length≤zU then (.ok:Val→Sto→Out Val) (.tup vs) s1 else .stuck).bind fun v s1=>match yi (.nms is) v env with|some env'=>(.ok:Fl→Sto→Out Fl) (.nx env') s1|Ab=>.stuck):=by
      cases zi (zE T n) T.gl env es s with
      |ok ws s1=>
       simp only[zV]
       by_cases hl:ws.length=is.length
       . have hz:ws.length≤zU:=by rw[hl];exact Ax h4 (by decide)
         simp only[if_pos hl,if_pos hz,zV,yi]
       . rw[if_neg hl]
         by_cases hz:ws.length≤zU
         . simp only[if_neg hl,if_pos hz,zV,yi]
         . simp only[if_neg hz,sk]
      |exc _ _ _=>rfl
      |stuck=>rfl
     show L2.PS X _ (tSt X.K X.mg env s ((zi (zE T n) T.gl env es s).bind fun vs s1=>if vs.length=is.length then .ok (.nx ((is.zip vs).foldl (fun e p=>e.set p.1 (some p.2)) env)) s1 else .stuck))
     rw[e]
     exact rule
 . cases h
theorem fh{a i e:Ex}:JS T n (.setIx a i e):=by
 intro sc N X st o h env s
 simp only[ckS]at h
 split at h
 . simp only[Aa]at h
   exact eA h.2 (jE T n e _ _ _ _ o.ok h.1.2 env s) (fun s1=>jE T n a _ _ _ _ o.ok h.1.1.1 env s1) fun s1=>jE T n i _ _ _ _ o.ok h.1.1.2 env s1
 . cases h
theorem Vl{c:Cn}{a b:Sms}(ja:JSs T n a)(jb:JSs T n b):JS T n (.ifS c a b):=by
 intro sc N X st o h env s
 simp only[ckS]at h
 split at h
 . simp only[Aa]at h
   exact Vs (jC T n c _ _ _ _ o.ok h.1.1 env s) (jK fun env s=>ja _ _ _ _ o h.1.2 env s) (jK fun env s=>jb _ _ _ _ o h.2 env s) (fun s1 D σ H q=>⟨env,s1,q⟩) fun s1 D σ H q=>⟨env,s1,q⟩
 . cases h
theorem XM{t:Tgt}{it:Itb}{b:Sms}(jb:JSs T n b):JS T n (.forS t it b):=by
 intro sc N X st o h env s
 simp only[ckS]at h
 split at h
 . simp only[Aa]at h
   obtain⟨g,pg,tg⟩:=UX o.ok.scp o.ok.calm h.1.1.1
   exact Xa o.ok.xe o.ok.calm h.2 (fun env s=>jI T n it _ _ _ _ _ o.ok h.1.1.2 env s) pg tg (jK fun env s=>jb _ _ _ _ o h.1.2 env s)
 . cases h
theorem fg{e:Ex}:JS T n (.raise e):=fun sc N X st o h env s=>zP (zF rfl)
theorem aK:JSs T n .nil:=by
 intro sc N X st o h env s
 simp only[sy]at h
 split at h
 . exact aU
 . cases h
theorem fj{c:Sm}{cs:Sms}(jc:JS T n c)(jcs:JSs T n cs):JSs T n (.cons c cs):=by
 intro sc N X st o h env s
 simp only[sy]at h
 split at h
 . simp only[Aa]at h
   exact eB (f:=fun e s=>zW (zE T n) T.gl e cs s) (jc _ _ _ _ o h.1 env s) (jK fun env s=>jcs _ _ _ _ o h.2 env s) fun env s D σ H q=>⟨env,s,q⟩
 . cases h
end
section
variable (T:Tbl)(n:Nat)
mutual
theorem jS:∀a:Sm,JS T n a
 |.expr _=>aJ
 |.ret _=>XO
 |.retN=>fun sc N X e o h=>by cases h
 |.asg _ _=>XJ
 |.asgT _ _=>fun sc N X e o h=>by cases h
 |.par _ _=>XN
 |.aug _ _ _=>fun sc N X e o h=>by cases h
 |.setIx _ _ _=>fh
 |.setD _ _ _=>fun sc N X e o h=>by cases h
 |.ifS _ a b=>Vl (jSs a) (jSs b)
 |.forS _ _ b=>XM (jSs b)
 |.whileS _ _=>fun sc N X e o h=>by cases h
 |.pass=>fun sc N X e o h=>by cases h
 |.brk=>fun sc N X e o h=>by cases h
 |.cont=>fun sc N X e o h=>by cases h
 |.raise _=>fg
theorem jSs:∀a:Sms,JSs T n a
 |.nil=>aK
 |.cons c cs=>fj (jS c) (jSs cs)
end
end
end M
end
section
namespace M
open PySem
structure OkX(T:Tbl)(n:Nat)(sc:Scope)(N:List Str)(X:L2.Cx)(E:L2.XK):Prop where
 okf:OkF T n sc N X.nox
 ps:L2.Passes (L2.CXE X.prog X.w) X E
 xr:∀C H,E (.ref C) none H→L2.XR X C H
 lv:Lv T X.prog X.w X.K X.mg X.base n
 cls:∀c,(T.xc.lookup c).isSome=true→∃C D,X.mg c=some (.ref C)∧L2.ClsAt X.base C (.ref D::L2.veM)∧L2.ClsAt X.base D L2.veM
section
variable (K:KF)(mg:Str→Option Value)(E:L2.XK)
noncomputable def tX(env:Env)(s:Sto)(x:pP):L2.TS:=fun _ σ H=>∃ρ,HR K mg ρ s H∧ER K mg ρ H env σ∧qD K mg ρ H x E
noncomputable def tXe(env:Env)(s:Sto)(x:pP):L2.TE:=fun σ H _=>∃ρ,HR K mg ρ s H∧ER K mg ρ H env σ∧qD K mg ρ H x E
end
theorem qD.mono{K:KF}{mg:Str→Option Value}{ρ ρ':Own}{H H':L2.Hp}{s:Sto}{x:pP}{E:L2.XK}(h:qD K mg ρ H x E)(e:Ext ρ H ρ' H')(hr:HR K mg ρ' s H'):qD K mg ρ' H' x E:=by
 cases x with
 |none=>exact h
 |some r=>
  obtain⟨c,as,s'⟩:=r
  exact fun ρ2 H2 x2 hr2 C hC=>h ρ2 H2 (e.trans hr x2) hr2 C hC
noncomputable abbrev wx(T:Tbl):Str→Bool:=fun c=>(T.xc.lookup c).isSome
section
variable {T:Tbl}{n:Nat}{sc:Scope}{N:List Str}{X:L2.Cx}{E:L2.XK}
theorem zj{env:Env}{s:Sto}{σ:L2.St}{H:L2.Hp}{Q:L2.VK}:¬tXe X.K X.mg E env s Ab σ H Q:=fun⟨_,_,_,z⟩=>z
theorem yj{env:Env}{s:Sto}{σ:L2.St}{H:L2.Hp}{D:L2.Ends}:¬tX X.K X.mg E env s Ab D σ H:=fun⟨_,_,_,z⟩=>z
theorem sq{f:Str}{v:Nat}(h:T.fn f v=Ab)(vs:List Val)(s:Sto):zq T n f v vs s=Ab:=by
 cases n with
 |zero=>rfl
 |succ n=>simp only[zq,h]
theorem jxE(o:OkX T n sc N X E):∀(a:Ex) (e:Expr),ck sc N a e=true→∀env s,L2.PE X e (tXe X.K X.mg E env s (xE (zE T n) (zq T n) T.gl env a s))
 |.call f v es,e,h=>fun env s=>by
  simp only[ck]at h
  split at h
  . split at h
    . rename_i x p xs pos
      simp only[Aa,decide_eq_true_eq,xn,AX]at h
      obtain⟨⟨⟨⟨rfl,h2⟩,h3⟩,h4⟩,h5⟩:=h
      simp only[xE]
      cases hv:zi (zE T n) T.gl env es s with
      |exc _ _ _=>exact yF fun _ _ _=>zj
      |stuck=>exact yF fun _ _ _=>zj
      |ok vs s1=>
       simp only[]
       cases hf:T.fn x v with
       |none=>rw[sq hf];exact yF fun _ _ _=>zj
       |some F=>
        obtain⟨fa,fd,e1,e2,e3,e4,e5⟩:=o.lv.ex x v F hf
        have hp:=(jL T n es _ _ _ _ o.okf.ok h4).1 h5 env s
        rw[hv]at hp
        have hp:=lS hp
        cases xs with
        |nil=>
         cases es with
         |cons _ _=>cases h4
         |nil=>
          simp only[zi]at hv
          cases hv
          exact zf (L2.ny e5 o.okf.ok.room (o.okf.ok.scp.gl x h2) e1 e2 e3 .nil o.ps h3) fun σ H Q ⟨ρ,hr,er,w⟩=>⟨ρ,_,[],hr,.nil,.inr w⟩
        |cons y ys=>
         rw[zo,Aa]at h5
         refine zf (L2.oO e5 o.okf.ok.room (o.okf.ok.scp.gl x h2) e1 e2 e3 .nil o.ps hp h3 (L2.zm (zZ h5.1)) (xw h5.2)) fun σ H Q ⟨ρ,hr,er,w⟩=>⟨ρ,hr,er,fun ρ1 zs H1 x1 hr1 r1=>?_⟩
         show spX T X.K X.mg n x v (zs++[]) H1 Q E
         rw[AY]
         exact⟨ρ1,s1,vs,hr1,r1,.inr (w.mono x1 hr1)⟩
    . cases h
  . rename_i hver
    have hx:xE (zE T n) (zq T n) T.gl env (.call f v es) s=Ab:=by
     simp only[xE]
     cases zi (zE T n) T.gl env es s with
     |ok vs s1=>exact sq (o.okf.ok.no f v (by omega)) _ _
     |_=>rfl
    rw[hx]
    exact yF fun _ _ _=>zj
 |.cmp op a b,e,h=>fun env s=>by
  simp only[ck]at h
  split at h
  . simp only[Aa,decide_eq_true_eq]at h
    obtain⟨⟨⟨⟨k1,rfl⟩,h1⟩,h2⟩,h3⟩:=h
    simp only[xE]
    exact zf (L2.jD (v7 (X:=X) o.okf.ok.room op k1) (jxE o a _ h1 env s) (L2.PE.nox (jE T n b _ _ _ _ o.okf.ok h2 env s)) (xu h3)) fun σ H Q z=>z
  . cases h
 |.lit _,_,_=>fun _ _=>yF fun _ _ _=>zj
 |.var _,_,_=>fun _ _=>yF fun _ _ _=>zj
 |.gl _,_,_=>fun _ _=>yF fun _ _ _=>zj
 |.ty _ _,_,_=>fun _ _=>yF fun _ _ _=>zj
 |.bin _ _ _ _,_,_=>fun _ _=>yF fun _ _ _=>zj
 |.neg _,_,_=>fun _ _=>yF fun _ _ _=>zj
 |.not _,_,_=>fun _ _=>yF fun _ _ _=>zj
 |.chain _ _ _ _ _,_,_=>fun _ _=>yF fun _ _ _=>zj
 |.andE _ _,_,_=>fun _ _=>yF fun _ _ _=>zj
 |.orE _ _,_,_=>fun _ _=>yF fun _ _ _=>zj
 |.ife _ _ _,_,_=>fun _ _=>yF fun _ _ _=>zj
 |.tup _,_,_=>fun _ _=>yF fun _ _ _=>zj
 |.lst _ _,_,_=>fun _ _=>yF fun _ _ _=>zj
 |.dct0,_,_=>fun _ _=>yF fun _ _ _=>zj
 |.blt _ _ _,_,_=>fun _ _=>yF fun _ _ _=>zj
 |.maxD _ _,_,_=>fun _ _=>yF fun _ _ _=>zj
 |.yx _ _ _ _,_,_=>fun _ _=>yF fun _ _ _=>zj
 |.ix _ _,_,_=>fun _ _=>yF fun _ _ _=>zj
 |.sl _ _ _ _ _,_,_=>fun _ _=>yF fun _ _ _=>zj
 |.comp _ _ _ _ _ _ _,_,_=>fun _ _=>yF fun _ _ _=>zj
 |.comp2 _ _ _ _ _ _ _ _ _ _,_,_=>fun _ _=>yF fun _ _ _=>zj
 |.listRange _ _ _ _,_,_=>fun _ _=>yF fun _ _ _=>zj
 |.dctN _,_,_=>fun _ _=>yF fun _ _ _=>zj
 |.ixD _ _,_,_=>fun _ _=>yF fun _ _ _=>zj
theorem k6{vs:List Val}(h:nZ vs=true):(∃x,vs=[.str x])∨∃i j:Int,vs=[.int i,.int j]∧i.natAbs<2 ^ 64∧j.natAbs<2 ^ 64:=by
 unfold nZ at h
 split at h
 . exact .inl ⟨_,rfl⟩
 . rw[Aa,decide_eq_true_eq,decide_eq_true_eq]at h
   exact .inr ⟨_,_,rfl,h⟩
 . cases h
theorem VC{a u v:Expr}(h:vFs a=some (u,v)):∃(c1 c2 c3:Str) (k1 k2 k3:Nat) (p1 p2 p3 p4 p5 pos:Pos),a=.JoinedStr [.Constant (.str c1) k1 p1,.FormattedValue u (-1) none p2,.Constant (.str c2) k2 p3,.FormattedValue v (-1) none p4,.Constant (.str c3) k3 p5] pos∧c1.length≤1000∧c2.length≤1000∧c3.length≤1000:=by
 unfold vFs at h
 split at h
 . split at h
   . rename_i z
     cases h
     obtain⟨rfl,rfl,z1,z2,z3⟩:=z
     exact⟨_,_,_,_,_,_,_,_,_,_,_,_,rfl,z1,z2,z3⟩
   . cases h
 . cases h
theorem eE(o:OkX T n sc N X E){e:Ex}{st:Stmt}(h:ckS sc N (.raise e) st=true)(env:Env)(s:Sto):L2.PS X st (tX X.K X.mg E env s (xS (wx T) (zE T n) (zq T n) T.gl env (.raise e) s)):=by
 cases e with
 |call c v es=>
  simp only[ckS]at h
  split at h
  . rename_i x np a cpos pos
    simp only[Aa,decide_eq_true_eq,xn,AX,AO]at h
    obtain⟨⟨⟨rfl,h2⟩,h3⟩,h4⟩:=h
    simp only[xS]
    cases hv:zi (zE T n) T.gl env es s with
    |exc _ _ _=>exact yz fun _ _ _=>yj
    |stuck=>exact yz fun _ _ _=>yj
    |ok vs s1=>
     simp only[]
     by_cases hm:(nZ vs&&(T.xc.lookup x).isSome)=true
     case neg=>rw[if_neg hm];exact yz fun _ _ _=>yj
     rw[if_pos hm]
     rw[Aa]at hm
     obtain⟨C,D,m1,m2,m3⟩:=o.cls x hm.2
     rcases h4 with⟨h4,h5⟩|h4
     . have hp:=(jL T n es _ _ _ _ o.okf.ok h4).1 (by rw[zo,zo,Bool.and_true];exact h5) env s
       rw[hv]at hp
       refine yo (L2.mB o.okf.ok.room.hd (o.okf.ok.scp.gl x h2) m1 m2 m3 (lS hp) h3 (L2.zm (zZ h5)) rfl) fun D' σ H ⟨ρ,hr,er,w⟩=>⟨ρ,hr,er,fun ρ1 xs H1 x1 hr1 r1=>⟨?_,o.xr C H1 (w ρ1 H1 x1 hr1 C m1)⟩⟩
       rw[←r1.length,A2]
       rcases k6 hm.1 with⟨x,rfl⟩|⟨i,j,rfl,_⟩
       . simp
       . simp
     . unfold VS at h4
       split at h4
       . rename_i u v' e1 e2 hfs
         rw[Aa]at h4
         obtain⟨c1,c2,c3,k1,k2,k3,p1,p2,p3,p4,p5,pos',rfl,z1,z2,z3⟩:=VC hfs
         simp only[zi]at hv
         obtain⟨v1,s2,q1,hv⟩:=yK hv
         obtain⟨vs',s3,q2,hv⟩:=yK hv
         obtain⟨v2,s4,q3,q2⟩:=yK q2
         cases q2
         cases hv
         have pe:=L2.UQ (c1:=c1) (c2:=c2) (c3:=c3) (k1:=k1) (k2:=k2) (k3:=k3) (p1:=p1) (p2:=p2) (p3:=p3) (p4:=p4) (p5:=p5) (pos:=pos') (L2.PE.nox (jE T n e1 _ _ _ _ o.okf.ok h4.1 env s)) (L2.PE.nox (jE T n e2 _ _ _ _ o.okf.ok h4.2 env s2)) z1 z2 z3
         rcases k6 hm.1 with⟨x,z⟩|⟨i,j,z,hi,hj⟩
         . cases z
         . cases z
           rw[q1,q3]at pe
           refine yo (L2.mB o.okf.ok.room.hd (o.okf.ok.scp.gl x h2) m1 m2 m3 (L2.xY pe L2.yn) h3 rfl rfl) fun D' σ H ⟨ρ,hr,er,w⟩=>⟨ρ,hr,er,fun ρ1 y1 H1 x1 hr1 r1=>?_⟩
           cases r1
           refine⟨i,rfl,hi,ρ1,hr1,er.mono x1,fun ρ2 y2 H2 x2 hr2 r2=>?_⟩
           cases r2
           exact⟨j,rfl,hj,fun z=>⟨by rw[A2];simp,o.xr C H2 (w ρ2 H2 (x1.trans hr1 x2) hr2 C m1)⟩⟩
       . cases h4
  . cases h
 |_=>exact yz fun _ _ _=>yj
theorem Xf(o:OkX T n sc N X E){i:Nat}{e:Ex}{st:Stmt}(h:ckS sc N (.asg i e) st=true)(env:Env)(s:Sto):L2.PS X st (tX X.K X.mg E env s (xE (zE T n) (zq T n) T.gl env e s)):=by
 simp only[ckS]at h
 split at h
 . rename_i x px v pos
   simp only[Aa,decide_eq_true_eq,AO]at h
   obtain⟨⟨h1,h2⟩,h3⟩:=h
   obtain⟨l1,l2⟩:=o.okf.ok.scp.loc x h2
   have hN:X.N.Nodup:=by have:=o.okf.ok.scp.hN;rw[show X.N=N from this];exact o.okf.ok.scp.nd
   have hi:X.N[i]?=some x:=by have:=o.okf.ok.scp.hN;rw[show X.N=N from this];exact h1
   by_cases hn:uY v=true
   . exact yo (L2.uA hN hi l1 (jxE o e _ h3 env s) (uk hn) l2) fun D σ H z=>z
   . cases e with
     |call f ver es=>
      exfalso;apply hn
      simp only[ck]at h3
      split at h3
      . split at h3
        . rfl
        . cases h3
      . split at h3
        . rename_i hv
          obtain⟨_,_,_,_,_,rfl⟩:=qC hv
          rfl
        . cases h3
     |cmp op a b=>
      exfalso;apply hn
      simp only[ck]at h3
      split at h3
      . rfl
      . cases h3
     |_=>exact yz fun _ _ _=>yj
 . cases h
noncomputable def uX(T:Tbl)(n:Nat)(X:L2.Cx)(E:L2.XK)(b:Sms):L2.TS:=fun D σ H=>∃env s,tX X.K X.mg E env s (xSs (wx T) (zE T n) (zq T n) T.gl env b s) D σ H
mutual
theorem jxS(o:OkX T n sc N X E):∀(a:Sm) (st:Stmt),ckS sc N a st=true→∀env s,L2.PS X st (tX X.K X.mg E env s (xS (wx T) (zE T n) (zq T n) T.gl env a s))
 |.expr e,st,h=>fun env s=>by
  simp only[ckS]at h
  split at h
  . simp only[Aa]at h
    simp only[xS]
    exact yo (L2.oR (jxE o e _ h.1 env s) (uk h.2)) fun D σ H z=>z
  . cases h
 |.ret e,st,h=>fun env s=>by
  simp only[ckS]at h
  split at h
  . simp only[xS]
    exact yo (L2.vP (jxE o e _ h env s)) fun D σ H z=>z
  . cases h
 |.asg i e,st,h=>fun env s=>by simp only[xS];exact Xf o h env s
 |.raise e,st,h=>fun env s=>eE o h env s
 |.ifS c a b,st,h=>fun env s=>by
  simp only[ckS]at h
  split at h
  . simp only[Aa]at h
    have pc:=L2.PT.nox (jC T n c _ _ _ _ o.okf.ok h.1.1 env s)
    simp only[xS]
    cases hc:evT (zE T n) T.gl env c s with
    |exc _ _ _=>exact yz fun _ _ _=>yj
    |stuck=>exact yz fun _ _ _=>yj
    |ok t s1=>
     rw[hc]at pc
     have pa:L2.PSs X _ (uX T n X E a):=fun pins s0 σ H D I ⟨env',s',q⟩=>aV o a _ h.1.2 env' s' pins s0 σ H D I q
     have pb:L2.PSs X _ (uX T n X E b):=fun pins s0 σ H D I ⟨env',s',q⟩=>aV o b _ h.2 env' s' pins s0 σ H D I q
     refine yo (L2.dy pc pa pb) fun D σ H ⟨ρ,hr,er,w⟩=>⟨ρ,hr,er,fun ρ1 t' H1 x1 hr1 ht=>?_⟩
     cases ht
     simp only[]at w
     cases t with
     |true=>exact L2.oC ⟨env,s1,ρ1,hr1,er.mono x1,qD.mono w x1 hr1⟩
     |false=>exact L2.sD ⟨env,s1,ρ1,hr1,er.mono x1,qD.mono w x1 hr1⟩
  . cases h
 |.retN,_,_=>fun _ _=>yz fun _ _ _=>yj
 |.asgT _ _,_,_=>fun _ _=>yz fun _ _ _=>yj
 |.par _ _,_,_=>fun _ _=>yz fun _ _ _=>yj
 |.aug _ _ _,_,_=>fun _ _=>yz fun _ _ _=>yj
 |.setIx _ _ _,_,_=>fun _ _=>yz fun _ _ _=>yj
 |.forS _ _ _,_,_=>fun _ _=>yz fun _ _ _=>yj
 |.whileS _ _,_,_=>fun _ _=>yz fun _ _ _=>yj
 |.pass,_,_=>fun _ _=>yz fun _ _ _=>yj
 |.brk,_,_=>fun _ _=>yz fun _ _ _=>yj
 |.cont,_,_=>fun _ _=>yz fun _ _ _=>yj
 |.setD _ _ _,_,_=>fun _ _=>yz fun _ _ _=>yj
theorem aV(o:OkX T n sc N X E):∀(b:Sms) (st:List Stmt),sy sc N b st=true→∀env s,L2.PSs X st (tX X.K X.mg E env s (xSs (wx T) (zE T n) (zq T n) T.gl env b s))
 |.nil,_,_=>fun _ _=>fun pins s0 σ H D I q=>(yj q).elim
 |.cons c cs,st,h=>fun env s=>by
  simp only[sy]at h
  split at h
  . rename_i t0 ts
    rw[Aa]at h
    simp only[xSs]
    have no:L2.PSs X ts (fun _ _ _=>False):=fun pins s0 σ H D I q=>q.elim
    cases hc:exS (zE T n) T.gl env c s with
    |exc _ _ _=>exact ue (L2.yc (jxS o c _ h.1 env s) no) fun D σ H z=>z
    |stuck=>exact ue (L2.yc (jxS o c _ h.1 env s) no) fun D σ H z=>z
    |ok fl s1=>
     simp only[]
     cases fl with
     |nx e=>
      have p1:=jS T n c _ _ _ _ o.okf h.1 env s
      rw[hc]at p1
      have p1':L2.PS X t0 (tSt X.K X.mg env s (.ok (.nx e) s1)):=fun pins s0 σ H D I q=>A9 (p1 pins s0 σ H D (I.wB _) q) (fun _ _ z=>z.yp) fun _ _ z=>AJ z
      have p2:L2.PSs X ts (uX T n X E cs):=fun pins s0 σ H D I ⟨env',s',q⟩=>aV o cs _ h.2 env' s' pins s0 σ H D I q
      refine ue (L2.yc p1' p2) fun D σ H ⟨ρ,hr,er,w⟩=>⟨ρ,hr,er,fun ρ1 H1 σ1 x1 hr1 er1=>?_⟩
      exact⟨e,s1,ρ1,hr1,er1,qD.mono w x1 hr1⟩
     |rt _=>exact fun pins s0 σ H D I q=>(yj q).elim
     |bk _=>exact fun pins s0 σ H D I q=>(yj q).elim
     |ct _=>exact fun pins s0 σ H D I q=>(yj q).elim
  . cases h
end
end
end M
end
section
namespace M
open PySem
mutual
noncomputable def qy(n:Nat):Val→Bool
 |.ref i|.dref i=>decide (i<n)
 |.tup vs=>wN n vs
 |.lst vs=>wN n vs
 |.none|.bool _|.int _|.str _|.dct0|.ctup _|.scr _|.fn _|.ty _=>true
noncomputable def wN(n:Nat):List Val→Bool
 |[]=>true
 |v::vs=>qy n v&&wN n vs
end
mutual
theorem uh{n:Nat}{v:Val}(h:v.noRef=true):qy n v=true:=by
 cases v with
 |ref _=>cases h
 |dref _=>cases h
 |tup vs=>exact wb (vs:=vs) h
 |lst vs=>exact wb (vs:=vs) h
 |_=>rfl
theorem wb{n:Nat}{vs:List Val}(h:zh vs=true):wN n vs=true:=by
 cases vs with
 |nil=>rfl
 |cons v vs=>
  rw[zh,Aa]at h
  rw[wN,uh h.1,wb h.2];rfl
end
section
variable {K:KF}{mg:Str→Option Value}
mutual
theorem RD.refs{ρ:Own}{H:L2.Hp}{v:Val}{x:L2.V}(q:RD K mg ρ H v x):qy ρ.o.length v=true:=by
 cases q with
 |tup _ _ r=>exact RDs.refs r
 |lst _ _ r=>exact RDs.refs r
 |ref e _=>exact decide_eq_true (As.mp e).1
 |dref e _=>exact decide_eq_true (As.mp e).1
 |_=>rfl
theorem RDs.refs{ρ:Own}{H:L2.Hp}{v:List Val}{x:List L2.V}(q:RDs K mg ρ H v x):wN ρ.o.length v=true:=by
 cases q with
 |nil=>rfl
 |cons r rs=>rw[wN,RD.refs r,RDs.refs rs];rfl
end
structure Cut(ρ ρ':Own):Prop where
 pre:∃new,ρ'.o=ρ.o++new
 hid:ρ'.h=ρ.h
theorem Cut.no{ρ ρ':Own}(c:Cut ρ ρ'){a:Addr}(n:ρ'.no a):ρ.no a:=by
 obtain⟨new,e⟩:=c.pre
 exact⟨fun h=>n.1 (by rw[e];exact Bc _ h),by rw[←c.hid];exact n.2⟩
mutual
theorem RD.vk{ρ ρ':Own}{H:L2.Hp}(c:Cut ρ ρ'){v:Val}{x:L2.V}(q:RD K mg ρ' H v x)(h:qy ρ.o.length v=true):RD K mg ρ H v x:=by
 have at':∀{i:Nat} {a:Addr},ρ'.o[i]?=some a→decide (i<ρ.o.length)=true→ρ.o[i]?=some a:=fun{i a} e h=>by
  obtain⟨new,e'⟩:=c.pre
  rw[e',Ba (of_decide_eq_true h)]at e
  exact e
 cases q with
 |none=>exact .none
 |bool b=>exact .bool b
 |int i=>exact .int i
 |str t=>exact .str t
 |tup n e r=>exact .tup (c.no n) e (RDs.vk c r h)
 |lst n e r=>exact .lst (c.no n) e (RDs.vk c r h)
 |dct0 n e=>exact .dct0 (c.no n) e
 |ctup g=>exact .ctup g
 |scr g=>
  refine .scr ?_
  rcases g with⟨n,g⟩|g
  . exact .inl ⟨c.no n,g⟩
  . exact .inr g
 |ref e k=>exact .ref (at' e h) k
 |dref e k=>exact .dref (at' e h) k
 |fn e=>exact .fn e
 |ty n=>exact .ty n
theorem RDs.vk{ρ ρ':Own}{H:L2.Hp}(c:Cut ρ ρ'){v:List Val}{x:List L2.V}(q:RDs K mg ρ' H v x)(h:wN ρ.o.length v=true):RDs K mg ρ H v x:=by
 cases q with
 |nil=>exact .nil
 |cons r rs=>
  rw[wN,Aa]at h
  exact .cons (RD.vk c r h.1) (RDs.vk c rs h.2)
end
noncomputable def pV:Cel→List Val
 |.lst vs=>vs
 |.dS kvs=>kvs.map (·.2)
 |.dT kvs=>kvs.map (·.2)
 |.tb _=>[]
theorem CR.vals{ρ:Own}{H:L2.Hp}{a:Addr}{c:Cel}(h:CR K mg ρ H a c):∃xs,RDs K mg ρ H (pV c) xs:=by
 cases c with
 |lst vs=>obtain⟨xs,_,r⟩:=h;exact⟨_,r⟩
 |dS kvs=>obtain⟨xs,_,_,r⟩:=h;exact⟨_,r⟩
 |dT kvs=>obtain⟨xs,_,_,r⟩:=h;exact⟨_,r⟩
 |tb x=>exact⟨[],.nil⟩
theorem jq{c:Cel}(h:c.noRef=true):zh (pV c)=true:=by cases c<;>first|exact h|rfl
theorem CR.vk{ρ ρ':Own}{H:L2.Hp}{a:Addr}(c:Cut ρ ρ'){o:Cel}(h:CR K mg ρ' H a o)(hb:wN ρ.o.length (pV o)=true):CR K mg ρ H a o:=by
 cases o with
 |lst vs=>obtain⟨xs,e,r⟩:=h;exact⟨xs,e,RDs.vk c r hb⟩
 |dS kvs=>obtain⟨xs,e,k,r⟩:=h;exact⟨xs,e,k,RDs.vk c r hb⟩
 |dT kvs=>obtain⟨xs,e,k,r⟩:=h;exact⟨xs,e,k,RDs.vk c r hb⟩
 |tb y=>
  obtain⟨ps,e1,k,r,g⟩:=h
  refine⟨ps,e1,k,fun pos cv hc=>?_,g⟩
  obtain⟨a,o,vs,t,q1,q2,q3,q4⟩:=r pos cv hc
  exact⟨a,o,vs,t,q1,c.no q2,q3,q4⟩
theorem oN{α β:Type}:∀{a b:List (α × β)},a.map (·.1)=b.map (·.1)→a.map (·.2)=b.map (·.2)→a=b
 |[],[],_,_=>rfl
 |[],_::_,h,_=>by cases h
 |_::_,[],h,_=>by cases h
 |x::xs,y::ys,h1,h2=>by
  rw[AK,AK]at h1 h2
  injection h1 with a1 a2
  injection h2 with b1 b2
  rw[oN a2 b2,En a1 b1]
theorem nk:∀{s s':Sto} {i:Nat} {o':Cel},xt s s'=true→i<s.length→s'[i]?=some o'→o'.noRef=true∨s[i]?=some o'
 |[],_,_,_,_,h,_=>by cases h
 |o::r,[],_,_,h,_,_=>by cases h
 |o::r,o'::r',0,q,h,_,e=>by
  rw[xt,Aa,AO]at h
  simp only[List.getElem?_cons_zero,Ea]at e
  subst e
  rcases h.1 with z|z
  . exact .inl z
  . right
    cases o' with
    |lst a=>cases o with
     |lst b=>simp only[Cel.beq]at z;rw[uJ z];rfl
     |_=>cases z
    |dS a=>cases o with
     |dS b=>simp only[Cel.beq,Aa,decide_eq_true_eq]at z;rw[oN z.1 (uJ z.2)];rfl
     |_=>cases z
    |dT a=>cases o with
     |dT b=>simp only[Cel.beq,Aa,decide_eq_true_eq]at z;rw[oN z.1 (uJ z.2)];rfl
     |_=>cases z
    |tb a=>cases o with
     |tb b=>simp only[Cel.beq,decide_eq_true_eq]at z;rw[z];rfl
     |_=>cases z
 |o::r,o'::r',i+1,q,h,hi,e=>by
  rw[xt,Aa]at h
  have:=nk (i:=i) h.2 (by simpa using hi) (by simpa using e)
  simpa using this
noncomputable def Wc:Val→Bool
 |.ref _|.dref _|.tup _=>false
 |.none|.bool _|.int _|.str _|.dct0|.ctup _|.scr _|.fn _|.ty _|.lst _=>true
theorem bx{n:Nat}{s:Sto}{k i:Nat}:wG n s k (.ref i)=if i<n then some (Val.ref i) else match s[i]? with
 |some (.lst vs)=>if zh vs then some (.lst vs) else Ab
 |_=>Ab:=by cases k<;>rfl
theorem fJ{n:Nat}{s:Sto}{k i:Nat}:wG n s k (.dref i)=if i<n then some (Val.dref i) else Ab:=by cases k<;>rfl
theorem fK{n:Nat}{s:Sto}{k:Nat}{v:Val}(h:Wc v=true):wG n s k v=if v.noRef then some v else Ab:=by
 cases v with
 |ref _=>cases h
 |dref _=>cases h
 |tup _=>cases h
 |_=>cases k<;>rfl
theorem bw{n:Nat}{s:Sto}{k:Nat}:uQ n s k []=some []:=by cases k<;>rfl
mutual
theorem rJ{ρ ρ':Own}{H:L2.Hp}{s:Sto}(c:Cut ρ ρ')(hr:HR K mg ρ' s H){k:Nat}{v v':Val}{x:L2.V}(r:RD K mg ρ' H v x)(h:wG ρ.o.length s k v=some v'):RD K mg ρ H v' x:=by
 have sv:∀{w:Val},RD K mg ρ' H w x→(if w.noRef then some w else Ab)=some v'→RD K mg ρ H v' x:=fun{w} r h=>by
  split at h
  . rename_i hn;cases h;exact RD.vk c r (uh hn)
  . cases h
 cases v with
 |ref i=>
  rw[bx]at h
  cases r with
  |ref e hkd=>
   by_cases hi:i<ρ.o.length
   . rw[if_pos hi]at h
     cases h
     exact RD.vk c (.ref e hkd) (by rw[qy];exact decide_eq_true hi)
   . rw[if_neg hi]at h
     split at h
     . rename_i vs hs
       split at h
       . rename_i hn
         cases h
         obtain⟨a,xs,e1,e2,q⟩:=hr.obj i vs hs
         rw[e]at e1;cases e1
         obtain⟨new,e'⟩:=c.pre
         have hm:=AS e
         refine .lst ⟨fun hm'=>?_,fun hh=>?_⟩ e2 (RDs.vk c q (wb hn))
         . obtain⟨j,hj,ej⟩:=Bu hm'
           have ej':ρ'.o[j]?=ρ'.o[i]?:=by rw[e,e',Ba hj,Ae hj,ej]
           have:=ee hr.nd e (ej'.trans e)
           exact hi (this▸hj)
         . exact(hr.hid _ (by rw[c.hid];exact hh)).2 hm
       . cases h
     . cases h
 |dref i=>
  rw[fJ]at h
  split at h
  . rename_i hi
    cases h
    exact RD.vk c r (by rw[qy];exact decide_eq_true hi)
  . cases h
 |tup vs=>
  cases k with
  |zero=>exact sv r h
  |succ k=>
   rw[wG,A5]at h
   obtain⟨ws,h1,rfl⟩:=h
   cases r with
   |tup n e q=>exact .tup (c.no n) e (rH c hr q h1)
 |_=>exact sv r ((fK rfl).symm.trans h)
theorem rH{ρ ρ':Own}{H:L2.Hp}{s:Sto}(c:Cut ρ ρ')(hr:HR K mg ρ' s H){k:Nat}{v v':List Val}{x:List L2.V}(r:RDs K mg ρ' H v x)(h:uQ ρ.o.length s k v=some v'):RDs K mg ρ H v' x:=by
 cases r with
 |nil=>rw[bw]at h;cases h;exact .nil
 |@cons v _ vs _ r1 r2=>
  cases k with
  |zero=>cases h
  |succ k=>
   rw[uQ]at h
   split at h
   . rename_i a b ha hb
     cases h
     refine .cons ?_ (rH c hr r2 hb)
     by_cases hn:v.noRef=true
     . rw[if_pos hn]at ha;cases ha;exact RD.vk c r1 (uh hn)
     . rw[if_neg hn]at ha;exact rJ c hr r1 ha
   . cases h
end
theorem nT{F:Fn}{ρ ρ':Own}{H H':L2.Hp}{s s1:Sto}{v:Val}{x:L2.V}{Q:L2.VK}(h0:HR K mg ρ s H)(w:yg K mg (RD K mg) ρ H (leave F s v s1) Q)(X:Ext ρ H ρ' H')(hr:HR K mg ρ' s1 H')(r:RD K mg ρ' H' v x):Q x H':=by
 unfold leave at w
 by_cases hk:F.keep=true
 . rw[if_pos hk]at w;exact w ρ' x H' X hr r
 . rw[if_neg hk]at w
   by_cases ho:xt s s1=true
   . rw[if_pos ho]at w
     have c:Cut ρ ρ':=⟨by obtain⟨new,e,_⟩:=X.pre;exact⟨new,e⟩,X.hid⟩
     cases hf:freeze s.length s1 v with
     |none=>rw[hf]at w;exact w.elim
     |some v'=>
      rw[hf]at w
      have hlen:s.length≤s1.length:=by
       obtain⟨new,e,_⟩:=X.pre
       rw[←h0.len,←hr.len,e,Ap];omega
      refine w ρ x H' ⟨⟨[],by simp,fun a ha=>by cases ha⟩,rfl,X.keep,X.kd⟩ ⟨?_,h0.nd,fun i vs e=>?_,fun a ha=>?_⟩ ?_
      . rw[Cv,h0.len];omega
      . have hi:i<s.length:=by
         have:=(As.mp e).1
         rw[Cv]at this;omega
        rw[FY hi]at e
        obtain⟨a,e1,q⟩:=hr.cel i vs e
        have e3:ρ.o[i]?=some a:=by
         obtain⟨new,e',_⟩:=X.pre
         rw[e',Ba (by rw[h0.len];exact hi)]at e1
         exact e1
        refine⟨a,e3,q.vk c ?_⟩
        rcases nk ho hi e with z|z
        . exact wb (jq z)
        . obtain⟨b,_,q'⟩:=h0.cel i vs z
          obtain⟨xs,q2⟩:=q'.vals
          exact RDs.refs q2
      . obtain⟨z,n⟩:=hr.hid a (by rw[X.hid];exact ha)
        exact⟨z,(h0.hid a ha).2⟩
      . unfold freeze at hf
        by_cases hn:v.noRef=true
        . rw[if_pos hn]at hf;cases hf;exact RD.vk c r (uh hn)
        . rw[if_neg hn,←h0.len]at hf
          exact rJ c hr r hf
   . rw[if_neg ho]at w;exact w.elim
theorem mJ{ρ:Own}{H:L2.Hp}{args:List Val}{vs:List L2.V}{N:List Str}(r:RDs K mg ρ H args vs):ER K mg ρ H (zX N args) (L2.start N vs):=by
 refine⟨by unfold zX L2.start;rw[Ap,Ap,Ai,Ai,CI,CI,r.length],fun i v e=>?_⟩
 unfold zX at e
 unfold L2.start
 by_cases hi:i<args.length
 . rw[Ba (by simpa using hi),AQ]at e
   rw[Ba (by rw[Ai,←r.length];exact hi),AQ]
   cases ha:args[i]? with
   |none=>rw[ha]at e;cases e
   |some a=>
    rw[ha]at e
    have:a=v:=AF (AF e)
    subst this
    obtain⟨x,h1,h2⟩:=r.get ha
    exact⟨x,by rw[h1];rfl,h2⟩
 . rw[BM (by simpa using hi),D6]at e
   split at e<;>cases e
end
noncomputable def argNames(a:Cm):Option (List Str):=
 if a.posonlyargs.isEmpty&&a.vararg.isNone&&a.kwonlyargs.isEmpty&&a.kw_defaults.isEmpty&&a.kwarg.isNone&&a.defaults.isEmpty then some (a.args.map (·.arg)) else none
noncomputable def jr(st:Stmt)(F:Fn):Bool:=
 match st with
 |.FunctionDef _ args body _ _ _ sc _ _ _=>decide (argNames args=some F.ps)&&decide (sc.kind=.function)&&!sc.isCoroutine&&!sc.isGenerator&&decide F.N.Nodup&&decide (F.N.take F.ps.length=F.ps) &&
  F.ps.all (fun x=>decide (sc.names.lookup x=some .local)||decide (sc.names.lookup x=some .cell))&&sc.names.all (fun y=>decide (y.2≠.free))&&sy sc F.N F.body body
 |_=>false
theorem lE:∀{ps:List Str} {us:List Value},ps.Nodup→us.length=ps.length→ps.filterMap (fun n=>((ps.zip us).lookup n).map (n,·))=ps.zip us:=by
 have key:∀(ps qs:List Str) (us ws:List Value),(qs++ps).Nodup→us.length=ps.length→ws.length=qs.length→ps.filterMap (fun n=>(((qs++ps).zip (ws++us)).lookup n).map (n,·))=ps.zip us:=by
  intro ps
  induction ps with
  |nil=>intro qs us ws _ _ _;rfl
  |cons p ps ih=>
   intro qs us ws nd h1 h2
   cases us with
   |nil=>cases h1
   |cons u us=>
    have hl:((qs++p::ps).zip (ws++u::us)).lookup p=some u:=by
     rw[List.zip_append h2.symm]
     have:∀(qs:List Str) (ws:List Value),p ∉ qs→((qs.zip ws)++(p::ps).zip (u::us)).lookup p=some u:=by
      intro qs
      induction qs with
      |nil=>intro ws _;simp
      |cons q qs ih2=>
       intro ws hn
       cases ws with
       |nil=>simp
       |cons w ws=>
        have hpq:(p == q)=false:=by
         have:p≠q:=fun z=>hn (by rw[z];exact Av)
         simpa using this
        rw[DR,F3,Au,hpq]
        exact ih2 ws fun z=>hn (Ao _ z)
     refine this qs ws fun z=>?_
     rw[FP]at nd
     exact nd.2.2 p z p Av rfl
    rw[A3,hl]
    have:=ih (qs++[p]) us (ws++[u]) (by simpa using nd) (by simpa using h1) (by simp[h2])
    rw[Bi,Bi]at this
    exact congrArg ((p,u)::·) this
 intro ps us nd h
 simpa using key ps [] us [] (by simpa using nd) h rfl
theorem lookup_some:∀{ps:List Str} {us:List Value},us.length=ps.length→∀n∈ps,((ps.zip us).lookup n).isNone=false
 |[],_,_,n,h=>by cases h
 |p::ps,[],h,_,_=>by cases h
 |p::ps,u::us,h,n,hn=>by
  rw[DR,Au]
  cases hb:(n == p) with
  |true=>rfl
  |false=>
   have:n≠p:=by simpa using hb
   rcases Ak.mp hn with z|z
   . exact absurd z this
   . exact lookup_some (by simpa using h) n z
theorem uK{x qual:Str}{a:Cm}{body:List Stmt}{sc:Scope}{kV doc pm cdv ct:Value}{an:Option Addr}{ps:List Str}(h:argNames a=some ps)(nd:ps.Nodup)(us:List Value)(hl:us.length=ps.length) :
 GK (BK x qual a body sc .none kV doc pm an cdv ct) ⟨us,[]⟩=pure (ps.zip us):=by
 unfold argNames at h
 split at h
 . rename_i hc
   simp only[Aa,Ge,FV]at hc
   obtain⟨⟨⟨⟨⟨h1,h2⟩,h3⟩,h4⟩,h5⟩,h6⟩:=hc
   cases h
   obtain⟨po,ar,va,ko,kd,kw,df⟩:=a
   simp only at h1 h2 h3 h4 h5 h6 hl nd ⊢
   subst h1 h2 h3 h4 h5 h6
   have hm:((ar.map (·.arg)).take ((ar.map (·.arg)).length-0)).filter (fun n=>(((ar.map (·.arg)).zip us).lookup n).isNone)=[]:=by
    rw[List.filter_eq_nil_iff]
    intro n hn
    rw[lookup_some hl n (EU hn)]
    decide
   unfold GK
   have hd:Fj B9=pure none:=rfl
   have hg:¬(us.length > (ar.map (·.arg)).length∧True):=by rintro ⟨z,_⟩;omega
   simp only[BK,DO,DF,AY,GF,EA,hd,F0,List.toList_toArray,A7,List.drop_nil,Nat.sub_zero,Option.isNone_none,Bool.and_true]
   rw[if_neg (by rw[Ai]at hl;simp;omega)]
   have hm':(List.filter (fun n=>(List.lookup n ((E7 (fun x=>x.arg) ar).zip us)).isNone) (List.take (E7 (fun x=>x.arg) ar).length (E7 (fun x=>x.arg) ar)))=[]:=hm
   rw[hm',if_neg (by decide),List.zip_nil_right,GF,EA,if_neg (by decide),lE nd hl]
 . cases h
def tS(K:KF)(x:Str)(st:Stmt):Prop:=∃f fd,BE K AL x=some (some (.ref f))∧L2.Fun K x x st f fd
theorem Yo{K:KF}{x:Str}{st:Stmt}{f:Addr}{oc:Value}{od an:Option Addr}{osl:Array (Option Value)}{kV doc pm cdv ct:Value}(a:BE K AL x=some (some (.ref f)))
 (l:K.lookup f=some ⟨oc,od,.func (BK x x (L2.xI st) (L2.yR st) (L2.zG st) .none kV doc pm an cdv ct),osl⟩) (c:BW K cdv x=true) (k:Cu K (.ref f)=true):tS K x st:=
 ⟨f,_,a,L2.Yu l c k⟩
section
variable {P:Program}{w:World}{K:KF}{mg:Str→Option Value}{base:Heap}{T:Tbl}
structure Top(T:Tbl)(K:KF)(mg:Str→Option Value):Prop where
 defs:∀f v F,T.fn f v=some F→∃st fa fd,mg f=some (.ref fa)∧L2.Fun K f f st fa fd∧jr st F=true∧((∃b,T.md b=true)→("!":Str)∈F.N→f∈T.tb)
 gls:∀x v,T.gl x=some v→∃u xv,mg x=some u∧L2.RelV xv u∧∀ρ H,RD K mg ρ H v xv
 blt:∀x∈xh,mg x=none
 no:∀f v,100≤v→T.fn f v=none
 sc:(T.xc≠[]∨∃b,T.md b=true)→Sc T K mg
theorem wg{st:Stmt}{F:Fn}(h:jr st F=true):argNames (L2.xI st)=some F.ps∧L2.wD F.N F.ps (L2.zG st)∧sy (L2.zG st) F.N F.body (L2.yR st)=true:=by
 unfold jr at h
 split at h
 . simp only[Aa,decide_eq_true_eq,AX,AI,AO]at h
   obtain⟨⟨⟨⟨⟨⟨⟨⟨h1,h2⟩,h3⟩,h4⟩,h5⟩,h6⟩,h7⟩,h8⟩,h9⟩:=h
   exact⟨h1,⟨h2,h3,h4,h5,h6,h7,h8⟩,h9⟩
 . cases h
theorem eu(top:Top T K mg){n:Nat}(IH:∀j,j≤n→Lv T P w K mg base j){f:Str}{F:Fn}{st:Stmt}{fa:Addr}{cdv kV doc pm ct oc:Value}{an od:Option Addr}{osl:Array (Option Value)}(p2:L2.wD F.N F.ps (L2.zG st))
 (hm:mg f=some (.ref fa)) (hk:K.lookup fa=some ⟨oc,od,.func (BK f f (L2.xI st) (L2.yR st) (L2.zG st) .none kV doc pm an cdv ct),osl⟩) (hcd:BW K cdv f=true) (htb:(∃b,T.md b=true)→("!":Str)∈F.N→f∈T.tb)
 {CX:L2.CXT} {A:Around} {outer:List BI} {s:Shared} {H:L2.Hp} {E:L2.XK} (hr:L2.yu n (A.deeper (PyProof.Rows.envOfC f (L2.zG st) s.heap.objs.size fa cdv))):OkF T n (L2.zG st) F.N (L2.xK CX P w K mg base F.N f (L2.zG st) fa cdv A outer s H E).nox:=by
 refine⟨⟨rfl,hr,⟨rfl,p2.nd,fun x hx=>hx,fun x hx=>⟨hx,.inl rfl⟩,fun x hx=>hx,fun x hx=>hx⟩,fun g v' G hg=>?_,top.gls,top.blt,rfl,top.no,fun m hm hmd=>⟨top.sc (.inr hmd),fun j hj=>IH j (by omega)⟩,fun hmd _ hx=>?_⟩,rfl,?_⟩
 . obtain⟨ga,gd,q1,q2,q3,q4,q5⟩:=(IH n (Ag _)).ex g v' G hg
   exact⟨ga,gd,q1,q2,q3,q4⟩
 . have:∃c,cdv=.ref c:=by
    unfold BW at hcd
    split at hcd
    . exact⟨_,rfl⟩
    . cases hcd
   obtain⟨c,rfl⟩:=this
   exact⟨f,htb hmd hx,fa,c,_,_,hm,hk,rfl,rfl,rfl,rfl⟩
 . show (if (L2.zG st).kind.isAnnotationScope then ScopeKind.function else (L2.zG st).kind)=.function
   rw[p2.kind];rfl
theorem Zw(top:Top T K mg){n:Nat}(IH:∀j,j≤n→Lv T P w K mg base j){f:Str}{v:Nat}{F:Fn}{st:Stmt}{fa:Addr}{fd:Bx}(h:T.fn f v=some F)(hm:mg f=some (.ref fa))(e2:L2.Fun K f f st fa fd)(e3:jr st F=true)
 (htb:(∃b,T.md b=true)→("!":Str)∈F.N→f∈T.tb):L2.uw P w K mg base L2.CX0 (n+1) fa fd F.ps (spN T K mg (n+1) f v):=by
 obtain⟨p1,p2,p3⟩:=wg e3
 have hcall:∀(vs:List Val) (s:Sto),zE T (n+1) f v vs s=run T (zE T n) F vs s:=fun vs s=>by simp only[zE,h]
 obtain⟨oc,od,kV,doc,pm,an,cdv,ct,osl,rfl,lk,hcd⟩:=e2.ex
 refine L2.Zv lk hcd p2 (fun vs H Q E q=>?_) fun A outer s H vs Q E hr q=>?_
 . obtain⟨ρ,t,as,_,r,z⟩:=q
   rw[hcall]at z
   unfold run at z
   split at z
   . rename_i hl;rw[←r.length];exact hl
   . exact z.elim
 . obtain⟨ρ,t,as,h0,r,z⟩:=q
   rw[hcall]at z
   unfold run at z
   have hl:as.length=F.ps.length:=by
    by_cases hl:as.length=F.ps.length
    . exact hl
    . rw[if_neg hl]at z;exact z.elim
   rw[if_pos hl]at z
   have okf:=eu (CX:=L2.CX0) (P:=P) (w:=w) (base:=base) (outer:=outer) (s:=s) (H:=H) (E:=E) top IH p2 hm lk hcd htb hr
   refine⟨_,(jSs T n F.body (L2.zG st) F.N _ (L2.yR st) okf p3 (zX F.N as) t).nox,ρ,h0,mJ r,?_⟩
   show qU K mg ρ H (zW (zE T n) T.gl (zX F.N as) F.body t) _
   cases hx:zW (zE T n) T.gl (zX F.N as) F.body t with
   |ok fl s1=>
    rw[hx]at z
    cases fl with
    |nx e=>exact fun ρ1 H1 σ1 x1 hr1 er1=>nT h0 z x1 hr1 .none
    |rt v'=>exact fun ρ1 H1 x x1 hr1 r1=>nT h0 z x1 hr1 r1
    |bk e=>exact z.elim
    |ct e=>exact z.elim
   |exc _ _ _=>rw[hx]at z;exact z.elim
   |stuck=>rw[hx]at z;exact z.elim
theorem TU(top:Top T K mg)(hB:K.In base){n:Nat}(IH:∀j,j≤n→Lv T P w K mg base j){f:Str}{v:Nat}{F:Fn}{st:Stmt}{fa:Addr}{fd:Bx}(h:T.fn f v=some F)(hm:mg f=some (.ref fa))(e2:L2.Fun K f f st fa fd)(e3:jr st F=true)
 (htb:(∃b,T.md b=true)→("!":Str)∈F.N→f∈T.tb):L2.uw P w K mg base (L2.CXE P w) (n+1) fa fd F.ps (fun vs H Q E=>∃ρ s args,HR K mg ρ s H∧RDs K mg ρ H args vs∧qD K mg ρ H (zq T (n+1) f v args s) E):=by
 obtain⟨p1,p2,p3⟩:=wg e3
 have hcall:∀(vs:List Val) (s:Sto),zq T (n+1) f v vs s=if vs.length=F.ps.length then xSs (wx T) (zE T n) (zq T n) T.gl (zX F.N vs) F.body s else Ab:=fun vs s=>by simp only[zq,h]
 obtain⟨oc,od,kV,doc,pm,an,cdv,ct,osl,rfl,lk,hcd⟩:=e2.ex
 refine L2.Zv lk hcd p2 (fun vs H Q E q=>?_) fun A outer s H vs Q E hr q=>?_
 . obtain⟨ρ,t,as,_,r,z⟩:=q
   rw[hcall]at z
   split at z
   . rename_i hl;rw[←r.length];exact hl
   . exact z.elim
 . obtain⟨ρ,t,as,h0,r,z⟩:=q
   rw[hcall]at z
   have hl:as.length=F.ps.length:=by
    by_cases hl:as.length=F.ps.length
    . exact hl
    . rw[if_neg hl]at z;exact z.elim
   rw[if_pos hl]at z
   have okf:=eu (CX:=L2.CXE P w) (P:=P) (w:=w) (base:=base) (outer:=outer) (s:=s) (H:=H) (E:=E) top IH p2 hm lk hcd htb hr
   have okx:OkX T n (L2.zG st) F.N (L2.xK (L2.CXE P w) P w K mg base F.N f (L2.zG st) fa cdv A outer s H E) E:=by
    refine⟨okf,L2.ig,fun C H hE=>L2.Zi hE,IH n (Ag _),fun c hc=>?_⟩
    have hne:T.xc≠[]:=fun z=>by rw[z]at hc;cases hc
    obtain⟨_,_,_,_,hue,_,_,_,_,RF⟩:=(top.sc (.inl hne)).ex
    obtain⟨w',hw⟩:=Ce.mp hc
    obtain⟨C,q1,q2,q3⟩:=RF c w' hw base hB
    exact⟨C,hue,q1,q2,q3⟩
   exact⟨_,aV okx F.body (L2.yR st) p3 (zX F.N as) t,ρ,h0,mJ r,z⟩
theorem Xs(top:Top T K mg)(hB:K.In base):∀n j,j≤n→Lv T P w K mg base j:=by
 have step:∀n,(∀j,j<n→Lv T P w K mg base j)→Lv T P w K mg base n:=fun n IH=>⟨fun f v F hf=>by
  obtain⟨st,fa,fd,q1,q2,q3,q4⟩:=top.defs f v F hf
  obtain⟨r1,r2,r3⟩:=wg q3
  have nd:F.ps.Nodup:=by rw[←r2.pre];exact r2.nd.sublist (FI _ _)
  have hb:L2.Binds K fd F.ps []:=q2.binds fun kV doc pm an cdv ct us hl=>uK r1 nd us hl
  cases n with
  |zero=>
   refine⟨fa,fd,q1,q2.kp,hb,⟨fun vs H Q E q=>?_,fun A outer s H args us vs Q E _ _ _ _ q=>?_⟩,⟨fun vs H Q E q=>?_,fun A outer s H args us vs Q E _ _ _ _ q=>?_⟩⟩
   . obtain⟨ρ,t,as,_,_,z⟩:=q;exact z.elim
   . obtain⟨ρ,t,as,_,_,z⟩:=q;exact z.elim
   . obtain⟨ρ,t,as,_,_,z|z⟩:=q<;>exact z.elim
   . obtain⟨ρ,t,as,_,_,z|z⟩:=q<;>exact z.elim
  |succ n=>
   have IH':∀j,j≤n→Lv T P w K mg base j:=fun j hj=>IH j (by omega)
   have a:=Zw (P:=P) (w:=w) (base:=base) top IH' hf q1 q2 q3 q4
   have b:=TU (P:=P) (w:=w) (base:=base) top hB IH' hf q1 q2 q3 q4
   refine⟨fa,fd,q1,q2.kp,hb,a,⟨fun vs H Q E q=>?_,fun A outer s H args us vs Q E h1 h2 h3 h4 q=>?_⟩⟩
   . obtain⟨ρ,t,as,x1,x2,z|z⟩:=q
     . exact a.len vs H Q E ⟨ρ,t,as,x1,x2,z⟩
     . exact b.len vs H Q E ⟨ρ,t,as,x1,x2,z⟩
   . obtain⟨ρ,t,as,x1,x2,z|z⟩:=q
     . refine CG (a.run A outer s H args us vs Q E h1 h2 h3 h4 ⟨ρ,t,as,x1,x2,z⟩) fun r s' hq=>?_
       cases r with
       |error e=>exact AJ hq
       |ok fl=>cases fl<;>exact hq
     . exact b.run A outer s H args us vs Q E h1 h2 h3 h4 ⟨ρ,t,as,x1,x2,z⟩⟩
 intro n
 induction n with
 |zero=>intro j hj;exact step j fun i hi=>absurd hi (by omega)
 |succ n ih=>
  intro j hj
  by_cases h:j≤n
  . exact ih j h
  . have:j=n+1:=by omega
    subst this
    exact step _ fun i hi=>ih i (by omega)
end
end M
end
section
namespace M
open PySem Hd
noncomputable def jX(K:KF)(x:Str):Val→Prop
 |.int i=>∃t,BE K AL x=some (some (.int i t))
 |.str y=>∃t,BE K AL x=some (some (.str y t))
 |.ctup ns=>∃a,BE K AL x=some (some (.ref a))∧KT K a (ns.map L2.V.int)
 |_=>False
noncomputable def kA(fnL:List ((Str × Nat) × Fn))(glL:List (Str × Val))(tb:List Str)(xc:List (Str × Str))(md:Bool→Bool):Tbl:=⟨fun f v=>fnL.lookup (f,v),fun x=>glL.lookup x,tb,xc,md⟩
noncomputable def mQ(fnL:List ((Str × Nat) × Fn))(D:List (Str × Stmt)):Bool:=fnL.all fun p=>decide (p.1.2<100)&&match D.lookup p.1.1 with|some st=>jr st p.2|none=>false
theorem xU{α β:Type} [BEq α] [LawfulBEq α]:∀{l:List (α × β)} {a:α} {b:β},l.lookup a=some b→(a,b)∈l
 |[],_,_,h=>by cases h
 |(c,d)::l,a,b,h=>by
  rw[Au]at h
  cases hb:(a == c) with
  |true=>rw[hb]at h;cases h;rw[Co hb];exact Av
  |false=>rw[hb]at h;exact Ao _ (xU h)
theorem W6{K:KF}{mg:Str→Option Value}{h:Heap}{fnL:List ((Str × Nat) × Fn)}{glL:List (Str × Val)}{D:List (Str × Stmt)}(X:K.In h)(G:h.Ns AL mg)(hd:∀p∈D,tS K p.1 p.2)(hg:∀p∈glL,jX K p.1 p.2)(hb:∀x∈xh,BE K AL x=some none)
 (hc:mQ fnL D=true) {tb:List Str} {xc:List (Str × Str)} {md:Bool→Bool} (htb:(∃b,md b=true)→fnL.all (fun p=>!decide (("!":Str)∈p.2.N)||decide (p.1.1∈tb))=true) (sc:(xc≠[]∨∃b,md b=true)→Sc (kA fnL glL tb xc md) K mg):Top (kA fnL glL tb xc md) K mg:=by
 refine⟨fun f v F e=>?_,fun x v e=>?_,fun x hx=>PySem.W.mg_none_of X G (hb x hx),fun f v hv=>?_,sc⟩
 . have hm:((f,v),F)∈fnL:=xU e
   unfold mQ at hc
   rw[AI]at hc
   have h1:=hc _ hm
   rw[Aa]at h1
   have h1:=h1.2
   split at h1
   . rename_i st hs
     obtain⟨fa,fd,a,F'⟩:=hd _ (xU hs)
     refine⟨st,fa,fd,FF X G a,F',h1,fun hmd hN=>?_⟩
     have:=AI.mp (htb hmd) _ hm
     simp only[AO,AX,decide_eq_false_iff_not,decide_eq_true_eq]at this
     exact this.resolve_left fun z=>z hN
   . cases h1
 case refine_3=>
  show fnL.lookup (f,v)=none
  cases e:fnL.lookup (f,v) with
  |none=>rfl
  |some F=>
   have hm:((f,v),F)∈fnL:=xU e
   unfold mQ at hc
   rw[AI]at hc
   have h1:=hc _ hm
   rw[Aa,decide_eq_true_eq]at h1
   have h2:v<100:=h1.1
   omega
 . have hm:(x,v)∈glL:=xU e
   have h1:=hg _ hm
   cases v with
   |int i=>
    obtain⟨t,a⟩:=h1
    exact⟨_,.int i,FF X G a,⟨t,rfl⟩,fun ρ H=>.int i⟩
   |str y=>
    obtain⟨t,a⟩:=h1
    exact⟨_,.str y,FF X G a,⟨t,rfl⟩,fun ρ H=>.str y⟩
   |ctup ns=>
    obtain⟨a,h2,h3⟩:=h1
    exact⟨_,.ref a,FF X G h2,rfl,fun ρ H=>.ctup h3⟩
   |_=>exact h1.elim
theorem int_mk{K:KF}{x:Str}{i:Int}{t:Tok}(a:BE K AL x=some (some (.int i t))):jX K x (.int i):=⟨t,a⟩
theorem str_mk{K:KF}{x y:Str}{t:Tok}(a:BE K AL x=some (some (.str y t))):jX K x (.str y):=⟨t,a⟩
theorem rK:∀{us:List Value} {ns:List Int},nQ us=some ns→L2.Vals (ns.map L2.V.int) us
 |[],_,h=>by cases h;exact .nil
 |u::us,ns,h=>by
  cases u with
  |int i t=>
   simp only[nQ,A5]at h
   obtain⟨ms,h1,rfl⟩:=h
   exact .cons ⟨t,rfl⟩ (rK h1)
  |_=>cases h
theorem bc{K:KF}{x:Str}{a:Addr}{od:Option Addr}{us:List Value}{n:Nat}{sl:Array (Option Value)}{ns:List Int}(h:BE K AL x=some (some (.ref a)))
 (l:K.lookup a=some ⟨.type "tuple",od,.seq us.toArray n,sl⟩) (hz:us.length≤1000) (hi:nQ us=some ns):jX K x (.ctup ns):=
 ⟨a,h,_,us.toArray,n,l,rfl,rfl,by rw[Ah,A2];omega,by simpa using rK hi⟩
structure VL(T:Tbl)(K:KF)(mg:Str→Option Value)(h:Heap)(tabs:List Addr):Prop where
 nd:tabs.Nodup
 len:tabs.length=T.tb.length
 at_:∀(i:Nat) (g:Str),T.tb[i]?=some g→∃P,tabs[i]?=some P∧h.get? P=some (E8 #[])∧K.lookup P=none∧GA h P ∧
  ∃(fa c:Addr) (o:Obj) (fd:Bx),mg g=some (.ref fa)∧K.lookup fa=some o∧o.data=.func fd∧fd.code=.ref c∧∀h':Heap,K.In h'→PySem.W.CodeHd h' c P
noncomputable def Uu(K:KF)(tabs:List Addr):L2.Sp:=fun vs H Q _=>∃(a:Addr) (ns:List Int),vs=[.ref a]∧(∀b∈tabs,H b=some (.tbl #[]))∧L2.SqL K H a (ns.map L2.V.int)∧ns.length≤63∧∀H',Q (.bl true) H'
theorem walk{l:PySem.W.OpenLaw}{q:Program}{loose:List Str}{XP:(Str→Option Value)→Heap→Prop}{YP:World→Heap→Prop}{d:DefRec}{K:KF}{T:Tbl}{F:Fn}{n:Nat}{x:Str}(hn:l.most=some 63)(hdf:d.params.defaults=[])(hr:L2.yu n callerA)
 (hY:∀(w:World) (h:Heap),YP w h→K.In h) (hF:T.fn d.name 0=some F) (hx:F.ps=[x])
 (TOP:∀(w:World) (s₀:Shared) (mg mb:Str→Option Value) (h:Heap),PySem.W.Ground q loose [] XP w s₀ mg mb h→K.In h→Top T K mg∧∃tabs,VL T K mg h tabs)
 (HL:∀ns:List Int,ns.length≤63→∃s',zE T n d.name 0 [.scr ns] (T.tb.map .tb)=.ok (.bool true) s') :
 PySem.W.WalkO q loose XP YP l.row.toRowW d [] (fun f vs=>PySem.call f vs):=by
 refine Att.nA hn hdf fun w s₀ s₁ mg mb fa o pm cd doc a vs ns G Y ho hd hcd hmg hobj hints hlen hg=>?_
 have KX:=hY w _ Y
 obtain⟨top,tabs,TE⟩:=TOP w s₀ mg mb _ G KX
 obtain⟨st,fa',fd',e1,e2,e3,e4⟩:=top.defs _ _ _ hF
 obtain⟨p1,p2,p3⟩:=wg e3
 have nd:F.ps.Nodup:=by rw[←p2.pre];exact p2.nd.sublist (FI _ _)
 rw[e1]at hmg
 cases hmg
 cases n with
 |zero=>
  obtain⟨s',hs⟩:=HL [] (by decide)
  cases hs
 |succ n=>
  have htab:∀b∈tabs,s₁.heap.get? b=some (E8 #[])∧K.lookup b=none∧GA s₁.heap b:=fun b hb=>by
   obtain⟨i,hi,e⟩:=Bu hb
   obtain⟨P,q1,q2,q3,q4,_⟩:=TE.at_ i _ (Ae (by rw[←TE.len];exact hi))
   rw[Ae hi,e]at q1
   cases q1
   exact⟨q2,q3,q4⟩
  refine L2.iE (CX:=L2.CX0) (k:=n+1) (fd:=fd') (x:=x) (sp:=Uu K tabs) (tabs:=tabs) KX G.T.g G.T.b G.T.builtins G.T.nolimit hg hobj hints (Ax hlen (by decide)) hr htab (fun base kb nb=>?_) (fun s u=>?_) (fun H hT hS=>⟨a,ns,rfl,hT,hS,hlen,fun _=>rfl⟩) fun _ _ _ z=>z
  . have f4:=Zw (P:=l.prog) (w:=w) (base:=base) top (fun j hj=>Xs top kb n j hj) hF e1 e2 e3 e4
    rw[hx]at f4
    refine f4.imp fun vs H Q E ⟨a,ns,e,hT,hS,hl,hq⟩=>?_
    subst e
    obtain⟨s',hs⟩:=HL ns hl
    refine⟨⟨tabs,[]⟩,T.tb.map .tb,[.scr ns],⟨by rw[Ai];exact TE.len,TE.nd,fun i c z=>?_,fun a z=>by cases z⟩,.cons (.scr ?_) .nil,?_⟩
    . rw[AQ]at z
      cases hg:T.tb[i]? with
      |none=>rw[hg]at z;cases z
      |some g=>
       rw[hg]at z
       cases z
       obtain⟨P,q1,q2,q3,q4,fn⟩:=TE.at_ i g hg
       exact⟨P,q1,#[],hT P (AS q1),Bg,fun pos cv hc=>(nomatch hc),fn⟩
    . rcases hS with hS|hS
      . refine .inl ⟨⟨fun hm=>?_,by simp⟩,hS⟩
        have:=hT a hm
        rcases hS with z|⟨o,z⟩<;>(rw[this]at z;cases z)
      . exact .inr hS
    . rw[hs]
      intro ρ' x' H' _ _ r
      cases r
      exact hq H'
  . obtain⟨oc,od,kV,doc,pm,an,cdv,ct,osl,e,_⟩:=e2.ex
    subst e
    refine .of_eq ?_
    have:=uK (x:=d.name) (qual:=d.name) (body:=L2.yR st) (sc:=L2.zG st) (kV:=kV) (doc:=doc) (pm:=pm) (cdv:=cdv) (ct:=ct) (an:=an) p1 nd [u] (by rw[hx];rfl)
    rw[hx]at this
    exact this
end M
end
section
namespace F
open PySem M
noncomputable def z7:Fn:=⟨["_law_script","_law_k"],["_law_script","_law_k"],false,(.cons (.ifS (.val (.cmp .lt (.var 1) (.blt .len false (.cons (.var 0) .nil)))) (.cons (.ret (.ix (.var 0) (.var 1))) .nil) .nil) (.cons (.ret (.lit (.int 0))) .nil))⟩
noncomputable def yZ:Fn:=⟨["_law_pen_here","_law_many","_law_left","_law_found","_law_mixed"],["_law_pen_here","_law_many"],false,(.cons (.ifS (.val (.cmp .gt (.ix (.var 0) (.lit (.int 0))) (.lit (.int 0)))) (.cons (.asgT [2,3] (.blt .divmod false (.cons (.ix (.var 0) (.lit (.int 0))) (.cons (.var 1) .nil)))) (.cons (.setIx (.var 0) (.lit (.int 0)) (.var 2)) (.cons (.ret (.var 3)) .nil))) .nil) (.cons (.setIx (.var 0) (.lit (.int 1)) (.bin false .mod (.bin false .add (.bin false .mul (.ix (.var 0) (.lit (.int 1))) (.lit (.int 48271))) (.lit (.int 30269))) (.lit (.int 2147483629)))) (.cons (.asg 4 (.bin false .mod (.bin false .add (.bin false .add (.bin false .mul (.ix (.var 0) (.lit (.int 1))) (.ix (.var 0) (.lit (.int 1)))) (.bin false .mul (.lit (.int 40692)) (.ix (.var 0) (.lit (.int 1))))) (.lit (.int 7))) (.lit (.int 2147483587)))) (.cons (.ret (.bin false .mod (.bin false .fdiv (.var 4) (.lit (.int 64))) (.var 1))) .nil))))⟩
noncomputable def yP:Fn:=⟨["_law_cell","_law_left"],["_law_cell"],true,(.cons (.asg 1 (.blt .max false (.cons (.var 0) (.cons (.bin false .sub (.lit (.int 0)) (.var 0)) .nil)))) (.cons (.ret (.lst true (.cons (.bin false .mul (.var 1) (.blt .int false (.cons (.cmp .ge (.var 1) (.bin false .pow (.lit (.int 10)) (.lit (.int 18)))) .nil))) (.cons (.bin false .mod (.var 1) (.lit (.int 2147483629))) .nil)))) .nil))⟩
noncomputable def yA:Fn:=⟨["thing"],["thing"],false,(.cons (.ret (.andE (.blt .isi false (.cons (.var 0) (.cons (.ty "tuple" "tuple") .nil))) (.cons (.chain .le .le (.lit (.int 1)) (.blt .len false (.cons (.var 0) .nil)) (.blt .len false (.cons (.gl "HUES") .nil))) (.cons (.call "are_wholes" 0 (.cons (.var 0) (.cons (.gl "LEAST_SIZE") (.cons (.gl "MOST_SIZE") .nil)))) .nil)))) .nil)⟩
noncomputable def yf:Fn:=⟨["things","least","most"],["things","least","most"],false,(.cons (.ret (.blt .all false (.cons (.comp false ["thing","least","most"] [none,some 1,some 2] (.call "is_whole" 0 (.cons (.var 0) (.cons (.var 1) (.cons (.var 2) .nil)))) (.nm 0) (.val (.var 0)) .nil) .nil))) .nil)⟩
noncomputable def xB:Fn:=⟨["thing","least","most"],["thing","least","most"],false,(.cons (.ret (.andE (.blt .isi false (.cons (.var 0) (.cons (.ty "int" "int") .nil))) (.cons (.not (.blt .isi false (.cons (.var 0) (.cons (.ty "bool" "bool") .nil)))) (.cons (.chain .le .le (.var 1) (.var 0) (.var 2)) .nil)))) .nil)⟩
noncomputable def yB:Fn:=⟨["thing"],["thing"],false,(.cons (.ifS (.not (.val (.call "are_sizes" 0 (.cons (.var 0) .nil)))) (.cons (.raise (.call "NoSizes" 0 (.cons (.lit (.str "one to four sizes are due")) .nil))) .nil) .nil) .nil)⟩
end F
end
section
namespace M
open PySem L2
noncomputable def qL(n s f:Nat):List (Nat × Nat):=(AE ((n-1-f)/(s-1))).map fun j=>(f,j+1)
noncomputable def wJ(n s:Nat):List (Nat × Nat):=(AE n).flatMap (qL n s)
theorem cJ(n s f:Nat):(qL n s f).length=(n-1-f)/(s-1):=by unfold qL;rw[Ai,BD]
theorem qr{n s:Nat}{r:Nat × Nat}(hs:2≤s)(h:r∈wJ n s):0<r.2∧r.1+r.2*(s-1)<n:=by
 unfold wJ qL at h
 obtain⟨f,hf,h⟩:=Du.mp h
 obtain⟨j,hj,rfl⟩:=Bh.mp h
 rw[AW]at hf hj
 have:(j+1)*(s-1)≤n-1-f:=(Nat.le_div_iff_mul_le (by omega)).mp hj
 refine⟨Nat.succ_pos _,?_⟩
 show f+(j+1)*(s-1)<n
 omega
noncomputable def Xy(ns:List Int)(f d s:Nat):Bool:=(AE s).all fun k=>decide (ns[f+k*d]?=ns[f]?)
theorem fG{α β:Type}{f:α→Option β}{g:α→β}:∀{l:List α},(∀x∈l,f x=some (g x))→l.filterMap f=l.map g
 |[],_=>rfl
 |x::l,h=>by rw[A3,h x (Av ..),AK,fG fun y hy=>h y (Ao _ hy)]
theorem ki(n s:Nat):∀i,i≤n→2*((AE i).flatMap (qL n s)).length+i*i+i≤2*(i*n)
 |0,_=>by simp
 |i+1,hi=>by
  have h1:=ki n s i (by omega)
  rw[EV,Ct,Ap]
  have e:List.flatMap (qL n s) [i]=qL n s i:=by simp
  have h2:(qL n s i).length≤n-1-i:=by rw[cJ];exact Nat.div_le_self _ _
  rw[e]
  have e2:(i+1)*(i+1)=i*i+2*i+1:=by rw[Nat.add_mul,Nat.mul_add];omega
  have e3:(i+1)*n=i*n+n:=DN i n
  rw[e2,e3];omega
theorem cK{n z:Nat}(h:n≤40):(wJ n z).length≤800:=by
 have h1:=ki n z n (Ag n)
 have h2:n*n≤40*n:=Dr n h
 unfold wJ;omega
noncomputable def TV(z p:Nat)(r:Nat × Nat):Bool:=(AE z).any fun k=>decide (r.1+k*r.2=p)
noncomputable def atP(n z p:Nat):List (Nat × Nat):=(wJ n z).filter (TV z p)
noncomputable def toI(r:Nat × Nat):Int × Int:=(r.1,r.2)
theorem lh{n z:Nat}(hn:n≤40):((wJ n z).map toI).Pairwise (fun a b=>kY a<kY b):=by
 rw[Ck]
 unfold wJ
 rw[ED]
 have lt40:∀{f j:Nat},j∈AE ((n-1-f)/(z-1))→j<40:=fun{f j} hj=>by
  rw[AW]at hj
  have:=Nat.div_le_self (n-1-f) (z-1)
  omega
 refine⟨fun f _=>?_,?_⟩
 . unfold qL
   rw[Ck]
   refine Ed ?_ De
   intro i j hij
   show (f:Int)*1000+((i+1:Nat):Int)<(f:Int)*1000+((j+1:Nat):Int)
   omega
 . refine Ed ?_ De
   intro f g hfg x hx y hy
   unfold qL at hx hy
   obtain⟨i,hi,rfl⟩:=Bh.mp hx
   obtain⟨j,hj,rfl⟩:=Bh.mp hy
   have:=lt40 hi
   have:=lt40 hj
   show (f:Int)*1000+((i+1:Nat):Int)<(g:Int)*1000+((j+1:Nat):Int)
   omega
def Sz(zs:List Int):Prop:=1≤zs.length∧zs.length≤4∧∀x∈zs,2≤x∧x≤8
noncomputable def putL(ns:List Int)(p:Nat)(h:Int):List Int:=ns.take p++h::ns.drop (p+1)
noncomputable def TN(ns:List Int)(z p:Nat)(h:Int):List (Nat × Nat):=(atP ns.length z p).filter fun r=>Xy (putL ns p h) r.1 r.2 z
noncomputable def zO(zs:List Int)(h:Nat):Nat:=(zs.getD h 0).toNat
noncomputable def V7(zs ns:List Int)(p:Nat):List Nat:=(AE zs.length).filter fun h=>(TN ns (zO zs h) p h).isEmpty
theorem xP{zs:List Int}(hz:Sz zs){h:Nat}(hh:h<zs.length):zs[h]?=some ((zO zs h:Nat):Int)∧2≤zO zs h∧zO zs h≤8:=by
 have e:zs.getD h 0=zs[h]:=by rw[Aw,Ae hh];rfl
 have:=hz.2.2 zs[h] (B2 hh)
 unfold zO
 rw[e,Ae hh]
 refine⟨?_,by omega,by omega⟩
 congr 1;omega
noncomputable def sR(f d z:Nat):List Int:=(AE z).map fun k=>((f+k*d:Nat):Int)
end M
end
section
namespace M
open PySem
def Out.post{α:Type}(o:Out α)(P:α→Sto→Prop):Prop:=∃a s,o=.ok a s∧P a s
theorem zC{α:Type}{a:α}{s:Sto}{P:α→Sto→Prop}:(Out.ok a s).post P↔P a s:=
 ⟨fun⟨_,_,e,h⟩=>(by cases e;exact h),fun h=>⟨a,s,rfl,h⟩⟩
theorem zH{α β:Type}{o:Out α}{f:α→Sto→Out β}{P:β→Sto→Prop}:(o.bind f).post P↔o.post fun a s=>(f a s).post P:=by
 cases o with
 |ok a s=>exact(zC (P:=fun a s=>(f a s).post P)).symm
 |exc c as s=>exact⟨fun⟨_,_,e,_⟩=>(by cases e),fun⟨_,_,e,_⟩=>(by cases e)⟩
 |stuck=>exact⟨fun⟨_,_,e,_⟩=>(by cases e),fun⟨_,_,e,_⟩=>(by cases e)⟩
theorem zS{α:Type}{o:Out α}{P Q:α→Sto→Prop}(h:o.post P)(i:∀a s,P a s→Q a s):o.post Q:=by
 obtain⟨a,s,e,h⟩:=h
 exact⟨a,s,e,i a s h⟩
theorem zl{α:Type}{o:Out α}{P Q:α→Sto→Prop}(h:∀a s,P a s↔Q a s):o.post P↔o.post Q:=⟨fun k=>zS k fun a s=>(h a s).mp,fun k=>zS k fun a s=>(h a s).mpr⟩
theorem zY{α:Type}{P:α→Sto→Prop}:(Out.stuck:Out α).post P↔False:=⟨fun⟨_,_,e,_⟩=>(by cases e),AJ⟩
theorem yy{α:Type}{c:Prop} [Decidable c] {a b:Out α}{P:α→Sto→Prop}:(if c then a else b).post P↔if c then a.post P else b.post P:=by split<;>exact CZ
theorem post_eq{α:Type}{o:Out α}{a:α}{s:Sto}:o=.ok a s↔o.post fun x t=>x=a∧t=s:=⟨fun h=>⟨a,s,h,rfl,rfl⟩,fun⟨_,_,h,e1,e2⟩=>(by rw[h,e1,e2])⟩
section
variable {Φ:Calls}{G:Str→Option Val}{env:Env}{s:Sto}
theorem UG{v:Val}{P:Val→Sto→Prop}:(evE Φ G env (.lit v) s).post P↔P v s:=zC
theorem YC{i:Nat}{P:Val→Sto→Prop}:(evE Φ G env (.var i) s).post P↔∃v,env[i]?=some (some v)∧P v s:=by
 show (match env[i]? with|some (some v)=>Out.ok v s|_=>.stuck).post P↔_
 split
 . rename_i v e
   refine zC.trans ⟨fun h=>⟨_,e,h⟩,fun⟨u,h1,h2⟩=>?_⟩
   rw[e]at h1;cases h1;exact h2
 . rename_i hn
   exact⟨fun⟨_,_,e,_⟩=>(by cases e),fun⟨u,h1,h2⟩=>absurd h1 (hn u)⟩
theorem UD{x:Str}{P:Val→Sto→Prop}:(evE Φ G env (.gl x) s).post P↔∃v,G x=some v∧P v s:=by
 show (match G x with|some v=>Out.ok v s|Ab=>.stuck).post P↔_
 split
 . rename_i v e
   refine zC.trans ⟨fun h=>⟨_,e,h⟩,fun⟨u,h1,h2⟩=>?_⟩
   rw[e]at h1;cases h1;exact h2
 . rename_i e
   exact⟨fun⟨_,_,e,_⟩=>(by cases e),fun⟨u,h1,h2⟩=>(by rw[e]at h1;cases h1)⟩
theorem Tg{x:Str}{n:String}{P:Val→Sto→Prop}:(evE Φ G env (.ty x n) s).post P↔P (.ty n) s:=zC
theorem V9{m:Bool}{op:Bop}{a b:Ex}{P:Val→Sto→Prop}:(evE Φ G env (.bin m op a b) s).post P↔(evE Φ G env a s).post fun x s1=>(evE Φ G env b s1).post fun y s2=>(binOp m op x y s2).post P:=by
 show (Out.bind _ _).post P↔_
 simp only[zH]
theorem UI{a:Ex}{P:Val→Sto→Prop}:(evE Φ G env (.neg a) s).post P↔(evE Φ G env a s).post fun x s1=>∃i,x=.int i∧P (.int (-i)) s1:=by
 show (Out.bind _ _).post P↔_
 simp only[zH]
 exact zl fun x s1=>by cases x<;>simp[zC,zY]
theorem UJ{a:Ex}{P:Val→Sto→Prop}:(evE Φ G env (.not a) s).post P↔(evE Φ G env a s).post fun x s1=>∃b,x=.bool b∧P (.bool !b) s1:=by
 show (Out.bind _ _).post P↔_
 simp only[zH]
 exact zl fun x s1=>by cases x<;>simp[zC,zY]
theorem UB{op:Cop}{a b:Ex}{P:Val→Sto→Prop}:(evE Φ G env (.cmp op a b) s).post P↔(evE Φ G env a s).post fun x s1=>(evE Φ G env b s1).post fun y s2=>(zQ op x y s2).post P:=by
 show (Out.bind _ _).post P↔_
 simp only[zH]
theorem aw{op op':Cop}{a b c:Ex}{P:Val→Sto→Prop}:(evE Φ G env (.chain op op' a b c) s).post P↔(evE Φ G env a s).post fun x s1=>(evE Φ G env b s1).post fun y s2=>(zQ op x y s2).post fun r s3=>∃t,r=.bool t∧if t=true then (evE Φ G env c s3).post fun z s4=>(zQ op' y z s4).post P else P (.bool false) s3:=by
 show (Out.bind _ _).post P↔_
 simp only[zH]
 refine zl fun x s1=>zl fun y s2=>zl fun r s3=>?_
 cases r with
 |bool t=>cases t<;>simp[zC,zY,zH]
 |_=>simp[zY]
theorem V8{a b:Ex}{es:Exs}{P:Val→Sto→Prop}:(evE Φ G env (.andE a (.cons b es)) s).post P↔(evE Φ G env a s).post fun x s1=>∃t,x=.bool t∧if t=true then (tY Φ G env (.cons b es) s1).post P else P (.bool false) s1:=by
 show (Out.bind _ _).post P↔_
 simp only[zH]
 refine zl fun x s1=>?_
 cases x with
 |bool t=>cases t<;>simp[zC,zY]
 |_=>simp[zY]
theorem WA{a:Ex}{P:Val→Sto→Prop}:(tY Φ G env (.cons a .nil) s).post P↔(evE Φ G env a s).post P:=CZ
theorem WB{a b:Ex}{es:Exs}{P:Val→Sto→Prop}:(tY Φ G env (.cons a (.cons b es)) s).post P↔(evE Φ G env a s).post fun x s1=>∃t,x=.bool t∧if t=true then (tY Φ G env (.cons b es) s1).post P else P (.bool false) s1:=by
 show ((evE Φ G env a s).bind fun x s1=>match x with
  |.bool true=>tY Φ G env (.cons b es) s1
  |.bool false=>.ok (.bool false) s1
  |_=>.stuck).post P↔_
 simp only[zH]
 refine zl fun x s1=>?_
 cases x with
 |bool t=>cases t<;>simp[zC,zY]
 |_=>simp[zY]
theorem Te{a b:Ex}{es:Exs}{P:Val→Sto→Prop}:(evE Φ G env (.orE a (.cons b es)) s).post P↔(evE Φ G env a s).post fun x s1=>∃t,truth s1 x=some t∧if t=true then P x s1 else (nJ Φ G env (.cons b es) s1).post P:=by
 show (Out.bind _ _).post P↔_
 simp only[zH]
 refine zl fun x s1=>?_
 cases truth s1 x with
 |some t=>cases t<;>simp[zC,zY]
 |none=>simp[zY]
theorem UK{a:Ex}{P:Val→Sto→Prop}:(nJ Φ G env (.cons a .nil) s).post P↔(evE Φ G env a s).post P:=CZ
theorem UL{a b:Ex}{es:Exs}{P:Val→Sto→Prop}:(nJ Φ G env (.cons a (.cons b es)) s).post P↔(evE Φ G env a s).post fun x s1=>∃t,truth s1 x=some t∧if t=true then P x s1 else (nJ Φ G env (.cons b es) s1).post P:=by
 show ((evE Φ G env a s).bind fun x s1=>match truth s1 x with
  |some false=>nJ Φ G env (.cons b es) s1
  |some true=>.ok x s1
  |Ab=>.stuck).post P↔_
 simp only[zH]
 refine zl fun x s1=>?_
 cases truth s1 x with
 |some t=>cases t<;>simp[zC,zY]
 |none=>simp[zY]
theorem UE{c:Cn}{a b:Ex}{P:Val→Sto→Prop}:(evE Φ G env (.ife c a b) s).post P↔(evT Φ G env c s).post fun t s1=>if t=true then (evE Φ G env a s1).post P else (evE Φ G env b s1).post P:=by
 show (Out.bind _ _).post P↔_
 simp only[zH,yy]
theorem UN{es:Exs}{P:Val→Sto→Prop}:(evE Φ G env (.tup es) s).post P↔(zi Φ G env es s).post fun vs s1=>(if vs.length≤zU then Out.ok (Val.tup vs) s1 else .stuck).post P:=by
 show (Out.bind _ _).post P↔_
 simp only[zH]
theorem UH{m:Bool}{es:Exs}{P:Val→Sto→Prop}:(evE Φ G env (.lst m es) s).post P↔(zi Φ G env es s).post fun vs s1=>(if vs.length≤zU then newList m vs s1 else .stuck).post P:=by
 show (Out.bind _ _).post P↔_
 simp only[zH]
theorem WD{f:Str}{v:Nat}{es:Exs}{P:Val→Sto→Prop}:(evE Φ G env (.call f v es) s).post P↔(zi Φ G env es s).post fun vs s1=>(Φ f v vs s1).post P:=by
 show (Out.bind _ _).post P↔_
 simp only[zH]
theorem dE{f:Bf}{m:Bool}{es:Exs}{P:Val→Sto→Prop}:(evE Φ G env (.blt f m es) s).post P↔(zi Φ G env es s).post fun vs s1=>(blt f m vs s1).post P:=by
 show (Out.bind _ _).post P↔_
 simp only[zH]
theorem WI{f:Mf}{m:Bool}{o:Ex}{es:Exs}{P:Val→Sto→Prop}:(evE Φ G env (.yx f m o es) s).post P↔(evE Φ G env o s).post fun x s1=>(zi Φ G env es s1).post fun vs s2=>(yx f x vs s2).post P:=by
 show (Out.bind _ _).post P↔_
 simp only[zH]
theorem dI{m:Bool}{a b c:Ex}{P:Val→Sto→Prop}:(evE Φ G env (.listRange m a b c) s).post P↔(evE Φ G env a s).post fun x s1=>(evE Φ G env b s1).post fun y s2=>(evE Φ G env c s2).post fun z s3=>(lF m x y z s3).post P:=by
 show (Out.bind _ _).post P↔_
 simp only[zH]
theorem Td{a b:Ex}{P:Val→Sto→Prop}:(evE Φ G env (.ix a b) s).post P↔(evE Φ G env a s).post fun x s1=>(evE Φ G env b s1).post fun y s2=>(wK x y s2).post P:=by
 show (Out.bind _ _).post P↔_
 simp only[zH]
theorem Tf{m:Bool}{a:Ex}{lo hi st:OEx}{P:Val→Sto→Prop}:(evE Φ G env (.sl m a lo hi st) s).post P↔(evE Φ G env a s).post fun x s1=>(evO Φ G env lo s1).post fun l s2=>(evO Φ G env hi s2).post fun h s3=>(evO Φ G env st s3).post fun c s4=>(tL m x l h c s4).post P:=by
 show (Out.bind _ _).post P↔_
 simp only[zH]
theorem WJ{P:Option Int→Sto→Prop}:(evO Φ G env .no s).post P↔P none s:=zC
theorem WK{e:Ex}{P:Option Int→Sto→Prop}:(evO Φ G env (.yes e) s).post P↔(evE Φ G env e s).post fun v s1=>∃i,v=.int i∧P (some i) s1:=by
 show (Out.bind _ _).post P↔_
 simp only[zH]
 exact zl fun x s1=>by cases x<;>simp[zC,zY]
theorem nt{P:List Val→Sto→Prop}:(zi Φ G env .nil s).post P↔P [] s:=zC
theorem oK{e:Ex}{es:Exs}{P:List Val→Sto→Prop}:(zi Φ G env (.cons e es) s).post P↔(evE Φ G env e s).post fun v s1=>(zi Φ G env es s1).post fun vs s2=>P (v::vs) s2:=by
 show (Out.bind _ _).post P↔_
 simp only[zH,zC]
theorem YB{e:Ex}{P:Bool→Sto→Prop}:(evT Φ G env (.val e) s).post P↔(evE Φ G env e s).post fun v s1=>∃b,truth s1 v=some b∧P b s1:=by
 show (Out.bind (evE Φ G env e s) _).post P↔_
 simp only[zH]
 refine⟨fun h=>zS h fun v s1 h=>?_,fun h=>zS h fun v s1 h=>?_⟩
 . split at h
   . rename_i b e;exact⟨b,e,zC.mp h⟩
   . obtain⟨_,_,e,_⟩:=h;cases e
 . obtain⟨b,e,h⟩:=h
   rw[e];exact zC.mpr h
theorem WQ{c:Cn}{P:Bool→Sto→Prop}:(evT Φ G env (.not c) s).post P↔(evT Φ G env c s).post fun b s1=>P (!b) s1:=by
 show (Out.bind _ _).post P↔_
 simp only[zH,zC]
theorem WO{c:Cn}{cs:Cns}{P:Bool→Sto→Prop}:(evT Φ G env (.and c cs) s).post P↔(evT Φ G env c s).post fun b s1=>if b=true then (x9 Φ G env cs s1).post P else P false s1:=by
 show (Out.bind _ _).post P↔_
 simp only[zH,yy,zC]
theorem UM{c:Cn}{cs:Cns}{P:Bool→Sto→Prop}:(evT Φ G env (.or c cs) s).post P↔(evT Φ G env c s).post fun b s1=>if b=true then P true s1 else (tw Φ G env cs s1).post P:=by
 show (Out.bind _ _).post P↔_
 simp only[zH,yy,zC]
theorem ua{P:Bool→Sto→Prop}:(x9 Φ G env .nil s).post P↔P true s:=zC
theorem az{P:Bool→Sto→Prop}:(tw Φ G env .nil s).post P↔P false s:=zC
theorem dO{c:Cn}{cs:Cns}{P:Bool→Sto→Prop}:(x9 Φ G env (.cons c cs) s).post P↔(evT Φ G env c s).post fun b s1=>if b=true then (x9 Φ G env cs s1).post P else P false s1:=by
 show (Out.bind _ _).post P↔_
 simp only[zH,yy,zC]
theorem dM{c:Cn}{cs:Cns}{P:Bool→Sto→Prop}:(tw Φ G env (.cons c cs) s).post P↔(evT Φ G env c s).post fun b s1=>if b=true then P true s1 else (tw Φ G env cs s1).post P:=by
 show (Out.bind _ _).post P↔_
 simp only[zH,yy,zC]
theorem dH{e:Ex}{P:Src→Sto→Prop}:(yv Φ G env (.val e) s).post P↔(evE Φ G env e s).post fun v s1=>∃r,srcOf s1 v=some r∧P r s1:=by
 show (Out.bind _ _).post P↔_
 simp only[zH]
 refine⟨fun h=>zS h fun v s1 h=>?_,fun h=>zS h fun v s1 h=>?_⟩
 . split at h
   . rename_i b e;exact⟨b,e,zC.mp h⟩
   . obtain⟨_,_,e,_⟩:=h;cases e
 . obtain⟨b,e,h⟩:=h
   rw[e];exact zC.mpr h
theorem nu{a:Ex}{P:Src→Sto→Prop}:(yv Φ G env (.range1 a) s).post P↔(evE Φ G env a s).post fun x s1=>∃j,x=.int j∧(-(2 ^ 62)≤j∧j≤zU)∧P ⟨yJ 0 j.toNat,Ab⟩ s1:=by
 show (Out.bind _ _).post P↔_
 simp only[zH]
 refine⟨fun h=>zS h fun v s1 h=>?_,fun h=>zS h fun v s1 h=>?_⟩
 . split at h
   . rw[yy]at h
     split at h
     . rename_i j z;exact⟨_,rfl,z,zC.mp h⟩
     . obtain⟨_,_,e,_⟩:=h;cases e
   . obtain⟨_,_,e,_⟩:=h;cases e
 . obtain⟨j,rfl,z,h⟩:=h
   simp only[if_pos z]
   exact zC.mpr h
theorem nv{a b:Ex}{P:Src→Sto→Prop}:(yv Φ G env (.range2 a b) s).post P↔(evE Φ G env a s).post fun x s1=>(evE Φ G env b s1).post fun y s2=>∃i j,x=.int i∧y=.int j∧(-(2 ^ 62)≤i∧i<2 ^ 62∧-(2 ^ 62)≤j∧j<2 ^ 62∧j-i≤zU)∧P ⟨yJ i (j-i).toNat,Ab⟩ s2:=by
 show (Out.bind _ _).post P↔_
 simp only[zH]
 refine⟨fun h=>zS h fun v s1 h=>zS h fun w s2 h=>?_,fun h=>zS h fun v s1 h=>zS h fun w s2 h=>?_⟩
 . split at h
   . rw[yy]at h
     split at h
     . rename_i z;exact⟨_,_,rfl,rfl,z,zC.mp h⟩
     . obtain⟨_,_,e,_⟩:=h;cases e
   . obtain⟨_,_,e,_⟩:=h;cases e
 . obtain⟨i,j,rfl,rfl,z,h⟩:=h
   simp only[if_pos z]
   exact zC.mpr h
theorem WG{a:Ex}{P:Src→Sto→Prop}:(yv Φ G env (.enum a) s).post P↔(evE Φ G env a s).post fun x s1=>∃vs,(x=.tup vs∨x=.lst vs)∧P ⟨zr 0 vs,Ab⟩ s1:=by
 show (Out.bind _ _).post P↔_
 simp only[zH]
 refine⟨fun h=>zS h fun v s1 h=>?_,fun h=>zS h fun v s1 h=>?_⟩
 . split at h
   . exact⟨_,.inl rfl,zC.mp h⟩
   . exact⟨_,.inr rfl,zC.mp h⟩
   . obtain⟨_,_,e,_⟩:=h;cases e
 . obtain⟨j,rfl|rfl,h⟩:=h<;>exact zC.mpr h
theorem dG{e:Ex}{P:Fl→Sto→Prop}:(exS Φ G env (.expr e) s).post P↔(evE Φ G env e s).post fun _ s1=>P (.nx env) s1:=by
 show (Out.bind _ _).post P↔_
 simp only[zH,zC]
theorem YA{e:Ex}{P:Fl→Sto→Prop}:(exS Φ G env (.ret e) s).post P↔(evE Φ G env e s).post fun v s1=>P (.rt v) s1:=by
 show (Out.bind _ _).post P↔_
 simp only[zH,zC]
theorem WM{P:Fl→Sto→Prop}:(exS Φ G env .retN s).post P↔P (.rt .none) s:=zC
theorem dD{i:Nat}{e:Ex}{P:Fl→Sto→Prop}:(exS Φ G env (.asg i e) s).post P↔(evE Φ G env e s).post fun v s1=>P (.nx (env.set i (some v))) s1:=by
 show (Out.bind _ _).post P↔_
 simp only[zH,zC]
theorem WC{is:List Nat}{e:Ex}{P:Fl→Sto→Prop}:(exS Φ G env (.asgT is e) s).post P↔(evE Φ G env e s).post fun v s1=>∃env',yi (.nms is) v env=some env'∧P (.nx env') s1:=by
 show (Out.bind _ _).post P↔_
 simp only[zH]
 refine⟨fun h=>zS h fun v s1 h=>?_,fun h=>zS h fun v s1 h=>?_⟩
 . split at h
   . rename_i b e;exact⟨b,e,zC.mp h⟩
   . obtain⟨_,_,e,_⟩:=h;cases e
 . obtain⟨b,e,h⟩:=h
   rw[e];exact zC.mpr h
theorem dJ{is:List Nat}{es:Exs}{P:Fl→Sto→Prop}:(exS Φ G env (.par is es) s).post P↔(zi Φ G env es s).post fun vs s1=>(if vs.length=is.length then Out.ok (Fl.nx ((is.zip vs).foldl (fun e p=>e.set p.1 (some p.2)) env)) s1 else .stuck).post P:=by
 show (Out.bind _ _).post P↔_
 simp only[zH]
theorem ax{o i e:Ex}{P:Fl→Sto→Prop}:(exS Φ G env (.setIx o i e) s).post P↔(evE Φ G env e s).post fun v s1=>(evE Φ G env o s1).post fun x s2=>(evE Φ G env i s2).post fun y s3=>∃r k vs j,x=.ref r∧y=.int k∧s3[r]?=some (.lst vs)∧L2.ixN vs.length k=some j∧P (.nx env) (upd s3 r (vs.set j v)):=by
 show (Out.bind _ _).post P↔_
 simp only[zH]
 refine zl fun v s1=>zl fun x s2=>zl fun y s3=>⟨fun h=>?_,fun⟨r,k,vs,j,h1,h2,h3,h4,h5⟩=>?_⟩
 . split at h
   . split at h
     . rename_i e3
       split at h
       . rename_i e4;exact⟨_,_,_,_,rfl,rfl,e3,e4,zC.mp h⟩
       . exact(zY.mp h).elim
     . exact(zY.mp h).elim
   . exact(zY.mp h).elim
 . subst h1;subst h2
   simp only[h3,h4]
   exact zC.mpr h5
theorem WH{c:Cn}{a b:Sms}{P:Fl→Sto→Prop}:(exS Φ G env (.ifS c a b) s).post P↔(evT Φ G env c s).post fun t s1=>if t=true then (zW Φ G env a s1).post P else (zW Φ G env b s1).post P:=by
 show (Out.bind _ _).post P↔_
 simp only[zH,yy]
theorem WL{P:Fl→Sto→Prop}:(exS Φ G env .pass s).post P↔P (.nx env) s:=zC
theorem UA{P:Fl→Sto→Prop}:(exS Φ G env .brk s).post P↔P (.bk env) s:=zC
theorem WE{P:Fl→Sto→Prop}:(exS Φ G env .cont s).post P↔P (.ct env) s:=zC
theorem lR{P:Fl→Sto→Prop}:(zW Φ G env .nil s).post P↔P (.nx env) s:=zC
noncomputable def qA(Φ:Calls)(G:Str→Option Val)(cs:Sms)(P:Fl→Sto→Prop):Fl→Sto→Prop
 |.nx e,s1=>(zW Φ G e cs s1).post P
 |fl,s1=>P fl s1
theorem zu{c:Sm}{cs:Sms}{P:Fl→Sto→Prop}:(zW Φ G env (.cons c cs) s).post P↔(exS Φ G env c s).post (qA Φ G cs P):=by
 show (Out.bind _ _).post P↔_
 simp only[zH]
 have:∀fl s1,(match fl with|.nx e=>zW Φ G e cs s1|fl=>Out.ok fl s1:Out Fl).post P↔qA Φ G cs P fl s1:=fun fl s1=>by
  cases fl with
  |nx e=>exact CZ
  |_=>exact zC
 exact⟨fun h=>zS h fun fl s1 h=>(this fl s1).mp h,fun h=>zS h fun fl s1 h=>(this fl s1).mpr h⟩
theorem Zb{cs:Sms}{P:Fl→Sto→Prop}{e:Env}:qA Φ G cs P (.nx e) s↔(zW Φ G e cs s).post P:=CZ
theorem Zc{cs:Sms}{P:Fl→Sto→Prop}{v:Val}:qA Φ G cs P (.rt v) s↔P (.rt v) s:=CZ
theorem ZZ{cs:Sms}{P:Fl→Sto→Prop}{v:Env}:qA Φ G cs P (.bk v) s↔P (.bk v) s:=CZ
theorem Za{cs:Sms}{P:Fl→Sto→Prop}{v:Env}:qA Φ G cs P (.ct v) s↔P (.ct v) s:=CZ
theorem rR{I:Env→Prop}{g:Val→List Val}{r:Src}{t:Tgt}{body:Env→Sto→List Val→Out (List Val × Env)}(hr:r.ok s=true):∀(xs:List Val),(∀x∈xs,∀e acc,I e→∃e1 e2,yi t x e=some e1∧body e1 s acc=.ok (acc++g x,e2) s∧I e2)→∀e acc,I e→∃e',I e'∧yb r t body xs e s acc=.ok (acc++xs.flatMap g,e') s
 |[],_,e,acc,h0=>⟨e,h0,by simp[yb,hr]⟩
 |x::xs,h,e,acc,h0=>by
  obtain⟨e1,e2,h1,h2,h3⟩:=h x (.head _) e acc h0
  obtain⟨e',h4,h5⟩:=rR hr xs (fun y hy=>h y (.tail _ hy)) e2 (acc++g x) h3
  refine⟨e',h4,?_⟩
  simp only[yb,hr,if_true,h1,h2,zV,h5,BN,Bi]
theorem dF{m:Bool}{N:List Str}{fr:List (Option Nat)}{elt:Ex}{t:Tgt}{it:Itb}{ifs:Cns}{P:Val→Sto→Prop}(I:Env→Prop)(g:Val→List Val)
 (h:(yv Φ G env it s).post fun r s1=>r.ok s1=true∧I (zT fr env)∧(∀x∈r.xs,∀e,I e→∃e1,yi t x e=some e1∧I e1∧(x9 Φ G e1 ifs s1).post fun b s2=>s2=s1∧if b=true then (evE Φ G e1 elt s1).post (fun v s2=>s2=s1∧g x=[v]) else g x=[])∧(newList m (r.xs.flatMap g) s1).post P) :
 (evE Φ G env (.comp m N fr elt t it ifs) s).post P:=by
 obtain⟨r,s1,ei,h1,h2,h3,h4⟩:=h
 obtain⟨e',_,h5⟩:=rR (I:=I) (g:=g) (body:=fun e s' acc=>(x9 Φ G e ifs s').bind fun b s2=>if b then (evE Φ G e elt s2).bind fun v s3=>.ok (acc++[v],e) s3 else .ok (acc,e) s2) h1 r.xs (fun x hx e acc he=>by
  obtain⟨e1,k1,k2,b,s2,k3,rfl,k4⟩:=h3 x hx e he
  refine⟨e1,e1,k1,?_,k2⟩
  rw[k3,zV]
  cases b with
  |true=>
   rw[if_pos rfl]at k4 ⊢
   obtain⟨v,s3,kw,rfl,kv⟩:=k4
   rw[kw,zV,kv]
  |false=>
   rw[if_neg Am]at k4 ⊢
   rw[k4,AY]) (zT fr env) [] h2
 show (Out.bind (yv Φ G env it s) _).post P
 rw[ei,zV]
 rw[h5,zV]
 exact h4
theorem qp(Q:List Val→Env→Sto→List Val→Prop){r:Src}{t:Tgt}{body:Env→Sto→List Val→Out (List Val × Env)}:∀(xs:List Val),(∀e s acc,Q [] e s acc→r.ok s=true)→(∀x rest e s acc,Q (x::rest) e s acc→r.ok s=true∧∃e1,yi t x e=some e1∧(body e1 s acc).post fun p s2=>Q rest p.2 s2 p.1)→∀e s acc,Q xs e s acc→(yb r t body xs e s acc).post fun p s2=>Q [] p.2 s2 p.1
 |[],h0,_,e,s,acc,q=>by
  simp only[yb,h0 e s acc q,if_true]
  exact zC.mpr q
 |x::xs,h0,h,e,s,acc,q=>by
  obtain⟨h1,e1,h2,h3⟩:=h x xs e s acc q
  simp only[yb,h1,if_true,h2,zH]
  exact zS h3 fun p s2 q=>qp Q xs h0 h p.2 s2 p.1 q
theorem k9{m:Bool}{N:List Str}{fr:List (Option Nat)}{elt:Ex}{t:Tgt}{it:Itb}{ifs:Cns}{P:Val→Sto→Prop}(Q:List Val→Env→Sto→List Val→Prop)
 (h:(yv Φ G env it s).post fun r s1=>Q r.xs (zT fr env) s1 []∧(∀rest e s acc,Q rest e s acc→r.ok s=true)∧(∀x rest e s acc,Q (x::rest) e s acc→∃e1,yi t x e=some e1∧(x9 Φ G e1 ifs s).post fun b s2=>if b=true then (evE Φ G e1 elt s2).post (fun v s3=>Q rest e1 s3 (acc++[v])) else Q rest e1 s2 acc)∧∀e s acc,Q [] e s acc→(newList m acc s).post P) :
 (evE Φ G env (.comp m N fr elt t it ifs) s).post P:=by
 obtain⟨r,s1,ei,h1,h2,h3,h4⟩:=h
 show (Out.bind (yv Φ G env it s) _).post P
 rw[ei,zV,zH]
 refine zS (qp Q r.xs (fun e s acc q=>h2 _ e s acc q) (fun x rest e s acc q=>⟨h2 _ e s acc q,?_⟩) _ _ _ h1) fun p s2 q=>h4 _ _ _ q
 obtain⟨e1,k1,k2⟩:=h3 x rest e s acc q
 refine⟨e1,k1,?_⟩
 simp only[zH]
 refine zS k2 fun b s2 k=>?_
 cases b with
 |true=>
  rw[if_pos rfl]at k ⊢
  simp only[zH,zC]
  exact k
 |false=>
  rw[if_neg Am]at k ⊢
  exact zC.mpr k
theorem u9(Q:List Val→Env→Sto→Prop)(R:Fl→Sto→Prop){r:Src}{t:Tgt}{body:Env→Sto→Out Fl}(h0:∀e s,Q [] e s→R (.nx e) s):∀(xs:List Val),(∀rest e s,Q rest e s→r.ok s=true)→(∀x rest e s,Q (x::rest) e s→∃e1,yi t x e=some e1∧(body e1 s).post fun fl s2=>match fl with|.nx e=>Q rest e s2|.ct e=>Q rest e s2|.bk e=>R (.nx e) s2|.rt v=>R (.rt v) s2)→∀e s,Q xs e s→(vA r t body xs e s).post R
 |[],hk,_,e,s,q=>by
  simp only[vA,hk _ _ _ q,if_true]
  exact zC.mpr (h0 _ _ q)
 |x::xs,hk,h,e,s,q=>by
  obtain⟨e1,h2,h3⟩:=h x xs e s q
  simp only[vA,hk _ _ _ q,if_true,h2,zH]
  refine zS h3 fun fl s2 q=>?_
  cases fl with
  |nx e=>exact u9 Q R h0 xs hk h e s2 q
  |ct e=>exact u9 Q R h0 xs hk h e s2 q
  |bk e=>exact zC.mpr q
  |rt v=>exact zC.mpr q
noncomputable def pA(Q:Env→Sto→Prop)(R:Fl→Sto→Prop):Fl→Sto→Prop
 |.nx e,s=>Q e s
 |.ct e,s=>Q e s
 |.bk e,s=>R (.nx e) s
 |.rt v,s=>R (.rt v) s
theorem ZR{Q:Env→Sto→Prop}{R:Fl→Sto→Prop}{e:Env}:pA Q R (.nx e) s↔Q e s:=CZ
theorem ZQ{Q:Env→Sto→Prop}{R:Fl→Sto→Prop}{e:Env}:pA Q R (.ct e) s↔Q e s:=CZ
theorem ZP{Q:Env→Sto→Prop}{R:Fl→Sto→Prop}{e:Env}:pA Q R (.bk e) s↔R (.nx e) s:=CZ
theorem ZS{Q:Env→Sto→Prop}{R:Fl→Sto→Prop}{v:Val}:pA Q R (.rt v) s↔R (.rt v) s:=CZ
theorem UC{t:Tgt}{it:Itb}{b:Sms}{R:Fl→Sto→Prop}(Q:List Val→Env→Sto→Prop)
 (h:(yv Φ G env it s).post fun r s1=>Q r.xs env s1∧(∀rest e s,Q rest e s→r.ok s=true)∧(∀x rest e s,Q (x::rest) e s→∃e1,yi t x e=some e1∧(zW Φ G e1 b s).post (pA (Q rest) R))∧∀e s,Q [] e s→R (.nx e) s) :
 (exS Φ G env (.forS t it b) s).post R:=by
 obtain⟨r,s1,ei,h1,h2,h3,h4⟩:=h
 show (Out.bind (yv Φ G env it s) _).post R
 rw[ei,zV]
 refine u9 Q R h4 r.xs h2 (fun x rest e s q=>?_) _ _ h1
 obtain⟨e1,k1,k2⟩:=h3 x rest e s q
 refine⟨e1,k1,zS k2 fun fl s2 k=>?_⟩
 cases fl<;>exact k
theorem xV{t:Tgt}{it:Itb}{b:Sms}{R:Fl→Sto→Prop}(Q:List Val→Env→Sto→Prop)(xs:List Val){s1:Sto}(hi:yv Φ G env it s=.ok ⟨xs,Ab⟩ s1)(h0:Q xs env s1)
 (h1:∀x rest e s,Q (x::rest) e s→∃e1,yi t x e=some e1∧(zW Φ G e1 b s).post (pA (Q rest) R)) (h2:∀e s,Q [] e s→R (.nx e) s) :
 (exS Φ G env (.forS t it b) s).post R:=UC Q ⟨_,_,hi,h0,fun _ _ _ _=>rfl,h1,h2⟩
theorem uZ{m:Bool}{N:List Str}{fr:List (Option Nat)}{elt:Ex}{t:Tgt}{it:Itb}{ifs:Cns}{P:Val→Sto→Prop}(I:Env→Prop)(g:Val→List Val)(xs:List Val){s1:Sto}(hi:yv Φ G env it s=.ok ⟨xs,Ab⟩ s1)(h0:I (zT fr env))
 (h1:∀x∈xs,∀e,I e→∃e1,yi t x e=some e1∧I e1∧(x9 Φ G e1 ifs s1).post fun b s2=>s2=s1∧if b=true then (evE Φ G e1 elt s1).post (fun v s2=>s2=s1∧g x=[v]) else g x=[]) (h2:(newList m (xs.flatMap g) s1).post P) :
 (evE Φ G env (.comp m N fr elt t it ifs) s).post P:=dF I g ⟨_,_,hi,rfl,h0,h1,h2⟩
end
theorem Ze{s:Sto}:truth s .none=some false:=rfl
theorem za{s:Sto}{b:Bool}:truth s (.bool b)=some b:=rfl
theorem W7{s:Sto}{i:Int}:truth s (.int i)=some (i != 0):=rfl
theorem W9{s:Sto}{vs:List Val}:truth s (.tup vs)=some !vs.isEmpty:=rfl
theorem W8{s:Sto}{vs:List Val}:truth s (.lst vs)=some !vs.isEmpty:=rfl
theorem Wt{s:Sto}{vs:List Val}:srcOf s (.tup vs)=some ⟨vs,Ab⟩:=rfl
theorem Ws{s:Sto}{vs:List Val}:srcOf s (.lst vs)=some ⟨vs,Ab⟩:=rfl
theorem ZO{s:Sto}{ns:List Int}:srcOf s (.ctup ns)=some ⟨ns.map .int,Ab⟩:=rfl
theorem cb{s:Sto}{xs:List Val}:Src.ok ⟨xs,Ab⟩ s=true:=rfl
theorem VQ{i:Nat}{v:Val}{env:Env}:yi (.nm i) v env=some (env.set i (some v)):=rfl
theorem Yg{is:List Nat}{vs:List Val}{env:Env}:yi (.nms is) (.tup vs) env=if vs.length=is.length then some ((is.zip vs).foldl (fun e p=>e.set p.1 (some p.2)) env) else Ab:=rfl
theorem gg(vs:List Val):uy vs vs=true:=vX vs
theorem nF(c:Cel):c.beq c=true:=by cases c<;>simp[Cel.beq,gg]
theorem wY:∀(s t:Sto),xt s (s++t)=true
 |[],_=>rfl
 |c::r,t=>by simp[xt,nF c,wY r t]
theorem lK(s:Sto):xt s s=true:=by have:=wY s [];rwa [AY]at this
theorem rd:∀(s t:Sto) (i:Nat) (c:Cel),c.noRef=true→xt s (s.set i c++t)=true
 |[],_,_,_,_=>by simp[xt]
 |_::r,t,0,c,h=>by simp[xt,h,wY r t]
 |o::r,t,i+1,c,h=>by simp[xt,nF o,rd r t i c h]
theorem iR(s t:Sto)(i:Nat)(vs:List Val)(h:zh vs=true):xt s (s.set i (.lst vs)++t)=true:=rd s t i _ h
theorem vf:Val.none.noRef=true:=by rw[Val.noRef]
theorem xJ{b:Bool}:(Val.bool b).noRef=true:=by rw[Val.noRef]
theorem xq{b:Int}:(Val.int b).noRef=true:=by rw[Val.noRef]
theorem rZ{b:Str}:(Val.str b).noRef=true:=by rw[Val.noRef]
theorem tD{vs:List Val}:(Val.tup vs).noRef=zh vs:=by rw[Val.noRef]
theorem lJ{vs:List Val}:(Val.lst vs).noRef=zh vs:=by rw[Val.noRef]
theorem wq:zh []=true:=by rw[zh]
theorem yE{v:Val}{vs:List Val}:zh (v::vs)=(v.noRef&&zh vs):=by rw[zh]
theorem wI:∀ns:List Int,zh (ns.map .int)=true
 |[]=>rfl
 |_::ns=>by simp[zh,Val.noRef,wI ns]
theorem v5:∀zs:List (Int × Int),zh (zs.map prV)=true
 |[]=>rfl
 |_::zs=>by simp[zh,Val.noRef,prV,v5 zs]
noncomputable def zk(k:Bool)(s0:Sto)(v:Val)(s:Sto):Out Val:=
 if k then .ok v s
 else if xt s0 s then (match freeze s0.length s v with|some v'=>.ok v' (s.take s0.length)|Ab=>.stuck) else .stuck
theorem nS{s0 s:Sto}{v:Val}:zk true s0 v s=.ok v s:=rfl
theorem xG{k:Bool}{s:Sto}{v:Val}(h:v.noRef=true):zk k s v s=.ok v s:=by
 unfold zk
 cases k
 . simp[lK,freeze,h]
 . rfl
theorem wm{s t:Sto}{v:Val}(h:v.noRef=true):zk false s v (s++t)=.ok v s:=by
 unfold zk
 simp[wY,freeze,h]
theorem lC{s t:Sto}{v:Val}{i:Nat}{vs:List Val}(h:v.noRef=true)(hv:zh vs=true):zk false s v (s.set i (.lst vs)++t)=.ok v (s.set i (.lst vs)):=by
 unfold zk
 have e:s.length=(s.set i (.lst vs)).length:=by rw[CK]
 simp only[iR s t i vs hv,freeze,h,if_true,AV,if_false,e,List.take_left']
theorem iI{s:Sto}{v:Val}{i:Nat}{vs:List Val}(h:v.noRef=true)(hv:zh vs=true):zk false s v (s.set i (.lst vs))=.ok v (s.set i (.lst vs)):=by
 have:=lC (s:=s) (t:=[]) (i:=i) h hv
 rwa [AY]at this
theorem lB{s t:Sto}{vs:List Val}{i:Nat}(hi:i ≥ s.length)(hl:(s++t)[i]?=some (.lst vs))(h:zh vs=true):zk false s (.ref i) (s++t)=.ok (.lst vs) s:=by
 unfold zk
 have:¬i<s.length:=by omega
 simp[wY,freeze,Val.noRef,wG,this,hl,h]
noncomputable def fin(k:Bool)(s:Sto)(P:Val→Sto→Prop):Fl→Sto→Prop
 |.nx _,s1=>(zk k s .none s1).post P
 |.rt v,s1=>(zk k s v s1).post P
 |_,_=>False
theorem Ys{k:Bool}{s s1:Sto}{P:Val→Sto→Prop}{e:Env}:fin k s P (.nx e) s1↔(zk k s .none s1).post P:=CZ
theorem Yt{k:Bool}{s s1:Sto}{P:Val→Sto→Prop}{v:Val}:fin k s P (.rt v) s1↔(zk k s v s1).post P:=CZ
theorem xM{T:Tbl}{Φ:Calls}{N ps:List Str}{k:Bool}{b:Sms}{vs:List Val}{s:Sto}{P:Val→Sto→Prop}:(run T Φ ⟨N,ps,k,b⟩ vs s).post P↔vs.length=ps.length∧(zW Φ T.gl (zX N vs) b s).post (fin k s P):=by
 unfold run
 by_cases hl:vs.length=ps.length
 . rw[if_pos hl,zH]
   refine⟨fun h=>⟨hl,zS h fun fl s1 h=>?_⟩,fun h=>zS h.2 fun fl s1 h=>?_⟩
   . cases fl<;>first|exact h|exact(zY.mp h).elim
   . cases fl<;>first|exact h|exact h.elim
 . rw[if_neg hl]
   exact⟨fun h=>(zY.mp h).elim,fun h=>absurd h.1 hl⟩
theorem zd{T:Tbl}{n:Nat}{f:Str}{v:Nat}{F:Fn}(h:T.fn f v=some F)(vs:List Val)(s:Sto):zE T (n+1) f v vs s=run T (zE T n) F vs s:=by
 simp only[zE,h]
theorem gh{T:Tbl}{n:Nat}{f:Str}{v:Nat}{F:Fn}(h:T.fn f v=some F){vs:List Val}(hl:vs.length=F.ps.length)(s:Sto):zq T (n+1) f v vs s=xSs (fun c=>(T.xc.lookup c).isSome) (zE T n) (zq T n) T.gl (zX F.N vs) F.body s:=by
 simp only[zq,h]
 rw[if_pos hl]
def At(T:Tbl)(k:Nat)(C:Calls→Prop):Prop:=∀n,k≤n→C (zE T n)
noncomputable def EVl:=Aj @UG <| Aj @YC <| Aj @UD <| Aj @Tg <| Aj @V9 <| Aj @UI <| Aj @UJ <| Aj @UB <| Aj @aw <| Aj @V8 <| Aj @WA <| Aj @WB <| Aj @Te <| Aj @UK <| Aj @UL <| Aj @UE <| Aj @UN <| Aj @UH <| Aj @WD <| Aj @dE <| Aj @WI <| Aj @dI <| Aj @Td <| Aj @Tf <| Aj @WJ <| Aj @WK <| Aj @nt <| Aj @oK <| Aj @YB <| Aj @WQ <| Aj @WO <| Aj @UM <| Aj @ua <| Aj @az <| Aj @dO <| Aj @dM <| Aj @dH <| Aj @nu <| Aj @nv <| Aj @WG <| Aj @dG <| Aj @YA <| Aj @WM <| Aj @dD <| Aj @WC <| Aj @dJ <| Aj @ax <| Aj @WH <| Aj @WL <| Aj @UA <| Aj @WE <| Aj @lR <| Aj @zu <| Aj @Zb <| Aj @Zc <| Aj @ZZ <| Aj @Za <| Aj @ZR <| Aj @ZQ <| Aj @ZP <| Aj @ZS <| Aj @zC <| Aj @yy <| Aj @zY <| Aj @Ze <| Aj @za <| Aj @W7 <| Aj @W9 <| Aj @W8 <| Aj @Wt <| Aj @Ws <| Aj @ZO <| Aj @cb <| Aj @VQ <| Aj @Yg <| Aj @xM <| Aj @Ys <| Aj @Yt <| Aj @nS <| Aj @xG <| Aj @vf <| Aj @xJ <| Aj @xq <| Aj @rZ <| Aj @tD <| Aj @lJ <| Aj @wq <| Aj @yE <| Aj @wI <| @v5
end M
end
section
namespace M
open PySem
theorem bnd{α β:Type}{o:Out α}{a:α}{s:Sto}{f:α→Sto→Out β}{r:Out β}(h:o=.ok a s)(k:f a s=r):o.bind f=r:=by rw[h];exact k
section
variable {Φ:Calls}{G:Str→Option Val}{env:Env}{s s1 s2 s3 s4:Sto}
theorem zK{v:Val}:evE Φ G env (.lit v) s=.ok v s:=rfl
theorem zB{i:Nat}{v:Val}(h:env[i]?=some (some v)):evE Φ G env (.var i) s=.ok v s:=post_eq.mpr (YC.mpr ⟨v,h,rfl,rfl⟩)
theorem mV{x:Str}{n:String}:evE Φ G env (.ty x n) s=.ok (.ty n) s:=rfl
theorem TF{a b:Ex}{r:Out Val}(h1:evE Φ G env a s=.ok (.bool true) s1)(h2:evE Φ G env b s1=r):evE Φ G env (.andE a (.cons b .nil)) s=r:=bnd h1 h2
theorem Zg{x:Str}{v:Val}(h:G x=some v):evE Φ G env (.gl x) s=.ok v s:=post_eq.mpr (UD.mpr ⟨v,h,rfl,rfl⟩)
theorem kM{a b:Ex}{es:Exs}(h1:evE Φ G env a s=.ok (.bool false) s1):evE Φ G env (.andE a (.cons b es)) s=.ok (.bool false) s1:=bnd h1 rfl
theorem bL{a b c:Ex}{es:Exs}(h1:evE Φ G env a s=.ok (.bool true) s1)(h2:evE Φ G env b s1=.ok (.bool false) s2):evE Φ G env (.andE a (.cons b (.cons c es))) s=.ok (.bool false) s2:=bnd h1 (show (evE Φ G env b s1).bind _=_ from bnd h2 rfl)
theorem bM{a b c:Ex}{r:Out Val}(h1:evE Φ G env a s=.ok (.bool true) s1)(h2:evE Φ G env b s1=.ok (.bool true) s2)(h3:evE Φ G env c s2=r):evE Φ G env (.andE a (.cons b (.cons c .nil))) s=r:=bnd h1 (show (evE Φ G env b s1).bind _=_ from bnd h2 h3)
theorem bN{a:Ex}{i:Int}(h:evE Φ G env a s=.ok (.int i) s1):evE Φ G env (.neg a) s=.ok (.int (-i)) s1:=bnd h rfl
theorem zc{m:Bool}{op:Bop}{a b:Ex}{x y:Val}{r:Out Val}(h1:evE Φ G env a s=.ok x s1)(h2:evE Φ G env b s1=.ok y s2)(h3:binOp m op x y s2=r):evE Φ G env (.bin m op a b) s=r:=bnd h1 (bnd h2 h3)
theorem yN{op:Cop}{a b:Ex}{x y:Val}{r:Out Val}(h1:evE Φ G env a s=.ok x s1)(h2:evE Φ G env b s1=.ok y s2)(h3:zQ op x y s2=r):evE Φ G env (.cmp op a b) s=r:=bnd h1 (bnd h2 h3)
theorem vU{a b:Ex}{x y:Val}{r:Out Val}(h1:evE Φ G env a s=.ok x s1)(h2:evE Φ G env b s1=.ok y s2)(h3:wK x y s2=r):evE Φ G env (.ix a b) s=r:=bnd h1 (bnd h2 h3)
theorem qK:evO Φ G env .no s=.ok none s:=rfl
theorem nj{e:Ex}{i:Int}(h:evE Φ G env e s=.ok (.int i) s1):evO Φ G env (.yes e) s=.ok (some i) s1:=bnd h rfl
theorem bO{m:Bool}{a:Ex}{lo hi st:OEx}{x:Val}{l h c:Option Int}{r:Out Val}(h0:evE Φ G env a s=.ok x s1)(h1:evO Φ G env lo s1=.ok l s2)(h2:evO Φ G env hi s2=.ok h s3)(h3:evO Φ G env st s3=.ok c s4)(h4:tL m x l h c s4=r):evE Φ G env (.sl m a lo hi st) s=r:=bnd h0 (bnd h1 (bnd h2 (bnd h3 h4)))
theorem zD:zi Φ G env .nil s=.ok [] s:=rfl
theorem zA{e:Ex}{es:Exs}{v:Val}{vs:List Val}(h1:evE Φ G env e s=.ok v s1)(h2:zi Φ G env es s1=.ok vs s2):zi Φ G env (.cons e es) s=.ok (v::vs) s2:=bnd h1 (bnd h2 rfl)
theorem sQ{e:Ex}{es:Exs}{v:Val}{P:List Val→Sto→Prop}(h:evE Φ G env e s=.ok v s1)(k:(zi Φ G env es s1).post fun vs s2=>P (v::vs) s2):(zi Φ G env (.cons e es) s).post P:=oK.mpr (by rw[h];exact zC.mpr k)
theorem yt{es:Exs}{vs:List Val}(h:zi Φ G env es s=.ok vs s1)(hl:vs.length≤zU):evE Φ G env (.tup es) s=.ok (.tup vs) s1:=bnd h (if_pos hl)
theorem vV{es:Exs}{vs:List Val}(h:zi Φ G env es s=.ok vs s1)(hl:vs.length≤zU):evE Φ G env (.lst false es) s=.ok (.lst vs) s1:=bnd h (if_pos hl)
theorem yU{f:Bf}{m:Bool}{es:Exs}{vs:List Val}{r:Out Val}(h:zi Φ G env es s=.ok vs s1)(k:blt f m vs s1=r):evE Φ G env (.blt f m es) s=r:=bnd h k
theorem x_call{f:Str}{v:Nat}{es:Exs}{vs:List Val}{r:Out Val}(h:zi Φ G env es s=.ok vs s1)(k:Φ f v vs s1=r):evE Φ G env (.call f v es) s=r:=bnd h k
theorem xX{i:Nat}{e:Ex}{cs:Sms}{v:Val}{P:Fl→Sto→Prop}(h:evE Φ G env e s=.ok v s1)(k:(zW Φ G (env.set i (some v)) cs s1).post P):(zW Φ G env (.cons (.asg i e) cs) s).post P:=zu.mpr (dD.mpr (by rw[h];exact zC.mpr k))
theorem cO{i:Nat}{e:Ex}{cs:Sms}{P:Fl→Sto→Prop}(h:(evE Φ G env e s).post fun v s1=>(zW Φ G (env.set i (some v)) cs s1).post P):(zW Φ G env (.cons (.asg i e) cs) s).post P:=zu.mpr (dD.mpr h)
theorem xZ{e:Ex}{cs:Sms}{v:Val}{P:Fl→Sto→Prop}(h:evE Φ G env e s=.ok v s1)(k:(zW Φ G env cs s1).post P):(zW Φ G env (.cons (.expr e) cs) s).post P:=zu.mpr (dG.mpr (by rw[h];exact zC.mpr k))
theorem yT{e:Ex}{cs:Sms}{v:Val}{P:Fl→Sto→Prop}(h:evE Φ G env e s=.ok v s1)(k:P (.rt v) s1):(zW Φ G env (.cons (.ret e) cs) s).post P:=zu.mpr (YA.mpr (by rw[h];exact zC.mpr k))
theorem oB{e:Ex}{v:Val}{xs:List Val}(h:evE Φ G env e s=.ok v s1)(k:srcOf s1 v=some ⟨xs,none⟩):yv Φ G env (.val e) s=.ok ⟨xs,none⟩ s1:=post_eq.mpr (dH.mpr (by rw[h];exact zC.mpr ⟨_,k,rfl,rfl⟩))
theorem yY{e:Ex}{v:Val}{b:Bool}(h:evE Φ G env e s=.ok v s1)(k:truth s1 v=some b):evT Φ G env (.val e) s=.ok b s1:=post_eq.mpr (YB.mpr (by rw[h];exact zC.mpr ⟨_,k,rfl,rfl⟩))
theorem mP{c:Cn}{b:Bool}(h:evT Φ G env c s=.ok b s1):evT Φ G env (.not c) s=.ok (!b) s1:=bnd h rfl
theorem U6{c:Cn}{cs:Cns}{b:Bool}(h:evT Φ G env c s=.ok false s1)(k:tw Φ G env cs s1=.ok b s2):evT Φ G env (.or c cs) s=.ok b s2:=bnd h k
theorem W5:tw Φ G env .nil s=.ok false s:=rfl
theorem Zd{c:Cn}{cs:Cns}{b:Bool}(h:evT Φ G env c s=.ok false s1)(k:tw Φ G env cs s1=.ok b s2):tw Φ G env (.cons c cs) s=.ok b s2:=bnd h k
theorem U7{c:Cn}{cs:Cns}(h:evT Φ G env c s=.ok true s1):evT Φ G env (.or c cs) s=.ok true s1:=bnd h rfl
theorem c9{c:Cn}{cs:Cns}(h:evT Φ G env c s=.ok true s1):tw Φ G env (.cons c cs) s=.ok true s1:=bnd h rfl
theorem vC{c:Cn}{a cs:Sms}{P:Fl→Sto→Prop}(h:evT Φ G env c s=.ok false s1)(k:(zW Φ G env cs s1).post P):(zW Φ G env (.cons (.ifS c a .nil) cs) s).post P:=zu.mpr (WH.mpr (by rw[h];refine zC.mpr ?_;rw[if_neg Am];exact lR.mpr k))
theorem rq{c:Cn}{a b cs:Sms}{P:Fl→Sto→Prop}(h:evT Φ G env c s=.ok true s1)(k:(zW Φ G env a s1).post (qA Φ G cs P)):(zW Φ G env (.cons (.ifS c a b) cs) s).post P:=zu.mpr (WH.mpr (by rw[h];refine zC.mpr ?_;rw[if_pos rfl];exact k))
theorem sL{e:Ex}{vs:List Val}(h:evE Φ G env e s=.ok (.tup vs) s1):yv Φ G env (.enum e) s=.ok ⟨zr 0 vs,none⟩ s1:=bnd h rfl
theorem YR{a:Ex}{b:Bool}(h:evE Φ G env a s=.ok (.bool b) s1):evE Φ G env (.not a) s=.ok (.bool !b) s1:=bnd h rfl
theorem VE{c:Cn}{a b:Ex}{r:Out Val}(h:evT Φ G env c s=.ok true s1)(k:evE Φ G env a s1=r):evE Φ G env (.ife c a b) s=r:=bnd h k
theorem VD{c:Cn}{a b:Ex}{r:Out Val}(h:evT Φ G env c s=.ok false s1)(k:evE Φ G env b s1=r):evE Φ G env (.ife c a b) s=r:=bnd h k
theorem xy{P:Fl→Sto→Prop}(k:P (.nx env) s):(zW Φ G env .nil s).post P:=lR.mpr k
theorem jA{is:List Nat}{vs:List Val}{P:Fl→Sto→Prop}(hl:vs.length=is.length)(k:P (.nx ((is.zip vs).foldl (fun e p=>e.set p.1 (some p.2)) env)) s):(if vs.length=is.length then Out.ok (Fl.nx ((is.zip vs).foldl (fun e p=>e.set p.1 (some p.2)) env)) s else .stuck).post P:=by
 rw[if_pos hl];exact zC.mpr k
theorem qo{e:Ex}{k:Nat}(h:evE Φ G env e s=.ok (.int (k:Int)) s1)(hk:k≤zU):yv Φ G env (.range1 e) s=.ok ⟨yJ 0 k,none⟩ s1:=by
 rw[post_eq]
 refine nu.mpr ?_
 rw[h]
 exact zC.mpr ⟨_,rfl,⟨by omega,by omega⟩,by rw[Bj],rfl⟩
theorem Z1{a b:Ex}{i j:Nat}(h:evE Φ G env a s=.ok (.int (i:Int)) s1)(h':evE Φ G env b s1=.ok (.int (j:Int)) s2)(hi:i≤1000)(hj:j≤1000):yv Φ G env (.range2 a b) s=.ok ⟨yJ i (j-i),none⟩ s2:=by
 rw[post_eq]
 refine nv.mpr ?_
 rw[h]
 refine zC.mpr ?_
 rw[h']
 exact zC.mpr ⟨_,_,rfl,rfl,⟨by omega,by omega,by omega,by omega,by unfold zU;omega⟩,by congr 2;omega,rfl⟩
theorem W0{c d:Cn}{a b:Bool}(h:evT Φ G env c s=.ok a s)(k:evT Φ G env d s=.ok b s):evT Φ G env (.and c (.cons d .nil)) s=.ok (a&&b) s:=bnd h (by
 cases a with
 |false=>rfl
 |true=>exact bnd k (by cases b<;>rfl))
theorem bE{c:Cn}{b:Bool}(h:evT Φ G env c s=.ok b s):x9 Φ G env (.cons c .nil) s=.ok b s:=bnd h (by cases b<;>rfl)
end
end M
end
section
namespace M
open PySem
noncomputable def yX(l m:Int):Val→Bool
 |.int i=>decide (l≤i)&&decide (i≤m)
 |_=>false
theorem gG{l m i:Int}(h1:l≤i)(h2:i≤m):yX l m (.int i)=true:=by simp[yX,h1,h2]
def gL(Φ:Calls):Prop:=∀(v:Val) (l m:Int) (s:Sto),kindOf v≠none→Φ "is_whole" 0 [v,.int l,.int m] s=.ok (.bool (yX l m v)) s
def pM(Φ:Calls):Prop:=∀(vs:List Val) (l m:Int) (s:Sto),(∀v∈vs,kindOf v≠none)→Φ "are_wholes" 0 [.tup vs,.int l,.int m] s=.ok (.bool (vs.all (yX l m))) s
theorem uU{m:Bool}{vs:List Val}{s:Sto}:blt .len m [.tup vs] s=.ok (.int vs.length) s:=rfl
theorem eL{m:Bool}{ns:List Int}{s:Sto}:blt .len m [.ctup ns] s=.ok (.int ns.length) s:=by simp[blt,y9]
theorem eM{m:Bool}{ns:List Int}{s:Sto}:blt .len m [.scr ns] s=.ok (.int ns.length) s:=by simp[blt,y9]
theorem le_int{a b:Int}{s:Sto}:zQ .le (.int a) (.int b) s=.ok (.bool (decide (a≤b))) s:=rfl
theorem lt_int{a b:Int}{s:Sto}:zQ .lt (.int a) (.int b) s=.ok (.bool (decide (a<b))) s:=rfl
theorem ge_int{a b:Int}{s:Sto}:zQ .ge (.int a) (.int b) s=.ok (.bool (decide (b≤a))) s:=rfl
theorem gt_int{a b:Int}{s:Sto}:zQ .gt (.int a) (.int b) s=.ok (.bool (decide (b<a))) s:=rfl
theorem pv{m:Bool}{vs:List Val}{s:Sto}:blt .isi m [.tup vs,.ty "tuple"] s=.ok (.bool true) s:=rfl
theorem vI{α:Type}(f:α→Bool):∀xs:List α,boolsOf (xs.map fun x=>Val.bool (f x))=some (xs.map f)
 |[]=>rfl
 |x::xs=>by simp[boolsOf,vI f xs]
theorem fF{α β:Type}(f:α→β)(xs:List α):xs.flatMap (fun x=>[f x])=xs.map f:=by
 induction xs with
 |nil=>rfl
 |cons x xs ih=>simp[ih]
theorem sj{m:Bool}{i j:Int}{s:Sto}:binOp m .add (.int i) (.int j) s=.ok (.int (i+j)) s:=by simp only[binOp]
theorem TR{m:Bool}{i j:Int}{s:Sto}:binOp m .sub (.int i) (.int j) s=.ok (.int (i-j)) s:=by simp only[binOp]
theorem nD{m:Bool}{i j:Int}{s:Sto}(h:-1000000≤i∧i≤1000000):binOp m .mul (.int i) (.int j) s=.ok (.int (i*j)) s:=by
 simp only[binOp]
 rw[if_pos (.inl (by omega))]
theorem Zp{m:Bool}{i j:Int}{s:Sto}(h:-1000000≤j∧j≤1000000):binOp m .mul (.int i) (.int j) s=.ok (.int (i*j)) s:=by
 simp only[binOp]
 rw[if_pos (.inr (by omega))]
section
variable {T:Tbl}{Φ:Calls}{s:Sto}
theorem pq{v:Val}{m:Bool}{n:String}{a c:L2.Kd}{s:Sto}(h:kindOf v=some a)(h':vM n=some c):blt .isi m [v,.ty n] s=.ok (.bool (a.sub c)) s:=by
 simp only[blt];rw[h,h']
theorem Xh{v:Val}{a:L2.Kd}(h:kindOf v=some a):(∃i,v=.int i)∨(∃b,v=.bool b)∨(a.sub .int=false∧∀l m,yX l m v=false):=by
 cases v with
 |int i=>exact .inl ⟨i,rfl⟩
 |bool b=>exact .inr (.inl ⟨b,rfl⟩)
 |_=>cases h<;>exact .inr (.inr ⟨rfl,fun _ _=>rfl⟩)
theorem oD{v:Val}(h:kindOf v≠none):∃a,kindOf v=some a:=Option.ne_none_iff_exists'.mp h
theorem eH{v:Val}{a:L2.Kd}(h:kindOf v=some a):(∃vs,v=.tup vs)∨a.sub .tup=false:=by
 cases v with
 |tup vs=>exact .inl ⟨vs,rfl⟩
 |_=>cases h<;>exact .inr rfl
theorem i8{v:Val}{l m:Int}(hk:kindOf v≠none):run T Φ F.xB [v,.int l,.int m] s=.ok (.bool (yX l m v)) s:=by
 obtain⟨a,ha⟩:=oD hk
 have e1:=pq (m:=false) (s:=s) ha (show vM "int"=some .int from rfl)
 have e2:=pq (m:=false) (s:=s) ha (show vM "bool"=some .bl from rfl)
 have end':∀{b:Bool},b=yX l m v→(zk false s (.bool b) s).post fun x t=>x=.bool (yX l m v)∧t=s:=fun{b} e=>by
  rw[xG xJ,e];exact zC.mpr ⟨rfl,rfl⟩
 rw[post_eq,F.xB,xM]
 refine⟨rfl,?_⟩
 show (zW Φ T.gl [some v,some (.int l),some (.int m)] _ s).post _
 rcases Xh ha with⟨i,rfl⟩|⟨b,rfl⟩|⟨h1,h2⟩
 . cases ha
   have hc:evE Φ T.gl [some (.int i),some (.int l),some (.int m)] (.chain .le .le (.var 1) (.var 0) (.var 2)) s=.ok (.bool (yX l m (.int i))) s:=by
    refine bnd (zB rfl) (bnd (zB rfl) (bnd le_int ?_))
    show (match Val.bool (decide (l≤i)) with
     |.bool true=>(evE Φ T.gl [some (.int i),some (.int l),some (.int m)] (.var 2) s).bind fun z s4=>zQ .le (.int i) z s4
     |.bool false=>.ok (.bool false) s
     |_=>.stuck)=Out.ok (.bool (decide (l≤i)&&decide (i≤m))) s
    cases decide (l≤i) with
    |true=>exact bnd (zB rfl) le_int
    |false=>rfl
   exact yT (bM (yU (zA (zB rfl) (zA mV zD)) e1) (YR (yU (zA (zB rfl) (zA mV zD)) e2)) hc) (end' rfl)
 . cases ha
   exact yT (bL (yU (zA (zB rfl) (zA mV zD)) e1) (YR (yU (zA (zB rfl) (zA mV zD)) e2))) (end' rfl)
 . rw[h1]at e1
   exact yT (kM (yU (zA (zB rfl) (zA mV zD)) e1)) (end' (h2 _ _).symm)
theorem lx(c:gL Φ){vs:List Val}{l m:Int}(hk:∀v∈vs,kindOf v≠none):run T Φ F.yf [.tup vs,.int l,.int m] s=.ok (.bool (vs.all (yX l m))) s:=by
 rw[post_eq]
 simp[F.yf,EVl,zX,zT]
 refine dF (fun e=>∃o,e=[o,some (.int l),some (.int m)]) (fun x=>[.bool (yX l m x)]) ?_
 simp[EVl,zX,zT]
 refine⟨?_,?_⟩
 . intro x hx
   simp[EVl,zX,zT,c x l m s (hk x hx)]
 . simp[newList,EVl,zX,zT,blt,fF,yL,vI]
end
end M
end
section
namespace M
open PySem
noncomputable def tH(r:Nat × Nat):Val:=.tup [.int r.1,.int r.2]
theorem kz{lo:Int}{n:Nat}{x:Val}(h:x∈yJ lo n):∃k:Nat,k<n∧x=.int (lo+k):=by
 unfold yJ at h
 obtain⟨k,h1,rfl⟩:=Bh.mp h
 exact⟨k,AW.mp h1,rfl⟩
theorem qx:∀zs:List (Int × Int),pairsOf (zs.map prV)=some zs
 |[]=>rfl
 |z::zs=>by simp[pairsOf,prV,qx zs]
theorem kh(a b:Int):Dt (.int a) (.int b)=decide (a=b):=by
 by_cases h:a=b<;>simp[Dt,h]
theorem eq_int{a b:Int}{s:Sto}:zQ .eq (.int a) (.int b) s=.ok (.bool (decide (a=b))) s:=by
 simp[zQ,ze,yH,rD,Val.isD,Val.d,PyData.depth,kh]
theorem ne_int{a b:Int}{s:Sto}:zQ .ne (.int a) (.int b) s=.ok (.bool !(decide (a=b))) s:=by
 simp[zQ,ze,yH,rD,Val.isD,Val.d,PyData.depth,kh]
theorem Yx{vs:List Val}{k:Nat}{v:Val}{s:Sto}(h:vs[k]?=some v):wK (.tup vs) (.int k) s=.ok v s:=by
 simp[wK,y9,L2.sH h]
theorem rO{ns:List Int}{k:Nat}{i:Int}{s:Sto}(h:ns[k]?=some i):wK (.tup (ns.map .int)) (.int k) s=.ok (.int i) s:=Yx (by rw[AQ,h];rfl)
end M
end
section
namespace M
open PySem
theorem iD{ns:List Int}:∀v∈ns.map Val.int,kindOf v≠none:=fun v hv=>by
 obtain⟨i,_,rfl⟩:=Bh.mp hv
 simp[kindOf]
theorem sg{l m:Int}{ns:List Int}(h:∀x∈ns,l≤x∧x≤m):(ns.map Val.int).all (yX l m)=true:=by
 rw[AI]
 intro v hv
 obtain⟨i,hi,rfl⟩:=Bh.mp hv
 exact gG (h i hi).1 (h i hi).2
noncomputable abbrev tpI(ns:List Int):Val:=.tup (ns.map .int)
section
variable {T:Tbl}{Φ:Calls}{s:Sto}
def qR(Φ:Calls):Prop:=∀(zs:List Int) (s:Sto),Sz zs→Φ "are_sizes" 0 [tpI zs] s=.ok (.bool true) s
def we(Φ:Calls):Prop:=∀(zs:List Int) (s:Sto),Sz zs→Φ "need_sizes" 0 [tpI zs] s=.ok .none s
theorem qM(c:qR Φ){zs:List Int}(h:Sz zs):run T Φ F.yB [tpI zs] s=.ok .none s:=by
 rw[post_eq]
 simp[F.yB,EVl,zX,zT,c zs s h]
end
end M
end
section
namespace M
open PySem
theorem br{α β:Type}(f:α→Bool)(g:α→β)(xs:List α):xs.flatMap (fun x=>if f x then [g x] else [])=(xs.filter f).map g:=by
 induction xs with
 |nil=>rfl
 |cons x xs ih=>
  rw[BN,ih]
  cases h:f x<;>simp[h]
section
variable {T:Tbl}{Φ:Calls}{s:Sto}
theorem gf{ns:List Int}{p:Nat}{i:Int}(h:ns[p]?=some i):p<ns.length:=(As.mp h).1
end
end M
end
section
namespace M
open PySem
noncomputable def UW(a b:Int):Cel:=.lst [.int a,.int b]
def VJ(s:Sto)(p:Nat):Prop:=∃a b,s[p]?=some (UW a b)∧0≤b∧b<2147483629
def Zl(s:Sto)(p:Nat)(s':Sto):Prop:=∃a b,s'=s.set p (UW a b)∧0≤b∧b<2147483629
theorem Zl.at_{s s':Sto}{p:Nat}(h:Zl s p s')(hp:p<s.length):VJ s' p:=by
 obtain⟨a,b,rfl,h1⟩:=h
 exact⟨a,b,AR hp,h1⟩
theorem bmod{m:Bool}{i j:Int}{s:Sto}(h:0<j):binOp m .mod (.int i) (.int j) s=.ok (.int (i%j)) s:=by
 simp only[binOp];rw[if_pos h]
theorem bdiv{m:Bool}{i j:Int}{s:Sto}(h:0<j∧j<1073741824):binOp m .fdiv (.int i) (.int j) s=.ok (.int (i/j)) s:=by
 simp only[binOp];rw[if_pos h]
theorem Yw{vs:List Val}{k:Nat}{v:Val}{s:Sto}(h:vs[k]?=some v):wK (.lst vs) (.int k) s=.ok v s:=by
 simp[wK,y9,L2.sH h]
theorem Yy{vs:List Val}{i k:Nat}{v:Val}{s:Sto}(hs:s[i]?=some (.lst vs))(h:vs[k]?=some v):wK (.ref i) (.int k) s=.ok v s:=by
 simp[wK,y9,hs,L2.sH h]
section
variable {T:Tbl}{Φ:Calls}{s:Sto}
def Zj(Φ:Calls):Prop:=∀(ns:List Int) (k:Nat) (s:Sto),∃c,Φ "_law_cell_at" 0 [.scr ns,.int k] s=.ok (.int c) s
theorem cL(ns:List Int)(k:Nat):∃c,run T Φ F.z7 [.scr ns,.int k] s=.ok (.int c) s:=by
 by_cases h:k<ns.length
 . refine⟨ns[k],?_⟩
   rw[post_eq]
   have h':(k:Int)<ns.length:=by omega
   have e:(ns.map Val.int)[k]?=some (.int ns[k]):=by rw[AQ,Ae h];rfl
   have c1:wK (.scr ns) (.int k) s=.ok (.int ns[k]) s:=by simp[wK,y9,L2.sH e]
   simp[F.z7,EVl,zX,zT,eM,lt_int,h',h,c1]
 . refine⟨0,?_⟩
   rw[post_eq]
   have h':¬(k:Int)<ns.length:=by omega
   simp[F.z7,EVl,zX,zT,eM,lt_int,h',h]
end
end M
end
section
namespace M
open PySem
theorem iH{s:Sto}{vs:List Val}(h:zh vs=true):zk false s (.ref s.length) (s++[.lst vs])=.ok (.lst vs) s:=lB (Ag _) (by simp) h
theorem vW{s:Sto}{vs:List Val}{y:Val}(h:vs.length<zU):yx .append (.ref s.length) [y] (s++[.lst vs])=.ok .none (s++[.lst (vs++[y])]):=by
 simp[yx,h,upd]
section
variable {T:Tbl}{Φ:Calls}{s:Sto}
theorem ZL(lo:Int)(n:Nat):(yJ lo n).length=n:=by unfold yJ;rw[Ai,BD]
def YT(Φ:Calls):Prop:=∀(n z:Nat) (s:Sto),n≤40→2≤z→z≤8→Φ "_law_rows" 0 [.int n,.int z] s=.ok (.lst ((wJ n z).map tH)) s
def bQ(Φ:Calls):Prop:=∀(r:Nat × Nat) (z:Nat) (s:Sto),z≤8→r.2≤1000→Φ "_law_places" 0 [tH r,.int z] s=.ok (.lst ((sR r.1 r.2 z).map .int)) s
theorem cH(lo:Int)(k:Nat):yJ lo (k+1)=.int lo::yJ (lo+1) k:=by
 unfold yJ
 rw[Eg,AK,C4]
 congr 1
 . simp
 . refine E2 fun j _=>?_
   show Val.int (lo+((j+1:Nat):Int))=Val.int (lo+1+(j:Int))
   congr 1;omega
theorem tG{lo:Int}{k:Nat}{x:Val}{rest:List Val}(h:x::rest=yJ lo k):∃k',k=k'+1∧x=.int lo∧rest=yJ (lo+1) k':=by
 cases k with
 |zero=>simp[yJ]at h
 |succ k=>
  rw[cH]at h
  injection h with h1 h2
  exact⟨k,rfl,h1,h2⟩
theorem oY{lo:Int}{k:Nat}(h:[]=yJ lo k):k=0:=by
 have:=congrArg CW h
 rw[ZL]at this
 exact this.symm
end
end M
end
section
namespace M
open PySem
theorem u6:∀ks:List Int,xF (ks.map .int)=true
 |[]=>by rw[DO,xF]
 |k::ks=>by rw[AK,xF,u6 ks,Val.isD];rfl
theorem eq_nil{vs:List Val}{s:Sto}(h:xF vs=true):zQ .eq (.lst vs) (.lst []) s=.ok (.bool vs.isEmpty) s:=by
 have h1:(Val.lst vs).isD=true:=by rw[Val.isD];exact h
 have h2:(Val.lst []).isD=true:=by rw[Val.isD,xF]
 have h3:(Val.lst []).d=.list []:=by rw[Val.d,ds]
 have h4:(Val.lst vs).d=.list (ds vs):=by rw[Val.d]
 have h5:Dt (.list (ds vs)) (.list [])=vs.isEmpty:=by
  cases vs with
  |nil=>rw[ds];rfl
  |cons v vs=>rw[ds];rfl
 simp only[zQ,ze,yH,rD,h1,h2,h3,h4,h5]
 rfl
noncomputable def Yr(bad:Int→Bool):Val→List Val
 |.int x=>if bad x then [.int x] else []
 |_=>[]
theorem bq(bad:Int→Bool)(ks:List Int):(ks.map Val.int).flatMap (Yr bad)=(ks.filter bad).map .int:=by
 rw[Gf,←br];rfl
end M
end
section
namespace M
open PySem
theorem iS{k w:Nat}{d:PyData}(L:L2.vp k w d)(hk:k≤50)(hw:w≤300000)(hd:d.hasDict=false):rh d=true:=by
 have:=L.dp
 have:=L.wt
 unfold rh
 rw[L.sh,L.lf,hd,decide_eq_true (show d.depth≤50 by omega),decide_eq_true (show d.weight≤300000 by omega)]
 rfl
theorem nX:∀{n:Nat} {vs:List Val} {x:Val},x∈zr n vs→∃k v,vs[k]?=some v∧x=.tup [.int ((n+k:Nat):Int),v]
 |_,[],_,h=>by cases h
 |n,v::vs,x,h=>by
  rw[zr]at h
  rcases Ak.mp h with e|h
  . exact⟨0,v,rfl,e⟩
  . obtain⟨k,w,h1,h2⟩:=nX h
    refine⟨k+1,w,by simpa using h1,?_⟩
    rw[h2]
    congr 3;omega
theorem max2{m:Bool}{i j:Int}{s:Sto}:blt .max m [.int i,.int j] s=.ok (.int (if j > i then j else i)) s:=rfl
theorem min2{m:Bool}{i j:Int}{s:Sto}:blt .min m [.int i,.int j] s=.ok (.int (if j<i then j else i)) s:=rfl
theorem fD{Φ:Calls}{G:Str→Option Val}{env:Env}{s:Sto}{ns:List Int}{K:Nat}(h0:env[0]?=some (some (.scr ns)))(hK:K≤100) :
 yv Φ G env (.range1 (.blt .max false (.cons (.lit (.int 1)) (.cons (.blt .min false (.cons (.blt .len false (.cons (.var 0) .nil)) (.cons (.lit (.int K)) .nil))) .nil)))) s=.ok ⟨yJ 0 (max 1 (min ns.length K)),none⟩ s:=by
 rw[post_eq]
 simp only[EVl,zX,zT]
 refine⟨_,h0,?_⟩
 rw[eM];simp only[zC]
 rw[min2];simp only[zC]
 rw[max2];simp only[zC]
 have e:(if (if (K:Int)<(ns.length:Int) then (K:Int) else (ns.length:Int)) > 1 then (if (K:Int)<(ns.length:Int) then (K:Int) else (ns.length:Int)) else 1)=((max 1 (min ns.length K):Nat):Int):=by
  split<;>split<;>omega
 rw[e]
 refine⟨_,rfl,⟨by omega,by unfold zU;omega⟩,?_⟩
 simp
end M
end
section
namespace M
open PySem
section
variable {T:Tbl}{Φ:Calls}{s:Sto}
theorem aB{v:Val}{vs:List Val}{s:Sto}:wK (.lst (v::vs)) (.int 0) s=.ok v s:=by
 simp[wK,y9,L2.atI,L2.ixN]
end
end M
end
section
namespace M
open L2
noncomputable def sY(ns:List Int)(f d z:Nat)(h:Int):Bool:=(AE z).all fun k=>decide (ns[f+k*d]?=some h)
theorem sZ{ns:List Int}{f d z:Nat}{h:Int}:sY ns f d z h=true↔∀k<z,ns[f+k*d]?=some h:=by
 unfold sY
 rw[AI]
 exact⟨fun H k hk=>of_decide_eq_true (H k (AW.mpr hk)),fun H k hk=>decide_eq_true (H k (AW.mp hk))⟩
noncomputable def yd(zs ns:List Int):List (Nat × Nat):=(AE zs.length).flatMap fun h=>(wJ ns.length (zO zs h)).filter fun r=>sY ns r.1 r.2 (zO zs h) h
theorem nK{α β:Type}{f:α→List β}{b:Nat}:∀l:List α,(∀a∈l,(f a).length≤b)→(l.flatMap f).length≤l.length*b
 |[],_=>A8 _
 |a::l,h=>by
  rw[BN,Ap,Ar,DN,Nat.add_comm]
  exact Nat.add_le_add (nK l fun x hx=>h x (.tail _ hx)) (h a (.head _))
theorem gH{zs ns:List Int}(hz:Sz zs)(hn:ns.length≤40):(yd zs ns).length≤3200∧((yd zs ns).map toI).Nodup∧∀x∈(yd zs ns).map toI,0≤x.2∧x.2<1000:=by
 refine⟨?_,?_,fun x hx=>?_⟩
 . have:=nK (f:=fun h=>(wJ ns.length (zO zs h)).filter fun r=>sY ns r.1 r.2 (zO zs h) h) (b:=800) (AE zs.length) fun h _=>Ax (B7 _ _) (cK hn)
   rw[BD]at this
   have h4:=hz.2.1
   unfold yd
   omega
 . rw[List.nodup_iff_pairwise_ne,Ck]
   unfold yd
   rw[ED]
   refine⟨fun h _=>?_,?_⟩
   . refine List.Pairwise.filter _ ?_
     have:=lh (n:=ns.length) (z:=zO zs h) hn
     rw[Ck]at this
     exact this.imp fun w e=>by rw[e]at w;omega
   . refine List.Pairwise.imp_of_mem (R:=fun a b=>a<b) (fun{a b} ha hb w x hx y hy e=>?_) De
     have hx:=(BX.mp hx).2
     have hy:=(BX.mp hy).2
     have exy:x=y:=by
      unfold toI at e
      injection e with e1 e2
      exact En (Int.ofNat_inj.mp e1) (Int.ofNat_inj.mp e2)
     subst exy
     have z1:=(xP hz (AW.mp ha)).2.1
     have z2:=(xP hz (AW.mp hb)).2.1
     have q1:=sZ.mp hx 0 (by omega)
     have q2:=sZ.mp hy 0 (by omega)
     rw[q1]at q2
     injection q2 with q2
     omega
 . obtain⟨r,hr,rfl⟩:=Bh.mp hx
   obtain⟨h,hh,hr⟩:=Du.mp hr
   have hr:=(BX.mp hr).1
   have z2:=(xP hz (AW.mp hh)).2.1
   have:=qr z2 hr
   have:r.2*1≤r.2*(zO zs h-1):=EY _ (by omega)
   unfold toI
   dsimp only
   omega
end M
end
section
namespace F
open PySem M
noncomputable def zg:Fn:=⟨["_law_sizes_here","_law_draft","_law_found","_law_hue","_law_size","_law_row"],["_law_sizes_here","_law_draft"],false,(.cons (.asg 2 (.lst true .nil)) (.cons (.forS (.nms [3,4]) (.enum (.var 0)) (.cons (.forS (.nm 5) (.val (.call "_law_rows" 0 (.cons (.blt .len false (.cons (.var 1) .nil)) (.cons (.var 4) .nil)))) (.cons (.ifS (.val (.cmp .eq (.comp false ["_law_place","_law_hue","_law_draft"] [none,some 3,some 1] (.var 0) (.nm 0) (.val (.call "_law_places" 0 (.cons (.var 5) (.cons (.var 4) .nil)))) (.cons (.val (.cmp .ne (.ix (.var 2) (.var 0)) (.var 1))) .nil)) (.lst false .nil))) (.cons (.expr (.yx .append false (.var 2) (.cons (.var 5) .nil))) .nil) .nil) .nil)) .nil)) (.cons (.ret (.blt .sorted false (.cons (.var 2) .nil))) .nil)))⟩
noncomputable def zp:Fn:=⟨["sizes","hues","place","hue"],["sizes","hues"],false,(.cons (.forS (.nms [2,3]) (.enum (.var 1)) (.cons (.ifS (.val (.cmp .ge (.var 3) (.blt .len false (.cons (.var 0) .nil)))) (.cons (.ret (.var 2)) .nil) .nil) .nil)) (.cons (.ret (.lit .none)) .nil))⟩
noncomputable def xA:Fn:=⟨["thing"],["thing"],false,(.cons (.ret (.andE (.blt .isi false (.cons (.var 0) (.cons (.ty "tuple" "tuple") .nil))) (.cons (.cmp .le (.blt .len false (.cons (.var 0) .nil)) (.gl "MOST_PLACES")) (.cons (.call "are_wholes" 0 (.cons (.var 0) (.cons (.ix (.gl "HUES") (.lit (.int 0))) (.cons (.ix (.gl "HUES") (.neg (.lit (.int 1)))) .nil)))) .nil)))) .nil)⟩
end F
end
section
namespace M
open PySem
structure Gl4(T:Tbl):Prop where
 mp:T.gl "MOST_PLACES"=some (.int 40)
 ls:T.gl "LEAST_SIZE"=some (.int 2)
 ms:T.gl "MOST_SIZE"=some (.int 8)
 hu:T.gl "HUES"=some (.ctup [0,1,2,3])
section
variable {T:Tbl}{Φ:Calls}{s:Sto}
theorem vZ{ns:List Int}{x:Val}(h:x∈zr 0 (ns.map .int)):∃k i,ns[k]?=some i∧x=.tup [.int (k:Nat),.int i]:=by
 obtain⟨k,v,h1,rfl⟩:=nX h
 rw[AQ]at h1
 obtain⟨j,h2,rfl⟩:=A5.mp h1
 exact⟨k,j,h2,by rw[Dm]⟩
end
end M
end
section
namespace M
open PySem
theorem dj{ns:List Int}(hn:ns.length<41):L2.zv ns (L2.yQ ns.length none none (-1)).1 (-1) (L2.yQ ns.length none none (-1)).2=ns.reverse:=by
 have hc:∀n:Nat,n<41→L2.yQ n none none (-1)=((n:Int)-1,n):=by decide +kernel
 rw[hc _ hn]
 unfold L2.zv
 dsimp only
 rw[fG (g:=fun k=>ns.getD (ns.length-1-k) 0)]
 . refine FQ fun i=>?_
   by_cases hi:i<ns.length
   . rw[AQ,E1 hi,List.getElem?_reverse hi,DC,Aw,Ae (by omega)];rfl
   . rw[B6 (by simp;omega),B6 (by simp;omega)]
 . intro k hk
   have hk:=AW.mp hk
   have:((ns.length:Int)-1+(k:Int)*-1).toNat=ns.length-1-k:=by omega
   rw[this,Aw,Ae (by omega)];rfl
end M
end
section
namespace M
open PySem
theorem ne_nil{vs:List Val}{s:Sto}(h:xF vs=true):zQ .ne (.lst vs) (.lst []) s=.ok (.bool !vs.isEmpty) s:=by
 have h1:(Val.lst vs).isD=true:=by rw[Val.isD];exact h
 have h2:(Val.lst []).isD=true:=by rw[Val.isD,xF]
 have h3:(Val.lst []).d=.list []:=by rw[Val.d,ds]
 have h4:(Val.lst vs).d=.list (ds vs):=by rw[Val.d]
 have h5:Dt (.list (ds vs)) (.list [])=vs.isEmpty:=by
  cases vs with
  |nil=>rw[ds];rfl
  |cons v vs=>rw[ds];rfl
 simp only[zQ,ze,yH,rD,h1,h2,h3,h4,h5]
 rfl
section
variable {T:Tbl}{Φ:Calls}{s:Sto}
def pJ(Φ:Calls):Prop:=∀(zs ns:List Int) (s:Sto),Sz zs→ns.length≤40→Φ "_law_wrong" 0 [tpI zs,tpI ns] s=.ok (.lst ((mI ((yd zs ns).map toI)).map prV)) s
noncomputable def w8(ns:List Int)(z:Nat)(h:Nat):List (Nat × Nat):=(wJ ns.length z).filter fun r=>sY ns r.1 r.2 z h
theorem lY{ns:List Int}{r:Nat × Nat}{z h:Nat}:(((sR r.1 r.2 z).filter fun x=>!decide (ns[x.toNat]?=some (h:Int))).map Val.int).isEmpty=sY ns r.1 r.2 z h:=by
 rw[Cc,Ge,E3,List.filter_eq_nil_iff,sZ]
 unfold sR
 constructor
 . intro H k hk
   have:=H _ (Bh.mpr ⟨k,AW.mpr hk,rfl⟩)
   rw[Bj]at this
   simpa using this
 . intro H x hx
   obtain⟨k,hk,rfl⟩:=Bh.mp hx
   have:=H k (AW.mp hk)
   rw[Bj]
   simpa using this
theorem rn(cR:YT Φ)(cP:bQ Φ){zs ns:List Int}(hz:Sz zs)(hn:ns.length≤40):run T Φ F.zg [tpI zs,tpI ns] s=.ok (.lst ((mI ((yd zs ns).map toI)).map prV)) s:=by
 rw[post_eq]
 have hwr:yd zs ns=(AE zs.length).flatMap fun h=>w8 ns (zO zs h) h:=rfl
 obtain⟨hlen,ok⟩:=gH hz hn
 simp[F.zg,EVl,zX,zT,M.newList,zU]
 refine xV (fun rest e s'=>∃done todo o3 o4 o5,done++todo=AE zs.length∧rest=todo.map (fun(h:Nat)=>Val.tup [.int h,.int (zO zs h)])∧e=[some (tpI zs),some (tpI ns),some (.ref s.length),o3,o4,o5]∧s'=s++[.lst ((done.flatMap fun h=>w8 ns (zO zs h) h).map tH)]) (zr 0 (zs.map .int)) (s1:=s++[.lst []]) ?_ ⟨[],AE zs.length,_,_,_,rfl,?_,rfl,rfl⟩ ?_ ?_
 . rw[post_eq]
   simp[EVl,zX,zT]
 . refine FQ fun i=>?_
   rw[vY,AQ,AQ]
   by_cases hi:i<zs.length
   . rw[E1 hi,(xP hz hi).1];simp
   . rw[B6 (by omega),B6 (by rw[BD];omega)];rfl
 . rintro x rest e s' ⟨done,todo,o3,o4,o5,hd,hr,rfl,rfl⟩
   cases todo with
   |nil=>cases hr
   |cons h todo=>
    rw[AK]at hr
    injection hr with hx hr
    subst hx
    have hh:h<zs.length:=AW.mp (by rw[←hd];simp)
    obtain⟨z1,z2,z3⟩:=xP hz hh
    refine⟨[some (tpI zs),some (tpI ns),some (.ref s.length),some (.int h),some (.int (zO zs h)),o5],rfl,?_⟩
    have hsub:∀pre post:List (Nat × Nat),pre++post=w8 ns (zO zs h) h→((done.flatMap fun h=>w8 ns (zO zs h) h)++pre).length≤3200:=fun pre post e=>by
     have:yd zs ns=(done.flatMap fun h=>w8 ns (zO zs h) h)++(pre++post++todo.flatMap fun h=>w8 ns (zO zs h) h):=by
      rw[hwr,←hd,Ct,BN,e]
     rw[this]at hlen
     simp only[Ap]at hlen ⊢
     omega
    generalize hb:(done.flatMap fun h=>w8 ns (zO zs h) h)=base at *
    simp[EVl,zX,zT]
    refine xV (fun rest2 e s'=>∃dn td o5,dn++td=wJ ns.length (zO zs h)∧rest2=td.map tH∧e=[some (tpI zs),some (tpI ns),some (.ref s.length),some (.int h),some (.int (zO zs h)),o5]∧s'=s++[.lst ((base++dn.filter fun r=>sY ns r.1 r.2 (zO zs h) h).map tH)]) ((wJ ns.length (zO zs h)).map tH) (s1:=s++[.lst (base.map tH)]) ?_ ⟨[],_,_,rfl,rfl,rfl,by simp⟩ ?_ ?_
    . have c1:=cR ns.length (zO zs h) (s++[.lst (base.map tH)]) hn z2 z3
      rw[post_eq]
      simp[EVl,zX,zT,uU,c1]
    . rintro x rest2 e s' ⟨dn,td,o5,hd2,hr2,rfl,rfl⟩
      cases td with
      |nil=>cases hr2
      |cons r td=>
       rw[AK]at hr2
       injection hr2 with hx hr2
       subst hx
       have hmem:r∈wJ ns.length (zO zs h):=by rw[←hd2];simp
       have hr3:=qr z2 hmem
       have hle:r.2≤1000:=by
        have:r.2*1≤r.2*(zO zs h-1):=EY _ (by omega)
        omega
       refine⟨_,rfl,?_⟩
       generalize hS:s++[Cel.lst ((base++dn.filter fun r=>sY ns r.1 r.2 (zO zs h) h).map tH)]=S at *
       have c3:=cP r (zO zs h) S z3 hle
       simp[EVl,zX,zT]
       refine uZ (fun e=>∃o,e=[o,some (.int h),some (tpI ns)]) (Yr fun x=>!decide (ns[x.toNat]?=some (h:Int))) ((sR r.1 r.2 (zO zs h)).map .int) (s1:=S) ?_ ⟨_,rfl⟩ ?_ ?_
       . rw[post_eq]
         simp[EVl,zX,zT,c3]
       . rintro x hx e ⟨o,rfl⟩
         obtain⟨i,hi,rfl⟩:=Bh.mp hx
         obtain⟨k,hk,rfl⟩:=Bh.mp hi
         have hk:=AW.mp hk
         have hbd:r.1+k*r.2<ns.length:=by
          have:k*r.2≤(zO zs h-1)*r.2:=Dr _ (by omega)
          have e:=Nat.mul_comm (zO zs h-1) r.2
          omega
         have c4:=rO (s:=S) (Ae hbd)
         refine⟨_,rfl,⟨_,rfl⟩,?_⟩
         simp only[EVl,zX,zT]
         refine⟨_,rfl,_,rfl,?_⟩
         rw[c4]
         simp only[zC]
         refine⟨_,rfl,?_⟩
         simp only[zC,ne_int,za,Yr,Bj,Ae hbd]
         by_cases h5:ns[r.1+k*r.2]=(h:Int)<;>simp[h5,EVl,zX,zT]
       . rw[bq]
         simp only[M.newList,EVl,zX,zT,AV,if_false]
         rw[eq_nil (u6 _),lY]
         simp only[zC,za]
         have hpost:∀pre,dn.filter (fun r=>sY ns r.1 r.2 (zO zs h) h)=pre→(base++pre).length≤3200:=fun pre e=>hsub pre ((r::td).filter fun r=>sY ns r.1 r.2 (zO zs h) h) (by rw[←e,←C8,hd2];rfl)
         have hl64:=hpost _ rfl
         cases ha:sY ns r.1 r.2 (zO zs h) h with
         |false=>
          refine .inl ⟨rfl,dn++[r],td,by rw[←hd2];simp,hr2,?_⟩
          rw[←hS,C8];simp[ha]
         |true=>
          refine .inr ⟨rfl,?_⟩
          rw[←hS,vW (by rw[Ai];unfold zU;omega)]
          simp only[zC]
          refine⟨dn++[r],td,by rw[←hd2];simp,hr2,?_⟩
          rw[C8];simp[ha]
    . rintro e s' ⟨dn,td,o5,hd2,hr2,rfl,rfl⟩
      have ht:td=[]:=by cases td with|nil=>rfl|cons _ _=>cases hr2
      subst ht
      rw[AY]at hd2
      simp only[EVl,zX,zT]
      refine⟨done++[h],todo,by rw[←hd];simp,hr,?_⟩
      rw[Ct,hb,hd2];simp[w8]
 . rintro e s' ⟨done,todo,o3,o4,o5,hd,hr,rfl,rfl⟩
   have ht:todo=[]:=by cases todo with|nil=>rfl|cons _ _=>cases hr
   subst ht
   rw[AY]at hd
   have hw:(done.flatMap fun h=>w8 ns (zO zs h) h)=yd zs ns:=by rw[hwr,hd]
   rw[hw]
   have e1:(yd zs ns).map tH=((yd zs ns).map toI).map prV:=by rw[C4];rfl
   have hsrt:blt .sorted false [.ref s.length] (s++[.lst ((yd zs ns).map tH)])=.ok (.lst ((mI ((yd zs ns).map toI)).map prV)) (s++[.lst ((yd zs ns).map tH)]):=by
    have e2:yL (s++[.lst ((yd zs ns).map tH)]) (.ref s.length)=some (((yd zs ns).map toI).map prV):=by
     rw[←e1];simp[yL]
    simp only[blt,e2,qx]
    rw[if_pos ok]
    rfl
   simp only[EVl,zX,zT]
   refine⟨_,rfl,?_⟩
   rw[hsrt]
   simp only[zC]
   rw[wm (by rw[lJ];exact v5 _)]
   exact zC.mpr ⟨rfl,rfl⟩
end
end M
end
section
namespace M
open PySem
section
variable {T:Tbl}{Φ:Calls}{s:Sto}
theorem pk:∀ns:List Int,intsOf (ns.map .int)=some ns
 |[]=>rfl
 |n::ns=>by show (intsOf (ns.map .int)).map _=_;rw[pk ns];rfl
end
end M
end
section
namespace M
open PySem
noncomputable def endOf(ms:List Int)(st:List (Nat × Nat)):List Int:=st.foldl (fun ms q=>putL ms q.1 q.2) ms
noncomputable def SO(zs:List Int):List Int→List (Nat × Nat)→Prop
 |_,[]=>True
 |ms,(p,h)::st=>ms[p]?=some (-1)∧V7 zs ms p=[h]∧SO zs (putL ms p h) st
theorem SO.append{zs:List Int}:∀{st st':List (Nat × Nat)} {ms:List Int},SO zs ms st→SO zs (endOf ms st) st'→SO zs ms (st++st')
 |[],_,_,_,h=>h
 |(p,h)::st,st',ms,⟨a,b,c⟩,d=>⟨a,b,SO.append c d⟩
end M
end
section
namespace M
open PySem
structure Th(k w:Nat)(v:Val):Prop where
 nr:v.noRef=true
 kd:kindOf v≠none
 r:v.isR=true
 lf:L2.vp k w v.d
 nd:v.d.hasDict=false
 dr:∀s,yH s v=v
theorem Th.mono{k w k' w':Nat}{v:Val}(h:Th k w v)(h1:k≤k')(h2:w≤w'):Th k' w' v:=⟨h.nr,h.kd,h.r,h.lf.mono h1 h2,h.nd,h.dr⟩
theorem oq{i:Int}(h1:-(10 ^ 30)<i)(h2:i<10 ^ 30):Th 0 100 (.int i):=⟨xq,nofun,by rw[Val.isR],by rw[Val.d];exact L2.eQ h1 h2,by rw[Val.d];rfl,fun _=>rfl⟩
theorem ZX(b:Bool):Th 0 100 (.bool b):=⟨xJ,nofun,by rw[Val.isR],by rw[Val.d];exact(L2.iF b).mono (Ag _) (A8 _),by rw[Val.d];rfl,fun _=>rfl⟩
theorem ZY:Th 0 100 .none:=⟨vf,nofun,by rw[Val.isR],by rw[Val.d];exact L2.iG.mono (Ag _) (A8 _),by rw[Val.d];rfl,fun _=>rfl⟩
theorem W4{x:Str}(h1:∀c∈x.cps.toList,c<16 ^ 8)(h2:x.cps.size≤100):Th 0 100 (.str x):=⟨rZ,nofun,by rw[Val.isR],by rw[Val.d];exact L2.eS h1 h2,by rw[Val.d];rfl,fun _=>rfl⟩
theorem ths{k w:Nat}:∀{vs:List Val},(∀v∈vs,Th k w v)→zh vs=true∧sC vs=true∧(ds vs).length=vs.length∧∀d∈ds vs,L2.vp k w d∧d.hasDict=false
 |[],_=>⟨wq,by rw[sC],by rw[ds];rfl,fun d h=>by rw[ds]at h;cases h⟩
 |v::vs,h=>by
  obtain⟨a,b,c,e⟩:=ths fun x hx=>h x (.tail _ hx)
  have t:=h v (.head _)
  refine⟨by rw[yE,t.nr,a];rfl,by rw[sC,t.r,b];rfl,by rw[ds,Ar,Ar,c],fun d hd=>?_⟩
  rw[ds]at hd
  rcases Ak.mp hd with rfl|hd
  . exact⟨t.lf,t.nd⟩
  . exact e d hd
theorem kC{k w n:Nat}{vs:List Val}(h:∀v∈vs,Th k w v)(hn:vs.length≤n):Th (k+1) (n*(w+1)) (.tup vs):=by
 obtain⟨a,b,c,e⟩:=ths h
 refine⟨by rw[tD];exact a,nofun,by rw[Val.isR];exact b,by rw[Val.d];exact L2.lA (fun d hd=>(e d hd).1) (by rw[c];exact hn),?_,fun _=>rfl⟩
 rw[Val.d,PyData.hasDict]
 exact L2.qw fun d hd=>(e d hd).2
theorem sJ{α:Type}{xs:List α}{lo hi:Option Int}:(xC xs lo hi).length≤xs.length:=by
 unfold xC
 rw[Cv,Er]
 omega
theorem uM{α:Type}{xs:List α}{lo hi:Option Int}{x:α}(h:x∈xC xs lo hi):x∈xs:=by
 unfold xC at h
 exact List.mem_of_mem_drop (EU h)
end M
end
section
namespace M
open PySem
section
variable {Φ:Calls}{G:Str→Option Val}{env:Env}{s s1 s2 s3 s4:Sto}
noncomputable def Wn(f:Nat→Int):Val→List Val
 |.int k=>[.int (f k.toNat)]
 |_=>[]
theorem cI{f:Nat→Int}{n:Nat}:(yJ 0 n).flatMap (Wn f)=((AE n).map f).map .int:=by
 unfold yJ
 rw[Gf,C4]
 have:(fun(k:Nat)=>Wn f (.int (0+(k:Int))))=fun k=>[(Val.int∘f) k]:=by
  funext k
  show [Val.int (f (0+(k:Int)).toNat)]=_
  rw[Int.zero_add,Bj];rfl
 rw[this,fF]
theorem YS{N:List Str}{fr:List (Option Nat)}{elt:Ex}{it:Itb}{n:Nat}{f:Nat→Int}{e0:Env}(hi:yv Φ G env it s=.ok ⟨yJ 0 n,none⟩ s)(h0:zT fr env=none::e0)(h:∀(k:Nat) (o:Option Val),k<n→evE Φ G (some (.int k)::e0) elt s=.ok (.int (f k)) s)(hl:n≤zU):evE Φ G env (.comp false N fr elt (.nm 0) it .nil) s=.ok (.lst (((AE n).map f).map .int)) s:=by
 rw[post_eq]
 refine uZ (fun e=>∃o,e=o::e0) (Wn f) (yJ 0 n) (s1:=s) hi ⟨none,h0⟩ ?_ ?_
 . rintro x hx e ⟨o,rfl⟩
   obtain⟨k,hk,rfl⟩:=kz hx
   refine⟨_,rfl,⟨_,rfl⟩,ua.mpr ⟨rfl,?_⟩⟩
   rw[if_pos rfl,Int.zero_add]
   show (evE Φ G (some (.int (k:Int))::e0) elt s).post _
   rw[h k none hk]
   refine zC.mpr ⟨rfl,?_⟩
   show [Val.int (f (k:Int).toNat)]=_
   rw[Bj]
 . rw[cI]
   exact zC.mpr ⟨rfl,rfl⟩
end
theorem bf{α β:Type}{f:α→β}{xs:List α}{lo hi:Option Int}:xC (xs.map f) lo hi=(xC xs lo hi).map f:=by
 unfold xC
 rw[Ai,List.map_take,List.map_drop]
theorem oa{m:Bool}{ns:List Int}{lo hi:Option Int}{s:Sto}:tL m (tpI ns) lo hi none s=.ok (tpI (xC ns lo hi)) s:=by
 show Out.ok (Val.tup (xC (ns.map .int) lo hi)) s=_
 rw[bf]
end M
end
section
namespace M
open PySem
noncomputable def cj(zs:List Int):Val→List Val
 |.tup [.int i,.int h]=>if (zs.length:Int)≤h then [.int i] else []
 |_=>[]
noncomputable def tN(zs ns:List Int):List Val:=(zr 0 (ns.map .int)).flatMap (cj zs)
theorem sU{zs ns:List Int}{v:Val}(h:v∈tN zs ns):∃k:Nat,v=.int k∧k<ns.length:=by
 obtain⟨x,hx,hv⟩:=Du.mp h
 obtain⟨k,i,hk,rfl⟩:=vZ hx
 have hv:v∈if (zs.length:Int)≤i then [Val.int (k:Nat)] else []:=hv
 by_cases hi:(zs.length:Int)≤i
 . rw[if_pos hi]at hv
   exact⟨k,Aq.mp hv,gf hk⟩
 . rw[if_neg hi]at hv;cases hv
noncomputable def qJ(zs ns:List Int):Val:=match tN zs ns with
 |[]=>.none
 |v::_=>v
section
variable {T:Tbl}{Φ:Calls}{s:Sto}
def mY(Φ:Calls):Prop:=∀(zs ns:List Int) (s:Sto),Φ "first_hue_wrong" 0 [tpI zs,tpI ns] s=.ok (qJ zs ns) s
theorem iz{zs ns:List Int}:run T Φ F.zp [tpI zs,tpI ns] s=.ok (qJ zs ns) s:=by
 have hl:blt .len false [tpI zs] s=.ok (.int zs.length) s:=by rw[uU,Ai]
 rw[post_eq,F.zp,xM]
 refine⟨rfl,?_⟩
 show (zW Φ T.gl [some (tpI zs),some (tpI ns),none,none] _ s).post _
 refine zu.mpr (xV (fun rest e s'=>s'=s∧(∃o2 o3,e=[some (tpI zs),some (tpI ns),o2,o3])∧(∀x∈rest,x∈zr 0 (ns.map .int))∧tN zs ns=rest.flatMap (cj zs)) (zr 0 (ns.map .int)) (s1:=s) (sL (zB rfl)) ⟨rfl,⟨_,_,rfl⟩,fun x hx=>hx,rfl⟩ ?_ ?_)
 . rintro x rest e s' ⟨rfl,⟨o2,o3,rfl⟩,hr,hS⟩
   obtain⟨k,i,hk,rfl⟩:=vZ (hr x (.head _))
   have hr':∀x∈rest,x∈zr 0 (ns.map .int):=fun x hx=>hr x (.tail _ hx)
   refine⟨_,rfl,?_⟩
   rw[BN,show cj zs (.tup [.int (k:Nat),.int i])=if (zs.length:Int)≤i then [Val.int (k:Nat)] else [] from rfl]at hS
   by_cases hn:(zs.length:Int)≤i
   . rw[if_pos hn]at hS
     have:qJ zs ns=.int (k:Nat):=by unfold qJ;rw[hS];rfl
     refine rq (yY (yN (zB rfl) (yU (zA (zB rfl) zD) hl) ge_int) (by rw[za,decide_eq_true hn])) (yT (zB rfl) ?_)
     rw[this]
     show (zk false s' _ s').post _
     rw[xG xq]
     exact zC.mpr ⟨rfl,rfl⟩
   . rw[if_neg hn]at hS
     exact vC (yY (yN (zB rfl) (yU (zA (zB rfl) zD) hl) ge_int) (by rw[za,decide_eq_false hn])) (xy ⟨rfl,⟨_,_,rfl⟩,hr',hS⟩)
 . rintro e s' ⟨rfl,⟨o2,o3,rfl⟩,_,hS⟩
   have:qJ zs ns=.none:=by unfold qJ;rw[hS];rfl
   refine yT zK ?_
   rw[this]
   show (zk false s' _ s').post _
   rw[xG vf]
   exact zC.mpr ⟨rfl,rfl⟩
def me(ns:List Int):Prop:=ns.length≤40∧∀x∈ns,0≤x∧x≤3
def qS(Φ:Calls):Prop:=∀(ns:List Int) (s:Sto),me ns→Φ "is_strip" 0 [tpI ns] s=.ok (.bool true) s
noncomputable def yk:Val→Bool
 |.tup vs=>(decide (1≤vs.length)&&decide (vs.length≤4))&&vs.all (yX 2 8)
 |_=>false
def pK(Φ:Calls):Prop:=∀(v:Val) (s:Sto),kindOf v≠none→(∀vs,v=.tup vs→∀w∈vs,kindOf w≠none)→Φ "are_sizes" 0 [v] s=.ok (.bool (yk v)) s
theorem cY{v:Val}(h:∀vs,v≠.tup vs):yk v=false:=by
 cases v with
 |tup vs=>exact absurd rfl (h vs)
 |_=>rfl
theorem lq(g:Gl4 T)(c:pM Φ){v:Val}(hk:kindOf v≠none)(hks:∀vs,v=.tup vs→∀w∈vs,kindOf w≠none):run T Φ F.yA [v] s=.ok (.bool (yk v)) s:=by
 rw[post_eq]
 obtain⟨a,ha⟩:=oD hk
 rcases eH ha with⟨vs,rfl⟩|hn
 . have c2:=c vs 2 8 s (hks vs rfl)
   by_cases h1:1≤vs.length
   . have h1':(1:Int)≤(vs.length:Int):=by omega
     by_cases h4:vs.length≤4
     . have h4':(vs.length:Int)≤4:=by omega
       simp[F.yA,EVl,zX,zT,pv,uU,eL,g.hu,g.ls,g.ms,le_int,c2,h1',h4',yk,h1,h4]
     . have h4':¬(vs.length:Int)≤4:=by omega
       simp[F.yA,EVl,zX,zT,pv,uU,eL,g.hu,le_int,h1',h4',yk,h1,h4]
   . have h1':¬(1:Int)≤(vs.length:Int):=by omega
     simp[F.yA,EVl,zX,zT,pv,uU,le_int,h1',yk,h1]
 . have e1:=pq (m:=false) (s:=s) ha (show vM "tuple"=some .tup from rfl)
   rw[hn]at e1
   have e2:=cY (v:=v) fun vs e=>by rw[e]at ha;cases ha;cases hn
   simp[F.yA,EVl,zX,zT,e1,e2]
end
end M
end
section
namespace F28
open PySem M
noncomputable def zg:Fn:=⟨["_law_sizes_here","_law_draft_here","_law_found","_law_hue","_law_size","_law_row"],["_law_sizes_here","_law_draft_here"],false,(.cons (.asg 2 (.lst true .nil)) (.cons (.forS (.nms [3,4]) (.enum (.var 0)) (.cons (.forS (.nm 5) (.val (.call "_law_rows" 0 (.cons (.blt .len false (.cons (.var 1) .nil)) (.cons (.var 4) .nil)))) (.cons (.ifS (.val (.cmp .eq (.comp false ["_law_place","_law_hue","_law_draft_here"] [none,some 3,some 1] (.var 0) (.nm 0) (.val (.call "_law_places" 0 (.cons (.var 5) (.cons (.var 4) .nil)))) (.cons (.val (.cmp .ne (.ix (.var 2) (.var 0)) (.var 1))) .nil)) (.lst false .nil))) (.cons (.expr (.yx .append false (.var 2) (.cons (.var 5) .nil))) .nil) .nil) .nil)) .nil)) (.cons (.ret (.blt .sorted false (.cons (.var 2) .nil))) .nil)))⟩
end F28
end
section
namespace M
open PySem
noncomputable def vR:Val→Bool
 |.tup vs=>decide (vs.length≤40)&&vs.all (yX 0 3)
 |_=>false
theorem cm{v:Val}(h:∀vs,v≠.tup vs):vR v=false:=by
 cases v with
 |tup vs=>exact absurd rfl (h vs)
 |_=>rfl
theorem cn{t:List Int}(h:me t):vR (tpI t)=true:=by
 show (decide ((t.map Val.int).length≤40)&&(t.map Val.int).all (yX 0 3))=true
 rw[Ai,decide_eq_true h.1,sg h.2];rfl
end M
end
section
namespace F31
open PySem M
noncomputable def zg:Fn:=⟨["_law_sizes","_law_draft","_law_found","_law_hue","_law_size","_law_row"],["_law_sizes","_law_draft"],false,(.cons (.asg 2 (.lst true .nil)) (.cons (.forS (.nms [3,4]) (.enum (.var 0)) (.cons (.forS (.nm 5) (.val (.call "_law_rows" 0 (.cons (.blt .len false (.cons (.var 1) .nil)) (.cons (.var 4) .nil)))) (.cons (.ifS (.val (.cmp .eq (.comp false ["_law_place","_law_hue","_law_draft"] [none,some 3,some 1] (.var 0) (.nm 0) (.val (.call "_law_places" 0 (.cons (.var 5) (.cons (.var 4) .nil)))) (.cons (.val (.cmp .ne (.ix (.var 2) (.var 0)) (.var 1))) .nil)) (.lst false .nil))) (.cons (.expr (.yx .append false (.var 2) (.cons (.var 5) .nil))) .nil) .nil) .nil)) .nil)) (.cons (.ret (.blt .sorted false (.cons (.var 2) .nil))) .nil)))⟩
end F31
end
section
namespace F75
open PySem M
noncomputable def yZ:Fn:=⟨["_law_pen_here","_law_bound","_law_found","_law_stir"],["_law_pen_here","_law_bound"],false,(.cons (.ifS (.and (.val (.cmp .eq (.ix (.var 0) (.lit (.int 1))) (.lit (.int 1)))) (.cons (.val (.cmp .gt (.ix (.var 0) (.lit (.int 0))) (.lit (.int 0)))) .nil)) (.cons (.asg 2 (.bin false .mod (.ix (.var 0) (.lit (.int 0))) (.var 1))) (.cons (.setIx (.var 0) (.lit (.int 0)) (.bin false .fdiv (.ix (.var 0) (.lit (.int 0))) (.var 1))) (.cons (.ret (.var 2)) .nil))) .nil) (.cons (.setIx (.var 0) (.lit (.int 2)) (.bin false .add (.ix (.var 0) (.lit (.int 2))) (.lit (.int 1)))) (.cons (.asg 3 (.bin false .mod (.bin false .mul (.bin false .add (.ix (.var 0) (.lit (.int 3))) (.lit (.int 17))) (.bin false .add (.lit (.int 69621)) (.bin false .mul (.lit (.int 2)) (.ix (.var 0) (.lit (.int 2)))))) (.lit (.int 2147483647)))) (.cons (.asg 3 (.bin false .mod (.bin false .add (.bin false .add (.bin false .mul (.var 3) (.var 3)) (.bin false .mul (.lit (.int 40503)) (.ix (.var 0) (.lit (.int 2))))) (.lit (.int 5))) (.lit (.int 2147483629)))) (.cons (.ret (.bin false .mod (.bin false .fdiv (.bin false .mod (.bin false .mul (.var 3) (.lit (.int 48271))) (.lit (.int 2147483647))) (.lit (.int 32))) (.var 1))) .nil)))))⟩
noncomputable def yP:Fn:=⟨["_law_cell"],["_law_cell"],true,(.cons (.ret (.lst true (.cons (.var 0) (.cons (.blt .int false (.cons (.cmp .ge (.var 0) (.bin false .pow (.lit (.int 10)) (.lit (.int 18)))) .nil)) (.cons (.lit (.int 0)) (.cons (.bin false .mod (.var 0) (.lit (.int 1000000007))) .nil)))))) .nil)⟩
end F75
end
section
namespace M
open PySem
noncomputable def sG(a b c d:Int):Cel:=.lst [.int a,.int b,.int c,.int d]
def qE(s:Sto)(p:Nat):Prop:=∃a b c d,s[p]?=some (sG a b c d)∧0≤d∧d<1000000007
def vH(s:Sto)(p:Nat)(s':Sto):Prop:=∃a b c d,s'=s.set p (sG a b c d)∧0≤d∧d<1000000007
theorem qE.lt{s:Sto}{p:Nat}(h:qE s p):p<s.length:=by
 obtain⟨a,b,c,d,h,_⟩:=h
 exact(As.mp h).1
theorem vH.at_{s s':Sto}{p:Nat}(h:vH s p s')(hp:p<s.length):qE s' p:=by
 obtain⟨a,b,c,d,rfl,h1⟩:=h
 exact⟨a,b,c,d,AR hp,h1⟩
theorem vH.trans{s s1 s2:Sto}{p:Nat}(h:vH s p s1)(k:vH s1 p s2):vH s p s2:=by
 obtain⟨a,b,c,d,rfl,h1⟩:=h
 obtain⟨a',b',c',d',rfl,h2⟩:=k
 exact⟨a',b',c',d',by rw[List.set_set],h2⟩
theorem qE.refl{s:Sto}{p:Nat}(h:qE s p):vH s p s:=by
 obtain⟨a,b,c,d,h,h1⟩:=h
 obtain⟨hp,e⟩:=As.mp h
 exact⟨a,b,c,d,by rw[←e,List.set_getElem_self],h1⟩
theorem eT{s s':Sto}{p:Nat}{v:Val}(h:vH s p s')(hv:v.noRef=true):zk false s v s'=.ok v s':=by
 obtain⟨a,b,c,d,rfl,_⟩:=h
 exact iI hv rfl
section
variable {T:Tbl}{Φ:Calls}{G:Str→Option Val}{env:Env}{s s1 s2 s3:Sto}
theorem kO{es:Exs}{vs:List Val}(h:zi Φ G env es s=.ok vs s1)(hl:vs.length≤zU):evE Φ G env (.lst true es) s=.ok (.ref s1.length) (s1++[.lst vs]):=bnd h (if_pos hl)
theorem jP{o i e:Ex}{cs:Sms}{v:Val}{r j:Nat}{k:Int}{vs:List Val}{P:Fl→Sto→Prop}(he:evE Φ G env e s=.ok v s1)(ho:evE Φ G env o s1=.ok (.ref r) s1)(hi:evE Φ G env i s1=.ok (.int k) s1)(hs:s1[r]?=some (.lst vs))(hj:L2.ixN vs.length k=some j)
 (q:(zW Φ G env cs (s1.set r (.lst (vs.set j v)))).post P):(zW Φ G env (.cons (.setIx o i e) cs) s).post P:=by
 have e0:exS Φ G env (.setIx o i e) s=.ok (.nx env) (s1.set r (.lst (vs.set j v))):=by
  show ((evE Φ G env e s).bind _)=_
  rw[he,zV,ho,zV,hi,zV]
  simp only[hs,hj]
  rfl
 refine zu.mpr ?_
 rw[e0]
 exact zC.mpr q
def Zk(Φ:Calls):Prop:=∀(c:Int) (s:Sto),∃a b e d,Φ "_law_pen" 1 [.int c] s=.ok (.ref s.length) (s++[sG a b e d])∧0≤d∧d<1000000007
theorem cN(c:Int):∃a b e d,run T Φ F75.yP [.int c] s=.ok (.ref s.length) (s++[sG a b e d])∧0≤d∧d<1000000007:=by
 refine⟨c,if decide ((10:Int) ^ 18≤c) then 1 else 0,0,c%1000000007,?_,Gw _ (by omega),Fo _ (by omega)⟩
 rw[post_eq,F75.yP,xM]
 refine⟨rfl,?_⟩
 show (zW Φ T.gl [some (.int c)] _ s).post _
 refine yT (kO (zA (zB rfl) (zA (yU (zA (yN (zB rfl) (zc zK zK rfl) ge_int) zD) rfl) (zA zK (zA (zc (zB rfl) zK (bmod (by omega))) zD)))) (show 4≤zU by unfold zU;omega)) ?_
 exact zC.mpr ⟨rfl,rfl⟩
def pI(Φ:Calls):Prop:=∀(p:Nat) (m:Int) (s:Sto),qE s p→0<m→m<1000000→(Φ "_law_draw" 0 [.ref p,.int m] s).post fun v s'=>∃r:Nat,v=.int r∧(r:Int)<m∧vH s p s'
theorem iy{p:Nat}{m:Int}(hp:qE s p)(h1:0<m)(h2:m<1000000):(run T Φ F75.yZ [.ref p,.int m] s).post fun v s'=>∃r:Nat,v=.int r∧(r:Int)<m∧vH s p s':=by
 have hpl:=hp.lt
 obtain⟨a,b,c,d,hs,hd0,hd1⟩:=hp
 have ix:∀{s:Sto} {a b c d:Int} {k:Nat} {v:Val},s[p]?=some (sG a b c d)→[Val.int a,.int b,.int c,.int d][k]?=some v→wK (.ref p) (.int k) s=.ok v s:=fun h h'=>Yy h h'
 rw[F75.yZ,xM]
 refine⟨rfl,?_⟩
 show (zW Φ T.gl [some (.ref p),some (.int m),none,none] _ s).post _
 have tc:evT Φ T.gl [some (.ref p),some (.int m),none,none] (.and (.val (.cmp .eq (.ix (.var 0) (.lit (.int 1))) (.lit (.int 1)))) (.cons (.val (.cmp .gt (.ix (.var 0) (.lit (.int 0))) (.lit (.int 0)))) .nil)) s=.ok (decide (b=1)&&decide (0<a)) s:=W0 (yY (yN (vU (zB rfl) zK (ix (k:=1) hs rfl)) zK eq_int) za) (yY (yN (vU (zB rfl) zK (ix (k:=0) hs rfl)) zK gt_int) za)
 have fin':∀{x:Int} {s':Sto},vH s p s'→(zk false s (.int (x%m)) s').post fun v s'=>∃r:Nat,v=.int r∧(r:Int)<m∧vH s p s':=fun{x s'} t=>by
  rw[eT t xq]
  have h3:=Gw x (show m≠0 by omega)
  have h4:=Fo x h1
  exact zC.mpr ⟨(x%m).toNat,by congr 1;omega,by omega,t⟩
 cases hb:(decide (b=1)&&decide (0<a)) with
 |true=>
  rw[hb]at tc
  refine rq tc (xX (zc (vU (zB rfl) zK (ix (k:=0) hs rfl)) (zB rfl) (bmod h1)) ?_)
  refine jP (j:=0) (zc (vU (zB rfl) zK (ix (k:=0) hs rfl)) (zB rfl) (bdiv ⟨h1,by omega⟩)) (zB rfl) zK hs rfl (yT (zB rfl) ?_)
  exact fin' ⟨a/m,b,c,d,rfl,hd0,hd1⟩
 |false=>
  rw[hb]at tc
  refine vC tc ?_
  refine jP (j:=2) (zc (vU (zB rfl) zK (ix (k:=2) hs rfl)) zK sj) (zB rfl) zK hs rfl ?_
  have hs':(s.set p (sG a b (c+1) d))[p]?=some (sG a b (c+1) d):=AR hpl
  show (zW Φ T.gl [some (.ref p),some (.int m),none,none] _ (s.set p (sG a b (c+1) d))).post _
  refine xX (zc (zc (zc (vU (zB rfl) zK (ix (k:=3) hs' rfl)) zK sj) (zc zK (zc zK (vU (zB rfl) zK (ix (k:=2) hs' rfl)) (nD (by omega))) sj) (show binOp false .mul (.int (d+17)) _ _=_ by simp only[binOp];rw[if_pos (.inl (by omega))])) zK (bmod (by omega))) ?_
  generalize hx:(d+17)*(69621+2*(c+1))%2147483647=x
  have x0:0≤x:=by rw[←hx];exact Gw _ (by omega)
  have x1:x<2147483647:=by rw[←hx];exact Fo _ (by omega)
  refine xX (zc (zc (zc (zc (zB rfl) (zB rfl) (show binOp false .mul (.int x) (.int x) _=_ by simp only[binOp];rw[if_pos (.inl (by omega))])) (zc zK (vU (zB rfl) zK (ix (k:=2) hs' rfl)) (nD (by omega))) sj) zK sj) zK (bmod (by omega))) ?_
  generalize hy:(x*x+40503*(c+1)+5)%2147483629=y
  refine yT (zc (zc (zc (zc (zB rfl) zK (Zp (by omega))) zK (bmod (by omega))) zK (bdiv ⟨by omega,by omega⟩)) (zB rfl) (bmod h1)) ?_
  exact fin' ⟨a,b,c+1,d,rfl,hd0,hd1⟩
end
end M
end
section
namespace M
open PySem
theorem range_getD(zs:List Int):(AE zs.length).map (fun h=>zs.getD h 0)=zs:=by
 apply List.ext_getElem
 . simp
 . intro i h1 h2
   rw[Gd,List.getElem_range,Aw,Ae h2];rfl
end M
end
section
namespace M
open PySem
theorem ya{s:Sto}{v:Val}(h:v.noRef=true):(zk false s v s).post fun x t=>x=v∧t=s:=by
 rw[xG h];exact zC.mpr ⟨rfl,rfl⟩
theorem Xx(ns:List Int):(tpI ns).noRef=true:=wI ns
noncomputable abbrev wA(os:List Nat):List Int:=os.map fun(h:Nat)=>(h:Int)
section
variable {T:Tbl}{Φ:Calls}{s:Sto}
theorem cZ{ns:List Int}(hn:ns.length<41){s:Sto}:tL false (tpI ns) none none (some (-1)) s=.ok (tpI ns.reverse) s:=by
 have hc:∀n:Nat,n<41→(L2.yQ n none none (-1)).2≤zU:=by
  have h:∀n:Nat,n<41→(L2.yQ n none none (-1)).2≤41:=by decide +kernel
  intro n hn
  exact Ax (h n hn) (by decide)
 have e:tL false (tpI ns) none none (some (-1)) s=.ok (.tup (L2.zv (ns.map .int) (L2.yQ ns.length none none (-1)).1 (-1) (L2.yQ ns.length none none (-1)).2)) s:=by
  simp only[tL]
  rw[Ai,if_pos ⟨by decide,hc _ hn⟩]
 rw[e,←dj hn]
 show Out.ok (Val.tup _) s=.ok (Val.tup _) s
 unfold L2.zv
 rw[List.map_filterMap]
 simp only[AQ]
end
end M
end
section
namespace M
open PySem
theorem qv{α β:Type}{f:α→β}:∀{l:List α},l.Nodup→(∀a∈l,∀b∈l,f a=f b→a=b)→(l.map f).Nodup
 |[],_,_=>.nil
 |a::l,h,hi=>by
  rw[By]at h
  rw[AK,By]
  refine⟨fun hm=>?_,qv h.2 fun x hx y hy=>hi x (.tail _ hx) y (.tail _ hy)⟩
  obtain⟨b,hb,e⟩:=Bh.mp hm
  exact h.1 (hi b (.tail _ hb) a (.head _) e▸hb)
end M
end
section
namespace M
open PySem
noncomputable abbrev nV(ls:List Nat):Val:=tpI (wA ls)
theorem vN(ls:List Nat):(wA ls).map Val.int=ls.map fun(k:Nat)=>Val.int k:=by rw[C4];rfl
theorem jd{bs:List Bool}{s:Sto}:blt .all false [.lst (bs.map Val.bool)] s=.ok (.bool (bs.all id)) s:=by
 show (match boolsOf (bs.map Val.bool) with|some bs=>Out.ok (Val.bool (bs.all id)) s|Ab=>.stuck)=_
 rw[vI (fun b=>b),List.map_id']
end M
end
section
namespace M
open PySem
noncomputable def goN(n f d z:Nat):List Nat:=(AE z).map fun t=>(f+d*t)%n
noncomputable def jQ(r:List Int)(f d z:Nat):Bool:=(goN r.length f d z).all fun p=>decide (r[p]?=r[f]?)
noncomputable def vS(r:List Int)(f d z:Nat):Bool:=jQ r f d z&&decide ((goN r.length f d z).Nodup)
noncomputable def ZT(zs r:List Int)(f:Nat):Nat:=zO zs (r.getD f 0).toNat
theorem cw{zs r:List Int}{f:Nat}{h:Nat}(e:r[f]?=some (h:Int)):ZT zs r f=zO zs h:=by
 unfold ZT
 rw[Aw,e]
 show zO zs ((h:Int)).toNat=_
 rw[Bj]
end M
end
section
namespace F66
open PySem M
noncomputable def ye:Fn:=⟨["places"],["places"],false,(.cons (.ret (.cmp .eq (.listRange false (.lit .none) (.var 0) (.lit (.str ""))) (.blt .len false (.cons (.var 0) .nil)))) .nil)⟩
noncomputable def zL:Fn:=⟨["sizes","ring","place","first","hue","step"],["sizes","ring"],false,(.cons (.expr (.call "need_sizes" 0 (.cons (.var 0) .nil))) (.cons (.expr (.call "need_ring" 0 (.cons (.var 1) .nil))) (.cons (.asg 2 (.call "first_hue_wrong" 0 (.cons (.var 0) (.cons (.var 1) .nil)))) (.cons (.ifS (.val (.cmp .isNot (.var 2) (.lit .none))) (.cons (.ret (.tup (.cons (.lit (.str "hue")) (.cons (.var 2) .nil)))) .nil) .nil) (.cons (.forS (.nms [3,4]) (.enum (.var 1)) (.cons (.forS (.nm 5) (.range2 (.lit (.int 1)) (.blt .len false (.cons (.var 1) .nil))) (.cons (.ifS (.val (.call "is_whole_round" 0 (.cons (.var 1) (.cons (.var 3) (.cons (.var 5) (.cons (.ix (.var 0) (.var 4)) .nil)))))) (.cons (.ret (.tup (.cons (.lit (.str "round")) (.cons (.var 3) (.cons (.var 5) .nil))))) .nil) .nil) .nil)) .nil)) (.cons (.ret (.lit .none)) .nil))))))⟩
noncomputable def zw:Fn:=⟨["sizes","ring"],["sizes","ring"],false,(.cons (.ret (.cmp .is (.call "first_round_wrong" 0 (.cons (.var 0) (.cons (.var 1) .nil))) (.lit .none))) .nil)⟩
noncomputable def yW:Fn:=⟨["length","first","step","size"],["length","first","step","size"],false,(.cons (.ret (.blt .tuple false (.cons (.comp false ["at","length","first","step"] [none,some 0,some 1,some 2] (.bin false .mod (.bin false .add (.var 2) (.bin false .mul (.var 3) (.var 0))) (.var 1)) (.nm 0) (.range1 (.var 3)) .nil) .nil))) .nil)⟩
noncomputable def z6:Fn:=⟨["ring","first","step","size","places"],["ring","first","step","size"],false,(.cons (.asg 4 (.call "going_round" 0 (.cons (.blt .len false (.cons (.var 0) .nil)) (.cons (.var 1) (.cons (.var 2) (.cons (.var 3) .nil)))))) (.cons (.ret (.andE (.blt .all false (.cons (.comp false ["place","ring","first"] [none,some 0,some 1] (.cmp .eq (.ix (.var 1) (.var 0)) (.ix (.var 1) (.var 2))) (.nm 0) (.val (.var 4)) .nil) .nil)) (.cons (.call "are_unlike" 0 (.cons (.var 4) .nil)) .nil))) .nil))⟩
noncomputable def yO:Fn:=⟨["thing"],["thing"],false,(.cons (.ifS (.or (.not (.val (.call "is_strip" 0 (.cons (.var 0) .nil)))) (.cons (.val (.cmp .eq (.blt .len false (.cons (.var 0) .nil)) (.lit (.int 0)))) .nil)) (.cons (.raise (.call "NoRing" 0 (.cons (.lit (.str "a strip with one place or more is due")) .nil))) .nil) .nil) .nil)⟩
end F66
end
section
namespace M
open PySem
theorem bj(ns:List Int):L2.dN ns=(ns.foldl C6 []).length:=by
 unfold L2.dN CM
 rw[range_getD]
theorem Ym{acc:List Int}{k:Int}:acc.any (· == k)=decide (k∈acc):=by
 rw[Cc,BU,decide_eq_true_eq]
 exact⟨fun⟨x,hx,e⟩=>by rwa [←Co e],fun h=>⟨k,h,beq_self_eq_true k⟩⟩
theorem Zt:∀(ns acc:List Int),(ns.foldl C6 acc).length=acc.length+ns.length↔ns.Nodup∧∀x∈ns,x ∉ acc
 |[],acc=>⟨fun _=>⟨.nil,fun _ h=>nomatch h⟩,fun _=>rfl⟩
 |k::ns,acc=>by
  have hle:=PyProof.Rows.foldl_step_dedup_length_le acc ns
  rw[Gu,Ar,By]
  unfold C6
  rw[Ym]
  by_cases h:k∈acc
  . rw[decide_eq_true h,if_pos rfl]
    constructor
    . intro e
      have:(ns.foldl C6 acc).length=acc.length+(ns.length+1):=e
      omega
    . intro e
      exact absurd h (e.2 k (.head _))
  . rw[decide_eq_false h,if_neg Am]
    have ih:=Zt ns (acc++[k])
    rw[Ap,show acc.length+[k].length+ns.length=acc.length+(ns.length+1) by rw[BR];omega]at ih
    refine ih.trans ?_
    constructor
    . rintro ⟨h1,h2⟩
      refine⟨⟨fun hk=>h2 k hk (AU _ (.head _)),h1⟩,fun x hx=>?_⟩
      rcases Ak.mp hx with rfl|hx
      . exact h
      . exact fun hc=>h2 x hx (Bc _ hc)
    . rintro ⟨⟨h1,h2⟩,h3⟩
      refine⟨h2,fun x hx hc=>?_⟩
      rcases AN.mp hc with hc|hc
      . exact h3 x (.tail _ hx) hc
      . rw[Aq.mp hc]at hx;exact h1 hx
theorem Zr{ns:List Int}:L2.dN ns=ns.length↔ns.Nodup:=by
 rw[bj]
 have:=Zt ns []
 rw[A7,Dm]at this
 exact this.trans ⟨fun h=>h.1,fun h=>⟨h,fun _ _ h=>nomatch h⟩⟩
theorem Xq{m:Bool}{ns:List Int}{t:Str}{s:Sto}(h:ns.length≤1000):lF m .none (tpI ns) (.str t) s=.ok (.int (L2.dN ns:Nat)) s:=by
 show (match M.intsOf (ns.map .int) with|some ns=>if ns.length≤1000 then Out.ok (Val.int (L2.dN ns:Nat)) s else .stuck|Ab=>.stuck)=_
 rw[pk]
 exact if_pos h
theorem Xp{m:Bool}{ns:List Int}{t:Str}{s:Sto}(h:ns.length≤1000):lF m .none (.lst (ns.map .int)) (.str t) s=.ok (.int (L2.dN ns:Nat)) s:=by
 show (match M.intsOf (ns.map .int) with|some ns=>if ns.length≤1000 then Out.ok (Val.int (L2.dN ns:Nat)) s else .stuck|Ab=>.stuck)=_
 rw[pk]
 exact if_pos h
structure Rg(r:List Int):Prop where
 strip:me r
 ne:r≠[]
theorem Rg.pos{r:List Int}(h:Rg r):0<r.length:=BY.mpr h.ne
theorem Rg.le{r:List Int}(h:Rg r):r.length≤40:=h.strip.1
theorem uD{Φ:Calls}{G:Str→Option Val}{env:Env}{s:Sto}{i:Nat}{m:Bool}{ns:List Int}(h:env[i]?=some (some (tpI ns))):evE Φ G env (.blt .len m (.cons (.var i) .nil)) s=.ok (.int (ns.length:Nat)) s:=yU (zA (zB h) zD) (by rw[uU,Ai])
section
variable {T:Tbl}{Φ:Calls}{s:Sto}
def uv(Φ:Calls):Prop:=∀(r:List Int) (s:Sto),Rg r→Φ "need_ring" 0 [tpI r] s=.ok .none s
theorem oZ(c:qS Φ){r:List Int}(h:Rg r):run T Φ F66.yO [tpI r] s=.ok .none s:=by
 have h0:zQ .eq (.int (r.length:Nat)) (.int 0) s=.ok (.bool false) s:=by rw[eq_int,decide_eq_false (by have:=h.pos;omega)]
 rw[post_eq,F66.yO,xM]
 refine⟨rfl,?_⟩
 show (zW Φ T.gl [some (tpI r)] _ s).post _
 exact vC (U6 (mP (yY (x_call (zA (zB rfl) zD) (c r s h.strip)) za)) (Zd (yY (yN (uD rfl) zK h0) za) W5)) (xy (ya rfl))
def gJ(Φ:Calls):Prop:=∀(n f d z:Nat) (s:Sto),0<n→f≤40→d≤40→z≤8→Φ "going_round" 0 [.int n,.int f,.int d,.int z] s=.ok (nV (goN n f d z)) s
theorem i6{n f d z:Nat}(hn:0<n)(hf:f≤40)(hd:d≤40)(hz:z≤8):run T Φ F66.yW [.int n,.int f,.int d,.int z] s=.ok (nV (goN n f d z)) s:=by
 have hL:z≤zU:=Ax hz (by decide)
 have e0:nV (goN n f d z)=tpI ((AE z).map fun t=>(((f+d*t)%n:Nat):Int)):=by
  unfold goN
  show tpI (E7 _ (E7 _ _))=_
  rw[C4];rfl
 rw[post_eq,F66.yW,xM]
 refine⟨rfl,?_⟩
 show (zW Φ T.gl [some (.int n),some (.int f),some (.int d),some (.int z)] _ s).post _
 rw[e0]
 refine yT (yU (zA (YS (n:=z) (f:=fun t=>(((f+d*t)%n:Nat):Int)) (qo (zB rfl) hL) rfl (fun k o hk=>?_) hL) zD) rfl) (ya (Xx _))
 have e:((f:Int)+(d:Int)*(k:Int))%(n:Int)=(((f+d*k)%n:Nat):Int):=by
  rw[Int.natCast_emod,Gx,Int.natCast_mul]
 exact zc (zc (zB rfl) (zc (zB rfl) (zB rfl) (nD (by omega))) sj) (zB rfl) (by rw[bmod (by omega),e])
def kR(Φ:Calls):Prop:=∀(ls:List Nat) (s:Sto),ls.length≤40→Φ "are_unlike" 0 [nV ls] s=.ok (.bool (decide ls.Nodup)) s
theorem eZ{ls:List Nat}:(wA ls).Nodup↔ls.Nodup:=⟨fun h=>(Ck.mp h).imp fun{a b} hab e=>hab (by rw[e]),fun h=>qv h fun a _ b _ e=>by omega⟩
theorem lu{ls:List Nat}(h:ls.length≤40):run T Φ F66.ye [nV ls] s=.ok (.bool (decide ls.Nodup)) s:=by
 have hq:zQ .eq (.int (L2.dN (wA ls):Nat)) (.int ((wA ls).length:Nat)) s=.ok (.bool (decide ls.Nodup)) s:=by
  rw[eq_int]
  congr 2
  refine decide_eq_decide.mpr (Iff.trans ?_ eZ)
  rw[←Zr];omega
 rw[post_eq,F66.ye,xM]
 refine⟨rfl,?_⟩
 show (zW Φ T.gl [some (nV ls)] _ s).post _
 exact yT (yN (bnd zK (bnd (zB rfl) (bnd zK (Xq (by rw[Ai];omega))))) (uD rfl) hq) (ya xJ)
theorem mz{n f d z:Nat}:(goN n f d z).length=z:=by unfold goN;rw[Ai,BD]
theorem Zy{n f d z p:Nat}(hn:0<n)(h:p∈goN n f d z):p<n:=by
 obtain⟨t,_,rfl⟩:=Bh.mp h
 exact Nat.mod_lt _ hn
noncomputable def atG(r:List Int)(f:Nat):Val→List Val
 |.int i=>[.bool (decide (r[i.toNat]?=r[f]?))]
 |_=>[]
def sW(Φ:Calls):Prop:=∀(r:List Int) (f d z:Nat) (s:Sto),r.length≤40→f<r.length→d≤40→z≤8→Φ "is_whole_round" 0 [tpI r,.int f,.int d,.int z] s=.ok (.bool (vS r f d z)) s
theorem mH(c5:gJ Φ)(c6:kR Φ){r:List Int}{f d z:Nat}(hl:r.length≤40)(hf:f<r.length)(hd:d≤40)(hz:z≤8):run T Φ F66.z6 [tpI r,.int f,.int d,.int z] s=.ok (.bool (vS r f d z)) s:=by
 have cu:=c6 (goN r.length f d z) s (by rw[mz];omega)
 rw[post_eq,F66.z6,xM]
 refine⟨rfl,?_⟩
 show (zW Φ T.gl [some (tpI r),some (.int f),some (.int d),some (.int z),none] _ s).post _
 refine xX (x_call (zA (uD rfl) (zA (zB rfl) (zA (zB rfl) (zA (zB rfl) zD)))) (c5 r.length f d z s (by omega) (by omega) hd hz)) ?_
 show (zW Φ T.gl [some (tpI r),some (.int f),some (.int d),some (.int z),some (nV (goN r.length f d z))] _ s).post _
 have hc:evE Φ T.gl [some (tpI r),some (.int f),some (.int d),some (.int z),some (nV (goN r.length f d z))] (.comp false ["place","ring","first"] [none,some 0,some 1] (.cmp .eq (.ix (.var 1) (.var 0)) (.ix (.var 1) (.var 2))) (.nm 0) (.val (.var 4)) .nil) s=.ok (.lst (((goN r.length f d z).map fun p=>decide (r[p]?=r[f]?)).map Val.bool)) s:=by
  rw[post_eq]
  refine uZ (fun e=>∃o,e=[o,some (tpI r),some (.int f)]) (atG r f) ((wA (goN r.length f d z)).map .int) (s1:=s) (oB (zB rfl) rfl) ⟨none,rfl⟩ ?_ ?_
  . rintro x hx e ⟨o,rfl⟩
    rw[vN]at hx
    obtain⟨p,hp,rfl⟩:=Bh.mp hx
    have hpl:=Zy (by omega) hp
    have hq:zQ .eq (.int r[p]) (.int r[f]) s=.ok (.bool (decide (r[p]?=r[f]?))) s:=by
     rw[eq_int,Ae hpl,Ae hf]
     congr 2
     exact decide_eq_decide.mpr (by rw[Ea])
    refine⟨_,rfl,⟨_,rfl⟩,ua.mpr ⟨rfl,?_⟩⟩
    rw[if_pos rfl]
    show (evE Φ T.gl [some (.int (p:Int)),some (tpI r),some (.int f)] _ s).post _
    rw[yN (vU (zB rfl) (zB rfl) (rO (Ae hpl))) (vU (zB rfl) (zB rfl) (rO (Ae hf))) hq]
    refine zC.mpr ⟨rfl,?_⟩
    show [Val.bool (decide (r[(p:Int).toNat]?=r[f]?))]=_
    rw[Bj]
  . have e:((wA (goN r.length f d z)).map Val.int).flatMap (atG r f)=((goN r.length f d z).map fun p=>decide (r[p]?=r[f]?)).map Val.bool:=by
     rw[vN,Gf,C4]
     have:(fun(k:Nat)=>atG r f (.int (k:Int)))=fun k=>[(Val.bool∘fun p=>decide (r[p]?=r[f]?)) k]:=by
      funext k
      show [Val.bool (decide (r[(k:Int).toNat]?=r[f]?))]=_
      rw[Bj];rfl
     rw[this,fF]
    rw[e]
    exact zC.mpr ⟨rfl,rfl⟩
 have hall:((goN r.length f d z).map fun p=>decide (r[p]?=r[f]?)).all id=jQ r f d z:=by
  unfold jQ
  rw[List.all_map];rfl
 have ha:=yU (f:=.all) (m:=false) (zA hc zD) jd
 rw[hall]at ha
 unfold vS
 cases hs:jQ r f d z with
 |false=>
  rw[hs]at ha
  exact yT (kM ha) (ya xJ)
 |true=>
  rw[hs]at ha
  exact yT (TF ha (x_call (zA (zB rfl) zD) cu)) (ya xJ)
noncomputable def prs(n f:Nat):List (Nat × Nat):=(Df 1 (n-1)).map fun d=>(f,d)
noncomputable def xW(n:Nat):List (Nat × Nat):=(AE n).flatMap (prs n)
theorem sO{n f:Nat}{q:Nat × Nat}:q∈prs n f↔q.1=f∧1≤q.2∧q.2<n:=by
 unfold prs
 rw[Bh]
 constructor
 . rintro ⟨d,hd,rfl⟩
   rw[List.mem_range'_1]at hd
   exact⟨rfl,hd.1,by show d<n;omega⟩
 . rintro ⟨rfl,h1,h2⟩
   exact⟨q.2,by rw[List.mem_range'_1];omega,rfl⟩
theorem vd{n f d:Nat}:(f,d)∈xW n↔f<n∧1≤d∧d<n:=by
 unfold xW
 rw[Du]
 constructor
 . rintro ⟨a,ha,h⟩
   obtain⟨rfl,h1,h2⟩:=sO.mp h
   exact⟨AW.mp ha,h1,h2⟩
 . rintro ⟨h1,h2,h3⟩
   exact⟨f,AW.mpr h1,sO.mpr ⟨rfl,h2,h3⟩⟩
theorem pairs_len(n:Nat):(xW n).length≤n*n:=by
 have:∀l:List Nat,(l.flatMap (prs n)).length≤l.length*n:=fun l=>by
  induction l with
  |nil=>rw[Gg,A7];omega
  |cons a l ih=>
   have e:(prs n a).length=n-1:=by unfold prs;rw[Ai,Fp]
   rw[BN,Ap,Ar,DN,e]
   omega
 have h:=this (AE n)
 rwa [BD]at h
end
end M
end
section
namespace M
open PySem
noncomputable def frP(zs r:List Int)(q:Nat × Nat):Bool:=vS r q.1 q.2 (ZT zs r q.1)
noncomputable def frO(zs r:List Int):Option (Nat × Nat):=(xW r.length).find? (frP zs r)
noncomputable def frV(o:Option (Nat × Nat)):Val:=match o with
 |none=>.none
 |some q=>.tup [.str "round",.int (q.1:Nat),.int (q.2:Nat)]
theorem Z7(o:Option (Nat × Nat)):(frV o).noRef=true:=by
 cases o with
 |none=>exact vf
 |some q=>rw[frV,tD,yE,yE,yE,wq,rZ,xq,xq];rfl
structure RgZ(zs r:List Int):Prop where
 sz:Sz zs
 rg:Rg r
 hue:∀x∈r,0≤x∧x<zs.length
theorem fQ{zs ns:List Int}(h:∀x∈ns,0≤x∧x<zs.length):qJ zs ns=.none:=by
 have:tN zs ns=[]:=Gp.mpr fun x hx=>by
  obtain⟨k,i,hk,rfl⟩:=vZ hx
  show (if (zs.length:Int)≤i then [Val.int (k:Nat)] else [])=[]
  have:=h i (AS hk)
  rw[if_neg (by omega)]
 unfold qJ
 rw[this]
theorem rC{k:Nat}{vs:List Val}{x:Val}{rest:List Val}(h:x::rest=zr k vs):∃v ws,vs=v::ws∧x=.tup [.int (k:Nat),v]∧rest=zr (k+1) ws:=by
 cases vs with
 |nil=>cases h
 |cons v ws=>
  obtain⟨h1,h2⟩:=DA h
  exact⟨v,ws,rfl,h1,h2⟩
section
variable {T:Tbl}{Φ:Calls}{s:Sto}
theorem lj(c1:we Φ)(c2:uv Φ)(c3:mY Φ)(c:sW Φ){zs r:List Int}(h:RgZ zs r):run T Φ F66.zL [tpI zs,tpI r] s=.ok (frV (frO zs r)) s:=by
 have hl:=h.rg.le
 have ch:=c3 zs r s
 rw[fQ h.hue]at ch
 rw[post_eq,F66.zL,xM]
 refine⟨rfl,?_⟩
 show (zW Φ T.gl [some (tpI zs),some (tpI r),none,none,none,none] _ s).post _
 refine xZ (x_call (zA (zB rfl) zD) (c1 zs s h.sz)) (xZ (x_call (zA (zB rfl) zD) (c2 r s h.rg)) (xX (x_call (zA (zB rfl) (zA (zB rfl) zD)) ch) ?_))
 show (zW Φ T.gl [some (tpI zs),some (tpI r),some .none,none,none,none] _ s).post _
 refine vC (yY (yN (zB rfl) zK (show zQ .isNot .none .none s=.ok (.bool false) s from rfl)) za) ?_
 refine zu.mpr (xV (fun rest e s'=>s'=s∧(∃o3 o4 o5,e=[some (tpI zs),some (tpI r),some .none,o3,o4,o5])∧∃k,k≤r.length∧rest=zr k ((r.drop k).map .int)∧((Df k (r.length-k)).flatMap (prs r.length)).find? (frP zs r)=frO zs r) (zr 0 (r.map .int)) (s1:=s) (sL (zB rfl)) ⟨rfl,⟨_,_,_,rfl⟩,0,A8 _,by rw[Dk],by rw[Nat.sub_zero,←List.range_eq_range'];rfl⟩ ?_ ?_)
 . rintro x rest e s' ⟨rfl,⟨o3,o4,o5,rfl⟩,k,hk,hr,hf⟩
   obtain⟨v,ws,hv,rfl,rfl⟩:=rC hr
   have hk':k<r.length:=by
    refine Nat.lt_of_not_le fun hc=>?_
    rw[List.drop_eq_nil_of_le hc]at hv
    cases hv
   rw[BQ hk',AK]at hv
   obtain⟨rfl,rfl⟩:=DA hv
   have hx:=h.hue r[k] (B2 hk')
   obtain⟨hu,hhu⟩:∃c:Nat,r[k]=c:=⟨r[k].toNat,by omega⟩
   have hul:hu<zs.length:=by omega
   have hsz:ZT zs r k=zO zs hu:=cw (by rw[Ae hk',hhu])
   obtain⟨z1,z2,z3⟩:=xP h.sz hul
   have hix:wK (tpI zs) (.int (hu:Int)) s'=.ok (.int (zO zs hu:Nat)) s':=by
    refine rO ?_
    rw[Ae hul]
    unfold zO at z1 ⊢
    rw[Aw,Ae hul]at z1 ⊢
    rw[z1];rfl
   refine⟨_,rfl,?_⟩
   rw[hhu]
   show (zW Φ T.gl [some (tpI zs),some (tpI r),some .none,some (.int (k:Nat)),some (.int (hu:Nat)),o5] _ s').post _
   rw[show r.length-k=r.length-(k+1)+1 by omega,List.range'_succ,BN]at hf
   generalize hlt:(Df (k+1) (r.length-(k+1))).flatMap (prs r.length)=later at hf
   refine zu.mpr (xV (fun rest2 e s''=>s''=s'∧(∃o5,e=[some (tpI zs),some (tpI r),some .none,some (.int (k:Nat)),some (.int (hu:Nat)),o5])∧∃j,1≤j∧j≤r.length∧rest2=yJ (j:Nat) (r.length-j)∧(((Df j (r.length-j)).map fun d=>(k,d))++later).find? (frP zs r)=frO zs r) (yJ ((1:Nat):Int) (r.length-1)) (s1:=s') (Z1 (i:=1) (j:=r.length) zK (uD rfl) (by omega) (by omega)) ⟨rfl,⟨_,rfl⟩,1,Ag _,by omega,rfl,hf⟩ ?_ ?_)
   . rintro x rest2 e s'' ⟨rfl,⟨o5,rfl⟩,j,hj1,hj,hr2,hf2⟩
     obtain⟨m,hm,rfl,hr3⟩:=tG hr2
     refine⟨_,rfl,?_⟩
     show (zW Φ T.gl [some (tpI zs),some (tpI r),some .none,some (.int (k:Nat)),some (.int (hu:Nat)),some (.int (j:Nat))] _ s'').post _
     have hw:=c r k j (zO zs hu) s'' hl hk' (by omega) z3
     rw[hm,List.range'_succ,AK,F3,List.find?_cons]at hf2
     have hP:frP zs r (k,j)=vS r k j (zO zs hu):=by rw[←hsz];rfl
     rw[hP]at hf2
     have tt:=yY (Φ:=Φ) (G:=T.gl) (env:=[some (tpI zs),some (tpI r),some .none,some (.int (k:Nat)),some (.int (hu:Nat)),some (.int (j:Nat))]) (x_call (f:="is_whole_round") (v:=0) (zA (zB (i:=1) rfl) (zA (zB (i:=3) rfl) (zA (zB (i:=5) rfl) (zA (vU (zB (i:=0) rfl) (zB (i:=4) rfl) hix) zD)))) hw) za
     cases hb:vS r k j (zO zs hu) with
     |true=>
      rw[hb]at hf2 tt
      refine rq tt (yT (yt (zA zK (zA (zB rfl) (zA (zB rfl) zD))) (show 3≤zU by decide)) ?_)
      have hf2:some (k,j)=frO zs r:=hf2
      rw[←hf2]
      exact ya (Z7 (some (k,j)))
     |false=>
      rw[hb]at hf2 tt
      exact vC tt (xy ⟨rfl,⟨_,rfl⟩,j+1,by omega,by omega,by rw[hr3];congr 1;omega,by rw[show r.length-(j+1)=m by omega];exact hf2⟩)
   . rintro e s'' ⟨rfl,⟨o5,rfl⟩,j,hj1,hj,hr2,hf2⟩
     have:=oY hr2
     rw[this,Gh,DO,DF]at hf2
     refine xy ⟨rfl,⟨_,_,_,rfl⟩,k+1,by omega,rfl,?_⟩
     rw[hlt];exact hf2
 . rintro e s' ⟨rfl,⟨o3,o4,o5,rfl⟩,k,hk,hr,hf⟩
   have hkl:k=r.length:=by
    refine Nat.le_antisymm hk (F2 fun hc=>?_)
    rw[BQ hc]at hr
    cases hr
   rw[hkl,Nat.sub_self,Gh,Gg]at hf
   have hf:none=frO zs r:=hf
   rw[←hf]
   exact yT zK (ya vf)
end
end M
end
section
namespace F61
open PySem M
noncomputable def yq:Fn:=⟨["_law_sizes","_law_ring","_law_due","_law_kept","_law_turn"],["_law_sizes","_law_ring"],false,(.cons (.asg 2 (.call "_law_wrong" 0 (.cons (.var 0) (.cons (.var 1) .nil)))) (.cons (.asg 3 (.blt .repr false (.cons (.tup (.cons (.var 0) (.cons (.var 1) .nil))) .nil))) (.cons (.forS (.nm 4) (.range1 (.lit (.int 2))) (.cons (.ifS (.val (.cmp .ne (.blt .repr false (.cons (.call "fits_round" 0 (.cons (.var 0) (.cons (.var 1) .nil))) .nil)) (.blt .repr false (.cons (.cmp .is (.var 2) (.lit .none)) .nil)))) (.cons (.ret (.lit (.bool false))) .nil) .nil) (.cons (.ifS (.val (.cmp .ne (.blt .repr false (.cons (.call "first_round_wrong" 0 (.cons (.var 0) (.cons (.var 1) .nil))) .nil)) (.blt .repr false (.cons (.var 2) .nil)))) (.cons (.ret (.lit (.bool false))) .nil) .nil) .nil))) (.cons (.ret (.cmp .eq (.blt .repr false (.cons (.tup (.cons (.var 0) (.cons (.var 1) .nil))) .nil)) (.var 3))) .nil))))⟩
noncomputable def yV:Fn:=⟨["_law_length","_law_size","_law_found","_law_first","_law_step","_law_places"],["_law_length","_law_size"],false,(.cons (.asg 2 (.lst true .nil)) (.cons (.forS (.nm 3) (.range1 (.var 0)) (.cons (.forS (.nm 4) (.range2 (.lit (.int 1)) (.var 0)) (.cons (.asg 5 (.comp false ["_law_k","_law_length","_law_first","_law_step"] [none,some 0,some 3,some 4] (.bin false .mod (.bin false .add (.var 2) (.bin false .mul (.var 0) (.var 3))) (.var 1)) (.nm 0) (.range1 (.var 1)) .nil)) (.cons (.ifS (.val (.cmp .eq (.listRange false (.lit .none) (.var 5) (.lit (.str ""))) (.var 1))) (.cons (.expr (.yx .append false (.var 2) (.cons (.tup (.cons (.var 3) (.cons (.var 4) (.cons (.var 5) .nil)))) .nil))) .nil) .nil) .nil))) .nil)) (.cons (.ret (.var 2)) .nil)))⟩
noncomputable def zg:Fn:=⟨["_law_sizes","_law_ring","_law_other","_law_found","_law_hue","_law_size","_law_first","_law_step","_law_places"],["_law_sizes","_law_ring"],false,(.cons (.asg 2 (.comp false ["_law_place","_law_hue","_law_sizes"] [none,none,some 0] (.var 0) (.nms [0,1]) (.enum (.var 1)) (.cons (.val (.cmp .ge (.var 1) (.blt .len false (.cons (.var 2) .nil)))) .nil))) (.cons (.ifS (.val (.cmp .ne (.var 2) (.lst false .nil))) (.cons (.ret (.tup (.cons (.lit (.str "hue")) (.cons (.ix (.var 2) (.lit (.int 0))) .nil)))) .nil) .nil) (.cons (.asg 3 (.lst true .nil)) (.cons (.forS (.nms [4,5]) (.enum (.var 0)) (.cons (.forS (.nms [6,7,8]) (.val (.call "_law_rounds" 0 (.cons (.blt .len false (.cons (.var 1) .nil)) (.cons (.var 5) .nil)))) (.cons (.ifS (.val (.cmp .eq (.comp false ["_law_place","_law_hue","_law_ring"] [none,some 4,some 1] (.var 0) (.nm 0) (.val (.var 8)) (.cons (.val (.cmp .ne (.ix (.var 2) (.var 0)) (.var 1))) .nil)) (.lst false .nil))) (.cons (.expr (.yx .append false (.var 3) (.cons (.tup (.cons (.lit (.str "round")) (.cons (.var 6) (.cons (.var 7) .nil)))) .nil))) .nil) .nil) .nil)) .nil)) (.cons (.ret (.ife (.val (.cmp .eq (.var 3) (.lst false .nil))) (.lit .none) (.blt .minS false (.cons (.var 3) .nil)))) .nil)))))⟩
end F61
end
section
namespace M
open PySem
section
variable {W:Str→Bool}{Φ:Calls}{Ψ:xg}{G:Str→Option Val}{env:Env}{s s1:Sto}
theorem Xg{c:Sm}{cs:Sms}{e:Env}(h:exS Φ G env c s=.ok (.nx e) s1):zW Φ G env (.cons c cs) s=zW Φ G e cs s1:=bnd h rfl
theorem vx{c:Sm}{cs:Sms}(h:exS Φ G env c s=.stuck):zW Φ G env (.cons c cs) s=.stuck:=by
 show (exS Φ G env c s).bind _=_
 rw[h];rfl
theorem Vt{c:Cn}{a b:Sms}(h:evT Φ G env c s=.ok true s1)(k:zW Φ G env a s1=.stuck):exS Φ G env (.ifS c a b) s=.stuck:=bnd h k
theorem sM{e:Ex}:exS Φ G env (.raise e) s=.stuck:=rfl
theorem eG{e:Ex}(h:evE Φ G env e s=.stuck):exS Φ G env (.expr e) s=.stuck:=by
 show (evE Φ G env e s).bind _=_
 rw[h];rfl
theorem aW{e:Ex}{v:Val}(h:evE Φ G env e s=.ok v s1):exS Φ G env (.expr e) s=.ok (.nx env) s1:=bnd h rfl
theorem Wk{c:Sm}{cs:Sms}{e:Env}(h:exS Φ G env c s=.ok (.nx e) s1):xSs W Φ Ψ G env (.cons c cs) s=xSs W Φ Ψ G e cs s1:=by simp only[xSs,h]
theorem uB{c:Sm}{cs:Sms}(h:exS Φ G env c s=.stuck):xSs W Φ Ψ G env (.cons c cs) s=xS W Φ Ψ G env c s:=by simp only[xSs,h]
theorem Uc{c:Cn}{a b:Sms}(h:evT Φ G env c s=.ok true s1):xS W Φ Ψ G env (.ifS c a b) s=xSs W Φ Ψ G env a s1:=by simp only[xS,h,if_true]
theorem d7{f:Str}{v:Nat}{es:Exs}{vs:List Val}(h:zi Φ G env es s=.ok vs s1):xS W Φ Ψ G env (.expr (.call f v es)) s=Ψ f v vs s1:=by simp only[xS,xE,h]
theorem jM{c:Str}{v:Nat}{es:Exs}{vs:List Val}(h:zi Φ G env es s=.ok vs s1)(k:(nZ vs&&W c)=true):xS W Φ Ψ G env (.raise (.call c v es)) s=some (c,vs,s1):=by
 simp only[xS,h]
 rw[if_pos k]
theorem wc{T:Tbl}{F:Fn}{vs:List Val}(hl:vs.length=F.ps.length)(h:zW Φ T.gl (zX F.N vs) F.body s=.stuck):run T Φ F vs s=.stuck:=by
 unfold run
 rw[if_pos hl,h];rfl
end
def Rz(Φ:Calls)(Ψ:xg)(f:Str)(vs:List Val)(s:Sto)(c:Str):Prop:=Φ f 0 vs s=.stuck∧∃as,Ψ f 0 vs s=some (c,as,s)
end M
end
section
namespace M
open PySem
theorem xa:∀{tb:List Str} {s:Sto},yS tb s=true↔∃r,s=tb.map Cel.tb++r
 |[],s=>⟨fun _=>⟨s,rfl⟩,fun _=>rfl⟩
 |x::tb,s=>by
  constructor
  . intro h
    cases s with
    |nil=>cases h
    |cons c r=>
     cases c with
     |tb y=>
      have h':(decide (x=y)&&yS tb r)=true:=h
      rw[Aa,decide_eq_true_eq]at h'
      obtain⟨r',e⟩:=xa.mp h'.2
      exact⟨r',by rw[h'.1,e];rfl⟩
     |_=>cases h
  . rintro ⟨r,rfl⟩
    show (decide (x=x)&&yS tb (tb.map Cel.tb++r))=true
    rw[decide_eq_true rfl,xa.mpr ⟨r,rfl⟩];rfl
theorem jU{tb:List Str}{s t:Sto}(h:yS tb s=true):yS tb (s++t)=true:=by
 obtain⟨r,rfl⟩:=xa.mp h
 exact xa.mpr ⟨r++t,Bi ..⟩
theorem ZW{tb:List Str}{s:Sto}{p:Nat}{c:Cel}(h:yS tb s=true)(hp:tb.length≤p):yS tb (s.set p c)=true:=by
 obtain⟨r,rfl⟩:=xa.mp h
 refine xa.mpr ⟨r.set (p-tb.length) c,?_⟩
 rw[List.set_append_right _ _ (by rw[Ai];exact hp),Ai]
theorem kB{tb:List Str}{s s':Sto}{p:Nat}(h:yS tb s=true)(hp:tb.length≤p)(t:vH s p s'):yS tb s'=true:=by
 obtain⟨a,b,c,d,rfl,_⟩:=t
 exact ZW h hp
theorem ZV{tb:List Str}{s:Sto}(h:yS tb s=true):tb.length≤s.length:=by
 obtain⟨r,rfl⟩:=xa.mp h
 rw[Ap,Ai];omega
theorem iJ{tb:List Str}{s:Sto}{v:Val}(hs:yS tb s=true)(h:v.noRef=true):zk false (tb.map Cel.tb) v s=.ok v (tb.map Cel.tb):=by
 obtain⟨r,rfl⟩:=xa.mp hs
 exact wm h
theorem pf{T:Tbl}{n:Nat}{f c w:Str}{vs:List Val}{s:Sto}(h:Rz (zE T n) (zq T n) f vs s c)(h1:T.fn f 101=none)(h2:T.md true=true)(h3:yS T.tb s=true)(h4:T.xc.lookup c=some w):zE T (n+1) f 101 vs s=.ok (.str w) s:=by
 obtain⟨a,as,b⟩:=h
 simp only[zE,h1,a,b,h2,h3,h4,cQ]
 rfl
def RzF(T:Tbl)(Φ:Calls)(Ψ:xg)(F:Fn)(vs:List Val)(s:Sto)(c:Str):Prop:=run T Φ F vs s=.stuck∧∃as,xSs (fun c=>(T.xc.lookup c).isSome) Φ Ψ T.gl (zX F.N vs) F.body s=some (c,as,s)
theorem RzF.up{T:Tbl}{n:Nat}{F:Fn}{f c:Str}{vs:List Val}{s:Sto}(h:RzF T (zE T n) (zq T n) F vs s c)(hf:T.fn f 0=some F)(hl:vs.length=F.ps.length):Rz (zE T (n+1)) (zq T (n+1)) f vs s c:=by
 obtain⟨a,as,b⟩:=h
 exact⟨by rw[zd hf];exact a,as,by rw[gh hf hl];exact b⟩
section
variable {T:Tbl}{Φ:Calls}{Ψ:xg}{s:Sto}
theorem jY{F:Fn}{f c:Str}{vs ws:List Val}{es:Exs}{cs:Sms}(hb:F.body=.cons (.expr (.call f 0 es)) cs)(hl:vs.length=F.ps.length)(he:zi Φ T.gl (zX F.N vs) es s=.ok ws s)(h:Rz Φ Ψ f ws s c):RzF T Φ Ψ F vs s c:=by
 obtain⟨a,as,b⟩:=h
 have hs:=eG (x_call he a)
 refine⟨wc hl (by rw[hb];exact vx hs),as,by rw[hb];exact(uB hs).trans ((d7 he).trans b)⟩
theorem mh{F:Fn}{f g c:Str}{vs ws ys:List Val}{es es2:Exs}{cs:Sms}{v:Val}(hb:F.body=.cons (.expr (.call f 0 es)) (.cons (.expr (.call g 0 es2)) cs))(hl:vs.length=F.ps.length)(he:zi Φ T.gl (zX F.N vs) es s=.ok ws s)(h1:Φ f 0 ws s=.ok v s)(he2:zi Φ T.gl (zX F.N vs) es2 s=.ok ys s)(h:Rz Φ Ψ g ys s c):RzF T Φ Ψ F vs s c:=by
 obtain⟨a,as,b⟩:=h
 have hs:=eG (x_call he2 a)
 have hn:=aW (x_call he h1)
 refine⟨wc hl (by rw[hb];exact(Xg hn).trans (vx hs)),as,by rw[hb];exact(Wk hn).trans ((uB hs).trans ((d7 he2).trans b))⟩
end
end M
end
section
namespace M
open PySem
structure Kds(v:Val):Prop where
 kd:kindOf v≠none
 el:∀vs,v=.tup vs→∀w∈vs,kindOf w≠none
noncomputable def tm(v:Val):Bool:=vR v&&(match v with|.tup []=>false|_=>true)
section
variable {T:Tbl}{Φ:Calls}{Ψ:xg}{s:Sto}
def pL(Φ:Calls):Prop:=∀(v:Val) (s:Sto),Kds v→Φ "is_strip" 0 [v] s=.ok (.bool (vR v)) s
theorem lr(g1:T.gl "MOST_PLACES"=some (.int 40))(g2:T.gl "HUES"=some (.ctup [0,1,2,3]))(c:pM Φ){v:Val}(hv:Kds v):run T Φ F.xA [v] s=.ok (.bool (vR v)) s:=by
 obtain⟨a,ha⟩:=oD hv.kd
 have i1:=pq (m:=false) (s:=s) ha (show vM "tuple"=some .tup from rfl)
 have end':∀{b:Bool},b=vR v→(zk false s (.bool b) s).post fun x t=>x=.bool (vR v)∧t=s:=fun{b} e=>by
  rw[xG xJ,e];exact zC.mpr ⟨rfl,rfl⟩
 rw[post_eq,F.xA,xM]
 refine⟨rfl,?_⟩
 show (zW Φ T.gl [some v] _ s).post _
 rcases eH ha with⟨vs,rfl⟩|hn
 . have e1:a=.tup:=by cases ha;rfl
   subst e1
   by_cases h4:vs.length≤40
   . exact yT (bM (yU (zA (zB rfl) (zA mV zD)) i1) (yN (yU (zA (zB rfl) zD) uU) (Zg g1) (by rw[le_int,decide_eq_true (by omega)])) (x_call (zA (zB rfl) (zA (vU (Zg g2) zK rfl) (zA (vU (Zg g2) (bN zK) rfl) zD))) (c vs 0 3 s (hv.el vs rfl)))) (end' (by show _=(decide (vs.length≤40)&&vs.all (yX 0 3));rw[decide_eq_true h4];rfl))
   . exact yT (bL (yU (zA (zB rfl) (zA mV zD)) i1) (yN (yU (zA (zB rfl) zD) uU) (Zg g1) (by rw[le_int,decide_eq_false (by omega)]))) (end' (by show _=(decide (vs.length≤40)&&vs.all (yX 0 3));rw[decide_eq_false h4];rfl))
 . rw[hn]at i1
   exact yT (kM (yU (zA (zB rfl) (zA mV zD)) i1)) (end' (cm fun vs e=>by rw[e]at ha;cases ha;cases hn).symm)
theorem rP(ns:List Int):Kds (tpI ns):=⟨nofun,fun vs e=>by cases e;exact iD⟩
theorem hU(c:pL Φ):qS Φ:=fun ns s h=>by rw[c _ s (rP ns),cn h]
def Zn(Φ:Calls)(Ψ:xg):Prop:=∀(v:Val) (s:Sto),Kds v→tm v=false→Rz Φ Ψ "need_ring" [v] s "NoRing"
theorem gX(c:pL Φ)(hW:(T.xc.lookup ("NoRing":Str)).isSome=true){v:Val}(hv:Kds v)(hr:tm v=false):RzF T Φ Ψ F66.yO [v] s "NoRing":=by
 have cs:=c v s hv
 have ht:evT Φ T.gl [some v] (.or (.not (.val (.call "is_strip" 0 (.cons (.var 0) .nil)))) (.cons (.val (.cmp .eq (.blt .len false (.cons (.var 0) .nil)) (.lit (.int 0)))) .nil)) s=.ok true s:=by
  cases hs:vR v with
  |false=>
   rw[hs]at cs
   exact U7 (mP (b:=false) (yY (x_call (zA (zB rfl) zD) cs) za))
  |true=>
   rw[hs]at cs
   have:v=.tup []:=by
    unfold tm at hr
    rw[hs,Bool.true_and]at hr
    split at hr
    . rfl
    . cases hr
   subst this
   exact U6 (mP (b:=true) (yY (x_call (zA (zB rfl) zD) cs) za)) (c9 (yY (yN (yU (zA (zB rfl) zD) uU) zK (show zQ .eq (.int (([]:List Val).length:Nat)) (.int 0) s=.ok (.bool true) s from rfl)) za))
 have hs:=Vt (b:=.nil) ht (vx (cs:=.nil) (sM (e:=.call "NoRing" 0 (.cons (.lit (.str "a strip with one place or more is due")) .nil))))
 refine⟨wc rfl (vx hs),_,(uB hs).trans ((Uc ht).trans ((uB sM).trans (jM (zA zK zD) ?_)))⟩
 rw[hW];rfl
end
end M
end
section
namespace M
open PySem
noncomputable def rdP(n z:Nat)(q:Nat × Nat):Bool:=decide (goN n q.1 q.2 z).Nodup
noncomputable def rdV(n z:Nat)(q:Nat × Nat):Val:=.tup [.int q.1,.int q.2,.lst ((wA (goN n q.1 q.2 z)).map .int)]
noncomputable def lb(n z:Nat):List (Nat × Nat):=(xW n).filter (rdP n z)
theorem V1(n z:Nat)(q:Nat × Nat):(rdV n z q).noRef=true:=by
 unfold rdV
 rw[tD,yE,yE,yE,wq,xq,xq,lJ,wI];rfl
theorem eh(n z:Nat):∀l:List (Nat × Nat),zh (l.map (rdV n z))=true
 |[]=>wq
 |q::l=>by rw[AK,yE,V1,eh n z l];rfl
section
variable {T:Tbl}{Φ:Calls}{s:Sto}
def ox(Φ:Calls):Prop:=∀(n z:Nat) (s:Sto),1≤n→n≤40→z≤8→Φ "_law_rounds" 0 [.int n,.int z] s=.ok (.lst ((lb n z).map (rdV n z))) s
theorem mG{n z:Nat}(hn1:1≤n)(hn:n≤40)(hz:z≤8):run T Φ F61.yV [.int n,.int z] s=.ok (.lst ((lb n z).map (rdV n z))) s:=by
 have hL:z≤zU:=Ax hz (by decide)
 rw[post_eq,F61.yV,xM]
 refine⟨rfl,?_⟩
 show (zW Φ T.gl [some (.int n),some (.int z),none,none,none,none] _ s).post _
 refine xX (v:=.ref s.length) (s1:=s++[.lst []]) (bnd zD rfl) ?_
 refine zu.mpr (xV (fun rest e s'=>∃i o3 o4 o5,i≤n∧rest=yJ i (n-i)∧e=[some (.int n),some (.int z),some (.ref s.length),o3,o4,o5]∧s'=s++[.lst ((((AE i).flatMap (prs n)).filter (rdP n z)).map (rdV n z))]) (yJ 0 n) (s1:=s++[.lst []]) (qo (zB rfl) (by unfold zU;omega)) ⟨0,_,_,_,by omega,rfl,rfl,rfl⟩ ?_ ?_)
 . rintro x rest e s' ⟨i,o3,o4,o5,hi,hr,rfl,rfl⟩
   obtain⟨k,hk,rfl,rfl⟩:=tG hr
   refine⟨_,rfl,?_⟩
   show (zW Φ T.gl [some (.int n),some (.int z),some (.ref s.length),some (.int (i:Nat)),o4,o5] _ _).post _
   generalize hA:(AE i).flatMap (prs n)=A
   have hAl:A.length≤i*n:=by
    rw[←hA]
    have:∀l:List Nat,(l.flatMap (prs n)).length≤l.length*n:=fun l=>by
     induction l with
     |nil=>rw[Gg,A7];omega
     |cons a l ih=>
      have e:(prs n a).length=n-1:=by unfold prs;rw[Ai,Fp]
      rw[BN,Ap,Ar,DN,e]
      omega
    have h:=this (AE i)
    rwa [BD]at h
   have hin:i*n≤40*40:=D1 (by omega) hn
   refine zu.mpr (xV (fun rest e s'=>∃j o4 o5,j≤n-1∧rest=yJ (1+(j:Int)) (n-1-j)∧e=[some (.int n),some (.int z),some (.ref s.length),some (.int i),o4,o5]∧s'=s++[.lst (((A++(Df 1 j).map fun d=>(i,d)).filter (rdP n z)).map (rdV n z))]) (yJ ((1:Nat):Int) (n-1)) (s1:=s++[.lst ((A.filter (rdP n z)).map (rdV n z))]) (Z1 (i:=1) zK (zB rfl) (by omega) (by omega)) ⟨0,_,_,by omega,rfl,rfl,by rw[Gh,DO,AY]⟩ ?_ ?_)
   . rintro x rest e s' ⟨j,o4,o5,hj,hr,rfl,rfl⟩
     obtain⟨k',hk',rfl,rfl⟩:=tG hr
     refine⟨[some (.int n),some (.int z),some (.ref s.length),some (.int i),some (.int (1+(j:Int))),o5],rfl,?_⟩
     rw[show (1:Int)+(j:Int)=((j+1:Nat):Int) by omega]
     generalize hd:j+1=d
     have eR:(A++(Df 1 d).map fun d=>(i,d))=(A++(Df 1 j).map fun d=>(i,d))++[(i,d)]:=by
      rw[←hd,List.range'_concat,Ci,←Bi,Nat.one_mul,Nat.add_comm 1 j];rfl
     generalize hB:(A++(Df 1 j).map fun d=>(i,d))=B at *
     have hBl:B.length≤2000:=by
      rw[←hB,Ap,Ai,Fp]
      omega
     have hFl:((B.filter (rdP n z)).map (rdV n z)).length≤2000:=by
      rw[Ai]
      exact Ax (B7 _ _) hBl
     have hg:(AE z).map (fun(t:Nat)=>((((i:Int)+(t:Int)*(d:Int))%(n:Int))))=wA (goN n i d z):=by
      unfold goN wA
      rw[C4]
      refine E2 fun t _=>?_
      show _=(((i+d*t)%n:Nat):Int)
      rw[Int.natCast_emod,Gx,Int.natCast_mul,Int.mul_comm]
     have hc:∀S:Sto,evE Φ T.gl [some (.int n),some (.int z),some (.ref s.length),some (.int i),some (.int (d:Nat)),o5] (.comp false ["_law_k","_law_length","_law_first","_law_step"] [none,some 0,some 3,some 4] (.bin false .mod (.bin false .add (.var 2) (.bin false .mul (.var 0) (.var 3))) (.var 1)) (.nm 0) (.range1 (.var 1)) .nil) S=.ok (.lst ((wA (goN n i d z)).map .int)) S:=fun S=>by
      rw[←hg]
      exact YS (n:=z) (f:=fun(t:Nat)=>((((i:Int)+(t:Int)*(d:Int))%(n:Int)))) (qo (zB rfl) hL) rfl (fun k o hk=>zc (zc (zB rfl) (zc (zB rfl) (zB rfl) (Zp (by omega))) sj) (zB rfl) (bmod (by omega))) hL
     refine xX (hc _) ?_
     show (zW Φ T.gl [some (.int n),some (.int z),some (.ref s.length),some (.int i),some (.int (d:Nat)),some (.lst ((wA (goN n i d z)).map .int))] _ _).post _
     have hq:∀S:Sto,zQ .eq (.int (L2.dN (wA (goN n i d z)):Nat)) (.int z) S=.ok (.bool (rdP n z (i,d))) S:=fun S=>by
      rw[eq_int]
      congr 2
      refine decide_eq_decide.mpr (Iff.trans ?_ (eZ (ls:=goN n i d z)))
      rw[←Zr,Ai,mz];omega
     have tt:∀S:Sto,evT Φ T.gl [some (.int n),some (.int z),some (.ref s.length),some (.int i),some (.int (d:Nat)),some (.lst ((wA (goN n i d z)).map .int))] (.val (.cmp .eq (.listRange false (.lit .none) (.var 5) (.lit (.str ""))) (.var 1))) S=.ok (rdP n z (i,d)) S:=fun S=>yY (yN (bnd zK (bnd (zB rfl) (bnd zK (Xp (by rw[Ai,mz];omega))))) (zB rfl) (hq S)) za
     have eF:(B++[(i,d)]).filter (rdP n z)=B.filter (rdP n z)++if rdP n z (i,d) then [(i,d)] else []:=by
      rw[C8]
      congr 1
      rw[Eu,Gy]
     cases hp:rdP n z (i,d) with
     |true=>
      have ht:=tt (s++[.lst ((B.filter (rdP n z)).map (rdV n z))])
      rw[hp]at ht
      refine rq ht (xZ (bnd (zB rfl) (bnd (zA (yt (zA (zB rfl) (zA (zB rfl) (zA (zB rfl) zD))) (show 3≤zU by decide)) zD) (vW (Nat.lt_of_le_of_lt hFl (by decide))))) (xy (xy ⟨j+1,_,_,by omega,by congr 1<;>omega,rfl,?_⟩)))
      rw[hd,eR,eF,hp,if_pos rfl,Ci];rfl
     |false=>
      have ht:=tt (s++[.lst ((B.filter (rdP n z)).map (rdV n z))])
      rw[hp]at ht
      refine vC ht (xy ⟨j+1,_,_,by omega,by congr 1<;>omega,rfl,?_⟩)
      rw[hd,eR,eF,hp,if_neg Am,AY]
   . rintro e s' ⟨j,o4,o5,hj,hr,rfl,rfl⟩
     have:=oY hr
     have hj:j=n-1:=by omega
     subst hj
     refine xy ⟨i+1,_,_,_,by omega,by congr 1<;>omega,rfl,?_⟩
     rw[EV,Ct,Ei,hA];rfl
 . rintro e s' ⟨i,o3,o4,o5,hi,hr,rfl,rfl⟩
   have:=oY hr
   have hi:i=n:=by omega
   subst hi
   refine yT (zB rfl) ?_
   show (zk false s _ _).post _
   rw[iH (eh _ _ _)]
   exact zC.mpr ⟨rfl,rfl⟩
end
end M
end
section
namespace M
open PySem
noncomputable def key(q:Nat × Nat):Nat:=q.1*100+q.2
noncomputable def v2(q:Nat × Nat):List Int:=[(q.1:Int),(q.2:Int)]
theorem TZ{a b:Nat × Nat}(ha:a.2<100)(hb:b.2<100):L2.wX (v2 a) (v2 b)=decide (key a<key b):=by
 show (if (a.1:Int)=b.1 then (if (a.2:Int)=b.2 then L2.wX [] [] else decide ((a.2:Int)<b.2)) else decide ((a.1:Int)<b.1))=_
 unfold key
 split
 . split
   . rw[decide_eq_false (by omega)];rfl
   . exact decide_eq_decide.mpr (by omega)
 . exact decide_eq_decide.mpr (by omega)
theorem eW:∀(L:List (Nat × Nat)) (m:Nat × Nat),(∀q∈m::L,q.2<100)→∃q∈m::L,(L.map v2).foldl (fun m y=>if L2.wX y m then y else m) (v2 m)=v2 q∧∀p∈m::L,key q≤key p
 |[],m,_=>⟨m,.head _,rfl,fun p hp=>by rw[Aq.mp hp];exact Ag _⟩
 |y::L,m,h=>by
  have hm:=h m (.head _)
  have hy:=h y (.tail _ (.head _))
  rw[AK,Gu,TZ hy hm]
  by_cases hk:key y<key m
  . rw[decide_eq_true hk,if_pos rfl]
    obtain⟨q,h1,h2,h3⟩:=eW L y fun p hp=>h p (.tail _ hp)
    refine⟨q,.tail _ h1,h2,fun p hp=>?_⟩
    rcases Ak.mp hp with rfl|hp
    . have:=h3 y (.head _);omega
    . exact h3 p hp
  . rw[decide_eq_false hk,if_neg Am]
    obtain⟨q,h1,h2,h3⟩:=eW L m fun p hp=>h p (by
     rcases Ak.mp hp with rfl|hp
     . exact .head _
     . exact .tail _ (.tail _ hp))
    refine⟨q,?_,h2,fun p hp=>?_⟩
    . rcases Ak.mp h1 with rfl|h1
      . exact .head _
      . exact .tail _ (.tail _ h1)
    . rcases Ak.mp hp with rfl|hp
      . exact h3 p (.head _)
      . rcases Ak.mp hp with rfl|hp
        . have:=h3 m (.head _);omega
        . exact h3 p (.tail _ hp)
theorem Wf{n f:Nat}:(prs n f).Pairwise (fun a b=>key a<key b):=by
 unfold prs
 rw[Ck]
 refine Ed ?_ (List.pairwise_lt_range' (s:=1) (n:=n-1) (step:=1))
 intro a b h
 show f*100+a<f*100+b
 omega
theorem dQ{n:Nat}(hn:n≤100):(xW n).Pairwise (fun a b=>key a<key b):=by
 unfold xW
 rw[ED]
 refine⟨fun a _=>Wf,Ed (fun{a b} (hab:a<b) x hx y hy=>?_) (De (n:=n))⟩
 obtain⟨h1,h2,h3⟩:=sO.mp hx
 obtain⟨g1,g2,g3⟩:=sO.mp hy
 show x.1*100+x.2<y.1*100+y.2
 omega
theorem fE{n:Nat}(hn:n≤100){P:Nat × Nat→Bool}{L:List (Nat × Nat)}(hL:∀q,q∈L↔q∈xW n∧P q=true):((xW n).find? P=none∧L=[])∨∃q,(xW n).find? P=some q∧L≠[]∧L2.oE (L.map v2)=v2 q:=by
 cases hf:(xW n).find? P with
 |none=>
  refine .inl ⟨rfl,List.eq_nil_iff_forall_not_mem.mpr fun q hq=>?_⟩
  obtain⟨h1,h2⟩:=(hL q).mp hq
  exact List.find?_eq_none.mp hf q h1 h2
 |some q0=>
  obtain⟨h1,as,bs,h2,h3⟩:=List.find?_eq_some_iff_append.mp hf
  have hq0:q0∈L:=(hL q0).mpr ⟨by rw[h2];exact AU _ (.head _),h1⟩
  refine .inr ⟨q0,rfl,List.ne_nil_of_mem hq0,?_⟩
  have hb:∀q∈L,q.2<100:=fun q hq=>by
   obtain⟨_,_,h⟩:=vd.mp ((hL (q.1,q.2)).mp hq).1
   omega
  cases L with
  |nil=>cases hq0
  |cons m L=>
   obtain⟨q,k1,k2,k3⟩:=eW L m hb
   have e:L2.oE ((m::L).map v2)=v2 q:=k2
   rw[e]
   obtain⟨g1,g2⟩:=(hL q).mp k1
   rw[h2]at g1
   rcases AN.mp g1 with g|g
   . have:=h3 q g
     rw[g2]at this;cases this
   . rcases Ak.mp g with rfl|g
     . rfl
     . have up:=dQ hn
       rw[h2]at up
       have:=(List.pairwise_cons.mp (List.pairwise_append.mp up).2.1).1 q g
       have:=k3 q0 hq0
       omega
noncomputable def wR(r:List Int)(h:Nat)(z:Nat)(q:Nat × Nat):Bool:=(goN r.length q.1 q.2 z).all fun p=>decide (r[p]?=some (h:Int))
noncomputable def fH(zs r:List Int)(h:Nat):List (Nat × Nat):=(lb r.length (zO zs h)).filter (wR r h (zO zs h))
noncomputable def jv(zs r:List Int):List (Nat × Nat):=(AE zs.length).flatMap (fH zs r)
theorem aZ{zs r:List Int}(h:RgZ zs r)(q:Nat × Nat):q∈jv zs r↔q∈xW r.length∧frP zs r q=true:=by
 have key:∀(k:Nat),k<zs.length→q.1<r.length→(decide (goN r.length q.1 q.2 (zO zs k)).Nodup=true∧wR r k (zO zs k) q=true↔r[q.1]?=some (k:Int)∧frP zs r q=true):=fun k hk hq=>by
  obtain⟨z1,z2,z3⟩:=xP h.sz hk
  have hmem:q.1∈goN r.length q.1 q.2 (zO zs k):=Bh.mpr ⟨0,AW.mpr (by omega),by rw[Nat.mul_zero,Nat.add_zero,Nat.mod_eq_of_lt hq]⟩
  constructor
  . rintro ⟨a,b⟩
    have b':=AI.mp b
    have hf:r[q.1]?=some (k:Int):=of_decide_eq_true (b' _ hmem)
    refine⟨hf,?_⟩
    unfold frP vS
    rw[cw hf,Aa]
    refine⟨AI.mpr fun p hp=>decide_eq_true ?_,a⟩
    rw[of_decide_eq_true (b' p hp),hf]
  . rintro ⟨hf,hp⟩
    unfold frP vS at hp
    rw[cw hf,Aa]at hp
    refine⟨hp.2,AI.mpr fun p hpm=>decide_eq_true ?_⟩
    rw[of_decide_eq_true (AI.mp hp.1 p hpm),hf]
 unfold jv
 rw[Du]
 constructor
 . rintro ⟨k,hk,hq⟩
   obtain⟨h1,h2⟩:=BX.mp hq
   obtain⟨h3,h4⟩:=BX.mp h1
   have h5:q.1<r.length:=(vd.mp (show (q.1,q.2)∈_ from h3)).1
   exact⟨h3,((key k (AW.mp hk) h5).mp ⟨h4,h2⟩).2⟩
 . rintro ⟨h1,h2⟩
   have h5:q.1<r.length:=(vd.mp (show (q.1,q.2)∈_ from h1)).1
   obtain⟨g1,g2⟩:=h.hue r[q.1] (B2 h5)
   obtain⟨k,hk⟩:∃k:Nat,r[q.1]=k:=⟨r[q.1].toNat,by omega⟩
   have hf:r[q.1]?=some (k:Int):=by rw[Ae h5,hk]
   obtain⟨a,b⟩:=(key k (by omega) h5).mpr ⟨hf,h2⟩
   exact⟨k,AW.mpr (by omega),BX.mpr ⟨BX.mpr ⟨h1,a⟩,b⟩⟩
theorem ql:∀{vs:List Val} {k n:Nat} {v:Val},vs[k]?=some v→Val.tup [.int ((n+k:Nat):Int),v]∈zr n vs
 |[],_,_,_,h=>by simp at h
 |w::vs,0,n,v,h=>by
  have:w=v:=by simpa using h
  rw[this];exact .head _
 |w::vs,k+1,n,v,h=>by
  have:=ql (vs:=vs) (k:=k) (n:=n+1) (v:=v) (by simpa using h)
  rw[show n+(k+1)=n+1+k by omega]
  exact .tail _ this
noncomputable def wC(zs r:List Int):Val:=match tN zs r with
 |v::_=>.tup [.str "hue",v]
 |[]=>frV (frO zs r)
theorem fR{zs r:List Int}(h:Sz zs)(hr:Rg r)(he:tN zs r=[]):RgZ zs r:=by
 refine⟨h,hr,fun x hx=>⟨(hr.strip.2 x hx).1,?_⟩⟩
 obtain⟨k,hk,e⟩:=Bu hx
 have e2:r[k]?=some x:=by rw[Ae hk,e]
 have hm:Val.tup [.int (k:Nat),.int x]∈zr 0 (r.map .int):=by
  have:=ql (vs:=r.map .int) (k:=k) (n:=0) (v:=.int x) (by rw[AQ,e2];rfl)
  rwa [Dm]at this
 have:=Gp.mp he _ hm
 have this:(if (zs.length:Int)≤x then [Val.int (k:Nat)] else [])=[]:=this
 by_cases hn:(zs.length:Int)≤x
 . rw[if_pos hn]at this;cases this
 . omega
theorem ek{zs r:List Int}:(wC zs r).noRef=true:=by
 unfold wC
 split
 . rename_i v l e
   obtain⟨k,rfl,_⟩:=sU (zs:=zs) (ns:=r) (v:=v) (by rw[e];exact .head _)
   rw[tD,yE,yE,wq,rZ,xq];rfl
 . exact Z7 _
section
variable {T:Tbl}{Φ:Calls}{Ψ:xg}{G:Str→Option Val}{s:Sto}
theorem gW(c:pK Φ):qR Φ:=fun zs s h=>by
 rw[c _ s (rP zs).kd (rP zs).el]
 show Out.ok (Val.bool (decide (1≤(zs.map Val.int).length)&&decide ((zs.map Val.int).length≤4)&&(zs.map Val.int).all (yX 2 8))) s=_
 rw[Ai,decide_eq_true h.1,decide_eq_true h.2.1,sg h.2.2];rfl
def gT(Φ:Calls)(Ψ:xg):Prop:=∀(v:Val) (s:Sto),Kds v→yk v=false→Rz Φ Ψ "need_sizes" [v] s "NoSizes"
theorem jZ(c:pK Φ)(hW:(T.xc.lookup ("NoSizes":Str)).isSome=true){v:Val}(hv:Kds v)(hr:yk v=false):RzF T Φ Ψ F.yB [v] s "NoSizes":=by
 have cs:=c v s hv.kd hv.el
 rw[hr]at cs
 have ht:evT Φ T.gl [some v] (.not (.val (.call "are_sizes" 0 (.cons (.var 0) .nil)))) s=.ok true s:=mP (b:=false) (yY (x_call (zA (zB rfl) zD) cs) za)
 have hs:=Vt (b:=.nil) ht (vx (cs:=.nil) (sM (e:=.call "NoSizes" 0 (.cons (.lit (.str "one to four sizes are due")) .nil))))
 refine⟨wc rfl (vx hs),_,(uB hs).trans ((Uc ht).trans ((uB sM).trans (jM (zA zK zD) ?_)))⟩
 rw[hW];rfl
structure XFR(f:Str)(Φ:Calls)(Ψ:xg):Prop where
 a:∀(v w:Val) (s:Sto),Kds v→yk v=false→Rz Φ Ψ f [v,w] s "NoSizes"
 b:∀(zs:List Int) (w:Val) (s:Sto),Sz zs→Kds w→tm w=false→Rz Φ Ψ f [tpI zs,w] s "NoRing"
theorem bV(cX:gT Φ Ψ){v w:Val}(hv:Kds v)(hr:yk v=false):RzF T Φ Ψ F66.zL [v,w] s "NoSizes":=jY (F:=F66.zL) rfl rfl (zA (zB rfl) zD) (cX v s hv hr)
theorem bW(c1:we Φ)(cX:Zn Φ Ψ){zs:List Int}{w:Val}(h:Sz zs)(hw:Kds w)(hr:tm w=false):RzF T Φ Ψ F66.zL [tpI zs,w] s "NoRing":=mh (F:=F66.zL) rfl rfl (zA (zB rfl) zD) (c1 zs s h) (zA (zB rfl) zD) (cX w s hw hr)
theorem nB{v w:Val}{c:Str}(h:Rz Φ Ψ "first_round_wrong" [v,w] s c):RzF T Φ Ψ F66.zw [v,w] s c:=by
 obtain⟨a,as,b⟩:=h
 have he:zi Φ T.gl [some v,some w] (.cons (.var 0) (.cons (.var 1) .nil)) s=.ok [v,w] s:=zA (zB rfl) (zA (zB rfl) zD)
 have h1:evE Φ T.gl [some v,some w] (.call "first_round_wrong" 0 (.cons (.var 0) (.cons (.var 1) .nil))) s=.stuck:=x_call he a
 have hs:exS Φ T.gl [some v,some w] (.ret (.cmp .is (.call "first_round_wrong" 0 (.cons (.var 0) (.cons (.var 1) .nil))) (.lit .none))) s=.stuck:=by
  show ((evE Φ T.gl [some v,some w] (.call "first_round_wrong" 0 (.cons (.var 0) (.cons (.var 1) .nil))) s).bind _).bind _=_
  rw[h1];rfl
 refine⟨wc rfl (vx hs),as,(uB hs).trans ?_⟩
 simp only[xS,xE,he]
 exact b
def sV(Φ:Calls):Prop:=∀(zs r:List Int) (s:Sto),Sz zs→Rg r→Φ "first_round_wrong" 0 [tpI zs,tpI r] s=.ok (wC zs r) s
theorem mF(c1:we Φ)(c2:uv Φ)(c3:mY Φ)(c:sW Φ){zs r:List Int}(hz:Sz zs)(hr:Rg r):run T Φ F66.zL [tpI zs,tpI r] s=.ok (wC zs r) s:=by
 cases hs:tN zs r with
 |nil=>
  have:wC zs r=frV (frO zs r):=by unfold wC;rw[hs]
  rw[this]
  exact lj c1 c2 c3 c (fR hz hr hs)
 |cons v l=>
  have hv:wC zs r=.tup [.str "hue",v]:=by unfold wC;rw[hs]
  obtain⟨k,rfl,_⟩:=sU (zs:=zs) (ns:=r) (v:=v) (by rw[hs];exact .head _)
  have ch:=c3 zs r s
  rw[show qJ zs r=.int (k:Nat) by unfold qJ;rw[hs]]at ch
  have hn:=ek (zs:=zs) (r:=r)
  rw[hv]at hn ⊢
  rw[post_eq,F66.zL,xM]
  refine⟨rfl,?_⟩
  show (zW Φ T.gl [some (tpI zs),some (tpI r),none,none,none,none] _ s).post _
  refine xZ (x_call (zA (zB rfl) zD) (c1 zs s hz)) (xZ (x_call (zA (zB rfl) zD) (c2 r s hr)) (xX (x_call (zA (zB rfl) (zA (zB rfl) zD)) ch) ?_))
  show (zW Φ T.gl [some (tpI zs),some (tpI r),some (.int (k:Nat)),none,none,none] _ s).post _
  exact rq (yY (yN (zB rfl) zK (show zQ .isNot (.int (k:Nat)) .none s=.ok (.bool true) s from rfl)) za) (yT (yt (zA zK (zA (zB rfl) zD)) (show 2≤zU by decide)) (ya hn))
def kQ(Φ:Calls):Prop:=∀(zs r:List Int) (s:Sto),Sz zs→Rg r→Φ "fits_round" 0 [tpI zs,tpI r] s=.ok (.bool (wC zs r).isN) s
theorem ll(c:sV Φ){zs r:List Int}(hz:Sz zs)(hr:Rg r):run T Φ F66.zw [tpI zs,tpI r] s=.ok (.bool (wC zs r).isN) s:=by
 rw[post_eq,F66.zw,xM]
 refine⟨rfl,?_⟩
 show (zW Φ T.gl [some (tpI zs),some (tpI r)] _ s).post _
 exact yT (yN (x_call (zA (zB rfl) (zA (zB rfl) zD)) (c zs r s hz hr)) zK rfl) (ya xJ)
end
end M
end
section
namespace M
open PySem Hd
noncomputable def fL(h:Heap)(a:Addr):Option Obj:=(h.get? a).bind fun o=>if y0 o then none else some o
theorem bz{h:Heap}{a:Addr}{o:Obj}(e:h.get? a=some o)(n:y0 o=false):fL h a=some o:=by unfold fL;rw[e];show (if y0 o=true then none else some o)=some o;rw[n];rfl
theorem kj{h:Heap}{a:Addr}{o:Obj}(e:fL h a=some o):h.get? a=some o∧y0 o=false:=by
 unfold fL at e
 obtain⟨o',e1,e2⟩:=D5.mp e
 split at e2
 . cases e2
 . rename_i z
   cases e2
   exact⟨e1,by simpa using z⟩
noncomputable def zt(h:Heap):KF:=(AE h.objs.size).filterMap fun a=>(fL h a).map fun o=>(a,o)
theorem sN{g:Addr→Option Obj}{a:Addr}:∀{l:List Addr},a∈l→(l.filterMap fun b=>(g b).map fun o=>(b,o)).lookup a=g a
 |b::r,hm=>by
  rw[A3]
  by_cases e:a=b
  . subst e
    cases hg:g a with
    |none=>
     show (r.filterMap _).lookup a=none
     by_cases m:a∈r
     . rw[sN m,hg]
     . exact Gn.mpr fun p hp=>by
        obtain⟨c,hc,e⟩:=BS.mp hp
        obtain⟨o,_,rfl⟩:=A5.mp e
        have z:a≠c:=fun z=>m (by rw[z];exact hc)
        simpa using z
    |some o=>show (List.lookup a ((a,o)::_))=_;rw[Au,beq_self_eq_true]
  . have m:a∈r:=(Ak.mp hm).resolve_left e
    cases hg:g b with
    |none=>exact sN m
    |some o=>
     show (List.lookup a ((b,o)::_))=_
     rw[Au,beq_false_of_ne e]
     exact sN m
theorem zx{h:Heap}{a:Addr}(o:Obj)(e:h.get? a=some o)(n:y0 o=false):(zt h).lookup a=some o:=by
 rw[←bz e n]
 exact sN (AW.mpr (An e))
theorem uP{h:Heap}:(zt h).In h:=fun a o e=>by
 obtain⟨c,_,e⟩:=BS.mp (xU e)
 obtain⟨o',e1,e2⟩:=A5.mp e
 cases e2
 exact(kj e1).1
theorem jw{h:Heap}{a:Addr}{o:Obj}(e:(zt h).lookup a=some o):y0 o=false:=by
 obtain⟨c,_,e⟩:=BS.mp (xU e)
 obtain⟨o',e1,e2⟩:=A5.mp e
 cases e2
 exact(kj e1).2
theorem tE{h:Heap}{x:Str}{v:Option Value}(e:nsH h x=some v):BE (zt h) AL x=some v:=by
 unfold nsH at e
 split at e
 . rename_i o ho
   have hn:y0 o=false:=by
    unfold BE at e
    rw[Au,beq_self_eq_true]at e
    dsimp only at e
    split at e
    . rename_i hd;cases hd;unfold y0;simp
    . cases e
   unfold BE at e ⊢
   rw[zx o ho hn]
   rw[Au,beq_self_eq_true]at e
   exact e
 . cases e
theorem gy{h:Heap}{cd:Value}{x:Str}(e:gx h cd x=true):BW (zt h) cd x=true:=by
 unfold gx at e
 split at e
 . split at e
   . rename_i c o ho
     rw[Aa,AX]at e
     obtain⟨hn,e⟩:=e
     unfold BW at e ⊢
     dsimp only at e ⊢
     rw[Au,beq_self_eq_true]at e
     rw[zx o ho hn]
     exact e
   . cases e
 . cases e
theorem args_eq(st:Stmt):args st=L2.xI st∧body st=L2.yR st∧scope st=L2.zG st:=by cases st<;>exact⟨rfl,rfl,rfl⟩
theorem Yp{h:Heap}{p:Str × Stmt}(e:ag h p.1=Zf p):tS (zt h) p.1 p.2:=by
 obtain⟨a1,a2,a3⟩:=args_eq p.2
 unfold Zf at e
 rw[a1,a2,a3]at e
 unfold ag at e
 split at e
 . rename_i f hf
   split at e
   . rename_i oc od fd osl ho
     split at e
     . rename_i hc
       have e':=AF e
       obtain⟨n,q,ps,b,sc,g,cl,df,kw,dc,pm,an,cd,ct,bl⟩:=fd
       injection e' with e1 e2 e3 e4 e5 e6 e7 e8 _ _ _ _ _ _ e9
       subst e1 e2 e3 e4 e5 e6 e7 e8 e9
       exact Yo (tE hf) (zx _ ho (by unfold y0;simp)) (gy hc) (by unfold Cu;dsimp only;rw[zx _ ho (by unfold y0;simp)])
     . cases e
   . cases e
 . cases e
noncomputable def gv:G→Val
 |.int i=>.int i
 |.str x=>.str x
 |.ctup ns=>.ctup ns
theorem VY{h:Heap}{x:Str}{v:G}(e:glB h x v=true):jX (zt h) x (gv v):=by
 cases v with
 |int i=>
  unfold glB at e;dsimp only at e
  split at e
  . rename_i hn;have:=of_decide_eq_true e;subst this;exact int_mk (tE hn)
  . cases e
 |str y=>
  unfold glB at e;dsimp only at e
  split at e
  . rename_i hn;have:=of_decide_eq_true e;subst this;exact str_mk (tE hn)
  . cases e
 |ctup ns=>
  unfold glB at e;dsimp only at e
  split at e
  . rename_i hn
    split at e
    . rename_i n od us k sl ho
      obtain⟨e1,e3⟩:=EW.mp e
      obtain⟨e1,e2⟩:=EW.mp e1
      have:=of_decide_eq_true e1;subst this
      exact bc (us:=us.toList) (tE hn) (zx _ ho rfl) (of_decide_eq_true e2) (of_decide_eq_true e3)
    . cases e
  . cases e
theorem Zo{h:Heap}{x:Str}(e:blB h x=true):BE (zt h) AL x=some none:=by
 unfold blB at e
 split at e
 . rename_i hn;exact tE hn
 . cases e
theorem kf{h:Heap}:∀{D:List (Str × Stmt)},(D.map fun p=>ag h p.1)=D.map Zf→∀p∈D,tS (zt h) p.1 p.2
 |p::D,e,q,hq=>by
  rw[AK,AK]at e
  obtain⟨e1,e2⟩:=DA e
  rcases Ak.mp hq with rfl|hq
  . exact Yp e1
  . exact kf e2 q hq
end M
end
section
namespace M
open PySem Hd PySem.W
noncomputable def scB(N ps:List Str)(sc:Scope):Bool:=decide (sc.kind=.function)&&!sc.isCoroutine&&!sc.isGenerator&&decide N.Nodup&&decide (N.take ps.length=ps)&&ps.all (fun x=>decide (sc.names.lookup x=some .local)||decide (sc.names.lookup x=some .cell))&&sc.names.all (fun y=>decide (y.2≠.free))
theorem cV{N ps:List Str}{sc:Scope}(h:scB N ps sc=true):L2.wD N ps sc:=by
 unfold scB at h
 simp only[Aa,decide_eq_true_eq,AX,AI,AO]at h
 obtain⟨⟨⟨⟨⟨⟨h1,h2⟩,h3⟩,h4⟩,h5⟩,h6⟩,h7⟩:=h
 exact⟨h1,h2,h3,h4,h5,h6,h7⟩
noncomputable def lkB(sc:Scope)(l:List (Str × Bl)):Bool:=l.all fun p=>decide (sc.names.lookup p.1=some p.2)
structure ma(st:Stmt)(cs ws:List Str)(pre:Option Str):Prop where
 args:argNames (L2.xI st)=some [("_law_e":Str)]
 scp:scB L2.kN ["_law_e"] (L2.zG st)=true
 sh:L2.gO (L2.zG st) cs ws pre (L2.yR st)
 lk:lkB (L2.zG st) [("_law_e",.local),("_law_marks",.local),("_law_words",.local),("isinstance",.globalImplicit),("ValueError",.globalImplicit)]=true
structure pO(m:Bool)(kx:Str)(st:Stmt):Prop where
 args:argNames (L2.xI st)=some [("_law_call":Str)]
 scp:scB (L2.xN m) ["_law_call"] (L2.zG st)=true
 sh:L2.gQ m kx (L2.yR st)
 lk:lkB (L2.zG st) ((("_law_call":Str),GI)::(("_law_e":Str),GI)::(("HueError":Str),D9)::(kx,D9)::if m then [] else [(("_law_word":Str),GI)])=true
noncomputable def wsB(cs ws:List Str)(pre:Option Str):Bool:=decide cs.Nodup&&decide (cs.length≤100)&&decide (ws.length≤100)&&ws.all (fun w=>decide (w.length≤100))&&(match pre with|none=>true|some x=>decide (x.length≤100))
noncomputable def xcB(rz cs ws:List Str)(pre:Option Str)(xc:List (Str × Str)):Bool:=xc.all fun p=>decide (p.1∈rz)&&(AE cs.length).any fun i=>decide (cs[i]?=some p.1)&&(match ws[i]? with|some x=>decide (p.2=L2.ans pre x)|none=>false)&&decide (p.2≠"great")
noncomputable def dB(q:Program)(c:Str):Bool:=(PyProof.Rows.ownsOf q).any fun o=>decide (o.name=c)&&(o.bm == Hd.veM)&&(o.newId == "ValueError.__new__")
section
variable {h0 h:Heap}{mg:Str→Option Value}
theorem gU{x:Str}{a:Addr}(e:adH h0 x=some a):nsIn (zt h0) AL x=some (some (.ref a)):=by
 unfold adH at e
 split at e
 . rename_i hn;cases e;exact tE hn
 . cases e
theorem gu{x:Str}{p:Addr × Obj}(hm:p∈Yk h0 x):h0.get? p.1=some p.2∧y0 p.2=false:=by
 unfold Yk at hm
 split at hm
 . split at hm
   . rename_i a o ho
     split at hm
     . rename_i cd hcd
       rcases Ak.mp hm with z|z
       . subst z
         refine⟨ho,?_⟩
         unfold y0
         rw[hcd];simp
       . split at z
         . rename_i n hn
           split at z
           . cases z
           . rename_i hz
             rw[Aq]at z
             subst z
             exact⟨hn,by simpa using hz⟩
         . cases z
     . cases hm
   . cases hm
 . cases hm
theorem ku{p:Addr × Obj}:∀{xs:List Str},p∈kcH h0 xs→h0.get? p.1=some p.2∧y0 p.2=false
 |[],hm=>by cases hm
 |x::xs,hm=>by
  rcases AN.mp hm with z|z
  . exact gu z
  . exact ku z
theorem ky{xs:List Str}:L2.qF (kcH h0 xs) (zt h0):=fun a o e=>by
 obtain⟨e1,e2⟩:=ku (xU e)
 exact zx o e1 e2
theorem Zh{K:KF}{C:Addr}(h:bP K C=true):L2.sX K C:=by
 unfold bP at h
 simp only[Aa,beq_iff_eq]at h
 obtain⟨⟨⟨⟨⟨h1,h2⟩,h3⟩,h4⟩,h5⟩,h6⟩:=h
 exact⟨h1,h2,h3,h4,h5,h6⟩
theorem nH{q:Program}{loose:List Str}{mean:ExcName→Option Value}{mb:Str→Option Value}{c:Str}{C:Addr}{bm:List Value}{base:Heap}(T:Gi q loose mean mg mb h)(KX:(zt h0).In h)(KB:(zt h0).In base)(ho:dB q c=true)(hm:mg c=some (.ref C))(hb:eY h0 C bm=true):L2.ClsAt base C bm:=by
 unfold dB at ho
 rw[BU]at ho
 obtain⟨o,hmem,ho⟩:=ho
 simp only[Aa,decide_eq_true_eq,beq_iff_eq]at ho
 obtain⟨⟨o1,o2⟩,o3⟩:=ho
 obtain⟨C',O,_⟩:=T.own o hmem
 have hb':=O.bound
 rw[o1,hm]at hb'
 cases hb'
 obtain⟨bm',N,nm,qq,bs,hdct,sn,sub,ab,col,dd,k0,k1,k2,k3,k5,mN,hC,hN,hq,_⟩:=O.obj
 rw[o3]at hC
 unfold eY at hb
 split at hb
 . rename_i ob hob
   split at hb
   . rename_i cd hcd
     rw[Aa,beq_iff_eq]at hb
     obtain⟨hb1,hb2⟩:=hb
     have hk:=zx ob hob (by unfold y0;rw[hcd];simp)
     have e1:=KX _ _ hk
     rw[hC]at e1
     cases e1
     cases hcd
     obtain⟨_,rfl⟩:=DA hb1
     split at hb2
     . rename_i n hn
       have hkN:=zx n hn (by simpa using hb2)
       obtain⟨on,es,ep,f1,f2,f3⟩:=hN
       rw[KX _ _ hkN]at f1
       cases f1
       exact⟨nm,qq,N,bs,hdct,sn,sub,ab,col,dd,k0,k1,k2,k3,k5,mN,KB _ _ hk,⟨n,es,ep,KB _ _ hkN,f2,f3⟩,hq _ (.head _)⟩
     . cases hb2
   . cases hb
 . cases hb
theorem Uq{q:Program}{loose:List Str}{mean:ExcName→Option Value}{mb:Str→Option Value}{X:XT}{T:Tbl}{kx:Str}{ws:List Str}{pre:Option Str}{kst:Stmt}(sst:Bool→Stmt)(TT:Gi q loose mean mg mb h)(KX:(zt h0).In h)(ob:oI X h0=true)
 (hD:tS (zt h0) kx kst) (hS:∀b,T.md b=true→tS (zt h0) (L2.yl b) (sst b)∧pO b kx (sst b)) (hK:ma kst X.cs ws pre) (hb:∀x∈xh,nsIn (zt h0) AL x=some none) (hkd:(kx == ("__debug__":Str))=false)
 (hws:wsB X.cs ws pre=true) (hxc:xcB X.rz X.cs ws pre T.xc=true) (m5:((("HueError":Str))::X.rz).all (fun c=>dB q c)=true):Sc T (zt h0) mg:=by
 unfold oI at ob
 split at ob
 . cases ob
 . rename_i hue hhue
   simp only[Aa,AI,decide_eq_true_eq]at ob
   obtain⟨⟨⟨⟨⟨x1,x2⟩,x3⟩,x4⟩,x5⟩,x6⟩:=ob
   have mghue:=mg_of KX TT.g (gU hhue)
   have adm:∀c a,adH h0 c=some a→mg c=some (.ref a):=fun c a e=>mg_of KX TT.g (gU e)
   simp only[wsB,Aa,decide_eq_true_eq,AI]at hws
   obtain⟨⟨⟨⟨w1,w2⟩,w3⟩,w4⟩,w5⟩:=hws
   have lkk:∀{sc:Scope} {l:List (Str × Bl)} {x:Str} {k:Bl},lkB sc l=true→(x,k)∈l→sc.names.lookup x=some k:=fun{sc l x k} hh hm=>of_decide_eq_true (AI.mp hh _ hm)
   have KFn:L2.pN (zt h0) mg kx X.cs ws pre:=by
    obtain⟨f,fd,a1,a2⟩:=hD
    refine⟨⟨kst,f,fd,mg_of KX TT.g a1,a2,cV hK.scp,a2.binds fun kV doc pm an cdv ct us hl=>uK hK.args (by decide) us hl,hK.sh,lkk hK.lk (by simp),lkk hK.lk (by simp),lkk hK.lk (by simp),lkk hK.lk (by simp),lkk hK.lk (by simp)⟩,fun c hc=>?_,mg_none_of KX TT.g (hb _ (by decide)),mg_none_of KX TT.g (Zo x2),w1,w2,w3,fun w hw=>w4 w hw,fun x hx=>?_⟩
    . obtain⟨a,e⟩:=Ce.mp (x1 c hc)
      exact⟨a,adm c a e⟩
    . subst hx;exact of_decide_eq_true w5
   have raised:∀c∈X.rz,∃C,mg c=some (.ref C)∧(∃Kc,L2.qF Kc (zt h0)∧exmOne Kc (.ref C) (.ref hue)=some true)∧L2.Named (zt h0) mg X.cs C c∧eY h0 C (.ref hue::Hd.veM)=true:=fun c hc=>by
    have z:=x3 c hc
    split at z
    . cases z
    . rename_i C hC
      simp only[Aa,AI,beq_iff_eq]at z
      obtain⟨⟨⟨⟨z1,z2⟩,z3⟩,z4⟩,z5⟩:=z
      refine⟨C,adm c C hC,⟨_,ky,z2⟩,⟨_,ky,Zh z1,fun d hd=>?_,z4⟩,z5⟩
      obtain⟨a,e⟩:=Ce.mp (x1 d hd)
      have:=z3 d hd
      rw[e]at this
      rw[L2.gV (adm d a e)]
      exact this
   have xcf:∀c w,T.xc.lookup c=some w→c∈X.rz∧∃(i:Nat) (x:Str),X.cs[i]?=some c∧ws[i]?=some x∧w=L2.ans pre x∧w≠"great":=fun c w e=>by
    have z:=AI.mp hxc _ (xU e)
    simp only[Aa,decide_eq_true_eq,BU]at z
    obtain⟨z1,i,_,⟨z2,z3⟩,z4⟩:=z
    split at z3
    . rename_i x hx
      exact⟨z1,i,x,z2,hx,of_decide_eq_true z3,z4⟩
    . cases z3
   have hw:=AI.mp m5
   refine⟨⟨kx,X.cs,ws,pre,hue,mghue,KFn,fun b hbm=>?_,fun c w e=>?_,fun c w e base KB=>?_⟩,fun base KB=>?_⟩
   . obtain⟨⟨f,fd,a1,a2⟩,SS⟩:=hS b hbm
     refine⟨f,⟨⟨sst b,fd,mg_of KX TT.g a1,a2,cV SS.scp,a2.binds fun kV doc pm an cdv ct us hl=>uK SS.args (by decide) us hl,SS.sh,lkk SS.lk (by simp),lkk SS.lk (by simp),fun hbf=>lkk SS.lk (by subst hbf;simp),lkk SS.lk (by simp),lkk SS.lk (by simp)⟩,hkd⟩⟩
   . obtain⟨y1,i,x,y2,y3,y4,y5⟩:=xcf c w e
     obtain⟨C,r1,r2,r3,_⟩:=raised c y1
     exact⟨C,i,x,r1,r2,r3,y2,y3,y4,y5⟩
   . obtain⟨y1,_⟩:=xcf c w e
     obtain⟨C,r1,_,_,r4⟩:=raised c y1
     exact⟨C,r1,nH TT KX KB (hw c (Ao _ y1)) r1 r4,nH TT KX KB (hw _ (Av ..)) mghue x4⟩
   . obtain⟨bm,obj,b1,b2,b3,b4,b5,b6⟩:=TT.bmain
     unfold bmB at x5
     split at x5
     . rename_i b hbb
       have:=adm _ _ hbb
       rw[b1]at this;cases this
       split at x5
       . rename_i o hob
         have hk:=zx o hob (by simpa using x5)
         have e1:=KX _ _ hk
         rw[b3]at e1;cases e1
         exact⟨bm,obj,b1,b2,KB _ _ hk,b4,b5,b6⟩
       . cases x5
     . cases x5
theorem tab_of{q:Program}{loose:List Str}{mean:ExcName→Option Value}{mb:Str→Option Value}{X:XT}{T:Tbl}{D:List (Str × Stmt)}(TT:Gi q loose mean mg mb h)(KX:(zt h0).In h)(ob:oI X h0=true)(htb:T.tb=X.tb)
 (hd:∀p∈D,tS (zt h0) p.1 p.2) (m6:X.tb.all (fun g=>(E4 q).any (fun d=>decide (d.name=g))&&(D.lookup g).isSome)=true):∃tabs,VL T (zt h0) mg h tabs:=by
 have nd:(X.tb.map (l9 h0)).Nodup:=by
  unfold oI at ob
  split at ob
  . cases ob
  . simp only[Aa,decide_eq_true_eq]at ob
    exact ob.2
 have one:∀g∈X.tb,∃P,l9 h0 g=some P∧h.get? P=some (tabObj #[])∧(zt h0).lookup P=none∧GA h P∧∃(fa c:Addr) (o:Obj) (fd:Bx),mg g=some (.ref fa)∧(zt h0).lookup fa=some o∧o.data=.func fd∧fd.code=.ref c∧∀h':Heap,(zt h0).In h'→CodeHd h' c P:=fun g hg=>by
  have z:=AI.mp m6 g hg
  rw[Aa,BU]at z
  obtain⟨⟨d,d1,d2⟩,z2⟩:=z
  have d2:=of_decide_eq_true d2
  obtain⟨st,hst⟩:=Ce.mp z2
  obtain⟨fa,fd,a1,a2⟩:=hd _ (xU hst)
  obtain⟨oc,od,kV,doc,pm,an,cdv,ct,osl,rfl,lk,hcd⟩:=a2.ex
  have hmg:=mg_of KX TT.g a1
  obtain⟨a',o',fd',c,P,t1,t2,t3,t4,t5,t6⟩:=TT.tab d d1
  rw[d2,hmg]at t1;cases t1
  rw[KX _ _ lk]at t2;cases t2
  cases t3
  have hcdv:cdv=.ref c:=t4
  subst hcdv
  have hkc:∃occ,(zt h0).lookup c=some occ:=by
   unfold codeIn at hcd
   dsimp only at hcd
   split at hcd
   . rename_i hh;exact⟨_,hh⟩
   . cases hcd
  obtain⟨occ,hkc⟩:=hkc
  obtain⟨⟨oT,vsT,u1,u2,u3,u4⟩,u5⟩:=id t6
  rw[KX _ _ hkc]at u1;cases u1
  refine⟨P,?_,u5,?_,t6.isCodeTable,fa,c,_,_,hmg,lk,rfl,rfl,fun h' K'=>?_⟩
  . have g1:adH h0 g=some fa:=by
     unfold adH
     have a1':nsIn (zt h0) AL g=some (some (.ref fa)):=a1
     unfold nsH
     unfold nsIn at a1'
     split at a1'
     . rename_i c1 d1 es n1 s1 hmn
       have:=uP _ _ hmn
       rw[this]
       dsimp only
       unfold nsIn
       rw[Au,beq_self_eq_true]
       dsimp only
       rw[a1']
     . cases a1'
    unfold l9
    rw[g1]
    dsimp only
    rw[uP _ _ lk]
    dsimp only
    rw[uP _ _ hkc]
    dsimp only
    rw[u3]
    dsimp only
    rw[u4]
  . cases e:(zt h0).lookup P with
    |none=>rfl
    |some o=>
     have n1:=jw e
     have e2:=KX _ _ e
     rw[u5]at e2;cases e2
     cases n1
  . obtain⟨o2,vs2,file,tf,flags,tg,inF,text,tt,v1,v2,v3⟩:=CodeHd.of t5 t6
    rw[KX _ _ hkc]at v1;cases v1
    exact⟨_,vs2,file,tf,flags,tg,inF,text,tt,K' _ _ hkc,v2,v3⟩
 have hmap:X.tb.map (l9 h0)=(X.tb.map fun g=>(l9 h0 g).getD 0).map some:=by
  rw[C4]
  refine E2 fun g hg=>?_
  obtain⟨P,e,_⟩:=one g hg
  simp[e]
 refine⟨X.tb.map fun g=>(l9 h0 g).getD 0,?_,by rw[htb,Ai],fun i g hi=>?_⟩
 . rw[hmap]at nd
   exact(Ck.mp nd).imp fun hne z=>hne (by rw[z])
 . rw[htb]at hi
   obtain⟨P,e,r⟩:=one g (AS hi)
   refine⟨P,?_,r⟩
   rw[AQ,hi]
   simp[e]
end
def gR(D:List (Str × Stmt))(glL:List (Str × Val))(X:XT)(K:KF)(h:Heap):Prop:=K.In h∧(∀p∈D,tS K p.1 p.2)∧(∀p∈glL,jX K p.1 p.2)∧(∀x∈xh,nsIn K AL x=some none)∧∃h0,K=zt h0∧oI X h0=true
theorem cU{D:List (Str × Stmt)}{gl:List (Str × G)}{X:XT}{s:Shared}(e:(et D gl s,oI X s.heap)=(bH D,true)):∃K,gR D (gl.map fun p=>(p.1,gv p.2)) X K s.heap:=by
 obtain⟨e0,eX⟩:=Prod.mk.inj e
 obtain⟨e1,e2⟩:=Prod.mk.inj e0
 obtain⟨e2,e3⟩:=EW.mp e2
 exact⟨zt s.heap,uP,kf e1,fun p hp=>(by obtain⟨p',h1,rfl⟩:=Bh.mp hp;exact VY (AI.mp e2 p' h1)),fun x hx=>Zo (AI.mp e3 x hx),s.heap,rfl,eX⟩
theorem Yj{l:PySem.W.OpenLaw}{q:Program}{d:DefRec}{fnL:List ((Str × Nat) × Fn)}{glL:List (Str × Val)}{gl:List (Str × G)}{D:List (Str × Stmt)}{F:Fn}{n N:Nat}{x:Str}{X:XT}{tb:List Str}{xc:List (Str × Str)}{md:Bool→Bool}{kx:Str}{ws:List Str}{pre:Option Str}{kst:Stmt}(sst:Bool→Stmt)
 (Wq:l.wellSaid=true) (left:PySem.W.LeftO l.row.prog q [] (fun s=>Fq l.row.records s) (fun z=>(et D gl z,oI X z.heap)) (fun _=>(bH D,true)) N) (hgl:glL=gl.map fun p=>(p.1,gv p.2))
 (fN:PySem.W.defOf q l.row.name=some (d,[])) (hp:l.row.prog.theDef l.row.name=some (d.params,d.body,d.scope)) (hk:PySem.W.kwWritten? d.params.kwonlyargs d.params.kw_defaults=some [])
 (hwr:(!l.row.writes||l.row.records.isEmpty)=true) (ok:(PySem.W.chainsOk q&&PySem.W.opensWell l.row.prog&&(PySem.W.frees l.row.toRowW&&l.row.within.isEmpty))=true) (hb:l.row.prog.bare) (hw:l.row.toRowW.promised)
 (hn:l.most=some 63) (hdf:d.params.defaults=[]) (hr:L2.yu n callerA) (hF:(kA fnL glL tb xc md).fn d.name 0=some F) (hx:F.ps=[x]) (hc:mQ fnL D=true)
 (htb:tb=X.tb) (htb2:fnL.all (fun p=>!decide (("!":Str)∈p.2.N)||decide (p.1.1∈tb))=true) (hkx:D.lookup kx=some kst) (hK:ma kst X.cs ws pre) (hS:∀b,md b=true→D.lookup (L2.yl b)=some (sst b)∧pO b kx (sst b)) (hkd:(kx == ("__debug__":Str))=false)
 (hws:wsB X.cs ws pre=true) (hxc:xcB X.rz X.cs ws pre xc=true) (m5:((("HueError":Str))::X.rz).all (fun c=>dB q c)=true) (m6:X.tb.all (fun g=>(E4 q).any (fun d=>decide (d.name=g))&&(D.lookup g).isSome)=true)
 (HL:∀ns:List Int,ns.length≤63→∃s',zE (kA fnL glL tb xc md) n d.name 0 [.scr ns] (tb.map .tb)=.ok (.bool true) s'):l.Holds:=by
 refine PySem.W.holds_law Wq fun said'=>PySem.W.holds_open (q:=q) (loose:=[]) (Xt:=fun s=>Fq l.row.records s) (XP:=fun _ _=>True) (YP:=fun _ h=>∃K,gR D glL X K h) left (fun w s e=>hgl▸cU e)
  (fun w h h' ⟨K,a,b⟩ k=>⟨K,a.keeps k,b⟩) (fun _ _=>trivial) (fun _ _ _ _ _=>trivial) fN hp hk (fun s e=>PySem.W.recFacts_of e) hwr said' ok hb hw ?_
 intro w s₀ s₁ mg mb G ⟨K,Y⟩
 obtain⟨Y1,Y2,Y3,Y4,h0,rfl,ob⟩:=id Y
 refine walk (l:=l) (q:=q) (loose:=[]) (XP:=fun _ _=>True) (YP:=fun _ h=>gR D glL X (zt h0) h) (d:=d) (K:=zt h0) (T:=kA fnL glL tb xc md) hn hdf hr (fun _ _ y=>y.1) hF hx (fun w s₀ mg mb h G KX=>⟨?_,?_⟩) HL w s₀ s₁ mg mb G Y
 . exact W6 KX G.T.g Y2 Y3 Y4 hc (fun _=>htb2) fun _=>Uq sst G.T KX ob (Y2 _ (xU hkx)) (fun b hbm=>⟨Y2 _ (xU (hS b hbm).1),(hS b hbm).2⟩) hK Y4 hkd hws hxc m5
 . exact tab_of G.T KX ob htb Y2 m6
end M
end
section
namespace P62
open PySem M
noncomputable def z7:Fn:=F.z7
noncomputable def yZ:Fn:=F75.yZ
noncomputable def yq:Fn:=F61.yq
noncomputable def yP:Fn:=F75.yP
noncomputable def yV:Fn:=F61.yV
noncomputable def zg:Fn:=F61.zg
noncomputable def yA:Fn:=F.yA
noncomputable def ye:Fn:=F66.ye
noncomputable def yf:Fn:=F.yf
noncomputable def zp:Fn:=F.zp
noncomputable def zL:Fn:=F66.zL
noncomputable def zw:Fn:=F66.zw
noncomputable def yW:Fn:=F66.yW
noncomputable def xA:Fn:=F.xA
noncomputable def xB:Fn:=F.xB
noncomputable def z6:Fn:=F66.z6
noncomputable def qT:Fn:=⟨["_law_script","_law_k","_law_pen_here","_law_many","_law_thin","_law_spot","_law_odd","_law_none","_law_bad","_law_sizes","_law_ring","_law_one","_law_said","!"],["_law_script"],false,(.cons (.forS (.nm 1) (.range1 (.blt .max false (.cons (.lit (.int 1)) (.cons (.blt .min false (.cons (.blt .len false (.cons (.var 0) .nil)) (.cons (.lit (.int 5)) .nil))) .nil)))) (.cons (.asg 2 (.call "_law_pen" 1 (.cons (.call "_law_cell_at" 0 (.cons (.var 0) (.cons (.var 1) .nil))) .nil))) (.cons (.par [3,4] (.cons (.bin false .add (.lit (.int 1)) (.call "_law_draw" 0 (.cons (.var 2) (.cons (.lit (.int 14)) .nil)))) (.cons (.call "_law_draw" 0 (.cons (.var 2) (.cons (.lit (.int 2)) .nil))) .nil))) (.cons (.par [5,6] (.cons (.bin false .mod (.call "_law_draw" 0 (.cons (.var 2) (.cons (.lit (.int 14)) .nil))) (.var 3)) (.cons (.call "_law_draw" 0 (.cons (.var 2) (.cons (.lit (.int 4)) .nil))) .nil))) (.cons (.asg 7 (.ix (.lst false (.cons (.tup .nil) (.cons (.lst false (.cons (.lit (.int 0)) .nil)) (.cons (.tup (.cons (.lit (.int 4)) .nil)) (.cons (.bin false .mul (.tup (.cons (.lit (.int 0)) .nil)) (.lit (.int 41))) (.cons (.lit .none) (.cons (.lit (.str "01")) (.cons (.tup (.cons (.lit (.bool true)) .nil)) (.cons .dct0 (.cons (.tup (.cons (.lit (.int 0)) (.cons (.neg (.lit (.int 1))) .nil))) .nil)))))))))) (.call "_law_draw" 0 (.cons (.var 2) (.cons (.lit (.int 9)) .nil))))) (.cons (.asg 8 (.ix (.lst false (.cons (.tup .nil) (.cons (.lst false (.cons (.lit (.int 3)) .nil)) (.cons (.tup (.cons (.lit (.int 1)) .nil)) (.cons (.tup (.cons (.lit (.int 9)) .nil)) (.cons (.bin false .mul (.tup (.cons (.lit (.int 2)) .nil)) (.lit (.int 5))) (.cons (.lit .none) (.cons (.lit (.str "3")) (.cons (.tup (.cons (.lit (.bool true)) .nil)) (.cons .dct0 (.cons (.tup (.cons (.lit (.int 3)) (.cons (.lit (.int 1)) .nil))) .nil))))))))))) (.call "_law_draw" 0 (.cons (.var 2) (.cons (.lit (.int 10)) .nil))))) (.cons (.asg 9 (.blt .tuple false (.cons (.comp false ["_law_hue","_law_pen_here"] [none,some 2] (.bin false .add (.lit (.int 2)) (.call "_law_draw" 0 (.cons (.var 1) (.cons (.lit (.int 7)) .nil)))) (.nm 0) (.range1 (.bin false .add (.lit (.int 1)) (.call "_law_draw" 0 (.cons (.var 2) (.cons (.lit (.int 4)) .nil))))) .nil) .nil))) (.cons (.asg 10 (.blt .tuple false (.cons (.comp false ["_law_place","_law_pen_here","_law_sizes","_law_thin"] [none,some 2,some 9,some 4] (.bin false .mul (.call "_law_draw" 0 (.cons (.var 1) (.cons (.blt .len false (.cons (.var 2) .nil)) .nil))) (.bin false .sub (.lit (.int 1)) (.bin false .mul (.var 3) (.blt .int false (.cons (.cmp .gt (.call "_law_draw" 0 (.cons (.var 1) (.cons (.lit (.int 3)) .nil))) (.lit (.int 0))) .nil))))) (.nm 0) (.range1 (.var 3)) .nil) .nil))) (.cons (.forS (.nm 11) (.val (.lst false (.cons (.var 10) (.cons (.bin false .add (.bin false .add (.sl false (.var 10) .no (.yes (.var 5)) .no) (.tup (.cons (.var 6) .nil))) (.sl false (.var 10) (.yes (.bin false .add (.var 5) (.lit (.int 1)))) .no .no)) (.cons (.sl false (.var 10) .no .no (.yes (.neg (.lit (.int 1))))) (.cons (.bin false .mul (.tup (.cons (.var 6) .nil)) (.var 3)) (.cons (.sl false (.var 10) .no (.yes (.lit (.int 1))) .no) (.cons (.bin false .add (.var 10) (.sl false (.var 10) .no (.yes (.lit (.int 1))) .no)) .nil)))))))) (.cons (.ifS (.not (.val (.call "_law_fits" 0 (.cons (.var 9) (.cons (.var 11) .nil))))) (.cons (.ret (.lit (.bool false))) .nil) .nil) .nil)) (.cons (.asg 12 (.lst true (.cons (.call "fits_round" 101 (.cons (.var 8) (.cons (.var 7) .nil))) .nil))) (.cons (.expr (.yx .append false (.var 12) (.cons (.call "first_round_wrong" 101 (.cons (.var 8) (.cons (.var 7) .nil))) .nil))) (.cons (.expr (.yx .append false (.var 12) (.cons (.call "fits_round" 101 (.cons (.var 9) (.cons (.var 7) .nil))) .nil))) (.cons (.expr (.yx .append false (.var 12) (.cons (.call "first_round_wrong" 101 (.cons (.var 9) (.cons (.var 7) .nil))) .nil))) (.cons (.ifS (.val (.cmp .ne (.var 12) (.bin false .add (.bin false .mul (.lst false (.cons (.lit (.str "! sizes")) .nil)) (.lit (.int 2))) (.bin false .mul (.lst false (.cons (.lit (.str "! ring")) .nil)) (.lit (.int 2)))))) (.cons (.ret (.lit (.bool false))) .nil) .nil) .nil)))))))))))))) (.cons (.ret (.lit (.bool true))) .nil))⟩
noncomputable def yO:Fn:=F66.yO
noncomputable def yB:Fn:=F.yB
noncomputable def fnL:List ((Str × Nat) × Fn):=((("_law_cell_at":Str),(0:Nat)),z7)::((("_law_draw":Str),(0:Nat)),yZ)::((("_law_fits":Str),(0:Nat)),yq)::((("_law_pen":Str),(1:Nat)),yP)::((("_law_rounds":Str),(0:Nat)),yV)::((("_law_wrong":Str),(0:Nat)),zg)::((("are_sizes":Str),(0:Nat)),yA)::((("are_unlike":Str),(0:Nat)),ye)::((("are_wholes":Str),(0:Nat)),yf)::((("first_hue_wrong":Str),(0:Nat)),zp)::((("first_round_wrong":Str),(0:Nat)),zL)::((("fits_round":Str),(0:Nat)),zw)::((("going_round":Str),(0:Nat)),yW)::((("is_strip":Str),(0:Nat)),xA)::((("is_whole":Str),(0:Nat)),xB)::((("is_whole_round":Str),(0:Nat)),z6)::((("law":Str),(0:Nat)),qT)::((("need_ring":Str),(0:Nat)),yO)::((("need_sizes":Str),(0:Nat)),yB)::[]
noncomputable def glL:List (Str × Val):=[("MOST_PLACES",.int 40),("LEAST_SIZE",.int 2),("MOST_SIZE",.int 8),("HUES",.ctup [0,1,2,3])]
noncomputable def tb:List Str:=["law"]
noncomputable def xc:List (Str × Str):=[("NoSizes","! sizes"),("NoRing","! ring")]
noncomputable def md:Bool→Bool:=fun b=>b
noncomputable def T:Tbl:=kA fnL glL tb xc md
set_option maxHeartbeats 0 in
theorem W2:mQ fnL D=true:=by decide +kernel
end P62
end
section
namespace P62
open PySem M
theorem nh{x:Str}{s:Sto}:zQ .ne (.str x) (.str x) s=.ok (.bool false) s:=by simp[zQ]
theorem fC{x:Str}{s:Sto}:zQ .eq (.str x) (.str x) s=.ok (.bool true) s:=by simp[zQ]
theorem Z2{vs:List Val}{k:Nat}(h:k<vs.length):∃v,v∈vs∧∀s,wK (.lst vs) (.int k) s=.ok v s:=⟨vs[k],B2 h,fun s=>Yw (Ae h)⟩
noncomputable def rdS(q:Nat × Nat):Val:=tpS "round" (v2 q)
theorem Xw(q:Nat × Nat):(rdS q).noRef=true:=by
 show (Val.tup [.str "round",.int (q.1:Nat),.int (q.2:Nat)]).noRef=true
 rw[tD,yE,yE,yE,wq,rZ,xq,xq];rfl
theorem km:∀l:List (Nat × Nat),xF (l.map rdS)=true
 |[]=>by rw[DO,xF]
 |q::l=>by
  rw[AK,xF,km l]
  show ((Val.tup [.str "round",.int (q.1:Nat),.int (q.2:Nat)]).isD&&true)=true
  rw[Val.isD,xF,xF,xF,xF,Val.isD,Val.isD,Val.isD];decide +kernel
theorem mS:∀l:List (Nat × Nat),pG "round" (l.map rdS)=some (l.map v2)
 |[]=>rfl
 |q::l=>by
  show (if ("round":Str)="round" then (match intsOf [Val.int (q.1:Nat),.int (q.2:Nat)],pG "round" (l.map rdS) with|some z,some zs=>some (z::zs)|_,_=>none) else none)=_
  rw[if_pos rfl,mS l];rfl
theorem Xu{l:List (Nat × Nat)}{i:Nat}{s:Sto}(hl:l≠[])(hs:s[i]?=some (.lst (l.map rdS))):blt .minS false [.ref i] s=.ok (tpS "round" (L2.oE (l.map v2))) s:=by
 have e:kl (l.map rdS)="round":=by
  cases l with
  |nil=>exact absurd rfl hl
  |cons q l=>rfl
 simp only[blt,yL,hs]
 rw[e,mS]
 show (if l.map v2≠[] then Out.ok (tpS "round" (L2.oE (l.map v2))) s else .stuck)=_
 rw[if_pos (fun h=>hl (E3.mp h))]
theorem bp{i:Nat}{vs:List Val}{s:Sto}(h:s[i]?=some (.lst vs))(hd:xF vs=true):zQ .eq (.ref i) (.lst []) s=.ok (.bool vs.isEmpty) s:=by
 have e:=eq_nil (s:=s) hd
 rw[←e]
 simp only[zQ,ze,yH,h]
theorem b8{zs r:List Int}:xF (tN zs r)=true:=by
 have:∀l:List Val,(∀v∈l,∃k:Nat,v=.int k)→xF l=true:=fun l=>by
  induction l with
  |nil=>intro _;rw[xF]
  |cons v l ih=>
   intro h
   obtain⟨k,rfl⟩:=h v (.head _)
   rw[xF,ih fun w hw=>h w (.tail _ hw),Val.isD];rfl
 exact this _ fun v hv=>by obtain⟨k,e,_⟩:=sU hv;exact⟨k,e⟩
noncomputable def Xv(r:List Int)(h:Nat):Val→List Val
 |.int i=>if r[i.toNat]?=some (h:Int) then [] else [.int i]
 |_=>[]
section
variable {Φ:Calls}{s:Sto}
def pJ(Φ:Calls):Prop:=∀(zs r:List Int) (s:Sto),Sz zs→Rg r→Φ "_law_wrong" 0 [tpI zs,tpI r] s=.ok (wC zs r) s
theorem rn(c:ox Φ){zs r:List Int}(hz:Sz zs)(hr:Rg r):run T Φ F61.zg [tpI zs,tpI r] s=.ok (wC zs r) s:=by
 have hl:=hr.le
 have hpos:=hr.pos
 have h4:=hz.2.1
 rw[post_eq,F61.zg,xM]
 refine⟨rfl,?_⟩
 show (zW Φ T.gl [some (tpI zs),some (tpI r),none,none,none,none,none,none,none] _ s).post _
 have hc:evE Φ T.gl [some (tpI zs),some (tpI r),none,none,none,none,none,none,none] (.comp false ["_law_place","_law_hue","_law_sizes"] [none,none,some 0] (.var 0) (.nms [0,1]) (.enum (.var 1)) (.cons (.val (.cmp .ge (.var 1) (.blt .len false (.cons (.var 2) .nil)))) .nil)) s=.ok (.lst (tN zs r)) s:=by
  rw[post_eq]
  refine uZ (fun e=>∃o1 o2,e=[o1,o2,some (tpI zs)]) (cj zs) (zr 0 (r.map .int)) (s1:=s) (sL (zB rfl)) ⟨none,none,rfl⟩ ?_ (zC.mpr ⟨rfl,rfl⟩)
  rintro x hx e ⟨o1,o2,rfl⟩
  obtain⟨k,i,hk,rfl⟩:=vZ hx
  refine⟨[some (.int (k:Nat)),some (.int i),some (tpI zs)],rfl,⟨_,_,rfl⟩,?_⟩
  rw[bE (yY (yN (zB rfl) (uD rfl) ge_int) za)]
  refine zC.mpr ⟨rfl,?_⟩
  rw[show cj zs (.tup [.int (k:Nat),.int i])=if (zs.length:Int)≤i then [Val.int (k:Nat)] else [] from rfl]
  by_cases hn:(zs.length:Int)≤i
  . rw[decide_eq_true hn,if_pos rfl,if_pos hn,zB rfl]
    exact zC.mpr ⟨rfl,rfl⟩
  . rw[decide_eq_false hn,if_neg Am,if_neg hn]
 refine xX hc ?_
 show (zW Φ T.gl [some (tpI zs),some (tpI r),some (.lst (tN zs r)),none,none,none,none,none,none] _ s).post _
 have tn:evT Φ T.gl [some (tpI zs),some (tpI r),some (.lst (tN zs r)),none,none,none,none,none,none] (.val (.cmp .ne (.var 2) (.lst false .nil))) s=.ok (!(tN zs r).isEmpty) s:=yY (yN (zB rfl) (vV zD (A8 _)) (ne_nil b8)) za
 cases hs:tN zs r with
 |cons v l=>
  have hv:wC zs r=.tup [.str "hue",v]:=by unfold wC;rw[hs]
  have hn:=ek (zs:=zs) (r:=r)
  rw[hv]at hn ⊢
  rw[hs]at tn
  exact rq tn (yT (yt (zA zK (zA (vU (zB rfl) zK aB) zD)) (show 2≤zU by decide)) (ya hn))
 |nil=>
  have hG:RgZ zs r:=fR hz hr hs
  have hv:wC zs r=frV (frO zs r):=by unfold wC;rw[hs]
  rw[hs]at tn
  refine vC tn ?_
  refine xX (kO zD (A8 _)) ?_
  show (zW Φ T.gl [some (tpI zs),some (tpI r),some (.lst []),some (.ref s.length),none,none,none,none,none] _ (s++[.lst []])).post _
  have hfl:∀k,((AE k).flatMap (fH zs r)).length≤k*1600:=fun k=>by
   have one:∀h,(fH zs r h).length≤1600:=fun h=>Ax (B7 _ _) (Ax (B7 _ _) (Ax (pairs_len _) (D1 hl hl)))
   induction k with
   |zero=>simp
   |succ k ih=>rw[EV,Ct,Ap,Ei];have:=one k;omega
  refine zu.mpr (xV (fun rest e s'=>∃k o4 o5 o6 o7 o8,k≤zs.length∧rest=zr k ((zs.drop k).map .int)∧e=[some (tpI zs),some (tpI r),some (.lst []),some (.ref s.length),o4,o5,o6,o7,o8]∧s'=s++[.lst (((AE k).flatMap (fH zs r)).map rdS)]) (zr 0 (zs.map .int)) (s1:=s++[.lst []]) (sL (zB rfl)) ⟨0,_,_,_,_,_,A8 _,by rw[Dk],rfl,rfl⟩ ?_ ?_)
  . rintro x rest e s' ⟨k,o4,o5,o6,o7,o8,hk,hrest,rfl,rfl⟩
    obtain⟨v,ws,hv,rfl,rfl⟩:=rC hrest
    have hk':k<zs.length:=by
     refine Nat.lt_of_not_le fun hc=>?_
     rw[List.drop_eq_nil_of_le hc]at hv
     cases hv
    rw[BQ hk',AK]at hv
    obtain⟨rfl,rfl⟩:=DA hv
    obtain⟨z1,z2,z3⟩:=xP hz hk'
    have hzk:zs[k]=((zO zs k:Nat):Int):=by
     rw[Ae hk']at z1
     exact AF z1
    refine⟨_,rfl,?_⟩
    rw[hzk]
    show (zW Φ T.gl [some (tpI zs),some (tpI r),some (.lst []),some (.ref s.length),some (.int (k:Nat)),some (.int (zO zs k:Nat)),o6,o7,o8] _ _).post _
    generalize hP:(AE k).flatMap (fH zs r)=P0
    have hPl:P0.length≤4*1600:=by rw[←hP];exact Ax (hfl k) (Dr _ (by omega))
    have hrd:(lb r.length (zO zs k)).length≤1600:=Ax (B7 _ _) (Ax (pairs_len _) (D1 hl hl))
    refine zu.mpr (xV (fun rest e s'=>∃A B o6 o7 o8,A++B=lb r.length (zO zs k)∧rest=B.map (rdV r.length (zO zs k))∧e=[some (tpI zs),some (tpI r),some (.lst []),some (.ref s.length),some (.int (k:Nat)),some (.int (zO zs k:Nat)),o6,o7,o8]∧s'=s++[.lst ((P0++A.filter (wR r k (zO zs k))).map rdS)]) ((lb r.length (zO zs k)).map (rdV r.length (zO zs k))) (s1:=s++[.lst (P0.map rdS)]) (oB (x_call (zA (uD rfl) (zA (zB rfl) zD)) (c r.length (zO zs k) _ (by omega) hl z3)) rfl) ⟨[],_,_,_,_,rfl,rfl,rfl,by rw[Gy,AY]⟩ ?_ ?_)
    . rintro x rest e s' ⟨A,B,o6,o7,o8,hAB,hB,rfl,rfl⟩
      cases B with
      |nil=>cases hB
      |cons q B=>
       obtain⟨rfl,rfl⟩:=DA hB
       obtain⟨f,d⟩:=q
       have hq:(f,d)∈lb r.length (zO zs k):=by rw[←hAB];exact AU _ (.head _)
       have hAl:A.length<1600:=by
        have:=congrArg CW hAB
        rw[Ap,Ar]at this
        omega
       refine⟨[some (tpI zs),some (tpI r),some (.lst []),some (.ref s.length),some (.int (k:Nat)),some (.int (zO zs k:Nat)),some (.int (f:Nat)),some (.int (d:Nat)),some (.lst ((wA (goN r.length f d (zO zs k))).map .int))],rfl,?_⟩
       have hfl2:((P0++A.filter (wR r k (zO zs k))).map rdS).length<zU:=by
        rw[Ai,Ap]
        have:=B7 (wR r k (zO zs k)) A
        unfold zU
        omega
       generalize hgo:goN r.length f d (zO zs k)=ls
       have hlt:∀p∈ls,p<r.length:=fun p hp=>Zy hpos (by rw[hgo];exact hp)
       have hcp:∀S:Sto,evE Φ T.gl [some (tpI zs),some (tpI r),some (.lst []),some (.ref s.length),some (.int (k:Nat)),some (.int (zO zs k:Nat)),some (.int (f:Nat)),some (.int (d:Nat)),some (.lst ((wA ls).map .int))] (.comp false ["_law_place","_law_hue","_law_ring"] [none,some 4,some 1] (.var 0) (.nm 0) (.val (.var 8)) (.cons (.val (.cmp .ne (.ix (.var 2) (.var 0)) (.var 1))) .nil)) S=.ok (.lst ((wA (ls.filter fun p=>!decide (r[p]?=some (k:Int)))).map .int)) S:=fun S=>by
        rw[post_eq]
        refine uZ (fun e=>∃o,e=[o,some (.int (k:Nat)),some (tpI r)]) (Xv r k) ((wA ls).map .int) (s1:=S) (oB (zB rfl) rfl) ⟨none,rfl⟩ ?_ ?_
        . rintro x hx e ⟨o,rfl⟩
          rw[vN]at hx
          obtain⟨p,hp,rfl⟩:=Bh.mp hx
          have hpl:=hlt p hp
          refine⟨[some (.int (p:Nat)),some (.int (k:Nat)),some (tpI r)],rfl,⟨_,rfl⟩,?_⟩
          rw[bE (yY (yN (vU (zB rfl) (zB rfl) (rO (Ae hpl))) (zB rfl) ne_int) za)]
          refine zC.mpr ⟨rfl,?_⟩
          rw[show Xv r k (.int (p:Int))=if r[p]?=some (k:Int) then [] else [.int (p:Int)] from rfl,Ae hpl]
          by_cases he:r[p]=(k:Int)
          . rw[decide_eq_true he,if_neg (by decide),if_pos (congrArg some he)]
          . rw[decide_eq_false he,if_pos (by decide),if_neg (fun q=>he (AF q)),zB rfl]
            exact zC.mpr ⟨rfl,rfl⟩
        . have e:((wA ls).map Val.int).flatMap (Xv r k)=(wA (ls.filter fun p=>!decide (r[p]?=some (k:Int)))).map .int:=by
           rw[vN,vN]
           clear hlt hgo
           induction ls with
           |nil=>rfl
           |cons p ls ih=>
            rw[AK,BN,ih,Eu]
            show (if r[p]?=some (k:Int) then [] else [Val.int (p:Int)])++_=_
            by_cases he:r[p]?=some (k:Int)
            . rw[if_pos he,decide_eq_true he];rfl
            . rw[if_neg he,decide_eq_false he];rfl
          rw[e]
          exact zC.mpr ⟨rfl,rfl⟩
       have hall:((wA (ls.filter fun p=>!decide (r[p]?=some (k:Int)))).map Val.int).isEmpty=wR r k (zO zs k) (f,d):=by
        unfold wR
        show _=(goN r.length f d (zO zs k)).all _
        rw[hgo,Gj,Gj]
        clear hcp hlt hgo
        induction ls with
        |nil=>rfl
        |cons p ls ih=>
         rw[Eu,Dx,←ih]
         cases decide (r[p]?=some (k:Int))<;>rfl
       have tt:∀S:Sto,evT Φ T.gl [some (tpI zs),some (tpI r),some (.lst []),some (.ref s.length),some (.int (k:Nat)),some (.int (zO zs k:Nat)),some (.int (f:Nat)),some (.int (d:Nat)),some (.lst ((wA ls).map .int))] (.val (.cmp .eq (.comp false ["_law_place","_law_hue","_law_ring"] [none,some 4,some 1] (.var 0) (.nm 0) (.val (.var 8)) (.cons (.val (.cmp .ne (.ix (.var 2) (.var 0)) (.var 1))) .nil)) (.lst false .nil))) S=.ok (wR r k (zO zs k) (f,d)) S:=fun S=>by
        rw[←hall]
        exact yY (yN (hcp S) (vV zD (A8 _)) (eq_nil (u6 _))) za
       have eF:(A++[(f,d)]).filter (wR r k (zO zs k))=A.filter (wR r k (zO zs k))++if wR r k (zO zs k) (f,d) then [(f,d)] else []:=by
        rw[C8]
        congr 1
        rw[Eu,Gy]
       have ht:=tt (s++[.lst ((P0++A.filter (wR r k (zO zs k))).map rdS)])
       cases hs:wR r k (zO zs k) (f,d) with
       |true=>
        rw[hs]at ht
        refine rq ht (xZ (bnd (zB rfl) (bnd (zA (yt (zA zK (zA (zB rfl) (zA (zB rfl) zD))) (show 3≤zU by decide)) zD) (vW hfl2))) (xy (xy ⟨A++[(f,d)],B,_,_,_,by rw[←hAB,Bi];rfl,rfl,rfl,?_⟩)))
        rw[eF,hs,if_pos rfl,←Bi,Ci (l₂:=[(f,d)])];rfl
       |false=>
        rw[hs]at ht
        refine vC ht (xy ⟨A++[(f,d)],B,_,_,_,by rw[←hAB,Bi];rfl,rfl,rfl,?_⟩)
        rw[eF,hs,if_neg Am,AY]
    . rintro e s' ⟨A,B,o6,o7,o8,hAB,hB,rfl,rfl⟩
      have hB0:B=[]:=E3.mp hB.symm
      subst hB0
      rw[AY]at hAB
      subst hAB
      refine xy ⟨k+1,_,_,_,_,_,by omega,rfl,rfl,?_⟩
      rw[EV,Ct,Ei,hP];rfl
  . rintro e s' ⟨k,o4,o5,o6,o7,o8,hk,hrest,rfl,rfl⟩
    have hkl:k=zs.length:=by
     refine Nat.le_antisymm hk (F2 fun hc=>?_)
     rw[BQ hc]at hrest
     cases hrest
    subst hkl
    rw[hv]
    have hs0:(s++[Cel.lst ((jv zs r).map rdS)])[s.length]?=some (.lst ((jv zs r).map rdS)):=by simp
    show (zW Φ T.gl [some (tpI zs),some (tpI r),some (.lst []),some (.ref s.length),o4,o5,o6,o7,o8] _ (s++[Cel.lst ((jv zs r).map rdS)])).post _
    have he:=bp hs0 (km _)
    rcases fE (P:=frP zs r) (by omega) (aZ hG) with⟨g1,g2⟩|⟨q,g1,g2,g3⟩
    . have e1:frO zs r=none:=g1
      rw[e1]
      rw[g2]at he ⊢
      refine yT (VE (yY (yN (zB rfl) (vV zD (A8 _)) he) za) zK) ?_
      show (zk false s .none (s++_)).post _
      rw[wm vf]
      exact zC.mpr ⟨rfl,rfl⟩
    . have e1:frO zs r=some q:=g1
      rw[e1]
      rw[show ((jv zs r).map rdS).isEmpty=false from by rw[Gj];exact List.isEmpty_eq_false_iff.mpr g2]at he
      have hm:=Xu g2 hs0
      rw[g3]at hm
      refine yT (VD (yY (yN (zB rfl) (vV zD (A8 _)) he) za) (yU (zA (zB rfl) zD) hm)) ?_
      show (zk false s (rdS q) (s++_)).post _
      rw[wm (Xw q)]
      exact zC.mpr ⟨rfl,rfl⟩
theorem uq{v:Val}(h:Th 2 200000 v)(e:∀s,ze s v=v)(s:Sto):blt .repr false [v] s=.ok (.str v.d.shown) s:=by
 simp only[blt]
 rw[e s,h.r,iS h.lf (by decide) (by decide) h.nd]
 rfl
theorem c8{ns:List Int}(hn:ns.length≤40)(hb:∀x∈ns,0≤x∧x≤8):Th 1 4040 (tpI ns):=kC (k:=0) (w:=100) (n:=40) (fun v hv=>by
 obtain⟨i,hi,rfl⟩:=Bh.mp hv
 have:=hb i hi
 exact oq (by omega) (by omega)) (by rw[Ai];exact hn)
theorem cB{zs r:List Int}(hz:Sz zs)(hr:Rg r):∃x,∀s,blt .repr false [.tup [tpI zs,tpI r]] s=.ok (.str x) s:=by
 refine⟨_,uq (Th.mono (kC (k:=1) (w:=4040) (n:=2) (vs:=[tpI zs,tpI r]) (fun v hv=>?_) (Ag 2)) (by decide) (by decide)) fun s=>rfl⟩
 rcases Ak.mp hv with rfl|hv
 . exact c8 (by have:=hz.2.1;omega) fun x hx=>by have:=hz.2.2 x hx;omega
 . rw[Aq.mp hv]
   exact c8 hr.le fun x hx=>by have:=hr.strip.2 x hx;omega
theorem U8{x:Str}(h:(x.cps.toList.all fun c=>decide (c<16 ^ 8))=true)(h2:x.cps.size≤100):Th 0 100 (.str x):=W4 (fun c hc=>of_decide_eq_true (AI.mp h c hc)) h2
theorem cE{zs r:List Int}(hr:Rg r):∃x,∀s,blt .repr false [wC zs r] s=.ok (.str x) s:=by
 have hl:=hr.le
 have tup:∀{vs:List Val},(∀v∈vs,Th 0 100 v)→vs.length≤4→(∀s,vs.map (yH s)=vs)→∃x,∀s,blt .repr false [.tup vs] s=.ok (.str x) s:=fun{vs} h hn e=>
  ⟨_,uq (Th.mono (kC (k:=0) (w:=100) (n:=4) h hn) (by decide) (by decide)) fun s=>by show Val.tup (vs.map (yH s))=_;rw[e s]⟩
 unfold wC
 split
 . rename_i v l e
   obtain⟨k,rfl,hk⟩:=sU (zs:=zs) (ns:=r) (v:=v) (by rw[e];exact .head _)
   refine tup (fun v hv=>?_) (by show 2≤4;decide) fun s=>rfl
   rcases Ak.mp hv with rfl|hv
   . exact U8 (by decide +kernel) (by decide +kernel)
   . rw[Aq.mp hv];exact oq (by omega) (by omega)
 . cases ho:frO zs r with
   |none=>exact⟨_,uq (ZY.mono (by decide) (by decide)) fun s=>rfl⟩
   |some q=>
    have hq:=List.mem_of_find?_eq_some ho
    obtain⟨g1,g2,g3⟩:=vd.mp (show (q.1,q.2)∈_ from hq)
    refine tup (vs:=[.str "round",.int (q.1:Nat),.int (q.2:Nat)]) (fun v hv=>?_) (by show 3≤4;decide) fun s=>rfl
    rcases Ak.mp hv with rfl|hv
    . exact U8 (by decide +kernel) (by decide +kernel)
    . rcases Ak.mp hv with rfl|hv
      . exact oq (by omega) (by omega)
      . rw[Aq.mp hv];exact oq (by omega) (by omega)
theorem ZK(b:Bool):∃x,∀s,blt .repr false [.bool b] s=.ok (.str x) s:=⟨_,uq ((ZX b).mono (by decide) (by decide)) fun s=>rfl⟩
def gK(Φ:Calls):Prop:=∀(zs r:List Int) (s:Sto),Sz zs→Rg r→Φ "_law_fits" 0 [tpI zs,tpI r] s=.ok (.bool true) s
theorem i7(cW:pJ Φ)(cF:kQ Φ)(cR:sV Φ){zs r:List Int}(hz:Sz zs)(hr:Rg r):run T Φ F61.yq [tpI zs,tpI r] s=.ok (.bool true) s:=by
 obtain⟨x1,h1⟩:=cB hz hr
 obtain⟨x2,h2⟩:=cE (zs:=zs) hr
 obtain⟨x3,h3⟩:=ZK (wC zs r).isN
 have L2':2≤zU:=by decide
 rw[post_eq,F61.yq,xM]
 refine⟨rfl,?_⟩
 show (zW Φ T.gl [some (tpI zs),some (tpI r),none,none,none] _ s).post _
 refine xX (x_call (zA (zB rfl) (zA (zB rfl) zD)) (cW zs r s hz hr)) (xX (yU (zA (yt (zA (zB rfl) (zA (zB rfl) zD)) L2') zD) (h1 s)) ?_)
 show (zW Φ T.gl [some (tpI zs),some (tpI r),some (wC zs r),some (.str x1),none] _ s).post _
 refine zu.mpr (xV (fun rest e s'=>s'=s∧∃o4,e=[some (tpI zs),some (tpI r),some (wC zs r),some (.str x1),o4]) (yJ 0 2) (s1:=s) (qo (k:=2) zK (by decide)) ⟨rfl,_,rfl⟩ ?_ ?_)
 . rintro w rest e s' ⟨rfl,o4,rfl⟩
   refine⟨[some (tpI zs),some (tpI r),some (wC zs r),some (.str x1),some w],rfl,?_⟩
   exact vC (yY (yN (yU (zA (x_call (zA (zB rfl) (zA (zB rfl) zD)) (cF zs r s' hz hr)) zD) (h3 s')) (yU (zA (yN (zB rfl) zK rfl) zD) (h3 s')) nh) za) (vC (yY (yN (yU (zA (x_call (zA (zB rfl) (zA (zB rfl) zD)) (cR zs r s' hz hr)) zD) (h2 s')) (yU (zA (zB rfl) zD) (h2 s')) nh) za) (xy ⟨rfl,_,rfl⟩))
 . rintro e s' ⟨rfl,o4,rfl⟩
   exact yT (yN (yU (zA (yt (zA (zB rfl) (zA (zB rfl) zD)) L2') zD) (h1 s')) (zB rfl) fC) (ya xJ)
structure VF(Φ:Calls):Prop where
 fa:∀(v w:Val) (s:Sto),yS tb s=true→Kds v→yk v=false→Φ "fits_round" 101 [v,w] s=.ok (.str "! sizes") s
 fb:∀(zs:List Int) (w:Val) (s:Sto),yS tb s=true→Sz zs→Kds w→tm w=false→Φ "fits_round" 101 [tpI zs,w] s=.ok (.str "! ring") s
 ga:∀(v w:Val) (s:Sto),yS tb s=true→Kds v→yk v=false→Φ "first_round_wrong" 101 [v,w] s=.ok (.str "! sizes") s
 gb:∀(zs:List Int) (w:Val) (s:Sto),yS tb s=true→Sz zs→Kds w→tm w=false→Φ "first_round_wrong" 101 [tpI zs,w] s=.ok (.str "! ring") s
structure Cs(Φ:Calls):Prop where
 cell:Zj Φ
 pen:Zk Φ
 draw:pI Φ
 fits:gK Φ
 got:VF Φ
noncomputable def k8:List Val:=[.tup [],.lst [.int 0],.tup [.int 4],.tup (Az 41 (.int 0)),.none,.str "01",.tup [.bool true],.dct0,.tup [.int 0,.int (-1)]]
noncomputable def bU:List Val:=[.tup [],.lst [.int 3],.tup [.int 1],.tup [.int 9],.tup (Az 5 (.int 2)),.none,.str "3",.tup [.bool true],.dct0,.tup [.int 3,.int 1]]
theorem xp{vs:List Val}(h:∀w∈vs,kindOf w≠none):Kds (.tup vs):=⟨nofun,fun ws e=>by cases e;exact h⟩
theorem af:∀v∈k8,Kds v∧tm v=false:=fun v hv=>by
 simp only[k8,Ak,BB,or_false]at hv
 rcases hv with rfl|rfl|rfl|rfl|rfl|rfl|rfl|rfl|rfl
 . exact⟨xp fun w hw=>(nomatch hw),rfl⟩
 . exact⟨⟨nofun,nofun⟩,rfl⟩
 . exact⟨xp fun w hw=>by rw[Aq.mp hw];nofun,rfl⟩
 . exact⟨xp fun w hw=>by rw[DW hw];nofun,rfl⟩
 . exact⟨⟨nofun,nofun⟩,rfl⟩
 . exact⟨⟨nofun,nofun⟩,rfl⟩
 . exact⟨xp fun w hw=>by rw[Aq.mp hw];nofun,rfl⟩
 . exact⟨⟨nofun,nofun⟩,rfl⟩
 . refine⟨xp fun w hw=>?_,rfl⟩
   rcases Ak.mp hw with rfl|hw
   . nofun
   . rw[Aq.mp hw];nofun
theorem Yb:∀v∈bU,Kds v∧yk v=false:=fun v hv=>by
 simp only[bU,Ak,BB,or_false]at hv
 rcases hv with rfl|rfl|rfl|rfl|rfl|rfl|rfl|rfl|rfl|rfl
 . exact⟨xp fun w hw=>(nomatch hw),rfl⟩
 . exact⟨⟨nofun,nofun⟩,rfl⟩
 . exact⟨xp fun w hw=>by rw[Aq.mp hw];nofun,rfl⟩
 . exact⟨xp fun w hw=>by rw[Aq.mp hw];nofun,rfl⟩
 . exact⟨xp fun w hw=>by rw[DW hw];nofun,rfl⟩
 . exact⟨⟨nofun,nofun⟩,rfl⟩
 . exact⟨⟨nofun,nofun⟩,rfl⟩
 . exact⟨xp fun w hw=>by rw[Aq.mp hw];nofun,rfl⟩
 . exact⟨⟨nofun,nofun⟩,rfl⟩
 . refine⟨xp fun w hw=>?_,rfl⟩
   rcases Ak.mp hw with rfl|hw
   . nofun
   . rw[Aq.mp hw];nofun
theorem sJ{α:Type}{xs:List α}{lo hi:Option Int}:(xC xs lo hi).length≤xs.length:=by
 unfold xC
 rw[Cv,Er]
 omega
theorem uM{α:Type}{xs:List α}{lo hi:Option Int}{x:α}(h:x∈xC xs lo hi):x∈xs:=by
 unfold xC at h
 exact List.mem_of_mem_drop (EU h)
theorem bg{x:Int}{xs:List Int}:xC (x::xs) none (some 1)≠[]:=by
 unfold xC
 simp[HT.sIx]
theorem ay(c:pI Φ){G:Str→Option Val}{env:M.Env}{N:List Str}{p:Nat}(h2:env[2]?=some (some (.ref p)))(h0:zT [none,some 2] env=[none,some (.ref p)])(hp:qE s p){P:Val→Sto→Prop}(h:∀(zs:List Int) (s':Sto),Sz zs→vH s p s'→P (tpI zs) s') :
 (evE Φ G env (.blt .tuple false (.cons (.comp false N [none,some 2] (.bin false .add (.lit (.int 2)) (.call "_law_draw" 0 (.cons (.var 1) (.cons (.lit (.int 7)) .nil)))) (.nm 0) (.range1 (.bin false .add (.lit (.int 1)) (.call "_law_draw" 0 (.cons (.var 2) (.cons (.lit (.int 4)) .nil))))) .nil) .nil)) s).post P:=by
 obtain⟨_,s1,hd1,a,rfl,ha,t1⟩:=c p 4 s hp (by omega) (by omega)
 refine dE.mpr (oK.mpr ?_)
 refine k9 (fun rest e s' acc=>(∃o,e=[o,some (.ref p)])∧vH s p s'∧∃os:List Int,acc=os.map .int∧os.length+rest.length=1+a∧∀x∈os,2≤x∧x≤8) ?_
 refine⟨⟨yJ 0 (1+a),none⟩,s1,qo (k:=1+a) (by
  have:=zc (m:=false) (op:=.add) (zK (Φ:=Φ) (G:=G) (env:=env) (s:=s) (v:=.int 1)) (x_call (f:="_law_draw") (v:=0) (zA (zB h2) (zA (zK (v:=.int 4)) zD)) hd1) sj
  rw[this,Gx];rfl) (by unfold zU;omega),⟨⟨none,h0⟩,t1,[],rfl,by rw[uj,A7,Dm],fun _ h=>nomatch h⟩,fun _ _ _ _ _=>rfl,?_,?_⟩
 . rintro x rest e s' acc ⟨⟨o,rfl⟩,hp',os,rfl,hl,ho⟩
   refine⟨_,rfl,ua.mpr ?_⟩
   rw[if_pos rfl]
   show (evE Φ G [some x,some (.ref p)] _ s').post _
   obtain⟨_,s2,hd2,w,rfl,hw,t2⟩:=c p 7 s' (hp'.at_ hp.lt) (by omega) (by omega)
   rw[zc zK (x_call (zA (zB rfl) (zA zK zD)) hd2) sj]
   refine zC.mpr ⟨⟨_,rfl⟩,hp'.trans t2,os++[2+(w:Int)],by rw[Ci];rfl,by rw[Ap,BR];rw[Ar]at hl;omega,fun y hy=>?_⟩
   rcases AN.mp hy with hy|hy
   . exact ho y hy
   . rw[Aq.mp hy];omega
 . rintro e s' acc ⟨⟨o,rfl⟩,hp',os,rfl,hl,ho⟩
   refine zC.mpr (nt.mpr (zC.mpr ?_))
   rw[A7]at hl
   exact h os s' ⟨by omega,by omega,ho⟩ hp'
theorem WN(c:pI Φ){G:Str→Option Val}{env:M.Env}{N:List Str}{zs:List Int}{n t p:Nat}(hz:Sz zs)(ht:t≤1)(hn:n≤40)(h3:env[3]?=some (some (.int (n:Nat))))(h0:zT [none,some 2,some 9,some 4] env=[none,some (.ref p),some (tpI zs),some (.int (t:Nat))])(hp:qE s p){P:Val→Sto→Prop}(h:∀(os:List Int) (s':Sto),os.length=n→(∀x∈os,0≤x∧x≤3)→vH s p s'→P (tpI os) s') :
 (evE Φ G env (.blt .tuple false (.cons (.comp false N [none,some 2,some 9,some 4] (.bin false .mul (.call "_law_draw" 0 (.cons (.var 1) (.cons (.blt .len false (.cons (.var 2) .nil)) .nil))) (.bin false .sub (.lit (.int 1)) (.bin false .mul (.var 3) (.blt .int false (.cons (.cmp .gt (.call "_law_draw" 0 (.cons (.var 1) (.cons (.lit (.int 3)) .nil))) (.lit (.int 0))) .nil))))) (.nm 0) (.range1 (.var 3)) .nil) .nil)) s).post P:=by
 have hz1:=hz.1
 have hz4:=hz.2.1
 refine dE.mpr (oK.mpr ?_)
 refine k9 (fun rest e s' acc=>(∃o,e=[o,some (.ref p),some (tpI zs),some (.int (t:Nat))])∧vH s p s'∧∃os:List Int,acc=os.map .int∧os.length+rest.length=n∧∀x∈os,0≤x∧x≤3) ?_
 refine⟨⟨yJ 0 n,none⟩,_,qo (zB h3) (by unfold zU;omega),⟨⟨none,h0⟩,hp.refl,[],rfl,by rw[uj,A7,Dm],fun _ h=>nomatch h⟩,fun _ _ _ _ _=>rfl,?_,?_⟩
 . rintro x rest e s' acc ⟨⟨o,rfl⟩,hp',os,rfl,hl,ho⟩
   refine⟨_,rfl,ua.mpr ?_⟩
   rw[if_pos rfl]
   show (evE Φ G [some x,some (.ref p),some (tpI zs),some (.int (t:Nat))] _ s').post _
   have hP':=hp'.at_ hp.lt
   obtain⟨_,s2,hd2,a,rfl,ha,t2⟩:=c p (zs.length:Nat) s' hP' (by omega) (by omega)
   obtain⟨_,s3,hd3,b,rfl,hb,t3⟩:=c p 3 s2 (t2.at_ hP'.lt) (by omega) (by omega)
   have hi:∀(b:Bool) s,blt .int false [.bool b] s=.ok (.int (if b then 1 else 0)) s:=fun _ _=>rfl
   rw[zc (x_call (zA (zB rfl) (zA (uD rfl) zD)) hd2) (zc zK (zc (zB rfl) (yU (zA (yN (x_call (zA (zB rfl) (zA zK zD)) hd3) zK gt_int) zD) (hi _ _)) (nD (by omega))) TR) (nD (by omega))]
   obtain⟨w,hw,hw0,hw3⟩:∃w:Int,(a:Int)*(1-(t:Int)*(if decide ((0:Int)<(b:Int))=true then 1 else 0))=w∧0≤w∧w≤3:=by
    refine⟨_,rfl,?_⟩
    have ht':t=0∨t=1:=by omega
    rcases ht' with rfl|rfl<;>by_cases h0:(0:Int)<(b:Int)
    . rw[decide_eq_true h0,if_pos rfl];simp;omega
    . rw[decide_eq_false h0,if_neg Am];simp;omega
    . rw[decide_eq_true h0,if_pos rfl];simp
    . rw[decide_eq_false h0,if_neg Am];simp;omega
   rw[hw]
   refine zC.mpr ⟨⟨_,rfl⟩,(hp'.trans t2).trans t3,os++[w],by rw[Ci];rfl,by rw[Ap,BR];rw[Ar]at hl;omega,fun y hy=>?_⟩
   rcases AN.mp hy with hy|hy
   . exact ho y hy
   . rw[Aq.mp hy];exact⟨hw0,hw3⟩
 . rintro e s' acc ⟨⟨o,rfl⟩,hp',os,rfl,hl,ho⟩
   refine zC.mpr (nt.mpr (zC.mpr ?_))
   exact h os s' (by rw[A7]at hl;omega) ho hp'
noncomputable abbrev en(ns:List Int)(o1 o2 o3 o4 o5 o6 o7 o8 o9 o10 o11 o12:Option Val):M.Env:=[some (.scr ns),o1,o2,o3,o4,o5,o6,o7,o8,o9,o10,o11,o12,none]
noncomputable def xk:List Val:=[.str "! sizes",.str "! sizes",.str "! ring",.str "! ring"]
theorem ae{s:Sto}:zQ .ne (.ref s.length) (.lst xk) (s++[Cel.lst xk])=.ok (.bool false) (s++[Cel.lst xk]):=by
 have h1:ze (s++[Cel.lst xk]) (.ref s.length)=.lst xk:=by simp[ze,yH,xk]
 show (match rD (ze (s++[Cel.lst xk]) (.ref s.length)) (ze (s++[Cel.lst xk]) (.lst xk)) with|some b=>Out.ok (Val.bool !b) (s++[Cel.lst xk])|none=>.stuck)=_
 rw[h1,show ze (s++[Cel.lst xk]) (.lst xk)=.lst xk from rfl,show rD (.lst xk) (.lst xk)=some true from by decide +kernel]
 rfl
theorem eP(c:Cs Φ)(ns:List Int):(run T Φ qT [.scr ns] (tb.map .tb)).post fun v _=>v=.bool true:=by
 have L9:9≤zU:=by decide
 have L10:10≤zU:=by decide
 have L6:6≤zU:=by decide
 have L2':2≤zU:=by decide
 have L1:1≤zU:=by decide
 rw[qT,xM]
 refine⟨rfl,?_⟩
 show (zW Φ T.gl (en ns none none none none none none none none none none none none) _ (tb.map .tb)).post _
 refine zu.mpr (xV (fun rest e s'=>(∃o1 o2 o3 o4 o5 o6 o7 o8 o9 o10 o11 o12,e=en ns o1 o2 o3 o4 o5 o6 o7 o8 o9 o10 o11 o12)∧yS tb s'=true∧∀x∈rest,∃k:Nat,x=.int k) (yJ 0 (max 1 (min ns.length 5))) (s1:=tb.map .tb) (fD (K:=5) rfl (by omega)) ⟨⟨_,_,_,_,_,_,_,_,_,_,_,_,rfl⟩,xa.mpr ⟨[],by rw[AY]⟩,?_⟩ ?_ ?_)
 . intro x hx
   obtain⟨k,_,rfl⟩:=kz hx
   exact⟨k,by congr 1;omega⟩
 . rintro x rest e s' ⟨⟨o1,o2,o3,o4,o5,o6,o7,o8,o9,o10,o11,o12,rfl⟩,hZ,hr⟩
   obtain⟨k,rfl⟩:=hr x (.head _)
   have hr':∀x∈rest,∃k:Nat,x=.int k:=fun x hx=>hr x (.tail _ hx)
   refine⟨_,rfl,?_⟩
   obtain⟨cv,hcell⟩:=c.cell ns k s'
   obtain⟨pa,pb,pc,pd,hpen,hb⟩:=c.pen cv s'
   show (zW Φ T.gl (en ns (some (.int k)) o2 o3 o4 o5 o6 o7 o8 o9 o10 o11 o12) _ s').post _
   refine xX (x_call (zA (x_call (zA (zB rfl) (zA (zB rfl) zD)) hcell) zD) hpen) ?_
   have hP:qE (s'++[sG pa pb pc pd]) s'.length:=⟨pa,pb,pc,pd,by simp,hb⟩
   have hZ1:yS tb (s'++[sG pa pb pc pd])=true:=jU hZ
   have hpl:tb.length≤s'.length:=ZV hZ
   show (zW Φ T.gl (en ns (some (.int k)) (some (.ref s'.length)) o3 o4 o5 o6 o7 o8 o9 o10 o11 o12) _ (s'++[sG pa pb pc pd])).post _
   generalize s'++[sG pa pb pc pd]=s1 at hP hZ1
   generalize s'.length=p at hP hpl
   obtain⟨_,s2,hd2,a2,rfl,ha2,t2⟩:=c.draw p 14 s1 hP (by omega) (by omega)
   have hP2:=t2.at_ hP.lt
   obtain⟨_,s3,hd3,th,rfl,ha3,t3⟩:=c.draw p 2 s2 hP2 (by omega) (by omega)
   have hP3:=t3.at_ hP2.lt
   obtain⟨n,hn,hn1,hn14⟩:∃n:Nat,(1:Int)+(a2:Int)=(n:Int)∧1≤n∧n≤14:=⟨1+a2,by omega,by omega,by omega⟩
   refine zu.mpr (dJ.mpr (sQ (zc zK (x_call (zA (zB rfl) (zA zK zD)) hd2) sj) (sQ (x_call (zA (zB rfl) (zA zK zD)) hd3) (nt.mpr (jA rfl ?_)))))
   rw[hn]
   show (zW Φ T.gl (en ns (some (.int k)) (some (.ref p)) (some (.int n)) (some (.int th)) o5 o6 o7 o8 o9 o10 o11 o12) _ s3).post _
   obtain⟨_,s4,hd4,a4,rfl,ha4,t4⟩:=c.draw p 14 s3 hP3 (by omega) (by omega)
   have hP4:=t4.at_ hP3.lt
   obtain⟨_,s5,hd5,od,rfl,ha5,t5⟩:=c.draw p 4 s4 hP4 (by omega) (by omega)
   have hP5:=t5.at_ hP4.lt
   refine zu.mpr (dJ.mpr (sQ (zc (x_call (zA (zB rfl) (zA zK zD)) hd4) (zB rfl) (bmod (by omega))) (sQ (x_call (zA (zB rfl) (zA zK zD)) hd5) (nt.mpr (jA rfl ?_)))))
   generalize hsp:(a4:Int)%(n:Int)=sp
   show (zW Φ T.gl (en ns (some (.int k)) (some (.ref p)) (some (.int n)) (some (.int th)) (some (.int sp)) (some (.int od)) o7 o8 o9 o10 o11 o12) _ s5).post _
   obtain⟨_,s6,hd6,a6,rfl,ha6,t6⟩:=c.draw p 9 s5 hP5 (by omega) (by omega)
   have hP6:=t6.at_ hP5.lt
   obtain⟨non,hnm,hnon⟩:=Z2 (vs:=k8) (k:=a6) (show a6<9 by omega)
   obtain⟨hn2,hn3⟩:=af non hnm
   refine xX (vU (vV (vs:=k8) (zA (yt zD (A8 _)) (zA (vV (zA zK zD) L1) (zA (yt (zA zK zD) L1) (zA (zc (yt (zA zK zD) L1) zK rfl) (zA zK (zA zK (zA (yt (zA zK zD) L1) (zA rfl (zA (yt (zA zK (zA (bN zK) zD)) L2') zD))))))))) L9) (x_call (zA (zB rfl) (zA zK zD)) hd6) (hnon s6)) ?_
   show (zW Φ T.gl (en ns (some (.int k)) (some (.ref p)) (some (.int n)) (some (.int th)) (some (.int sp)) (some (.int od)) (some non) o8 o9 o10 o11 o12) _ s6).post _
   obtain⟨_,s7,hd7,a7,rfl,ha7,t7⟩:=c.draw p 10 s6 hP6 (by omega) (by omega)
   have hP7:=t7.at_ hP6.lt
   obtain⟨bad,hbm,hbad⟩:=Z2 (vs:=bU) (k:=a7) (show a7<10 by omega)
   obtain⟨hb2,hb3⟩:=Yb bad hbm
   refine xX (vU (vV (vs:=bU) (zA (yt zD (A8 _)) (zA (vV (zA zK zD) L1) (zA (yt (zA zK zD) L1) (zA (yt (zA zK zD) L1) (zA (zc (yt (zA zK zD) L1) zK rfl) (zA zK (zA zK (zA (yt (zA zK zD) L1) (zA rfl (zA (yt (zA zK (zA zK zD)) L2') zD)))))))))) L10) (x_call (zA (zB rfl) (zA zK zD)) hd7) (hbad s7)) ?_
   show (zW Φ T.gl (en ns (some (.int k)) (some (.ref p)) (some (.int n)) (some (.int th)) (some (.int sp)) (some (.int od)) (some non) (some bad) o9 o10 o11 o12) _ s7).post _
   have t17:=((((t2.trans t3).trans t4).trans t5).trans t6).trans t7
   have hZ7:=kB hZ1 hpl t17
   refine cO (ay c.draw rfl rfl hP7 ?_)
   intro zs s8 hz t8
   have hP8:=t8.at_ hP7.lt
   have hZ8:=kB hZ7 hpl t8
   show (zW Φ T.gl (en ns (some (.int k)) (some (.ref p)) (some (.int n)) (some (.int th)) (some (.int sp)) (some (.int od)) (some non) (some bad) (some (tpI zs)) o10 o11 o12) _ s8).post _
   refine cO (WN c.draw hz (by omega) (by omega) rfl rfl hP8 ?_)
   intro r s9 hrl hrx t9
   have hZ9:=kB hZ8 hpl t9
   have hR:Rg r:=⟨⟨by omega,hrx⟩,fun e=>by rw[e,A7]at hrl;omega⟩
   subst hrl
   show (zW Φ T.gl (en ns (some (.int k)) (some (.ref p)) (some (.int (r.length:Nat))) (some (.int th)) (some (.int sp)) (some (.int od)) (some non) (some bad) (some (tpI zs)) (some (tpI r)) o11 o12) _ s9).post _
   -- the rings that are tried
   have mk:∀{l:List Int},l≠[]→l.length≤40→(∀x∈l,x∈r∨x=(od:Int))→Rg l:=fun{l} h1 h2 h3=>⟨⟨h2,fun x hx=>by
    rcases h3 x hx with h|h
    . exact hrx x h
    . rw[h];omega⟩,h1⟩
   have addI:∀(a b:List Int) (S:Sto),a.length+b.length≤1000→binOp false .add (tpI a) (tpI b) S=.ok (tpI (a++b)) S:=fun a b S h=>by
    show (if (a.map Val.int).length+(b.map Val.int).length≤zU then Out.ok (Val.tup (a.map Val.int++b.map Val.int)) S else .stuck)=_
    rw[if_pos (by rw[Ai,Ai];unfold zU;omega),←Ci]
   have hl1:=sJ (xs:=r) (lo:=none) (hi:=some sp)
   have hl2:=sJ (xs:=r) (lo:=some (sp+1)) (hi:=none)
   have hl3:=sJ (xs:=r) (lo:=none) (hi:=some 1)
   have m1:=addI (xC r none (some sp)) [(od:Int)] s9 (by rw[BR];omega)
   have m2:=addI (xC r none (some sp)++[(od:Int)]) (xC r (some (sp+1)) none) s9 (by rw[Ap,BR];omega)
   have m3:binOp false .mul (tpI [(od:Int)]) (.int (r.length:Nat)) s9=.ok (tpI (Az r.length (od:Int))) s9:=by
    show (if -1000≤((r.length:Nat):Int)∧((r.length:Nat):Int)≤1000∧[Val.int (od:Int)]≠[]∧([Val.int (od:Int)]:List Val).length≤1000 then Out.ok (Val.tup (Az ((r.length:Nat):Int).toNat [Val.int (od:Int)]).flatten) s9 else .stuck)=_
    rw[if_pos ⟨by omega,by omega,by simp,by simp⟩,Bj]
    have:∀m:Nat,(Az m [Val.int (od:Int)]).flatten=(Az m (od:Int)).map Val.int:=fun m=>by
     induction m with
     |zero=>rfl
     |succ m ih=>rw[BO,Cj,ih];rfl
    rw[this]
   have m4:=addI r (xC r none (some 1)) s9 (by omega)
   refine zu.mpr (xV (fun rest2 e s'=>s'=s9∧(∃o11,e=en ns (some (.int k)) (some (.ref p)) (some (.int (r.length:Nat))) (some (.int th)) (some (.int sp)) (some (.int od)) (some non) (some bad) (some (tpI zs)) (some (tpI r)) o11 o12)∧∀x∈rest2,∃l,x=tpI l∧Rg l) [tpI r,tpI (xC r none (some sp)++[(od:Int)]++xC r (some (sp+1)) none),tpI r.reverse,tpI (Az r.length (od:Int)),tpI (xC r none (some 1)),tpI (r++xC r none (some 1))] (s1:=s9) (oB (vV (zA (zB rfl) (zA (zc (zc (bO (zB rfl) qK (nj (zB rfl)) qK oa) (yt (zA (zB rfl) zD) L1) m1) (bO (zB rfl) (nj (zc (zB rfl) zK sj)) qK qK oa) m2) (zA (bO (zB rfl) qK qK (nj (bN zK)) (cZ (by omega))) (zA (zc (yt (zA (zB rfl) zD) L1) (zB rfl) m3) (zA (bO (zB rfl) qK (nj zK) qK oa) (zA (zc (zB rfl) (bO (zB rfl) qK (nj zK) qK oa) m4) zD)))))) L6) rfl) ⟨rfl,⟨_,rfl⟩,?_⟩ ?_ ?_)
   . intro x hx
     simp only[Ak,BB,or_false]at hx
     rcases hx with rfl|rfl|rfl|rfl|rfl|rfl
     . exact⟨_,rfl,hR⟩
     . refine⟨_,rfl,mk (by simp) (by rw[Ap,Ap,BR];omega) fun x hx=>?_⟩
       rcases AN.mp hx with hx|hx
       . rcases AN.mp hx with hx|hx
         . exact .inl (uM hx)
         . exact .inr (Aq.mp hx)
       . exact .inl (uM hx)
     . exact⟨_,rfl,mk (fun e=>hR.ne (List.reverse_eq_nil_iff.mp e)) (by rw[List.length_reverse];omega) fun x hx=>.inl (List.mem_reverse.mp hx)⟩
     . exact⟨_,rfl,mk (fun e=>by have:=congrArg CW e;rw[CI,A7]at this;omega) (by rw[CI];omega) fun x hx=>.inr (DW hx)⟩
     . refine⟨_,rfl,mk ?_ (by omega) fun x hx=>.inl (uM hx)⟩
       cases r with
       |nil=>exact absurd rfl hR.ne
       |cons y r=>exact bg
     . refine⟨_,rfl,mk (fun e=>hR.ne (List.append_eq_nil_iff.mp e).1) (by rw[Ap];omega) fun x hx=>?_⟩
       rcases AN.mp hx with hx|hx
       . exact .inl hx
       . exact .inl (uM hx)
   . rintro x rest2 e s10 ⟨rfl,⟨o11,rfl⟩,hr2⟩
     obtain⟨l,rfl,hl⟩:=hr2 x (.head _)
     refine⟨_,rfl,?_⟩
     show (zW Φ T.gl (en ns (some (.int k)) (some (.ref p)) (some (.int (r.length:Nat))) (some (.int th)) (some (.int sp)) (some (.int od)) (some non) (some bad) (some (tpI zs)) (some (tpI r)) (some (tpI l)) o12) _ s10).post _
     exact vC (mP (b:=true) (yY (x_call (zA (zB rfl) (zA (zB rfl) zD)) (c.fits zs l s10 hz hl)) za)) (xy ⟨rfl,⟨_,rfl⟩,fun x hx=>hr2 x (.tail _ hx)⟩)
   . rintro e s11 ⟨rfl,⟨o11,rfl⟩,_⟩
     show (zW Φ T.gl (en ns (some (.int k)) (some (.ref p)) (some (.int (r.length:Nat))) (some (.int th)) (some (.int sp)) (some (.int od)) (some non) (some bad) (some (tpI zs)) (some (tpI r)) o11 o12) _ s11).post _
     have Z:∀vs:List Val,yS tb (s11++[.lst vs])=true:=fun vs=>jU hZ9
     refine xX (kO (zA (x_call (zA (zB rfl) (zA (zB rfl) zD)) (c.got.fa _ _ s11 hZ9 hb2 hb3)) zD) L1) ?_
     show (zW Φ T.gl (en ns (some (.int k)) (some (.ref p)) (some (.int (r.length:Nat))) (some (.int th)) (some (.int sp)) (some (.int od)) (some non) (some bad) (some (tpI zs)) (some (tpI r)) o11 (some (.ref s11.length))) _ (s11++[.lst [.str "! sizes"]])).post _
     refine xZ (bnd (zB rfl) (bnd (zA (x_call (zA (zB rfl) (zA (zB rfl) zD)) (c.got.ga _ _ _ (Z _) hb2 hb3)) zD) (vW (show 1<zU by decide)))) ?_
     refine xZ (bnd (zB rfl) (bnd (zA (x_call (zA (zB rfl) (zA (zB rfl) zD)) (c.got.fb zs _ _ (Z _) hz hn2 hn3)) zD) (vW (show 2<zU by decide)))) ?_
     refine xZ (bnd (zB rfl) (bnd (zA (x_call (zA (zB rfl) (zA (zB rfl) zD)) (c.got.gb zs _ _ (Z _) hz hn2 hn3)) zD) (vW (show 3<zU by decide)))) ?_
     exact vC (yY (yN (zB rfl) (zc (zc (vV (zA zK zD) L1) zK rfl) (zc (vV (zA zK zD) L1) zK rfl) rfl) ae) za) (xy ⟨⟨_,_,_,_,_,_,_,_,_,_,_,_,rfl⟩,Z _,hr'⟩)
 . rintro e s' ⟨⟨o1,o2,o3,o4,o5,o6,o7,o8,o9,o10,o11,o12,rfl⟩,hZ,_⟩
   refine yT zK ?_
   show (zk false (tb.map .tb) (.bool true) s').post _
   rw[iJ hZ xJ]
   exact zC.mpr rfl
end
theorem cs:At T 8 Cs:=fun n hn=>by
 obtain⟨n,rfl⟩:∃m,n=m+8:=⟨n-8,by omega⟩
 have g4:Gl4 T:=⟨rfl,rfl,rfl,rfl⟩
 have whole:∀m,gL (zE T (m+1)):=fun m v l k s h=>by rw[zd (F:=F.xB) rfl];exact i8 h
 have wholes:∀m,pM (zE T (m+2)):=fun m vs l k s h=>by rw[zd (F:=F.yf) rfl];exact lx (whole m) h
 have stripW:∀m,pL (zE T (m+3)):=fun m v s h=>by rw[zd (F:=F.xA) rfl];exact lr rfl rfl (wholes m) h
 have needRing:∀m,uv (zE T (m+4)):=fun m r s h=>by rw[zd (F:=F66.yO) rfl];exact oZ (hU (stripW m)) h
 have yk:∀m,pK (zE T (m+3)):=fun m v s h h'=>by rw[zd (F:=F.yA) rfl];exact lq g4 (wholes m) h h'
 have needSizes:∀m,we (zE T (m+4)):=fun m zs s h=>by rw[zd (F:=F.yB) rfl];exact qM (gW (yk m)) h
 have going:∀m,gJ (zE T (m+1)):=fun m a f d z s h1 h2 h3 h4=>by rw[zd (F:=F66.yW) rfl];exact i6 h1 h2 h3 h4
 have unlike:∀m,kR (zE T (m+1)):=fun m ls s h=>by rw[zd (F:=F66.ye) rfl];exact lu h
 have wholeRd:∀m,sW (zE T (m+2)):=fun m r f d z s h1 h2 h3 h4=>by rw[zd (F:=F66.z6) rfl];exact mH (going m) (unlike m) h1 h2 h3 h4
 have fHueG:∀m,mY (zE T (m+1)):=fun m zs ns s=>by rw[zd (F:=F.zp) rfl];exact iz
 have fRound:∀m,sV (zE T (m+5)):=fun m zs r s h1 h2=>by rw[zd (F:=F66.zL) rfl];exact mF (needSizes m) (needRing m) (fHueG (m+3)) (wholeRd (m+2)) h1 h2
 have fitsR:∀m,kQ (zE T (m+6)):=fun m zs r s h1 h2=>by rw[zd (F:=F66.zw) rfl];exact ll (fRound m) h1 h2
 have rounds:∀m,ox (zE T (m+1)):=fun m a z s h1 h2 h3=>by rw[zd (F:=F61.yV) rfl];exact mG h1 h2 h3
 have lwrong:∀m,pJ (zE T (m+2)):=fun m zs r s h1 h2=>by rw[zd (F:=F61.zg) rfl];exact rn (rounds m) h1 h2
 have lfits:∀m,gK (zE T (m+7)):=fun m zs r s h1 h2=>by rw[zd (F:=F61.yq) rfl];exact i7 (lwrong (m+4)) (fitsR m) (fRound (m+1)) h1 h2
 have xRing:∀m,Zn (zE T (m+4)) (zq T (m+4)):=fun m v s h1 h2=>RzF.up (F:=F66.yO) (gX (stripW m) rfl h1 h2) rfl rfl
 have xSizes:∀m,gT (zE T (m+4)) (zq T (m+4)):=fun m v s h1 h2=>RzF.up (F:=F.yB) (jZ (yk m) rfl h1 h2) rfl rfl
 have xFR:∀m,XFR "first_round_wrong" (zE T (m+5)) (zq T (m+5)):=fun m=>
  ⟨fun v w s h1 h2=>RzF.up (F:=F66.zL) (bV (xSizes m) h1 h2) rfl rfl,
   fun zs w s h h1 h2=>RzF.up (F:=F66.zL) (bW (needSizes m) (xRing m) h h1 h2) rfl rfl⟩
 have xFits:∀m,XFR "fits_round" (zE T (m+6)) (zq T (m+6)):=fun m=>
  ⟨fun v w s h1 h2=>RzF.up (F:=F66.zw) (nB ((xFR m).a v w s h1 h2)) rfl rfl,
   fun zs w s h h1 h2=>RzF.up (F:=F66.zw) (nB ((xFR m).b zs w s h h1 h2)) rfl rfl⟩
 have got:∀m,VF (zE T (m+7)):=fun m=>
  ⟨fun v w s hz h1 h2=>pf ((xFits m).a v w s h1 h2) rfl rfl hz rfl,
   fun zs w s hz h h1 h2=>pf ((xFits m).b zs w s h h1 h2) rfl rfl hz rfl,
   fun v w s hz h1 h2=>pf ((xFR (m+1)).a v w s h1 h2) rfl rfl hz rfl,
   fun zs w s hz h h1 h2=>pf ((xFR (m+1)).b zs w s h h1 h2) rfl rfl hz rfl⟩
 have cell:∀m,Zj (zE T (m+1)):=fun m ns k s=>by
  obtain⟨c,h⟩:=cL (T:=T) (Φ:=zE T m) (s:=s) ns k
  exact⟨c,by rw[zd (F:=F.z7) rfl];exact h⟩
 have pen:∀m,Zk (zE T (m+1)):=fun m c s=>by
  obtain⟨a,b,e,d,h,h2⟩:=cN (T:=T) (Φ:=zE T m) (s:=s) c
  exact⟨a,b,e,d,by rw[zd (F:=F75.yP) rfl];exact h,h2⟩
 have draw:∀m,pI (zE T (m+1)):=fun m p k s h1 h2 h3=>by rw[zd (F:=F75.yZ) rfl];exact iy h1 h2 h3
 exact⟨cell (n+7),pen (n+7),draw (n+7),lfits (n+1),got (n+1)⟩
theorem Xo(ns:List Int):∃s',zE T 9 "law" 0 [.scr ns] (tb.map .tb)=.ok (.bool true) s':=by
 obtain⟨v,s',h,rfl⟩:=eP (cs 8 (by omega)) ns
 exact⟨s',by rw[zd (F:=qT) rfl];exact h⟩
end P62
end
section
open PySem PySem.W PyProof.Rows
theorem P62.hx:P62.qT.ps=[("_law_script":Str)]:=by kernel_rfl
theorem P62.hF:(M.kA P62.fnL P62.glL P62.tb P62.xc P62.md).fn P62.dd.name 0=some P62.qT:=by kernel_rfl
theorem P62.hgl:P62.glL=P62.gl.map fun p=>(p.1,M.gv p.2):=by kernel_rfl
noncomputable def P62.ws1:List Str:=["strip","sizes","number","place","hue","draft","paper","fit","great","lot","ring","round"]
noncomputable def P62.ws2:List Str:=["stand","text","deed","line"]
theorem P62.kst:M.ma (P62.top 42) P62.X.cs (P62.ws1++P62.ws2) (some "! "):=by
 refine⟨by kernel_rfl,by decide +kernel,?_,by decide +kernel⟩
 exact⟨P62.X.cs.take 4,(P62.X.cs.drop 4).take 4,(P62.X.cs.drop 8).take 4,P62.X.cs.drop 12,P62.ws1,P62.ws2,_,_,_,_,_,_,_,_,_,_,_,_,_,_,_,_,_,_,_,_,_,_,_,_,_,_,_,_,_,_,_,_,_,_,_,_,_,_,_,_,_,_,_,_,_,_,_,_,_,_,_,_,_,_,_,_,_,_,_,_,_,rfl,rfl,rfl,by decide +kernel,rfl,rfl⟩
theorem P62.Tu:M.pO true "_law_kind" (P62.top 43):=⟨by kernel_rfl,by decide +kernel,⟨.Name "" default,_,_,_,_,default,_,_,_,_,_,_,default,default,default,default,default,default,default,default,0,0,rfl⟩,by decide +kernel⟩
theorem P62.hS:∀b,P62.md b=true→P62.D.lookup (L2.yl b)=some ((fun b=>match b with|true=>P62.top 43|false=>P62.top 0) b)∧M.pO b "_law_kind" ((fun b=>match b with|true=>P62.top 43|false=>P62.top 0) b)
 |true,_=>⟨rfl,P62.Tu⟩|false,h=>by cases h
theorem P62.m5:((("HueError":Str))::P62.X.rz).all (fun c=>M.dB P62.q c)=true:=by decide +kernel
theorem P62.m6:P62.X.tb.all (fun g=>(E4 P62.q).any (fun d=>decide (d.name=g))&&(P62.D.lookup g).isSome)=true:=by decide +kernel
theorem PySem.Challenge.cw_evenhues_k62_rings_that_fit_holds : PySem.Challenge.rw_evenhues_k62_rings_that_fit.Holds := by
 exact M.Yj (n:=9) _ P62.Wq P62.left P62.hgl P62.fN P62.hp P62.hk P62.hwr P62.ok P62.bare P62.hw (by kernel_rfl) P62.hdf ⟨rfl,by decide,by decide,rfl⟩ P62.hF P62.hx P62.W2 rfl (by decide +kernel) rfl P62.kst P62.hS rfl (by decide +kernel) (by decide +kernel) P62.m5 P62.m6 (fun ns _=>P62.Xo ns)
end
