import PyProof.Rows.All
import Wide.All
import OpenK.AllK
import Wide.FinOn
import Lean
import PyProof.EqAt
import PyProof.EqKinds
import PyProof.TupleCall
import KE.KTryMore
import PyProof.P3Eq
import PyProof.NeData
import PyProof.P3In
import PyProof.Rows.EnumRows
import PyProof.ZipIter
import PyProof.Rows.SetFrom
import PyProof.ExcClass
import OpenK.KRaise
import PyProof.ExcBaseAll.ValueError
import KE.KLam
import PyProof.ExcArgsOwn
import PyProof.IsiH_list
import PySem.Challenge.RW_evenhues_k62_rings_that_fit
set_option genSizeOf false
set_option genSizeOfSpec false
set_option bootstrap.genMatcherCode false
set_option Elab.async false
set_option linter.all false
set_option maxRecDepth 100000
set_option maxHeartbeats 4000000
open And renaming intro->Ak
open Array renaming length_toList->Cv
open Bool renaming and_eq_true->Aa,false_ne_true->Aj,or_eq_true->AL,false_eq_true->AV,not_eq_true'->AX,eq_iff_iff->Ci,false_and->Dl,or_true->EX,or_eq_false_iff->EY,and_eq_true_iff->E3,and_self->FK
open Eq renaming trans->GY
open False renaming elim->AF
open ForInStep renaming yield->Cm
open Iff renaming rfl->C1
open Int renaming toNat_natCast->Bk,emod_lt_of_pos->Fv,le_trans->Gh,emod_nonneg->GC,natCast_add->GD
open LawfulBEq renaming eq_of_beq->Cr
open LawfulMonad renaming pure_bind->EH
open List renaming getElem?_eq_getElem->Ae,size_toArray->Ah,length_map->Ai,mem_cons->Al,mem_cons_of_mem->Ao,length_append->Ap,mem_singleton->Aq,length_cons->Ar,getElem?_eq_some_iff->As,lookup_cons->Au,mem_cons_self->Av,getD_eq_getElem?_getD->Aw,replicate->Az,range->AE,all_eq_true->AI,map_cons->AJ,mem_append->AO,getElem?_map->AQ,getElem?_set_self->AR,mem_of_getElem?->AS,mem_append_right->AU,mem_range->AW,isEmpty_iff->AY,append_nil->AZ,filterMap_cons->A4,length_nil->A8,getElem?_append_left->Bb,mem_append_left->Bc,mem_map->Bi,append_assoc->Bj,getElem_of_mem->Bw,nodup_cons->Bz,not_mem_nil->BC,length_range->BE,contains_cons->BI,getElem?_set_ne->BK,any_eq_true->BL,getElem?_append_right->BO,flatMap_cons->BP,replicate_succ->BQ,drop_eq_getElem_cons->BS,length_singleton->BU,mem_filterMap->BW,mem_filter->B0,length_pos_iff->B1,getElem_mem->B5,filterMap_map->B8,getElem?_eq_none->B9,length_filter_le->Ca,map_append->Co,flatten_cons->Cp,pairwise_map->Cq,flatMap_append->Cw,length_take->Cy,length_replicate->CK,length_set->CM,getElem?_toArray->CN,getElem?_eq_none_iff->CU,length->CZ,map_map->C7,filter_append->Dd,pairwise_lt_range->Dh,range'->Di,drop_zero->Dn,mem_flatMap->Dx,all_cons->DA,nil_append->DJ,map_nil->DT,zip_cons_cons->DW,eq_of_mem_replicate->D1,foldl->D5,getElem?_replicate->Eb,range_succ_eq_map->El,findIdx?_eq_some_iff_getElem->Em,flatMap_singleton->En,length_drop->Ey,filter_cons->EB,pairwise_flatMap->EK,of_mem_zip->EO,forIn_cons->EV,mem_of_mem_take->E1,range_succ->E2,getElem?_range->E7,map_congr_left->E8,map_eq_nil_iff->E9,map->Fe,length_range'->Fw,set_comm->FA,take_sublist->FO,nodup_append->FW,ext_getElem?->FX,getElem?_take_of_lt->F3,cons_append->F9,length_filterMap_le->Gg,getElem_map->Gj,flatMap_map->Gk,flatMap_nil->Gm,range'_zero->Gn,isEmpty_map->Gq,lookup_eq_none_iff->Gu,flatMap_eq_nil_iff->Gv,foldl_cons->Gz,filter_nil->GF,forIn_nil->GP
open List.Pairwise renaming imp->Ei,nil->FR
open List.cons renaming inj->DF
open Nat renaming le_refl->Ag,le_trans->Ax,ne_of_lt->AB,lt_of_lt_of_le->AD,zero_le->A9,lt_irrefl->Bg,lt_succ_of_lt->BD,lt_succ_self->Cz,le_succ->Dg,ne_of_gt->Dk,zero_add->Dq,mul_le_mul_right->Du,le_of_lt->DM,succ_mul->DS,mul_le_mul->D6,min_le_right->Ew,lt_of_sub_eq_succ->EI,le_of_eq->EZ,mul_le_mul_left->E5,le_of_not_lt->F7
open Ne renaming symm->Bq
open Option renaming none->Ab,map_eq_some_iff->A6,isNone_iff_eq_none->Cc,isSome_iff_exists->Cj,map_some->DH,bind_eq_some_iff->Ea,getD_none->F5
open Option.some renaming inj->AG,injEq->Ef
open Prod renaming ext->Et
open PyProof.Rows renaming slot_tuple_getitem->A2,assignInOrder_cons->CG,callWith_type1->CH,firstMet->CO,step_dedup->C8,boot_sorted->D0,joinParts_cons->D9,tupleItemsOf_->Er,boot_min->EJ,entry_tuple_getitem->E4,recsOf->Fb,args_tuple_getitem->Fm,subscriptTail->FD,assignInOrder_nil->FN,Top->Gp,boot_tuple->Gs,Subscript_->GW
open PySem renaming wpAny_bind->Ac,wpAny_pure->Am,sizeLine->AA,Spec->AH,starEach->AM,mainGlobals->AN,mem_of_lookup->A0,sizeLine_eq->A3,strLen_append->A7,wpAny_mono->Ba,wpAny_newObj_type->Be,compareOp->Bl,NameKind->Bn,wpAny_loadPart_at->Bp,wpAny_loadPart'->Bt,FuncData->Bu,wpAny_truthy_bool->Bx,sliceBounds->By,binaryOp->BB,treeTable->BH,Env->BJ,wpAny_standAt->BN,Arguments->BV,wpAny_Call_Name_kw->BX,wpAny_holding->BY,excClassObj->B2,sysModules->B3,swappedStores->B4,wpAny_pyIter_tuple->B6,bootBuiltins->Cf,letOwnedTupleGo->Cg,wpAny_callSpecial?_slot->Cu,wpAny_field->CC,call_meets->CD,codeAny_mono->CI,cellsFrom->CJ,foldedSetIterable->CT,assignEach->CV,wpAny_binaryOp_repeat_ref->CW,recursionLimit->C0,checkBuiltinCall->C6,Comprehension->C9,typeIs_int->Dc,bindName->Df,wpAny_pyIter_list->Dj,wpAny_call_entry->Ds,codeAny_call_builtin->Dv,behindInMarks->Dy,attributeBase->DB,wpAny_isSubtype_exc->DG,wpAny_passesOwn->DI,codeAny_builtin->DK,wpAny_raiseStmt_made_sub->DX,codeAmong->DY,TriplesOk->DZ,wpAny_bindName->D3,wpAny_call->D4,wpAny_seqItems->D7,wpAny_pyIter_enum->Eh,assignInOrder->Eo,swapsWithSole->Ep,wpAny_execs_cons->Eu,wpAny_execs_nil->EM,wpAny_rule->EN,wpAny_typeOf->ET,wpAny_tryCatch->Fd,constantsAlone->Fg,wpAny_letGo->Fh,swapsWith->Fj,seqItems?->Ft,wpAny_newFunctionEnv_cells->FC,wpAny_letOwnedTupleGo_enum->FF,plainId_quiet->FG,foldedForSure->FJ,wpAny_sequenceKey->FP,slot_list_getitem->FQ,wpAny_Call_ofName->FV,builtinsNs->FY,GenState->F2,noFill_tuple_add->F4,wpAny_getItem_list_slice->F6,compTurn->Ga,wpAny_comprehension_free->Gb,wpAny_Dict_empty->Ge,wpAny_pyNext_enum_itemD->Gr,DictEntry->Gw,importedModules->Gx,wpAny_updateSeq->GB,isCodeTable->GH,newFunctionEnv->GO,wpAny_setField->GQ,bindArgs->GU,typeLookup->GV,closureFor->GX,cameBackBy->G0,seq_tuple_add->G3,lastMarks->G6,slicePick->G7
open PySem.Around renaming frames_deeper->ES,under_plainId->EW
open PySem.AutoSeq1 renaming idx_int->Gd
open PySem.Builtin.Builtins renaming bindParams->Fu
open PySem.Builtin.List renaming listTooLong->DR
open PySem.Builtin.Range renaming rangeSize->Ct
open PySem.Builtin.Slice renaming sliceAdjust->BR,slicePlaces->Cb,sliceApplied->CP,sliceFields->FZ
open PySem.Builtin.SmallTypes renaming nextOf->CY
open PySem.Builtin.Tuple renaming tupleExact->Bv,tupleItemsOf->Dz,tupleTooMany->DC,tupleIsExact->FE
open PySem.Calls renaming Constant_str->DO,Name_function_global->Fy
open PySem.Code renaming quiet_builtin->DV
open PySem.Data renaming fields->GG
open PySem.Expr renaming Name->EG,JoinedStr->GK,Attribute->GL,Subscript->GN,Constant->G4
open PySem.Expr.Compare renaming elim->FT
open PySem.Expr.FormattedValue renaming elim->F8
open PySem.Expr.ListComp renaming elim->Fp
open PySem.Expr.Tuple renaming elim->GA
open PySem.F renaming slot_int_rmul->Ck,plain_min_loop->CA,slot_tuple_iterator_next->CQ,called_set->C4,typeOf_object_class->Dr,slot_tuple_mul->Dt,args_tuple_add_2->DQ,entry_tuple_add->Ec,plainAttrs_list->Ed,args_int_rmul_2->Eg,slot_tuple_add->Ek,slot_int_index->Ez,entry_int_rmul->EA,fills_int_mul->EU,slot_gs_get->E6,args_tuple_iterator_next_1->Fc,args_tuple_mul_2->Fq,entry_tuple_iterator_next->Fs,excBase_ValueError->FH,excAttr_ValueError->FI,entry_tuple_mul->FU,entry_min_loop->Gi
open PySem.Flow renaming next->G5
open PySem.Heap renaming get?_push_of_some->Ad,lt_size->An,get?_push_size->Ay,size_push->A5,get?_update_other->Bs,get?_update_self->CL,SameBut->DN,MadeExcOf->D8,get?_none_of_le->EL
open PySem.Heap.IsSliceOf renaming new->Fo
open PySem.NameKind renaming free->AK,cell->Bo,globalImplicit->Ee
open PySem.Obj renaming mapSeq->F0
open PySem.Paired renaming length->G2
open PySem.PyData renaming eqv->Dw,weightAll->Gf,canLay0->GR
open PySem.SeqAt renaming EqAt->Br
open PySem.Str renaming ofString->Dm,empty->EF
open PySem.Value renaming ref->A1,none->Ce,bool->CB,str->DL,type->D2,builtin->Es,int->Fi
open PySem.Value.type renaming inj->Dp
open PySem.W renaming Frag->Af,behindTheImports->BA,nsIn->BF,kia_one->BG,fnOf->BM,codeIn->BZ,keepIn->B7,topFrame->De,mg_of->DE,callWith_K->DP,cellsFrom_some->Ej,tabObj->Ff,recOk->Fx,methodObj->FL,openGood->F1,instObj->Gy,lookIn->GI,kitOne->GJ,piecesOf->GS,fencedOpening->G1
open PySem.Walks renaming list->GZ
open Sum renaming inl->EC,inr->ED
open ToString renaming toString->DU
open True renaming intro->Bh
section
namespace Hd
open PySem
inductive G where
 |int (i:Int)|str (x:Str)|ctup (ns:List Int)
noncomputable def args(s:Stmt):BV:=match s with
 |.FunctionDef _ a _ _ _ _ _ _ _ _=>a
 |_=>{posonlyargs:=[],args:=[],vararg:=none,kwonlyargs:=[],kw_defaults:=[],kwarg:=none,defaults:=[]}
noncomputable def body(s:Stmt):List Stmt:=match s with
 |.FunctionDef _ _ b _ _ _ _ _ _ _=>b
 |_=>[]
noncomputable def scope(s:Stmt):Scope:=match s with
 |.FunctionDef _ _ _ _ _ _ sc _ _ _=>sc
 |_=>{kind:=.function,names:=[],isGenerator:=false,isCoroutine:=false}
noncomputable def posOf(s:Stmt):Pos:=match s with
 |.FunctionDef _ _ _ _ _ _ _ _ _ p=>p
 |_=>⟨0,0,0,0⟩
noncomputable def X4(x:Str)(st:Stmt):DefRec:=⟨x,args st,body st,scope st,posOf st⟩
noncomputable def RC:List Str:=["len","all","any","tuple","list","sorted","repr","max","min","sum","int","isinstance","divmod","str","bool","dict","set","range","enumerate","zip"]
noncomputable def n9:List Value->Option (List Int)
 |[]=>some []
 |.int i _::r=>(n9 r).map (i::·)
 |_=>none
noncomputable def nsH(h:Heap)(x:Str):Option (Option Value):=match h.get? AN with
 |some o=>BF [(AN,o)] AN x
 |none=>none
noncomputable def US(fd:Bu):Bu:={fd with kwdefaults:=.none,doc:=.none,pyModule:=.none,annotations:=none,code:=.none,closureTuple:=.none}
noncomputable def xH(o:Obj):Bool:=(match o.cls with|.none=>true|_=>false)&&(match o.data with|.fields _=>true|_=>false)
noncomputable def fw(h:Heap)(cd:Value)(x:Str):Bool:=match cd with
 |.ref c=>(match h.get? c with
  |some o=>!xH o&&BZ [(c,o)] (.ref c) x
  |none=>false)
 |_=>false
noncomputable def Zw(h:Heap)(x:Str):Option Bu:=match nsH h x with
 |some (some (.ref f))=>(match h.get? f with
  |some ⟨_,_,.func fd,_⟩=>if fw h fd.code x then some (US fd) else none
  |_=>none)
 |_=>none
noncomputable def Yk(p:Str × Stmt):Option Bu:=some (BM p.1 p.1 (args p.2) (body p.2) (scope p.2) .none .none .none .none none .none .none)
noncomputable def glB(h:Heap)(x:Str):G->Bool
 |.int i=>(match nsH h x with|some (some (.int j _))=>decide (i=j)|_=>false)
 |.str y=>(match nsH h x with|some (some (.str z _))=>decide (y=z)|_=>false)
 |.ctup ns=>(match nsH h x with
  |some (some (.ref a))=>(match h.get? a with
   |some ⟨.type n,_,.seq us _,_⟩=>decide (n="tuple")&&decide (us.toList.length<=1000)&&decide (n9 us.toList=some ns)
   |_=>false)
  |_=>false)
noncomputable def blB(h:Heap)(x:Str):Bool:=match nsH h x with|some none=>true|_=>false
noncomputable def cU(D:List (Str × Stmt))(gl:List (Str × G))(s:Shared):List (Option Bu) × Bool:=(D.map fun p=>Zw s.heap p.1,gl.all (fun p=>glB s.heap p.1 p.2)&&RC.all fun x=>blB s.heap x)
noncomputable def aQ(D:List (Str × Stmt)):List (Option Bu) × Bool:=(D.map Yk,true)
end Hd
end
section
namespace Hd
open PySem PySem.W
noncomputable def hsh(w:World)(x:Str):Int:=reduceHash (w.params.strHash x.cps)
noncomputable def ent(w:World)(x:Str)(t:Tok)(v:Value):Gw:=⟨hsh w x,.str x t,v⟩
noncomputable def aq(w:World)(n:Nat)(t:Tok)(b:Addr)(md:Value)(x:Str)(l:Int):List Obj:=
 [{cls:=.type "tuple",data:=.seq #[.ref b]},
  {cls:=.type "builtin_function_or_method",data:=.fields #[.builtin "type.__prepare__",.type "type"]},
  {cls:=.type "dict",data:=.dict #[ent w "__module__" (t+7) md,ent w "__qualname__" (t+9) (.str x (t+8)),ent w "__firstlineno__" (t+11) (.int l (t+10)),ent w "__static_attributes__" (t+12) (.ref (n+7))] 4},
  {cls:=.type "tuple",data:=.seq #[]},
  {cls:=.none,data:=.fields #[]},
  {cls:=.type "code",data:=.fields #[.str x (t+2),.str x (t+3),.str "/claim/cut.py" (t+4),.int l 0,.int 0 0,.int 0 0,.int 0 0,.int 0 0,.ref (n+3),.bool false,.int 181 0,.ref (n+4),.none,.none,.none,.none,.int (t+5) 0,.int l 0,.str "/claim/cut.py" (t+6)]},
  {cls:=.type "frame",data:=.plain,slots:=#[some (.ref (n+5)),some (.ref 3),some (.ref (n+2)),none,some md,none,some (.ref 0)]},
  {cls:=.type "tuple",data:=.seq #[]},
  {cls:=.type "dict",data:=.dict #[ent w "__module__" (t+7) md,ent w "__firstlineno__" (t+11) (.int l (t+10)),ent w "__static_attributes__" (t+12) (.ref (n+7)),ent w "__doc__" (t+13) .none] 2},
  {cls:=.type "type",data:=.cls {name:=x,bases:=[.ref b],mro:=[.ref (n+9),.ref b,.type "ValueError",.type "Exception",.type "BaseException",.type "object"],ns:=n+8,qualname:=x},slots:=#[some (.ref n),none,some (.str x t),some (.str x (t+8)),some (.builtin "ValueError.__new__"),some (.bool true)]},
  {cls:=.type "super",data:=.fields #[.ref (n+9),.ref (n+9),.ref (n+9)]},
  {cls:=.type "builtin_function_or_method",data:=.fields #[.builtin "object.__init_subclass__",.ref (n+9)]}]
noncomputable def fq(w:World)(b:Addr)(md:Value):Nat->Nat->List (Str × Int)->List Obj
 |_,_,[]=>[]
 |n,t,c::cs=>aq w n t b md c.1 c.2++fq w b md (n+12) (t+16) cs
noncomputable def eP(w:World):Nat->Nat->List (Str × Int)->List Gw
 |_,_,[]=>[]
 |n,t,c::cs=>ent w c.1 (t+15) (.ref (n+9))::eP w (n+12) (t+16) cs
noncomputable def fv:Nat->List (Str × Int)->List Value
 |_,[]=>[]
 |n,c::cs=>.int c.2 0::.int 0 0::.ref (n+5)::fv (n+12) cs
noncomputable def aE:Nat->List (Str × Int)->List Value
 |_,[]=>[]
 |n,_::cs=>.ref (n+9)::aE (n+12) cs
noncomputable def Rk(es':List Gw):Obj->Obj
 |⟨c,d,.dict es n,s⟩=>⟨c,d,.dict ⟨es.toList++es'⟩ (n+es'.length),s⟩
 |o=>o
noncomputable def Rm(vs':List Value):Obj->Obj
 |⟨c,d,.fields vs,s⟩=>⟨c,d,.fields ⟨vs.toList++vs'⟩,s⟩
 |o=>o
noncomputable def Rl(vs':List Value):Obj->Obj
 |⟨c,d,.cls k,s⟩=>⟨c,d,.cls {k with subclasses:=k.subclasses++vs'},s⟩
 |o=>o
noncomputable def atL(f:Obj->Obj):Nat->List Obj->List Obj
 |_,[]=>[]
 |0,o::os=>f o::os
 |n+1,o::os=>o::atL f n os
noncomputable def eB(st:Stmt):Stmt:=match st with
 |.ClassDef _ _ _ b _ _ _ _ _ _ _=>b.getD 0 st
 |_=>st
noncomputable def V7(w:World)(n:Nat)(t:Tok)(b:Addr)(md:Value)(st:Stmt)(l:Int):List Obj:=
 let x:Str:="TooGreat"
 let f:Bu:={name:="__init__",qualname:="TooGreat.__init__",params:=args (eB st),body:=.stmts (body (eB st)),scope:=scope (eB st),globals:=0,closure:=[],defaults:=.none,kwdefaults:=.none}
 [{cls:=.type "tuple",data:=.seq #[.ref b]},
  {cls:=.type "builtin_function_or_method",data:=.fields #[.builtin "type.__prepare__",.type "type"]},
  {cls:=.type "dict",data:=.dict #[ent w "__module__" (t+7) md,ent w "__qualname__" (t+9) (.str x (t+8)),ent w "__firstlineno__" (t+11) (.int l (t+10)),ent w "__init__" (t+20) (.ref (n+13)),ent w "__static_attributes__" (t+23) (.ref (n+14))] 5},
  {cls:=.type "tuple",data:=.seq #[]},
  {cls:=.none,data:=.fields #[.int (l+2) 0,.int 4 0,.ref (n+12)]},
  {cls:=.type "code",data:=.fields #[.str x (t+2),.str x (t+3),.str "/claim/cut.py" (t+4),.int l 0,.int 0 0,.int 0 0,.int 0 0,.int 0 0,.ref (n+3),.bool false,.int 181 0,.ref (n+4),.none,.none,.none,.none,.int (t+5) 0,.int l 0,.str "/claim/cut.py" (t+6)]},
  {cls:=.type "frame",data:=.plain,slots:=#[some (.ref (n+5)),some (.ref 3),some (.ref (n+2)),none,some md,none,some (.ref 0)]},
  {cls:=.type "tuple",data:=.seq #[]},
  {cls:=.none,data:=.fields #[]},
  {cls:=.type "tuple",data:=.seq #[.str "self" (t+15),.str "many" (t+16),.str "most" (t+17)]},
  {cls:=.type "tuple",data:=.seq #[]},
  {cls:=.none,data:=.func f},
  {cls:=.type "code",data:=.fields #[.str "__init__" (t+12),.str "TooGreat.__init__" (t+13),.str "/claim/cut.py" (t+14),.int (l+2) 0,.int 3 0,.int 0 0,.int 0 0,.int 3 0,.ref (n+7),.bool true,.int 181 0,.ref (n+8),.none,.ref (n+9),.ref (n+10),.ref (n+11),.int (t+18) 0,.int (l+2) 0,.str "/claim/cut.py" (t+19)]},
  {cls:=.type "function",data:=.func {f with globals:=3,pyModule:=md,code:=.ref (n+12)}},
  {cls:=.type "tuple",data:=.seq #[.str "many" (t+21),.str "most" (t+22)]},
  {cls:=.type "dict",data:=.dict #[ent w "__module__" (t+7) md,ent w "__firstlineno__" (t+11) (.int l (t+10)),ent w "__init__" (t+20) (.ref (n+13)),ent w "__static_attributes__" (t+23) (.ref (n+14)),ent w "__doc__" (t+24) .none] 2},
  {cls:=.type "type",data:=.cls {name:=x,bases:=[.ref b],mro:=[.ref (n+16),.ref b,.type "ValueError",.type "Exception",.type "BaseException",.type "object"],ns:=n+15,qualname:=x},slots:=#[some (.ref n),none,some (.str x t),some (.str x (t+8)),some (.builtin "ValueError.__new__"),some (.bool true)]},
  {cls:=.type "super",data:=.fields #[.ref (n+16),.ref (n+16),.ref (n+16)]},
  {cls:=.type "builtin_function_or_method",data:=.fields #[.builtin "object.__init_subclass__",.ref (n+16)]}]
noncomputable def tgF(w:World)(n t:Nat)(b:Addr)(md:Value)(cs:List (Str × Int))(st:Stmt)(l:Int)(s:Shared):Shared:=
 let m:=n+12*cs.length
 let u:=t+16*cs.length
 {s with toks:=u+27,heap:={s.heap with objs:=⟨atL (Rk (eP w n t cs++[ent w "TooGreat" (u+26) (.ref (m+16))])) 3 (atL (Rm (fv n cs++[.int l 0,.int 0 0,.ref (m+5)])) 12 (atL (Rl (aE n cs++[.ref (m+16)])) b s.heap.objs.toList))++(fq w b md n t cs++V7 w m u b md st l)⟩}}
noncomputable def vS(p:Program):Env:={scope:=p.main.scope,locals:=mainNs,globals:=mainNs,cells:=[],code:=.ref 13,frame:=some 14}
noncomputable def oB:Option Value:=some (.ref 6)
noncomputable def S0(p:Program)(w:World):Shared:=(G1 BH p w 100000).getD (start (opening p)).1
noncomputable def SA(p:Program)(w:World):Shared:=((topGo BH p w 11 oB 12 (S0 p w) (topStub p)).map Prod.fst).getD (S0 p w)
noncomputable def Bd(p:Program)(k:Nat):List Stmt:=(BA p).take 2++(((BA p).drop 2).take k++(BA p).drop (2+k))
noncomputable def Cd(p:Program)(k:Nat):Code:=.body (Bd p k) (vS p)
noncomputable def S1(p:Program)(k:Nat)(w:World):Shared:=((segRun BH p w 11 oB 1 1000 (SA p w) (GS ((BA p).take 2) (vS p) (Cd p k) default [De default])).map fun r=>r.2.1).getD (SA p w)
noncomputable def Vj(l:Nat):Pos:=⟨l,0,l+1,8⟩
noncomputable def Vk(l:Nat):Pos:=⟨l,0,l+5,24⟩
noncomputable def S3(p:Program)(cs:List (Str × Int))(l:Nat)(w:World):Shared:=tgF w 28 207 24 (.str "evenhues.errors" 187) cs ((BA p).getD (2+cs.length) (.Pass ⟨0,0,0,0⟩)) l (S1 p (cs.length+1) w)
noncomputable def chk(p:Program)(h:Heap)(z:Shared):Option Shared:=match staticsOk (Gx p.main.body) h z.heap&&namesBound p z.heap&&gensDone z&&laidKept h z.heap with
 |true=>some z
 |false=>none
theorem gD{p q:Program}{loose:List Str}{Xt:Shared->Bool}{α:Type}{Yf:Shared->α}{Ya:World->α}{T0 TA T1 T2:World->Shared}{N m k0 n1 n2 n3:Nat}{ann:Option Value}{env:Env}{l1 l2 l3:List Stmt}{cd:Code}{b0 b1 b2 qq:Pos}
 (hc:cd=.body (l1++(l2++l3)) env)
 (h0:∀w,G1 BH p w N=some (T0 w))
 (h1:∀w,((T0 w).heap.isNs AN&&(T0 w).gens.size == 0,(T0 w).heap.objs.size,(T0 w).heap.nsMap AN "__annotations__")=(true,m,ann))
 (hA:∀w,topGo BH p w m ann k0 (T0 w) (topStub p)=some (TA w,⟨denote BH (.body (l1++(l2++l3)) env),cd,b0,[De qq]⟩))
 (hB:∀w,segRun BH p w m ann 1 1 (TA w) (blockOf (l1++(l2++l3)) env cd b0 [De qq])=some (.next,TA w,cd,b0))
 (hC:∀w,segRun BH p w m ann 1 n1 (TA w) (GS l1 env cd b0 [De qq])=some (.next,T1 w,cd,b1))
 (hD:∀w,segRun BH p w m ann 1 n2 (T1 w) (GS l2 env cd b1 [De qq])=some (.next,T2 w,cd,b2))
 (hE:∀w,((topRun BH p w m ann n3 (T2 w) (restOf l3 env cd b2 [De qq])).bind (chk p (T0 w).heap)).map (fun z=>(openSeen q loose (Gx p.main.body) Xt true z,Yf z))=some (F1 q loose,Ya w))
 (le:Nat.ble (k0+(1+(n1+(n2+n3)))) N=true):LeftO p q loose Xt Yf Ya N:=fun w=>by
 have hs:=h1 w
 simp only[Prod.mk.injEq]at hs
 obtain⟨r,k1,k2⟩:=A6.mp (hE w)
 obtain⟨r',k3,k4⟩:=Ea.mp k1
 have go:=topRun_mono (N-(k0+(1+(n1+(n2+n3))))) _ _ _ _ (go_top (hA w) (piece_block (hB w) (piece_app (hC w) (piece_app (hD w) k3))))
 rw[Nat.add_sub_cancel' (Nat.le_of_ble_eq_true le)]at go
 have tf:topFrom BH p w N (T0 w)=some r:=by
  unfold topFrom
  rw[hs.1,hs.2.1,hs.2.2]
  dsimp only
  rw[go]
  unfold chk at k4
  exact k4
 unfold openEnds
 rw[h0 w,Option.bind_some,tf]
 exact congrArg some k2
theorem glue{α β γ δ ε:Type}{o:Option Shared}{f:Shared->α × β × γ × δ}{g:Shared->ε}{v:α × β × γ × δ}{u:ε}(h0:o.map (fun z=>(f z).1)=some v.1)(h1:o.map (fun z=>(f z).2.1)=some v.2.1)(h2:o.map (fun z=>(f z).2.2.1)=some v.2.2.1)(h3:o.map (fun z=>(f z).2.2.2)=some v.2.2.2)(h4:o.map g=some u):o.map (fun z=>(f z,g z))=some (v,u):=by
 cases o with
 |none=>cases h4
 |some z=>
  obtain⟨a,b,c,d⟩:=v
  exact congrArg some (Et (Et (AG h0) (Et (AG h1) (Et (AG h2) (AG h3)))) (AG h4))
end Hd
end
section
namespace Hd
open PySem PySem.W
structure XT where
 cs:List Str
 rz:List Str
 tb:List Str
noncomputable def adH(h:Heap)(x:Str):Option Addr:=match nsH h x with
 |some (some (.ref a))=>some a
 |_=>none
noncomputable def Xy(h:Heap)(x:Str):List (Addr × Obj):=match adH h x with
 |some a=>(match h.get? a with
  |some o=>(match o.data with
   |.cls cd=>(a,o)::(match h.get? cd.ns with
    |some n=>if xH n then [] else [(cd.ns,n)]
    |none=>[])
   |_=>[])
  |none=>[])
 |none=>[]
noncomputable def kcH(h:Heap):List Str->Frag
 |[]=>[]
 |x::xs=>Xy h x++kcH h xs
noncomputable def veM:List Value:=[.type "ValueError",.type "Exception",.type "BaseException",.type "object"]
noncomputable def aY(K:Frag)(C:Addr):Bool:=(findIn K (.ref C) "__getattribute__" == some (some (.builtin "BaseException.__getattribute__")))&&(findIn K (.ref C) "__getattr__" == some none)&&(findIn K (.ref C) "__class__" == some (some (.builtin "object.__class__"))) &&
 (subIn K (.ref C) (.type "BaseException") == some true)&&(subIn K (.ref C) (.type "object") == some true)&&(clsIn K C).isSome
noncomputable def cL(h:Heap)(C:Addr)(bm:List Value):Bool:=match h.get? C with
 |some o=>(match o.data with
  |.cls cd=>(cd.mro == .ref C::bm)&&(match h.get? cd.ns with
   |some n=>!xH n
   |none=>false)
  |_=>false)
 |none=>false
noncomputable def bmB(h:Heap):Bool:=match adH h "__builtins__" with
 |some b=>(match h.get? b with
  |some o=>!xH o
  |none=>false)
 |none=>false
noncomputable def ki(h:Heap)(x:Str):Option Addr:=match adH h x with
 |some f=>(match h.get? f with
  |some o=>(match o.data with
   |.func fd=>(match fd.code with
    |.ref c=>(match h.get? c with
     |some oc=>(match oc.data with
      |.fields vs=>(match (vs[11]?:Option Value) with
       |some (.ref P)=>some P
       |_=>none)
      |_=>none)
     |none=>none)
    |_=>none)
   |_=>none)
  |none=>none)
 |none=>none
noncomputable def oj(X:XT)(h:Heap):Bool:=match adH h "HueError" with
 |none=>false
 |some hue=>X.cs.all (fun c=>(adH h c).isSome)&&blB h "ValueError"&&X.rz.all (fun c=>match adH h c with
  |none=>false
  |some C=>aY (kcH h ("HueError"::X.cs)) C&&(exmOne (kcH h ("HueError"::X.cs)) (.ref C) (.ref hue) == some true)&&X.cs.all (fun d=>kitOne (kcH h ("HueError"::X.cs)) (.ref C) (.ref ((adH h d).getD 0)) == some (decide (d=c))) &&
   (kitOne (kcH h ("HueError"::X.cs)) (.ref C) (.type "ValueError") == some true)&&cL h C (.ref hue::veM)) &&
  cL h hue veM&&bmB h&&decide ((X.tb.map (ki h)).Nodup)
theorem Up{α β γ:Type}{z:Option γ}{f:γ->α}{g:γ->β}{p:γ->Bool}{a:α}{b:β}(h1:z.map (fun z=>(f z,g z))=some (a,b))(h2:z.map p=some true):z.map (fun z=>(f z,(g z,p z)))=some (a,(b,true)):=by
 cases z with
 |none=>cases h1
 |some z=>
  simp only[DH,Ef,Prod.mk.injEq]at h1 h2 ⊢
  exact⟨h1.1,h1.2,h2⟩
end Hd
end
section
set_option maxHeartbeats 0
open PySem PySem.W PyProof.Rows
namespace P62
noncomputable def top(i:Nat):Stmt:=PySem.Challenge.pw_evenhues_k62_rings_that_fit.main.body.getD i (.Pass ⟨0,0,0,0⟩)
noncomputable def D:List (Str × Stmt):=(("is_whole":Str),top 22)::(("are_wholes":Str),top 23)::(("is_strip":Str),top 26)::(("are_sizes":Str),top 28)::(("need_sizes":Str),top 29)::(("first_hue_wrong":Str),top 30)::(("need_ring":Str),top 32)::(("going_round":Str),top 33)::(("are_unlike":Str),top 34)::(("is_whole_round":Str),top 35)::(("first_round_wrong":Str),top 36)::(("fits_round":Str),top 37)::(("_law_cell_at":Str),top 39)::(("_law_pen":Str),top 40)::(("_law_draw":Str),top 41)::(("_law_kind":Str),top 42)::(("_law_got":Str),top 43)::(("_law_rounds":Str),top 44)::(("_law_wrong":Str),top 45)::(("_law_fits":Str),top 46)::(("law":Str),top 47)::[]
noncomputable def gl:List (Str × Hd.G):=[("MOST_PLACES",.int 40),("LEAST_SIZE",.int 2),("MOST_SIZE",.int 8),("HUES",.ctup [0,1,2,3])]
noncomputable def q:Program:={PySem.Challenge.pw_evenhues_k62_rings_that_fit with main:={PySem.Challenge.pw_evenhues_k62_rings_that_fit.main with body:=[1,2,3,4,5,6,7,8,9,10,11,12,13,14,15,16,17,19,20,21,22,23,25,26,28,29,30,32,33,34,35,36,37,39,40,41,42,43,44,45,46,47].map top}}
noncomputable def dd:DefRec:=Hd.X4 "law" (top 47)
noncomputable def X:Hd.XT:=⟨["NoStrip","NoSizes","NoNumber","NoPlace","NoHue","NoDraft","NoPaper","NoFit","TooGreat","NoLot","NoRing","NoRound","NoStand","NoText","NoDeed","NoLine"],["NoSizes","NoRing"],["law"]⟩
noncomputable abbrev pr:Program:=PySem.Challenge.rw_evenhues_k62_rings_that_fit.row.prog
noncomputable def Xz:List (Str × Int):=[("NoStrip",4),("NoSizes",6),("NoNumber",8),("NoPlace",10),("NoHue",12),("NoDraft",14),("NoPaper",16),("NoFit",18),("NoLot",20),("NoRing",22),("NoRound",24),("NoStand",26),("NoText",28),("NoDeed",30),("NoLine",32)]
noncomputable def Fz(w:World):Option Shared:=(topRun BH pr w 11 Hd.oB 50000 (Hd.S3 pr Xz 34 w) (restOf ((BA pr).drop 18) (Hd.vS pr) (Hd.Cd pr 16) (Hd.Vk 34) [De default])).bind (Hd.chk pr (Hd.S0 pr w).heap)
noncomputable def Sn(z:Shared):=openSeen q [] (Gx pr.main.body) (fun s=>Fx PySem.Challenge.rw_evenhues_k62_rings_that_fit.row.records s) true z
theorem e2:∀w,(Fz w).map (fun z=>(Sn z).2.2.1)=some (F1 q []).2.2.1:=by
 intro w
 kernel_rfl
theorem e3:∀w,(Fz w).map (fun z=>(Sn z).2.2.2)=some (F1 q []).2.2.2:=by
 intro w
 kernel_rfl
theorem e1:∀w,(Fz w).map (fun z=>(Sn z).2.1)=some (F1 q []).2.1:=by
 intro w
 kernel_rfl
theorem e0:∀w,(Fz w).map (fun z=>(Sn z).1)=some (F1 q []).1:=by
 intro w
 kernel_rfl
theorem e4:∀w,(Fz w).map (Hd.cU D gl)=some (Hd.aQ D):=by
 intro w
 kernel_rfl
theorem e5:∀w,(Fz w).map (fun z=>Hd.oj X z.heap)=some true:=by
 intro w
 kernel_rfl
theorem h0:∀w,G1 BH pr w 100000=some (Hd.S0 pr w):=by
 intro w
 kernel_rfl
theorem h1:∀w,((Hd.S0 pr w).heap.isNs AN&&(Hd.S0 pr w).gens.size == 0,(Hd.S0 pr w).heap.objs.size,(Hd.S0 pr w).heap.nsMap AN "__annotations__")=(true,11,Hd.oB):=by
 intro w
 kernel_rfl
theorem hA:∀w,topGo BH pr w 11 Hd.oB 12 (Hd.S0 pr w) (topStub pr)=some (Hd.SA pr w,⟨denote BH (.body (Hd.Bd pr 16) (Hd.vS pr)),Hd.Cd pr 16,default,[De default]⟩):=by
 intro w
 kernel_rfl
theorem hB:∀w,segRun BH pr w 11 Hd.oB 1 1 (Hd.SA pr w) (blockOf (Hd.Bd pr 16) (Hd.vS pr) (Hd.Cd pr 16) default [De default])=some (.next,Hd.SA pr w,Hd.Cd pr 16,default):=by
 intro w
 kernel_rfl
theorem hC:∀w,segRun BH pr w 11 Hd.oB 1 1000 (Hd.SA pr w) (GS ((BA pr).take 2) (Hd.vS pr) (Hd.Cd pr 16) default [De default])=some (.next,Hd.S1 pr 16 w,Hd.Cd pr 16,Hd.Vj 2):=by
 intro w
 kernel_rfl
theorem hD:∀w,segRun BH pr w 11 Hd.oB 1 20000 (Hd.S1 pr 16 w) (GS (((BA pr).drop 2).take 16) (Hd.vS pr) (Hd.Cd pr 16) (Hd.Vj 2) [De default])=some (.next,Hd.S3 pr Xz 34 w,Hd.Cd pr 16,(Hd.Vk 34)):=by
 intro w
 kernel_rfl
theorem hE:∀w,(Fz w).map (fun z=>(Sn z,Hd.cU D gl z))=some (F1 q [],Hd.aQ D):=fun w=>Hd.glue (e0 w) (e1 w) (e2 w) (e3 w) (e4 w)
theorem left:PySem.W.LeftO pr q [] (fun s=>Fx PySem.Challenge.rw_evenhues_k62_rings_that_fit.row.records s) (fun z=>(Hd.cU D gl z,Hd.oj X z.heap)) (fun _=>(Hd.aQ D,true)) 100000:=
 Hd.gD (p:=pr) (T0:=Hd.S0 pr) (TA:=Hd.SA pr) (T1:=Hd.S1 pr 16) (T2:=Hd.S3 pr Xz 34) (N:=100000) (m:=11) (k0:=12) (n1:=1000) (n2:=20000) (n3:=50000) (ann:=Hd.oB) (env:=Hd.vS pr) (l1:=(BA pr).take 2) (l2:=((BA pr).drop 2).take 16) (l3:=(BA pr).drop 18) (cd:=Hd.Cd pr 16) (b0:=default) (b1:=Hd.Vj 2) (b2:=(Hd.Vk 34)) (qq:=default) rfl h0 h1 hA hB hC hD (fun w=>Hd.Up (hE w) (e5 w)) (by decide +kernel)
theorem Vv:PySem.Challenge.rw_evenhues_k62_rings_that_fit.wellSaid=true:=by kernel_rfl
theorem eu:PySem.W.defOf q PySem.Challenge.rw_evenhues_k62_rings_that_fit.row.name=some (dd,[]):=by kernel_rfl
theorem hp:PySem.Challenge.rw_evenhues_k62_rings_that_fit.row.prog.theDef PySem.Challenge.rw_evenhues_k62_rings_that_fit.row.name=some (dd.params,dd.body,dd.scope):=by kernel_rfl
theorem hk:PySem.W.kwWritten? dd.params.kwonlyargs dd.params.kw_defaults=some []:=by kernel_rfl
theorem hwr:(!PySem.Challenge.rw_evenhues_k62_rings_that_fit.row.writes||PySem.Challenge.rw_evenhues_k62_rings_that_fit.row.records.isEmpty)=true:=by kernel_rfl
theorem ok:(PySem.W.chainsOk q&&PySem.W.opensWell PySem.Challenge.rw_evenhues_k62_rings_that_fit.row.prog&&(PySem.W.frees PySem.Challenge.rw_evenhues_k62_rings_that_fit.row.toRowW&&PySem.Challenge.rw_evenhues_k62_rings_that_fit.row.within.isEmpty))=true:=by kernel_rfl
theorem hdf:dd.params.defaults=[]:=by kernel_rfl
theorem bare:PySem.Challenge.rw_evenhues_k62_rings_that_fit.row.prog.bare:=⟨rfl,rfl,rfl,rfl,rfl,by decide +kernel⟩
theorem hw:PySem.Challenge.rw_evenhues_k62_rings_that_fit.row.toRowW.promised:=by w_witness2
end P62
end
section
namespace L2
open PySem PySem.Spec PyProof.Rows
noncomputable abbrev Key:=Sum Int Str
noncomputable def XH:Key->Value->Bool
 |.inl k,v=>Value.isInt k v
 |.inr x,v=>Value.isStrOf x v
noncomputable def RK(w:World):Key->Int
 |.inl k=>hashInt k
 |.inr x=>hashStr w x
theorem yF:∀{k:Key} {v:Value},XH k v=true->(∃i t,k=EC i/\v=Fi i t)\/(∃x t,k=ED x/\v=DL x t)
 |.inl i,v,h=>by
  obtain⟨t,e⟩:=Value.isInt_shape (k:=i) (v:=v) h
  exact .inl ⟨i,t,rfl,e⟩
 |.inr x,v,h=>by
  obtain⟨t,e⟩:=Value.isStrOf_shape (x:=x) (v:=v) h
  exact .inr ⟨x,t,rfl,e⟩
theorem Wt(a b:Int):decide ((EC a:Key)=EC b)=(a == b):=by
 by_cases e:a=b
 . subst e;simp
 . have h:¬(EC a:Key)=EC b:=fun q=>e (EC.inj q)
   rw[decide_eq_false h]
   exact(beq_eq_false_iff_ne.mpr e).symm
theorem Ww(a b:Str):decide ((ED a:Key)=ED b)=decide (a=b):=by
 by_cases e:a=b
 . subst e;simp
 . have h:¬(ED a:Key)=ED b:=fun q=>e (ED.inj q)
   rw[decide_eq_false h,decide_eq_false e]
theorem Wu(a:Int)(b:Str):decide ((EC a:Key)=ED b)=false:=decide_eq_false (fun q=>nomatch q)
theorem Wv(a:Str)(b:Int):decide ((ED a:Key)=EC b)=false:=decide_eq_false (fun q=>nomatch q)
noncomputable def oZ(prog:Program)(w:World):PySem.KeyKind prog w Key where
 is:=XH
 hash:=RK w
 inj:=fun v a b ha hb=>by
  rcases yF ha with⟨i,t,rfl,rfl⟩|⟨x,t,rfl,rfl⟩
  . rcases yF hb with⟨j,u,rfl,e⟩|⟨y,u,rfl,e⟩
    . injection e with e1 _;rw[e1]
    . exact nomatch e
  . rcases yF hb with⟨j,u,rfl,e⟩|⟨y,u,rfl,e⟩
    . exact nomatch e
    . injection e with e1 _;rw[e1]
 byValue:=fun k v h=>by
  rcases yF h with⟨i,t,rfl,rfl⟩|⟨x,t,rfl,rfl⟩<;>rfl
 pyHash:=fun hv h=>by
  rcases yF hv with⟨i,t,rfl,rfl⟩|⟨x,t,rfl,rfl⟩
  . exact wpAny_pyHash_int h
  . exact wpAny_pyHash_str h
 eqBool:=fun hu hv h=>by
  rcases yF hu with⟨i,t,rfl,rfl⟩|⟨x,t,rfl,rfl⟩
  . rcases yF hv with⟨j,u,rfl,rfl⟩|⟨y,u,rfl,rfl⟩
    . rw[Wt]at h;exact wpAny_eqBool_int h
    . rw[Wu]at h;exact Br.int_str i t y u _ _ _ _ h
  . rcases yF hv with⟨j,u,rfl,rfl⟩|⟨y,u,rfl,rfl⟩
    . rw[Wv]at h;exact Br.str_int x t j u _ _ _ _ h
    . rw[Ww]at h;exact wpAny_eqBool_str h
 «strs»:=fun k x t v h=>by
  rcases yF h with⟨i,u,rfl,e⟩|⟨y,u,rfl,e⟩
  . exact nomatch e
  . injection e with e1 _
    subst e1
    cases v<;>rfl
end L2
namespace L2
open PySem PySem.Spec PyProof.Rows
inductive V where
 |non|bl (b:Bool)|int (i:Int)|str (x:Str)|byt (b:Array UInt8)|flt (b:UInt64)|ref (a:Addr)|ty (n:String)
 deriving DecidableEq
noncomputable def RelV:V->Value->Prop
 |.non,u=>u=Ce
 |.bl b,u=>u=CB b
 |.int i,u=>∃t,u=Fi i t
 |.str x,u=>∃t,u=DL x t
 |.byt b,u=>∃t,u=Value.bytes b t
 |.flt b,u=>∃t,u=Value.float b t
 |.ref a,u=>u=A1 a
 |.ty n,u=>u=D2 n
noncomputable abbrev Vals:List V->List Value->Prop:=Paired RelV
theorem Vals.length{xs:List V}{us:List Value}(r:Vals xs us):xs.length=us.length:=G2 r
theorem Vals.get:∀{xs:List V} {us:List Value} {i:Nat} {x:V},Vals xs us->xs[i]?=some x->∃u,us[i]?=some u/\RelV x u
 |_,_,_,_,.nil,e=>by simp at e
 |_,_,0,_,.cons r _,e=>by simp at e;subst e;exact⟨_,rfl,r⟩
 |_,_,i+1,x,.cons _ t,e=>by
  obtain⟨u,h1,h2⟩:=Vals.get (i:=i) (x:=x) t (by simpa using e)
  exact⟨u,by simpa using h1,h2⟩
theorem Vals.set{x:V}{u:Value}(r:RelV x u):∀{xs:List V} {us:List Value} (i:Nat),Vals xs us->Vals (xs.set i x) (us.set i u)
 |_,_,_,.nil=>.nil
 |_,_,0,.cons _ t=>.cons r t
 |_,_,i+1,.cons q t=>.cons q (Vals.set r i t)
theorem Vals.append:∀{xs ys:List V} {us ws:List Value},Vals xs us->Vals ys ws->Vals (xs++ys) (us++ws)
 |_,_,_,_,.nil,s=>s
 |_,_,_,_,.cons r t,s=>.cons r (Vals.append t s)
theorem Vals.take:∀{xs:List V} {us:List Value} (n:Nat),Vals xs us->Vals (xs.take n) (us.take n)
 |_,_,0,_=>.nil
 |_,_,_+1,.nil=>.nil
 |_,_,n+1,.cons r t=>.cons r (Vals.take n t)
theorem Vals.drop:∀{xs:List V} {us:List Value} (n:Nat),Vals xs us->Vals (xs.drop n) (us.drop n)
 |_,_,0,r=>r
 |_,_,_+1,.nil=>.nil
 |_,_,n+1,.cons _ t=>Vals.drop n t
theorem Vals.none_of:∀{xs:List V} {us:List Value} {i:Nat},Vals xs us->xs[i]?=none->us[i]?=none:=fun{xs us i} r e=>by
 have h1:=r.length
 have h2:xs.length<=i:=CU.mp e
 exact CU.mpr (by omega)
noncomputable def Xn:Option V->Option Value->Prop
 |some v,some u=>RelV v u
 |none,none=>True
 |_,_=>False
noncomputable def KV{κ:Type}:List (κ × V)->List (κ × Value)->Prop:=Paired fun(p:κ × V) (q:κ × Value)=>p.1=q.1/\RelV p.2 q.2
noncomputable def kV:Key->V
 |.inl i=>.int i
 |.inr x=>.str x
inductive HO where
 /-- a list -/
 |lst (xs:List V)
 /-- a tuple (never changes) -/
 |tup (xs:List V)
 /-- a dict whose keys are ints and texts;one whose keys are tuples of ints and texts (the empty one is both) -/
 |dK (kvs:List (Key × V))|dT (kvs:List (List Key × V))
 /-- a set of ints: its members,its size -/
 |set (S:Int->Bool) (n:Nat)
 /-- an instance of the class at C,its dict at dx,its attributes -/
 |ins (C dx:Addr) (fs:List (Str × V))
 /-- the dict of the instance at x -/
 |own (x:Addr)
 /-- the dict of an exception -/
 |xd (fs:List (Str × V))
 /-- a bound method,f of x -/
 |met (f x:Addr)
 /-- a range object lo,lo+1,.. below hi -/
 |rng (lo hi:Int)
 /-- a thing that is known to the object (the script;a dict while a loop walks it): read,never written while it is so -/
 |frz (o:Obj) (u:HO)
 /-- a code object's table -/
 |tbl (ps:Array Value)
 /-- any other thing,by what is true of its one object (a def of one's own: SetO a S n:=HO.ext fun h=>..) -/
 |ext (φ:Heap->Prop)
noncomputable abbrev Hp:=Addr->Option HO
def tF(h:Heap)(a:Addr)(items:Array Value):Prop:=∃o,h.get? a=some o/\o.cls=.type "tuple"/\∃n,o.data=.seq items n/\o.dict=none
theorem tF.tup{h:Heap}{a:Addr}{items:Array Value}(x:tF h a items):IsTup h a items:=let ⟨o,e,c,n,d,_⟩:=x;⟨o,e,c,n,d⟩
theorem tF.lt{h:Heap}{a:Addr}{items:Array Value}(x:tF h a items):a<h.objs.size:=let ⟨_,e,_⟩:=x;An e
theorem tF.new(h:Heap)(items:Array Value):tF (h.push {cls:=.type "tuple",data:=.seq items}) h.objs.size items:=⟨_,Ay _ rfl,rfl,_,rfl,rfl⟩
noncomputable def upd(H:Hp)(a:Addr)(o:HO):Hp:=fun b=>if b=a then some o else H b
theorem zN{H:Hp}{a:Addr}{o:HO}:upd H a o a=some o:=by unfold upd;rw[if_pos rfl]
theorem zI{H:Hp}{a b:Addr}{o:HO}(h:b≠a):upd H a o b=H b:=by unfold upd;rw[if_neg h]
theorem zR{H:Hp}{a b:Addr}{o:HO}(h:H a=some o)(h':H b=none):a≠b:=by
 intro e;subst e;rw[h]at h';cases h'
section
variable (P:Program)(w:World)
noncomputable def yB(H:Hp)(h:Heap)(a:Addr):HO->Prop
 |.lst xs=>xs.length<=AA/\∃(its:List Value) (n:Nat),Vals xs its/\h.get? a=some {cls:=.type "list",data:=.seq its.toArray n}
 |.tup xs=>xs.length<=AA/\∃its:List Value,Vals xs its/\tF h a its.toArray
 |.dK kvs=>kvs.length<=AA/\(a == B3)=false/\∃vs,KV kvs vs/\h.DictOf (oZ P w) a vs
 |.dT kvs=>kvs.length<=AA/\(a == B3)=false/\∃xs:List (List Key × Addr × Value),
  Paired (fun(p:List Key × V) (q:List Key × Addr × Value)=>p.1=q.1/\H q.2.1=some (.tup (p.1.map kV))/\RelV p.2 q.2.2) kvs xs /\
  ∃o es ep,h.get? a=some o/\o.ExactDict/\o.data=.dict es ep/\es.toList=xs.map (entryOfKey (tupleKind (oZ P w)))/\(xs.map (·.1)).Nodup
 |.set S n=>h.SetOf (intKind P w) a S n
 |.ins C dx fs=>H dx=some (.own a)/\fs.length<=1000/\dx≠a/\h.get? a=some (Gy C dx) /\
  ∃mA,h.Ns1 dx mA/\(∀f,Xn (fs.lookup f) (mA f))/\PySem.Within mA (fs.map (·.1))
 |.own _=>∃o,h.get? a=some o
 |.xd fs=>∃mA,h.Ns1 a mA/\∀f,Xn (fs.lookup f) (mA f)
 |.rng lo hi=>∃t u v,h.get? a=some {cls:=.type "range",data:=.fields #[.int lo t,.int hi u,.int 1 v]}
 |.frz o u=>h.get? a=some o/\yB H h a u
 |.tbl ps=>h.get? a=some {cls:=.none,data:=.fields ps}
 |.met f x=>h.get? a=some (FL (.ref f) (.ref x))
 |.ext φ=>φ h/\(∃o,h.get? a=some o)/\∀h1 h2:Heap,φ h1->(∀o,h1.get? a=some o->h2.get? a=some o)->φ h2
def HOk(H:Hp)(h:Heap):Prop:=∀a o,H a=some o->yB P w H h a o
end
section
variable {P:Program}{w:World}{H H':Hp}{h h':Heap}{a:Addr}{o:HO}
theorem yB.lt(x:yB P w H h a o):a<h.objs.size:=by
 cases o with
 |lst xs=>obtain⟨_,_,_,_,e⟩:=x;exact An e
 |tup xs=>obtain⟨_,_,_,p⟩:=x;exact p.lt
 |dK kvs=>obtain⟨_,_,_,_,o,_,_,e,_⟩:=x;exact An e
 |dT kvs=>obtain⟨_,_,_,_,o,_,_,e,_⟩:=x;exact An e
 |set S n=>obtain⟨o,_,_,_,e,_⟩:=x;exact An e
 |ins C dx fs=>obtain⟨_,_,_,e,_⟩:=x;exact An e
 |own y=>obtain⟨_,e⟩:=x;exact An e
 |xd fs=>obtain⟨_,⟨_,_,_,e,_⟩,_⟩:=x;exact An e
 |rng lo hi=>obtain⟨_,_,_,e⟩:=x;exact An e
 |frz ob u=>obtain⟨e,_⟩:=x;exact An e
 |tbl ps=>exact An (show h.get? a=some _ from x)
 |met f y=>exact An (show h.get? a=some _ from x)
 |ext φ=>obtain⟨_,⟨_,e⟩,_⟩:=x;exact An e
theorem Paired.TK{α β:Type}{F G:α->β->Prop}:∀{l₁:List α} {l₂:List β},Paired F l₁ l₂->(∀a b,F a b->G a b)->Paired G l₁ l₂
 |_,_,.nil,_=>.nil
 |_,_,.cons r t,f=>.cons (f _ _ r) (Paired.TK t f)
theorem yB.qf(x:yB P w H h a o)(k:∀b u,(b=a\/H b=some (.own a))->h.get? b=some u->h'.get? b=some u)
 (ho:∀b,H b=some (.own a)->H' b=some (.own a)) (ht:∀b xs,H b=some (.tup xs)->H' b=some (.tup xs)):yB P w H' h' a o:=by
 induction o with
 |lst xs=>obtain⟨z,its,n,r,e⟩:=x;exact⟨z,its,n,r,k _ _ (.inl rfl) e⟩
 |tup xs=>obtain⟨z,its,r,ob,e,c⟩:=x;exact⟨z,its,r,ob,k _ _ (.inl rfl) e,c⟩
 |dK kvs=>obtain⟨z,y,vs,r,ob,es,ep,e,c⟩:=x;exact⟨z,y,vs,r,ob,es,ep,k _ _ (.inl rfl) e,c⟩
 |dT kvs=>
  obtain⟨z,y,xs,r,ob,es,ep,e,c⟩:=x
  exact⟨z,y,xs,Paired.TK r fun p q z=>⟨z.1,ht _ _ z.2.1,z.2.2⟩,ob,es,ep,k _ _ (.inl rfl) e,c⟩
 |set S n=>obtain⟨ob,es,ep,t,e,c⟩:=x;exact⟨ob,es,ep,t,k _ _ (.inl rfl) e,c⟩
 |ins C dx fs=>
  obtain⟨d,z,ne,e,mA,⟨od,es,ep,e2,c⟩,r⟩:=x
  exact⟨ho _ d,z,ne,k _ _ (.inl rfl) e,mA,⟨od,es,ep,k _ _ (.inr d) e2,c⟩,r⟩
 |own y=>obtain⟨ob,e⟩:=x;exact⟨ob,k _ _ (.inl rfl) e⟩
 |xd fs=>obtain⟨mA,⟨od,es,ep,e,c⟩,r⟩:=x;exact⟨mA,⟨od,es,ep,k _ _ (.inl rfl) e,c⟩,r⟩
 |rng lo hi=>obtain⟨t,u,v,e⟩:=x;exact⟨t,u,v,k _ _ (.inl rfl) e⟩
 |frz ob u ih=>obtain⟨e,q⟩:=x;exact⟨k _ _ (.inl rfl) e,ih q⟩
 |tbl ps=>
  have e:h.get? a=some {cls:=.none,data:=.fields ps}:=x
  show h'.get? a=some {cls:=.none,data:=.fields ps}
  exact k a _ (.inl rfl) e
 |met f y=>
  have e:h.get? a=some (FL (.ref f) (.ref y)):=x
  show h'.get? a=some (FL (.ref f) (.ref y))
  exact k a _ (.inl rfl) e
 |ext φ=>obtain⟨p,⟨o,e⟩,st⟩:=x;exact⟨st _ _ p fun o q=>k _ _ (.inl rfl) q,⟨o,k _ _ (.inl rfl) e⟩,st⟩
theorem HOk.lt(x:HOk P w H h)(e:H a=some o):a<h.objs.size:=(x a o e).lt
theorem HOk.fresh(x:HOk P w H h)(e:h.objs.size<=a):H a=none:=by
 cases q:H a with
 |none=>rfl
 |some u=>exact absurd (AD (x.lt q) e) (Bg _)
theorem HOk.kept(x:HOk P w H h)(k:∀b u,h.get? b=some u->h'.get? b=some u):HOk P w H h':=fun a o e=>
 (x a o e).qf (fun b u _ q=>k b u q) (fun _ q=>q) fun _ _ q=>q
theorem HOk.laid(x:HOk P w H h)(k:∀b u,h.get? b=some u->h'.get? b=some u)(hp:h.objs.size<=a)(new:yB P w (upd H a o) h' a o):HOk P w (upd H a o) h':=fun b u e=>by
 have hn:=x.fresh hp
 by_cases hb:b=a
 . subst hb;rw[zN]at e;cases e;exact new
 . rw[zI hb]at e
   exact(x b u e).qf (fun c v _ q=>k c v q) (fun c q=>by rw[zI (zR q hn)];exact q) fun c xs q=>by rw[zI (zR q hn)];exact q
end
def Rd(H:Hp)(a:Addr)(u:HO):Prop:=H a=some u\/∃o,H a=some (.frz o u)
theorem Rd.ok{P:Program}{w:World}{H:Hp}{h:Heap}{a:Addr}{u:HO}(r:Rd H a u)(x:HOk P w H h):yB P w H h a u:=by
 rcases r with r|⟨o,r⟩
 . exact x a u r
 . obtain⟨_,q⟩:=x a _ r
   exact q
noncomputable def Mut:Option HO->Prop
 |some (.lst _)=>True
 |some (.dK _)=>True
 |some (.dT _)=>True
 |some (.set _ _)=>True
 |some (.ins _ _ _)=>True
 |some (.ext _)=>True
 |_=>False
section
variable {P:Program}{w:World}{H:Hp}{h h':Heap}{x e:Addr}{o':HO}
theorem HOk.write(ok:HOk P w H h)(mu:Mut (H x))(he:e=x\/H e=some (.own x))(k:∀b u,b≠e->h.get? b=some u->h'.get? b=some u)(heo:∃u,h'.get? e=some u)
 (new:yB P w (upd H x o') h' x o'):HOk P w (upd H x o') h':=fun b u q=>by
 have nown:∀c y,H c=some (.own y)->c≠x:=fun c y r z=>by subst z;rw[r]at mu;exact mu
 have ntup:∀c xs,H c=some (.tup xs)->c≠x:=fun c xs r z=>by subst z;rw[r]at mu;exact mu
 by_cases hb:b=x
 . subst hb;rw[zN]at q;cases q;exact new
 . rw[zI hb]at q
   by_cases hbe:b=e
   . have q':H b=some (.own x):=by
      rcases he with z|z
      . exact absurd (hbe.trans z) hb
      . rw[hbe];exact z
     rw[q]at q';cases q'
     obtain⟨v,hv⟩:=heo
     exact⟨v,by rw[hbe];exact hv⟩
   . refine(ok b u q).qf (fun c v hc r=>k c v ?_ r) (fun c r=>by rw[zI (nown c b r)];exact r) fun c xs r=>by rw[zI (ntup c xs r)];exact r
     rcases hc with rfl|hc
     . exact hbe
     . rintro rfl
       rcases he with z|z
       . exact nown c b hc z
       . rw[hc]at z;cases z;exact hb rfl
end
structure Un(fs ex:List Addr)(H H':Hp)(h h':Heap):Prop where
 keep:∀b o,h.get? b=some o->H b=none->b ∉ fs->b ∉ ex->h'.get? b=some o
 slot:∀b o,h.get? b=some o->H b=none->b∈fs->b ∉ ex->∃sl,h'.get? b=some {o with slots:=sl}
 free:∀b o,h.get? b=some o->H b=none->b ∉ ex->H' b=none
 there:∀b o,h.get? b=some o->b ∉ ex->∃o',h'.get? b=some o'
 tups:∀b xs,H b=some (.tup xs)->H' b=some (.tup xs)
 frzs:∀b o u,H b=some (.frz o u)->H' b=some (.frz o u)
 tbls:∀b ps,H b=some (.tbl ps)->∃more,H' b=some (.tbl (ps++more))
section
variable {fs fs' ex ex':List Addr}{H H1 H2:Hp}{h h1 h2 h':Heap}{a x e:Addr}{o:HO}
theorem Un.any(u:Un fs ex H H1 h h1){b:Addr}{ob:Obj}(q:h.get? b=some ob)(n:H b=none)(hx:b ∉ ex):∃sl,h1.get? b=some {ob with slots:=sl}:=by
 by_cases hb:b∈fs
 . exact u.slot b ob q n hb hx
 . exact⟨ob.slots,u.keep b ob q n hb hx⟩
theorem Un.kept(k:∀b u,h.get? b=some u->h'.get? b=some u):Un fs ex H H h h':=
 ⟨fun b ob q _ _ _=>k b ob q,fun b ob q _ _ _=>⟨ob.slots,k b ob q⟩,fun _ _ _ n _=>n,fun b ob q _=>⟨ob,k b ob q⟩,fun _ _ q=>q,fun _ _ _ q=>q,fun _ ps q=>⟨#[],by rw[q];simp⟩⟩
theorem Un.refl:Un fs ex H H h h:=Un.kept fun _ _ q=>q
theorem Un.laid(k:∀b u,h.get? b=some u->h'.get? b=some u)(hp:h.objs.size<=a)(hn:H a=none):Un fs ex H (upd H a o) h h' where
 keep:=fun b u q _ _ _=>k b u q
 slot:=fun b u q _ _ _=>⟨u.slots,k b u q⟩
 free:=fun b u q n _=>by rw[zI (AB (AD (An q) hp))];exact n
 there:=fun b u q _=>⟨u,k b u q⟩
 tups:=fun b xs q=>by rw[zI (zR q hn)];exact q
 frzs:=fun b u xs q=>by rw[zI (zR q hn)];exact q
 tbls:=fun b ps q=>⟨#[],by rw[zI (zR q hn),q];simp⟩
theorem Un.write(mu:Mut (H x))(he:e=x\/H e=some (.own x))(k:∀b u,b≠e->h.get? b=some u->h'.get? b=some u)(heo:∃u,h'.get? e=some u):Un fs ex H (upd H x o) h h':=by
 have hx:∀b,H b=none->b≠x:=fun b n z=>by subst z;rw[n]at mu;exact mu
 have hb:∀b,H b=none->b≠e:=fun b n z=>by
  subst z
  rcases he with r|r
  . exact hx b n r
  . rw[n]at r;cases r
 have hm:∀b u,H b=some u->¬Mut (some u)->b≠x:=fun b u q nm z=>by subst z;rw[q]at mu;exact nm mu
 refine⟨fun b u q n _ _=>k b u (hb b n) q,fun b u q n _ _=>⟨u.slots,k b u (hb b n) q⟩,fun b u q n _=>by rw[zI (hx b n)];exact n,fun b u q _=>?_,
  fun b xs q=>by rw[zI (hm b _ q fun z=>z)];exact q,fun b u xs q=>by rw[zI (hm b _ q fun z=>z)];exact q,fun b ps q=>⟨#[],by rw[zI (hm b _ q fun z=>z),q];simp⟩⟩
 by_cases hbe:b=e
 . subst hbe;exact heo
 . exact⟨u,k b u hbe q⟩
end
noncomputable def trk(h:Heap)(H:Hp):List Addr:=(AE h.objs.size).filter fun a=>(H a).isSome
noncomputable def oO(h:Heap)(H:Hp):Heap:=PySem.W.hideAll h (trk h H)
theorem ip(h:Heap)(H:Hp):(oO h H).objs.size=h.objs.size:=PySem.W.hideAll_size _ _
theorem ey{h:Heap}{H:Hp}{b:Addr}{o:Obj}(e:h.get? b=some o)(n:H b=none):(oO h H).get? b=some o:=
 PySem.W.hideAll_get _ e fun hm=>by
  have q:(H b).isSome=true:=(B0.mp hm).2
  rw[n]at q;simp at q
theorem Zx{h:Heap}{H:Hp}{b:Addr}{o:Obj}(e:(oO h H).get? b=some o):h.get? b=some o/\H b=none:=by
 have e':h.get? b=some o:=PySem.W.of_hideAll (trk h H) e
 refine⟨e',?_⟩
 cases q:H b with
 |none=>rfl
 |some x=>
  have hm:b∈trk h H:=B0.mpr ⟨AW.mpr (An e'),by simp[q]⟩
  have z:(oO h H).get? b=none:=PySem.W.hideAll_none (trk h H) hm
  rw[z]at e;cases e
end L2
namespace L2
open PySem PySem.Spec PyProof.Rows
structure Mod(K:Af)(mg:Str->Option Value)(base:Heap):Prop where
 kin:K.In base
 glob:base.Ns AN mg
 blt:∃mb,base.Ns FY mb/\∀x:Str,x≠"__name__"->mb x=Cf x
 nolimit:base.NoLimit
structure Cx where
 prog:Program
 w:World
 K:Af
 mg:Str->Option Value
 base:Heap
 A:Around
 N:List Str
 s₀:Shared
 H₀:Hp
 env:Env
 outer:List Env
 stack:List Env
 ex:List Addr
 fn:Str->Bool
 calm:Bool
 pn:List (Addr × Obj)
 xe:Value->Shared->Prop
noncomputable def frs(l:List Env):List Addr:=l.filterMap (·.frame)
noncomputable abbrev Cx.fs(X:Cx):List Addr:=frs X.outer
def Vis(sc:Scope)(x:Str):Prop:=sc.names.lookup x=some .local\/sc.names.lookup x=some .cell\/sc.names.lookup x=some .free
def Loc(sc:Scope)(x:Str):Prop:=sc.names.lookup x=some .local\/sc.names.lookup x=some .cell
def Look(env:Env)(h:Heap)(m:Str->Option Value)(x:Str)(u:Value):Prop:=
 (env.kindOf x=some .local/\m x=some u)\/((env.kindOf x=some .cell\/env.kindOf x=some .free)/\∃c,env.cells.lookup x=some c/\h.IsCell c (some u))
structure Cx.Ok(X:Cx):Prop where
 mod:Mod X.K X.mg X.base
 kind:X.env.scope.kind=.function
 glob:X.env.globals=AN
 blt:X.env.builtins=FY
 above:X.s₀.heap.objs.size<=X.env.locals
 inj:∀x y c,X.env.cells.lookup x=some c->X.env.cells.lookup y=some c->x=y
 has:∀x,(X.env.kindOf x=some .cell\/X.env.kindOf x=some .free)->∃c,X.env.cells.lookup x=some c
 cab:∀x c,X.fn x=true->X.env.cells.lookup x=some c->X.s₀.heap.objs.size<=c
 hd:X.calm=true->X.A.handled=none
 frames:X.A.frames=some X.stack
 stk:X.stack=X.outer\/(X.stack=X.env::X.outer/\X.env.frame=some X.env.locals)
 exf:∀b∈X.ex,b≠X.env.locals/\∀x c,X.env.cells.lookup x=some c->c≠b
 bs:∀b o,X.base.get? b=some o->X.s₀.heap.get? b=some o/\X.H₀ b=none
 bsz:X.base.objs.size<=X.s₀.heap.objs.size
 noex:∀b o,X.base.get? b=some o->b ∉ X.ex
 exfs:∀b∈X.ex,b ∉ X.fs
 ud:X.s₀.heap.FunFrames X.base X.outer
 frf:∀b∈X.fs,X.H₀ b=none
structure Inv(X:Cx)(pins:List (Addr × Obj))(σ:List (Option V))(H:Hp)(s:Shared):Prop where
 ok:X.Ok
 os:s.os=X.s₀.os
 bare:AllBare s.gens
 base:Un X.fs X.ex X.H₀ H X.s₀.heap s.heap
 loc:∃m,s.heap.Ns X.env.locals m/\∀(i:Nat) (x:Str) (v:V),X.N[i]?=some x->σ[i]?=some (some v)->Vis X.env.scope x->∃u,RelV v u/\Look X.env s.heap m x u
 cell:∀x c,X.env.cells.lookup x=some c->∃v,s.heap.IsCell c v
 free:H X.env.locals=none
 freeC:∀x c,X.env.cells.lookup x=some c->H c=none
 pin:∀p∈X.pn++pins,s.heap.get? p.1=some p.2/\H p.1=none/\p.1≠X.env.locals/\p.1 ∉ X.fs/\∀v,p.2.data≠.cell v
 hok:HOk X.prog X.w H s.heap
 len:σ.length=X.N.length
section
variable {X:Cx}{pins:List (Addr × Obj)}{σ:List (Option V)}{H H':Hp}{s:Shared}{h':Heap}
theorem Cx.Ok.RN(ok:X.Ok){b:Addr}{o:Obj}(e:X.base.get? b=some o):b ∉ X.fs:=fun hb=>by
 have:=(ok.ud.mem hb).1
 rw[e]at this;cases this
theorem Inv.bs(I:Inv X pins σ H s):∀b o,X.base.get? b=some o->s.heap.get? b=some o/\H b=none:=fun b o e=>
 ⟨I.base.keep b o (I.ok.bs b o e).1 (I.ok.bs b o e).2 (I.ok.RN e) (I.ok.noex b o e),I.base.free b o (I.ok.bs b o e).1 (I.ok.bs b o e).2 (I.ok.noex b o e)⟩
theorem Inv.bk(I:Inv X pins σ H s):∀b o,X.base.get? b=some o->s.heap.get? b=some o:=fun b o e=>(I.bs b o e).1
theorem Inv.mod(I:Inv X pins σ H s):Mod X.K X.mg X.base:=I.ok.mod
theorem Inv.kIn(I:Inv X pins σ H s):X.K.In s.heap:=I.ok.mod.kin.keeps I.bk
theorem Inv.lt(I:Inv X pins σ H s):X.env.locals<s.heap.objs.size:=let ⟨_,hn,_⟩:=I.loc;hn.lt
theorem Inv.sz(I:Inv X pins σ H s):X.s₀.heap.objs.size<=s.heap.objs.size:=Ax I.ok.above (DM I.lt)
theorem Inv.RP(I:Inv X pins σ H s){a:Addr}(h:s.heap.objs.size<=a):a ∉ X.fs:=fun hb=>by
 obtain⟨_,o,ho,_⟩:=I.ok.ud.mem hb
 exact absurd (AD (An ho) (Ax I.sz h)) (Bg _)
theorem Inv.cne(I:Inv X pins σ H s):∀x c,X.env.cells.lookup x=some c->c≠X.env.locals:=fun x c e z=>by
 obtain⟨v,o,ho,hd⟩:=I.cell x c e
 obtain⟨m,⟨o',es,ep,ho',hd',_⟩,_⟩:=I.loc
 rw[z,ho']at ho;cases ho;rw[hd']at hd;cases hd
theorem Inv.ud(I:Inv X pins σ H s):s.heap.FunFrames X.base X.outer:=by
 have all:∀(l:List Env),(∀b∈frs l,b∈X.fs)->X.s₀.heap.FunFrames X.base l->s.heap.FunFrames X.base l:=by
  intro l
  induction l with
  |nil=>intro _ _;trivial
  |cons env r ih=>
   intro hs hl
   obtain⟨hk,⟨L,o,hf,hn,ho,hd⟩,hr⟩:=hl
   have hL:L∈X.fs:=hs L (by unfold frs;rw[A4,hf];exact Av)
   obtain⟨sl,e⟩:=I.base.slot L o ho (I.ok.frf L hL) hL fun z=>I.ok.exfs L z hL
   exact⟨hk,⟨L,_,hf,hn,e,hd⟩,ih (fun b hb=>hs b (by unfold frs;rw[A4,hf];exact Ao _ hb)) hr⟩
 exact all X.outer (fun _ hb=>hb) I.ok.ud
theorem Inv.stack(I:Inv X pins σ H s):s.heap.FunFrames X.base X.stack:=by
 rcases I.ok.stk with e|⟨e,hf⟩
 . rw[e];exact I.ud
 . rw[e]
   obtain⟨m,hn,_⟩:=I.loc
   refine .cons (by rw[I.ok.kind];decide) hf hn ?_ I.ud
   exact EL (Ax I.ok.bsz I.ok.above)
theorem Inv.kZ(I:Inv X pins σ H s):∀b∈frs X.stack,b∈X.env.locals::X.fs:=fun b hb=>by
 rcases I.ok.stk with e|⟨e,hf⟩
 . rw[e]at hb;exact Ao _ hb
 . rw[e]at hb
   unfold frs at hb
   rw[A4,hf]at hb
   exact hb
theorem Inv.nI(I:Inv X pins σ H s):∀b∈frs X.stack,H b=none:=fun b hb=>by
 rcases Al.mp (I.kZ b hb) with e|hb
 . rw[e];exact I.free
 . obtain⟨_,o,ho,_⟩:=I.ok.ud.mem hb
   exact I.base.free b o ho (I.ok.frf b hb) fun z=>I.ok.exfs b z hb
theorem Inv.step{g':Array F2}{t':Nat}{d':Drawn}{ch:List Addr}(I:Inv X pins σ H s)
 (hch:∀b∈ch,(b∈X.ex\/X.s₀.heap.objs.size<=b)/\b≠X.env.locals/\(∀x c,X.env.cells.lookup x=some c->c≠b)/\∀p∈X.pn++pins,p.1≠b)
 (keep:∀b o,b≠X.env.locals->b ∉ X.fs->b ∉ ch->s.heap.get? b=some o->H b=none->h'.get? b=some o)
 (slot:∀b o,b≠X.env.locals->b∈X.fs->b ∉ ch->s.heap.get? b=some o->H b=none->∃sl,h'.get? b=some {o with slots:=sl}) (free:∀b o,b ∉ ch->s.heap.get? b=some o->H b=none->H' b=none)
 (there:∀b o,b ∉ ch->s.heap.get? b=some o->∃o',h'.get? b=some o')
 (tups:∀b xs,H b=some (.tup xs)->H' b=some (.tup xs)) (frzs:∀b o u,H b=some (.frz o u)->H' b=some (.frz o u)) (tbls:∀b ps,H b=some (.tbl ps)->∃more,H' b=some (.tbl (ps++more)))
 (ns:∀m,s.heap.Ns X.env.locals m->h'.Ns X.env.locals m) (hok:HOk X.prog X.w H' h') (hg:AllBare g') :
 Inv X pins σ H' {s with heap:=h',gens:=g',drawn:=d',toks:=t'}:=by
 have neL:∀b o,X.s₀.heap.get? b=some o->b≠X.env.locals:=fun b o e=>AB (AD (An e) I.ok.above)
 have neC:∀b o,X.s₀.heap.get? b=some o->b ∉ X.ex->b ∉ ch:=fun b o e hx hb=>by
  rcases (hch b hb).1 with z|z
  . exact hx z
  . exact absurd (AD (An e) z) (Bg _)
 have cellK:∀x c,X.env.cells.lookup x=some c->∀v,s.heap.IsCell c v->h'.IsCell c v:=fun x c e v ⟨o,ho,hd⟩=>by
  have nch:c ∉ ch:=fun z=>(hch c z).2.2.1 x c e rfl
  by_cases hc:c∈X.fs
  . obtain⟨sl,q⟩:=slot c o (I.cne x c e) hc nch ho (I.freeC x c e)
    exact⟨_,q,hd⟩
  . exact⟨o,keep c o (I.cne x c e) hc nch ho (I.freeC x c e),hd⟩
 refine⟨I.ok,I.os,hg,⟨fun b o e n hb hx=>?_,fun b o e n hb hx=>?_,fun b o e n hx=>?_,fun b o e hx=>?_,fun b xs e=>tups b xs (I.base.tups b xs e),fun b o xs e=>frzs b o xs (I.base.frzs b o xs e),fun b ps e=>?_⟩,?_,fun x c e=>?_,?_,fun x c e=>?_,fun p hp=>?_,hok,I.len⟩
 . exact keep b o (neL b o e) hb (neC b o e hx) (I.base.keep b o e n hb hx) (I.base.free b o e n hx)
 . obtain⟨sl,e1⟩:=I.base.slot b o e n hb hx
   obtain⟨sl',e2⟩:=slot b _ (neL b o e) hb (neC b o e hx) e1 (I.base.free b o e n hx)
   exact⟨sl',e2⟩
 . obtain⟨o',e1⟩:=I.base.there b o e hx
   exact free b o' (neC b o e hx) e1 (I.base.free b o e n hx)
 . obtain⟨o',e1⟩:=I.base.there b o e hx
   exact there b o' (neC b o e hx) e1
 . obtain⟨m1,e1⟩:=I.base.tbls b ps e
   obtain⟨m2,e2⟩:=tbls b _ e1
   exact⟨m1++m2,by rw[e2,Array.append_assoc]⟩
 . obtain⟨m,hn,hl⟩:=I.loc
   refine⟨m,ns m hn,fun i x v e1 e2 e3=>?_⟩
   obtain⟨u,r,l⟩:=hl i x v e1 e2 e3
   refine⟨u,r,?_⟩
   rcases l with l|⟨k,c,e,z⟩
   . exact .inl l
   . exact .inr ⟨k,c,e,cellK x c e _ z⟩
 . obtain⟨v,z⟩:=I.cell x c e
   exact⟨v,cellK x c e v z⟩
 . obtain⟨m,⟨o,_,_,ho,_⟩,_⟩:=I.loc
   exact free _ o (fun z=>(hch _ z).2.1 rfl) ho I.free
 . obtain⟨v,o,ho,hd⟩:=I.cell x c e
   exact free c o (fun z=>(hch c z).2.2.1 x c e rfl) ho (I.freeC x c e)
 . obtain⟨e,n,ne,nf,d⟩:=I.pin p hp
   have nch:p.1 ∉ ch:=fun z=>(hch p.1 z).2.2.2 p hp rfl
   exact⟨keep p.1 p.2 ne nf nch e n,free p.1 p.2 nch e n,ne,nf,d⟩
theorem Inv.un{t':Nat}(I:Inv X pins σ H s)(u:Un X.fs [] H H' s.heap h')(hok:HOk X.prog X.w H' h'):Inv X pins σ H' {s with heap:=h',toks:=t'}:=by
 obtain⟨m,⟨o,es,ep,ho,r⟩,_⟩:=id I.loc
 obtain⟨sl,hL⟩:=u.any ho I.free (by simp)
 exact I.step (g':=s.gens) (d':=s.drawn) (ch:=[]) (fun _ z=>nomatch z) (fun b o _ hb _ e n=>u.keep b o e n hb (by simp)) (fun b o _ hb _ e n=>u.slot b o e n hb (by simp)) (fun b o _ e n=>u.free b o e n (by simp)) (fun b o _ e=>u.there b o e (by simp)) u.tups u.frzs u.tbls (fun m' hm=>by
  obtain⟨o',es',ep',ho',r'⟩:=hm
  rw[ho]at ho';cases ho'
  exact⟨_,es',ep',hL,r'⟩) hok I.bare
theorem Inv.call{g':Array F2}{t':Nat}{d':Drawn}{ch:List Addr}(I:Inv X pins σ H s)(u:Un (frs X.stack) ch H H' s.heap h')(hok:HOk X.prog X.w H' h')(hg:AllBare g')
 (hch:∀b∈ch,(b∈X.ex\/X.s₀.heap.objs.size<=b)/\b≠X.env.locals/\(∀x c,X.env.cells.lookup x=some c->c≠b)/\∀p∈X.pn++pins,p.1≠b) :
 Inv X pins σ H' {s with heap:=h',gens:=g',drawn:=d',toks:=t'}:=by
 obtain⟨m,⟨o,es,ep,ho,r⟩,_⟩:=id I.loc
 obtain⟨sl,hL⟩:=u.any ho I.free fun z=>(hch _ z).2.1 rfl
 exact I.step (ch:=ch) hch (fun b o hL hb hc e n=>u.keep b o e n (fun z=>(Al.mp (I.kZ b z)).elim hL hb) hc) (fun b o _ _ hc e n=>u.any e n hc) (fun b o hc e n=>u.free b o e n hc) (fun b o hc e=>u.there b o e hc) u.tups u.frzs u.tbls (fun m' hm=>by
  obtain⟨o',es',ep',ho',r'⟩:=hm
  rw[ho]at ho';cases ho'
  exact⟨_,es',ep',hL,r'⟩) hok hg
theorem Inv.turned{t':Nat}{it:Addr}(I:Inv X pins σ H s)(k:∀b o,b≠it->s.heap.get? b=some o->h'.get? b=some o)(hn:H it=none)(hL:it≠X.env.locals)
 (h1:it∈X.ex\/X.s₀.heap.objs.size<=it) (h2:∀x c,X.env.cells.lookup x=some c->c≠it) (h3:∀p∈X.pn++pins,p.1≠it):Inv X pins σ H {s with heap:=h',toks:=t'}:=by
 have nit:∀b u,H b=some u->b≠it:=fun b u e z=>by rw[z,hn]at e;cases e
 refine I.step (g':=s.gens) (d':=s.drawn) (ch:=[it]) (fun b hb=>?_) (fun b o _ _ hc e _=>k b o (fun z=>hc (by simp[z])) e) (fun b o _ _ hc e _=>⟨o.slots,k b o (fun z=>hc (by simp[z])) e⟩) (fun _ _ _ _ n=>n)
  (fun b o hc e=>⟨o,k b o (fun z=>hc (by simp[z])) e⟩) (fun _ _ e=>e) (fun _ _ _ e=>e) (fun b ps e=>⟨#[],by rw[e];simp⟩) (fun m hm=>?_) (fun b u e=>?_) I.bare
 . have e:b=it:=by simpa using hb
   subst e
   exact⟨h1,hL,h2,h3⟩
 . obtain⟨o,es,ep,ho,r⟩:=hm
   exact⟨o,es,ep,k _ o (Bq hL) ho,r⟩
 . refine(I.hok b u e).qf (fun c v hc q=>k c v ?_ q) (fun _ q=>q) fun _ _ q=>q
   rcases hc with z|z
   . rw[z];exact nit b u e
   . exact nit c _ z
theorem Inv.tok(I:Inv X pins σ H s)(t:Nat):Inv X pins σ H {s with toks:=t}:=I.un (h':=s.heap) (t':=t) Un.refl I.hok
theorem Inv.kept{t':Nat}(I:Inv X pins σ H s)(k:∀b u,s.heap.get? b=some u->h'.get? b=some u):Inv X pins σ H {s with heap:=h',toks:=t'}:=I.un (Un.kept k) (I.hok.kept k)
theorem Inv.laid{a:Addr}{o:HO}{t':Nat}(I:Inv X pins σ H s)(k:∀b u,s.heap.get? b=some u->h'.get? b=some u)(hp:s.heap.objs.size<=a)(new:yB X.prog X.w (upd H a o) h' a o) :
 Inv X pins σ (upd H a o) {s with heap:=h',toks:=t'}:=I.un (Un.laid k hp (I.hok.fresh hp)) (I.hok.laid k hp new)
theorem Inv.write{x e:Addr}{o:HO}{t':Nat}(I:Inv X pins σ H s)(mu:Mut (H x))(he:e=x\/H e=some (.own x))(k:∀b u,b≠e->s.heap.get? b=some u->h'.get? b=some u)(heo:∃u,h'.get? e=some u)
 (new:yB X.prog X.w (upd H x o) h' x o):Inv X pins σ (upd H x o) {s with heap:=h',toks:=t'}:=I.un (Un.write mu he k heo) (I.hok.write mu he k heo new)
theorem Inv.ox{pins':List (Addr × Obj)}(I:Inv X pins σ H s)(h:∀p∈pins',s.heap.get? p.1=some p.2/\H p.1=none/\p.1≠X.env.locals/\p.1 ∉ X.fs/\∀v,p.2.data≠.cell v):Inv X pins' σ H s:=
 ⟨I.ok,I.os,I.bare,I.base,I.loc,I.cell,I.free,I.freeC,fun p hp=>(AO.mp hp).elim (fun z=>I.pin p (Bc _ z)) (h p),I.hok,I.len⟩
theorem mO{N:List Str}(hN:N.Nodup){i j:Nat}{x:Str}(a:N[i]?=some x)(b:N[j]?=some x):i=j:=by
 obtain⟨h1,e1⟩:=As.mp a
 obtain⟨h2,e2⟩:=As.mp b
 exact(List.getElem_inj hN).mp (e1.trans e2.symm)
theorem pS{M:Model}{A:Around}{E:Value->Shared->Prop}{i:Nat}{x:Str}{v:V}{u:Value}{Q:Unit->Shared->Prop}(I:Inv X pins σ H s)(hN:X.N.Nodup)(hi:X.N[i]?=some x)(hx:Loc X.env.scope x)(r:RelV v u)
 (h:∀s',Inv X pins (σ.set i (some v)) H s'->(∃a,DN a s.heap s'.heap/\(a=X.env.locals\/X.env.cells.lookup x=some a))->Q () s') (hf:X.fn x=true\/X.env.scope.names.lookup x=some .local:=by first|exact .inl rfl|exact .inr rfl|assumption):wpAny M A (storeName X.env x u) Q E s:=by
 obtain⟨m,hn,hl⟩:=id I.loc
 have hcls:(X.env.scope.kind == .class||(X.env.scope.kind == .module&&X.env.locals != X.env.globals))=false:=by rw[I.ok.kind];rfl
 have hiσ:i<σ.length:=by rw[I.len];exact(As.mp hi).1
 have cne:=I.cne
 have tracked:∀{a:Addr} {h':Heap},(∃o,s.heap.get? a=some o/\H a=none)->DN a s.heap h'->HOk X.prog X.w H h':=fun{a h'} ha hs b ob e=>by
  obtain⟨_,_,hfree⟩:=ha
  refine(I.hok b ob e).qf (fun c w' hc q=>(hs.2 c ?_).trans q) (fun _ q=>q) fun _ _ q=>q
  rintro rfl
  rcases hc with rfl|hc
  . rw[hfree]at e;cases e
  . rw[hfree]at hc;cases hc
 rcases hx with hk|hk
 . refine wpAny_storeName_local hk hn (fun h' hn' hs=>?_) hcls
   obtain⟨oL,_,_,hoL,_⟩:=id hn
   refine h _ ⟨I.ok,I.os,I.bare,⟨fun b o e n hb hx=>?_,fun b o e n hb hx=>?_,I.base.free,fun b o e hx=>?_,I.base.tups,I.base.frzs,I.base.tbls⟩,⟨_,hn',fun j y v' e1 e2 e3=>?_⟩,fun y c e=>?_,I.free,I.freeC,fun p hp=>?_,tracked ⟨oL,hoL,I.free⟩ hs,by simpa using I.len⟩ ⟨_,hs,.inl rfl⟩
   . exact(hs.2 b (AB (AD (An e) I.ok.above))).trans (I.base.keep b o e n hb hx)
   . obtain⟨sl,e1⟩:=I.base.slot b o e n hb hx
     exact⟨sl,(hs.2 b (AB (AD (An e) I.ok.above))).trans e1⟩
   . obtain⟨o',e1⟩:=I.base.there b o e hx
     exact⟨o',(hs.2 b (AB (AD (An e) I.ok.above))).trans e1⟩
   . by_cases hj:j=i
     . subst hj
       rw[hi]at e1;cases e1
       rw[AR hiσ]at e2
       cases e2
       exact⟨u,r,.inl ⟨hk,by simp⟩⟩
     . rw[BK (Bq hj)]at e2
       obtain⟨u',r',q⟩:=hl j y v' e1 e2 e3
       refine⟨u',r',?_⟩
       rcases q with⟨k,e⟩|⟨k,c,e,z⟩
       . refine .inl ⟨k,?_⟩
         have:y≠x:=fun e=>hj (mO hN e1 (e▸hi))
         simp[this,e]
       . exact .inr ⟨k,c,e,z.sameBut hs (cne y c e)⟩
   . obtain⟨w',z⟩:=I.cell y c e
     exact⟨w',z.sameBut hs (cne y c e)⟩
   . obtain⟨e,n,ne,nf,d⟩:=I.pin p hp
     exact⟨(hs.2 p.1 ne).trans e,n,ne,nf,d⟩
 . have hfn:X.fn x=true:=by
    rcases hf with z|z
    . exact z
    . rw[z]at hk;cases hk
   obtain⟨c,hc⟩:=I.ok.has x (.inl hk)
   obtain⟨w',z⟩:=I.cell x c hc
   refine wpAny_storeName_cell I.ok.kind hk hc z (fun h' hc' hs=>?_)
   obtain⟨oc,hoc,hocd⟩:=id z
   refine h {s with heap:=h'} ⟨I.ok,I.os,I.bare,⟨fun b o e n hb hx=>?_,fun b o e n hb hx=>?_,I.base.free,fun b o e hx=>?_,I.base.tups,I.base.frzs,I.base.tbls⟩,⟨m,hn.sameBut hs (Bq (cne x c hc)),fun j y v' e1 e2 e3=>?_⟩,fun y c' e=>?_,I.free,I.freeC,fun p hp=>?_,tracked ⟨oc,hoc,I.freeC x c hc⟩ hs,by simpa using I.len⟩ ⟨c,hs,.inr hc⟩
   . exact(hs.2 b (AB (AD (An e) (I.ok.cab x c hfn hc)))).trans (I.base.keep b o e n hb hx)
   . obtain⟨sl,e1⟩:=I.base.slot b o e n hb hx
     exact⟨sl,(hs.2 b (AB (AD (An e) (I.ok.cab x c hfn hc)))).trans e1⟩
   . obtain⟨o',e1⟩:=I.base.there b o e hx
     exact⟨o',(hs.2 b (AB (AD (An e) (I.ok.cab x c hfn hc)))).trans e1⟩
   . by_cases hj:j=i
     . subst hj
       rw[hi]at e1;cases e1
       rw[AR hiσ]at e2
       cases e2
       exact⟨u,r,.inr ⟨.inl hk,c,hc,hc'⟩⟩
     . rw[BK (Bq hj)]at e2
       obtain⟨u',r',q⟩:=hl j y v' e1 e2 e3
       refine⟨u',r',?_⟩
       rcases q with q|⟨k,c',e,z'⟩
       . exact .inl q
       . refine .inr ⟨k,c',e,z'.sameBut hs ?_⟩
         rintro rfl
         exact hj (mO hN e1 (I.ok.inj _ _ _ e hc▸hi))
   . by_cases hcc:c'=c
     . subst hcc;exact⟨_,hc'⟩
     . obtain⟨w2,z2⟩:=I.cell y c' e
       exact⟨w2,z2.sameBut hs hcc⟩
   . obtain⟨e,n,ne,nf,d⟩:=I.pin p hp
     refine⟨(hs.2 p.1 ?_).trans e,n,ne,nf,d⟩
     intro q
     rw[q,hoc]at e
     have q':oc=p.2:=AG e
     exact d w' (by rw[<-q'];exact hocd)
theorem xf{M:Model}{A:Around}{E:Value->Shared->Prop}{i:Nat}{x:Str}{v:V}{u:Value}{Q:Unit->Shared->Prop}(I:Inv X pins σ H s)(hN:X.N.Nodup)(hi:X.N[i]?=some x)(hx:Loc X.env.scope x)(r:RelV v u)
 (h:∀s',Inv X pins (σ.set i (some v)) H s'->Q () s') (hf:X.fn x=true\/X.env.scope.names.lookup x=some .local:=by first|exact .inl rfl|exact .inr rfl|assumption):wpAny M A (storeName X.env x u) Q E s:=
 pS I hN hi hx r (fun s' I' _=>h s' I') hf
theorem Inv.UW{s':Shared}{ch:List Addr}(I:Inv X pins σ H s)(ho:s'.os=s.os)(u:Un (frs X.stack) ch H H' s.heap s'.heap)(hok:HOk X.prog X.w H' s'.heap)(hg:AllBare s'.gens)
 (hch:∀b∈ch,(b∈X.ex\/X.s₀.heap.objs.size<=b)/\b≠X.env.locals/\(∀x c,X.env.cells.lookup x=some c->c≠b)/\∀p∈X.pn++pins,p.1≠b):Inv X pins σ H' s':=by
 obtain⟨h',g',d',t',o'⟩:=s'
 have e:o'=s.os:=ho
 subst e
 exact I.call (g':=g') (t':=t') (d':=d') u hok hg hch
end
noncomputable abbrev XK:=Value->Option Addr->Hp->Prop
noncomputable abbrev St:=List (Option V)
noncomputable abbrev VK:=V->Hp->Prop
noncomputable abbrev TE:=St->Hp->VK->Prop
noncomputable abbrev TT:=St->Hp->(Bool->Hp->Prop)->Prop
noncomputable abbrev TA:=St->Hp->(List V->Hp->Prop)->Prop
structure Ends where
 nx:St->Hp->Prop
 rt:VK
 bk:St->Hp->Prop:=fun _ _=>False
 ct:St->Hp->Prop:=fun _ _=>False
noncomputable abbrev TS:=Ends->St->Hp->Prop
def EP(X:Cx)(pins:List (Addr × Obj))(σ:St)(Q:VK)(u:Value)(s':Shared):Prop:=∃v H',Inv X pins σ H' s'/\RelV v u/\Q v H'
def TP(X:Cx)(pins:List (Addr × Obj))(σ:St)(Q:Bool->Hp->Prop)(b:Bool)(s':Shared):Prop:=∃H',Inv X pins σ H' s'/\Q b H'
def AP(X:Cx)(pins:List (Addr × Obj))(σ:St)(Q:List V->Hp->Prop)(us:List Value)(s':Shared):Prop:=∃vs H',Inv X pins σ H' s'/\Vals vs us/\Q vs H'
def SP(X:Cx)(pins:List (Addr × Obj))(D:Ends)(f:Flow)(s':Shared):Prop:=
 match f with
 |.next=>∃σ' H',Inv X pins σ' H' s'/\D.nx σ' H'
 |.brk=>∃σ' H',Inv X pins σ' H' s'/\D.bk σ' H'
 |.cont=>∃σ' H',Inv X pins σ' H' s'/\D.ct σ' H'
 |.ret u=>∃v σ' H',Inv X pins σ' H' s'/\RelV v u/\D.rt v H'
def PE(X:Cx)(e:Expr)(t:TE):Prop:=
 ∀(pins:List (Addr × Obj)) (s:Shared) (σ:St) (H:Hp) (Q:VK),Inv X pins σ H s->t σ H Q->wpAny (model X.prog X.w) X.A (eval e X.env) (EP X pins σ Q) X.xe s
def PT(X:Cx)(e:Expr)(t:TT):Prop:=
 ∀(pins:List (Addr × Obj)) (s:Shared) (σ:St) (H:Hp) (Q:Bool->Hp->Prop),Inv X pins σ H s->t σ H Q->wpAny (model X.prog X.w) X.A (isTrue e X.env (eval e X.env)) (TP X pins σ Q) X.xe s
def PW(X:Cx)(e:Expr)(t:TT):Prop:=
 ∀(whole:Sem Value) (pins:List (Addr × Obj)) (s:Shared) (σ:St) (H:Hp) (Q:Bool->Hp->Prop),Inv X pins σ H s->t σ H Q->wpAny (model X.prog X.w) X.A (isTrue e X.env whole) (TP X pins σ Q) X.xe s
theorem PW.pt{X:Cx}{e:Expr}{t:TT}(h:PW X e t):PT X e t:=h _
def PA(X:Cx)(es:List Expr)(t:TA):Prop:=
 ∀(pos:Pos) (pins:List (Addr × Obj)) (s:Shared) (σ:St) (H:Hp) (Q:List V->Hp->Prop),Inv X pins σ H s->t σ H Q->wpAny (model X.prog X.w) X.A (spliced (backTo pos (AM es X.env))) (AP X pins σ Q) X.xe s
def PS(X:Cx)(st:Stmt)(t:TS):Prop:=
 ∀(pins:List (Addr × Obj)) (s:Shared) (σ:St) (H:Hp) (D:Ends),Inv X pins σ H s->t D σ H->wpAny (model X.prog X.w) X.A (exec st X.env) (SP X pins D) X.xe s
def PSs(X:Cx)(st:List Stmt)(t:TS):Prop:=
 ∀(pins:List (Addr × Obj)) (s:Shared) (σ:St) (H:Hp) (D:Ends),Inv X pins σ H s->t D σ H->wpAny (model X.prog X.w) X.A (execs st X.env) (SP X pins D) X.xe s
theorem thn{α:Type}{t:Sem α}{Q Q':α->Shared->Prop}{M:Model}{A:Around}{E:Value->Shared->Prop}{s:Shared}(h:wpAny M A t Q E s)(hQ:∀a s,Q a s->Q' a s):wpAny M A t Q' E s:=Ba h hQ fun _ _ x=>x
end L2
namespace L2
open PySem PySem.Spec PyProof.Rows
section
variable {X:Cx}
theorem bin{a b:Expr}{ta tb:TE}(ha:PE X a ta)(hb:PE X b tb){pins:List (Addr × Obj)}{s:Shared}{σ:St}{H:Hp}{R:V->V->Hp->Prop}(I:Inv X pins σ H s)(h:ta σ H fun x H1=>tb σ H1 fun y H2=>R x y H2)
 {α:Type} {Q:α->Shared->Prop} {f:Value->Value->Sem α}
 (hf:∀v u s2 x y H2,Inv X pins σ H2 s2->RelV x v->RelV y u->R x y H2->wpAny (model X.prog X.w) X.A (f v u) Q X.xe s2) :
 wpAny (model X.prog X.w) X.A (eval a X.env) (fun v s₁=>wpAny (model X.prog X.w) X.A (eval b X.env) (fun u s₂=>wpAny (model X.prog X.w) X.A (f v u) Q X.xe s₂) X.xe s₁) X.xe s:=by
 refine thn (ha pins s σ H _ I h) fun v s1 ⟨x,H1,I1,r1,q1⟩=>?_
 refine thn (hb pins s1 σ H1 _ I1 q1) fun u s2 ⟨y,H2,I2,r2,q2⟩=>?_
 exact hf v u s2 x y H2 I2 r1 r2 q2
noncomputable def uM(i:Nat):TE:=fun σ H Q=>∃v,σ[i]?=some (some v)/\Q v H
noncomputable def tC(v:V):TE:=fun _ H Q=>Q v H
theorem vX{i:Nat}{x:Str}{pos:Pos}(hN:X.N[i]?=some x)(hv:Vis X.env.scope x)(hd:(x == ("__debug__":Str))=false:=by decide)(hcd:(x == ("__classdict__":Str))=false:=by decide):PE X (.Name x pos) (uM i):=by
 intro pins s σ H Q I h
 obtain⟨v,e,h⟩:=h
 obtain⟨m,hn,hl⟩:=I.loc
 obtain⟨u,r,l⟩:=hl i x v hN e hv
 have fin:EP X pins σ Q u s:=⟨v,H,I,r,h⟩
 rcases l with⟨hk,hm⟩|⟨hk,c,hc,hcell⟩
 . exact wpAny_Name (wpAny_loadName_local I.ok.kind hk hn hm fin) hd
 . rcases hk with hk|hk
   . exact wpAny_Name (wpAny_loadName_cell I.ok.kind hk hc hcell fin) hd
   . exact wpAny_Name (wpAny_loadName_free I.ok.kind hk hc hcell fin hcd) hd
theorem bJ{i j pos}:PE X (.Constant (.int i) j pos) (tC (.int i)):=fun _ _ _ H _ I h=>wpAny_Constant_int ⟨.int i,H,I.tok _,⟨_,rfl⟩,h⟩
theorem bC{b j pos}:PE X (.Constant (.bool b) j pos) (tC (.bl b)):=fun _ _ _ H _ I h=>Constant_bool ⟨.bl b,H,I,rfl,h⟩
theorem Vb{j pos}:PE X (.Constant .none j pos) (tC .non):=fun _ _ _ H _ I h=>Constant_none ⟨.non,H,I,rfl,h⟩
theorem tS{x j pos}:PE X (.Constant (.str x) j pos) (tC (.str x)):=fun _ _ _ H _ I h=>DO ⟨.str x,H,I.tok _,⟨_,rfl⟩,h⟩
def Gl(X:Cx)(x:Str):Prop:=X.env.kindOf x=some .globalImplicit
theorem wO{E:Value->Shared->Prop}{pins:List (Addr × Obj)}{s:Shared}{σ:St}{H:Hp}{x:Str}{u:Value}{pos:Pos}{Q:Value->Shared->Prop}(I:Inv X pins σ H s)(hg:Gl X x)(hm:X.mg x=some u)(h:Q u s)
 (hd:(x == ("__debug__":Str))=false:=by decide):wpAny (model X.prog X.w) X.A (eval (.Name x pos) X.env) Q E s:=
 Fy I.ok.kind hg (Calls.loadGlobal_global (by rw[I.ok.glob];exact I.mod.glob.keeps I.bk) hm h) hd
theorem uD{E:Value->Shared->Prop}{pins:List (Addr × Obj)}{s:Shared}{σ:St}{H:Hp}{x:Str}{u:Value}{pos:Pos}{Q:Value->Shared->Prop}(I:Inv X pins σ H s)(hg:Gl X x)(hm:X.mg x=none)(hv:Cf x=some u)(h:Q u s)
 (hn:x≠"__name__":=by decide) (hd:(x == ("__debug__":Str))=false:=by decide):wpAny (model X.prog X.w) X.A (eval (.Name x pos) X.env) Q E s:=by
 obtain⟨mb,h1,h2⟩:=I.mod.blt
 exact Fy I.ok.kind hg (Calls.loadGlobal_builtin (by rw[I.ok.glob];exact I.mod.glob.keeps I.bk) hm (by rw[I.ok.blt];exact h1.keeps I.bk) ((h2 x hn).trans hv) h) hd
theorem YB{x:Str}{v:V}{u:Value}{pos:Pos}(hg:Gl X x)(hm:X.mg x=some u)(r:RelV v u)(hd:(x == ("__debug__":Str))=false:=by decide):PE X (.Name x pos) (tC v):=
 fun _ _ _ H _ I h=>wO I hg hm ⟨v,H,I,r,h⟩ hd
theorem Z9{x:Str}{v:V}{u:Value}{pos:Pos}(hg:Gl X x)(hm:X.mg x=none)(hv:Cf x=some u)(r:RelV v u)(hn:x≠"__name__":=by decide)(hd:(x == ("__debug__":Str))=false:=by decide):PE X (.Name x pos) (tC v):=
 fun _ _ _ H _ I h=>uD I hg hm hv ⟨v,H,I,r,h⟩ hn hd
variable {a b:Expr}{ta tb:TE}{pos:Pos}
def PC(X:Cx)(op:CmpOp)(a b:Expr)(t:TE):Prop:=
 ∀(pins:List (Addr × Obj)) (s:Shared) (σ:St) (H:Hp) (Q:VK),Inv X pins σ H s->t σ H Q ->
  wpAny (model X.prog X.w) X.A (eval a X.env) (fun v s₁=>wpAny (model X.prog X.w) X.A (eval b X.env) (fun u s₂=>wpAny (model X.prog X.w) X.A (Bl op v u) (EP X pins σ Q) X.xe s₂) X.xe s₁) X.xe s
theorem qE(b:Expr){op:CmpOp}(h:op≠.In)(h2:op≠.NotIn):Dy op b=false:=by
 have e1:(op == CmpOp.In)=false:=by cases op<;>first|rfl|exact absurd rfl h
 have e2:(op == CmpOp.NotIn)=false:=by cases op<;>first|rfl|exact absurd rfl h2
 cases b<;>simp[Dy,e1,e2]
noncomputable def tB(t:TE):TT:=fun σ H Q=>t σ H fun x H1=>∃c,x=.bl c/\Q c H1
theorem RV{op:CmpOp}{t:TE}(h:PC X op a b t)(h1:Dy op b=false:=by first|exact qE _ (by decide) (by decide)|rfl):PT X (.Compare a [op] [b] pos) (tB t):=by
 intro pins s σ H Q I hw
 refine wpAny_isTrue_Compare1 (thn (h pins s σ H _ I hw) fun v s1 h1=>thn h1 fun u s2 h2=>thn h2 fun c s3 ⟨x,H1,I1,r1,q1⟩=>?_) h1
 obtain⟨d,rfl,q⟩:=q1
 cases r1
 exact Bx ⟨H1,I1,q⟩
theorem Vo{e:Expr}{t:TE}(h:PE X e t)(he:∀whole,isTrue e X.env whole=(do let v <-whole;standAt e.pos;holding [v] (truthy v)):=by intro _;rfl):PT X e (tB t):=by
 intro pins s σ H Q I hw
 refine isTrue_plain (thn (h pins s σ H _ I hw) fun v s1 ⟨x,H1,I1,r1,q1⟩=>?_) (he _)
 obtain⟨d,rfl,q⟩:=q1
 cases r1
 exact Bx ⟨H1,I1,q⟩
variable {tA tB':TT}{rest:List Expr}
noncomputable def tOr(t u:TT):TT:=fun σ H Q=>t σ H fun c H1=>if c=true then Q true H1 else u σ H1 Q
noncomputable def Si(t:TT):TT:=fun σ H Q=>t σ H fun c H1=>Q (!c) H1
theorem Vp(ha:PT X a tA):PW X (.BoolOp .Or [a] pos) tA:=by
 intro wh pins s σ H Q I h
 refine isTrue_or (thn (ha pins s σ H Q I h) fun c s1 e=>?_)
 cases c with
 |false=>exact isTrue_or_nil e
 |true=>exact e
theorem T6(ha:PT X a tA)(hb:PW X (.BoolOp .Or (b::rest) pos) tB'):PW X (.BoolOp .Or (a::b::rest) pos) (tOr tA tB'):=by
 intro wh pins s σ H Q I h
 refine isTrue_or (thn (ha pins s σ H _ I h) fun c s1 ⟨H1,I1,q1⟩=>?_)
 cases c with
 |true=>exact⟨H1,I1,q1⟩
 |false=>exact hb wh pins s1 σ H1 Q I1 q1
theorem kJ(ha:PT X a tA):PT X (.UnaryOp .Not a pos) (Si tA):=by
 intro pins s σ H Q I h
 exact isTrue_not (ha pins s σ H (fun c H1=>Q (!c) H1) I h)
noncomputable def Sf(ta tb:TE):TE:=fun σ H Q=>ta σ H fun x H1=>∃c,x=.bl c/\if c=true then tb σ H1 Q else Q (.bl false) H1
noncomputable def Sj(ta:TE):TE:=fun σ H Q=>ta σ H fun x H1=>∃c,x=.bl c/\Q (.bl (!c)) H1
theorem kE{op}{t:TE}(h:PE X a t):PE X (.BoolOp op [a] pos) t:=fun pins s σ H Q I hw=>BoolOp_one (h pins s σ H Q I hw)
theorem VX(ha:PE X a ta)(hb:PE X (.BoolOp .And (b::rest) pos) tb):PE X (.BoolOp .And (a::b::rest) pos) (Sf ta tb):=by
 intro pins s σ H Q I h
 refine BoolOp_and (thn (ha pins s σ H _ I h) fun v s1 ⟨x,H1,I1,r1,q1⟩=>?_)
 obtain⟨c,rfl,q1⟩:=q1
 cases r1
 refine Bx ?_
 cases c with
 |true=>exact hb pins s1 σ H1 Q I1 q1
 |false=>exact⟨.bl false,H1,I1,rfl,q1⟩
theorem Vc(ha:PE X a ta):PE X (.UnaryOp .Not a pos) (Sj ta):=by
 intro pins s σ H Q I h
 refine UnaryOp_ (thn (ha pins s σ H _ I h) fun v s1 ⟨x,H1,I1,r1,q1⟩=>?_)
 obtain⟨c,rfl,q1⟩:=q1
 cases r1
 exact not_of (Bx ⟨.bl (!c),H1,I1,rfl,q1⟩)
noncomputable def tIf(t:TT)(ta tb:TE):TE:=fun σ H Q=>t σ H fun c H1=>if c=true then ta σ H1 Q else tb σ H1 Q
theorem mW{c:Expr}(hc:PT X c tA)(ha:PE X a ta)(hb:PE X b tb):PE X (.IfExp c a b pos) (tIf tA ta tb):=by
 intro pins s σ H Q I h
 refine wpAny_IfExp (thn (hc pins s σ H _ I h) fun d s1 ⟨H1,I1,q1⟩=>?_)
 cases d with
 |true=>exact ha pins s1 σ H1 Q I1 q1
 |false=>exact hb pins s1 σ H1 Q I1 q1
end
end L2
namespace L2
open PySem PySem.Spec PyProof.Rows
def SqL(K:Af)(H:Hp)(a:Addr)(xs:List V):Prop:=
 Rd H a (.lst xs) \/
  ∃(o:Obj) (its:Array Value) (n:Nat),K.lookup a=some o/\o.cls=.type "list"/\o.dict=none/\o.data=.seq its n/\its.size<=AA/\Vals xs its.toList
def SqT(K:Af)(H:Hp)(a:Addr)(xs:List V):Prop:=
 Rd H a (.tup xs) \/
  ∃(o:Obj) (its:Array Value) (n:Nat),K.lookup a=some o/\o.cls=.type "tuple"/\o.data=.seq its n/\its.size<=AA/\Vals xs its.toList
noncomputable def RA:Value->Option V
 |.none=>some .non
 |.bool b=>some (.bl b)
 |.int i _=>some (.int i)
 |.str x _=>some (.str x)
 |.bytes b _=>some (.byt b)
 |.float b _=>some (.flt b)
 |.ref a=>some (.ref a)
 |.type n=>some (.ty n)
 |_=>none
theorem RelV.abs{x:V}{u:Value}(r:RelV x u):RA u=some x:=by
 cases x with
 |non=>cases r;rfl
 |bl _=>cases r;rfl
 |int _=>obtain⟨t,rfl⟩:=r;rfl
 |str _=>obtain⟨t,rfl⟩:=r;rfl
 |byt _=>obtain⟨t,rfl⟩:=r;rfl
 |flt _=>obtain⟨t,rfl⟩:=r;rfl
 |ref _=>cases r;rfl
 |ty _=>cases r;rfl
theorem RelV.inj{x y:V}{u:Value}(r:RelV x u)(q:RelV y u):x=y:=AG (r.abs.symm.trans q.abs)
theorem Vals.inj:∀{xs ys:List V} {us:List Value},Vals xs us->Vals ys us->xs=ys
 |_,_,_,.nil,.nil=>rfl
 |_,_,_,.cons r t,.cons r' t'=>by rw[r.inj r',Vals.inj t t']
section
variable {X:Cx}{pins:List (Addr × Obj)}{σ:St}{H:Hp}{s:Shared}{a:Addr}{xs ys:List V}
theorem SqL.of{K:Af}(h:H a=some (.lst xs)):SqL K H a xs:=.inl (.inl h)
theorem SqT.of{K:Af}(h:H a=some (.tup xs)):SqT K H a xs:=.inl (.inl h)
theorem Inv.list(I:Inv X pins σ H s)(h:SqL X.K H a xs):∃its:List Value,Vals xs its/\PlainL s.heap a its.toArray/\xs.length<=AA:=by
 rcases h with h|⟨o,its,n,hk,hc,hd,hs,hz,r⟩
 . obtain⟨z,its,n,r,e⟩:=h.ok I.hok
   exact⟨its,r,⟨_,n,e,rfl,rfl,rfl⟩,z⟩
 . refine⟨its.toList,r,⟨o,n,I.kIn a o hk,hc,hd,by simpa using hs⟩,?_⟩
   have e:=r.length
   simp only[Cv]at e
   omega
theorem Inv.tuple(I:Inv X pins σ H s)(h:SqT X.K H a xs):∃its:List Value,Vals xs its/\IsTup s.heap a its.toArray/\xs.length<=AA:=by
 rcases h with h|⟨o,its,n,hk,hc,hs,hz,r⟩
 . obtain⟨z,its,r,p⟩:=h.ok I.hok
   exact⟨its,r,p.tup,z⟩
 . refine⟨its.toList,r,⟨o,I.kIn a o hk,hc,n,by simpa using hs⟩,?_⟩
   have e:=r.length
   simp only[Cv]at e
   omega
theorem Inv.mF(I:Inv X pins σ H s)(h:SqL X.K H a xs)(h':SqL X.K H a ys):xs=ys:=by
 obtain⟨its,r,⟨o,n,e,_,_,d⟩,_⟩:=I.list h
 obtain⟨its',r',⟨o',n',e',_,_,d'⟩,_⟩:=I.list h'
 rw[e]at e';cases e'
 rw[d]at d'
 injection d' with d1 _
 have:its=its':=by simpa using congrArg Array.toList d1
 subst this
 exact r.inj r'
theorem Inv.pX(I:Inv X pins σ H s)(h:SqT X.K H a xs)(h':SqT X.K H a ys):xs=ys:=by
 obtain⟨its,r,⟨o,e,_,n,d⟩,_⟩:=I.tuple h
 obtain⟨its',r',⟨o',e',_,n',d'⟩,_⟩:=I.tuple h'
 rw[e]at e';cases e'
 rw[d]at d'
 injection d' with d1 _
 have:its=its':=by simpa using congrArg Array.toList d1
 subst this
 exact r.inj r'
end
noncomputable abbrev Cx.wK(X:Cx)(E:Value->Shared->Prop):Cx:={X with xe:=E}
noncomputable abbrev Cx.nox(X:Cx):Cx:=X.wK fun _ _=>False
theorem Cx.Ok.wK{X:Cx}(ok:X.Ok)(E:Value->Shared->Prop):(X.wK E).Ok:=
 ⟨ok.mod,ok.kind,ok.glob,ok.blt,ok.above,ok.inj,ok.has,ok.cab,ok.hd,ok.frames,ok.stk,ok.exf,ok.bs,ok.bsz,ok.noex,ok.exfs,ok.ud,ok.frf⟩
theorem Cx.Ok.yx{X:Cx}{E:Value->Shared->Prop}(ok:(X.wK E).Ok):X.Ok:=
 ⟨ok.mod,ok.kind,ok.glob,ok.blt,ok.above,ok.inj,ok.has,ok.cab,ok.hd,ok.frames,ok.stk,ok.exf,ok.bs,ok.bsz,ok.noex,ok.exfs,ok.ud,ok.frf⟩
section
variable {X:Cx}{pins:List (Addr × Obj)}{σ:St}{H:Hp}{s:Shared}{E:Value->Shared->Prop}
theorem Inv.wK(I:Inv X pins σ H s)(E:Value->Shared->Prop):Inv (X.wK E) pins σ H s:=⟨I.ok.wK E,I.os,I.bare,I.base,I.loc,I.cell,I.free,I.freeC,I.pin,I.hok,I.len⟩
theorem Inv.yx(I:Inv (X.wK E) pins σ H s):Inv X pins σ H s:=⟨I.ok.yx,I.os,I.bare,I.base,I.loc,I.cell,I.free,I.freeC,I.pin,I.hok,I.len⟩
theorem SP.yx{D:Ends}{f:Flow}{s':Shared}(h:SP (X.wK E) pins D f s'):SP X pins D f s':=by
 cases f with
 |next=>obtain⟨σ',H',I,q⟩:=h;exact⟨σ',H',I.yx,q⟩
 |brk=>obtain⟨σ',H',I,q⟩:=h;exact⟨σ',H',I.yx,q⟩
 |cont=>obtain⟨σ',H',I,q⟩:=h;exact⟨σ',H',I.yx,q⟩
 |ret u=>obtain⟨v,σ',H',I,r,q⟩:=h;exact⟨v,σ',H',I.yx,r,q⟩
theorem PE.nox{e:Expr}{t:TE}(h:PE X.nox e t):PE X e t:=fun pins s σ H Q I hw=>
 Ba (h pins s σ H Q (I.wK _) hw) (fun _ _ ⟨v,H',I',r,q⟩=>⟨v,H',I'.yx,r,q⟩) fun _ _ z=>AF z
theorem PT.nox{e:Expr}{t:TT}(h:PT X.nox e t):PT X e t:=fun pins s σ H Q I hw=>
 Ba (h pins s σ H Q (I.wK _) hw) (fun _ _ ⟨H',I',q⟩=>⟨H',I'.yx,q⟩) fun _ _ z=>AF z
theorem PSs.nox{st:List Stmt}{t:TS}(h:PSs X.nox st t):PSs X st t:=fun pins s σ H D I hw=>
 Ba (h pins s σ H D (I.wK _) hw) (fun _ _ q=>q.yx) fun _ _ z=>AF z
end
section
variable {X:Cx}{st:Stmt}{rest:List Stmt}{t u:TS}{e:Expr}{te:TE}{pos:Pos}
noncomputable def Xb:TS:=fun D σ H=>D.nx σ H
noncomputable def m9(t u:TS):TS:=fun D σ H=>t {D with nx:=u D} σ H
theorem oz:PSs X [] Xb:=fun _ _ σ H _ I h=>EM ⟨σ,H,I,h⟩
theorem yi(h1:PS X st t)(h2:PSs X rest u):PSs X (st::rest) (m9 t u):=by
 intro pins s σ H D I h
 refine Eu (thn (h1 pins s σ H {D with nx:=u D} I h) fun f s1 q=>?_)
 cases f with
 |next=>
  obtain⟨σ',H',I',q⟩:=q
  exact h2 pins s1 σ' H' D I' q
 |ret v=>exact q
 |brk=>exact q
 |cont=>exact q
theorem vA(h1:PS X st t):PSs X [st] t:=by
 intro pins s σ H D I h
 refine Eu (thn (h1 pins s σ H D I h) fun f s1 q=>?_)
 cases f with
 |next=>exact EM q
 |ret v=>exact q
 |brk=>exact q
 |cont=>exact q
theorem Inv.quiet{pins:List (Addr × Obj)}{σ:St}{H:Hp}{s:Shared}(I:Inv X pins σ H s):interactive X.env=false:=by simp[interactive,I.ok.kind]
noncomputable def Sg(te:TE):TS:=fun D σ H=>te σ H fun _ H1=>D.nx σ H1
theorem oy(he:PE X e te)(hs:Fj e none pos.line X.env=pure false:=by rfl):PS X (.Expr e pos) (Sg te):=by
 intro pins s σ H D I h
 exact wpAny_Expr_any (thn (he pins s σ H _ I h) fun v s1 ⟨x,H1,I1,r1,q1⟩=>⟨σ,H1,I1,q1⟩) I.quiet hs
noncomputable def gw(te:TE):TS:=fun D σ H=>te σ H D.rt
theorem vY(he:PE X e te):PS X (.Return (some e) pos) (gw te):=by
 intro pins s σ H D I h
 exact wpAny_Return_some (thn (he pins s σ H _ I h) fun v s1 ⟨x,H1,I1,r1,q1⟩=>⟨x,σ,H1,I1,r1,q1⟩)
noncomputable def Sh(c:TT)(t u:TS):TS:=fun D σ H=>c σ H fun b H1=>if b=true then t D σ H1 else u D σ H1
theorem me{c:Expr}{a b:List Stmt}{tc:TT}(hc:PT X c tc)(ha:PSs X a t)(hb:PSs X b u):PS X (.If c a b pos) (Sh tc t u):=by
 intro pins s σ H D I h
 refine wpAny_If (thn (hc pins s σ H _ I h) fun d s1 ⟨H1,I1,q1⟩=>?_)
 cases d with
 |true=>exact ha pins s1 σ H1 D I1 q1
 |false=>exact hb pins s1 σ H1 D I1 q1
end
noncomputable abbrev TG:=V->St->Hp->(St->Hp->Prop)->Prop
noncomputable abbrev TGs:=List V->St->Hp->(St->Hp->Prop)->Prop
def PG(X:Cx)(target:Expr)(t:TG):Prop:=
 ∀(pins:List (Addr × Obj)) (s:Shared) (σ:St) (H:Hp) (v:V) (u:Value) (Q:St->Hp->Prop),Inv X pins σ H s->RelV v u->t v σ H Q ->
  wpAny (model X.prog X.w) X.A (assign target X.env u) (fun _ s'=>∃σ' H',Inv X pins σ' H' s'/\Q σ' H') X.xe s
def PGs(X:Cx)(ts:List Expr)(t:TGs):Prop:=
 ∀(pins:List (Addr × Obj)) (s:Shared) (σ:St) (H:Hp) (vs:List V) (us:List Value) (Q:St->Hp->Prop),Inv X pins σ H s->Vals vs us->t vs σ H Q ->
  wpAny (model X.prog X.w) X.A (Eo ((CV ts X.env).map (·.2)) us) (fun _ s'=>∃σ' H',Inv X pins σ' H' s'/\Q σ' H') X.xe s
noncomputable abbrev Xo:=V->V->V->Hp->(Hp->Prop)->Prop
def UN(X:Cx)(t:Xo):Prop:=
 ∀(pins:List (Addr × Obj)) (s:Shared) (σ:St) (H:Hp) (o i v:V) (ov iv u:Value) (Q:Hp->Prop),Inv X pins σ H s->RelV o ov->RelV i iv->RelV v u->t o i v H Q ->
  wpAny (model X.prog X.w) X.A (setItem ov iv u) (fun _ s'=>∃H',Inv X pins σ H' s'/\Q H') X.xe s
section
variable {X:Cx}{pos:Pos}
noncomputable def x9(i:Nat):TG:=fun v σ H Q=>Q (σ.set i (some v)) H
theorem YC{i:Nat}{x:Str}(hN:X.N.Nodup)(hi:X.N[i]?=some x)(hx:Loc X.env.scope x)(hf:X.fn x=true\/X.env.scope.names.lookup x=some .local:=by first|exact .inl rfl|exact .inr rfl|assumption):PG X (.Name x pos) (x9 i):=by
 intro pins s σ H v u Q I r h
 exact wpAny_assign_Name (xf I hN hi hx r (fun s' I'=>⟨_,H,I',h⟩) hf)
noncomputable def Uk:TGs:=fun vs σ H Q=>vs=[]/\Q σ H
noncomputable def Y7(t:TG)(u:TGs):TGs:=fun vs σ H Q=>∃v r,vs=v::r/\t v σ H fun σ' H'=>u r σ' H' Q
theorem YD:PGs X [] Uk:=by
 intro pins s σ H vs us Q I r h
 obtain⟨e,h⟩:=h
 subst e
 cases r
 exact FN ⟨σ,H,I,h⟩
theorem bL{e:Expr}{es:List Expr}{t:TG}{u:TGs}(h1:PG X e t)(h2:PGs X es u)
 (hs:(CV (e::es) X.env).map (·.2)=assign e X.env::(CV es X.env).map (·.2):=by rfl):PGs X (e::es) (Y7 t u):=by
 intro pins s σ H vs us Q I r h
 obtain⟨v,vr,e1,h⟩:=h
 subst e1
 cases r with
 |cons r rr=>
  rw[hs]
  refine CG (thn (h1 pins s σ H _ _ _ I r h) fun _ s1 ⟨σ1,H1,I1,q1⟩=>?_)
  exact h2 pins s1 σ1 H1 _ _ Q I1 rr q1
noncomputable def Um(K:Af)(n:Nat)(t:TGs):TG:=fun v σ H Q=>∃a xs,v=.ref a/\SqT K H a xs/\xs.length=n/\t xs σ H Q
theorem ow{es:List Expr}{k:Nat}{t:TGs}{n:Nat}(hc:X.calm=true)(h:PGs X es t)
 (hn:(CV es X.env).length=n:=by rfl) (hst:(CV es X.env).findIdx? (·.1)=none:=by rfl):PG X (.Tuple es k pos) (Um X.K n t):=by
 intro pins s σ H v u Q I r hw
 obtain⟨a,xs,e1,hq,hl,hw⟩:=hw
 subst e1
 cases r
 obtain⟨its,rv,ht,hz⟩:=I.tuple hq
 refine assign_Tuple_tuple (I.ok.hd hc) ht (by simp[hn,<-hl,rv.length]) hst fun h' hx=>?_
 have I1:Inv X pins σ H {s with heap:=h'}:=I.kept (t':=s.toks) fun b o e=>hx b o (AB (An e)) e
 exact h pins _ σ H xs _ Q I1 (by simpa using rv) hw
noncomputable def Ul(to ti:TE)(t:Xo):TG:=fun v σ H Q=>to σ H fun o H1=>ti σ H1 fun i H2=>t o i v H2 fun H3=>Q σ H3
theorem Vg{o i:Expr}{to ti:TE}{t:Xo}(ho:PE X o to)(hi:PE X i ti)(hs:UN X t)
 (ha:∀v,assign (.Subscript o i pos) X.env v=(do
  let ov <-holding [v] (eval o X.env)
  let iv <-holding [v,ov] (eval i X.env)
  standAt pos
  holding [v,ov,iv] (setItem ov iv v)
  release [v,ov,iv] []):=by intro _;rfl):PG X (.Subscript o i pos) (Ul to ti t):=by
 intro pins s σ H v u Q I r h
 rw[ha]
 refine Ac (BY (thn (ho pins s σ H _ I h) fun ov s1 ⟨x,H1,I1,r1,q1⟩=>?_))
 refine Ac (BY (thn (hi pins s1 σ H1 _ I1 q1) fun iv s2 ⟨y,H2,I2,r2,q2⟩=>?_))
 refine Ac (BN (Ac (BY (thn (hs pins s2 σ H2 x y v ov iv u _ I2 r1 r2 r q2) fun _ s3 ⟨H3,I3,q3⟩=>?_))))
 exact wpAny_release ⟨σ,H3,I3,q3⟩
noncomputable def u0(te:TE)(g:TG):TS:=fun D σ H=>te σ H fun x H1=>g x σ H1 D.nx
theorem bR{tg e:Expr}{te:TE}{g:TG}(he:PE X e te)(hg:PG X tg g)(hs:Ep [tg] e pos.line X.env=pure false:=by rfl)(hw:B4 [tg] e X.env=pure none:=by rfl)
 (h1:(CV [tg] X.env).map (·.2)=[assign tg X.env]:=by rfl):PS X (.Assign [tg] e pos) (u0 te g):=by
 intro pins s σ H D I h
 refine wpAny_Assign_stores (thn (he pins s σ H _ I h) fun v s1 ⟨x,H1,I1,r1,q1⟩=>?_) hs hw
 rw[h1]
 exact thn (hg pins s1 σ H1 x v _ I1 r1 q1) fun _ s2 q=>q
theorem uK{i:Nat}{x:Str}{e:Expr}{te:TE}{pos':Pos}(hN:X.N.Nodup)(hi:X.N[i]?=some x)(hx:Loc X.env.scope x)(he:PE X e te)(hs:Fj e (some (.Name x pos')) pos.line X.env=pure false:=by rfl)(hf:X.fn x=true\/X.env.scope.names.lookup x=some .local:=by first|exact .inl rfl|exact .inr rfl|assumption) :
 PS X (.Assign [.Name x pos'] e pos) (u0 te (x9 i)):=by
 intro pins s σ H D I h
 refine wpAny_Assign_Name (thn (he pins s σ H _ I h) fun v s1 ⟨y,H1,I1,r1,q1⟩=>?_) hs
 exact xf I1 hN hi hx r1 (fun s2 I2=>⟨_,H1,I2,q1⟩) hf
noncomputable def Sl(i j:Nat)(ta:TA):TS:=fun D σ H=>ta σ H fun vs H1=>∃v w,vs=[v,w]/\D.nx ((σ.set i (some v)).set j (some w)) H1
theorem Vn{i j:Nat}{x y:Str}{a b:Expr}{ta:TA}{px py pt:Pos}{kt k2 pt2}(hc:X.calm=true)(hN:X.N.Nodup)(hi:X.N[i]?=some x)(hj:X.N[j]?=some y)(hij:i≠j)
 (hx:X.env.scope.names.lookup x=some .local) (hy:X.env.scope.names.lookup y=some .local) (ha:PA X [a,b] ta)
 (hw:B4 [.Tuple [.Name x px,.Name y py] kt pt] (.Tuple [a,b] k2 pt2) X.env=pure (some [x,y]))
 (hs:Ep [.Tuple [.Name x px,.Name y py] kt pt] (.Tuple [a,b] k2 pt2) pos.line X.env=pure false:=by rfl) :
 PS X (.Assign [.Tuple [.Name x px,.Name y py] kt pt] (.Tuple [a,b] k2 pt2) pos) (Sl i j ta):=by
 intro pins s σ H D I h
 rw[exec_Assign_arm]
 refine Ac (BN ?_)
 rw[hs]
 refine Ac (Am ?_)
 rw[if_neg (by decide)]
 refine Ac (Tuple_ (thn (ha _ pins s σ H _ I h) fun us s1 ⟨vs,H1,I1,r1,q1⟩=>?_))
 obtain⟨v,w,e1,q1⟩:=q1
 subst e1
 obtain⟨u1,u2,rfl,rv,rw'⟩:∃u1 u2,us=[u1,u2]/\RelV v u1/\RelV w u2:=by
  cases r1 with
  |cons p q=>
   cases q with
   |cons p' q'=>
    cases q'
    exact⟨_,_,rfl,p,p'⟩
 refine Be ?_ (by show 2<=AA;decide)
 have I2:Inv X pins σ H1 {s1 with heap:=s1.heap.push {cls:=.type "tuple",data:=.seq [u1,u2].toArray}}:=I1.kept (t':=s1.toks) fun b o e=>Ad _ e
 rw[hw]
 refine Ac (Am ?_)
 show wpAny (model X.prog X.w) X.A (do rule "assign.swapped-stores";let items <-unpackItems (.ref s1.heap.objs.size) 2 none;Eo [fun v=>Df X.env y v,fun v=>Df X.env x v] items.reverse;pure G5) _ _ _
 refine Ac (EN (Ac (unpackItems_tuple (items:=#[u1,u2]) (I.ok.hd hc) (IsTup.new s1.heap _) fun h' hx'=>?_)))
 have I3:=I2.kept (h':=h') (t':=s1.toks) fun b o e=>hx' b o (AB (An e)) e
 show wpAny _ _ (Eo [fun v=>Df X.env y v,fun v=>Df X.env x v] [u2,u1] >>= fun _=>pure G5) _ _ _
 refine Ac (CG (D3 (xf I3 hN hj (.inl hy) rw' (fun s2 I4=>?_) (.inr hy))))
 refine CG (D3 (xf I4 hN hi (.inl hx) rv (fun s3 I5=>FN (Am ?_)) (.inr hx)))
 rw[FA _ _ (Bq hij)]at I5
 exact⟨_,H1,I5,q1⟩
end
structure It where
 go:Nat->Hp->Prop
 yld:Nat->Hp->V->Hp->Prop
 stop:Nat->Hp->Prop
def vx(X:Cx)(pins:List (Addr × Obj))(H:Hp)(b:Addr):Prop:=
 H b=none/\b≠X.env.locals/\b ∉ X.fs/\(b∈X.ex\/X.s₀.heap.objs.size<=b)/\(∀x c,X.env.cells.lookup x=some c->c≠b)/\∀p∈X.pn++pins,p.1≠b
theorem Inv.ZL{X:Cx}{pins:List (Addr × Obj)}{σ:St}{H H':Hp}{s:Shared}{b:Addr}(I:Inv X pins σ H s)(hb:s.heap.objs.size<=b)(hn:H' b=none):vx X pins H' b:=by
 refine⟨hn,Dk (AD I.lt hb),I.RP hb,.inr (Ax I.sz hb),fun x c e z=>?_,fun p hp z=>?_⟩
 . obtain⟨v,q⟩:=I.cell x c e
   exact absurd (AD q.lt (by rw[z];exact hb)) (Bg _)
 . exact absurd (AD (An (I.pin p hp).1) (by rw[z];exact hb)) (Bg _)
structure Turn(P:Program)(w:World)(K:Af)(tg:Expr)(J:It)(fp:List Addr)(it:Addr)(tn:Nat->Heap->Prop):Prop where
 mem:it∈fp
 obj:∀i h,tn i h->∀b∈fp,∃o,h.get? b=some o/\∀v,o.data≠.cell v
 keep:∀i h h',tn i h->(∀b∈fp,∀o,h.get? b=some o->h'.get? b=some o)->tn i h'
 item:∀(X:Cx),X.prog=P->X.w=w->X.K=K->X.calm=true->∀(i:Nat) (pins:List (Addr × Obj)) (s:Shared) (σ:St) (H:Hp) (E:Value->Shared->Prop),Inv X pins σ H s->(∀b∈fp,vx X pins H b)->tn i s.heap->J.go i H ->
  wpAny (model P w) X.A (pyNext (.ref it)) (fun r s1=>∃u,r=some u /\
   wpAny (model P w) X.A (Cg tg (.ref it) u) (fun _ s2=>∃x H',Inv X pins σ H' s2/\RelV x u/\J.yld i H x H'/\tn (i+1) s2.heap/\∀b∈fp,H' b=none) E s1) E s
 done:∀(X:Cx),X.prog=P->X.w=w->X.K=K->X.calm=true->∀(i:Nat) (pins:List (Addr × Obj)) (s:Shared) (σ:St) (H:Hp) (E:Value->Shared->Prop),Inv X pins σ H s->(∀b∈fp,vx X pins H b)->tn i s.heap->J.stop i H ->
  wpAny (model P w) X.A (pyNext (.ref it)) (fun r s1=>r=none/\Inv X pins σ H s1) E s
 self:∀(A:Around) (i:Nat) (s:Shared) (Q:Value->Shared->Prop) (E:Value->Shared->Prop),tn i s.heap->Q (.ref it) s->wpAny (model P w) A (pyIter (.ref it)) Q E s
noncomputable abbrev TI:=St->Hp->(It->Hp->Prop)->Prop
def PIE(X:Cx)(pins:List (Addr × Obj))(σ:St)(tg:Expr)(R:It->Hp->Prop)(itv:Value)(s2:Shared):Prop:=
 ∃(it:Addr) (fp:List Addr) (tn:Nat->Heap->Prop) (J:It) (H':Hp),itv=.ref it/\Inv X pins σ H' s2/\Turn X.prog X.w X.K tg J fp it tn/\tn 0 s2.heap/\(∀b∈fp,vx X pins H' b)/\R J H'
def PI(X:Cx)(tg iter:Expr)(wi:TI):Prop:=
 ∀(pins:List (Addr × Obj)) (s:Shared) (σ:St) (H:Hp) (R:It->Hp->Prop),Inv X pins σ H s->wi σ H R ->
  wpAny (model X.prog X.w) X.A (eval iter X.env) (fun v s1=>wpAny (model X.prog X.w) X.A (pyIter v) (PIE X pins σ tg R) X.xe s1) X.xe s
theorem et{M:Model}{A:Around}{E:Value->Shared->Prop}{s:Shared}{tg:Expr}{it:Addr}{u:Value}{o:Obj}{n:String}{vs:Array Value}{Q:Unit->Shared->Prop}(ho:s.heap.get? it=some o)(hc:o.cls=.type n)(hd:o.data=.fields vs)
 (hn:["enumerate","zip","dict_itemiterator","dict_reverseitemiterator","odict_iterator","itertools.zip_longest","itertools.pairwise"].contains n=false) (hQ:Q () s):wpAny M A (Cg tg (.ref it) u) Q E s:=by
 unfold Cg
 cases tg<;>first
  |exact Am hQ
  |(cases u<;>first
   |exact Am hQ
   |(refine Ac (wpAny_load ho ?_)
     rw[hc,hd]
     show wpAny M A (if (["enumerate","zip","dict_itemiterator","dict_reverseitemiterator","odict_iterator","itertools.zip_longest","itertools.pairwise"].contains n&&vs[0]? == some (rawInt _))=true then _ else _) Q E s
     rw[if_neg (by intro h;rw[hn,Dl]at h;cases h)]
     exact Am hQ))
noncomputable def Itl(K:Af)(a:Addr):It:=
 ⟨fun i H=>∃xs x,SqL K H a xs/\xs[i]?=some x,fun i H x H'=>H'=H/\∀xs,SqL K H a xs->xs[i]?=some x,fun i H=>∃xs,SqL K H a xs/\xs.length<=i⟩
noncomputable def Itt(K:Af)(a:Addr):It:=
 ⟨fun i H=>∃xs x,SqT K H a xs/\xs[i]?=some x,fun i H x H'=>H'=H/\∀xs,SqT K H a xs->xs[i]?=some x,fun i H=>∃xs,SqT K H a xs/\xs.length<=i⟩
noncomputable def Itr(lo:Int)(n:Nat):It:=⟨fun i _=>i<n,fun i H x H'=>H'=H/\x=.int (lo+i),fun i _=>n<=i⟩
theorem gz{P:Program}{w:World}{K:Af}{tg:Expr}(a it:Addr):Turn P w K tg (Itl K a) [it] it (fun i h=>h.IsListIter it a i) where
 mem:=by simp
 obj:=fun i h st b hb=>by
  have e:b=it:=by simpa using hb
  subst e
  obtain⟨o,e,c,d⟩:=st
  exact⟨o,e,fun v z=>by rw[d]at z;cases z⟩
 keep:=fun i h h' st k=>st.at fun o e=>k it (by simp) o e
 item:=by
  intro X hP hw hK hc i pins s σ H E I hf st hg
  subst hP hw hK
  obtain⟨xs,x,hq,hx⟩:=hg
  obtain⟨its,rv,p,hz⟩:=I.list hq
  obtain⟨u,hu,ru⟩:=rv.get hx
  obtain⟨f0,f1,f2,f3,f4,f5⟩:=hf it (by simp)
  refine wpAny_pyNext_list_item st p.isList (x:=u) (by simpa using hu) fun h' st' sb=>?_
  have I1:Inv X pins σ H {s with heap:=h'}:=I.turned (t':=s.toks) (fun b o hb e=>(sb.2 b hb).trans e) f0 f1 f3 f4 f5
  obtain⟨o,e,c,d⟩:=id st'
  exact⟨u,rfl,et (s:={s with heap:=h'}) e c d (by decide) ⟨x,H,I1,ru,⟨rfl,fun ys hy=>by rw[I.mF hy hq];exact hx⟩,st',fun b hb=>(hf b hb).1⟩⟩
 done:=by
  intro X hP hw hK hc i pins s σ H E I hf st hg
  subst hP hw hK
  obtain⟨xs,hq,hx⟩:=hg
  obtain⟨its,rv,p,hz⟩:=I.list hq
  obtain⟨f0,f1,f2,f3,f4,f5⟩:=hf it (by simp)
  have hl:=rv.length
  exact wpAny_pyNext_list_end (I.ok.hd hc) st p.isList (by simp;omega) fun h' eb=>⟨rfl,I.turned (t':=s.toks) (fun b o hb e=>eb b o hb e) f0 f1 f3 f4 f5⟩
 self:=fun _ _ _ _ _ st h=>wpAny_pyIter_listiter st h
theorem kz{P:Program}{w:World}{K:Af}{tg:Expr}(a it:Addr):Turn P w K tg (Itt K a) [it] it (fun i h=>h.IsTupleIter it a i) where
 mem:=by simp
 obj:=fun i h st b hb=>by
  have e:b=it:=by simpa using hb
  subst e
  obtain⟨o,e,c,d⟩:=st
  exact⟨o,e,fun v z=>by rw[d]at z;cases z⟩
 keep:=fun i h h' st k=>st.at fun o e=>k it (by simp) o e
 item:=by
  intro X hP hw hK hc i pins s σ H E I hf st hg
  subst hP hw hK
  obtain⟨xs,x,hq,hx⟩:=hg
  obtain⟨its,rv,p,hz⟩:=I.tuple hq
  obtain⟨u,hu,ru⟩:=rv.get hx
  obtain⟨f0,f1,f2,f3,f4,f5⟩:=hf it (by simp)
  refine wpAny_pyNext_tuple_item st (show s.heap.IsTuple a its.toArray from p) (x:=u) (by simpa using hu) fun h' st' sb=>?_
  have I1:Inv X pins σ H {s with heap:=h'}:=I.turned (t':=s.toks) (fun b o hb e=>(sb.2 b hb).trans e) f0 f1 f3 f4 f5
  obtain⟨o,e,c,d⟩:=id st'
  exact⟨u,rfl,et (s:={s with heap:=h'}) e c d (by decide) ⟨x,H,I1,ru,⟨rfl,fun ys hy=>by rw[I.pX hy hq];exact hx⟩,st',fun b hb=>(hf b hb).1⟩⟩
 done:=by
  intro X hP hw hK hc i pins s σ H E I hf st hg
  subst hP hw hK
  obtain⟨xs,hq,hx⟩:=hg
  obtain⟨its,rv,p,hz⟩:=I.tuple hq
  obtain⟨f0,f1,f2,f3,f4,f5⟩:=hf it (by simp)
  have hl:=rv.length
  exact wpAny_pyNext_tuple_end (I.ok.hd hc) st (show s.heap.IsTuple a its.toArray from p) (by simp;omega) fun h' eb=>⟨rfl,I.turned (t':=s.toks) (fun b o hb e=>eb b o hb e) f0 f1 f3 f4 f5⟩
 self:=fun _ _ _ _ _ st h=>wpAny_pyIter_tupleiter st h
theorem ky{P:Program}{w:World}{K:Af}{tg:Expr}(it:Addr)(lo:Int)(n:Nat):Turn P w K tg (Itr lo n) [it] it (fun i h=>IsRangeIter h it (lo+(i:Nat)*1) ((n:Int)-(i:Nat)) 1) where
 mem:=by simp
 obj:=fun i h st b hb=>by
  have e:b=it:=by simpa using hb
  subst e
  exact⟨_,st,fun v z=>by
   have z':GG _=Data.cell v:=z
   cases z'⟩
 keep:=fun i h h' st k=>k it (by simp) _ st
 item:=by
  intro X hP hw hK hc i pins s σ H E I hf st hg
  subst hP hw hK
  obtain⟨f0,f1,f2,f3,f4,f5⟩:=hf it (by simp)
  have W:=Walks.range (prog:=X.prog) (w:=X.w) (I.ok.hd hc) it lo 1 n
  refine W.item i s _ _ hg st fun v h' tk hv st' kk=>?_
  obtain⟨t,rfl⟩:=hv
  have I1:Inv X pins σ H {s with heap:=h',toks:=tk}:=I.turned (fun b o hb e=>kk b o (by simpa using hb) e) f0 f1 f3 f4 f5
  refine⟨_,rfl,et (s:={s with heap:=h',toks:=tk}) (n:="range_iterator") st' rfl rfl (by decide) ⟨.int (lo+i),H,I1,⟨t,?_⟩,⟨rfl,rfl⟩,st',fun b hb=>(hf b hb).1⟩⟩
  rw[Int.mul_one]
 done:=by
  intro X hP hw hK hc i pins s σ H E I hf st hg
  subst hP hw hK
  obtain⟨f0,f1,f2,f3,f4,f5⟩:=hf it (by simp)
  exact wpAny_pyNext_range_end (I.ok.hd hc) st (by have:n<=i:=hg;omega) fun h' eb=>⟨rfl,I.turned (t':=s.toks) (fun b o hb e=>eb b o hb e) f0 f1 f3 f4 f5⟩
 self:=fun _ _ _ _ _ st h=>wpAny_pyIter_rangeiter st h
end L2
namespace L2
open PySem PySem.Spec PyProof.Rows
section
variable {X:Cx}{tg:Expr}
noncomputable def Ur(K:Af)(tl:TE):TI:=fun σ H R=>tl σ H fun x H1=>∃a,x=.ref a/\(∃xs,SqL K H1 a xs)/\R (Itl K a) H1
noncomputable def RJ(K:Af)(tl:TE):TI:=fun σ H R=>tl σ H fun x H1=>∃a,x=.ref a/\(∃xs,SqT K H1 a xs)/\R (Itt K a) H1
theorem j4{l:Expr}{tl:TE}(hl:PE X l tl):PI X tg l (Ur X.K tl):=by
 intro pins s σ H R I h
 refine thn (hl pins s σ H _ I h) fun v s1 ⟨x,H1,I1,r1,q1⟩=>?_
 obtain⟨a,e,⟨xs,hq⟩,q⟩:=q1
 subst e
 cases r1
 obtain⟨its,rv,p,hz⟩:=I1.list hq
 refine Dj p.isList ?_
 refine⟨s1.heap.objs.size,[s1.heap.objs.size],_,_,H1,rfl,I1.kept (t':=s1.toks) fun b o e=>Ad _ e,gz a _,⟨_,Ay _ rfl,rfl,rfl⟩,fun b hb=>?_,q⟩
 have e:b=s1.heap.objs.size:=by simpa using hb
 subst e
 exact I1.ZL (Ag _) (I1.hok.fresh (Ag _))
theorem bM{l:Expr}{tl:TE}(hl:PE X l tl):PI X tg l (RJ X.K tl):=by
 intro pins s σ H R I h
 refine thn (hl pins s σ H _ I h) fun v s1 ⟨x,H1,I1,r1,q1⟩=>?_
 obtain⟨a,e,⟨xs,hq⟩,q⟩:=q1
 subst e
 cases r1
 obtain⟨its,rv,p,hz⟩:=I1.tuple hq
 refine B6 (show s1.heap.IsTuple a its.toArray from p) ?_
 refine⟨s1.heap.objs.size,[s1.heap.objs.size],_,_,H1,rfl,I1.kept (t':=s1.toks) fun b o e=>Ad _ e,kz a _,⟨_,Ay _ rfl,rfl,rfl⟩,fun b hb=>?_,q⟩
 have e:b=s1.heap.objs.size:=by simpa using hb
 subst e
 exact I1.ZL (Ag _) (I1.hok.fresh (Ag _))
theorem mn{pins:List (Addr × Obj)}{σ:St}{H:Hp}{s:Shared}{R:It->Hp->Prop}{E:Value->Shared->Prop}{lo hi:Int}{t u v:Tok}{tk:Nat}(I:Inv X pins σ H s)(h1:-(2 ^ 62)<=lo)(h2:lo<2 ^ 62)(h3:-(2 ^ 62)<=hi)(h4:hi<2 ^ 62)
 (q:R (Itr lo (hi-lo).toNat) H):wpAny (model X.prog X.w) X.A (pyIter (.ref s.heap.objs.size)) (PIE X pins σ tg R) E {s with heap:=s.heap.push {cls:=.type "range",data:=.fields #[.int lo t,.int hi u,.int 1 v]},toks:=tk}:=by
 refine wpAny_pyIter_range (IsRange.new ..) (small_one h1 h2 h3 h4) ?_
 have I1:Inv X pins σ H {s with heap:=s.heap.push {cls:=.type "range",data:=.fields #[.int lo t,.int hi u,.int 1 v]},toks:=tk}:=I.kept fun b o e=>Ad _ e
 refine⟨(s.heap.push {cls:=.type "range",data:=.fields #[.int lo t,.int hi u,.int 1 v]}).objs.size,[(s.heap.push {cls:=.type "range",data:=.fields #[.int lo t,.int hi u,.int 1 v]}).objs.size],_,_,H,rfl,
  I1.kept (t':=tk) fun b o e=>Ad _ e,ky _ lo (hi-lo).toNat,?_,fun b hb=>?_,q⟩
 . have e1:lo+((0:Nat):Int)*1=lo:=by simp
   have e2:(((hi-lo).toNat:Nat):Int)-((0:Nat):Int)=Ct lo hi 1:=by rw[rangeSize_one];split<;>omega
   show IsRangeIter _ _ (lo+((0:Nat):Int)*1) ((((hi-lo).toNat:Nat):Int)-((0:Nat):Int)) 1
   rw[e1,e2]
   exact Ay _ rfl
 . have e:b=(s.heap.push {cls:=.type "range",data:=.fields #[.int lo t,.int hi u,.int 1 v]}).objs.size:=by simpa using hb
   subst e
   exact I1.ZL (Ag _) (I1.hok.fresh (Ag _))
noncomputable def Us(ta:TA):TI:=fun σ H R=>ta σ H fun vs H1=>∃j:Int,vs=[.int j]∧-(2 ^ 62)<=j/\j<2 ^ 62/\R (Itr 0 j.toNat) H1
noncomputable def Ut(ta:TA):TI:=fun σ H R=>ta σ H fun vs H1=>∃i j:Int,vs=[.int i,.int j]/\(-(2 ^ 62)<=i/\i<2 ^ 62∧-(2 ^ 62)<=j/\j<2 ^ 62)/\R (Itr i (j-i).toNat) H1
theorem gY{a:Expr}{ta:TA}{p pos:Pos}(hg:Gl X "range")(hm:X.mg "range"=none)(ha:PA X [a] ta)(hs:AM [a] X.env=[(false,eval a X.env)]:=by rfl):PI X tg (.Call (.Name "range" p) [a] [] pos) (Us ta):=by
 intro pins s σ H R I h
 refine Call_ (uD I hg hm boot_range (CH (thn (ha pos pins s σ H _ I h) fun us s1 ⟨vs,H1,I1,r1,q1⟩=>?_) hs rfl))
 obtain⟨j,e,q1,q2,q⟩:=q1
 subst e
 cases r1 with
 |cons r rr=>
  cases rr
  obtain⟨t,rfl⟩:=r
  exact call_range_1 (mn I1 (by omega) (by omega) q1 q2 (by simpa using q))
theorem gZ{a b:Expr}{ta:TA}{p pos:Pos}(hg:Gl X "range")(hm:X.mg "range"=none)(ha:PA X [a,b] ta)(hs:AM [a,b] X.env=[(false,eval a X.env),(false,eval b X.env)]:=by rfl)(hs2:AM [b] X.env=[(false,eval b X.env)]:=by rfl) :
 PI X tg (.Call (.Name "range" p) [a,b] [] pos) (Ut ta):=by
 intro pins s σ H R I h
 refine Call_ (uD I hg hm boot_range (CH (thn (ha pos pins s σ H _ I h) fun us s1 ⟨vs,H1,I1,r1,q1⟩=>?_) (by rw[hs,hs2]) (by rw[hs2];rfl)))
 obtain⟨i,j,e,⟨q1,q2,q3,q4⟩,q⟩:=q1
 subst e
 cases r1 with
 |cons r rr=>
  cases rr with
  |cons r' rr=>
   cases rr
   obtain⟨t,rfl⟩:=r
   obtain⟨t',rfl⟩:=r'
   exact call_range_2 (mn I1 q1 q2 q3 q4 q)
noncomputable def Rh(wi:TI)(g:TG)(tb:TS):TS:=fun D σ H=>wi σ H fun J H1=>∃W:Nat->Nat->St->Hp->Prop,(∃m,W 0 m σ H1)/\∀i m σ H,W i m σ H ->
 (J.stop i H/\D.nx σ H)\/(J.go i H/\∃N:St->Hp->Prop,(∀σ' H',N σ' H'->∃m',m'<m/\W (i+1) m' σ' H')/\∀x H',J.yld i H x H'->g x σ H' fun σ2 H2=>tb {D with nx:=N,ct:=N,bk:=D.nx} σ2 H2)
noncomputable def qM(fp:List Addr)(h:Heap):List (Addr × Obj):=fp.filterMap fun b=>(h.get? b).map fun o=>(b,o)
theorem w6{fp:List Addr}{h:Heap}{b:Addr}{o:Obj}(hb:b∈fp)(e:h.get? b=some o):(b,o)∈qM fp h:=BW.mpr ⟨b,hb,by rw[e];rfl⟩
theorem gJ{fp:List Addr}{h:Heap}{p:Addr × Obj}(hp:p∈qM fp h):p.1∈fp/\h.get? p.1=some p.2:=by
 obtain⟨b,hb,e⟩:=BW.mp hp
 cases q:h.get? b with
 |none=>rw[q]at e;cases e
 |some o=>
  rw[q]at e
  have e':(b,o)=p:=AG e
  subst e'
  exact⟨hb,q⟩
theorem Inv.pinned{pins:List (Addr × Obj)}{σ:St}{H:Hp}{s:Shared}{fp:List Addr}(I:Inv X pins σ H s)(hf:∀b∈fp,vx X pins H b)(ho:∀b∈fp,∃o,s.heap.get? b=some o/\∀v,o.data≠.cell v):Inv X (pins++qM fp s.heap) σ H s:=
 I.ox fun p hp=>(AO.mp hp).elim (fun z=>I.pin p (AU _ z)) fun z=>by
   obtain⟨hb,e⟩:=gJ z
   obtain⟨f0,f1,f2,_⟩:=hf p.1 hb
   obtain⟨o,e',d⟩:=ho p.1 hb
   rw[e]at e';cases e'
   exact⟨e,f0,f1,f2,d⟩
theorem Inv.tD{pins pl:List (Addr × Obj)}{σ:St}{H:Hp}{s:Shared}(I:Inv X (pins++pl) σ H s):Inv X pins σ H s:=I.ox fun p hp=>I.pin p (AU _ (Bc _ hp))
theorem Vm{iter:Expr}{body:List Stmt}{wi:TI}{g:TG}{tb:TS}{pos:Pos}(hp:PassesOwn (model X.prog X.w) X.A X.env X.xe)(hc:X.calm=true)(hi:PI X tg iter wi)(hg:PG X tg g)(hb:PSs X body tb)
 (hs:∀x,CT iter X.env x=pure x:=by intro _;rfl):PS X (.For tg iter body [] pos) (Rh wi g tb):=by
 intro pins s σ H D I h
 refine wpAny_For (thn (hi pins s σ H _ I h) fun v s1 h1=>thn h1 fun itv s2 h2=>?_) hs
 obtain⟨it,fp,tn,J,H2,e,I2,T,st2,f2,W,⟨m0,w0⟩,turn⟩:=h2
 subst e
 -- what stays true of the iterator's objects through the loop
 have stat:∀{H':Hp},(∀b∈fp,H' b=none)->∀b∈fp,vx X pins H' b:=fun hn b hb=>⟨hn b hb,(f2 b hb).2⟩
 refine codeAny_forLoop_any (fun n s'=>∃i σ' H',Inv X pins σ' H' s'/\tn i s'.heap/\(∀b∈fp,H' b=none)/\W i n σ' H') ?_ m0 ⟨0,σ,H2,I2,st2,fun b hb=>(f2 b hb).1,w0⟩
 rintro n s3 ⟨i,σ3,H3,I3,st3,fr3,w3⟩
 rcases turn i n σ3 H3 w3 with⟨stop,qn⟩|⟨go,N,hN,step⟩
 . refine DI hp (thn (T.done X rfl rfl rfl hc i pins s3 σ3 H3 X.xe I3 (stat fr3) st3 stop) fun r s4 ⟨hr,I4⟩=>?_)
   subst hr
   exact EM ⟨σ3,H3,I4,qn⟩
 . refine DI hp (thn (T.item X rfl rfl rfl hc i pins s3 σ3 H3 X.xe I3 (stat fr3) st3 go) fun r s4 ⟨u,hr,h4⟩=>?_)
   subst hr
   refine DI hp (thn h4 fun _ s5 ⟨x,H5,I5,r5,y5,st5,fr5⟩=>?_)
   have I5':=I5.pinned (stat fr5) (T.obj _ _ st5)
   refine DI hp (thn (hg _ s5 σ3 H5 x u _ I5' r5 (step x H5 y5)) fun _ s6 ⟨σ6,H6,I6,q6⟩=>?_)
   refine DI hp (thn (hb _ s6 σ6 H6 _ I6 q6) fun f s7 q7=>?_)
   have again:∀{σ7:St} {H7:Hp},Inv X (pins++qM fp s5.heap) σ7 H7 s7->N σ7 H7->∃m,m<n/\∃i σ' H',Inv X pins σ' H' s7/\tn i s7.heap/\(∀b∈fp,H' b=none)/\W i m σ' H':=fun{σ7 H7} I7 n7=>by
    obtain⟨m',hm,w7⟩:=hN σ7 H7 n7
    refine⟨m',hm,i+1,σ7,H7,I7.tD,T.keep _ _ _ st5 fun b hb o e=>(I7.pin (b,o) (AU _ (AU _ (w6 hb e)))).1,fun b hb=>?_,w7⟩
    obtain⟨o,e,d⟩:=T.obj _ _ st5 b hb
    exact(I7.pin (b,o) (AU _ (AU _ (w6 hb e)))).2.1
   cases f with
   |next=>obtain⟨σ7,H7,I7,n7⟩:=q7;exact again I7 n7
   |cont=>obtain⟨σ7,H7,I7,n7⟩:=q7;exact again I7 n7
   |brk=>obtain⟨σ7,H7,I7,q7⟩:=q7;exact⟨σ7,H7,I7.tD,q7⟩
   |ret v=>obtain⟨x7,σ7,H7,I7,r7,q7⟩:=q7;exact⟨x7,σ7,H7,I7.tD,r7,q7⟩
end
end L2
namespace L2
open PySem PySem.Spec PyProof.Rows
noncomputable abbrev R2:=V->V->Hp->VK->Prop
def OpR(X:Cx)(f:Value->Value->Sem Value)(r:R2):Prop:=
 ∀(pins:List (Addr × Obj)) (s:Shared) (σ:St) (H:Hp) (x y:V) (v u:Value) (Q:VK),Inv X pins σ H s->RelV x v->RelV y u->r x y H Q ->
  wpAny (model X.prog X.w) X.A (f v u) (EP X pins σ Q) X.xe s
def UnR(X:Cx)(f:Value->Sem Value)(r:V->Hp->VK->Prop):Prop:=
 ∀(pins:List (Addr × Obj)) (s:Shared) (σ:St) (H:Hp) (x:V) (v:Value) (Q:VK),Inv X pins σ H s->RelV x v->r x H Q ->
  wpAny (model X.prog X.w) X.A (f v) (EP X pins σ Q) X.xe s
def yJ(X:Cx)(f:Value)(r:List V->Hp->VK->Prop):Prop:=
 ∀(pins:List (Addr × Obj)) (s:Shared) (σ:St) (H:Hp) (xs:List V) (us:List Value) (Q:VK),Inv X pins σ H s->Vals xs us->r xs H Q ->
  wpAny (model X.prog X.w) X.A (call f us) (EP X pins σ Q) X.xe s
def S9(X:Cx)(r:V->Hp->(Bool->Hp->Prop)->Prop):Prop:=
 ∀(pins:List (Addr × Obj)) (s:Shared) (σ:St) (H:Hp) (x:V) (v:Value) (Q:Bool->Hp->Prop),Inv X pins σ H s->RelV x v->r x H Q ->
  wpAny (model X.prog X.w) X.A (truthy v) (TP X pins σ Q) X.xe s
noncomputable def tOp(r:R2)(ta tb:TE):TE:=fun σ H Q=>ta σ H fun x H1=>tb σ H1 fun y H2=>r x y H2 Q
noncomputable def tUn(r:V->Hp->VK->Prop)(ta:TE):TE:=fun σ H Q=>ta σ H fun x H1=>r x H1 Q
noncomputable def rI(C:Int->Int->Prop)(g:Int->Int->V):R2:=fun x y H Q=>∃i j,x=.int i/\y=.int j/\C i j/\Q (g i j) H
noncomputable def rI0(g:Int->Int->V):R2:=fun x y H Q=>∃i j,x=.int i/\y=.int j/\Q (g i j) H
noncomputable def rU(g:Int->V):V->Hp->VK->Prop:=fun x H Q=>∃i,x=.int i/\Q (g i) H
section
variable {X:Cx}{a b c:Expr}{ta tb tc:TE}{pos:Pos}
theorem Xr(ha:PE X a ta)(hb:PE X b tb){pins:List (Addr × Obj)}{s:Shared}{σ:St}{H:Hp}{R:V->V->Hp->Prop}(I:Inv X pins σ H s)
 (h:ta σ H fun x H1=>tb σ H1 fun y H2=>R x y H2) {Q:Value->Shared->Prop} {f:Value->Value->Sem Value}
 (hf:∀v u s2 x y H2,Inv X pins σ H2 s2->RelV x v->RelV y u->R x y H2->wpAny (model X.prog X.w) X.A (f v u) Q X.xe s2) :
 wpAny (model X.prog X.w) X.A (eval a X.env) (fun v s₁=>wpAny (model X.prog X.w) X.A (eval b X.env) (fun u s₂=>wpAny (model X.prog X.w) X.A (f v u) Q X.xe s₂) X.xe s₁) X.xe s:=by
 refine thn (ha pins s σ H _ I h) fun v s1 ⟨x,H1,I1,r1,q1⟩=>?_
 refine thn (hb pins s1 σ H1 _ I1 q1) fun u s2 ⟨y,H2,I2,r2,q2⟩=>?_
 exact hf v u s2 x y H2 I2 r1 r2 q2
theorem mX{op:Operator}{r:R2}(ho:OpR X (BB op) r)(ha:PE X a ta)(hb:PE X b tb):PE X (.BinOp a op b pos) (tOp r ta tb):=by
 intro pins s σ H Q I h
 exact wpAny_BinOp (Xr ha hb I h fun v u s2 x y H2 I2 rx ry q=>ho pins s2 σ H2 x y v u Q I2 rx ry q)
theorem Tx{op:UnaryOp}{r:V->Hp->VK->Prop}(ho:UnR X (unaryOp op) r)(ha:PE X a ta):PE X (.UnaryOp op a pos) (tUn r ta):=by
 intro pins s σ H Q I h
 exact UnaryOp_ (thn (ha pins s σ H _ I h) fun v s1 ⟨x,H1,I1,r1,q1⟩=>ho pins s1 σ H1 x v Q I1 r1 q1)
theorem opI{f:Value->Value->Sem Value}{C:Int->Int->Prop}{g:Int->Int->Int}
 (rule:∀(i j:Int) (t u:Tok) (s:Shared) (Q:Value->Shared->Prop) (E:Value->Shared->Prop),C i j->Q (.int (g i j) s.toks) {s with toks:=s.toks+1}->wpAny (model X.prog X.w) X.A (f (.int i t) (.int j u)) Q E s) :
 OpR X f (rI C fun i j=>.int (g i j)):=by
 intro pins s σ H x y v u Q I rx ry h
 obtain⟨i,j,rfl,rfl,hc,q⟩:=h
 obtain⟨t,rfl⟩:=rx
 obtain⟨t',rfl⟩:=ry
 exact rule i j t t' s _ _ hc ⟨.int (g i j),H,I.tok _,⟨_,rfl⟩,q⟩
theorem TN{f:Value->Value->Sem Value}{g:Int->Int->Int}
 (rule:∀(i j:Int) (t u:Tok) (s:Shared) (Q:Value->Shared->Prop) (E:Value->Shared->Prop),Q (.int (g i j) s.toks) {s with toks:=s.toks+1}->wpAny (model X.prog X.w) X.A (f (.int i t) (.int j u)) Q E s) :
 OpR X f (rI0 fun i j=>.int (g i j)):=by
 intro pins s σ H x y v u Q I rx ry h
 obtain⟨i,j,rfl,rfl,q⟩:=h
 obtain⟨t,rfl⟩:=rx
 obtain⟨t',rfl⟩:=ry
 exact rule i j t t' s _ _ ⟨.int (g i j),H,I.tok _,⟨_,rfl⟩,q⟩
theorem Zy{f:Value->Value->Sem Value}{g:Int->Int->Bool}
 (rule:∀(i j:Int) (t u:Tok) (s:Shared) (Q:Value->Shared->Prop) (E:Value->Shared->Prop),Q (.bool (g i j)) s->wpAny (model X.prog X.w) X.A (f (.int i t) (.int j u)) Q E s) :
 OpR X f (rI0 fun i j=>.bl (g i j)):=by
 intro pins s σ H x y v u Q I rx ry h
 obtain⟨i,j,rfl,rfl,q⟩:=h
 obtain⟨t,rfl⟩:=rx
 obtain⟨t',rfl⟩:=ry
 exact rule i j t t' s _ _ ⟨.bl (g i j),H,I,rfl,q⟩
def S7(i j:Int):Prop:=0<j/\j<1073741824
def S8(i j:Int):Prop:=0<=j/\j<=1000000/\i.natAbs<2 ^ 64
def Xj(i j:Int):Prop:=(-(2 ^ 64)<i/\i<2 ^ 64)\/(-(2 ^ 64)<j/\j<2 ^ 64)
theorem Xj.ok{i j:Int}(h:Xj i j):IntMulOk i j:=by
 rcases h with⟨h1,h2⟩|⟨h1,h2⟩
 . exact .of_left (intBits_le_64 h1 h2)
 . exact .of_right (intBits_le_64 h1 h2)
theorem VA:OpR X (BB .Add) (rI0 fun i j=>.int (i+j)):=TN fun _ _ _ _ _ _ _ q=>add_int q
theorem VG:OpR X (BB .Sub) (rI0 fun i j=>.int (i-j)):=TN fun _ _ _ _ _ _ _ q=>sub_int q
theorem VD:OpR X (BB .Mult) (rI Xj fun i j=>.int (i*j)):=opI fun _ _ _ _ _ _ _ hc q=>mul_int q hc.ok
theorem Z0:OpR X (BB .FloorDiv) (rI S7 fun i j=>.int (i/j)):=opI fun i j _ _ _ _ _ hc q=>by
 have h1:(0:Int)<j:=hc.1
 have h2:j<1073741824:=hc.2
 exact floordiv_int (by omega) (by rw[Int.fdiv_eq_ediv_of_nonneg i (by omega)];exact q) (.inl (PyProof.noPylong_small (by omega)))
theorem VC:OpR X (BB .Mod) (rI (fun _ j=>0<j) fun i j=>.int (i%j)):=opI fun i j _ _ _ _ _ hc q=>by
 have h1:(0:Int)<j:=hc
 exact mod_int' (by omega) (by rw[Int.fmod_eq_emod_of_nonneg i (by omega)];exact q)
theorem VE:OpR X (BB .Pow) (rI S8 fun i j=>.int (i ^ j.toNat)):=opI fun _ _ _ _ _ _ _ hc q=>pow_int_small hc.1 hc.2.1 hc.2.2 q
theorem unI{f:Value->Sem Value}{g:Int->Int}
 (rule:∀(i:Int) (t:Tok) (s:Shared) (Q:Value->Shared->Prop) (E:Value->Shared->Prop),Q (.int (g i) s.toks) {s with toks:=s.toks+1}->wpAny (model X.prog X.w) X.A (f (.int i t)) Q E s) :
 UnR X f (rU fun i=>.int (g i)):=by
 intro pins s σ H x v Q I rx h
 obtain⟨i,rfl,q⟩:=h
 obtain⟨t,rfl⟩:=rx
 exact rule i t s _ _ ⟨.int (g i),H,I.tok _,⟨_,rfl⟩,q⟩
theorem UH:UnR X (unaryOp .USub) (rU fun i=>.int (-i)):=unI fun _ _ _ _ _ q=>neg_int q
end
noncomputable def SX:V->V->Bool
 |.non,.non=>true|.non,.int _=>true|.int _,.non=>true|.non,.bl _=>true|.bl _,.non=>true|.non,.str _=>true|.str _,.non=>true
 |.int _,.int _=>true|.bl _,.bl _=>true|.str _,.str _=>true|.byt _,.byt _=>true
 |.int _,.str _=>true|.str _,.int _=>true|.bl _,.str _=>true|.str _,.bl _=>true
 |_,_=>false
noncomputable def rEq:R2:=fun x y H Q=>SX x y=true/\Q (.bl (decide (x=y))) H
noncomputable def rNe:R2:=fun x y H Q=>SX x y=true/\Q (.bl (!decide (x=y))) H
theorem jQ{i j:Int}:decide (V.int i=V.int j)=(i == j):=by
 rw[Ci]
 simp
theorem eA{i j:Bool}:decide (V.bl i=V.bl j)=(i == j):=by
 rw[Ci]
 simp
theorem jR{i j:Str}:decide (V.str i=V.str j)=(i == j):=by
 rw[Ci]
 simp
theorem jP{i j:Array UInt8}:decide (V.byt i=V.byt j)=(i.toList == j.toList):=by
 rw[Ci]
 cases i
 cases j
 simp
section
variable {X:Cx}{a b c:Expr}{ta tb tc:TE}{pos:Pos}
theorem ze{pins:List (Addr × Obj)}{σ:St}{H:Hp}{s:Shared}{Q:VK}{k k':Bool}(I:Inv X pins σ H s)(q:Q (.bl k) H)(e:k=k'):EP X pins σ Q (.bool k') s:=by
 subst e
 exact⟨.bl k,H,I,rfl,q⟩
theorem XJ:OpR X (Bl .Eq) rEq:=by
 intro pins s σ H x y v u Q I rx ry h
 obtain⟨hs,q⟩:=h
 cases x with
 |non=>
  cases rx
  cases y with
  |non=>cases ry;exact PySem.EqNone.eq_none_none (ze I q (by simp))
  |bl j=>cases ry;exact PySem.EqNone.eq_none_bool (ze I q (by simp))
  |int j=>obtain⟨t',rfl⟩:=ry;exact PySem.EqNone.eq_none_int (ze I q (by simp))
  |str j=>obtain⟨t',rfl⟩:=ry;exact PySem.EqNone.eq_none_str (ze I q (by simp))
  |_=>exact absurd (show false=true from hs) Aj
 |bl i=>
  cases rx
  cases y with
  |non=>cases ry;exact PySem.EqNone.eq_bool_none (ze I q (by simp))
  |bl j=>cases ry;exact eq_bool (ze I q eA)
  |str j=>obtain⟨t',rfl⟩:=ry;exact PySem.EqMixed.eq_bool_str (ze I q (by simp))
  |_=>exact absurd (show false=true from hs) Aj
 |int i=>
  obtain⟨t,rfl⟩:=rx
  cases y with
  |non=>cases ry;exact PySem.EqNone.eq_int_none (ze I q (by simp))
  |int j=>obtain⟨t',rfl⟩:=ry;exact eq_int (ze I q jQ)
  |str j=>obtain⟨t',rfl⟩:=ry;exact PySem.EqMixed.eq_int_str (ze I q (by simp))
  |_=>exact absurd (show false=true from hs) Aj
 |str i=>
  obtain⟨t,rfl⟩:=rx
  cases y with
  |non=>cases ry;exact PySem.EqNone.eq_str_none (ze I q (by simp))
  |bl j=>cases ry;exact PySem.EqMixed.eq_str_bool (ze I q (by simp))
  |int j=>obtain⟨t',rfl⟩:=ry;exact PySem.EqMixed.eq_str_int (ze I q (by simp))
  |str j=>obtain⟨t',rfl⟩:=ry;exact eq_str (ze I q jR)
  |_=>exact absurd (show false=true from hs) Aj
 |byt i=>
  obtain⟨t,rfl⟩:=rx
  cases y with
  |byt j=>obtain⟨t',rfl⟩:=ry;exact PySem.W.eq_bytes (ze I q jP)
  |_=>exact absurd (show false=true from hs) Aj
 |_=>cases y<;>exact absurd (show false=true from hs) Aj
theorem XM:OpR X (Bl .NotEq) rNe:=by
 intro pins s σ H x y v u Q I rx ry h
 obtain⟨hs,q⟩:=h
 cases x with
 |non=>
  cases rx
  cases y with
  |non=>cases ry;exact PySem.EqNone.ne_none_none (ze I q (by simp))
  |bl j=>cases ry;exact PySem.EqNone.ne_none_bool (ze I q (by simp))
  |int j=>obtain⟨t',rfl⟩:=ry;exact PySem.EqNone.ne_none_int (ze I q (by simp))
  |str j=>obtain⟨t',rfl⟩:=ry;exact PySem.EqNone.ne_none_str (ze I q (by simp))
  |_=>exact absurd (show false=true from hs) Aj
 |bl i=>
  cases rx
  cases y with
  |non=>cases ry;exact PySem.EqNone.ne_bool_none (ze I q (by simp))
  |bl j=>cases ry;exact ne_bool (ze I q (congrArg not eA))
  |str j=>obtain⟨t',rfl⟩:=ry;exact PySem.EqMixed.ne_bool_str (ze I q (by simp))
  |_=>exact absurd (show false=true from hs) Aj
 |int i=>
  obtain⟨t,rfl⟩:=rx
  cases y with
  |non=>cases ry;exact PySem.EqNone.ne_int_none (ze I q (by simp))
  |int j=>obtain⟨t',rfl⟩:=ry;exact ne_int (ze I q (congrArg not jQ))
  |str j=>obtain⟨t',rfl⟩:=ry;exact PySem.EqMixed.ne_int_str (ze I q (by simp))
  |_=>exact absurd (show false=true from hs) Aj
 |str i=>
  obtain⟨t,rfl⟩:=rx
  cases y with
  |non=>cases ry;exact PySem.EqNone.ne_str_none (ze I q (by simp))
  |bl j=>cases ry;exact PySem.EqMixed.ne_str_bool (ze I q (by simp))
  |int j=>obtain⟨t',rfl⟩:=ry;exact PySem.EqMixed.ne_str_int (ze I q (by simp))
  |str j=>obtain⟨t',rfl⟩:=ry;exact ne_str (ze I q (congrArg not jR))
  |_=>exact absurd (show false=true from hs) Aj
 |byt i=>
  obtain⟨t,rfl⟩:=rx
  cases y with
  |byt j=>obtain⟨t',rfl⟩:=ry;exact PySem.W.ne_bytes (ze I q (congrArg not jP))
  |_=>exact absurd (show false=true from hs) Aj
 |_=>cases y<;>exact absurd (show false=true from hs) Aj
theorem TV:OpR X (Bl .Lt) (rI0 fun i j=>.bl (decide (i<j))):=Zy fun _ _ _ _ _ _ _ q=>lt_int q
theorem TU:OpR X (Bl .LtE) (rI0 fun i j=>.bl (decide (i<=j))):=Zy fun _ _ _ _ _ _ _ q=>le_int q
theorem TR:OpR X (Bl .Gt) (rI0 fun i j=>.bl (decide (j<i))):=Zy fun _ _ _ _ _ _ _ q=>gt_int q
theorem TQ:OpR X (Bl .GtE) (rI0 fun i j=>.bl (decide (j<=i))):=Zy fun _ _ _ _ _ _ _ q=>ge_int q
theorem VB:OpR X (Bl .Is) (fun x y H Q=>y=.non/\Q (.bl (decide (x=.non))) H):=by
 intro pins s σ H x y v u Q I rx ry h
 obtain⟨rfl,q⟩:=h
 cases ry
 refine is_none_gen (ze I q ?_)
 cases x<;>first
  |(cases rx;rfl)
  |(obtain⟨t,rfl⟩:=rx;rfl)
theorem Z1:OpR X (Bl .IsNot) (fun x y H Q=>y=.non/\Q (.bl (!decide (x=.non))) H):=by
 intro pins s σ H x y v u Q I rx ry h
 obtain⟨rfl,q⟩:=h
 cases ry
 refine isnot_none_gen (ze I q ?_)
 cases x<;>first
  |(cases rx;rfl)
  |(obtain⟨t,rfl⟩:=rx;rfl)
theorem jx{op:CmpOp}{r:R2}(ho:OpR X (Bl op) r)(ha:PE X a ta)(hb:PE X b tb)(hm:Dy op b=false):PE X (.Compare a [op] [b] pos) (tOp r ta tb):=by
 intro pins s σ H Q I h
 exact wpAny_Compare1 (Xr ha hb I h fun v u s2 x y H2 I2 rx ry q=>ho pins s2 σ H2 x y v u Q I2 rx ry q) hm
noncomputable def iF(t:TE):TT:=fun σ H Q=>t σ H fun x H'=>∃k,x=.bl k/\Q k H'
theorem nA{op:CmpOp}{r:R2}(ho:OpR X (Bl op) r)(ha:PE X a ta)(hb:PE X b tb)(hm:Dy op b=false):PT X (.Compare a [op] [b] pos) (iF (tOp r ta tb)):=by
 intro pins s σ H Q I h
 refine wpAny_isTrue_Compare1 (thn (ha pins s σ H _ I h) fun v s1 ⟨x,H1,I1,r1,q1⟩=>thn (hb pins s1 σ H1 _ I1 q1) fun u s2 ⟨y,H2,I2,r2,q2⟩=>
  thn (ho pins s2 σ H2 x y v u _ I2 r1 r2 q2) fun c s3 ⟨z,H3,I3,r3,k,e,q3⟩=>?_) hm
 subst e
 cases r3
 exact Bx ⟨H3,I3,q3⟩
noncomputable def aG(r r':R2)(ta tb tc:TE):TE:=fun σ H Q=>ta σ H fun x H1=>tb σ H1 fun y H2=>r x y H2 fun z H3=>∃k,z=.bl k /\
 (if k=true then tc σ H3 fun w' H4=>r' y w' H4 Q else Q (.bl false) H3)
theorem bF{op op':CmpOp}{r r':R2}(ho:OpR X (Bl op) r)(ho':OpR X (Bl op') r')(ha:PE X a ta)(hb:PE X b tb)(hc:PE X c tc)
 (hm:G6 [op,op'] [b,c]=false:=by with_unfolding_all rfl):PE X (.Compare a [op,op'] [b,c] pos) (aG r r' ta tb tc):=by
 intro pins s σ H Q I h
 refine Compare_chain (thn (ha pins s σ H _ I h) fun v s1 ⟨x,H1,I1,r1,q1⟩=>chain_link (thn (hb pins s1 σ H1 _ I1 q1) fun u s2 ⟨y,H2,I2,r2,q2⟩=>
  thn (ho pins s2 σ H2 x y v u _ I2 r1 r2 q2) fun d s3 ⟨z,H3,I3,r3,k,e,q3⟩=>?_)) hm
 subst e
 cases r3
 refine Bx ?_
 cases k with
 |false=>exact ite_ff ⟨.bl false,H3,I3,rfl,q3⟩
 |true=>exact ite_tt (chain_last (thn (hc pins s3 σ H3 _ I3 q3) fun w' s4 ⟨z',H4,I4,r4,q4⟩=>ho' pins s4 σ H4 y z' u w' Q I4 r2 r4 q4))
theorem bT{op op':CmpOp}{r r':R2}(ho:OpR X (Bl op) r)(ho':OpR X (Bl op') r')(ha:PE X a ta)(hb:PE X b tb)(hc:PE X c tc)
 (hm:G6 [op,op'] [b,c]=false:=by with_unfolding_all rfl):PT X (.Compare a [op,op'] [b,c] pos) (iF (aG r r' ta tb tc)):=by
 intro pins s σ H Q I h
 refine isTrue_chain (thn (ha pins s σ H _ I h) fun v s1 ⟨x,H1,I1,r1,q1⟩=>test_link (thn (hb pins s1 σ H1 _ I1 q1) fun u s2 ⟨y,H2,I2,r2,q2⟩=>
  thn (ho pins s2 σ H2 x y v u _ I2 r1 r2 q2) fun d s3 ⟨z,H3,I3,r3,k,e,q3⟩=>?_)) hm
 subst e
 cases r3
 refine Bx ?_
 cases k with
 |false=>
  obtain⟨k',e',q'⟩:=q3
  cases e'
  exact ite_ff ⟨H3,I3,q'⟩
 |true=>
  refine ite_tt (test_last (thn (hc pins s3 σ H3 _ I3 q3) fun w' s4 ⟨z',H4,I4,r4,q4⟩=>thn (ho' pins s4 σ H4 y z' u w' _ I4 r2 r4 q4) fun d' s5 ⟨z2,H5,I5,r5,k2,e2,q5⟩=>?_))
  subst e2
  cases r5
  exact Bx ⟨H5,I5,q5⟩
def ae(K:Af)(x:V)(H:Hp)(k:Bool):Prop:=
 match x with
 |.non=>k=false
 |.bl b=>k=b
 |.int i=>k=(i != 0)
 |.str y=>y.length<=AA/\k=((y.length:Int) != 0)
 |.byt y=>y.size<=AA/\k=((y.size:Int) != 0)
 |.ref p=>(∃xs,SqL K H p xs/\k=!xs.isEmpty)\/(∃xs,SqT K H p xs/\k=!xs.isEmpty)\/∃kvs,H p=some (.dK kvs)/\k=!kvs.isEmpty
 |_=>False
theorem lZ{κ:Type}{kvs:List (κ × V)}{vs:List (κ × Value)}(r:KV kvs vs):(!vs.isEmpty)=!kvs.isEmpty:=by
 cases r<;>rfl
theorem rm{xs:List V}{its:List Value}(r:Vals xs its):(!its.toArray.isEmpty)=!xs.isEmpty:=by
 cases r<;>simp
theorem uF:(AA:Nat)<2 ^ 63:=by rw[A3];decide
theorem aM:S9 X (fun x H Q=>∃k,ae X.K x H k/\Q k H):=by
 intro pins s σ H x v Q I rx h
 obtain⟨k,e,q⟩:=h
 have hl:=uF
 have hs:AA=16777216:=A3
 cases x with
 |non=>
  cases rx
  have e':k=false:=e
  subst e'
  exact truthy_none ⟨H,I,q⟩
 |bl b=>
  cases rx
  have e':k=b:=e
  subst e'
  exact Bx ⟨H,I,q⟩
 |int i=>
  obtain⟨t,rfl⟩:=rx
  have e':k=(i != 0):=e
  subst e'
  exact PySem.P.truthy_int ⟨H,I,q⟩
 |str y=>
  obtain⟨t,rfl⟩:=rx
  obtain⟨hy,e'⟩:y.length<=AA/\k=((y.length:Int) != 0):=e
  subst e'
  exact PySem.P.truthy_str (by omega) ⟨H,I.tok _,q⟩
 |byt y=>
  obtain⟨t,rfl⟩:=rx
  obtain⟨hy,e'⟩:y.size<=AA/\k=((y.size:Int) != 0):=e
  subst e'
  exact PySem.W.truthy_bytes (by omega) ⟨H,I.tok _,q⟩
 |ref p=>
  cases rx
  have e':(∃xs,SqL X.K H p xs/\k=!xs.isEmpty)\/(∃xs,SqT X.K H p xs/\k=!xs.isEmpty)\/∃kvs,H p=some (.dK kvs)/\k=!kvs.isEmpty:=e
  rcases e' with⟨xs,hx,e'⟩|⟨xs,hx,e'⟩|⟨kvs,hx,e'⟩
  . subst e'
    obtain⟨its,r,pl,hz⟩:=I.list hx
    have hlen:=r.length
    exact wpAny_truthy_list pl.isList (by simp only[Ah];omega) ⟨H,I.tok _,by rw[rm r];exact q⟩
  . subst e'
    obtain⟨its,r,pl,hz⟩:=I.tuple hx
    have hlen:=r.length
    exact truthy_tuple pl (by simp only[Ah];omega) ⟨H,I.tok _,by rw[rm r];exact q⟩
  . subst e'
    obtain⟨hz,hS,vs,r,m⟩:kvs.length<=AA/\(p == B3)=false/\∃vs,KV kvs vs/\s.heap.DictOf (oZ X.prog X.w) p vs:=I.hok p _ hx
    have hlen:kvs.length=vs.length:=G2 r
    exact wpAny_truthy_dict hS m (by omega) ⟨H,I.tok _,by rw[lZ r];exact q⟩
 |_=>exact(show False from e).elim
theorem mh(ha:PE X a ta)(he:∀whole,isTrue a X.env whole=(do let v <-whole;standAt a.pos;holding [v] (truthy v))) :
 PT X a (fun σ H Q=>ta σ H fun x H'=>∃k,ae X.K x H' k/\Q k H'):=by
 intro pins s σ H Q I h
 exact isTrue_plain (thn (ha pins s σ H _ I h) fun v s1 ⟨x,H1,I1,r1,q1⟩=>aM pins s1 σ H1 x v Q I1 r1 q1) (he _)
theorem qI:OpR X (BB .Add) (fun x y H Q=>∃i j,x=.str i/\y=.str j/\i.length+j.length<=AA/\Q (.str (i++j)) H):=by
 intro pins s σ H x y v u Q I rx ry h
 obtain⟨i,j,rfl,rfl,hz,q⟩:=h
 obtain⟨t,rfl⟩:=rx
 obtain⟨t',rfl⟩:=ry
 exact add_str (fun t' tk=>⟨.str (i++j),H,I.tok _,⟨_,rfl⟩,q⟩) hz
theorem vals1{x:V}{us:List Value}(r:Vals [x] us):∃u,us=[u]/\RelV x u:=by
 cases r with
 |cons r1 r2=>cases r2;exact⟨_,rfl,r1⟩
theorem vals2{x y:V}{us:List Value}(r:Vals [x,y] us):∃u w',us=[u,w']/\RelV x u/\RelV y w':=by
 cases r with
 |cons r1 r2=>
  cases r2 with
  |cons r3 r4=>cases r4;exact⟨_,_,rfl,r1,r3⟩
theorem iO(hc:X.calm=true):yJ X (.builtin "max") (fun xs H Q=>∃i j,xs=[.int i,.int j]/\Q (.int (if j > i then j else i)) H):=by
 intro pins s σ H xs us Q I r h
 obtain⟨i,j,rfl,q⟩:=h
 obtain⟨u,w',rfl,⟨t,rfl⟩,⟨t',rfl⟩⟩:=vals2 r
 refine max_two_ints (I.ok.hd hc) fun h' tk k=>⟨_,H,I.kept k,?_,q⟩
 by_cases hj:j > i
 . rw[if_pos hj,if_pos hj];exact⟨_,rfl⟩
 . rw[if_neg hj,if_neg hj];exact⟨_,rfl⟩
theorem iR(hc:X.calm=true):yJ X (.builtin "min") (fun xs H Q=>∃i j,xs=[.int i,.int j]/\Q (.int (if j<i then j else i)) H):=by
 intro pins s σ H xs us Q I r h
 obtain⟨i,j,rfl,q⟩:=h
 obtain⟨u,w',rfl,⟨t,rfl⟩,⟨t',rfl⟩⟩:=vals2 r
 refine min_two_ints (I.ok.hd hc) fun h' tk k=>⟨_,H,I.kept k,?_,q⟩
 by_cases hj:j<i
 . rw[if_pos hj,if_pos hj];exact⟨_,rfl⟩
 . rw[if_neg hj,if_neg hj];exact⟨_,rfl⟩
theorem qw:yJ X (.type "int") (fun xs H Q=>(∃i,xs=[.int i]/\Q (.int i) H)\/∃k,xs=[.bl k]/\Q (.int (if k then 1 else 0)) H):=by
 intro pins s σ H xs us Q I r h
 rcases h with⟨i,rfl,q⟩|⟨k,rfl,q⟩
 . obtain⟨u,rfl,t,rfl⟩:=vals1 r
   exact call_int_int ⟨.int i,H,I,⟨_,rfl⟩,q⟩
 . obtain⟨u,rfl,r1⟩:=vals1 r
   cases r1
   exact call_int_bool ⟨.int (if k then 1 else 0),H,I.tok _,⟨_,rfl⟩,q⟩
end
end L2
namespace L2
open PySem PySem.Spec PyProof.Rows
structure Xm(h:Heap)(x dx C:Addr)(mA:Str->Option Value):Prop where
 obj:h.get? x=some (Gy C dx)
 ns:h.Ns1 dx mA
 ne:dx≠x
theorem gE{h:Heap}{dx:Addr}{mA:Str->Option Value}(n:h.Ns1 dx mA):∃od,h.get? dx=some od/\∀name,GI name od=some (mA name):=by
 obtain⟨o,es,ep,ho,hd,hk,_,hm⟩:=n
 refine⟨o,ho,fun name=>?_⟩
 have e:=hm name
 unfold nsFind findBy at e
 rw[<-Array.find?_toList]at e
 unfold GI
 rw[hd]
 dsimp only
 split
 . rename_i y q
   rw[q]at e
   exact congrArg some e
 . rename_i q
   rw[q]at e
   have a:es.toList.any (·.refKey)=false:=by
    rw[List.any_eq_false]
    intro y hy
    obtain⟨z,t,hkey⟩:=hk y (Array.mem_toList_iff.mp hy)
    simp[Gw.refKey,hkey]
   have a':¬es.toList.any (·.refKey)=true:=by rw[a];exact Aj
   rw[if_neg a']
   exact congrArg some e
theorem Xm.look{h:Heap}{x dx C:Addr}{mA:Str->Option Value}(I:Xm h x dx C mA):∃od,PySem.W.InstAt h x (Gy C dx) C (some od)/\∀name,GI name od=some (mA name):=
 let ⟨od,ho,hl⟩:=gE I.ns
 ⟨od,⟨I.obj,rfl,rfl,ho⟩,hl⟩
section
variable {P:Program}{w:World}{H H':Hp}{h h':Heap}{a C dx:Addr}{fs fs':List (Str × V)}
theorem ZP(hok:HOk P w H h)(e:H a=some (.ins C dx fs)):∃mA,Xm h a dx C mA/\(∀f,Xn (fs.lookup f) (mA f))/\PySem.Within mA (fs.map (·.1))/\fs.length<=1000/\H dx=some (.own a):=by
 obtain⟨d,z,ne,ob,mA,n,r,q⟩:=(show yB P w H h a (.ins C dx fs) from hok a _ e)
 exact⟨mA,⟨ob,n,ne⟩,r,q,z,d⟩
end
structure Cls(K:Af)(C:Addr):Prop where
 pg:PySem.W.plainGet K C EF=true
 hd:PySem.W.hasDictIn K C=true
 po:PySem.W.plainOver K C=true
 sa:PySem.W.findIn K (.ref C) "__setattr__"=some (some (.builtin "object.__setattr__"))
theorem Cls.get{K:Af}{C:Addr}(c:Cls K C)(f:Str):PySem.W.plainGet K C f=true:=c.pg
section
variable {X:Cx}{pins:List (Addr × Obj)}{σ:St}{H:Hp}{s:Shared}{A:Around}{E:Value->Shared->Prop}{Q:Value->Shared->Prop}{c:Value}{b:Bool}
inductive uQ(K:Af)(H:Hp):V->Value->Prop where
 |non:uQ K H .non (.type "NoneType")
 |bl (x:Bool):uQ K H (.bl x) (.type "bool")
 |int (i:Int):uQ K H (.int i) (.type "int")
 |str (x:Str):uQ K H (.str x) (.type "str")
 |flt (x:UInt64):uQ K H (.flt x) (.type "float")
 |lst {a:Addr} {xs:List V} (e:H a=some (.lst xs)):uQ K H (.ref a) (.type "list")
 |frz {a:Addr} {o:Obj} {xs:List V} (e:H a=some (.frz o (.lst xs))):uQ K H (.ref a) (.type "list")
 |tup {a:Addr} {xs:List V} (e:H a=some (.tup xs)):uQ K H (.ref a) (.type "tuple")
 |dK {a:Addr} {kvs:List (Key × V)} (e:H a=some (.dK kvs)):uQ K H (.ref a) (.type "dict")
 |dT {a:Addr} {kvs:List (List Key × V)} (e:H a=some (.dT kvs)):uQ K H (.ref a) (.type "dict")
 |ins {a C dx:Addr} {fs:List (Str × V)} (e:H a=some (.ins C dx fs)) (cl:Cls K C) (ha:PySem.W.findIn K (.ref C) "__class__"=some (some (.builtin "object.__class__")))
  (hn:PySem.W.specialIn K (.builtin "object.__class__") "__get__"=some (some (.builtin "getset_descriptor.__get__"))) (htk:PySem.W.takesIn K (.builtin "object.__class__")=some true)
  (hm:PySem.W.mroIn K C (.type "object")=some true):uQ K H (.ref a) (.ref C)
theorem ir{x:V}{u t:Value}(I:Inv X pins σ H s)(rx:RelV x u)(ty:uQ X.K H x t)(e:GJ X.K t c=some b)(h:∀tk,Q (.bool b) {s with toks:=tk}) :
 wpAny (model X.prog X.w) A (call (.builtin "isinstance") [u,c]) Q E s:=by
 cases ty with
 |non=>cases (show u=Ce from rx);exact BG PySem.W.kitx_none I.kIn Bh e (fun z=>nomatch z) h
 |bl y=>cases (show u=CB y from rx);exact BG PySem.W.kitx_bool I.kIn Bh e (fun z=>nomatch z) h
 |int i=>obtain⟨t,q⟩:=(show ∃t,u=Fi i t from rx);cases q;exact BG PySem.W.kitx_int I.kIn Bh e (fun z=>nomatch z) h
 |str y=>obtain⟨t,q⟩:=(show ∃t,u=DL y t from rx);cases q;exact BG PySem.W.kitx_str I.kIn Bh e (fun z=>nomatch z) h
 |flt y=>obtain⟨t,q⟩:=(show ∃t,u=Value.float y t from rx);cases q;exact BG PySem.W.kitx_float I.kIn Bh e (fun z=>nomatch z) h
 |@lst a xs ea=>
  cases (show u=A1 a from rx)
  obtain⟨_,_,n,_,h1⟩:=(show yB X.prog X.w H s.heap a (.lst xs) from I.hok a _ ea)
  exact BG PySem.W.kitx_list I.kIn ⟨_,h1,rfl⟩ e (fun z=>nomatch z) h
 |@frz a ob xs ea=>
  cases (show u=A1 a from rx)
  obtain⟨_,_,_,n,_,h1⟩:=(show yB X.prog X.w H s.heap a (.frz ob (.lst xs)) from I.hok a _ ea)
  exact BG PySem.W.kitx_list I.kIn ⟨_,h1,rfl⟩ e (fun z=>nomatch z) h
 |@tup a xs ea=>
  cases (show u=A1 a from rx)
  obtain⟨_,_,_,p⟩:=(show yB X.prog X.w H s.heap a (.tup xs) from I.hok a _ ea)
  obtain⟨o,h1,h2,_⟩:=p
  exact BG PySem.W.kitx_tuple I.kIn ⟨o,h1,h2⟩ e (fun z=>nomatch z) h
 |@dK a kvs ea=>
  cases (show u=A1 a from rx)
  obtain⟨_,_,vs,_,p⟩:=(show yB X.prog X.w H s.heap a (.dK kvs) from I.hok a _ ea)
  obtain⟨o,es,ep,h1,h2,_⟩:=p
  exact BG PySem.W.kitx_dict I.kIn ⟨o,h1,h2.1⟩ e (fun z=>nomatch z) h
 |@dT a kvs ea=>
  cases (show u=A1 a from rx)
  obtain⟨_,_,xs,_,o,es,ep,h1,h2,_⟩:=(show yB X.prog X.w H s.heap a (.dT kvs) from I.hok a _ ea)
  exact BG PySem.W.kitx_dict I.kIn ⟨o,h1,h2.1⟩ e (fun z=>nomatch z) h
 |@ins a C dx fs ea cl ha hn htk hm=>
  cases (show u=A1 a from rx)
  obtain⟨mA,O,_⟩:=ZP I.hok ea
  obtain⟨od,J,_⟩:=O.look
  exact BG (PySem.W.kitx_own (cl.get _) cl.hd ha hn htk hm) I.kIn J e (fun z=>nomatch z) h
end
end L2
namespace L2
open PySem PySem.Spec PyProof.Rows
structure yu(k:Nat)(A:Around):Prop where
 hd:A.handled=none
 dp:A.depth+3*k+5<C0
 un:A.units+16*k+200<cLine
 gd:A.guards=some []
theorem yu.deeper{k:Nat}{A:Around}(r:yu (k+1) A)(env:Env):yu k (A.deeper env):=
 ⟨r.hd,by have:=r.dp;show A.depth+1+3*k+5<_;omega,by have:=r.un;show A.units+3+16*k+200<_;omega,r.gd⟩
theorem yu.depth{k:Nat}{A:Around}(r:yu k A):A.depth<C0:=by have:=r.dp;omega
noncomputable def qQ:TA:=fun _ H Q=>Q [] H
noncomputable def vJ(ta:TE)(tr:TA):TA:=fun σ H Q=>ta σ H fun x H1=>tr σ H1 fun xs H2=>Q (x::xs) H2
section
variable {X:Cx}{e:Expr}{es:List Expr}{te:TE}{t:TA}{pos:Pos}
theorem yr:PA X [] qQ:=fun _ _ _ _ H Q I h=>Calls.spliced_nil ⟨[],H,I,.nil,h⟩
theorem xV(ha:PE X e te)(hr:PA X es t)(hs:AM (e::es) X.env=(false,eval e X.env)::AM es X.env:=by rfl):PA X (e::es) (vJ te t):=by
 intro pos pins s σ H Q I h
 rw[hs]
 show wpAny _ _ (spliced ((false,eval e X.env)::backTo pos (AM es X.env))) _ _ s
 refine Calls.spliced_cons (thn (ha pins s σ H _ I h) fun u s1 ⟨x,H1,I1,r1,q1⟩=>?_)
 exact thn (hr pos pins s1 σ H1 _ I1 q1) fun us s2 ⟨xs,H2,I2,r2,q2⟩=>⟨x::xs,H2,I2,.cons r1 r2,q2⟩
noncomputable def Rj(t:TA):TE:=fun σ H Q=>t σ H fun xs H1=>xs.length<=AA/\∀p,H1 p=none->Q (.ref p) (upd H1 p (.tup xs))
noncomputable def kg(t:TA):TE:=fun σ H Q=>t σ H fun xs H1=>xs.length<=AA/\∀p,H1 p=none->Q (.ref p) (upd H1 p (.lst xs))
theorem Vf{x1}(h:PA X es t):PE X (.Tuple es x1 pos) (Rj t):=by
 intro pins s σ H Q I hq
 refine wpAny_Tuple_spliced (thn (h pos pins s σ H _ I hq) fun us s1 ⟨xs,H1,I1,r,z,q⟩=>⟨by rw[<-r.length];exact z,?_⟩)
 have hf:H1 s1.heap.objs.size=none:=I1.hok.fresh (Ag _)
 refine⟨.ref s1.heap.objs.size,upd H1 s1.heap.objs.size (.tup xs),I1.laid (t':=s1.toks) (fun b u e=>Ad _ e) (Ag _) ?_,rfl,q _ hf⟩
 exact⟨z,us,r,⟨_,Ay _ rfl,rfl,_,rfl,rfl⟩⟩
theorem qL(h:PA X es t):PE X (.List es pos) (kg t):=by
 intro pins s σ H Q I hq
 refine wpAny_List_spliced (thn (h pos pins s σ H _ I hq) fun us s1 ⟨xs,H1,I1,r,z,q⟩=>⟨by rw[<-r.length];exact z,?_⟩)
 have hf:H1 s1.heap.objs.size=none:=I1.hok.fresh (Ag _)
 refine⟨.ref s1.heap.objs.size,upd H1 s1.heap.objs.size (.lst xs),I1.laid (t':=s1.toks) (fun b u e=>Ad _ e) (Ag _) ?_,rfl,q _ hf⟩
 exact⟨z,us,0,r,Ay _ rfl⟩
end
noncomputable abbrev Sp:=List V->Hp->VK->XK->Prop
noncomputable abbrev CXT:=List Env->Hp->Shared->XK->Value->Shared->Prop
structure lK(P:Program)(w:World)(K:Af)(mg:Str->Option Value)(base:Heap)(A:Around)(outer:List Env)(s:Shared)(H:Hp):Prop where
 frames:A.frames=some outer
 mod:Mod K mg base
 bs:∀b o,base.get? b=some o->s.heap.get? b=some o/\H b=none
 bsz:base.objs.size<=s.heap.objs.size
 ud:s.heap.FunFrames base outer
 frf:∀b∈frs outer,H b=none
 hok:HOk P w H s.heap
 bare:AllBare s.gens
def CE(outer:List Env)(P:Program)(w:World)(H:Hp)(s:Shared)(Q:VK)(u:Value)(s':Shared):Prop:=
 ∃v H',s'.os=s.os/\AllBare s'.gens/\Un (frs outer) [] H H' s.heap s'.heap/\HOk P w H' s'.heap/\RelV v u/\Q v H'
def CR(CX:CXT)(outer:List Env)(P:Program)(w:World)(H:Hp)(s:Shared)(Q:VK)(E:XK)(r:Result)(s':Shared):Prop:=
 match r with
 |.ok (.ret u)=>CE outer P w H s Q u s'
 |.ok _=>False
 |.error e=>CX outer H s E e s'
structure uP(P:Program)(w:World)(K:Af)(mg:Str->Option Value)(base:Heap)(CX:CXT)(k:Nat)(f:Addr)(fd:Bu)(ps:List Str)(sp:Sp):Prop where
 len:∀vs H Q E,sp vs H Q E->vs.length=ps.length
 run:∀(A:Around) (outer:List Env) (s:Shared) (H:Hp) (args:Args) (us:List Value) (vs:List V) (Q:VK) (E:XK),yu k A->lK P w K mg base A outer s H->BindsTo s fd args (ps.zip us)->Vals vs us->sp vs H Q E ->
  codeAny (model P w) A (.call (.ref f) args) (CR CX outer P w H s Q E) s
theorem uP.imp{P:Program}{w:World}{K:Af}{mg:Str->Option Value}{base:Heap}{CX:CXT}{k:Nat}{f:Addr}{fd:Bu}{ps:List Str}{sp sp':Sp}(F:uP P w K mg base CX k f fd ps sp)
 (h:∀vs H Q E,sp' vs H Q E->sp vs H Q E):uP P w K mg base CX k f fd ps sp':=
 ⟨fun vs H Q E q=>F.len vs H Q E (h _ _ _ _ q),fun A outer s H args us vs Q E hr he hb hv hs=>F.run A outer s H args us vs Q E hr he hb hv (h _ _ _ _ hs)⟩
section
variable {X:Cx}{pins:List (Addr × Obj)}{σ:St}{H:Hp}{s s':Shared}
theorem Inv.vS(I:Inv X pins σ H s):lK X.prog X.w X.K X.mg X.base X.A X.stack s H:=
 ⟨I.ok.frames,I.ok.mod,I.bs,Ax I.ok.bsz I.sz,I.stack,I.nI,I.hok,I.bare⟩
theorem Inv.after{Q:VK}{u:Value}(I:Inv X pins σ H s)(h:CE X.stack X.prog X.w H s Q u s'):EP X pins σ Q u s':=by
 obtain⟨v,H',os,bare,un,hok,r,q⟩:=h
 obtain⟨hh,g,d,t,os'⟩:=s'
 obtain rfl:os'=s.os:=os
 exact⟨v,H',I.call (h':=hh) (g':=g) (d':=d) (t':=t) (ch:=[]) un hok bare (fun b z=>absurd z (by simp)),r,q⟩
end
noncomputable def iD(sp:Sp)(dvs:List V)(E:XK)(t:TA):TE:=fun σ H Q=>t σ H fun vs H1=>sp (vs++dvs) H1 Q E
def Binds(K:Af)(fd:Bu)(ps:List Str)(ds:List Value):Prop:=
 ∀(s:Shared) (us:List Value),K.In s.heap->(us++ds).length=ps.length->BindsTo s fd ⟨us,[]⟩ (ps.zip (us++ds))
theorem Binds.all{K:Af}{fd:Bu}{ps:List Str}(h:∀us:List Value,us.length=ps.length->GU fd ⟨us,[]⟩=pure (ps.zip us)):Binds K fd ps []:=fun s us _ hl=>by
 rw[AZ]at hl ⊢
 exact .of_eq (h us hl)
def Passes(CX:CXT)(X:Cx)(E:XK):Prop:=∀(pins:List (Addr × Obj)) (σ:St) (H:Hp) (s:Shared) (e:Value) (s':Shared),Inv X pins σ H s->CX X.stack H s E e s'->X.xe e s'
section
variable {X:Cx}{CX:CXT}{k:Nat}{f C:Addr}{fd:Bu}{ps:List Str}{sp:Sp}{dvs:List V}{ds:List Value}{E:XK}{x m:Str}{p pos apos:Pos}{e o:Expr}{es:List Expr}{ta:TE}{t:TA}
theorem kS{pins:List (Addr × Obj)}{σ:St}{H:Hp}{s:Shared}{Q:VK}{us:List Value}{vs:List V}(F:uP X.prog X.w X.K X.mg X.base CX k f fd ps sp)(hr:yu k X.A)(hb:Binds X.K fd ps ds)(hd:Vals dvs ds)(hx:Passes CX X E)
 (I:Inv X pins σ H s) (r:Vals vs us) (h:sp (vs++dvs) H Q E):wpAny (model X.prog X.w) X.A (call (.ref f) us) (EP X pins σ Q) X.xe s:=by
 have r2:Vals (vs++dvs) (us++ds):=r.append hd
 have hl:(us++ds).length=ps.length:=by rw[<-r2.length];exact F.len _ _ _ _ h
 refine D4 (CI (F.run X.A X.stack s H ⟨us,[]⟩ (us++ds) (vs++dvs) Q E hr I.vS (hb s us I.kIn hl) r2 h) fun r s' hq=>?_)
 cases r with
 |error e=>exact hx pins σ H s e s' I hq
 |ok fl=>
  cases fl with
  |ret u=>exact I.after hq
  |next=>exact AF hq
  |brk=>exact AF hq
  |cont=>exact AF hq
theorem ou(F:uP X.prog X.w X.K X.mg X.base CX k f fd ps sp)(hr:yu k X.A)(hg:Gl X x)(hm:X.mg x=some (.ref f))(hk:B7 X.K (.ref f)=true)(hb:Binds X.K fd ps ds)(hd:Vals dvs ds)(hx:Passes CX X E)
 (ha:PA X (e::es) t) (hdb:(x == ("__debug__":Str))=false:=by decide) (he:AM (e::es) X.env=(false,eval e X.env)::AM es X.env:=by rfl) (hpl:(backTo pos (AM es X.env)).any (·.1)=false:=by rfl) :
 PE X (.Call (.Name x p) (e::es) [] pos) (iD sp dvs E t):=by
 intro pins s σ H Q I h
 refine BX (wO I hg hm ?_ hdb)
 refine DP (h₀:=X.base) I.ok.mod.kin hk (thn (ha pos pins s σ H _ I h) fun us s1 ⟨vs,H1,I1,r,q⟩=>⟨I1.kIn,?_⟩) he hpl
 exact kS F hr hb hd hx I1 r q
theorem mV(F:uP X.prog X.w X.K X.mg X.base CX k f fd ps sp)(hr:yu k X.A)(hg:Gl X x)(hm:X.mg x=some (.ref f))(hk:B7 X.K (.ref f)=true)(hb:Binds X.K fd ps ds)(hd:Vals dvs ds)(hx:Passes CX X E)
 (hdb:(x == ("__debug__":Str))=false:=by decide):PE X (.Call (.Name x p) [] [] pos) (iD sp dvs E qQ):=by
 intro pins s σ H Q I h
 refine BX (wO I hg hm ?_ hdb)
 exact PySem.W.callWith_K0 I.kIn hk (kS (us:=[]) F hr hb hd hx I .nil h)
end
structure wM(N P:List Str)(sc:Scope):Prop where
 kind:sc.kind=.function
 co:sc.isCoroutine=false
 gen:sc.isGenerator=false
 nd:N.Nodup
 pre:N.take P.length=P
 par:∀x∈P,sc.names.lookup x=some .local\/sc.names.lookup x=some .cell
 nofree:∀y∈sc.names,y.2≠.free
theorem qv{kindOf:Str->Option Bn}{x:Str}:∀{binds:List (Str × Value)} {m:Str->Option Value},(∀v,(x,v) ∉ binds)->bindL kindOf binds m x=m x
 |[],_,_=>rfl
 |(n,v)::r,m,h=>by
  unfold bindL
  rw[qv fun w hw=>h w (Ao _ hw)]
  split
  . have:x≠n:=by rintro rfl;exact h v Av
    simp[this]
  . rfl
theorem qt{kindOf:Str->Option Bn}{x:Str}:∀{binds:List (Str × Value)} {m:Str->Option Value},(∀v,(x,v) ∉ binds)->bindC kindOf binds m x=m x
 |[],_,_=>rfl
 |(n,v)::r,m,h=>by
  unfold bindC
  rw[qt fun w hw=>h w (Ao _ hw)]
  split
  . rfl
  . have:x≠n:=by rintro rfl;exact h v Av
    simp[this]
theorem qu{kindOf:Str->Option Bn}{x:Str}{v:Value}:∀{P:List Str} {vs:List Value} {i:Nat} {m:Str->Option Value},P.Nodup->P[i]?=some x->vs[i]?=some v->kindOf x=some .local ->
 bindL kindOf (P.zip vs) m x=some v
 |[],_,_,_,_,h,_,_=>by simp at h
 |_::_,[],_,_,_,_,h,_=>by simp at h
 |p::P,w::vs,0,m,nd,h1,h2,hk=>by
  simp at h1 h2;subst h1;subst h2
  show bindL kindOf ((p,w)::P.zip vs) m p=_
  unfold bindL
  rw[qv fun v hv=>(Bz.mp nd).1 (EO hv).1,if_pos hk]
  simp
 |p::P,w::vs,i+1,m,nd,h1,h2,hk=>by
  show bindL kindOf ((p,w)::P.zip vs) m x=_
  unfold bindL
  exact qu (i:=i) (Bz.mp nd).2 (by simpa using h1) (by simpa using h2) hk
theorem qr{kindOf:Str->Option Bn}{x:Str}{v:Value}:∀{P:List Str} {vs:List Value} {i:Nat} {m:Str->Option Value},P.Nodup->P[i]?=some x->vs[i]?=some v->kindOf x≠some .local ->
 bindC kindOf (P.zip vs) m x=some v
 |[],_,_,_,_,h,_,_=>by simp at h
 |_::_,[],_,_,_,_,h,_=>by simp at h
 |p::P,w::vs,0,m,nd,h1,h2,hk=>by
  simp at h1 h2;subst h1;subst h2
  show bindC kindOf ((p,w)::P.zip vs) m p=_
  unfold bindC
  rw[qt fun v hv=>(Bz.mp nd).1 (EO hv).1,if_neg hk]
  simp
 |p::P,w::vs,i+1,m,nd,h1,h2,hk=>by
  show bindC kindOf ((p,w)::P.zip vs) m x=_
  unfold bindC
  exact qr (i:=i) (Bz.mp nd).2 (by simpa using h1) (by simpa using h2) hk
noncomputable def start(N:List Str)(vs:List V):St:=vs.map some++Az (N.length-vs.length) none
noncomputable def xW(CX:CXT)(P:Program)(w:World)(K:Af)(mg:Str->Option Value)(base:Heap)(N:List Str)(qual:Str)(scope:Scope)(f:Addr)(cd:Value)(A:Around)(outer:List Env)(s:Shared)(H:Hp)(E:XK):Cx where
 prog:=P
 w:=w
 K:=K
 mg:=mg
 base:=base
 A:=A.deeper (envOfC qual scope s.heap.objs.size f cd)
 N:=N
 s₀:=s
 H₀:=H
 env:=envOfC qual scope s.heap.objs.size f cd
 outer:=outer
 stack:=envOfC qual scope s.heap.objs.size f cd::outer
 ex:=[]
 calm:=true
 fn:=fun _=>true
 pn:=[]
 xe:=fun e s'=>wpAny (model P w) (A.deeper (envOfC qual scope s.heap.objs.size f cd)) (leaving (envOfC qual scope s.heap.objs.size f cd) e) (fun _ s''=>CX outer H s E e s'') (fun e' s''=>CX outer H s E e' s'') s'
theorem nZ{sc:Scope}{n:Nat}{x:Str}(h:sc.names.lookup x=some .cell):∃c,(CJ n sc.names []).lookup x=some c:=by
 have q:=Ej sc.names n [] (.inl h)
 exact Cj.mp q
theorem pF{CX:CXT}{P:Program}{w:World}{K:Af}{mg:Str->Option Value}{base:Heap}{N ps:List Str}{qual:Str}{scope:Scope}{f:Addr}{cd:Value}{A:Around}{outer:List Env}{s s1:Shared}{H:Hp}{E:XK}{us:List Value}{vs:List V}
 (S:wM N ps scope) (hd:A.handled=none) (e0:lK P w K mg base A outer s H) (hl:vs.length=ps.length) (r:Vals vs us)
 (x:InCallC s s.heap.objs.size (bindL (envOfC qual scope s.heap.objs.size f cd).kindOf (ps.zip us) fun _=>none) (CJ (s.heap.objs.size+1) scope.names []) (bindC (envOfC qual scope s.heap.objs.size f cd).kindOf (ps.zip us) fun _=>none) s1) :
 Inv (xW CX P w K mg base N qual scope f cd A outer s H E) [] (start N vs) H s1:=by
 have hpl:ps.length<=N.length:=by have:=congrArg CZ S.pre;rw[Cy]at this;omega
 obtain⟨h1,tk,rfl,hk⟩:=x.done
 have noA:∀b:Addr,b ∉ (xW CX P w K mg base N qual scope f cd A outer s H E).ex:=fun b z=>absurd (show b∈([]:List Addr) from z) (by simp)
 refine⟨⟨e0.mod,S.kind,rfl,rfl,Ag _,fun y z c h1 h2=>?_,fun y hy=>?_,fun y c _ h=>?_,fun _=>hd,ES e0.frames,.inr ⟨rfl,rfl⟩,fun b z=>absurd z (noA b),e0.bs,e0.bsz,fun b _ _=>noA b,fun b z=>absurd z (noA b),e0.ud,e0.frf⟩,
  rfl,e0.bare,Un.kept hk,⟨_,x.toInCall.ns,fun i y v h1 h2 h3=>?_⟩,fun y c h=>⟨_,x.cell y c h⟩,e0.hok.fresh (Ag _),fun y c h=>?_,fun p hp=>absurd (show p∈([]:List (Addr × Obj)) from hp) (by simp),e0.hok.kept hk,?_⟩
 . exact name_of_addr x.apart (A0 h1) (A0 h2)
 . have hy:scope.names.lookup y=some .cell\/scope.names.lookup y=some .free:=hy
   rcases hy with hy|hy
   . exact nZ hy
   . exact absurd rfl (S.nofree _ (A0 hy))
 . exact DM (x.above y c (A0 h))
 . have hi:i<vs.length:=by
    unfold start at h2
    by_cases hi:i<vs.length
    . exact hi
    . rw[BO (by simpa using hi)]at h2
      rw[Eb]at h2
      split at h2<;>cases h2
   have ha:vs[i]?=some v:=by
    unfold start at h2
    rw[Bb (by simpa using hi),AQ]at h2
    cases e:vs[i]? with
    |none=>rw[e]at h2;cases h2
    |some a=>rw[e]at h2;cases h2;rfl
   obtain⟨u,hu,rv⟩:=r.get ha
   have hp:ps[i]?=some y:=by
    rw[<-S.pre,F3 (by omega)];exact h1
   have ndP:ps.Nodup:=by rw[<-S.pre];exact S.nd.sublist (FO _ _)
   refine⟨u,rv,?_⟩
   rcases S.par y (AS hp) with k|k
   . exact .inl ⟨k,qu ndP hp hu k⟩
   . obtain⟨c,e⟩:=nZ (n:=s.heap.objs.size+1) k
     refine .inr ⟨.inl k,c,e,?_⟩
     have q:=x.cell y c e
     rw[qr ndP hp hu (by show scope.names.lookup y≠_;rw[k];decide)]at q
     exact q
 . exact e0.hok.fresh (DM (x.above y c (A0 h)))
 . unfold start
   show _=N.length
   rw[Ap,Ai,CK]
   omega
theorem Y5{CX:CXT}{P:Program}{w:World}{K:Af}{mg:Str->Option Value}{base:Heap}{k:Nat}{f:Addr}{name qual:Str}{params:BV}{body:List Stmt}{scope:Scope}{dV kV doc pm cdv ct oc:Value}{an od:Option Addr}
 {osl:Array (Option Value)} {N ps:List Str} {sp:Sp} (lk:K.lookup f=some ⟨oc,od,.func (BM name qual params body scope dV kV doc pm an cdv ct),osl⟩) (hcd:BZ K cdv qual=true) (S:wM N ps scope)
 (len:∀vs H Q E,sp vs H Q E->vs.length=ps.length)
 (hbody:∀(A:Around) (outer:List Env) (s:Shared) (H:Hp) (vs:List V) (Q:VK) (E:XK),yu k (A.deeper (envOfC qual scope s.heap.objs.size f cdv))->sp vs H Q E ->
  ∃t,PSs (xW CX P w K mg base N qual scope f cdv A outer s H E) body t/\t {nx:=fun _ H'=>Q .non H',rt:=Q} (start N vs) H) :
 uP P w K mg base CX (k+1) f (BM name qual params body scope dV kV doc pm an cdv ct) ps sp:=by
 refine⟨len,fun A outer s H args us vs Q E hr e0 hb r hsp=>?_⟩
 have hl:=len _ _ _ _ hsp
 have KX:K.In s.heap:=e0.mod.kin.keeps fun b o e=>(e0.bs b o e).1
 have lim:s.heap.NoLimit:=e0.mod.nolimit.keeps fun b o e=>(e0.bs b o e).1
 have hkind:∀y∈ps.zip us,scope.names.lookup y.1=some .local\/(scope.names.lookup y.1=some .cell/\((CJ (s.heap.objs.size+1) scope.names []).lookup y.1).isSome=true):=fun⟨n,v⟩ hy=>by
  rcases S.par n (EO hy).1 with q|q
  . exact .inl q
  . exact .inr ⟨q,Ej _ _ _ (.inl q)⟩
 refine codeAny_call_function hr.depth (KX _ _ lk) rfl S.co S.gen rfl (PySem.W.codeRec_of KX hcd) (hb _ _ _ _ ?_)
 refine FC S.kind hkind fun env he s1 x=>?_
 subst he
 refine⟨lim.keeps x.toInCall.keep,codeAny_func ?_⟩
 obtain⟨t,ht,hq⟩:=hbody A outer s H vs Q E (hr.deeper _) hsp
 have I:Inv (xW CX P w K mg base N qual scope f cdv A outer s H E) [] (start N vs) H s1:=pF S hr.hd e0 hl r x
 refine Ba (ht [] s1 (start N vs) H _ I hq) (fun fl s' hs=>?_) fun e s' hs=>hs
 have fin:∀{σ':St} {H':Hp} {v:V} {u:Value},Inv (xW CX P w K mg base N qual scope f cdv A outer s H E) [] σ' H' s'->RelV v u->Q v H'->CE outer P w H s Q u s':=
  fun{σ' H' v u} J rv q=>⟨v,H',J.os,J.bare,J.base,J.hok,rv,q⟩
 cases fl with
 |ret u=>
  obtain⟨v,σ',H',J,rv,q⟩:=hs
  exact fin J rv q
 |next=>
  obtain⟨σ',H',J,q⟩:=hs
  exact fin (v:=V.non) (u:=Ce) J rfl q
 |brk=>
  obtain⟨_,_,_,q⟩:=hs
  exact AF q
 |cont=>
  obtain⟨_,_,_,q⟩:=hs
  exact AF q
end L2
namespace L2
open PySem PySem.Spec PyProof.Rows
section
variable {X:Cx}{x:Str}{p pos:Pos}{e:Expr}{es:List Expr}{t:TA}{id T:String}{r:List V->Hp->VK->Prop}
noncomputable def tCB(r:List V->Hp->VK->Prop)(t:TA):TE:=fun σ H Q=>t σ H fun vs H1=>r vs H1 Q
theorem vW(hc:yJ X (.builtin id) r)(hg:Gl X x)(hm:X.mg x=none)(hv:Cf x=some (.builtin id))(ha:PA X (e::es) t)(hn:x≠"__name__":=by decide)(hdb:(x == ("__debug__":Str))=false:=by decide)
 (he:AM (e::es) X.env=(false,eval e X.env)::AM es X.env:=by rfl) (hpl:(backTo pos (AM es X.env)).any (·.1)=false:=by rfl):PE X (.Call (.Name x p) (e::es) [] pos) (tCB r t):=by
 intro pins s σ H Q I h
 refine BX (uD I hg hm hv ?_ hn hdb)
 exact PyProof.Rows.callWith_builtin1 (thn (ha pos pins s σ H _ I h) fun us s1 ⟨vs,H1,I1,r1,q1⟩=>hc pins s1 σ H1 vs us Q I1 r1 q1) he hpl
theorem yp(hc:yJ X (.type T) r)(hg:Gl X x)(hm:X.mg x=none)(hv:Cf x=some (.type T))(ha:PA X (e::es) t)(hn:x≠"__name__":=by decide)(hdb:(x == ("__debug__":Str))=false:=by decide)
 (he:AM (e::es) X.env=(false,eval e X.env)::AM es X.env:=by rfl) (hpl:(backTo pos (AM es X.env)).any (·.1)=false:=by rfl):PE X (.Call (.Name x p) (e::es) [] pos) (tCB r t):=by
 intro pins s σ H Q I h
 refine BX (uD I hg hm hv ?_ hn hdb)
 exact CH (thn (ha pos pins s σ H _ I h) fun us s1 ⟨vs,H1,I1,r1,q1⟩=>hc pins s1 σ H1 vs us Q I1 r1 q1) he hpl
end
end L2
namespace HT
open PySem PyProof.Rows
section
variable {prog:Program}{w:World}{A:Around}{E:Value->Shared->Prop}{s:Shared}
theorem ak{t b:Addr}{vs ws:List Value}{Q:Value->Shared->Prop}(ht:IsTup s.heap t vs.toArray)(hb:IsTup s.heap b ws.toArray)(hv:vs≠[])
 (h1:ws=[]->Q (.ref t) s) (h2:ws≠[]->Q (.ref s.heap.objs.size) {s with heap:=s.heap.push {cls:=.type "tuple",data:=.seq (vs++ws).toArray}})
 (hsz:vs.length+ws.length<=AA):wpAny (model prog w) A (BB .Add (.ref t) (.ref b)) Q E s:=by
 obtain⟨⟨cls,dd,data,sl⟩,ho,hc,n,hd⟩:=id ht
 obtain⟨⟨cls2,dd2,data2,sl2⟩,ho2,hc2,n2,hd2⟩:=id hb
 simp only at hc hd hc2 hd2
 subst hc hd hc2 hd2
 have e:vs.toArray++ws.toArray=(vs++ws).toArray:=by simp
 by_cases hw:ws=[]
 . exact concat_meets ⟨_,ho,rfl⟩ ⟨_,ho2,rfl⟩ F4 G3 Ek Ec (DQ _ _)
    (tuple_addW1 t b vs.toArray ws.toArray n n2 dd dd2 sl sl2 (by simpa using hv) (by simp[hw])) ⟨ho,ho2,h1 hw⟩
 . refine concat_meets ⟨_,ho,rfl⟩ ⟨_,ho2,rfl⟩ F4 G3 Ek Ec (DQ _ _)
    (tuple_addW2 t b vs.toArray ws.toArray n n2 dd dd2 sl sl2 (by simpa using hv) (by simpa using hw) (by rw[Ah,Ah];exact hsz)) ⟨ho,ho2,?_⟩
   rw[e]
   exact h2 hw
noncomputable def sIx(n d:Nat):Option Int->Nat
 |none=>d
 |some v=>if v<0 then (v+(n:Int)).toNat else min v.toNat n
theorem Vu(n d:Nat)(hd:d<=n)(o:Option Int):sIx n d o<=n:=by
 cases o with
 |none=>exact hd
 |some v=>
  show (if v<0 then (v+(n:Int)).toNat else min v.toNat n)<=n
  by_cases hv:v<0
  . rw[if_pos hv];omega
  . rw[if_neg hv];exact Ew _ _
theorem jM(v:Int)(n d:Nat):(if v<0 then max (v+(n:Int)) 0 else min v (n:Int))=((sIx n d (some v):Nat):Int):=by
 show (if v<0 then max (v+(n:Int)) 0 else min v (n:Int))=(((if v<0 then (v+(n:Int)).toNat else min v.toNat n):Nat):Int)
 by_cases hv:v<0
 . simp only[if_pos hv];omega
 . simp only[if_neg hv];omega
theorem lN(lo hi:Option Int)(n:Nat):BR lo hi 1 (n:Int)=(((sIx n 0 lo:Nat):Int),((sIx n n hi:Nat):Int)):=by
 have h1:¬((1:Int)<0):=by omega
 unfold BR
 simp only[h1,if_false]
 refine Et ?_ ?_
 . cases lo with
   |none=>rfl
   |some v=>exact jM v n 0
 . cases hi with
   |none=>rfl
   |some v=>exact jM v n n
theorem kH(i j:Nat):Cb (i:Int) (j:Int) 1=j-i:=by
 unfold Cb
 have h1:(1:Int) > 0:=by omega
 simp only[h1,if_true,Int.ediv_one]
 split<;>omega
theorem wH{v:Value}{o:Option Int}{Q:Option Int->Shared->Prop}(p:IsPart v o)(h:Q o s):wpAny (model prog w) A (Builtin.Slice.slicePartIndex v) Q E s:=by
 cases p with
 |none=>exact slicePart_none h
 |int i t=>exact slicePart_int h
theorem wo{sl:Addr}{vl vu:Value}{lo hi:Option Int}{n:Nat}{Q:Int × Int × Nat->Shared->Prop}(hs:s.heap.IsSliceOf sl vl vu .none)(pl:IsPart vl lo)(pu:IsPart vu hi)
 (h:Q (((sIx n 0 lo:Nat):Int),1,sIx n n hi-sIx n 0 lo) s):wpAny (model prog w) A (CP (.ref sl) (pure (n:Int))) Q E s:=by
 obtain⟨os,hos,hcs,hds⟩:=id hs
 unfold CP FZ
 refine Ac (Ac (CC hos hds (x:=vl) rfl (Ac (CC hos hds (x:=vu) rfl (Ac (CC hos hds (x:=.none) rfl (Am ?_)))))))
 refine Ac (slicePart_none ?_)
 show wpAny _ _ (if ((1:Int) == 0)=true then _ else _) _ _ s
 rw[if_neg (by decide)]
 refine Ac (wH pl (Ac (wH pu (Ac (Am ?_)))))
 show wpAny _ _ (match BR lo hi 1 (n:Int) with|(lo,hi)=>pure (lo,(1:Int),Cb lo hi 1)) _ _ s
 rw[lN lo hi n]
 show wpAny _ _ (pure (((sIx n 0 lo:Nat):Int),(1:Int),Cb ((sIx n 0 lo:Nat):Int) ((sIx n n hi:Nat):Int) 1)) _ _ s
 rw[kH]
 exact Am h
theorem bN(xs:Array Value)(i k:Nat):((AE k).filterMap fun(m:Nat)=>xs[((i:Int)+(m:Int)*1).toNat]?).toArray=((xs.toList.drop i).take k).toArray:=by
 have e:(fun(m:Nat)=>xs[((i:Int)+(m:Int)*1).toNat]?)=fun m=>xs[i+m]?:=by
  funext m
  have:((i:Int)+(m:Int)*1).toNat=i+m:=by omega
  rw[this]
 rw[e]
 have:=pick_run xs i k
 rw[B8]at this
 have e2:((fun x=>xs[x]?)∘fun x=>i+x)=fun m=>xs[i+m]?:=rfl
 rw[e2]at this
 rw[this]
theorem ue{t sl:Addr}{items:Array Value}{vl vu:Value}{lo hi:Option Int}{Q:Value->Shared->Prop}(ht:IsTup s.heap t items)(hs:s.heap.IsSliceOf sl vl vu .none)(pl:IsPart vl lo)(pu:IsPart vu hi)
 (hw:¬(sIx items.size 0 lo=0/\sIx items.size items.size hi=items.size))
 (h:Q (.ref s.heap.objs.size) {s with heap:=s.heap.push {cls:=.type "tuple",data:=.seq ((items.toList.drop (sIx items.size 0 lo)).take (sIx items.size items.size hi-sIx items.size 0 lo)).toArray}})
 (hsz:items.size<=AA):wpAny (model prog w) A (getItem (.ref t) (.ref sl)) Q E s:=by
 have htake:sizeOk (.seq ((items.toList.drop (sIx items.size 0 lo)).take (sIx items.size items.size hi-sIx items.size 0 lo)).toArray):=by
  show ((items.toList.drop (sIx items.size 0 lo)).take (sIx items.size items.size hi-sIx items.size 0 lo)).toArray.size<=AA
  rw[Ah,Cy,Ey,Cv]
  omega
 have hj:sIx items.size items.size hi<=items.size:=Vu _ _ (Ag _) hi
 obtain⟨os,hos,hcs,hds⟩:=id hs
 have hTs:s.TypeIs (.ref sl) "slice":=⟨os,hos,hcs⟩
 unfold getItem
 try with_reducible refine BY ?_
 first|refine Ac (Am ?_)|skip
 refine Ac (FP ht.typeIs (by decide) ?_)
 refine Ac (Cu (name:=Dm "__getitem__") ht.typeIs A2
  (Ds A2 ht.typeIs E4 ?_ (Fm _ _)))
 show wpAny _ _ (Dz (.ref t) >>= _) _ _ s
 refine Ac (Er ht ?_)
 refine Ac (ET hTs ?_)
 rw[if_pos (by decide)]
 refine Ac (wo hs pl pu ?_)
 have hno:¬((((sIx items.size 0 lo:Nat):Int) == 0&&(1:Int) == 1&&(sIx items.size items.size hi-sIx items.size 0 lo) == items.size)=true):=by
  intro q
  rw[Aa,Aa]at q
  have q1:((sIx items.size 0 lo:Nat):Int)=0:=Cr q.1.1
  have q2:sIx items.size items.size hi-sIx items.size 0 lo=items.size:=Cr q.2
  exact hw ⟨by omega,by omega⟩
 show wpAny _ _ (if (((sIx items.size 0 lo:Nat):Int) == 0&&(1:Int) == 1&&(sIx items.size items.size hi-sIx items.size 0 lo) == items.size)=true then _ else _) _ _ s
 rw[if_neg hno,bN]
 first
  |exact Ac (m:=Bv _) (Be (Am ⟨_,rfl,Am h⟩) htake)
  |exact Ac (m:=Bv _) (Be (Ac (Am (Am ⟨_,rfl,Am h⟩))) htake)
  |exact Ac (Ac (m:=Bv _) (Be (Am (Am ⟨_,rfl,Am h⟩)) htake))
  |exact Ac (Ac (m:=Bv _) (Be (Am ⟨_,rfl,Am h⟩) htake))
end
end HT
namespace L2
open PySem PySem.Spec PyProof.Rows
noncomputable abbrev TO:=St->Hp->(Option Int->Hp->Prop)->Prop
def PO(X:Cx)(e:Option Expr)(t:TO):Prop:=
 ∀(pins:List (Addr × Obj)) (s:Shared) (σ:St) (H:Hp) (Q:Option Int->Hp->Prop),Inv X pins σ H s->t σ H Q ->
  wpAny (model X.prog X.w) X.A (evalPart e X.env) (fun u s'=>∃o H',Inv X pins σ H' s'/\IsPart u o/\Q o H') X.xe s
noncomputable def YX:TO:=fun _ H Q=>Q none H
noncomputable def So(t:TE):TO:=fun σ H Q=>t σ H fun x H1=>∃i,x=.int i/\Q (some i) H1
section
variable {X:Cx}{e:Expr}{te:TE}{lo hi:Option Expr}{tl th:TO}{pos p2:Pos}
theorem YF:PO X none YX:=by
 intro pins s σ H Q I h
 rw[evalPart_none]
 exact Am ⟨none,H,I,.none,h⟩
theorem YG(h:PE X e te):PO X (some e) (So te):=by
 intro pins s σ H Q I hw
 rw[evalPart_some]
 refine thn (h pins s σ H _ I hw) fun u s1 ⟨x,H1,I1,r1,q1⟩=>?_
 obtain⟨i,rfl,q⟩:=q1
 obtain⟨t,rfl⟩:=r1
 exact⟨some i,H1,I1,.int i t,q⟩
def SlR(X:Cx)(r:V->Option Int->Option Int->Hp->VK->Prop):Prop:=
 ∀(pins:List (Addr × Obj)) (s:Shared) (σ:St) (H:Hp) (x:V) (v vl vu:Value) (lo hi:Option Int) (sl:Addr) (Q:VK),Inv X pins σ H s->RelV x v->s.heap.IsSliceOf sl vl vu .none->IsPart vl lo->IsPart vu hi->r x lo hi H Q ->
  ∃T id,GV (.type T) "__getitem__"=pure (some (.builtin id))/\s.TypeIs v T/\wpAny (model X.prog X.w) X.A (getItem v (.ref sl)) (EP X pins σ Q) X.xe s
noncomputable def tSl(r:V->Option Int->Option Int->Hp->VK->Prop)(te:TE)(tl th:TO):TE:=fun σ H Q=>te σ H fun x H1=>tl σ H1 fun l H2=>th σ H2 fun u H3=>r x l u H3 Q
theorem bK{r:V->Option Int->Option Int->Hp->VK->Prop}(hr:SlR X r)(he:PE X e te)(hl:PO X lo tl)(hu:PO X hi th):PE X (.Subscript e (.Slice lo hi none p2) pos) (tSl r te tl th):=by
 intro pins s σ H Q I h
 refine GW (thn (he pins s σ H _ I h) fun v s1 ⟨x,H1,I1,r1,q1⟩=>?_)
 refine wpAny_Slice (thn (hl pins s1 σ H1 _ I1 q1) fun vl s2 ⟨l,H2,I2,pl,q2⟩=>thn (hu pins s2 σ H2 _ I2 q2) fun vu s3 ⟨u,H3,I3,pu,q3⟩=>?_)
 rw[evalPart_none]
 refine Am ?_
 have I4:Inv X pins σ H3 {s3 with heap:=s3.heap.push {cls:=.type "slice",data:=.fields #[vl,vu,.none]}}:=I3.kept (t':=s3.toks) fun b ob q=>Ad _ q
 obtain⟨T,id,hT,ht,hg⟩:=hr pins {s3 with heap:=s3.heap.push {cls:=.type "slice",data:=.fields #[vl,vu,.none]}} σ H3 x v vl vu l u s3.heap.objs.size Q I4 r1 (Fo ..) pl pu q3
 show wpAny (model X.prog X.w) X.A (FD e (.Slice lo hi none p2) v (.ref s3.heap.objs.size)) (EP X pins σ Q) X.xe {s3 with heap:=s3.heap.push {cls:=.type "slice",data:=.fields #[vl,vu,.none]}}
 exact tail_any (ops:=[.ref s3.heap.objs.size,v]) ht hT hg (by with_unfolding_all rfl)
noncomputable def qY(xs:List V)(lo hi:Option Int):List V:=(xs.drop (HT.sIx xs.length 0 lo)).take (HT.sIx xs.length xs.length hi-HT.sIx xs.length 0 lo)
theorem sG(xs:List V)(lo hi:Option Int):(qY xs lo hi).length<=xs.length:=by
 unfold qY
 rw[Cy,Ey]
 omega
noncomputable def Rb(K:Af):V->Option Int->Option Int->Hp->VK->Prop:=fun x lo hi H Q=>∃a xs,x=.ref a/\SqT K H a xs /\
 ¬(HT.sIx xs.length 0 lo=0/\HT.sIx xs.length xs.length hi=xs.length)/\∀p,H p=none->Q (.ref p) (upd H p (.tup (qY xs lo hi)))
theorem Vw:SlR X (Rb X.K):=by
 intro pins s σ H x v vl vu lo hi sl Q I rx hs pl pu h
 obtain⟨a,xs,rfl,hx,hw,q⟩:=h
 cases rx
 obtain⟨its,r,ht,hz⟩:=I.tuple hx
 have hlen:its.toArray.size=xs.length:=by rw[Ah];exact r.length.symm
 refine⟨"tuple",_,A2.lookup,ht.typeIs,?_⟩
 refine HT.ue ht hs pl pu (by rw[hlen];exact hw) ?_ (by rw[hlen];exact hz)
 rw[hlen]
 refine⟨.ref s.heap.objs.size,_,I.laid (t':=s.toks) (o:=.tup (qY xs lo hi)) (fun b ob q=>Ad _ q) (Ag _) ?_,rfl,q _ (I.hok.fresh (Ag _))⟩
 exact⟨Ax (sG xs lo hi) hz,_,(r.drop (HT.sIx xs.length 0 lo)).take (HT.sIx xs.length xs.length hi-HT.sIx xs.length 0 lo),tF.new _ _⟩
noncomputable def SD(K:Af):R2:=fun x y H Q=>∃a b xs ys,x=.ref a/\y=.ref b/\SqT K H a xs/\SqT K H b ys/\xs≠[]/\xs.length+ys.length<=AA /\
 (ys=[]->Q (.ref a) H)/\(ys≠[]->∀p,H p=none->Q (.ref p) (upd H p (.tup (xs++ys))))
theorem Vals.ui{xs:List V}{us:List Value}(r:Vals xs us):us=[]↔xs=[]:=by
 cases r with
 |nil=>simp
 |cons _ _=>simp
theorem Zz:OpR X (BB .Add) (SD X.K):=by
 intro pins s σ H x y v u Q I rx ry h
 obtain⟨a,b,xs,ys,rfl,rfl,ha,hb,hx,hz,q1,q2⟩:=h
 cases rx
 cases ry
 obtain⟨its,r1,p1,_⟩:=I.tuple ha
 obtain⟨its2,r2,p2,_⟩:=I.tuple hb
 refine HT.ak p1 p2 (fun z=>hx (r1.ui.mp z)) (fun z=>⟨.ref a,H,I,rfl,q1 (r2.ui.mp z)⟩) (fun z=>?_) (by rw[<-r1.length,<-r2.length];exact hz)
 refine⟨.ref s.heap.objs.size,_,I.laid (t':=s.toks) (o:=.tup (xs++ys)) (fun b ob q=>Ad _ q) (Ag _) ?_,rfl,q2 (fun w=>z (r2.ui.mpr w)) _ (I.hok.fresh (Ag _))⟩
 exact⟨by rw[Ap];exact hz,_,r1.append r2,tF.new _ _⟩
end
end L2
namespace L2
open PySem PySem.Spec PyProof.Rows
noncomputable def ixN(n:Nat)(i:Int):Option Nat:=if 0<=i then (if i<n then some i.toNat else none) else if -(n:Int)<=i then some (i+n).toNat else none
noncomputable def atI{α:Type}(xs:List α)(i:Int):Option α:=(ixN xs.length i).bind fun j=>xs[j]?
theorem jj{n:Nat}{i:Int}{j:Nat}(h:ixN n i=some j):seqIndex? i n=some j/\j<n∧-(n:Int)<=i/\i<n:=by
 unfold ixN at h
 by_cases h0:0<=i
 . rw[if_pos h0]at h
   by_cases h1:i<n
   . rw[if_pos h1]at h
     have e:i.toNat=j:=AG h
     exact⟨by rw[seqIndex_of h0 h1,e],by omega,by omega,h1⟩
   . rw[if_neg h1]at h;cases h
 . rw[if_neg h0]at h
   by_cases h1:-(n:Int)<=i
   . rw[if_pos h1]at h
     have e:(i+n).toNat=j:=AG h
     exact⟨by rw[seqIndex_neg (by omega) h1,e],by omega,h1,by omega⟩
   . rw[if_neg h1]at h;cases h
theorem oC{α:Type}{xs:List α}{i:Int}{v:α}(h:atI xs i=some v):∃j,seqIndex? i xs.length=some j/\xs[j]?=some v/\j<xs.length∧-(xs.length:Int)<=i/\i<xs.length:=by
 unfold atI at h
 cases e:ixN xs.length i with
 |none=>rw[e]at h;cases h
 |some j=>
  rw[e]at h
  obtain⟨h1,h2,h3,h4⟩:=jj e
  exact⟨j,h1,h,h2,h3,h4⟩
theorem sV{α:Type}{xs:List α}{j:Nat}{v:α}(h:xs[j]?=some v):atI xs (j:Int)=some v:=by
 have hj:j<xs.length:=(As.mp h).1
 have e:ixN xs.length (j:Int)=some j:=by
  unfold ixN
  rw[if_pos (by omega),if_pos (by omega)];simp
 unfold atI;rw[e];exact h
def jH(b:Expr):Prop:=∀o i,subscripted b false o i=operate [o,i] (getItem o i)
def IxR(X:Cx)(r:R2):Prop:=
 ∀(value slice:Expr) (pins:List (Addr × Obj)) (s:Shared) (σ:St) (H:Hp) (x y:V) (v u:Value) (Q:VK),Inv X pins σ H s->RelV x v->RelV y u->r x y H Q ->
  subscripted slice false v u=operate [v,u] (getItem v u)->wpAny (model X.prog X.w) X.A (FD value slice v u) (EP X pins σ Q) X.xe s
def MtR(X:Cx)(id:String)(r:V->List V->Hp->VK->Prop):Prop:=
 ∀(pins:List (Addr × Obj)) (s:Shared) (σ:St) (H:Hp) (x:V) (xs:List V) (v:Value) (us:List Value) (Q:VK),Inv X pins σ H s->RelV x v->Vals xs us->r x xs H Q ->
  wpAny (model X.prog X.w) X.A (call (.builtin id) (v::us)) (EP X pins σ Q) X.xe s
section
variable {X:Cx}{a b:Expr}{ta tb:TE}{pos:Pos}
theorem IxR.or{r r':R2}(h:IxR X r)(h':IxR X r'):IxR X (fun x y H Q=>r x y H Q\/r' x y H Q):=by
 intro value slice pins s σ H x y v u Q I rx ry q hs
 rcases q with q|q
 . exact h value slice pins s σ H x y v u Q I rx ry q hs
 . exact h' value slice pins s σ H x y v u Q I rx ry q hs
theorem XU{r:R2}(hr:IxR X r)(ha:PE X a ta)(hb:PE X b tb)(hs:jH b):PE X (.Subscript a b pos) (tOp r ta tb):=by
 intro pins s σ H Q I h
 exact GW (Xr ha hb I h fun v u s2 x y H2 I2 rx ry q=>hr a b pins s2 σ H2 x y v u Q I2 rx ry q (hs _ _))
noncomputable def Vr(K:Af):R2:=fun x y H Q=>∃p xs i v,x=.ref p/\y=.int i/\SqL K H p xs/\atI xs i=some v/\Q v H
noncomputable def SH(K:Af):R2:=fun x y H Q=>∃p xs i v,x=.ref p/\y=.int i/\SqT K H p xs/\atI xs i=some v/\Q v H
noncomputable def SG:R2:=fun x y H Q=>∃z i c,x=.str z/\y=.int i/\z.length<=AA/\atI z.cps.toList i=some c/\Q (.str ⟨#[c]⟩) H
theorem jk:IxR X (Vr X.K):=by
 intro value slice pins s σ H x y v u Q I rx ry h hs
 obtain⟨p,xs,i,z,rfl,rfl,hq,he,q⟩:=h
 cases rx
 obtain⟨t,rfl⟩:=ry
 obtain⟨its,r,pl,hz⟩:=I.list hq
 obtain⟨j,h1,h2,h3,h4,h5⟩:=oC he
 obtain⟨w,ew,rw'⟩:=r.get h2
 have hl:=r.length
 have hn:=uF
 have fin:EP X pins σ Q w s:=⟨z,H,I,rw',q⟩
 by_cases h0:0<=i
 . have hj:i.toNat=j:=by
    rw[seqIndex_of h0 h5]at h1
    exact AG h1
   exact item_listR pl.isList h0 (by omega) (by rw[hj];simpa using ew) fin hs
 . have hj:(i+(its.toArray.size:Int)).toNat=j:=by
    rw[seqIndex_neg (by omega) h4]at h1
    rw[Ah,<-hl]
    exact AG h1
   exact subscriptTail_builtinR (x:=w) pl.isList.typeIs FQ.lookup
    (wpAny_getItem_list_neg (Q:=fun r s'=>r=w/\EP X pins σ Q r s') pl.isList (by omega) (by rw[Ah]<;>omega) (by omega) (by rw[hj];simpa using ew) ⟨rfl,fin⟩) hs
theorem WL:IxR X (SH X.K):=by
 intro value slice pins s σ H x y v u Q I rx ry h hs
 obtain⟨p,xs,i,z,rfl,rfl,hq,he,q⟩:=h
 cases rx
 obtain⟨t,rfl⟩:=ry
 obtain⟨its,r,pl,hz⟩:=I.tuple hq
 obtain⟨j,h1,h2,h3,h4,h5⟩:=oC he
 obtain⟨w,ew,rw'⟩:=r.get h2
 have hl:=r.length
 have hn:=uF
 have fin:EP X pins σ Q w s:=⟨z,H,I,rw',q⟩
 exact subscriptTail_builtinR (x:=w) pl.typeIs slot_tuple_getitem.lookup
  (getItem_tuple (j:=j) (Q:=fun r s'=>r=w/\EP X pins σ Q r s') pl (by omega) (by omega) (by rw[Ah,<-hl];exact h1) (by simpa using ew) ⟨rfl,fin⟩) hs
theorem WK:IxR X SG:=by
 intro value slice pins s σ H x y v u Q I rx ry h hs
 obtain⟨z,i,c,rfl,rfl,hz,he,q⟩:=h
 obtain⟨t,rfl⟩:=rx
 obtain⟨t',rfl⟩:=ry
 obtain⟨j,h1,h2,h3,h4,h5⟩:=oC he
 have hl:z.cps.toList.length=z.length:=by simp[Str.length]
 rw[hl]at h1 h4 h5
 have hn:=uF
 exact tail_any (typeIs_str s z t) slot_str_getitem.lookup (getItem_str (c:=c) (by
  have e1:decide (i < -(2 ^ 63:Int))=false:=decide_eq_false (by omega)
  have e2:decide (i ≥ 2 ^ 63)=false:=decide_eq_false (by omega)
  rw[e1,e2,Bool.or_false]) (by rw[h1];simpa using h2) ⟨.str ⟨#[c]⟩,H,I.tok _,⟨_,rfl⟩,q⟩) hs
noncomputable def rIx(K:Af):R2:=fun x y H Q=>Vr K x y H Q\/SH K x y H Q\/SG x y H Q
theorem WJ:IxR X (rIx X.K):=jk.or (WL.or WK)
theorem lu(its:List Value)(n j:Nat)(u:Value):F0 (·.setIfInBounds j u) {cls:=.type "list",data:=.seq its.toArray n}={cls:=.type "list",data:=.seq (its.set j u).toArray n}:=by
 simp[F0]
theorem Inv.lst{pins:List (Addr × Obj)}{σ:St}{H:Hp}{s:Shared}{p:Addr}{xs:List V}(I:Inv X pins σ H s)(h:H p=some (.lst xs)) :
 ∃(its:List Value) (n:Nat),Vals xs its/\s.heap.get? p=some {cls:=.type "list",data:=.seq its.toArray n}/\xs.length<=AA:=by
 obtain⟨z,its,n,r,e⟩:=I.hok p _ h
 exact⟨its,n,r,e,z⟩
theorem Inv.W3{pins:List (Addr × Obj)}{σ:St}{H:Hp}{s:Shared}{p:Addr}{xs ys:List V}{its its':List Value}{n n':Nat}{f:Obj->Obj}(I:Inv X pins σ H s)(h:H p=some (.lst xs))
 (ho:s.heap.get? p=some {cls:=.type "list",data:=.seq its.toArray n}) (hf:f {cls:=.type "list",data:=.seq its.toArray n}={cls:=.type "list",data:=.seq its'.toArray n'}) (r:Vals ys its') (hz:ys.length<=AA) (t:Nat) :
 Inv X pins σ (upd H p (.lst ys)) {s with heap:=s.heap.update p f,toks:=t}:=by
 have e:(s.heap.update p f).get? p=some {cls:=.type "list",data:=.seq its'.toArray n'}:=by
  rw[CL f ho (by rw[hf]<;>rfl),hf]
 refine I.write (x:=p) (e:=p) (by rw[h];trivial) (.inl rfl) (fun b u hb q=>(Bs _ _ (Bq hb)).trans q) ⟨_,e⟩ ?_
 exact⟨hz,its',n',r,e⟩
noncomputable def XX:V->V->V->Hp->(Hp->Prop)->Prop:=fun o i v H Q=>∃p xs k j,o=.ref p/\i=.int k/\H p=some (.lst xs)/\ixN xs.length k=some j/\Q (upd H p (.lst (xs.set j v)))
theorem set_list:UN X XX:=by
 intro pins s σ H o i v ov iv u Q I ro ri rv h
 obtain⟨p,xs,k,j,rfl,rfl,hp,hj,q⟩:=h
 cases ro
 obtain⟨t,rfl⟩:=ri
 obtain⟨its,n,r,ho,hz⟩:=I.lst hp
 obtain⟨h1,h2,h3,h4⟩:=jj hj
 have hl:=r.length
 have hn:=uF
 have I':Inv X pins σ (upd H p (.lst (xs.set j v))) {s with heap:=s.heap.update p (F0 (·.setIfInBounds j u))}:=
  I.W3 hp ho (lu its n j u) (r.set rv j) (by rw[CM];exact hz) s.toks
 by_cases h0:0<=k
 . have hk:k.toNat=j:=by
    rw[seqIndex_of h0 h4]at h1
    exact AG h1
   exact PySem.W.ki_setAt ho h0 (by omega) (by rw[Ah,<-hl];exact h4) (by rw[hk];exact⟨_,I',q⟩)
 . have hk:(k+(its.toArray.size:Int)).toNat=j:=by
    rw[seqIndex_neg (by omega) h3]at h1
    rw[Ah,<-hl]
    exact AG h1
   exact PySem.W.ki_setBack ho (by omega) (by rw[Ah,<-hl];exact h3) (by omega) (by rw[hk];exact⟨_,I',q⟩)
theorem nH(lo hi:Option Int)(n:Nat):(By lo hi none n).1=((HT.sIx n 0 lo:Nat):Int)/\(By lo hi none n).2.1=((HT.sIx n n hi:Nat):Int)/\(By lo hi none n).2.2=1:=by
 refine⟨?_,?_,rfl⟩
 . cases lo with
   |none=>simp[By,HT.sIx]
   |some i=>
    simp only[By,HT.sIx,F5,show (1:Int) > 0 by decide,if_true]
    by_cases h:i<0
    . simp only[h,if_true]<;>omega
    . simp only[h,if_false]<;>omega
 . cases hi with
   |none=>simp[By,HT.sIx]
   |some i=>
    simp only[By,HT.sIx,F5,show (1:Int) > 0 by decide,if_true]
    by_cases h:i<0
    . simp only[h,if_true]<;>omega
    . simp only[h,if_false]<;>omega
theorem qe(its:List Value)(lo hi:Option Int):G7 its.toArray lo hi none=((its.drop (HT.sIx its.length 0 lo)).take (HT.sIx its.length its.length hi-HT.sIx its.length 0 lo)).toArray:=by
 obtain⟨h1,h2,h3⟩:=nH lo hi its.toArray.size
 unfold G7
 rw[h1,h2,h3]
 simp only[sliceRange_one,pick_run,Ah]<;>rfl
noncomputable def Ra(K:Af):V->Option Int->Option Int->Hp->VK->Prop:=fun x lo hi H Q=>∃a xs,x=.ref a/\SqL K H a xs/\∀p,H p=none->Q (.ref p) (upd H p (.lst (qY xs lo hi)))
theorem YO:SlR X (Ra X.K):=by
 intro pins s σ H x v vl vu lo hi sl Q I rx hs pl pu h
 obtain⟨a,xs,rfl,hx,q⟩:=h
 cases rx
 obtain⟨its,r,ht,hz⟩:=I.list hx
 have hlen:=r.length
 refine⟨"list",_,FQ.lookup,ht.isList.typeIs,?_⟩
 refine F6 ht.isList hs pl pu .none (by simp) ?_ (by rw[Ah]<;>omega)
 rw[qe,<-hlen]
 refine⟨.ref s.heap.objs.size,_,I.laid (t':=s.toks) (o:=.lst (qY xs lo hi)) (fun b ob q=>Ad _ q) (Ag _) ?_,rfl,q _ (I.hok.fresh (Ag _))⟩
 exact⟨Ax (sG xs lo hi) hz,_,0,(r.drop (HT.sIx xs.length 0 lo)).take (HT.sIx xs.length xs.length hi-HT.sIx xs.length 0 lo),Ay _ rfl⟩
noncomputable def vF:V->Bool
 |.non=>true
 |.bl _=>true
 |.int _=>true
 |.str _=>true
 |_=>false
noncomputable def eqV:V->V->Bool
 |.non,.non=>true
 |.bl a,.bl b=>a == b
 |.bl a,.int b=>(if a then 1 else 0) == b
 |.int a,.bl b=>a == (if b then 1 else 0)
 |.int a,.int b=>a == b
 |.str a,.str b=>a == b
 |_,_=>false
theorem X8{A:Around}{s:Shared}{y x:V}{u v:Value}(ry:RelV y u)(rx:RelV x v)(fy:vF y=true)(fx:vF x=true):Br A s u v (eqV y x):=by
 cases y with
 |non=>
  cases ry
  cases x with
  |non=>cases rx;exact Br.same _
  |bl b=>cases rx;exact Br.none_bool b
  |int b=>obtain⟨t,rfl⟩:=rx;exact Br.none_int b t
  |str b=>obtain⟨t,rfl⟩:=rx;exact Br.none_str b t
  |_=>exact absurd (show false=true from fx) Aj
 |bl a=>
  cases ry
  cases x with
  |non=>cases rx;exact Br.bool_none a
  |bl b=>cases rx;exact Br.bool_bool a b
  |int b=>obtain⟨t,rfl⟩:=rx;exact Br.bool_int a b t
  |str b=>obtain⟨t,rfl⟩:=rx;exact Br.bool_str a b t
  |_=>exact absurd (show false=true from fx) Aj
 |int a=>
  obtain⟨t',rfl⟩:=ry
  cases x with
  |non=>cases rx;exact Br.int_none a t'
  |bl b=>cases rx;exact Br.int_bool a t' b
  |int b=>obtain⟨t,rfl⟩:=rx;exact Br.int_int a t' b t
  |str b=>obtain⟨t,rfl⟩:=rx;exact Br.int_str a t' b t
  |_=>exact absurd (show false=true from fx) Aj
 |str a=>
  obtain⟨t',rfl⟩:=ry
  cases x with
  |non=>cases rx;exact Br.str_none a t'
  |bl b=>cases rx;exact Br.str_bool a t' b
  |int b=>obtain⟨t,rfl⟩:=rx;exact Br.str_int a t' b t
  |str b=>obtain⟨t,rfl⟩:=rx;exact Br.str_str a t' b t
  |_=>exact absurd (show false=true from fx) Aj
 |_=>exact absurd (show false=true from fy) Aj
noncomputable def eqU(x:V)(u:Value):Bool:=match u with
 |.none=>eqV .non x
 |.bool b=>eqV (.bl b) x
 |.int i _=>eqV (.int i) x
 |.str z _=>eqV (.str z) x
 |_=>false
theorem lV{x y:V}{u:Value}(r:RelV y u)(f:vF y=true):eqU x u=eqV y x:=by
 cases y with
 |non=>cases r;rfl
 |bl b=>cases r;rfl
 |int i=>obtain⟨t,rfl⟩:=r;rfl
 |str z=>obtain⟨t,rfl⟩:=r;rfl
 |_=>exact absurd (show false=true from f) Aj
theorem qA{A:Around}{s:Shared}{x:V}{v:Value}(rx:RelV x v)(fx:vF x=true):∀{xs:List V} {us:List Value},Vals xs us->xs.all vF=true->∀u∈us,Br A s u v (eqU x u)
 |_,_,.nil,_=>fun u hu=>by cases hu
 |y::xs,u::us,.cons r t,f=>fun u' hu=>by
  rw[DA,Aa]at f
  rcases Al.mp hu with rfl|hu
  . rw[lV r f.1];exact X8 r rx f.1 fx
  . exact qA rx fx t f.2 u' hu
theorem oE:yJ X (.builtin "len") (fun xs H Q=>∃p ys,xs=[.ref p]/\(SqL X.K H p ys\/SqT X.K H p ys)/\Q (.int ys.length) H):=by
 intro pins s σ H xs us Q I r h
 obtain⟨p,ys,rfl,hq,q⟩:=h
 obtain⟨u,rfl,rx⟩:=vals1 r
 cases rx
 have hn:=uF
 rcases hq with hq|hq
 . obtain⟨its,r',pl,hz⟩:=I.list hq
   have hlen:=r'.length
   exact Calls.call_len_list pl.isList (by simp only[Ah]<;>omega) ⟨.int ys.length,H,I.tok _,⟨s.toks+1,by rw[Ah,hlen]⟩,q⟩
 . obtain⟨its,r',pl,hz⟩:=I.tuple hq
   have hlen:=r'.length
   exact len_tuple pl (by simp only[Ah]<;>omega) ⟨.int ys.length,H,I.tok _,⟨s.toks+1,by rw[Ah,hlen]⟩,q⟩
theorem oF:yJ X (.builtin "len") (fun xs H Q=>∃z,xs=[.str z]/\z.length<=AA/\Q (.int z.length) H):=by
 intro pins s σ H xs us Q I r h
 obtain⟨z,rfl,hz,q⟩:=h
 obtain⟨u,rfl,t,rfl⟩:=vals1 r
 have hn:=uF
 exact len_str (by omega) ⟨.int z.length,H,I.tok _,⟨_,rfl⟩,q⟩
theorem v7:yJ X (.type "tuple") (fun xs H Q=>∃p ys,xs=[.ref p]/\((SqL X.K H p ys/\∀l,H l=none->Q (.ref l) (upd H l (.tup ys)))\/(SqT X.K H p ys/\Q (.ref p) H))):=by
 intro pins s σ H xs us Q I r h
 obtain⟨p,ys,rfl,h⟩:=h
 obtain⟨u,rfl,rx⟩:=vals1 r
 cases rx
 rcases h with⟨hq,q⟩|⟨hq,q⟩
 . obtain⟨its,r',pl,hz⟩:=I.list hq
   have hlen:=r'.length
   refine call_tuple_list pl.isList (fun h' kp=>?_) (by simp only[Ah]<;>omega)
   have I1:Inv X pins σ H {s with heap:=h'}:=I.kept (t':=s.toks) kp
   have I2:Inv X pins σ (upd H h'.objs.size (.tup ys)) {s with heap:=h'.push {cls:=.type "tuple",data:=.seq its.toArray}}:=
    I1.laid (t':=s.toks) (fun b o e=>Ad _ e) (Ag _) (show yB X.prog X.w _ _ _ (.tup ys) from ⟨hz,its,r',tF.new _ _⟩)
   exact⟨.ref h'.objs.size,_,I2,rfl,q _ (I1.hok.fresh (Ag _))⟩
 . obtain⟨its,r',pl,hz⟩:=I.tuple hq
   exact call_tuple_same pl ⟨.ref p,H,I,rfl,q⟩
def tyV(K:Af)(T:String)(x:V)(H:Hp):Prop:=match x with
 |.str _=>T="str"
 |.int _=>T="int"
 |.ref p=>(T="list"/\∃xs,SqL K H p xs)\/(T="tuple"/\∃o,K.lookup p=some o/\o.cls=.type "tuple"/\o.dict=none) \/
  (T="dict"/\((∃kvs,H p=some (.dK kvs))\/∃kvs,H p=some (.dT kvs)))\/(T="set"/\∃S n,H p=some (.set S n))
 |_=>False
theorem UG{pins:List (Addr × Obj)}{σ:St}{H:Hp}{s:Shared}{T:String}{x:V}{v:Value}(I:Inv X pins σ H s)(r:RelV x v)(ty:tyV X.K T x H) :
 s.TypeIs v T/\∀a,v=.ref a->∃ob,s.heap.get? a=some ob/\ob.dict=none:=by
 cases x with
 |str z=>
  obtain⟨t,rfl⟩:=r
  cases (show T="str" from ty)
  exact⟨typeIs_str s z t,fun _ e=>nomatch e⟩
 |int i=>
  obtain⟨t,rfl⟩:=r
  cases (show T="int" from ty)
  exact⟨Dc s i t,fun _ e=>nomatch e⟩
 |ref p=>
  cases r
  rcases ty with⟨rfl,xs,hq⟩|⟨rfl,o,hk,hc,hd⟩|⟨rfl,hk⟩|⟨rfl,S,n,hk⟩
  . obtain⟨its,_,pl,_⟩:=I.list hq
    refine⟨pl.isList.typeIs,fun a e=>?_⟩
    cases e
    obtain⟨o,n,e,c,hd,_⟩:=pl
    exact⟨o,e,hd⟩
  . refine⟨⟨o,I.kIn p o hk,hc⟩,fun a e=>?_⟩
    cases e
    exact⟨o,I.kIn _ o hk,hd⟩
  . have z:∃o,s.heap.get? p=some o/\o.ExactDict:=by
     rcases hk with⟨kvs,hk⟩|⟨kvs,hk⟩
     . obtain⟨_,_,_,_,o,_,_,e,ex,_⟩:=I.hok p _ hk
       exact⟨o,e,ex⟩
     . obtain⟨_,_,_,_,o,_,_,e,ex,_⟩:=I.hok p _ hk
       exact⟨o,e,ex⟩
    obtain⟨o,e,ex⟩:=z
    refine⟨⟨o,e,ex.1⟩,fun a e2=>?_⟩
    cases e2
    exact⟨o,e,ex.2.1⟩
  . obtain⟨o,_,_,_,e,ex,_⟩:=I.hok p _ hk
    refine⟨⟨o,e,ex.1⟩,fun a e2=>?_⟩
    cases e2
    exact⟨o,e,ex.2.1⟩
 |_=>exact AF ty
noncomputable def tBM(K:Af)(T:String)(r:V->List V->Hp->VK->Prop)(to:TE)(t:TA):TE:=fun σ H Q=>to σ H fun x H1=>tyV K T x H1/\t σ H1 fun xs H2=>r x xs H2 Q
variable {o e:Expr}{es:List Expr}{to:TE}{t:TA}{name:Str}{apos cpos:Pos}{T id:String}{r:V->List V->Hp->VK->Prop}
theorem bD(pa:PlainAttrs T)(slot:Slot T name id)(hty:typeOf (.builtin id)=pure (.type "method_descriptor"))(hm:MtR X id r)(ho:PE X o to)(ha:PA X (e::es) t)
 (hbase:DB o name X.env (eval o X.env)=eval o X.env:=by rfl)
 (hfew:((backTo cpos (AM (e::es) X.env)).all (fun x=>!x.1)&&(backToKw cpos (keywordEach [] X.env)).all (fun x=>x.1.isSome)
  && decide ((e::es).length+([]:List Keyword).length+(if ([]:List Keyword).isEmpty then 0 else 1)<30))=true:=by rfl)
 (hline:(apos.endLine == cpos.line)=true:=by rfl) (hs:AM (e::es) X.env=(false,eval e X.env)::AM es X.env:=by rfl) (hplain:(backTo cpos (AM es X.env)).any (·.1)=false:=by rfl) :
 PE X (.Call (.Attribute o name apos) (e::es) [] cpos) (tBM X.K T r to t):=by
 intro pins s σ H Q I h
 refine wpAny_Call_method_late hbase hfew hline rfl (thn (ho pins s σ H _ I h) fun v s1 ⟨x,H1,I1,r1,ty,q1⟩=>?_)
 obtain⟨h1,h2⟩:=UG I1 r1 ty
 refine⟨T,id,pa,slot,hty,h1,h2,?_⟩
 have hA:=ha cpos pins s1 σ H1 _ I1 q1
 rw[hs]at hA ⊢
 refine Calls.callWith_builtin (by show (false||(backTo cpos (AM es X.env)).any (·.1))=false;rw[hplain]<;>rfl) (Calls.evalArgs_plain ?_)
 exact thn hA fun us s2 ⟨vs,H2,I2,r2,q2⟩=>hm pins s2 σ H2 x vs v us Q I2 r1 r2 q2
/- xs.append(e),list.index on a module's tuple .. are MtR facts of 06m -/
end
end L2
namespace L2
open PySem PySem.Spec PyProof.Rows
def MtM(X:Cx)(id:String)(r:V->List V->Hp->VK->Prop):Prop:=
 ∀(pins:List (Addr × Obj)) (s:Shared) (σ:St) (H:Hp) (x:V) (xs:List V) (v:Value) (us:List Value) (Q:VK),Inv X pins σ H s->RelV x v->Vals xs us->r x xs H Q ->
  wpAny (model X.prog X.w) X.A (call (.builtin id) (v::us)) (EP X pins σ Q) X.xe s
theorem Vals.one:∀{x:V} {us:List Value},Vals [x] us->∃u,us=[u]/\RelV x u
 |_,_,.cons r .nil=>⟨_,rfl,r⟩
theorem Vals.rep{xs:List V}{us:List Value}(h:Vals xs us):∀k:Nat,Vals (Az k xs).flatten (Az k us).flatten
 |0=>.nil
 |k+1=>by
  rw[BQ,BQ,Cp,Cp]
  exact Vals.append h (Vals.rep h k)
theorem foldl_rep(its:List Value):∀(k:Nat) (acc:List Value),
 D5 (fun x1 x2=>x1++x2) acc.toArray (Az k its.toArray)=(acc++(Az k its).flatten).toArray
 |0,acc=>by simp
 |k+1,acc=>by
  have e:acc.toArray++its.toArray=(acc++its).toArray:=by simp
  have e2:(acc++its)++(Az k its).flatten=acc++(Az (k+1) its).flatten:=by
   rw[BQ,Cp,Bj]
  rw[<-e2,<-foldl_rep its k (acc++its),<-e,BQ,Gz]
section
variable {X:Cx}{pins:List (Addr × Obj)}{σ:St}{H:Hp}{s:Shared}{l b:Addr}{xs ys zs:List V}
theorem Inv.RM{its its':List Value}{n:Nat}{f:Array Value->Array Value}{t':Nat}(I:Inv X pins σ H s)(hH:H l=some (.lst xs))
 (e:s.heap.get? l=some {cls:=.type "list",data:=.seq its.toArray n}) (hf:f its.toArray=its'.toArray) (hv:Vals ys its') (hz:ys.length<=AA) :
 Inv X pins σ (upd H l (.lst ys)) {s with heap:=s.heap.update l (F0 f),toks:=t'}:=by
 have q:=PySem.IsL.update e f
 rw[hf]at q
 refine I.write (x:=l) (e:=l) (by rw[hH];exact trivial) (.inl rfl) (fun b' u hb hu=>(Bs s.heap (F0 f) (Bq hb)).trans hu) ⟨_,q⟩ ?_
 exact⟨hz,its',_,hv,q⟩
theorem Inv.TH{its:List Value}{t':Nat}(I:Inv X pins σ H s)(hv:Vals ys its)(hz:ys.length<=AA) :
 Inv X pins σ (upd H s.heap.objs.size (.lst ys)) {s with heap:=s.heap.push {cls:=.type "list",data:=.seq its.toArray},toks:=t'}:=
 I.laid (fun _ _ q=>Ad _ q) (Ag _) ⟨hz,its,0,hv,Ay _ rfl⟩
theorem Inv.fresh(I:Inv X pins σ H s):H s.heap.objs.size=none:=I.hok.fresh (Ag _)
theorem Inv.Zr(I:Inv X pins σ H s)(hH:H l=some (.lst xs)):xs.length<=AA/\∃(its:List Value) (n:Nat),Vals xs its/\xs.length=its.length/\s.heap.get? l=some {cls:=.type "list",data:=.seq its.toArray n}:=by
 obtain⟨z,its,n,r,e⟩:=I.hok l _ hH
 exact⟨z,its,n,r,r.length,e⟩
theorem cO{n:Nat}(h:n<=AA):DR n=false:=by
 unfold DR
 exact decide_eq_false (by omega)
end
section
variable {X:Cx}
noncomputable def j9:V->List V->Hp->VK->Prop:=fun x vs H Q=>∃l xs y,x=.ref l/\vs=[y]/\H l=some (.lst xs)/\xs.length<AA/\Q .non (upd H l (.lst (xs++[y])))
theorem pJ:MtM X "list.append" j9:=by
 intro pins s σ H x vs v us Q I rx rv h
 obtain⟨l,xs,y,rfl,rfl,hH,hz,q⟩:=h
 cases rx
 obtain⟨u,rfl,ru⟩:=rv.one
 obtain⟨z,its,n,r,hl,e⟩:=I.Zr hH
 refine CD F.slot_list_append ⟨_,e,rfl⟩ F.entry_list_append (F.args_list_append_2 _ _) (PySem.list_append l its.toArray n u (by rw[Ah];omega)) ⟨e,?_⟩
 refine⟨.non,_,I.RM (its':=its++[u]) hH e (by simp) (r.append (.cons ru .nil)) ?_,rfl,q⟩
 rw[Ap,BU]
 omega
noncomputable def YJ:R2:=fun x y H Q=>∃l b xs zs,x=.ref l/\y=.ref b/\H l=some (.lst xs)/\H b=some (.lst zs)/\xs.length+zs.length<=AA/\∀p,H p=none->Q (.ref p) (upd H p (.lst (xs++zs)))
theorem kB:OpR X (BB .Add) YJ:=by
 intro pins s σ H x y v u Q I rx ry h
 obtain⟨l,b,xs,zs,rfl,rfl,hH,hB,hz,q⟩:=h
 cases rx
 cases ry
 obtain⟨z,its,n,r,hl,e⟩:=I.Zr hH
 obtain⟨z2,its2,n2,r2,hl2,e2⟩:=I.Zr hB
 refine PySem.P.add_list e e2 ?_ (by rw[Ah,Ah];omega)
 have ea:its.toArray++its2.toArray=(its++its2).toArray:=by simp
 rw[ea]
 exact⟨.ref _,_,I.TH (t':=s.toks) (r.append r2) (by rw[Ap];omega),rfl,q _ I.fresh⟩
noncomputable def RX:R2:=fun x y H Q=>∃l k xs,x=.ref l/\y=.int k/\H l=some (.lst xs)∧-(2 ^ 63)<=k/\k<2 ^ 63/\xs.length*k.toNat<=AA /\
 ∀p,H p=none->Q (.ref p) (upd H p (.lst (Az k.toNat xs).flatten))
theorem len_rep{α:Type}(xs:List α)(k:Nat):(Az k xs).flatten.length=k*xs.length:=by
 induction k with
 |zero=>simp
 |succ k ih=>rw[BQ,Cp,Ap,ih,DS,Nat.add_comm]
theorem VF:OpR X (BB .Mult) RX:=by
 intro pins s σ H x y v u Q I rx ry h
 obtain⟨l,k,xs,rfl,rfl,hH,h1,h2,hz,q⟩:=h
 cases rx
 obtain⟨t,rfl⟩:=ry
 obtain⟨z,its,n,r,hl,e⟩:=I.Zr hH
 have hlen:its.toArray.size*k.toNat<=AA:=by rw[Ah,<-hl];exact hz
 have hcap:¬its.toArray.size*k.toNat > (2 ^ 63-1)/8:=by
  have:(AA:Nat)<=(2 ^ 63-1)/8:=by decide
  omega
 have hfit:¬(!Builtin.List.listFitsIndex k)=true:=by
  rw[fitsIndex_both h1 h2]
  exact Aj
 have hlong:¬DR (its.toArray.size*k.toNat)=true:=by
  rw[cO hlen]
  exact Aj
 have hnew:D5 (fun x1 x2=>x1++x2) #[] (Az (if its.toArray.isEmpty=true then 0 else k.toNat) its.toArray)=(Az k.toNat its).flatten.toArray:=by
  have f0:∀m:Nat,D5 (fun x1 x2=>x1++x2) #[] (Az m its.toArray)=(Az m its).flatten.toArray:=fun m=>by
   have:=foldl_rep its m []
   rw[DJ]at this
   exact this
  rw[f0]
  cases its with
  |nil=>simp
  |cons a r'=>rw[if_neg (by simp)]
 refine CW (T:="list") (U:="int") (by decide) ⟨_,e,rfl⟩ (fun s'=>Dc s' k t) noFill_list_mul EU Ck repeat_list Ez.lookup
  (CD Ck (Dc s k t) EA (Eg _ _) (int___rmul___int_list k t l its.toArray n)
   ⟨e,rfl,⟨_,e,rfl⟩,CD F.slot_list_mul ⟨_,e,rfl⟩ F.entry_list_mul (F.args_list_mul_2 _ _) (AutoListH.list___mul___list_int_3 l its.toArray n k t hfit hcap hlong) ⟨e,?_⟩⟩)
 rw[hnew]
 exact⟨.ref _,_,I.TH (t':=s.toks) (r.rep k.toNat) (by rw[len_rep,Nat.mul_comm];exact hz),rfl,q _ I.fresh⟩
end
end L2
namespace Att
open PySem PySem.W PySem.Calls PyProof.Rows
theorem sP{P:Params}{h:Heap}:∀(ns:List Int) (vs:List Value),WellAll P h vs (ns.map WData.int)->IntsAre vs ns:=by
 intro ns
 induction ns with
 |nil=>
  intro vs w
  rw[DT]at w
  cases w
  exact .nil
 |cons n ns ih=>
  intro vs w
  rw[AJ]at w
  cases w with
  |cons a b=>
   cases a
   exact .cons _ _ (ih _ b)
theorem gp{l:OpenLaw}{n:Nat}(hn:l.most=some n){P:Params}{h:Heap}{args:List WData}{vals:List Value}
 (hpre:l.row.toRowW.claim.pre args=true) (hwl:WellAll P h vals args) :
 ∃a vs ns,vals=[A1 a]/\args=[WData.list (ns.map WData.int)]/\h.get? a=some {cls:=.type "list",data:=.seq vs.toArray}/\IntsAre vs ns/\ns.length<=n:=by
 have hsh:WShape.hasAll [] args [.list .int]=true:=(pre_splitW hpre).1
 have hc:l.pre.holds [] {args:=args}=true:=(pre_splitW hpre).2
 obtain⟨d,r,rfl,h1,h2⟩:=hasAllW_cons hsh
 obtain rfl:=hasAllW_nil h2
 obtain⟨xs,rfl,h3⟩:=hasW_list h1
 obtain⟨ns,rfl⟩:=items_int h3
 have hlen:ns.length<=n:=by
  unfold OpenLaw.pre at hc
  have h4:(WTm.not (.lt (.lit (.int (n:Int))) (.len (.arg 0)))).holds [] {args:=[.list (ns.map .int)]}=true:=by
   have h4:=(holds_andW hc).1
   rw[hn]at h4
   exact h4
  have h5:=condW_of h4 (w_not (w_lt w_lit (w_len_list (w_arg rfl))))
  rw[Ai]at h5
  refine F7 fun q=>?_
  have q':(n:Int)<((ns.length:Nat):Int):=by omega
  first
   |(rw[decide_eq_true q']at h5;exact absurd h5 (by decide))
   |(simp at h5;omega)
 cases hwl with
 |cons w1 w2=>
  cases w2
  cases w1 with
  |list ho hall=>exact⟨_,_,ns,rfl,rfl,ho,sP ns _ hall,hlen⟩
theorem gc(l:OpenLaw)(args:List WData):l.row.toRowW.claim.post args (.bool true) args=true:=
 postW_of (r:=l.row.toRowW) (X:=(true == true))
  (show WShape.has [] (.bool true) .bool=true by first|rfl|decide|simp[WShape.has,WShape.arms,WShape.armsAll])
  (show (WTm.eq .res (.lit (.bool true))).value [] {args:=args,res:=some (.bool true),after:=args}=some (.bool (true == true)) from w_eq_bool (w_res rfl) w_lit) rfl
theorem nU{l:OpenLaw}{n:Nat}{q:Program}{loose:List Str}{XP:(Str->Option Value)->Heap->Prop}{YP:World->Heap->Prop}{d:DefRec}
 (hn:l.most=some n) (hdf:d.params.defaults=[])
 (call:∀(w:World) (s₀ s₁:Shared) (mg mb:Str->Option Value) (fa:Addr) (o:Obj) (pm cd doc:Value) (a:Addr) (vs:List Value) (ns:List Int),
  Ground q loose [] XP w s₀ mg mb s₁.heap->YP w s₁.heap ->
  s₁.heap.get? fa=some o->o.data=.func (docDef d.name d.params d.body d.scope pm cd doc)->s₁.heap.CodeRec cd d.name->mg d.name=some (.ref fa) ->
  s₁.heap.get? a=some {cls:=.type "list",data:=.seq vs.toArray}->IntsAre vs ns->ns.length<=n->s₁.gens=#[] ->
  codeAny (model l.prog w) callerA (.call (.ref fa) ⟨[.ref a],[]⟩) (fun r s'=>r=.ok (.ret (.bool true))/\OldK s₁.heap s'.heap/\s'.os=s₁.os/\AllBare s'.gens) s₁) :
 WalkO q loose XP YP l.row.toRowW d [] (fun f vs=>PySem.call f vs):=by
 intro w s₀ s₁ mg mb G Y fa o pm cd doc dV kV ho hd hcd hD hmg hg args vals as hpre hlay hrd hwl hlo
 obtain rfl:dV=.none:=Dflts.none hD hdf
 obtain rfl:kV=.none:=Dflts.noKw hD
 obtain⟨a,vs,ns,rfl,rfl,hobj,hints,hlen⟩:=gp hn hpre hwl
 refine enter_call (CI (call w s₀ s₁ mg mb fa o pm cd doc a vs ns G Y ho (fd_plain hd) hcd hmg hobj hints hlen hg) fun r s' hq=>?_)
 obtain⟨rfl,h2,h3,h4⟩:=hq
 exact⟨.inl ⟨.bool true,.bool true,[],rfl,fun _=>rfl,.bool true,gc l _,fun _=>⟨FR,fun _ hm=>(nomatch hm)⟩⟩,h2,h3,h4⟩
end Att
namespace L2
open PySem PySem.Spec PyProof.Rows
theorem pZ:∀{vs:List Value} {ns:List Int},IntsAre vs ns->Vals (ns.map V.int) vs
 |_,_,.nil=>.nil
 |_,_,.cons n t h=>.cons ⟨t,rfl⟩ (pZ h)
end L2
namespace L2
open PySem PySem.Spec PyProof.Rows
end L2
/- THE LAST THEOREM (shape;LID,My.* are yours):
   My.Adr: a structure of the addresses that your layer names (classes,functions);My.Txt K t: a structure (Prop) of the equations over K;
   My.txt_mk:{K} {implicit addresses ..} (e1:nsIn K AN "law"=some (some (.ref f))) (e2:K.lookup f=some ⟨oc,od,.func (fnOf "law" "law" params body scope dV kV doc pm an cdv ct),sl⟩) (e3:codeIn K cdv "law"=true) ..:∃t,My.Txt K t
(the tactic k_is has no namespace: write k_is) -/
namespace L2
open PySem PySem.Spec PyProof.Rows
noncomputable def xR(s:Stmt):BV:=match s with
 |.FunctionDef _ a _ _ _ _ _ _ _ _=>a
 |_=>{posonlyargs:=[],args:=[],vararg:=none,kwonlyargs:=[],kw_defaults:=[],kwarg:=none,defaults:=[]}
noncomputable def yU(s:Stmt):List Stmt:=match s with
 |.FunctionDef _ _ b _ _ _ _ _ _ _=>b
 |_=>[]
noncomputable def zG(s:Stmt):Scope:=match s with
 |.FunctionDef _ _ _ _ _ _ sc _ _ _=>sc
 |_=>{kind:=.function,names:=[],isGenerator:=false,isCoroutine:=false}
noncomputable abbrev CX0:CXT:=fun _ _ _ _ _ _=>False
noncomputable abbrev E0:XK:=fun _ _ _=>False
theorem XS{X:Cx}:Passes CX0 X E0:=fun _ _ _ _ _ _ _ h=>h.elim
structure Fun(K:Af)(x qual:Str)(st:Stmt)(f:Addr)(fd:Bu):Prop where
 ex:∃(oc:Value) (od:Option Addr) (kV doc pm:Value) (an:Option Addr) (cdv ct:Value) (osl:Array (Option Value)),
  fd=BM x qual (xR st) (yU st) (zG st) .none kV doc pm an cdv ct/\K.lookup f=some ⟨oc,od,.func fd,osl⟩/\BZ K cdv qual=true
 kp:B7 K (.ref f)=true
section
variable {P:Program}{w:World}{K:Af}{mg:Str->Option Value}{base:Heap}
theorem Fun.binds{x qual:Str}{st:Stmt}{f:Addr}{fd:Bu}{ps:List Str}(F:Fun K x qual st f fd)
 (h:∀(kV doc pm:Value) (an:Option Addr) (cdv ct:Value) (us:List Value),us.length=ps.length->GU (BM x qual (xR st) (yU st) (zG st) .none kV doc pm an cdv ct) ⟨us,[]⟩=pure (ps.zip us)):Binds K fd ps []:=by
 obtain⟨oc,od,kV,doc,pm,an,cdv,ct,osl,rfl,lk,hcd⟩:=F.ex
 exact .all (h kV doc pm an cdv ct)
theorem WC{x qual:Str}{st:Stmt}{f:Addr}{oc:Value}{od an:Option Addr}{osl:Array (Option Value)}{kV doc pm cdv ct:Value}(l:K.lookup f=some ⟨oc,od,.func (BM x qual (xR st) (yU st) (zG st) .none kV doc pm an cdv ct),osl⟩)
 (c:BZ K cdv qual=true) (k:B7 K (.ref f)=true):Fun K x qual st f (BM x qual (xR st) (yU st) (zG st) .none kV doc pm an cdv ct):=⟨⟨oc,od,kV,doc,pm,an,cdv,ct,osl,rfl,l,c⟩,k⟩
end
theorem sR{A B:Prop}(h:B):if false=true then A else B:=by
 rw[if_neg Aj]
 exact h
theorem oW{A B:Prop}(h:A):if true=true then A else B:=by
 rw[if_pos rfl]
 exact h
def xt(H H':Hp):Prop:=∀b o,H b=some o->H' b=some o
theorem xt.refl(H:Hp):xt H H:=fun _ _ h=>h
theorem xt.trans{H H1 H2:Hp}(a:xt H H1)(b:xt H1 H2):xt H H2:=fun c o h=>b c o (a c o h)
end L2
end
section
namespace M
open PySem
noncomputable def el(a n:Nat)(f:a=n->Bool):Bool:=if h:a=n then f h else false
theorem zx{a n:Nat}{f:a=n->Bool}(h:el a n f=true):∃hc,f hc=true:=by
 unfold el at h
 by_cases hc:a=n
 . rw[dif_pos hc]at h;exact⟨hc,h⟩
 . rw[dif_neg hc]at h;cases h
noncomputable def Yz(e:Expr)(k:BoolOp->List Expr->Pos->Bool):Bool:=el e.ctorIdx 0 fun h=>Expr.BoolOp.elim (motive_1:=fun _=>Bool) e h k
theorem iY{e:Expr}{k:BoolOp->List Expr->Pos->Bool}(h:Yz e k=true):∃o xs p,e=.BoolOp o xs p/\k o xs p=true:=by
 obtain⟨hc,h⟩:=zx h
 obtain⟨o,xs,p,rfl⟩:∃o xs p,e=.BoolOp o xs p:=Expr.BoolOp.elim (motive_1:=fun e=>∃o xs p,e=Expr.BoolOp o xs p) e hc fun o xs p=>⟨o,xs,p,rfl⟩
 exact⟨o,xs,p,rfl,h⟩
noncomputable def Ub(e:Expr)(k:Expr->Operator->Expr->Pos->Bool):Bool:=el e.ctorIdx 2 fun h=>Expr.BinOp.elim (motive_1:=fun _=>Bool) e h k
theorem nq{e:Expr}{k:Expr->Operator->Expr->Pos->Bool}(h:Ub e k=true):∃l o r p,e=.BinOp l o r p/\k l o r p=true:=by
 obtain⟨hc,h⟩:=zx h
 obtain⟨l,o,r,p,rfl⟩:∃l o r p,e=.BinOp l o r p:=Expr.BinOp.elim (motive_1:=fun e=>∃l o r p,e=Expr.BinOp l o r p) e hc fun l o r p=>⟨l,o,r,p,rfl⟩
 exact⟨l,o,r,p,rfl,h⟩
noncomputable def eUn(e:Expr)(k:UnaryOp->Expr->Pos->Bool):Bool:=el e.ctorIdx 3 fun h=>Expr.UnaryOp.elim (motive_1:=fun _=>Bool) e h k
theorem ZH{e:Expr}{k:UnaryOp->Expr->Pos->Bool}(h:eUn e k=true):∃o x p,e=.UnaryOp o x p/\k o x p=true:=by
 obtain⟨hc,h⟩:=zx h
 obtain⟨o,x,p,rfl⟩:∃o x p,e=.UnaryOp o x p:=Expr.UnaryOp.elim (motive_1:=fun e=>∃o x p,e=Expr.UnaryOp o x p) e hc fun o x p=>⟨o,x,p,rfl⟩
 exact⟨o,x,p,rfl,h⟩
noncomputable def Uh(e:Expr)(k:BV->Expr->Scope->Pos->Bool):Bool:=el e.ctorIdx 4 fun h=>Expr.Lambda.elim (motive_1:=fun _=>Bool) e h k
theorem eN{e:Expr}{k:BV->Expr->Scope->Pos->Bool}(h:Uh e k=true):∃a b c p,e=.Lambda a b c p/\k a b c p=true:=by
 obtain⟨hc,h⟩:=zx h
 obtain⟨a,b,c,p,rfl⟩:∃a b c p,e=.Lambda a b c p:=Expr.Lambda.elim (motive_1:=fun e=>∃a b c p,e=Expr.Lambda a b c p) e hc fun a b c p=>⟨a,b,c,p,rfl⟩
 exact⟨a,b,c,p,rfl,h⟩
noncomputable def Ug(e:Expr)(k:Expr->Expr->Expr->Pos->Bool):Bool:=el e.ctorIdx 5 fun h=>Expr.IfExp.elim (motive_1:=fun _=>Bool) e h k
theorem eM{e:Expr}{k:Expr->Expr->Expr->Pos->Bool}(h:Ug e k=true):∃t x y p,e=.IfExp t x y p/\k t x y p=true:=by
 obtain⟨hc,h⟩:=zx h
 obtain⟨t,x,y,p,rfl⟩:∃t x y p,e=.IfExp t x y p:=Expr.IfExp.elim (motive_1:=fun e=>∃t x y p,e=Expr.IfExp t x y p) e hc fun t x y p=>⟨t,x,y,p,rfl⟩
 exact⟨t,x,y,p,rfl,h⟩
noncomputable def Ud(e:Expr)(k:List (Option Expr)->List Expr->Pos->Bool):Bool:=el e.ctorIdx 6 fun h=>Expr.Dict.elim (motive_1:=fun _=>Bool) e h k
theorem eJ{e:Expr}{k:List (Option Expr)->List Expr->Pos->Bool}(h:Ud e k=true):∃ks vs p,e=.Dict ks vs p/\k ks vs p=true:=by
 obtain⟨hc,h⟩:=zx h
 obtain⟨ks,vs,p,rfl⟩:∃ks vs p,e=.Dict ks vs p:=Expr.Dict.elim (motive_1:=fun e=>∃ks vs p,e=Expr.Dict ks vs p) e hc fun ks vs p=>⟨ks,vs,p,rfl⟩
 exact⟨ks,vs,p,rfl,h⟩
noncomputable def Uc(e:Expr)(k:Expr->List C9->Scope->Pos->Bool):Bool:=el e.ctorIdx 8 fun h=>Fp (motive_1:=fun _=>Bool) e h k
theorem eI{e:Expr}{k:Expr->List C9->Scope->Pos->Bool}(h:Uc e k=true):∃x gs sc p,e=.ListComp x gs sc p/\k x gs sc p=true:=by
 obtain⟨hc,h⟩:=zx h
 obtain⟨x,gs,sc,p,rfl⟩:∃x gs sc p,e=.ListComp x gs sc p:=Fp (motive_1:=fun e=>∃x gs sc p,e=Expr.ListComp x gs sc p) e hc fun x gs sc p=>⟨x,gs,sc,p,rfl⟩
 exact⟨x,gs,sc,p,rfl,h⟩
noncomputable def X7(e:Expr)(k:Expr->List CmpOp->List Expr->Pos->Bool):Bool:=el e.ctorIdx 15 fun h=>FT (motive_1:=fun _=>Bool) e h k
theorem nt{e:Expr}{k:Expr->List CmpOp->List Expr->Pos->Bool}(h:X7 e k=true):∃l os rs p,e=.Compare l os rs p/\k l os rs p=true:=by
 obtain⟨hc,h⟩:=zx h
 obtain⟨l,os,rs,p,rfl⟩:∃l os rs p,e=.Compare l os rs p:=FT (motive_1:=fun e=>∃l os rs p,e=Expr.Compare l os rs p) e hc fun l os rs p=>⟨l,os,rs,p,rfl⟩
 exact⟨l,os,rs,p,rfl,h⟩
noncomputable def eH(e:Expr)(k:Expr->List Expr->List Keyword->Pos->Bool):Bool:=el e.ctorIdx 16 fun h=>Expr.Call.elim (motive_1:=fun _=>Bool) e h k
theorem pD{e:Expr}{k:Expr->List Expr->List Keyword->Pos->Bool}(h:eH e k=true):∃f xs ks p,e=.Call f xs ks p/\k f xs ks p=true:=by
 obtain⟨hc,h⟩:=zx h
 obtain⟨f,xs,ks,p,rfl⟩:∃f xs ks p,e=.Call f xs ks p:=Expr.Call.elim (motive_1:=fun e=>∃f xs ks p,e=Expr.Call f xs ks p) e hc fun f xs ks p=>⟨f,xs,ks,p,rfl⟩
 exact⟨f,xs,ks,p,rfl,h⟩
noncomputable def Ue(e:Expr)(k:Expr->Int->Option Expr->Pos->Bool):Bool:=el e.ctorIdx 17 fun h=>F8 (motive_1:=fun _=>Bool) e h k
theorem eL{e:Expr}{k:Expr->Int->Option Expr->Pos->Bool}(h:Ue e k=true):∃x c s p,e=.FormattedValue x c s p/\k x c s p=true:=by
 obtain⟨hc,h⟩:=zx h
 obtain⟨x,c,s,p,rfl⟩:∃x c s p,e=.FormattedValue x c s p:=F8 (motive_1:=fun e=>∃x c s p,e=Expr.FormattedValue x c s p) e hc fun x c s p=>⟨x,c,s,p,rfl⟩
 exact⟨x,c,s,p,rfl,h⟩
noncomputable def eJn(e:Expr)(k:List Expr->Pos->Bool):Bool:=el e.ctorIdx 18 fun h=>GK.elim (motive_1:=fun _=>Bool) e h k
theorem ZA{e:Expr}{k:List Expr->Pos->Bool}(h:eJn e k=true):∃xs p,e=.JoinedStr xs p/\k xs p=true:=by
 obtain⟨hc,h⟩:=zx h
 obtain⟨xs,p,rfl⟩:∃xs p,e=.JoinedStr xs p:=GK.elim (motive_1:=fun e=>∃xs p,e=GK xs p) e hc fun xs p=>⟨xs,p,rfl⟩
 exact⟨xs,p,rfl,h⟩
noncomputable def a0(e:Expr)(k:Const->Nat->Pos->Bool):Bool:=el e.ctorIdx 19 fun h=>G4.elim (motive_1:=fun _=>Bool) e h k
theorem rS{e:Expr}{k:Const->Nat->Pos->Bool}(h:a0 e k=true):∃c n p,e=.Constant c n p/\k c n p=true:=by
 obtain⟨hc,h⟩:=zx h
 obtain⟨c,n,p,rfl⟩:∃c n p,e=.Constant c n p:=G4.elim (motive_1:=fun e=>∃c n p,e=G4 c n p) e hc fun c n p=>⟨c,n,p,rfl⟩
 exact⟨c,n,p,rfl,h⟩
noncomputable def Ua(e:Expr)(k:Expr->Str->Pos->Bool):Bool:=el e.ctorIdx 20 fun h=>GL.elim (motive_1:=fun _=>Bool) e h k
theorem eG{e:Expr}{k:Expr->Str->Pos->Bool}(h:Ua e k=true):∃o x p,e=.Attribute o x p/\k o x p=true:=by
 obtain⟨hc,h⟩:=zx h
 obtain⟨o,x,p,rfl⟩:∃o x p,e=.Attribute o x p:=GL.elim (motive_1:=fun e=>∃o x p,e=GL o x p) e hc fun o x p=>⟨o,x,p,rfl⟩
 exact⟨o,x,p,rfl,h⟩
noncomputable def ZF(e:Expr)(k:Expr->Expr->Pos->Bool):Bool:=el e.ctorIdx 21 fun h=>GN.elim (motive_1:=fun _=>Bool) e h k
theorem rT{e:Expr}{k:Expr->Expr->Pos->Bool}(h:ZF e k=true):∃l r p,e=.Subscript l r p/\k l r p=true:=by
 obtain⟨hc,h⟩:=zx h
 obtain⟨l,r,p,rfl⟩:∃l r p,e=.Subscript l r p:=GN.elim (motive_1:=fun e=>∃l r p,e=GN l r p) e hc fun l r p=>⟨l,r,p,rfl⟩
 exact⟨l,r,p,rfl,h⟩
noncomputable def eName(e:Expr)(k:Str->Pos->Bool):Bool:=el e.ctorIdx 23 fun h=>EG.elim (motive_1:=fun _=>Bool) e h k
theorem y0{e:Expr}{k:Str->Pos->Bool}(h:eName e k=true):∃x p,e=.Name x p/\k x p=true:=by
 obtain⟨hc,h⟩:=zx h
 obtain⟨x,p,rfl⟩:∃x p,e=.Name x p:=EG.elim (motive_1:=fun e=>∃x p,e=EG x p) e hc fun x p=>⟨x,p,rfl⟩
 exact⟨x,p,rfl,h⟩
noncomputable def Ui(e:Expr)(k:List Expr->Pos->Bool):Bool:=el e.ctorIdx 24 fun h=>Expr.List.elim (motive_1:=fun _=>Bool) e h k
theorem nu{e:Expr}{k:List Expr->Pos->Bool}(h:Ui e k=true):∃xs p,e=.List xs p/\k xs p=true:=by
 obtain⟨hc,h⟩:=zx h
 obtain⟨xs,p,rfl⟩:∃xs p,e=.List xs p:=Expr.List.elim (motive_1:=fun e=>∃xs p,e=Expr.List xs p) e hc fun xs p=>⟨xs,p,rfl⟩
 exact⟨xs,p,rfl,h⟩
noncomputable def ZG(e:Expr)(k:List Expr->Nat->Pos->Bool):Bool:=el e.ctorIdx 25 fun h=>GA (motive_1:=fun _=>Bool) e h k
theorem uZ{e:Expr}{k:List Expr->Nat->Pos->Bool}(h:ZG e k=true):∃xs n p,e=.Tuple xs n p/\k xs n p=true:=by
 obtain⟨hc,h⟩:=zx h
 obtain⟨xs,n,p,rfl⟩:∃xs n p,e=.Tuple xs n p:=GA (motive_1:=fun e=>∃xs n p,e=Expr.Tuple xs n p) e hc fun xs n p=>⟨xs,n,p,rfl⟩
 exact⟨xs,n,p,rfl,h⟩
noncomputable def Uj(e:Expr)(k:Option Expr->Option Expr->Option Expr->Pos->Bool):Bool:=el e.ctorIdx 26 fun h=>Expr.Slice.elim (motive_1:=fun _=>Bool) e h k
theorem eO{e:Expr}{k:Option Expr->Option Expr->Option Expr->Pos->Bool}(h:Uj e k=true):∃x y z p,e=.Slice x y z p/\k x y z p=true:=by
 obtain⟨hc,h⟩:=zx h
 obtain⟨x,y,z,p,rfl⟩:∃x y z p,e=.Slice x y z p:=Expr.Slice.elim (motive_1:=fun e=>∃x y z p,e=Expr.Slice x y z p) e hc fun x y z p=>⟨x,y,z,p,rfl⟩
 exact⟨x,y,z,p,rfl,h⟩
noncomputable def SR(e:Stmt)(k:Option Expr->Pos->Bool):Bool:=el e.ctorIdx 3 fun h=>Stmt.Return.elim (motive_2:=fun _=>Bool) e h k
theorem my{e:Stmt}{k:Option Expr->Pos->Bool}(h:SR e k=true):∃o p,e=.Return o p/\k o p=true:=by
 obtain⟨hc,h⟩:=zx h
 obtain⟨o,p,rfl⟩:∃o p,e=.Return o p:=Stmt.Return.elim (motive_2:=fun e=>∃o p,e=Stmt.Return o p) e hc fun o p=>⟨o,p,rfl⟩
 exact⟨o,p,rfl,h⟩
noncomputable def YM(e:Stmt)(k:List Expr->Expr->Pos->Bool):Bool:=el e.ctorIdx 5 fun h=>Stmt.Assign.elim (motive_2:=fun _=>Bool) e h k
theorem uy{e:Stmt}{k:List Expr->Expr->Pos->Bool}(h:YM e k=true):∃ts v p,e=.Assign ts v p/\k ts v p=true:=by
 obtain⟨hc,h⟩:=zx h
 obtain⟨ts,v,p,rfl⟩:∃ts v p,e=.Assign ts v p:=Stmt.Assign.elim (motive_2:=fun e=>∃ts v p,e=Stmt.Assign ts v p) e hc fun ts v p=>⟨ts,v,p,rfl⟩
 exact⟨ts,v,p,rfl,h⟩
noncomputable def SQ(e:Stmt)(k:Expr->Expr->List Stmt->List Stmt->Pos->Bool):Bool:=el e.ctorIdx 9 fun h=>Stmt.For.elim (motive_2:=fun _=>Bool) e h k
theorem bq{e:Stmt}{k:Expr->Expr->List Stmt->List Stmt->Pos->Bool}(h:SQ e k=true):∃t i b c p,e=.For t i b c p/\k t i b c p=true:=by
 obtain⟨hc,h⟩:=zx h
 obtain⟨t,i,b,c,p,rfl⟩:∃t i b c p,e=.For t i b c p:=Stmt.For.elim (motive_2:=fun e=>∃t i b c p,e=Stmt.For t i b c p) e hc fun t i b c p=>⟨t,i,b,c,p,rfl⟩
 exact⟨t,i,b,c,p,rfl,h⟩
noncomputable def sIf(e:Stmt)(k:Expr->List Stmt->List Stmt->Pos->Bool):Bool:=el e.ctorIdx 12 fun h=>Stmt.If.elim (motive_2:=fun _=>Bool) e h k
theorem iA{e:Stmt}{k:Expr->List Stmt->List Stmt->Pos->Bool}(h:sIf e k=true):∃c a b p,e=.If c a b p/\k c a b p=true:=by
 obtain⟨hc,h⟩:=zx h
 obtain⟨c,a,b,p,rfl⟩:∃c a b p,e=.If c a b p:=Stmt.If.elim (motive_2:=fun e=>∃c a b p,e=Stmt.If c a b p) e hc fun c a b p=>⟨c,a,b,p,rfl⟩
 exact⟨c,a,b,p,rfl,h⟩
noncomputable def sRs(e:Stmt)(k:Option Expr->Option Expr->Pos->Bool):Bool:=el e.ctorIdx 16 fun h=>Stmt.Raise.elim (motive_2:=fun _=>Bool) e h k
theorem YN{e:Stmt}{k:Option Expr->Option Expr->Pos->Bool}(h:sRs e k=true):∃a b p,e=.Raise a b p/\k a b p=true:=by
 obtain⟨hc,h⟩:=zx h
 obtain⟨a,b,p,rfl⟩:∃a b p,e=.Raise a b p:=Stmt.Raise.elim (motive_2:=fun e=>∃a b p,e=Stmt.Raise a b p) e hc fun a b p=>⟨a,b,p,rfl⟩
 exact⟨a,b,p,rfl,h⟩
noncomputable def SN(e:Stmt)(k:Expr->Pos->Bool):Bool:=el e.ctorIdx 24 fun h=>Stmt.Expr.elim (motive_2:=fun _=>Bool) e h k
theorem mx{e:Stmt}{k:Expr->Pos->Bool}(h:SN e k=true):∃x p,e=.Expr x p/\k x p=true:=by
 obtain⟨hc,h⟩:=zx h
 obtain⟨x,p,rfl⟩:∃x p,e=.Expr x p:=Stmt.Expr.elim (motive_2:=fun e=>∃x p,e=Stmt.Expr x p) e hc fun x p=>⟨x,p,rfl⟩
 exact⟨x,p,rfl,h⟩
noncomputable def l1{α:Type}(xs:List α)(k:α->Bool):Bool:=match xs with
 |[x]=>k x
 |_=>false
theorem yf{α:Type}{xs:List α}{k:α->Bool}(h:l1 xs k=true):∃x,xs=[x]/\k x=true:=by
 cases xs with
 |nil=>cases h
 |cons x xs=>cases xs with
  |nil=>exact⟨x,rfl,h⟩
  |cons _ _=>cases h
noncomputable def lc{α:Type}(xs:List α)(k:α->List α->Bool):Bool:=match xs with
 |x::xs=>k x xs
 |[]=>false
theorem yV{α:Type}{xs:List α}{k:α->List α->Bool}(h:lc xs k=true):∃x ys,xs=x::ys/\k x ys=true:=by
 cases xs with
 |nil=>cases h
 |cons x ys=>exact⟨x,ys,rfl,h⟩
theorem d6{α:Type}{xs:List α}{k:α->α->Bool}(h:(lc xs fun x ys=>l1 ys (k x))=true):∃x y,xs=[x,y]/\k x y=true:=by
 obtain⟨x,ys,rfl,h⟩:=yV h
 obtain⟨y,rfl,h⟩:=yf h
 exact⟨x,y,rfl,h⟩
noncomputable def o1{α:Type}(x:Option α)(k:α->Bool):Bool:=match x with
 |some x=>k x
 |none=>false
theorem oi{α:Type}{x:Option α}{k:α->Bool}(h:o1 x k=true):∃y,x=some y/\k y=true:=by
 cases x with
 |none=>cases h
 |some x=>exact⟨x,rfl,h⟩
theorem zW{a b:Bool}(h:(a&&b)=true):a=true/\b=true:=by
 cases a with
 |false=>cases h
 |true=>exact⟨rfl,h⟩
noncomputable def eOp(u:UnaryOp)(e:Expr)(k:Expr->Bool):Bool:=eUn e fun o x _=>decide (o=u)&&k x
theorem sY{u:UnaryOp}{e:Expr}{k:Expr->Bool}(h:eOp u e k=true):∃x p,e=.UnaryOp u x p/\k x=true:=by
 obtain⟨o,x,p,rfl,h2⟩:=ZH h
 obtain⟨h1,h3⟩:=zW h2
 cases of_decide_eq_true h1
 exact⟨x,p,rfl,h3⟩
noncomputable def eBl(u:BoolOp)(e:Expr)(k:Expr->List Expr->Bool):Bool:=Yz e fun o xs _=>decide (o=u)&&lc xs k
theorem oJ{u:BoolOp}{e:Expr}{k:Expr->List Expr->Bool}(h:eBl u e k=true):∃x xs p,e=.BoolOp u (x::xs) p/\k x xs=true:=by
 obtain⟨o,xs,p,rfl,h2⟩:=iY h
 obtain⟨h1,h3⟩:=zW h2
 cases of_decide_eq_true h1
 obtain⟨x,ys,rfl,h4⟩:=yV h3
 exact⟨x,ys,p,rfl,h4⟩
noncomputable def eC1(e:Expr)(k:Expr->CmpOp->Expr->Bool):Bool:=X7 e fun l os rs _=>l1 os fun o=>l1 rs fun r=>k l o r
theorem oK{e:Expr}{k:Expr->CmpOp->Expr->Bool}(h:eC1 e k=true):∃l o r p,e=.Compare l [o] [r] p/\k l o r=true:=by
 obtain⟨l,os,rs,p,rfl,h⟩:=nt h
 obtain⟨o,rfl,h⟩:=yf h
 obtain⟨r,rfl,h⟩:=yf h
 exact⟨l,o,r,p,rfl,h⟩
noncomputable def eC2(e:Expr)(k:Expr->CmpOp->CmpOp->Expr->Expr->Bool):Bool:=X7 e fun l os rs _=>lc os fun o os=>l1 os fun o'=>lc rs fun r rs=>l1 rs fun r'=>k l o o' r r'
theorem jU{e:Expr}{k:Expr->CmpOp->CmpOp->Expr->Expr->Bool}(h:eC2 e k=true):∃l o o' r r' p,e=.Compare l [o,o'] [r,r'] p/\k l o o' r r'=true:=by
 obtain⟨l,os,rs,p,rfl,h⟩:=nt h
 obtain⟨o,os,rfl,h⟩:=yV h
 obtain⟨o',rfl,h⟩:=yf h
 obtain⟨r,rs,rfl,h⟩:=yV h
 obtain⟨r',rfl,h⟩:=yf h
 exact⟨l,o,o',r,r',p,rfl,h⟩
noncomputable def eD0(e:Expr):Bool:=Ud e fun ks vs _=>ks.isEmpty&&vs.isEmpty
theorem jV{e:Expr}(h:eD0 e=true):∃p,e=.Dict [] [] p:=by
 obtain⟨ks,vs,p,rfl,h⟩:=eJ h
 obtain⟨h1,h2⟩:=zW h
 rw[AY.mp h1,AY.mp h2]
 exact⟨p,rfl⟩
noncomputable def eCN(e:Expr)(k:Str->List Expr->Bool):Bool:=eH e fun f xs ks _=>ks.isEmpty&&eName f fun x _=>k x xs
theorem yn{e:Expr}{k:Str->List Expr->Bool}(h:eCN e k=true):∃x p xs pos,e=.Call (.Name x p) xs [] pos/\k x xs=true:=by
 obtain⟨f,xs,ks,pos,rfl,h⟩:=pD h
 obtain⟨h1,h⟩:=zW h
 obtain⟨x,p,rfl,h⟩:=y0 h
 rw[AY.mp h1]
 exact⟨x,p,xs,pos,rfl,h⟩
noncomputable def eMt(e:Expr)(k:Expr->Str->Pos->Expr->Pos->Bool):Bool:=eH e fun f xs ks cp=>ks.isEmpty&&Ua f fun ob x ap=>l1 xs fun y=>k ob x ap y cp
theorem ZC{e:Expr}{k:Expr->Str->Pos->Expr->Pos->Bool}(h:eMt e k=true):∃ob x ap y cp,e=.Call (.Attribute ob x ap) [y] [] cp/\k ob x ap y cp=true:=by
 obtain⟨f,xs,ks,pos,rfl,h⟩:=pD h
 obtain⟨h1,h⟩:=zW h
 obtain⟨ob,x,ap,rfl,h⟩:=eG h
 obtain⟨y,rfl,h⟩:=yf h
 rw[AY.mp h1]
 exact⟨ob,x,ap,y,pos,rfl,h⟩
noncomputable def eSS(e:Expr)(k:Expr->Option Expr->Option Expr->Option Expr->Bool):Bool:=ZF e fun l r _=>Uj r fun x y z _=>k l x y z
theorem ZD{e:Expr}{k:Expr->Option Expr->Option Expr->Option Expr->Bool}(h:eSS e k=true):∃l x y z p pos,e=.Subscript l (.Slice x y z p) pos/\k l x y z=true:=by
 obtain⟨l,r,pos,rfl,h⟩:=rT h
 obtain⟨x,y,z,p,rfl,h⟩:=eO h
 exact⟨l,x,y,z,p,pos,rfl,h⟩
noncomputable def gC(g:C9)(k:Expr->Expr->List Expr->Bool):Bool:=decide (g.is_async=0)&&k g.target g.iter g.ifs
theorem WD{g:C9}{k:Expr->Expr->List Expr->Bool}(h:gC g k=true):∃t i f,g=⟨t,i,f,0⟩/\k t i f=true:=by
 obtain⟨t,i,f,a⟩:=g
 obtain⟨h1,h⟩:=zW h
 have h1:a=0:=of_decide_eq_true h1
 subst h1
 exact⟨t,i,f,rfl,h⟩
noncomputable def eG1(e:Expr)(k:Expr->Expr->Expr->List Expr->Scope->Bool):Bool:=Uc e fun x gs sc _=>l1 gs fun g=>gC g fun t i f=>k x t i f sc
theorem jW{e:Expr}{k:Expr->Expr->Expr->List Expr->Scope->Bool}(h:eG1 e k=true):∃x t i f sc p,e=.ListComp x [⟨t,i,f,0⟩] sc p/\k x t i f sc=true:=by
 obtain⟨x,gs,sc,p,rfl,h2⟩:=eI h
 obtain⟨g,rfl,h3⟩:=yf h2
 obtain⟨t,i,f,rfl,h4⟩:=WD h3
 exact⟨x,t,i,f,sc,p,rfl,h4⟩
end M
end
section
namespace L2
open PySem PySem.Spec PyProof.Rows
noncomputable def vy(cells:List (Str × Addr)):List (Str × Bn)->List (Str × Addr)->List (Str × Addr)
 |[],acc=>acc
 |(n,k)::r,acc=>if k == .free then (match cells.lookup n with|some c=>vy cells r ((n,c)::acc)|none=>vy cells r acc) else vy cells r acc
theorem uB{env:Env}:∀(names:List (Str × Bn)) (acc:List (Str × Addr)),(∀x∈names,x.2=.free->∃c,env.cells.lookup x.1=some c) ->
 (forIn names acc fun(x:Str × Bn) (cs:List (Str × Addr))=>(if x.2 == .free then do let a <-cellOf env x.1;pure (Cm ((x.1,a)::cs)) else pure (Cm cs):Sem (ForInStep (List (Str × Addr)))))=pure (vy env.cells names acc)
 |[],acc,_=>rfl
 |(n,k)::r,acc,h=>by
  rw[EV]
  dsimp only
  unfold vy
  by_cases hk:(k == AK)=true
  . have hk':k=.free:=by simpa using hk
    obtain⟨c,hc⟩:=h (n,k) Av hk'
    have hc':env.cells.lookup n=some c:=hc
    have hcell:cellOf env n=pure c:=by unfold cellOf;rw[hc']
    rw[if_pos hk,if_pos hk,hcell,hc',EH,EH]
    exact uB r _ fun x hx=>h x (Ao _ hx)
  . rw[if_neg hk,if_neg hk,EH]
    exact uB r _ fun x hx=>h x (Ao _ hx)
theorem v8{scope:Scope}{env:Env}(h:∀x∈scope.names,x.2=.free->∃c,env.cells.lookup x.1=some c):GX scope env=pure (vy env.cells scope.names []):=by
 have e:=uB (env:=env) scope.names [] h
 show (do let cs <-forIn scope.names [] _;pure cs)=_
 refine GY ?_ e
 refine GY (bind_pure _) ?_
 congr 1
theorem uV{cells:List (Str × Addr)}:∀(names:List (Str × Bn)) (acc:List (Str × Addr)),(∀x c,acc.lookup x=some c->cells.lookup x=some c)->∀x c,(vy cells names acc).lookup x=some c->cells.lookup x=some c
 |[],acc,h,x,c,e=>h x c e
 |(n,k)::r,acc,h,x,c,e=>by
  unfold vy at e
  by_cases hk:(k == AK)=true
  . rw[if_pos hk]at e
    cases hc:cells.lookup n with
    |none=>rw[hc]at e;exact uV r acc h x c e
    |some d=>
     rw[hc]at e
     refine uV r _ (fun y z q=>?_) x c e
     rw[Au]at q
     cases hy:(y == n) with
     |true=>rw[hy]at q;have hy':y=n:=by simpa using hy
            cases q;rw[hy'];exact hc
     |false=>rw[hy]at q;exact h y z q
  . rw[if_neg hk]at e;exact uV r acc h x c e
theorem wc{cells:List (Str × Addr)}:∀(names:List (Str × Bn)) (acc:List (Str × Addr)) (x:Str) (c:Addr),cells.lookup x=some c->(acc.lookup x=some c\/(x,AK)∈names)->(∀y d,acc.lookup y=some d->cells.lookup y=some d)->(vy cells names acc).lookup x=some c
 |[],acc,x,c,_,h,_=>by
  rcases h with h|h
  . exact h
  . cases h
 |(n,k)::r,acc,x,c,hc,h,ha=>by
  unfold vy
  by_cases hk:(k == AK)=true
  . rw[if_pos hk]
    cases hn:cells.lookup n with
    |none=>
     refine wc r acc x c hc ?_ ha
     rcases h with h|h
     . exact .inl h
     . rcases Al.mp h with e|e
       . cases e;rw[hn]at hc;cases hc
       . exact .inr e
    |some d=>
     have ha':∀y z,((n,d)::acc).lookup y=some z->cells.lookup y=some z:=fun y z q=>by
      rw[Au]at q
      cases hy:(y == n) with
      |true=>rw[hy]at q;have hy':y=n:=by simpa using hy
             cases q;rw[hy'];exact hn
      |false=>rw[hy]at q;exact ha y z q
     by_cases hx:x=n
     . subst hx
       refine wc r _ x c hc (.inl ?_) ha'
       rw[hn]at hc;cases hc
       simp[Au]
     . refine wc r _ x c hc ?_ ha'
       rcases h with h|h
       . refine .inl ?_
         have:(x == n)=false:=by simpa using hx
         rw[Au,this];exact h
       . rcases Al.mp h with e|e
         . cases e;exact absurd rfl hx
         . exact .inr e
  . rw[if_neg hk]
    refine wc r acc x c hc ?_ ha
    rcases h with h|h
    . exact .inl h
    . rcases Al.mp h with e|e
      . cases e;exact absurd (by decide) hk
      . exact .inr e
theorem uA:∀(names:List (Str × Bn)) (n:Nat) (acc:List (Str × Addr)),CJ n names acc=CJ n names []++acc
 |[],_,_=>rfl
 |(x,k)::r,n,acc=>by
  unfold CJ
  split
  . rw[uA r (n+1) ((x,n)::acc),uA r (n+1) [(x,n)],Bj];rfl
  . exact uA r n acc
theorem oI:∀(names:List (Str × Bn)) (n:Nat) {x:Str} {c:Addr},(x,c)∈CJ n names []->(x,Bo)∈names/\n<=c
 |[],_,_,_,h=>by cases h
 |(y,k)::r,n,x,c,h=>by
  unfold CJ at h
  split at h
  . rename_i hk
    rw[uA]at h
    rcases AO.mp h with h|h
    . obtain⟨h1,h2⟩:=oI r (n+1) h
      exact⟨Ao _ h1,by omega⟩
    . cases Aq.mp h
      have:k=.cell:=by simpa using hk
      rw[this]
      exact⟨Av,Ag _⟩
  . obtain⟨h1,h2⟩:=oI r n h
    exact⟨Ao _ h1,h2⟩
theorem oH:∀(names:List (Str × Bn)) (n:Nat) {x:Str},(x,Bo)∈names->∃c,(x,c)∈CJ n names []
 |[],_,_,h=>by cases h
 |(y,k)::r,n,x,h=>by
  unfold CJ
  rcases Al.mp h with e|h
  . cases e
    rw[if_pos (by rfl),uA]
    exact⟨n,AU _ Av⟩
  . split
    . obtain⟨c,hc⟩:=oH r (n+1) h
      rw[uA]
      exact⟨c,Bc _ hc⟩
    . exact oH r n h
theorem cI{l:List (Str × Addr)}{x:Str}{c:Addr}:(x,c)∈l->∃d,l.lookup x=some d:=by
 induction l with
 |nil=>intro h;cases h
 |cons p r ih=>
  intro h
  rw[Au]
  cases hx:x == p.1 with
  |true=>exact⟨_,rfl⟩
  |false=>
   rcases Al.mp h with e|h
   . rw[<-e]at hx;simp at hx
   . exact ih h
theorem ll{l m:List (Str × Addr)}{x:Str}:(l++m).lookup x=match l.lookup x with|some c=>some c|none=>m.lookup x:=by
 induction l with
 |nil=>rfl
 |cons p r ih=>
  rw[F9,Au,Au]
  cases hx:x == p.1 with
  |true=>rfl
  |false=>exact ih
noncomputable def wW(sc:Scope)(C:Addr):List (Str × Addr):=CJ (C+1) sc.names []
theorem Z4(h:Heap)(sc:Scope):∃h',CellsOk h' (h.objs.size+1) (wW sc h.objs.size):=by
 have ok:=cellsFrom_ok sc.names (h.push {cls:=.type "dict",data:=.dict #[]}) (h.objs.size+1) [] ⟨fun _ _ hm=>(nomatch hm),FR⟩ (by rw[A5];exact Ag _)
 rw[A5]at ok
 exact⟨_,ok⟩
noncomputable abbrev Cx.comp(X:Cx)(N:List Str)(sc:Scope)(C:Addr)(s:Shared)(H:Hp)(ex:List Addr):Cx:=
 {X with N:=N,s₀:=s,H₀:=H,env:=compEnvC sc (wW sc C++vy X.env.cells sc.names []) C X.env,outer:=X.stack,ex:=ex,fn:=fun x=>sc.names.any fun p=>decide (p=(x,Bo)),pn:=[],xe:=fun _ _=>False}
structure z7(X:Cx)(N:List Str)(sc:Scope)(fr:List (Option Nat)):Prop where
 kind:sc.kind=.function
 apart:∀x,(x,Bo)∈sc.names->(x,AK)∈sc.names->False
 locals:∀x∈sc.names,x.2=.local->sc.names.lookup x.1=some .local
 free:∀x∈sc.names,x.2=.free->X.env.kindOf x.1=some .cell\/X.env.kindOf x.1=some .free
 len:fr.length=N.length
 from_:∀(i j:Nat) (x:Str),N[i]?=some x->fr[i]?=some (some j)->X.N[j]?=some x/\(x,AK)∈sc.names
 one:∀x,sc.names.lookup x=some .local->(x,AK)∈sc.names->False
noncomputable def zT(fr:List (Option Nat))(σ:St):St:=fr.map fun o=>match o with|some j=>(σ[j]?).join|none=>none
theorem nD{sc:Scope}{env:Env}{x:Str}(h:(relabel sc env).names.lookup x=some .cell\/(relabel sc env).names.lookup x=some .free):(x,AK)∈sc.names\/(x,Bo)∈sc.names:=by
 have key:∀(names:List (Str × Bn)),((names.map fun(n,k)=>if (k == AK&&env.scope.kind == .function&&env.kindOf n == some .cell) then (n,Bo) else (n,k)).lookup x=some .cell \/
  (names.map fun(n,k)=>if (k == AK&&env.scope.kind == .function&&env.kindOf n == some .cell) then (n,Bo) else (n,k)).lookup x=some .free)->(x,AK)∈names\/(x,Bo)∈names:=by
  intro names
  induction names with
  |nil=>intro h;simp at h
  |cons p r ih=>
   obtain⟨n,k⟩:=p
   intro h
   rw[AJ]at h
   dsimp only at h
   by_cases hx:x=n
   . subst hx
     by_cases hf:k=.free
     . subst hf;exact .inl Av
     . have hf':(k == AK)=false:=by simpa using hf
       rw[hf']at h
       simp only[Dl,AV,if_false,Au,beq_self_eq_true]at h
       rcases h with h|h
       . cases h;exact .inr Av
       . cases h;exact absurd rfl hf
   . have hx':(x == n)=false:=by simpa using hx
     have:=ih (by split at h<;>simpa only[Au,hx'] using h)
     exact this.elim (fun z=>.inl (Ao _ z)) fun z=>.inr (Ao _ z)
 exact key sc.names h
theorem vB{sc:Scope}{env:Env}{x:Str}(h:sc.names.lookup x=some .cell):(relabel sc env).names.lookup x=some .cell:=by
 have key:∀(names:List (Str × Bn)),names.lookup x=some .cell->(names.map fun(n,k)=>if (k == AK&&env.scope.kind == .function&&env.kindOf n == some .cell) then (n,Bo) else (n,k)).lookup x=some .cell:=by
  intro names
  induction names with
  |nil=>intro h;simp at h
  |cons p r ih=>
   obtain⟨n,k⟩:=p
   intro h
   rw[AJ]
   dsimp only
   cases hx:(x == n) with
   |true=>
    rw[Au,hx]at h
    cases h
    have e:(Bo == AK)=false:=rfl
    rw[e]
    simp only[Dl,AV,if_false,Au,hx]
   |false=>
    rw[Au,hx]at h
    have:=ih h
    split<;>simpa only[Au,hx] using this
 exact key sc.names h
theorem uw{sc:Scope}{env:Env}{x:Str}(hl:∀y∈sc.names,y.2=.local->sc.names.lookup y.1=some .local)(h:sc.names.lookup x=some .free) :
 (relabel sc env).names.lookup x=some .cell\/(relabel sc env).names.lookup x=some .free:=by
 have key:∀(names:List (Str × Bn)),names.lookup x=some .free->((names.map fun(n,k)=>if (k == AK&&env.scope.kind == .function&&env.kindOf n == some .cell) then (n,Bo) else (n,k)).lookup x=some .cell \/
  (names.map fun(n,k)=>if (k == AK&&env.scope.kind == .function&&env.kindOf n == some .cell) then (n,Bo) else (n,k)).lookup x=some .free):=by
  intro names
  induction names with
  |nil=>intro h;simp at h
  |cons p r ih=>
   obtain⟨n,k⟩:=p
   intro h
   rw[AJ]
   dsimp only
   cases hx:(x == n) with
   |true=>
    rw[Au,hx]at h
    cases h
    split
    . left;simp only[Au,hx]
    . right;simp only[Au,hx]
   |false=>
    rw[Au,hx]at h
    have:=ih h
    split<;>simpa only[Au,hx] using this
 exact key sc.names h
section
variable {X:Cx}{pins:List (Addr × Obj)}{σ:St}{H:Hp}{s:Shared}{N:List Str}{sc:Scope}{fr:List (Option Nat)}{fp:List Addr}
theorem z7.cells(S:z7 X N sc fr)(ok:X.Ok):∀x∈sc.names,x.2=.free->∃c,X.env.cells.lookup x.1=some c:=fun x hx hk=>ok.has x.1 (S.free x hx hk)
theorem wb{sc:Scope}{C:Addr}{cells:List (Str × Addr)}{x:Str}{c:Addr}(h:(wW sc C++vy cells sc.names []).lookup x=some c):((wW sc C).lookup x=some c)\/((wW sc C).lookup x=none/\cells.lookup x=some c):=by
 rw[ll]at h
 cases ho:(wW sc C).lookup x with
 |some d=>rw[ho]at h;exact .inl h
 |none=>rw[ho]at h;exact .inr ⟨rfl,uV sc.names [] (fun x c e=>by simp at e) x c h⟩
theorem qJ{sc:Scope}{C:Addr}{x:Str}{c:Addr}(h:(wW sc C).lookup x=some c):@LE.le Nat _ (C+1) c:=(oI sc.names (C+1) (mem_of_lookup h)).2
theorem cj{X:Cx}{N:List Str}{sc:Scope}{fr:List (Option Nat)}{C:Addr}(S:z7 X N sc fr){x:Str}(h:(x,AK)∈sc.names):(wW sc C).lookup x=none:=by
 cases ho:(wW sc C).lookup x with
 |none=>rfl
 |some d=>exact(S.apart x (oI sc.names (C+1) (mem_of_lookup ho)).1 h).elim
theorem au(I:Inv X pins σ H s)(S:z7 X N sc fr)(hf:∀b∈fp,vx X pins H b)(hlt:∀b∈fp,b<s.heap.objs.size):(X.comp N sc s.heap.objs.size s H fp).Ok:=by
 obtain⟨h',hok⟩:=Z4 s.heap sc
 have old:∀x c,X.env.cells.lookup x=some c->@LT.lt Nat _ c s.heap.objs.size:=fun x c e=>by obtain⟨v,z⟩:=I.cell x c e;exact z.lt
 refine⟨I.ok.mod,S.kind,I.ok.glob,I.ok.blt,Ag _,fun x y c e1 e2=>?_,fun x h=>?_,fun x c h e=>?_,I.ok.hd,I.ok.frames,.inl rfl,fun b hb=>?_,fun b o e=>I.bs b o e,?_,fun b o e hb=>?_,fun b hb z=>?_,I.stack,I.nI⟩
 . rcases wb e1 with e1|⟨_,e1⟩<;>rcases wb e2 with e2|⟨_,e2⟩
   . exact name_of_addr hok.apart (mem_of_lookup e1) (mem_of_lookup e2)
   . exact absurd (AD (old _ _ e2) (Ax (Dg _) (qJ e1))) (Bg _)
   . exact absurd (AD (old _ _ e1) (Ax (Dg _) (qJ e2))) (Bg _)
   . exact I.ok.inj x y c e1 e2
 . show ∃c,(wW sc s.heap.objs.size++vy X.env.cells sc.names []).lookup x=some c
   rw[ll]
   rcases nD h with m|m
   . obtain⟨c,hc⟩:=S.cells I.ok (x,.free) m rfl
     rw[cj S m]
     exact⟨c,wc sc.names [] x c hc (.inr m) (fun y d e=>by simp at e)⟩
   . obtain⟨c,hc⟩:=oH sc.names (s.heap.objs.size+1) m
     obtain⟨d,hd⟩:=cI hc
     have hd':(wW sc s.heap.objs.size).lookup x=some d:=hd
     rw[hd']
     exact⟨d,rfl⟩
 . have m:(x,Bo)∈sc.names:=by
    obtain⟨p,hp,e'⟩:=BL.mp h
    rw[<-of_decide_eq_true e'];exact hp
   rcases wb e with e|⟨e,_⟩
   . exact Ax (Dg _) (qJ e)
   . obtain⟨c',hc⟩:=oH sc.names (s.heap.objs.size+1) m
     obtain⟨d,hd⟩:=cI hc
     have hd':(wW sc s.heap.objs.size).lookup x=some d:=hd
     rw[hd']at e;cases e
 . obtain⟨f0,f1,f2,f3,f4,f5⟩:=hf b hb
   refine⟨AB (hlt b hb),fun x c e=>?_⟩
   rcases wb e with e|⟨_,e⟩
   . exact fun z=>absurd (AD (z▸hlt b hb) (Ax (Dg _) (qJ e))) (Bg _)
   . exact f4 x c e
 . exact Ax I.ok.bsz I.sz
 . obtain⟨f0,f1,f2,f3,f4,f5⟩:=hf b hb
   rcases f3 with f3|f3
   . exact I.ok.noex b o e f3
   . exact absurd (AD (An e) (Ax I.ok.bsz f3)) (Bg _)
 . obtain⟨f0,f1,f2,f3,f4,f5⟩:=hf b hb
   rcases Al.mp (I.kZ b z) with e|e
   . exact f1 e
   . exact f2 e
theorem lT{h':Heap}{tk:Nat}(I:Inv X pins σ H s)(S:z7 X N sc fr)(hf:∀b∈fp,vx X pins H b)(hlt:∀b∈fp,b<s.heap.objs.size)
 (hns:h'.Ns s.heap.objs.size (fun _=>none)) (k:∀b o,s.heap.get? b=some o->h'.get? b=some o) (lX:∀x c,(wW sc s.heap.objs.size).lookup x=some c->h'.IsCell c none):Inv (X.comp N sc s.heap.objs.size s H fp) [] (zT fr σ) H {s with heap:=h',toks:=tk}:=by
 refine⟨au I S hf hlt,rfl,I.bare,Un.kept k,⟨_,hns,fun i x v e1 e2 e3=>?_⟩,fun x c e=>?_,I.hok.fresh (Ag _),fun x c e=>?_,fun p hp=>(by simp at hp),I.hok.kept k,?_⟩
 . have e2':(fr.map fun o=>match o with|some j=>(σ[j]?).join|none=>none)[i]?=some (some v):=e2
   rw[AQ]at e2'
   cases hfi:fr[i]? with
   |none=>rw[hfi]at e2';cases e2'
   |some o=>
    rw[hfi]at e2'
    cases o with
    |none=>cases e2'
    |some j=>
     obtain⟨n1,n2⟩:=S.from_ i j x e1 hfi
     have e3':σ[j]?=some (some v):=by
      have q:(σ[j]?).join=some v:=AG e2'
      cases hσ:σ[j]? with
      |none=>rw[hσ]at q;cases q
      |some w=>rw[hσ]at q;cases w with
       |none=>cases q
       |some w'=>have:w'=v:=AG q
                 rw[this]
     have hk:=S.free (x,.free) n2 rfl
     obtain⟨m,hn,hl⟩:=I.loc
     obtain⟨u,r,l⟩:=hl j x v n1 e3' (hk.elim (fun z=>.inr (.inl z)) fun z=>.inr (.inr z))
     refine⟨u,r,?_⟩
     rcases l with⟨hk',_⟩|⟨_,c,hc,z⟩
     . rcases hk with hk|hk<;>(rw[hk]at hk';cases hk')
     . refine .inr ⟨?_,c,(by show (wW sc s.heap.objs.size++vy X.env.cells sc.names []).lookup x=some c;rw[ll,cj S n2];exact wc sc.names [] x c hc (.inr n2) (fun y d e=>by simp at e)),?_⟩
       . rcases e3 with e3|e3|e3
         . -- a local of that name: cannot be,the name is free in the block
           exfalso
           have hloc:sc.names.lookup x=some .local:=by
            have key:∀(names:List (Str × Bn)),(names.map fun(n,k)=>if (k == AK&&X.env.scope.kind == .function&&X.env.kindOf n == some .cell) then (n,Bo) else (n,k)).lookup x=some .local->names.lookup x=some .local:=by
             intro names
             induction names with
             |nil=>intro h;simp at h
             |cons p r ih=>
              obtain⟨n,kk⟩:=p
              intro h
              rw[AJ]at h
              dsimp only at h
              cases hx:(x == n) with
              |true=>
               split at h
               . simp only[Au,hx]at h;cases h
               . simp only[Au,hx]at h ⊢;exact h
              |false=>
               rw[Au,hx]
               refine ih ?_
               split at h<;>simpa only[Au,hx] using h
            exact key sc.names e3
           exact S.one x hloc n2
         . exact .inl e3
         . exact .inr e3
       . obtain⟨o,ho,hd⟩:=z
         exact⟨o,k _ _ ho,hd⟩
 . rcases wb e with e|⟨_,e⟩
   . exact⟨none,lX x c e⟩
   . obtain⟨v,o,ho,hd⟩:=I.cell x c e
     exact⟨v,o,k _ _ ho,hd⟩
 . rcases wb e with e|⟨_,e⟩
   . exact I.hok.fresh (Ax (Dg _) (qJ e))
   . exact I.freeC x c e
 . show (fr.map _).length=N.length
   rw[Ai];exact S.len
end
end L2
end
section
namespace L2
open PySem PySem.Spec PyProof.Rows
noncomputable def nJ:List TT->TT
 |[]=>fun _ H Q=>Q true H
 |t::ts=>fun σ H Q=>t σ H fun c H1=>if c=true then nJ ts σ H1 Q else Q false H1
inductive PTs(X:Cx):List Expr->List TT->Prop
 |nil:PTs X [] []
 |cons {c:Expr} {cs:List Expr} {t:TT} {ts:List TT}:PT X c t->PTs X cs ts->PTs X (c::cs) (t::ts)
theorem sM{X:Cx}{Q:Bool->Shared->Prop}{E:Value->Shared->Prop}{s:Shared}(h:Q false s):∀cs:List Expr,
 wpAny (model X.prog X.w) X.A (forIn cs false fun c r=>if r=true then do let ok <-isTrue c X.env (eval c X.env);pure (Cm ok) else pure (Cm r)) Q E s
 |[]=>Am h
 |c::cs=>by
  rw[EV]
  exact Ac (Am (sM h cs))
theorem PTs.run{X:Cx}:∀{cs:List Expr} {ts:List TT},PTs X cs ts->∀{pins:List (Addr × Obj)} {s:Shared} {σ:St} {H:Hp} {Q:Bool->Hp->Prop},Inv X pins σ H s->nJ ts σ H Q ->
 wpAny (model X.prog X.w) X.A (forIn cs true fun c r=>if r=true then do let ok <-isTrue c X.env (eval c X.env);pure (Cm ok) else pure (Cm r)) (TP X pins σ Q) X.xe s
 |_,_,.nil,pins,s,σ,H,Q,I,h=>Am ⟨H,I,h⟩
 |_,_,.cons hc hs,pins,s,σ,H,Q,I,h=>by
  rw[EV]
  refine Ac (Ac (thn (hc pins s σ H _ I h) fun c s1 ⟨H1,I1,q1⟩=>Am ?_))
  cases c with
  |true=>exact hs.run I1 q1
  |false=>exact sM ⟨H1,I1,q1⟩ _
noncomputable abbrev TB:=(St->Hp->Prop)->St->Hp->Prop
def PB(X:Cx)(B:Sem PUnit)(tb:TB):Prop:=
 ∀(pins:List (Addr × Obj)) (s:Shared) (σ:St) (H:Hp) (Nx:St->Hp->Prop),Inv X pins σ H s->tb Nx σ H->wpAny (model X.prog X.w) X.A B (fun _ s'=>∃σ' H',Inv X pins σ' H' s'/\Nx σ' H') X.xe s
noncomputable def tTB(ts:List TT)(tb:TB):TS:=fun D σ H=>nJ ts σ H fun c H1=>if c=true then tb D.nx σ H1 else D.nx σ H1
def mj(J:It)(g:TG)(tb:TS)(D:Ends)(σ:St)(H:Hp):Prop:=∃W:Nat->Nat->St->Hp->Prop,(∃m,W 0 m σ H)/\∀i m σ H,W i m σ H ->
 (J.stop i H/\D.nx σ H)\/(J.go i H/\∃N:St->Hp->Prop,(∀σ' H',N σ' H'->∃m',m'<m/\W (i+1) m' σ' H')/\∀x H',J.yld i H x H'->g x σ H' fun σ2 H2=>tb {D with nx:=N,ct:=N,bk:=D.nx} σ2 H2)
theorem tL{X:Cx}{elt:Expr}{gens:List C9}{csc:Scope}{cpos:Pos}{d:Nat}{tg:Expr}{p:Pos}{ifs:List Expr}{B:Sem PUnit}{acc:Value}{it:Addr}{fp:List Addr}{tn:Nat->Heap->Prop}{J:It}{g:TG}{ts:List TT}{tb:TB}{D:Ends}
 {pins:List (Addr × Obj)} {σ:St} {H:Hp} {s:Shared} {R:Result->Shared->Prop}
 (heq:Ga (.ListComp elt gens csc cpos) d (.ref it) acc X.env=(do
  standAt p
  match <-pyNext (.ref it) with
  |none=>pure (.done .next)
  |some v=>
   Cg tg (.ref it) v
   assign tg X.env v
   let mut ok:=true
   for c in ifs do
    if ok then ok <-isTrue c X.env (eval c X.env)
   if ok then B
   again (.compLoop (.ListComp elt gens csc cpos) d (.ref it) acc X.env)))
 (hx:X.xe=fun _ _=>False) (hc:X.calm=true) (T:Turn X.prog X.w X.K tg J fp it tn) (hg:PG X tg g) (ht:PTs X ifs ts) (hb:PB X B tb)
 (I:Inv X pins σ H s) (st:tn 0 s.heap) (f:∀b∈fp,vx X pins H b) (h:mj J g (tTB ts tb) D σ H)
 (hR:∀σ' H' s',Inv X pins σ' H' s'->D.nx σ' H'->(∀b∈fp,H' b=none)->R (.ok .next) s') :
 codeAny (model X.prog X.w) X.A (.compLoop (.ListComp elt gens csc cpos) d (.ref it) acc X.env) R s:=by
 obtain⟨W,⟨m0,w0⟩,turn⟩:=h
 have stat:∀{H':Hp},(∀b∈fp,H' b=none)->∀b∈fp,vx X pins H' b:=fun hn b hb=>⟨hn b hb,(f b hb).2⟩
 have no:∀{α:Type} {t:Sem α} {Q:α->Shared->Prop} {E':Value->Shared->Prop} {s:Shared},wpAny (model X.prog X.w) X.A t Q X.xe s->wpAny (model X.prog X.w) X.A t Q E' s:=fun h=>Ba h (fun _ _ q=>q) fun _ _ z=>by rw[hx]at z;exact z.elim
 refine codeAny_loop rfl (fun n s'=>∃i σ' H',Inv X pins σ' H' s'/\tn i s'.heap/\(∀b∈fp,H' b=none)/\W i n σ' H') (fun n s3 hI=>?_) m0 ⟨0,σ,H,I,st,fun b hb=>(f b hb).1,w0⟩
 obtain⟨i,σ3,H3,I3,st3,fr3,w3⟩:=hI
 show wpAny _ _ ((Ga (.ListComp elt gens csc cpos) d (.ref it) acc X.env).onRaise (fun x=>do noteFrame x X.env;theTreesLotGoes x)) _ _ s3
 refine wpAny_noted ?_
 rw[heq]
 refine Ac (BN (Ac ?_))
 rcases turn i n σ3 H3 w3 with⟨stop,qn⟩|⟨go,N,hN,step⟩
 . refine no (thn (T.done X rfl rfl rfl hc i pins s3 σ3 H3 X.xe I3 (stat fr3) st3 stop) fun r s4 ⟨hr,I4⟩=>?_)
   subst hr
   exact Am (hR σ3 H3 s4 I4 qn fr3)
 . refine no (thn (T.item X rfl rfl rfl hc i pins s3 σ3 H3 X.xe I3 (stat fr3) st3 go) fun r s4 ⟨u,hr,h4⟩=>?_)
   subst hr
   refine Ac (no (thn h4 fun _ s5 ⟨x,H5,I5,r5,y5,st5,fr5⟩=>?_))
   have I5':=I5.pinned (stat fr5) (T.obj _ _ st5)
   refine Ac (no (thn (hg _ s5 σ3 H5 x u _ I5' r5 (step x H5 y5)) fun _ s6 ⟨σ6,H6,I6,q6⟩=>?_))
   refine Ac (no (thn (ht.run I6 q6) fun ok s7 ⟨H7,I7,q7⟩=>?_))
   have again':∀{σ7:St} {H7:Hp} {s7:Shared},Inv X (pins++qM fp s5.heap) σ7 H7 s7->N σ7 H7->∃m,m<n/\∃i σ' H',Inv X pins σ' H' s7/\tn i s7.heap/\(∀b∈fp,H' b=none)/\W i m σ' H':=fun{σ7 H7 s7} I7 n7=>by
    obtain⟨m',hm,w7⟩:=hN σ7 H7 n7
    refine⟨m',hm,i+1,σ7,H7,I7.tD,T.keep _ _ _ st5 fun b hb o e=>(I7.pin (b,o) (AU _ (AU _ (w6 hb e)))).1,fun b hb=>?_,w7⟩
    obtain⟨o,e,d⟩:=T.obj _ _ st5 b hb
    exact(I7.pin (b,o) (AU _ (AU _ (w6 hb e)))).2.1
   cases ok with
   |false=>exact Am ⟨rfl,again' I7 q7⟩
   |true=>exact Ac (no (thn (hb _ s7 σ6 H7 N I7 q7) fun _ s8 ⟨σ8,H8,I8,n8⟩=>Am ⟨rfl,again' I8 n8⟩))
noncomputable def pT(acc:Addr)(te:TE):TB:=fun Nx σ H=>te σ H fun y H1=>∃ys,H1 acc=some (.lst ys)/\ys.length<AA/\Nx σ (upd H1 acc (.lst (ys++[y])))
theorem jw{X:Cx}{acc:Addr}{elt:Expr}{te:TE}(he:PE X elt te):PB X (do let _ <-call (.builtin "list.append") [.ref acc,<-eval elt X.env]) (pT acc te):=by
 intro pins s σ H Nx I h
 refine Ac (thn (he pins s σ H _ I h) fun u s1 ⟨y,H1,I1,r1,ys,hl,hz,q⟩=>?_)
 refine Ac (thn (pJ pins s1 σ H1 (.ref acc) [y] (.ref acc) [u] (fun _ H'=>Nx σ H') I1 rfl (.cons r1 .nil) ⟨acc,ys,y,rfl,rfl,hl,hz,q⟩) fun _ s2 ⟨_,H2,I2,_,q2⟩=>?_)
 exact Am ⟨σ,H2,I2,q2⟩
end L2
end
section
namespace L2
open PySem PySem.Spec PyProof.Rows
def sJ(fr:List (Option Nat))(wi:TI)(g:TG)(ts:List TT)(tb:Addr->TB)(σ:St)(H:Hp)(Q:VK):Prop:=
 wi σ H fun J H1=>∀acc,H1 acc=none->mj J g (tTB ts (tb acc)) ⟨fun _ H'=>Q (.ref acc) H',fun _ _=>False,fun _ _=>False,fun _ _=>False⟩ (zT fr σ) (upd H1 acc (.lst []))
section
variable {X:Cx}{pins:List (Addr × Obj)}{σ:St}{H:Hp}{s:Shared}{N:List Str}{csc:Scope}{fr:List (Option Nat)}{elt tg iter:Expr}{ifs:List Expr}{rest:List C9}{cpos:Pos}{wi:TI}{g:TG}{ts:List TT}{tb:Addr->TB}
theorem k8{M:Model}{A:Around}{E:Value->Shared->Prop}{s:Shared}{scope:Scope}{globals:Addr}{cl:List (Str × Addr)}{qual:Str}{outer:Env}{Q:Env->Shared->Prop}
 (hQ:∀h':Heap,h'.Ns s.heap.objs.size (fun _=>none)->(∀b o,s.heap.get? b=some o->h'.get? b=some o)->(∀x c,(wW scope s.heap.objs.size).lookup x=some c->h'.IsCell c none) ->
  Q {scope:=scope,locals:=s.heap.objs.size,globals:=globals,cells:=wW scope s.heap.objs.size++cl,qual:=qual,func:=none,code:=outer.code,frame:=outer.frame,builtins:=outer.builtins} {s with heap:=h'}) :
 wpAny M A (GO scope globals cl [] qual none .none (some outer)) Q E s:=by
 simp only[GO,Option.isSome_some,if_true]
 refine Ac (wpAny_alloc ?_)
 refine Ac (wpAny_layCells _ (fun name kind cells=>by cases hkc:kind == Bo<;>simp[hkc]) _ _ _ _ ?_)
 have ok:=cellsFrom_ok scope.names (s.heap.push {cls:=.type "dict",data:=.dict #[]}) (s.heap.objs.size+1) [] ⟨fun _ _ hm=>(nomatch hm),FR⟩ (by rw[A5];exact Ag _)
 rw[A5]at ok
 rw[show ({s with heap:=s.heap.push {cls:=.type "dict",data:=.dict #[]}}:Shared).heap.objs.size=s.heap.objs.size+1 from A5 ..]
 rw[GP]
 refine Ac (Am (Am ?_))
 rw[uA]
 exact hQ _ ((Heap.Ns.new s.heap (.type "dict")).keeps (pushCells_keeps _ _)) (fun b o e=>pushCells_keeps _ _ b o (Ad _ e)) fun x c hc=>(ok.empty x c (mem_of_lookup hc)).1
theorem qz{use:Option (Value->Sem Unit)}{QQ:Value->Shared->Prop}{Qv:VK}{B:Value->Env->Sem PUnit}{E:Value->Shared->Prop}(hE:E=X.xe)(hc:X.calm=true)(S:z7 X N csc fr)(hi:PI X tg iter wi)
 (hturn:∀(it:Addr) (acc:Value) (env:Env),Ga (.ListComp elt (⟨tg,iter,ifs,0⟩::rest) csc cpos) 0 (.ref it) acc env=(do
  standAt iter.pos
  match <-pyNext (.ref it) with
  |none=>pure (.done .next)
  |some v=>
   Cg tg (.ref it) v
   assign tg env v
   let mut ok:=true
   for c in ifs do
    if ok then ok <-isTrue c env (eval c env)
   if ok then B acc env
   again (.compLoop (.ListComp elt (⟨tg,iter,ifs,0⟩::rest) csc cpos) 0 (.ref it) acc env)))
 (hg:∀C s0 H0 ex,PG (X.comp N csc C s0 H0 ex) tg g) (ht:∀C s0 H0 ex,PTs (X.comp N csc C s0 H0 ex) ifs ts)
 (hb:∀C s0 H0 ex acc,PB (X.comp N csc C s0 H0 ex) (B (.ref acc) (X.comp N csc C s0 H0 ex).env) (tb acc))
 (I:Inv X pins σ H s) (h:sJ fr wi g ts tb σ H Qv)
 (hfin:∀acc C H' s',Inv X pins σ H' s'->Qv (.ref acc) H'->(∃m,s'.heap.Ns C m)->H' C=none->C≠X.env.locals->X.s₀.heap.objs.size<=C->(∀x c,X.env.cells.lookup x=some c->c≠C)->(∀p∈X.pn++pins,p.1≠C) ->
  compPost (model X.prog X.w) X.A X.xe use QQ (.ref acc) C (.ok .next) s') :
 wpAny (model X.prog X.w) X.A (eval iter X.env) (fun x s₁=>wpAny (model X.prog X.w) X.A (pyIter x) (fun it s₂=>wpAny (model X.prog X.w) X.A (newList []) (fun acc s₃=>
  wpAny (model X.prog X.w) X.A (GO csc X.env.globals (vy X.env.cells csc.names []) [] X.env.qual none .none (some X.env)) (fun cenv s₄=>
   codeAny (model X.prog X.w) X.A (.compStart (.ListComp elt (⟨tg,iter,ifs,0⟩::rest) csc cpos) 0 it acc {cenv with scope:=relabel csc X.env}) (compPost (model X.prog X.w) X.A E use QQ acc cenv.locals) s₄) E s₃) E s₂) E s₁) E s:=by
 subst hE
 refine thn (hi pins s σ H _ I h) fun v s1 h1=>thn h1 fun itv s2 h2=>?_
 obtain⟨it,fp,tn,J,H2,e,I2,T,st2,f2,q2⟩:=h2
 subst e
 refine Be ?_
 have hfr:H2 s2.heap.objs.size=none:=I2.hok.fresh (Ag _)
 have q3:=q2 s2.heap.objs.size hfr
 generalize hs3:({s2 with heap:=s2.heap.push {cls:=.type "list",dict:=none,data:=.seq ([]:List Value).toArray}}:Shared)=s3
 have k23:∀b u,s2.heap.get? b=some u->s3.heap.get? b=some u:=fun b u e=>by rw[<-hs3];exact Ad _ e
 have new3:s3.heap.get? s2.heap.objs.size=some {cls:=.type "list",dict:=none,data:=.seq ([]:List Value).toArray}:=by rw[<-hs3];exact Ay _ rfl
 have I3:Inv X pins σ (upd H2 s2.heap.objs.size (.lst [])) s3:=by
  rw[<-hs3]
  exact I2.laid (t':=s2.toks) (fun b u e=>Ad _ e) (Ag _) ⟨A9 _,[],0,.nil,Ay _ rfl⟩
 have lt2:∀b∈fp,b<s2.heap.objs.size:=fun b hb=>by obtain⟨o,e,_⟩:=T.obj _ _ st2 b hb;exact An e
 have hsz:s3.heap.objs.size=s2.heap.objs.size+1:=by rw[<-hs3];exact A5 ..
 have f3:∀b∈fp,vx X pins (upd H2 s2.heap.objs.size (.lst [])) b:=fun b hb=>⟨by rw[zI (AB (lt2 b hb))];exact(f2 b hb).1,(f2 b hb).2⟩
 have lt3:∀b∈fp,b<s3.heap.objs.size:=fun b hb=>by rw[hsz];exact BD (lt2 b hb)
 refine k8 fun h4 hns4' k34 own4=>?_
 have I4:=lT (tk:=s3.toks) I3 S f3 lt3 hns4' k34 own4
 have st4:tn 0 h4:=T.keep _ _ _ st2 fun b hb o e=>k34 b o (k23 b o e)
 have f4:∀b∈fp,vx (X.comp N csc s3.heap.objs.size s3 (upd H2 s2.heap.objs.size (.lst [])) fp) [] (upd H2 s2.heap.objs.size (.lst [])) b:=fun b hb=>by
  have ok:=I4.ok
  obtain⟨g1,g2⟩:=ok.exf b hb
  exact⟨(f3 b hb).1,g1,ok.exfs b hb,.inl hb,g2,fun p hp=>by simp at hp⟩
 have fin:∀σ' H' s',Inv (X.comp N csc s3.heap.objs.size s3 (upd H2 s2.heap.objs.size (.lst [])) fp) [] σ' H' s'->Qv (.ref s2.heap.objs.size) H'->(∀b∈fp,H' b=none) ->
  compPost (model X.prog X.w) X.A X.xe use QQ (.ref s2.heap.objs.size) s3.heap.objs.size (.ok .next) s':=fun σ' H' s' I' q' _=>by
  have IX:Inv X pins σ H' s':=I3.UW I'.os I'.base I'.hok I'.bare fun b hb=>by
   obtain⟨g0,g1,g2,g3,g4,g5⟩:=f3 b hb
   exact⟨g3,g1,g4,g5⟩
  obtain⟨m,hn,_⟩:=I'.loc
  refine hfin _ _ H' s' IX q' ⟨m,hn⟩ I'.free (Dk I3.lt) I3.sz (fun x c e=>?_) fun p hp=>?_
  . obtain⟨w',z⟩:=I3.cell x c e
    exact AB z.lt
  . exact AB (An (I3.pin p hp).1)
 have loop:codeAny (model X.prog X.w) X.A (.compLoop (.ListComp elt (⟨tg,iter,ifs,0⟩::rest) csc cpos) 0 (.ref it) (.ref s2.heap.objs.size) (compEnvC csc (wW csc s3.heap.objs.size++vy X.env.cells csc.names []) s3.heap.objs.size X.env))
  (compPost (model X.prog X.w) X.A X.xe use QQ (.ref s2.heap.objs.size) s3.heap.objs.size) {s3 with heap:=h4}:=
  tL (X:=X.comp N csc s3.heap.objs.size s3 (upd H2 s2.heap.objs.size (.lst [])) fp) (hturn it _ _) rfl hc T (hg _ _ _ _) (ht _ _ _ _) (hb _ _ _ _ _) I4 st4 f4 q3 fin
 exact codeAny_compStart_list loop (T.self X.A 0 _ _ _ st4 loop)
theorem bG{B:Value->Env->Sem PUnit}(hc:X.calm=true)(S:z7 X N csc fr)(hi:PI X tg iter wi)
 (hturn:∀(it:Addr) (acc:Value) (env:Env),Ga (.ListComp elt (⟨tg,iter,ifs,0⟩::rest) csc cpos) 0 (.ref it) acc env=(do
  standAt iter.pos
  match <-pyNext (.ref it) with
  |none=>pure (.done .next)
  |some v=>
   Cg tg (.ref it) v
   assign tg env v
   let mut ok:=true
   for c in ifs do
    if ok then ok <-isTrue c env (eval c env)
   if ok then B acc env
   again (.compLoop (.ListComp elt (⟨tg,iter,ifs,0⟩::rest) csc cpos) 0 (.ref it) acc env)))
 (hg:∀C s0 H0 ex,PG (X.comp N csc C s0 H0 ex) tg g) (ht:∀C s0 H0 ex,PTs (X.comp N csc C s0 H0 ex) ifs ts)
 (hb:∀C s0 H0 ex acc,PB (X.comp N csc C s0 H0 ex) (B (.ref acc) (X.comp N csc C s0 H0 ex).env) (tb acc))
 (hs:∀x,CT iter X.env x=pure x:=by intro _;rfl) :
 PE X (.ListComp elt (⟨tg,iter,ifs,0⟩::rest) csc cpos) (sJ fr wi g ts tb):=by
 intro pins s σ H Q I h
 rw[eval_ListComp]
 refine Gb (use:=none) rfl hs (v8 (S.cells I.ok)) S.kind S.locals ?_
 refine qz (use:=none) rfl hc S hi hturn hg ht hb I h fun acc C H' s' I' q' hn hC hL h0 hcl hpn=>?_
 obtain⟨m,hn⟩:=hn
 refine⟨m,hn,fun h' sb=>⟨.ref acc,H',?_,rfl,q'⟩⟩
 exact I'.turned (t':=s'.toks) (fun b o hb e=>(sb.2 b hb).trans e) hC (Bq (Bq hL)) (.inr h0) hcl hpn
theorem bS{B:Value->Env->Sem PUnit}{y:Str}{py spos:Pos}{i:Nat}(hc:X.calm=true)(S:z7 X N csc fr)(hi:PI X tg iter wi)
 (hturn:∀(it:Addr) (acc:Value) (env:Env),Ga (.ListComp elt (⟨tg,iter,ifs,0⟩::rest) csc cpos) 0 (.ref it) acc env=(do
  standAt iter.pos
  match <-pyNext (.ref it) with
  |none=>pure (.done .next)
  |some v=>
   Cg tg (.ref it) v
   assign tg env v
   let mut ok:=true
   for c in ifs do
    if ok then ok <-isTrue c env (eval c env)
   if ok then B acc env
   again (.compLoop (.ListComp elt (⟨tg,iter,ifs,0⟩::rest) csc cpos) 0 (.ref it) acc env)))
 (hg:∀C s0 H0 ex,PG (X.comp N csc C s0 H0 ex) tg g) (ht:∀C s0 H0 ex,PTs (X.comp N csc C s0 H0 ex) ifs ts)
 (hb:∀C s0 H0 ex acc,PB (X.comp N csc C s0 H0 ex) (B (.ref acc) (X.comp N csc C s0 H0 ex).env) (tb acc))
 (hN:X.N.Nodup) (hy:X.N[i]?=some y) (hx:Loc X.env.scope y)
 (hsw:Fj (.ListComp elt (⟨tg,iter,ifs,0⟩::rest) csc cpos) (some (.Name y py)) spos.line X.env=pure true:=by rfl)
 (hf:X.fn y=true\/X.env.scope.names.lookup y=some .local:=by first|exact .inl rfl|exact .inr rfl|assumption)
 (hs:∀x,CT iter X.env x=pure x:=by intro _;rfl) :
 PS X (.Assign [.Name y py] (.ListComp elt (⟨tg,iter,ifs,0⟩::rest) csc cpos) spos) (u0 (sJ fr wi g ts tb) (x9 i)):=by
 intro pins s σ H D I h
 rw[exec_Assign_Name_used _ _ _ _ hsw]
 refine Ac (BN (Ac ?_))
 show wpAny _ X.A (do let _ <-comprehension (.ListComp elt (⟨tg,iter,ifs,0⟩::rest) csc cpos) csc X.env _ (newList []) false (eval iter X.env) (some (assign (.Name y py) X.env))) _ _ s
 refine Ac (Ba (Gb (use:=some (assign (.Name y py) X.env)) (Q:=fun _ s'=>SP X pins D .next s') rfl hs (v8 (S.cells I.ok)) S.kind S.locals ?_) (fun _ s' hq=>Am (Am hq)) fun _ _ e=>e)
 refine qz (use:=some (assign (.Name y py) X.env)) rfl hc S hi hturn hg ht hb I h fun acc C H' s' I' q' hn hC hL h0 hcl hpn=>?_
 obtain⟨m,hn⟩:=hn
 show wpAny _ X.A (assign (.Name y py) X.env (.ref acc)) _ _ _
 refine wpAny_assign_Name (pS I' hN hy hx (show RelV (.ref acc) (.ref acc) from rfl) (fun s2 I2 ⟨a,sb,ha⟩=>?_) hf)
 have haC:C≠a:=by
  rcases ha with ha|ha
  . rw[ha];exact hL
  . exact Bq (hcl y a ha)
 refine⟨m,hn.sameBut sb haC,fun h' sb'=>⟨_,H',?_,q'⟩⟩
 exact I2.turned (t':=s2.toks) (fun b o hb e=>(sb'.2 b hb).trans e) hC hL (.inr h0) hcl hpn
theorem Xe(elt tg iter:Expr)(ifs:List Expr)(csc:Scope)(cpos:Pos)(it:Addr)(acc:Value)(env:Env) :
 Ga (.ListComp elt [⟨tg,iter,ifs,0⟩] csc cpos) 0 (.ref it) acc env=(do
  standAt iter.pos
  match <-pyNext (.ref it) with
  |none=>pure (.done .next)
  |some v=>
   Cg tg (.ref it) v
   assign tg env v
   let mut ok:=true
   for c in ifs do
    if ok then ok <-isTrue c env (eval c env)
   if ok then (do let _ <-call (.builtin "list.append") [acc,<-eval elt env])
   again (.compLoop (.ListComp elt [⟨tg,iter,ifs,0⟩] csc cpos) 0 (.ref it) acc env)):=by rfl
end
end L2
end
section
namespace L2
open PySem PySem.Spec PyProof.Rows
section
variable {X:Cx}{N:List Str}{csc:Scope}{fr:List (Option Nat)}{elt tg iter tg2 iter2:Expr}{ifs ifs2:List Expr}{cpos:Pos}{wi wi2:TI}{g g2:TG}{ts ts2:List TT}{te:TE}
theorem jy(hc:X.calm=true)(S:z7 X N csc fr)(hi:PI X tg iter wi)(hg:∀C s0 H0 ex,PG (X.comp N csc C s0 H0 ex) tg g)(ht:∀C s0 H0 ex,PTs (X.comp N csc C s0 H0 ex) ifs ts)
 (he:∀C s0 H0 ex,PE (X.comp N csc C s0 H0 ex) elt te) (hs:∀x,CT iter X.env x=pure x:=by intro _;rfl) :
 PE X (.ListComp elt [⟨tg,iter,ifs,0⟩] csc cpos) (sJ fr wi g ts fun acc=>pT acc te):=
 bG hc S hi (B:=fun acc env=>(do let _ <-call (.builtin "list.append") [acc,<-eval elt env])) (Xe elt tg iter ifs csc cpos) hg ht (fun C s0 H0 ex acc=>jw (he C s0 H0 ex)) hs
theorem YH{y:Str}{py spos:Pos}{i:Nat}(hc:X.calm=true)(S:z7 X N csc fr)(hi:PI X tg iter wi)(hg:∀C s0 H0 ex,PG (X.comp N csc C s0 H0 ex) tg g)(ht:∀C s0 H0 ex,PTs (X.comp N csc C s0 H0 ex) ifs ts)
 (he:∀C s0 H0 ex,PE (X.comp N csc C s0 H0 ex) elt te) (hN:X.N.Nodup) (hy:X.N[i]?=some y) (hx:Loc X.env.scope y)
 (hsw:Fj (.ListComp elt [⟨tg,iter,ifs,0⟩] csc cpos) (some (.Name y py)) spos.line X.env=pure true:=by rfl)
 (hf:X.fn y=true\/X.env.scope.names.lookup y=some .local:=by first|exact .inl rfl|exact .inr rfl|assumption)
 (hs:∀x,CT iter X.env x=pure x:=by intro _;rfl) :
 PS X (.Assign [.Name y py] (.ListComp elt [⟨tg,iter,ifs,0⟩] csc cpos) spos) (u0 (sJ fr wi g ts fun acc=>pT acc te) (x9 i)):=
 bS hc S hi (B:=fun acc env=>(do let _ <-call (.builtin "list.append") [acc,<-eval elt env])) (Xe elt tg iter ifs csc cpos) hg ht (fun C s0 H0 ex acc=>jw (he C s0 H0 ex)) hN hy hx hsw hf hs
end
end L2
end
section
namespace L2
open PySem PySem.Spec PyProof.Rows
section
variable {X:Cx}
theorem rN:yJ X (.builtin "isinstance") (fun xs H Q=>∃x c t b,xs=[x,.ty c]/\uQ X.K H x (.type t)/\GJ X.K (.type t) (.type c)=some b/\Q (.bl b) H):=by
 intro pins s σ H xs us Q I r h
 obtain⟨x,c,t,b,rfl,ty,e,q⟩:=h
 obtain⟨u,w',rfl,rx,rc⟩:=vals2 r
 cases (show w'=D2 c from rc)
 exact ir I rx ty e fun tk=>⟨.bl b,H,I.tok _,rfl,q⟩
end
inductive Kd where
 |non|bl|int|str|lst|tup|dct
 deriving DecidableEq
noncomputable def Kd.nm:Kd->String
 |.non=>"NoneType"|.bl=>"bool"|.int=>"int"|.str=>"str"|.lst=>"list"|.tup=>"tuple"|.dct=>"dict"
noncomputable def Kd.sub(a c:Kd):Bool:=decide (a=c)||(decide (a=.bl)&&decide (c=.int))
theorem Wx(K:Af)(a c:Kd)(hc:c≠.non):GJ K (.type a.nm) (.type c.nm)=some (a.sub c):=by
 cases c with
 |non=>exact absurd rfl hc
 |bl=>cases a<;>rfl
 |int=>cases a<;>rfl
 |str=>cases a<;>rfl
 |lst=>cases a<;>rfl
 |tup=>cases a<;>rfl
 |dct=>cases a<;>rfl
section
variable {X:Cx}
theorem all_range:∀(bs:List Bool),((AE bs.length).all fun i=>bs.getD i false)=bs.all id:=by
 intro bs
 induction bs with
 |nil=>rfl
 |cons b bs ih=>
  rw[Ar,El,DA,DA,List.all_map]
  exact congrArg (b&&·) (GY (by congr 1) ih)
theorem Vals.bools:∀{bs:List Bool} {us:List Value},Vals (bs.map V.bl) us->us=bs.map CB
 |[],us,r=>by cases r;rfl
 |b::bs,us,r=>by
  rw[AJ]at r
  cases r with
  |cons r1 r2=>
   cases (show _=CB b from r1)
   rw[Vals.bools r2,AJ]
theorem rM(hc:X.calm=true):yJ X (.builtin "all") (fun xs H Q=>∃(a:Addr) (bs:List Bool),xs=[.ref a]/\SqL X.K H a (bs.map V.bl)/\Q (.bl (bs.all id)) H):=by
 intro pins s σ H xs us Q I r h
 obtain⟨a,bs,rfl,ha,q⟩:=h
 obtain⟨u,rfl,ru⟩:=vals1 r
 cases ru
 obtain⟨its,rv,pl,hz⟩:=I.list ha
 have hits:=rv.bools
 have alt:a<s.heap.objs.size:=by obtain⟨o,ho,_⟩:=pl.isList;exact An ho
 refine call_all_walk (Dj pl.isList ?_)
 refine⟨s.heap.objs.size,_,_,_,_,_,fun i=>bs.getD i false,rfl,GZ (A:=X.A.in1) (I.ok.hd hc) s.heap.objs.size a (AB alt) its.toArray,⟨⟨_,Ay _ rfl,rfl,rfl⟩,?_⟩,?_,fun h' tk hk=>?_⟩
 . obtain⟨o,ho,hc',n,hd⟩:=pl.isList
   exact⟨o,Ad _ ho,hc',n,hd⟩
 . intro i v s' Q' E' hv hq
   have hv':(bs.map CB)[i]?=some v:=by rw[<-hits];simpa using hv
   rw[AQ]at hv'
   cases hb:bs[i]? with
   |none=>rw[hb]at hv';cases hv'
   |some b=>
    rw[hb]at hv'
    have:v=CB b:=(AG hv').symm
    subst this
    have e:bs.getD i false=b:=by rw[Aw,hb];rfl
    have hq':Q' (bs.getD i false) s':=hq
    rw[e]at hq'
    exact Bx hq'
 . have e:(AE its.toArray.size).all (fun i=>bs.getD i false)=bs.all id:=by
    rw[Ah,hits,Ai];exact all_range bs
   rw[e]
   refine⟨.bl (bs.all id),H,I.kept fun b o ho=>hk b o ?_ (Ad _ ho),rfl,q⟩
   simpa using AB (An ho)
end
end L2
end
section
namespace L2
open PySem PySem.Spec PyProof.Rows
theorem bw{H:Hp}{p:Addr}(h:H p=none)(o:HO):xt H (upd H p o):=fun b u q=>by rw[zI (zR q h)];exact q
def sF(H:Hp)(ys:List V)(Q:VK):Prop:=∀p H',xt H H'->H' p=some (.tup ys)->Q (.ref p) H'
theorem sF.new{H:Hp}{ys:List V}{Q:VK}(g:sF H ys Q):∀p,H p=none->Q (.ref p) (upd H p (.tup ys)):=fun p hp=>g p _ (bw hp _) zN
noncomputable def RY:V->Option Int->Option Int->Hp->VK->Prop:=fun x lo hi H Q=>∃a xs,x=.ref a/\H a=some (.tup xs)/\sF H (qY xs lo hi) Q
noncomputable def T9:R2:=fun x y H Q=>∃a b xs ys,x=.ref a/\y=.ref b/\H a=some (.tup xs)/\H b=some (.tup ys)/\xs.length+ys.length<=AA/\sF H (xs++ys) Q
noncomputable def SI:R2:=fun x y H Q=>∃a k xs,x=.ref a/\y=.int k/\H a=some (.tup xs)/\2<=k/\k<=1000/\xs≠[]/\xs.length<=1000/\sF H (Az k.toNat xs).flatten Q
section
variable {X:Cx}
theorem iX{t sl:Addr}{items:Array Value}{vl vu:Value}{lo hi:Option Int}{Q:Value->Shared->Prop}{A:Around}{E:Value->Shared->Prop}{s:Shared}{prog:Program}{w:World}(ht:IsTup s.heap t items)(hs:s.heap.IsSliceOf sl vl vu .none)(pl:IsPart vl lo)(pu:IsPart vu hi)
 (h0:HT.sIx items.size 0 lo=0) (h1:HT.sIx items.size items.size hi=items.size) (h:Q (.ref t) s):wpAny (model prog w) A (getItem (.ref t) (.ref sl)) Q E s:=by
 obtain⟨os,hos,hcs,hds⟩:=id hs
 have hTs:s.TypeIs (.ref sl) "slice":=⟨os,hos,hcs⟩
 unfold getItem
 try with_reducible refine BY ?_
 first|refine Ac (Am ?_)|skip
 refine Ac (FP ht.typeIs (by decide) ?_)
 refine Ac (Cu (name:=Dm "__getitem__") ht.typeIs A2
  (Ds A2 ht.typeIs E4 ?_ (Fm _ _)))
 show wpAny _ _ (Dz (.ref t) >>= _) _ _ s
 refine Ac (Er ht ?_)
 refine Ac (ET hTs ?_)
 rw[if_pos (by decide)]
 refine Ac (HT.wo hs pl pu ?_)
 have hyes:(((HT.sIx items.size 0 lo:Nat):Int) == 0&&(1:Int) == 1&&(HT.sIx items.size items.size hi-HT.sIx items.size 0 lo) == items.size)=true:=by
  rw[h0,h1];simp
 show wpAny _ _ (if (((HT.sIx items.size 0 lo:Nat):Int) == 0&&(1:Int) == 1&&(HT.sIx items.size items.size hi-HT.sIx items.size 0 lo) == items.size)=true then _ else _) _ _ s
 rw[if_pos hyes]
 unfold FE
 refine Ac (Ac (ET ht.typeIs (Am ?_)))
 rw[if_pos (by decide)]
 exact Ac (EN (Am ⟨_,rfl,Am h⟩))
theorem YQ:SlR X RY:=by
 intro pins s σ H x v vl vu lo hi sl Q I rx hs pl pu h
 obtain⟨a,xs,rfl,hx,g⟩:=h
 by_cases hw:HT.sIx xs.length 0 lo=0/\HT.sIx xs.length xs.length hi=xs.length
 . cases rx
   obtain⟨its,r,ht,hz⟩:=I.tuple (.inl (.inl hx))
   have hlen:its.toArray.size=xs.length:=by rw[Ah];exact r.length.symm
   refine⟨"tuple",_,A2.lookup,ht.typeIs,?_⟩
   refine iX ht hs pl pu (by rw[hlen];exact hw.1) (by rw[hlen];exact hw.2) ⟨.ref a,H,I,rfl,g a H (xt.refl H) ?_⟩
   rw[hx]
   unfold qY
   rw[hw.1,hw.2,Dn,Nat.sub_zero,List.take_length]
 . exact Vw pins s σ H (.ref a) v vl vu lo hi sl Q I rx hs pl pu ⟨a,xs,rfl,.inl (.inl hx),hw,g.new⟩
theorem cb:OpR X (BB .Add) T9:=by
 intro pins s σ H x y v u Q I rx ry h
 obtain⟨a,b,xs,ys,rfl,rfl,ha,hb,hz,g⟩:=h
 by_cases hx:xs=[]
 . cases rx
   cases ry
   subst hx
   obtain⟨its,r1,p1,_⟩:=I.tuple (.inl (.inl ha))
   obtain⟨its2,r2,p2,_⟩:=I.tuple (.inl (.inl hb))
   cases r1
   obtain⟨⟨cls,dd,data,sl⟩,ho,hc,n,hd⟩:=id p1
   obtain⟨⟨cls2,dd2,data2,sl2⟩,ho2,hc2,n2,hd2⟩:=id p2
   simp only at hc hd hc2 hd2
   subst hc hd hc2 hd2
   exact concat_meets ⟨_,ho,rfl⟩ ⟨_,ho2,rfl⟩ F4 G3 Ek Ec (DQ _ _)
    (tuple_addW0 a b #[] its2.toArray n n2 dd dd2 sl sl2 rfl) ⟨ho,ho2,⟨.ref b,H,I,rfl,g b H (xt.refl H) hb⟩⟩
 . refine Zz pins s σ H (.ref a) (.ref b) v u Q I rx ry ⟨a,b,xs,ys,rfl,rfl,.inl (.inl ha),.inl (.inl hb),hx,hz,fun e=>?_,fun _=>g.new⟩
   subst e
   rw[AZ]at g
   exact g a H (xt.refl H) ha
theorem xQ:fillsNumberSlot (.type "tuple") "mul"=pure false:=
 PySem.fillsNumberSlot_seq (id:="tuple.__mul__") (r:=some (.builtin "tuple.__rmul__")) Dt.lookup (by decide +kernel) F.slot_tuple_rmul.lookup (by decide +kernel)
theorem vD:seqRepeat? (.type "tuple")=pure (some (.builtin "tuple.__mul__")):=by
 unfold seqRepeat?
 rw[PySem.seqSlot_of (T:="tuple") (name:="__mul__") (id:="tuple.__mul__") Dt.lookup (by decide +kernel),PySem.seqSlot_of (T:="tuple") (name:="__rmul__") (id:="tuple.__rmul__") F.slot_tuple_rmul.lookup (by decide +kernel)]
 rfl
theorem wA(a:Int)(t:Tok)(l:Addr)(items:Array Value)(n:Nat)(dd:Option Addr)(sl:Array (Option Value)) :
 Meets (Builtin.«int.__rmul__» ⟨[.int a t,.ref l],[]⟩) (fun _ R s=>s.heap.get? l=some {cls:=.type "tuple",dict:=dd,data:=.seq items n,slots:=sl}/\R (.ok (.ret Value.notImplemented)) s):=
 .of_wp fun prog w A R s h=>by obtain⟨hp,g,d,tk,os⟩:=s;obtain⟨hl,h⟩:=h;wp_walk;exact⟨_,rfl,h⟩
theorem kr(l:Addr)(items:Array Value)(n:Nat)(x:Int)(u:Tok)(dd:Option Addr)(sl:Array (Option Value))(h1:2<=x)(h2:x<=1000)(h3:¬items.isEmpty=true)(h4:items.size<=1000) :
 Meets (Builtin.«tuple.__mul__» ⟨[.ref l,.int x u],[]⟩) (fun _ R s=>s.heap.get? l=some {cls:=.type "tuple",dict:=dd,data:=.seq items n,slots:=sl} /\
  R (.ok (.ret (A1 s.heap.objs.size))) {s with heap:=s.heap.push {cls:=D2 "tuple",data:=Data.seq (D5 (fun x1 x2=>x1++x2) #[] (Az x.toNat items))},toks:=s.toks}):=
 .of_wp fun prog w A R s h=>by
  obtain⟨hp,g,d,tk,os⟩:=s;obtain⟨hl,h⟩:=h
  have f1:=Gd
  have c1:¬((decide (x < -(2 ^ 63))||decide (x ≥ 2 ^ 63))=true):=by simp;omega
  have c2:¬((items.isEmpty||x == 1)=true):=by simp at h3 ⊢;exact⟨h3,by omega⟩
  have c3:¬((decide (x<=0)||items.isEmpty)=true):=by simp at h3 ⊢;exact⟨by omega,h3⟩
  have hprod:(items.size:Int)*x<=1000*1000:=Int.mul_le_mul (by omega) h2 (by omega) (by omega)
  have c4:¬((items.size:Int)*x > (2 ^ 63-1)/8):=by omega
  have hL:AA=16777216:=A3
  have c5:¬(DC ((items.size:Int)*x)=true):=by
   unfold DC
   rw[hL]
   simp only[decide_eq_true_eq]
   omega
  have hn:(D5 (fun x1 x2=>x1++x2) #[] (Az x.toNat items)).size=x.toNat*items.size:=by
   have e:=foldl_rep items.toList x.toNat []
   simp only[Array.toArray_toList,DJ]at e
   rw[e,Ah,len_rep,Cv]
  have htake:sizeOk (.seq (D5 (fun x1 x2=>x1++x2) #[] (Az x.toNat items))):=by
   show (D5 (fun x1 x2=>x1++x2) #[] (Az x.toNat items)).size<=AA
   rw[hn,hL]
   have:x.toNat*items.size<=1000*1000:=D6 (by omega) h4
   omega
  wp_walk using Bt hl
  rw[if_neg c1]
  refine Ac (Er (items:=items) ⟨_,hl,rfl,n,rfl⟩ ?_)
  rw[if_neg c2]
  show wpAny _ _ (if (decide (x<=0)||items.isEmpty)=true then _ else _) _ _ _
  rw[if_neg c3]
  show wpAny _ _ (if (items.size:Int)*x > (2 ^ 63-1)/8 then _ else _) _ _ _
  rw[if_neg c4]
  show wpAny _ _ (if DC ((items.size:Int)*x)=true then _ else _) _ _ _
  rw[if_neg c5]
  exact Ac (m:=Bv _) (Be (Am ⟨_,rfl,h⟩) htake)
theorem Z3:OpR X (BB .Mult) SI:=by
 intro pins s σ H x y v u Q I rx ry h
 obtain⟨a,k,xs,rfl,rfl,ha,h1,h2,h3,h4,g⟩:=h
 cases rx
 obtain⟨t,rfl⟩:=ry
 obtain⟨its,r,p1,_⟩:=I.tuple (.inl (.inl ha))
 obtain⟨⟨cls,dd,data,sl⟩,ho,hc,n,hd⟩:=id p1
 simp only at hc hd
 subst hc hd
 have hl:=r.length
 have hne:¬its.toArray.isEmpty=true:=by
  simp
  intro e
  exact h3 (r.ui.mp e)
 refine CW (T:="tuple") (U:="int") (by decide) ⟨_,ho,rfl⟩ (fun s'=>Dc s' k t) xQ EU Ck vD Ez.lookup
  (CD Ck (Dc s k t) EA (Eg _ _) (wA k t a its.toArray n dd sl)
   ⟨ho,rfl,⟨_,ho,rfl⟩,CD Dt ⟨_,ho,rfl⟩ FU (Fq _ _) (kr a its.toArray n k t dd sl h1 h2 hne (by rw[Ah,<-hl];exact h4)) ⟨ho,?_⟩⟩)
 have e:=foldl_rep its k.toNat []
 rw[DJ]at e
 have hz:(Az k.toNat xs).flatten.length<=AA:=by
  rw[len_rep,A3]
  have:k.toNat*xs.length<=1000*1000:=D6 (by omega) h4
  omega
 refine⟨.ref s.heap.objs.size,_,I.laid (t':=s.toks) (o:=.tup (Az k.toNat xs).flatten) (fun b ob q=>Ad _ q) (Ag _) ⟨hz,(Az k.toNat its).flatten,r.rep k.toNat,?_⟩,rfl,g.new _ (I.hok.fresh (Ag _))⟩
 rw[show (#[]:Array Value)=([]:List Value).toArray from rfl,e]
 exact tF.new _ _
end
end L2
end
section
namespace L2
open PySem PySem.Spec PyProof.Rows
section
variable {X:Cx}{pos:Pos}
noncomputable def Xc(i j k:Nat)(ta:TA):TS:=fun D σ H=>ta σ H fun vs H1=>∃v w z,vs=[v,w,z]/\D.nx (((σ.set i (some v)).set j (some w)).set k (some z)) H1
theorem vals3{x y z:V}{us:List Value}(r:Vals [x,y,z] us):∃u1 u2 u3,us=[u1,u2,u3]/\RelV x u1/\RelV y u2/\RelV z u3:=by
 cases r with
 |cons r1 r2=>
  cases r2 with
  |cons r3 r4=>
   cases r4 with
   |cons r5 r6=>cases r6;exact⟨_,_,_,rfl,r1,r3,r5⟩
theorem YI{i j k:Nat}{x y z:Str}{a b c:Expr}{ta:TA}{px py pz pt:Pos}{kt k2 pt2}(hc:X.calm=true)(hN:X.N.Nodup)(hi:X.N[i]?=some x)(hj:X.N[j]?=some y)(hk:X.N[k]?=some z)(hij:i≠j)(hik:i≠k)(hjk:j≠k)
 (hx:X.env.scope.names.lookup x=some .local) (hy:X.env.scope.names.lookup y=some .local) (hz:X.env.scope.names.lookup z=some .local) (ha:PA X [a,b,c] ta)
 (hw:B4 [.Tuple [.Name x px,.Name y py,.Name z pz] kt pt] (.Tuple [a,b,c] k2 pt2) X.env=pure (some [x,y,z]))
 (hs:Ep [.Tuple [.Name x px,.Name y py,.Name z pz] kt pt] (.Tuple [a,b,c] k2 pt2) pos.line X.env=pure false:=by rfl) :
 PS X (.Assign [.Tuple [.Name x px,.Name y py,.Name z pz] kt pt] (.Tuple [a,b,c] k2 pt2) pos) (Xc i j k ta):=by
 intro pins s σ H D I h
 rw[exec_Assign_arm]
 refine Ac (BN ?_)
 rw[hs]
 refine Ac (Am ?_)
 rw[if_neg (by decide)]
 refine Ac (Tuple_ (thn (ha _ pins s σ H _ I h) fun us s1 ⟨vs,H1,I1,r1,q1⟩=>?_))
 obtain⟨v,w,zz,e1,q1⟩:=q1
 subst e1
 obtain⟨u1,u2,u3,rfl,rv,rw',rz⟩:=vals3 r1
 refine Be ?_ (by show 3<=AA;decide)
 have I2:Inv X pins σ H1 {s1 with heap:=s1.heap.push {cls:=.type "tuple",data:=.seq [u1,u2,u3].toArray}}:=I1.kept (t':=s1.toks) fun b o e=>Ad _ e
 rw[hw]
 refine Ac (Am ?_)
 show wpAny (model X.prog X.w) X.A (do rule "assign.swapped-stores";let items <-unpackItems (.ref s1.heap.objs.size) 3 none;Eo [fun v=>Df X.env z v,fun v=>Df X.env y v,fun v=>Df X.env x v] items.reverse;pure G5) _ _ _
 refine Ac (EN (Ac (unpackItems_tuple (items:=#[u1,u2,u3]) (I.ok.hd hc) (IsTup.new s1.heap _) fun h' hx'=>?_)))
 have I3:=I2.kept (h':=h') (t':=s1.toks) fun b o e=>hx' b o (AB (An e)) e
 show wpAny _ _ (Eo [fun v=>Df X.env z v,fun v=>Df X.env y v,fun v=>Df X.env x v] [u3,u2,u1] >>= fun _=>pure G5) _ _ _
 refine Ac (CG (D3 (xf I3 hN hk (.inl hz) rz (fun s2 I4=>?_) (.inr hz))))
 refine CG (D3 (xf I4 hN hj (.inl hy) rw' (fun s3 I5=>?_) (.inr hy)))
 refine CG (D3 (xf I5 hN hi (.inl hx) rv (fun s4 I6=>FN (Am ?_)) (.inr hx)))
 refine⟨_,H1,?_,q1⟩
 have e:((σ.set k (some zz)).set j (some w)).set i (some v)=((σ.set i (some v)).set j (some w)).set k (some zz):=by
  rw[FA _ _ (Bq hij),FA _ _ (Bq hik),FA _ _ (Bq hjk)]
 rw[<-e]
 exact I6
theorem YA(hb:∀(pins:List (Addr × Obj)) (σ:St) (H:Hp) (s:Shared),Inv X pins σ H s->B3<s.heap.objs.size):PE X (.Dict [] [] pos) (fun _ H Q=>∀p,H p=none->Q (.ref p) (upd H p (.dK []))):=fun pins s σ H Q I h=>
 Ge ⟨.ref s.heap.objs.size,_,I.laid (a:=s.heap.objs.size) (o:=.dK []) (t':=s.toks) (fun _ _ q=>Ad _ q) (Ag _)
  ⟨A9 _,beq_eq_false_iff_ne.mpr (Bq (AB (hb pins σ H s I))),[],.nil,Heap.DictOf.new s.heap⟩,rfl,h _ (I.hok.fresh (Ag _))⟩
end
end L2
namespace L2
open PySem PySem.Spec PyProof.Rows
mutual
inductive DD(H:Hp)(p:Addr):V->PyData->Prop
 |non:DD H p .non .none
 |bl (b:Bool):DD H p (.bl b) (.bool b)
 |int (i:Int):DD H p (.int i) (.int i)
 |str (x:Str):DD H p (.str x) (.str x)
 |lst {a:Addr} {xs:List V} {ds:List PyData}:H a=some (.lst xs)->a≠p->DDs H p xs ds->DD H p (.ref a) (.list ds)
 |tup {a:Addr} {xs:List V} {ds:List PyData}:H a=some (.tup xs)->a≠p->DDs H p xs ds->DD H p (.ref a) (.tuple ds)
 |dct {a:Addr}:H a=some (.dK [])->a≠p->DD H p (.ref a) (.dict [])
inductive DDs(H:Hp)(p:Addr):List V->List PyData->Prop
 |nil:DDs H p [] []
 |cons {x:V} {xs:List V} {d:PyData} {ds:List PyData}:DD H p x d->DDs H p xs ds->DDs H p (x::xs) (d::ds)
end
theorem DDs.length{H:Hp}{p:Addr}:∀{vs:List V} {ds:List PyData},DDs H p vs ds->vs.length=ds.length
 |_,_,.nil=>rfl
 |_,_,.cons _ rs=>by rw[Ar,Ar,rs.length]
theorem DDs.append{H:Hp}{p:Addr}:∀{vs ws:List V} {ds es:List PyData},DDs H p vs ds->DDs H p ws es->DDs H p (vs++ws) (ds++es)
 |_,_,_,_,.nil,r=>r
 |_,_,_,_,.cons r rs,q=>.cons r (rs.append q)
mutual
noncomputable def xC:PyData->Bool
 |.none|.bool _|.int _|.str _=>false
 |.list _=>true
 |.tuple xs=>xN xs
 |.dict _=>false
noncomputable def xN:List PyData->Bool
 |[]=>false
 |x::xs=>xC x||xN xs
end
structure Yr(d:PyData):Prop where
 sh:d.showable=true
 mix:d.hasDict=true->xC d=false
 dp:d.depth<=50
 ln:d.shown.length<=AA
end L2
end
section
namespace L2
open PySem PySem.Spec PyProof.Rows
structure v9(k w:Nat)(d:PyData):Prop where
 sh:d.showable=true
 lf:d.leavesShort 40=true
 dp:d.depth<=k
 wt:d.weight<=w
theorem v9.mono{k w k' w':Nat}{d:PyData}(h:v9 k w d)(h1:k<=k')(h2:w<=w'):v9 k' w' d:=⟨h.sh,h.lf,Ax h.dp h1,Ax h.wt h2⟩
theorem cE{i:Int}(h1:-(10 ^ 30)<i)(h2:i<10 ^ 30):v9 0 100 (.int i):=by
 have hn:i.natAbs<10 ^ 30:=by omega
 have h100:i.natAbs<2 ^ 100:=Nat.lt_trans hn (by decide)
 have hlog:i.natAbs≠0->i.natAbs.log2<100:=fun z=>(Nat.log2_lt z).mpr h100
 refine⟨?_,?_,A9 _,?_⟩
 . show decide (i.natAbs.log2<1920)=true
   by_cases z:i.natAbs=0
   . rw[z];decide
   . exact decide_eq_true (Nat.lt_trans (hlog z) (by decide))
 . show decide ((PyData.shown (.int i)).length<=40)=true
   refine decide_eq_true ?_
   show (Dm (DU i)).length<=40
   by_cases z:0<=i
   . exact Ax (toString_length_le z (k:=30) (by decide) h2) (by decide)
   . have e:=len_text_negI (n:=i) (by omega)
     have e2:=toString_length_le (v:=0-i) (k:=30) (by omega) (by decide) (by omega)
     omega
 . show (if i == 0 then 0 else i.natAbs.log2+1)<=100
   split
   . exact A9 _
   . rename_i z
     have z':i≠0:=by simpa using z
     exact hlog (by omega)
theorem hV:v9 0 0 .none:=⟨rfl,rfl,Ag _,Ag _⟩
theorem hU(b:Bool):v9 0 0 (.bool b):=⟨rfl,rfl,Ag _,Ag _⟩
theorem uR:∀{ds:List PyData},(∀d∈ds,d.showable=true)->PyData.showableAll ds=true
 |[],_=>rfl
 |d::ds,h=>by rw[PyData.showableAll,h d Av,uR fun x hx=>h x (Ao _ hx)];rfl
theorem qo:∀{ds:List PyData},(∀d∈ds,d.leavesShort 40=true)->PyData.leavesShortAll 40 ds=true
 |[],_=>rfl
 |d::ds,h=>by rw[PyData.leavesShortAll,h d Av,qo fun x hx=>h x (Ao _ hx)];rfl
theorem qm{k:Nat}:∀{ds:List PyData},(∀d∈ds,d.depth<=k)->PyData.depthAll ds<=k
 |[],_=>A9 _
 |d::ds,h=>by rw[PyData.depthAll];exact Nat.max_le.mpr ⟨h d Av,qm fun x hx=>h x (Ao _ hx)⟩
theorem rF{w:Nat}:∀{ds:List PyData},(∀d∈ds,d.weight<=w)->Gf ds<=ds.length*(w+1)
 |[],_=>by simp[Gf]
 |d::ds,h=>by
  rw[Gf,Ar,DS]
  have h1:=h d Av
  have h2:=rF fun x hx=>h x (Ao _ hx)
  omega
theorem lg{k w n:Nat}{ds:List PyData}(h:∀d∈ds,v9 k w d)(hn:ds.length<=n):v9 (k+1) (n*(w+1)) (.tuple ds):=by
 refine⟨uR fun d hd=>(h d hd).sh,qo fun d hd=>(h d hd).lf,Nat.succ_le_succ (qm fun d hd=>(h d hd).dp),?_⟩
 exact Ax (rF fun d hd=>(h d hd).wt) (Du _ hn)
theorem cG{x:Str}(h1:∀c∈x.cps.toList,c<16 ^ 8)(h2:x.cps.size<=100):v9 0 100 (.str x):=by
 refine⟨rfl,?_,A9 _,h2⟩
 show (x.cps.toList.all fun c=>decide (c<16 ^ 8))=true
 rw[AI]
 exact fun c hc=>decide_eq_true (h1 c hc)
theorem v9.SY{k w:Nat}{d:PyData}(h:v9 k w d)(hk:k<=50)(hw:w<=300000)(mix:d.hasDict=true->xC d=false):Yr d:=by
 refine⟨h.sh,mix,Ax h.dp hk,?_⟩
 have e:=PyData.shown_le 40 (by decide) d h.lf
 have e2:=h.wt
 rw[A3]
 have:(40+2)*d.weight<=42*300000:=E5 _ (Ax e2 hw)
 omega
theorem pM:∀{ds:List PyData},(∀d∈ds,d.hasDict=false)->PyData.hasDictAll ds=false
 |[],_=>rfl
 |d::ds,h=>by rw[PyData.hasDictAll,h d Av,pM fun x hx=>h x (Ao _ hx)];rfl
end L2
end
section
namespace L2
open PySem PySem.Spec PyProof.Rows
section
variable {X:Cx}{pos:Pos}
theorem Tv{x:Str}{n:String}(hg:Gl X x)(hm:X.mg x=none)(hv:Cf x=some (.type n))(hn:x≠"__name__":=by decide)(hd:(x == ("__debug__":Str))=false:=by decide):PE X (.Name x pos) (tC (.ty n)):=
 Z9 hg hm hv (show RelV (.ty n) (.type n) from rfl) hn hd
theorem T4{a b:Expr}{rest:List Expr}{tA tB':TT}(ha:PT X a tA)(hb:PW X (.BoolOp .Or (b::rest) pos) tB'):PT X (.BoolOp .Or (a::b::rest) pos) (tOr tA tB'):=(T6 ha hb).pt
noncomputable def noStar:Expr->Bool
 |.Starred ..=>false
 |_=>true
theorem zd{e:Expr}{es:List Expr}{env:Env}(h:noStar e=true):AM (e::es) env=(false,eval e env)::AM es env:=by
 cases e<;>first|rfl|cases h
theorem pac{X:Cx}{e:Expr}{es:List Expr}{te:TE}{t:TA}(ha:PE X e te)(hr:PA X es t)(hs:noStar e=true:=by rfl):PA X (e::es) (vJ te t):=xV ha hr (zd hs)
noncomputable def rP(sc0:Scope)(N0 N:List Str)(csc:Scope)(fr:List (Option Nat)):Bool:=
 decide (csc.kind=.function)&&csc.names.all (fun x=>decide (x.2≠.cell)||csc.names.all fun y=>decide (y≠(x.1,AK)))&&csc.names.all (fun x=>decide (x.2≠.local)||decide (csc.names.lookup x.1=some .local)) &&
 csc.names.all (fun x=>decide (x.2≠.free)||(decide (sc0.names.lookup x.1=some .cell)||decide (sc0.names.lookup x.1=some .free)))&&decide (fr.length=N.length) &&
 (AE N.length).all (fun i=>match fr[i]?,N[i]? with|some (some j),some x=>decide (N0[j]?=some x)&&csc.names.any (fun y=>decide (y.1=x)&&decide (y.2=.free))|_,_=>true) &&
 csc.names.all (fun x=>decide (x.2≠.free)||decide (csc.names.lookup x.1≠some .local))&&(decide (("!":Str) ∉ N)||(decide (("!":Str)∈N0)&&sc0.names.any (fun y=>decide (sc0.names.lookup y.1=some .cell))))
end
end L2
end
section
namespace L2
open PySem PySem.Spec PyProof.Rows
noncomputable def zw{α:Type}(xs:List α)(lo st:Int)(n:Nat):List α:=(AE n).filterMap fun(k:Nat)=>xs[(lo+(k:Int)*st).toNat]?
theorem Vals.pick{xs:List V}{us:List Value}(r:Vals xs us):∀(is:List Nat),Vals (is.filterMap fun i=>xs[i]?) (is.filterMap fun i=>us[i]?)
 |[]=>.nil
 |i::is=>by
  rw[A4,A4]
  cases hx:xs[i]? with
  |none=>rw[r.none_of hx];exact Vals.pick r is
  |some x=>
   obtain⟨u,hu,ru⟩:=r.get hx
   rw[hu]
   exact .cons ru (Vals.pick r is)
theorem Vals.zw{xs:List V}{us:List Value}(r:Vals xs us)(lo st:Int)(n:Nat):Vals (zw xs lo st n) (L2.zw us lo st n):=by
 have h:=r.pick ((AE n).map fun(k:Nat)=>(lo+(k:Int)*st).toNat)
 rw[B8,B8]at h
 exact h
theorem mY{α:Type}(xs:List α)(lo st:Int)(n:Nat):(zw xs lo st n).length<=n:=by
 have:=Gg (fun(k:Nat)=>xs[(lo+(k:Int)*st).toNat]?) (AE n)
 rw[BE]at this
 exact this
noncomputable def yT(n:Nat)(lo hi:Option Int)(st:Int):Int × Nat:=((BR lo hi st (n:Int)).1,Cb (BR lo hi st (n:Int)).1 (BR lo hi st (n:Int)).2 st)
section
variable {prog:Program}{w:World}{A:Around}{E:Value->Shared->Prop}{s:Shared}
theorem qd{sl:Addr}{vl vu vc:Value}{lo hi:Option Int}{st:Int}{n:Nat}{Q:Int × Int × Nat->Shared->Prop}(hs:s.heap.IsSliceOf sl vl vu vc)(pl:IsPart vl lo)(pu:IsPart vu hi)(pc:IsPart vc (some st))(h0:st≠0)
 (h:Q ((yT n lo hi st).1,st,(yT n lo hi st).2) s):wpAny (model prog w) A (CP (.ref sl) (pure (n:Int))) Q E s:=by
 obtain⟨os,hos,hcs,hds⟩:=id hs
 unfold CP FZ
 refine Ac (Ac (CC hos hds (x:=vl) rfl (Ac (CC hos hds (x:=vu) rfl (Ac (CC hos hds (x:=vc) rfl (Am ?_)))))))
 refine Ac (HT.wH pc ?_)
 show wpAny _ _ (if (st == 0)=true then _ else _) _ _ s
 rw[if_neg (by simpa using h0)]
 exact Ac (HT.wH pl (Ac (HT.wH pu (Ac (Am (Am h))))))
theorem aP{t sl:Addr}{items:Array Value}{vl vu vc:Value}{lo hi:Option Int}{st:Int}{Q:Value->Shared->Prop}(ht:IsTup s.heap t items)(hs:s.heap.IsSliceOf sl vl vu vc)(pl:IsPart vl lo)(pu:IsPart vu hi)(pc:IsPart vc (some st))(h0:st≠0)
 (hq1:(yT items.size lo hi st).1=0->st=1->(yT items.size lo hi st).2=items.size->Q (.ref t) s)
 (hq2:Q (.ref s.heap.objs.size) {s with heap:=s.heap.push {cls:=.type "tuple",data:=.seq (zw items.toList (yT items.size lo hi st).1 st (yT items.size lo hi st).2).toArray}})
 (hsz:(yT items.size lo hi st).2<=AA):wpAny (model prog w) A (getItem (.ref t) (.ref sl)) Q E s:=by
 obtain⟨os,hos,hcs,hds⟩:=id hs
 have hTs:s.TypeIs (.ref sl) "slice":=⟨os,hos,hcs⟩
 have htake:sizeOk (.seq (zw items.toList (yT items.size lo hi st).1 st (yT items.size lo hi st).2).toArray):=by
  show (zw items.toList (yT items.size lo hi st).1 st (yT items.size lo hi st).2).toArray.size<=AA
  rw[Ah]
  exact Ax (mY _ _ _ _) hsz
 have epick:((AE (yT items.size lo hi st).2).filterMap fun(k:Nat)=>items[((yT items.size lo hi st).1+(k:Int)*st).toNat]?).toArray=(zw items.toList (yT items.size lo hi st).1 st (yT items.size lo hi st).2).toArray:=by
  unfold zw
  simp only[Array.getElem?_toList]
 unfold getItem
 try with_reducible refine BY ?_
 first|refine Ac (Am ?_)|skip
 refine Ac (FP ht.typeIs (by decide) ?_)
 refine Ac (Cu (name:=Dm "__getitem__") ht.typeIs A2
  (Ds A2 ht.typeIs E4 ?_ (Fm _ _)))
 show wpAny _ _ (Dz (.ref t) >>= _) _ _ s
 refine Ac (Er ht ?_)
 refine Ac (ET hTs ?_)
 rw[if_pos (by decide)]
 refine Ac (qd (n:=items.size) hs pl pu pc h0 ?_)
 by_cases hw:((yT items.size lo hi st).1 == 0&&st == 1&&(yT items.size lo hi st).2 == items.size)=true
 . show wpAny _ _ (if ((yT items.size lo hi st).1 == 0&&st == 1&&(yT items.size lo hi st).2 == items.size)=true then _ else _) _ _ s
   rw[if_pos hw]
   simp only[Aa,beq_iff_eq]at hw
   unfold FE
   refine Ac (Ac (ET ht.typeIs (Am ?_)))
   rw[if_pos (by decide)]
   exact Ac (EN (Am ⟨_,rfl,Am (hq1 hw.1.1 hw.1.2 hw.2)⟩))
 . show wpAny _ _ (if ((yT items.size lo hi st).1 == 0&&st == 1&&(yT items.size lo hi st).2 == items.size)=true then _ else _) _ _ s
   rw[if_neg hw,epick]
   first
    |exact Ac (m:=Bv _) (Be (Am ⟨_,rfl,Am hq2⟩) htake)
    |exact Ac (Ac (m:=Bv _) (Be (Am ⟨_,rfl,Am hq2⟩) htake))
end
theorem mZ{α:Type}:∀xs:List α,(AE xs.length).filterMap (fun k=>xs[k]?)=xs
 |[]=>rfl
 |x::xs=>by
  rw[Ar,El,A4,B8]
  show x::_=_
  refine congrArg (x::·) (GY ?_ (mZ xs))
  congr 1
theorem kG{α:Type}(xs:List α):zw xs 0 1 xs.length=xs:=by
 unfold zw
 have e:(fun(k:Nat)=>xs[(0+(k:Int)*1).toNat]?)=fun k=>xs[k]?:=by
  funext k
  rw[show (0+(k:Int)*1).toNat=k by omega]
 rw[e]
 exact mZ xs
noncomputable def RZ:V->Option Int->Option Int->Option Int->Hp->VK->Prop:=fun x lo hi st H Q=>∃a xs c,x=.ref a/\H a=some (.tup xs)/\st=some c/\c≠0/\(yT xs.length lo hi c).2<=AA/\sF H (zw xs (yT xs.length lo hi c).1 c (yT xs.length lo hi c).2) Q
noncomputable def Sq(r:V->Option Int->Option Int->Option Int->Hp->VK->Prop)(te:TE)(tl th tc:TO):TE:=fun σ H Q=>te σ H fun x H1=>tl σ H1 fun l H2=>th σ H2 fun u H3=>tc σ H3 fun c H4=>r x l u c H4 Q
theorem gX{X:Cx}{e:Expr}{te:TE}{lo hi:Option Expr}{st:Expr}{tl th tc:TO}{pos p2:Pos}(he:PE X e te)(hl:PO X lo tl)(hu:PO X hi th)(hc:PO X (some st) tc):PE X (.Subscript e (.Slice lo hi (some st) p2) pos) (Sq RZ te tl th tc):=by
 intro pins s σ H Q I h
 refine GW (thn (he pins s σ H _ I h) fun v s1 ⟨x,H1,I1,r1,q1⟩=>?_)
 refine wpAny_Slice (thn (hl pins s1 σ H1 _ I1 q1) fun vl s2 ⟨l,H2,I2,pl,q2⟩=>thn (hu pins s2 σ H2 _ I2 q2) fun vu s3 ⟨u,H3,I3,pu,q3⟩=>thn (hc pins s3 σ H3 _ I3 q3) fun vc s4 ⟨c,H4,I4,pc,q4⟩=>?_)
 obtain⟨a,xs,cc,rfl,hx,ec,h0,hsz,g⟩:=q4
 subst ec
 cases r1
 have I5:Inv X pins σ H4 {s4 with heap:=s4.heap.push {cls:=.type "slice",data:=.fields #[vl,vu,vc]}}:=I4.kept (t':=s4.toks) fun b ob q=>Ad _ q
 obtain⟨its,r,ht,hz⟩:=I5.tuple (.inl (.inl hx))
 have hlen:its.toArray.size=xs.length:=by rw[Ah];exact r.length.symm
 show wpAny (model X.prog X.w) X.A (FD e (.Slice lo hi (some st) p2) (.ref a) (.ref s4.heap.objs.size)) (EP X pins σ Q) X.xe {s4 with heap:=s4.heap.push {cls:=.type "slice",data:=.fields #[vl,vu,vc]}}
 refine tail_any (ops:=[.ref a,.ref s4.heap.objs.size]) ht.typeIs A2.lookup (aP ht (Fo ..) pl pu pc h0 (fun z1 z2 z3=>?_) ?_ (by rw[hlen];exact hsz)) (by with_unfolding_all rfl)
 . refine⟨.ref a,H4,I5,rfl,g a H4 (xt.refl H4) ?_⟩
   rw[hlen]at z1 z3
   rw[hx,z1,z3,z2,kG]
 . rw[hlen]
   refine⟨.ref _,_,I5.laid (t':=s4.toks) (o:=.tup (zw xs (yT xs.length l u cc).1 cc (yT xs.length l u cc).2)) (fun b ob q=>Ad _ q) (Ag _) ?_,rfl,g.new _ (I5.hok.fresh (Ag _))⟩
   refine⟨Ax (mY _ _ _ _) hsz,_,r.zw _ _ _,?_⟩
   exact tF.new _ _
end L2
end
section
namespace L2
open PySem PyProof.Rows
section
variable {X:Cx}
noncomputable def vH(d:Int):List Int->Int
 |[]=>d
 |n::ns=>ns.foldl (fun a b=>if b > a then b else a) n
theorem rX:∀(ns:List Int) (a:Int),a<=ns.foldl (fun a b=>if b > a then b else a) a/\(∀x∈ns,x<=ns.foldl (fun a b=>if b > a then b else a) a)/\(ns.foldl (fun a b=>if b > a then b else a) a=a\/ns.foldl (fun a b=>if b > a then b else a) a∈ns)
 |[],a=>⟨Int.le_refl _,fun _ h=>(nomatch h),.inl rfl⟩
 |n::ns,a=>by
  obtain⟨h1,h2,h3⟩:=rX ns (if n > a then n else a)
  show a<=ns.foldl _ (if n > a then n else a)/\_
  have hc:a<=(if n > a then n else a)/\n<=(if n > a then n else a):=by split<;>omega
  refine⟨Gh hc.1 h1,fun x hx=>?_,?_⟩
  . rcases Al.mp hx with e|hx
    . rw[e];exact Gh hc.2 h1
    . exact h2 x hx
  . rcases h3 with h3|h3
    . show ns.foldl _ (if n > a then n else a)=a\/ns.foldl _ (if n > a then n else a)∈n::ns
      rw[h3]
      split
      . exact .inr (Av ..)
      . exact .inl rfl
    . exact .inr (Ao _ h3)
theorem lx{d:Int}{ns:List Int}(h:ns≠[]):vH d ns∈ns/\∀x∈ns,x<=vH d ns:=by
 cases ns with
 |nil=>exact absurd rfl h
 |cons n ns=>
  obtain⟨h1,h2,h3⟩:=rX ns n
  refine⟨?_,fun x hx=>?_⟩
  . rcases h3 with h3|h3
    . show ns.foldl _ n∈_;rw[h3];exact Av ..
    . exact Ao _ h3
  . rcases Al.mp hx with e|hx
    . rw[e];exact h1
    . exact h2 x hx
theorem mH{d M:Int}{ns:List Int}(h1:M∈ns)(h2:∀x∈ns,x<=M):vH d ns=M:=by
 have hne:ns≠[]:=fun e=>by rw[e]at h1;exact nomatch h1
 obtain⟨a,b⟩:=lx (d:=d) hne
 exact Int.le_antisymm (h2 _ a) (b _ h1)
theorem Vals.ints:∀{ns:List Int} {us:List Value},Vals (ns.map V.int) us->∀{i:Nat} {v:Value},us[i]?=some v->∃t,v=.int (ns.getD i 0) t
 |[],_,.nil,_,_,h=>by cases h
 |n::ns,_,.cons r rs,0,v,h=>by
  obtain⟨t,e⟩:=r
  have:v=.int n t:=(AG h).symm.trans e
  exact⟨t,this⟩
 |n::ns,_,.cons r rs,i+1,v,h=>by
  have:=Vals.ints rs (i:=i) (v:=v) h
  exact this
end
end L2
end
section
namespace L2
open PySem PyProof PyProof.Rows
section
variable {X:Cx}
theorem kq(l:Addr)(items:Array Value)(n:Nat)(u:Tok)(dd:Option Addr)(sl:Array (Option Value)) :
 Meets (Builtin.«tuple.__mul__» ⟨[.ref l,.int 1 u],[]⟩) (fun _ R s=>s.heap.get? l=some {cls:=.type "tuple",dict:=dd,data:=.seq items n,slots:=sl}/\R (.ok (.ret (A1 l))) s):=
 .of_wp fun prog w A R s h=>by
  obtain⟨hp,g,d,tk,os⟩:=s;obtain⟨hl,h⟩:=h
  have f1:=Gd
  have c1:¬((decide ((1:Int) < -(2 ^ 63))||decide ((1:Int) ≥ 2 ^ 63))=true):=by decide
  have c2:((items.isEmpty||((1:Int) == 1))=true):=by simp
  wp_walk using Bt hl
  exact⟨_,rfl,h⟩
theorem kn(l:Addr)(items:Array Value)(n:Nat)(x:Int)(u:Tok)(dd:Option Addr)(sl:Array (Option Value))(h1:x<=0)(h2:-1000<=x)(h3:¬items.isEmpty=true) :
 Meets (Builtin.«tuple.__mul__» ⟨[.ref l,.int x u],[]⟩) (fun _ R s=>s.heap.get? l=some {cls:=.type "tuple",dict:=dd,data:=.seq items n,slots:=sl} /\
  R (.ok (.ret (A1 s.heap.objs.size))) {s with heap:=s.heap.push {cls:=D2 "tuple",data:=Data.seq #[]},toks:=s.toks}):=
 .of_wp fun prog w A R s h=>by
  obtain⟨hp,g,d,tk,os⟩:=s;obtain⟨hl,h⟩:=h
  have f1:=Gd
  have c1:¬((decide (x < -(2 ^ 63))||decide (x ≥ 2 ^ 63))=true):=by simp;omega
  have c2:¬((items.isEmpty||x == 1)=true):=by simp at h3 ⊢;exact⟨h3,by omega⟩
  have c3:((decide (x<=0)||items.isEmpty)=true):=by simp;exact .inl h1
  wp_walk using Bt hl
  rw[if_neg c1]
  refine Ac (Er (items:=items) ⟨_,hl,rfl,n,rfl⟩ ?_)
  rw[if_neg c2]
  show wpAny _ _ (if (decide (x<=0)||items.isEmpty)=true then _ else _) _ _ _
  rw[if_pos c3]
  exact Ac (m:=Bv _) (Be (Am ⟨_,rfl,h⟩))
noncomputable def SJ:R2:=fun x y H Q=>∃a k xs,x=.ref a/\y=.int k/\H a=some (.tup xs)∧-1000<=k/\k<=1000/\xs≠[]/\xs.length<=1000/\sF H (Az k.toNat xs).flatten Q
theorem Z2:OpR X (BB .Mult) SJ:=by
 intro pins s σ H x y v u Q I rx ry h
 obtain⟨a,k,xs,rfl,rfl,ha,h1,h2,h3,h4,g⟩:=h
 by_cases hk2:2<=k
 . exact Z3 pins s σ H _ _ v u Q I rx ry ⟨a,k,xs,rfl,rfl,ha,hk2,h2,h3,h4,g⟩
 cases rx
 obtain⟨t,rfl⟩:=ry
 obtain⟨its,r,p1,_⟩:=I.tuple (.inl (.inl ha))
 obtain⟨⟨cls,dd,data,sl⟩,ho,hc,n,hd⟩:=id p1
 simp only at hc hd
 subst hc hd
 by_cases hk1:k=1
 . subst hk1
   refine CW (T:="tuple") (U:="int") (by decide) ⟨_,ho,rfl⟩ (fun s'=>Dc s' 1 t) xQ EU Ck vD Ez.lookup
    (CD Ck (Dc s 1 t) EA (Eg _ _) (wA 1 t a its.toArray n dd sl)
     ⟨ho,rfl,⟨_,ho,rfl⟩,CD Dt ⟨_,ho,rfl⟩ FU (Fq _ _) (kq a its.toArray n t dd sl) ⟨ho,?_⟩⟩)
   refine⟨.ref a,H,I,rfl,g a H (xt.refl H) ?_⟩
   rw[ha];simp
 . have hne:¬its.toArray.isEmpty=true:=by
    simp
    intro e
    exact h3 (r.ui.mp e)
   have e0:k.toNat=0:=by omega
   refine CW (T:="tuple") (U:="int") (by decide) ⟨_,ho,rfl⟩ (fun s'=>Dc s' k t) xQ EU Ck vD Ez.lookup
    (CD Ck (Dc s k t) EA (Eg _ _) (wA k t a its.toArray n dd sl)
     ⟨ho,rfl,⟨_,ho,rfl⟩,CD Dt ⟨_,ho,rfl⟩ FU (Fq _ _) (kn a its.toArray n k t dd sl (by omega) h1 hne) ⟨ho,?_⟩⟩)
   rw[e0]at g
   refine⟨.ref s.heap.objs.size,_,I.laid (t':=s.toks) (o:=.tup []) (fun b ob q=>Ad _ q) (Ag _) ⟨A9 _,[],.nil,tF.new _ _⟩,rfl,g.new _ (I.hok.fresh (Ag _))⟩
noncomputable def kL(a b c:Int):List Int:=(AE (Ct a b c).toNat).map fun(i:Nat)=>a+(i:Int)*c
end
end L2
end
section
namespace L2
open PySem PyProof PyProof.Rows
section
variable {X:Cx}
theorem pB{x:V}:∀{xs:List V} {us:List Value},Vals xs us->xs.all vF=true->us.countP (eqU x)=xs.countP fun y=>eqV y x
 |_,_,.nil,_=>rfl
 |y::ys,u::us,.cons r rs,h=>by
  rw[DA,Aa]at h
  rw[List.countP_cons,List.countP_cons,pB rs h.2,lV r h.1]
noncomputable def kK(K:Af)(tup:Bool):V->List V->Hp->VK->Prop:=fun x vs H Q=>∃t xs y,x=.ref t/\vs=[y]/\(if tup=true then SqT K H t xs else SqL K H t xs)/\vF y=true/\xs.all vF=true/\Q (.int (xs.countP fun z=>eqV z y:Nat)) H
theorem gG:MtR X "list.count" (kK X.K false):=by
 intro pins s σ H x xs v us Q I rx rs h
 obtain⟨t,ys,y,rfl,rfl,ht,fy,fs,q⟩:=h
 cases rx
 obtain⟨u,rfl,ru⟩:=vals1 rs
 obtain⟨its,r,p1,_⟩:=I.list ht
 obtain⟨⟨cls,dd,data,sl⟩,ho,hc,n,hd⟩:=id p1.isList
 simp only at hc hd
 subst hc hd
 refine CD F.slot_list_count ⟨_,ho,rfl⟩ F.entry_list_count (F.args_list_count_2 _ _) (SeqAt.list_countAt t its.toArray n dd sl u (eqU y)) ⟨ho,fun w hw=>qA ru fy r fs w (by simpa using hw),?_⟩
 rw[show its.toArray.toList=its from rfl,pB r fs]
 exact⟨.int _,H,I.tok _,⟨s.toks,rfl⟩,q⟩
noncomputable def vV(d:Int):List Int->Int
 |[]=>d
 |n::ns=>ns.foldl (fun a b=>if b<a then b else a) n
theorem rY:∀(ns:List Int) (a:Int),ns.foldl (fun a b=>if b<a then b else a) a<=a/\(∀x∈ns,ns.foldl (fun a b=>if b<a then b else a) a<=x)/\(ns.foldl (fun a b=>if b<a then b else a) a=a\/ns.foldl (fun a b=>if b<a then b else a) a∈ns)
 |[],a=>⟨Int.le_refl _,fun _ h=>(nomatch h),.inl rfl⟩
 |n::ns,a=>by
  obtain⟨h1,h2,h3⟩:=rY ns (if n<a then n else a)
  show ns.foldl _ (if n<a then n else a)<=a/\_
  have hc:(if n<a then n else a)<=a/\(if n<a then n else a)<=n:=by split<;>omega
  refine⟨Gh h1 hc.1,fun x hx=>?_,?_⟩
  . rcases Al.mp hx with e|hx
    . rw[e];exact Gh h1 hc.2
    . exact h2 x hx
  . rcases h3 with h3|h3
    . show ns.foldl _ (if n<a then n else a)=a\/ns.foldl _ (if n<a then n else a)∈n::ns
      rw[h3]
      split
      . exact .inr (Av ..)
      . exact .inl rfl
    . exact .inr (Ao _ h3)
theorem ly{d:Int}{ns:List Int}(h:ns≠[]):vV d ns∈ns/\∀x∈ns,vV d ns<=x:=by
 cases ns with
 |nil=>exact absurd rfl h
 |cons n ns=>
  obtain⟨h1,h2,h3⟩:=rY ns n
  refine⟨?_,fun x hx=>?_⟩
  . rcases h3 with h3|h3
    . show ns.foldl _ n∈_;rw[h3];exact Av ..
    . exact Ao _ h3
  . rcases Al.mp hx with e|hx
    . rw[e];exact h1
    . exact h2 x hx
theorem mJ{d M:Int}{ns:List Int}(h1:M∈ns)(h2:∀x∈ns,M<=x):vV d ns=M:=by
 have hne:ns≠[]:=fun e=>by rw[e]at h1;exact nomatch h1
 obtain⟨a,b⟩:=ly (d:=d) hne
 exact Int.le_antisymm (b _ h1) (h2 _ a)
noncomputable def XW(K:Af)(g:List Int->Int):List V->Hp->VK->Prop:=fun xs H Q=>∃(a:Addr) (ns:List Int),xs=[.ref a]/\SqL K H a (ns.map V.int)/\ns≠[]/\Q (.int (g ns)) H
theorem iP(hc:X.calm=true):yJ X (.builtin "max") (XW X.K (vH 0)):=by
 intro pins s σ H xs us Q I r h
 obtain⟨a,ns,rfl,ha,hne,q⟩:=h
 obtain⟨u,rfl,ru⟩:=vals1 r
 cases ru
 obtain⟨its,rv,pl,hz⟩:=I.list ha
 have hlen:=rv.length
 have alt:a<s.heap.objs.size:=by obtain⟨o,ho,_⟩:=pl.isList;exact An ho
 have hl:its.toArray.size=ns.length:=by rw[Ah,<-hlen,Ai]
 have hpos:0<ns.length:=B1.mpr hne
 have hat:∀(i:Nat) (v:Value),its.toArray[i]?=some v->∃t,v=.int (ns.getD i 0) t:=fun i v hv=>rv.ints (by simpa using hv)
 refine call_max_walk (Dj pl.isList ?_)
 refine⟨s.heap.objs.size,_,_,_,_,_,_,rfl,GZ (A:=X.A.in1) (I.ok.hd hc) s.heap.objs.size a (AB alt) its.toArray,⟨⟨_,Ay _ rfl,rfl,rfl⟩,?_⟩,fun b hb=>?_,by omega,CmpOf.ints_gt (fun i=>ns.getD i 0) hat,fun v h' tk hP hk=>?_⟩
 . obtain⟨o,ho,hc',n,hd⟩:=pl.isList
   exact⟨o,Ad _ ho,hc',n,hd⟩
 . rw[A5]
   simp only[Al,BC,or_false]at hb
   rcases hb with e|e
   . rw[e];exact Cz _
   . rw[e];exact BD alt
 . obtain⟨t,rfl⟩:=hat _ _ hP
   obtain⟨b1,b2⟩:=argBest_gt (fun i=>ns.getD i 0) (its.toArray.size-1)
   have e:vH 0 ns=ns.getD (argBest (fun i j=>decide (ns.getD i 0 > ns.getD j 0)) (its.toArray.size-1)) 0:=by
    refine mH ?_ fun x hx=>?_
    . have:argBest (fun i j=>decide (ns.getD i 0 > ns.getD j 0)) (its.toArray.size-1)<ns.length:=by omega
      rw[Aw,Ae this];exact B5 this
    . obtain⟨i,hi,rfl⟩:=Bw hx
      have:=b2 i (by omega)
      simpa [Aw,Ae hi] using this
   refine⟨.int (vH 0 ns),H,I.kept fun b o ho=>hk b o ?_ (Ad _ ho),⟨t,by rw[e]⟩,q⟩
   simpa using AB (An ho)
theorem iS(hc:X.calm=true):yJ X (.builtin "min") (XW X.K (vV 0)):=by
 intro pins s σ H xs us Q I r h
 obtain⟨a,ns,rfl,ha,hne,q⟩:=h
 obtain⟨u,rfl,ru⟩:=vals1 r
 cases ru
 obtain⟨its,rv,pl,hz⟩:=I.list ha
 have hlen:=rv.length
 have alt:a<s.heap.objs.size:=by obtain⟨o,ho,_⟩:=pl.isList;exact An ho
 have hl:its.toArray.size=ns.length:=by rw[Ah,<-hlen,Ai]
 have hpos:0<ns.length:=B1.mpr hne
 have hat:∀(i:Nat) (v:Value),its.toArray[i]?=some v->∃t,v=.int (ns.getD i 0) t:=fun i v hv=>rv.ints (by simpa using hv)
 refine call_min_walk (Dj pl.isList ?_)
 refine⟨s.heap.objs.size,_,_,_,_,_,_,rfl,GZ (A:=X.A.in1) (I.ok.hd hc) s.heap.objs.size a (AB alt) its.toArray,⟨⟨_,Ay _ rfl,rfl,rfl⟩,?_⟩,fun b hb=>?_,by omega,CmpOf.ints_lt (fun i=>ns.getD i 0) hat,fun v h' tk hP hk=>?_⟩
 . obtain⟨o,ho,hc',n,hd⟩:=pl.isList
   exact⟨o,Ad _ ho,hc',n,hd⟩
 . rw[A5]
   simp only[Al,BC,or_false]at hb
   rcases hb with e|e
   . rw[e];exact Cz _
   . rw[e];exact BD alt
 . obtain⟨t,rfl⟩:=hat _ _ hP
   obtain⟨b1,b2⟩:=argBest_lt (fun i=>ns.getD i 0) (its.toArray.size-1)
   have e:vV 0 ns=ns.getD (argBest (fun i j=>decide (ns.getD i 0<ns.getD j 0)) (its.toArray.size-1)) 0:=by
    refine mJ ?_ fun x hx=>?_
    . have:argBest (fun i j=>decide (ns.getD i 0<ns.getD j 0)) (its.toArray.size-1)<ns.length:=by omega
      rw[Aw,Ae this];exact B5 this
    . obtain⟨i,hi,rfl⟩:=Bw hx
      have:=b2 i (by omega)
      simpa [Aw,Ae hi] using this
   refine⟨.int (vV 0 ns),H,I.kept fun b o ho=>hk b o ?_ (Ad _ ho),⟨t,by rw[e]⟩,q⟩
   simpa using AB (An ho)
theorem gU{o e:Expr}{to te:TE}{apos cpos:Pos}{es:List Expr}(ho:PE X o to)(he:PE X e te)(hbase:DB o "append" X.env (eval o X.env)=eval o X.env:=by rfl)(hst:noStar e=true:=by rfl)(hline:(apos.endLine == cpos.line)=true:=by rfl) :
 PE X (.Call (.Attribute o "append" apos) [e] [] cpos) (tBM X.K "list" j9 to (vJ te qQ)):=by
 have hs1:AM [e] X.env=(false,eval e X.env)::AM [] X.env:=zd hst
 refine bD Ed PySem.F.slot_list_append PySem.F.type_list_append pJ ho (pac he yr hst) hbase ?_ hline hs1 rfl
 rw[hs1];rfl
theorem gV{o e:Expr}{to te:TE}{apos cpos:Pos}(ho:PE X o to)(he:PE X e te)(hbase:DB o "count" X.env (eval o X.env)=eval o X.env:=by rfl)(hst:noStar e=true:=by rfl)(hline:(apos.endLine == cpos.line)=true:=by rfl) :
 PE X (.Call (.Attribute o "count" apos) [e] [] cpos) (tBM X.K "list" (kK X.K false) to (vJ te qQ)):=by
 have hs1:AM [e] X.env=(false,eval e X.env)::AM [] X.env:=zd hst
 refine bD Ed PySem.F.slot_list_count PySem.F.type_list_count gG ho (pac he yr hst) hbase ?_ hline hs1 rfl
 rw[hs1];rfl
end
end L2
namespace L2
open PySem
end L2
namespace L2
open PySem
end L2
end
section
namespace L2
open PySem PySem.W PySem.Calls PyProof PyProof.Rows
noncomputable def jN(z:Int × Int):Int:=z.1*1000+z.2
end L2
end
section
namespace L2
open PySem PySem.W PySem.Calls PyProof PyProof.Rows
noncomputable def TF:List Int->List Int->Bool
 |x::xs,y::ys=>if x=y then TF xs ys else decide (x<y)
 |_,_=>false
inductive nS:List Value->List Int->Prop
 |nil:nS [] []
 |cons {i:Int} {t:Tok} {us:List Value} {ns:List Int}:nS us ns->nS (.int i t::us) (i::ns)
theorem Y9:∀{ns:List Int} {us:List Value},Vals (ns.map V.int) us->nS us ns
 |[],_,.nil=>.nil
 |n::ns,_,.cons r rs=>by
  obtain⟨t,rfl⟩:=(show ∃t,_=Fi n t from r)
  exact .cons (Y9 rs)
end L2
end
section
namespace L2
open PySem PySem.W PySem.Calls PyProof PyProof.Rows
noncomputable def TC:List Int->List Int->Bool
 |x::xs,y::ys=>if x=y then TC xs ys else decide (x<y)
 |[],_::_=>true
 |_,[]=>false
noncomputable def Uv(z:List Int):List (List Int)->List (List Int)
 |[]=>[z]
 |y::ys=>if TC y z then y::Uv z ys else z::y::ys
noncomputable def XY:List (List Int)->List (List Int)
 |[]=>[]
 |z::zs=>Uv z (XY zs)
end L2
end
section
namespace L2
open PySem PySem.Calls PyProof PyProof.Rows
open AutoSeq1 (wpAny_loadPart')
section
variable {prog:Program}{w:World}{A:Around}{E:Value->Shared->Prop}{s:Shared}
theorem sT{it t:Addr}{i:Nat}{items:Array Value}{x:Value}{Q:Value->Shared->Prop}(hit:s.heap.IsTupleIter it t i)(ht:s.heap.IsTuple t items)(hx:items[i]?=some x)
 (hQ:∀h',h'.IsTupleIter it t (i+1)->DN it s.heap h'->Q x {s with heap:=h'}):wpAny (model prog w) A (CY (.ref it)) Q E s:=by
 obtain⟨o,ho,hc,hd⟩:=id hit
 obtain⟨ol,hol,_,nl,hdl⟩:=ht
 unfold CY
 refine Ac (Cu (name:=Dm "__next__") hit.typeIs CQ
  (Ds CQ hit.typeIs Fs ?_ (Fc _)))
 show wpAny _ _ (field (.ref it) 0 >>= _) _ _ s
 refine Ac (CC ho hd (x:=.ref t) rfl ?_)
 show wpAny _ _ (if (A1 t == Ce)=true then _ else _) _ _ s
 rw[if_neg (show ¬((A1 t == Ce)=true) from Aj)]
 show wpAny _ _ (field (.ref it) 1 >>= _) _ _ s
 refine Ac (CC ho hd (x:=.int i 0) rfl ?_)
 show wpAny _ _ (Ft (.ref t) >>= _) _ _ s
 refine Ac (D7 hol hdl ?_)
 simp only[Bk,hx]
 refine Ac (GQ ho hd (by simp) (Am ⟨x,rfl,Am (hQ _ ?_ (DN.update ..))⟩))
 exact⟨_,CL _ ho (Obj.isFreed_of_fields (Obj.data_mapFields hd _)),(Obj.cls_mapFields ..).trans hc,by
  rw[Obj.data_mapFields hd];simp[rawInt]⟩
theorem qC{it t:Addr}{i:Nat}{items:Array Value}{Q:Value->Shared->Prop}(hh:A.handled=none)(hit:s.heap.IsTupleIter it t i)(ht:s.heap.IsTuple t items)(hx:items[i]?=none)
 (hE:∀h' e,Heap.ExtBut it s.heap h'->(∃o,h'.get? e=some o/\o.cls=.type "StopIteration")->E (.ref e) {s with heap:=h'}):wpAny (model prog w) A (CY (.ref it)) Q E s:=by
 obtain⟨o,ho,hc,hd⟩:=id hit
 obtain⟨ol,hol,_,nl,hdl⟩:=ht
 unfold CY
 refine Ac (Cu (name:=Dm "__next__") hit.typeIs CQ
  (Ds CQ hit.typeIs Fs ?_ (Fc _)))
 show wpAny _ _ (field (.ref it) 0 >>= _) _ _ s
 refine Ac (CC ho hd (x:=.ref t) rfl ?_)
 show wpAny _ _ (if (A1 t == Ce)=true then _ else _) _ _ s
 rw[if_neg (show ¬((A1 t == Ce)=true) from Aj)]
 show wpAny _ _ (field (.ref it) 1 >>= _) _ _ s
 refine Ac (CC ho hd (x:=.int i 0) rfl ?_)
 show wpAny _ _ (Ft (.ref t) >>= _) _ _ s
 refine Ac (D7 hol hdl ?_)
 simp only[Bk,hx]
 first
  |refine Ac (EN (Ac (GQ ho hd (by simp) ?_)))
  |refine Ac (GQ ho hd (by simp) ?_)
 first
  |show wpAny _ _ (newExc (.type "StopIteration") [] >>= _) _ _ _
  |(refine Ac (Fh ?_);show wpAny _ _ (newExc (.type "StopIteration") [] >>= _) _ _ _)
 refine Ac ?_
 simp only[newExc,newTuple]
 refine Ac (Be ?_ (by size_fits))
 refine Ac (m:=firstArgMember _ _) (wpAny_of_eq (a:=Ce) (by first|rfl|(simp only[firstArgMember];rfl)) ?_)
 refine Be ?_ (by size_fits)
 simp only[raiseNew]
 refine Ac (wpAny_handled ?_)
 first|rw[show A.in1.handled=none from hh]|rw[hh]
 refine Ac (Am (wpAny_throw ?_))
 exact hE _ _ (((DN.update ..).extBut.push _).push _) ⟨_,Ay _ rfl,rfl⟩
end
theorem pC{prog:Program}{w:World}{A:Around}(hh:A.handled=none)(it t:Addr)(hne:t≠it)(items:Array Value) :
 Draws prog w A it [it,t] items.size (fun i v=>items[i]?=some v) (fun i h=>h.IsTupleIter it t i/\h.IsTuple t items) where
 live:=fun _ _ st=>let ⟨o,ho,_⟩:=st.1;⟨o,ho⟩
 frame:=fun _ _ _ st hk=>⟨st.1.at fun o e=>hk it (by simp) o e,let ⟨o,ho,r⟩:=st.2;⟨o,hk t (by simp) o ho,r⟩⟩
 item:=fun i s Q E hi st hQ=>by
  refine sT st.1 st.2 (x:=items[i]) (by simp[hi]) fun h' hit' hs'=>?_
  exact hQ _ h' s.toks (by simp[hi]) ⟨hit',let ⟨o,ho,r⟩:=st.2;⟨o,hs'.extBut t o hne ho,r⟩⟩ hs'
 done:=fun s Q E st hE=>qC hh st.1 st.2 (by simp) hE
theorem r9(l:Addr)(items:Array Value)(n:Nat)(dct:Option Addr)(sl:Array (Option Value)) :
 Meets (Builtin.«enumerate.__new__» ⟨[.type "enumerate",.ref l],[]⟩) (fun _ R s=>s.heap.get? l=some {cls:=.type "tuple",dict:=dct,data:=.seq items n,slots:=sl} /\
  R (.ok (.ret (.ref (s.heap.push {cls:=.type "tuple_iterator",data:=.fields #[.ref l,.int 0 0]}).objs.size)))
    {s with heap:=(s.heap.push {cls:=.type "tuple_iterator",data:=.fields #[.ref l,.int 0 0]}).push {cls:=.type "enumerate",data:=.fields #[.none,.bool false,.ref s.heap.objs.size,rawInt 0,.none,.none]}}):=
 .of_wp fun prog w A R s h=>by
  obtain⟨hp,g,d,tk,os⟩:=s;obtain⟨hl,h⟩:=h
  have hsub:=sub_enumerate
  have hL:Heap.IsTuple (Shared.heap ⟨hp,g,d,tk,os⟩) l items:=⟨_,hl,rfl,n,rfl⟩
  wp_walk using Bt hl
  refine wpAny_stack_any fun st=>Am ?_
  split
  . rename_i c _ _ _ _ _
    cases (c == D2 "enumerate")
    . wp_walk using Bt hl,B6 hL
      exact⟨_,rfl,h⟩
    . wp_walk using Bt hl,B6 hL
      exact⟨_,rfl,h⟩
  . wp_walk using Bt hl,B6 hL
    exact⟨_,rfl,h⟩
section
variable {prog:Program}{w:World}{A:Around}{E:Value->Shared->Prop}{s:Shared}
theorem qX{l:Addr}{items:Array Value}{Q:Value->Shared->Prop}(hL:s.heap.IsTuple l items)
 (h:∀h',IsEnum h' (s.heap.objs.size+1) s.heap.objs.size 0 .none->h'.IsTupleIter s.heap.objs.size l 0->h'.objs.size=s.heap.objs.size+2 ->
  (∀b o,s.heap.get? b=some o->h'.get? b=some o)->Q (.ref (s.heap.objs.size+1)) {s with heap:=h'}) :
 wpAny (model prog w) A (call (.type "enumerate") [.ref l]) Q E s:=by
 obtain⟨⟨c,dct,dt,sl⟩,hl,hc,n,hd⟩:=hL
 replace hc:c=.type "tuple":=hc
 replace hd:dt=.seq items n:=hd
 subst hc hd
 refine callType_new F.called_enumerate (by decide) (F.typeCall_enumerate_1 _) (F.newCall_enumerate_1 _) (fun obj=>F.args_object_init_2 obj _) F.entry_enumerate_new
  (r9 l items n dct sl) ⟨hl,?_⟩
 have hz:(s.heap.push {cls:=.type "tuple_iterator",data:=.fields #[.ref l,.int 0 0]}).objs.size=s.heap.objs.size+1:=A5 ..
 show _/\_
 rw[hz]
 have he:IsEnum ((s.heap.push {cls:=.type "tuple_iterator",data:=.fields #[.ref l,.int 0 0]}).push
  {cls:=.type "enumerate",data:=.fields #[.none,.bool false,.ref s.heap.objs.size,rawInt 0,.none,.none]}) (s.heap.objs.size+1) s.heap.objs.size 0 .none:=by
  have:=Ay (s.heap.push {cls:=.type "tuple_iterator",data:=.fields #[.ref l,.int 0 0]})
   (o:={cls:=.type "enumerate",data:=.fields #[.none,.bool false,.ref s.heap.objs.size,rawInt 0,.none,.none]}) rfl
  rw[hz]at this;exact this
 refine⟨⟨_,he,rfl⟩,h _ he ⟨_,Ad _ (Ay _ rfl),rfl,rfl⟩ (by rw[A5,hz]) fun b o x=>Ad _ (Ad _ x)⟩
end
end L2
end
section
namespace L2
open PySem PySem.Calls PyProof PyProof.Rows
noncomputable def Ite(K:Af)(a:Addr):It:=
 ⟨fun i H=>∃xs x,SqT K H a xs/\xs[i]?=some x,fun i H x H'=>∃t y,H t=none/\x=.ref t/\(∀xs,SqT K H a xs->xs[i]?=some y)/\H'=upd H t (.tup [.int (i:Nat),y]),fun i H=>∃xs,SqT K H a xs/\xs.length=i⟩
theorem Inv.iI{X:Cx}{pins:List (Addr × Obj)}{σ:St}{H:Hp}{s:Shared}{h':Heap}{t':Nat}{e it T:Addr}{ys:List V}{its:List Value}{n:Nat}(I:Inv X pins σ H s)(fe:vx X pins H e)(fi:vx X pins H it)
 (k:∀b o,b≠e->b≠it->s.heap.get? b=some o->h'.get? b=some o) (hT:s.heap.objs.size<=T) (hz:ys.length<=AA) (r:Vals ys its) (ho:h'.get? T=some {cls:=.type "tuple",data:=.seq its.toArray n}) :
 Inv X pins σ (upd H T (.tup ys)) {s with heap:=h',toks:=t'}:=by
 obtain⟨e0,e1,e2,e3,e4,e5⟩:=fe
 obtain⟨i0,i1,i2,i3,i4,i5⟩:=fi
 have hn:H T=none:=I.hok.fresh hT
 have neT:∀b u,H b=some u->b≠T:=fun b u q z=>by rw[z,hn]at q;cases q
 have nee:∀b u,H b=some u->b≠e:=fun b u q z=>by rw[z,e0]at q;cases q
 have nei:∀b u,H b=some u->b≠it:=fun b u q z=>by rw[z,i0]at q;cases q
 have neoT:∀b o,s.heap.get? b=some o->b≠T:=fun b o q z=>absurd (AD (An q) hT) (by rw[z];exact Bg _)
 refine I.step (g':=s.gens) (d':=s.drawn) (ch:=[e,it]) (fun b hb=>?_) (fun b o _ _ hc q _=>k b o (fun z=>hc (by simp[z])) (fun z=>hc (by simp[z])) q) (fun b o _ _ hc q _=>⟨o.slots,k b o (fun z=>hc (by simp[z])) (fun z=>hc (by simp[z])) q⟩)
  (fun b o _ q m=>by rw[zI (neoT b o q)];exact m) (fun b o hc q=>⟨o,k b o (fun z=>hc (by simp[z])) (fun z=>hc (by simp[z])) q⟩) (fun b xs q=>by rw[zI (neT b _ q)];exact q) (fun b o u q=>by rw[zI (neT b _ q)];exact q)
  (fun b ps q=>⟨#[],by rw[zI (neT b _ q),q];simp⟩) (fun m hm=>?_) (fun b u q=>?_) I.bare
 . rcases Al.mp hb with z|hb
   . subst z;exact⟨e3,e1,e4,e5⟩
   . have z:=Aq.mp hb
     subst z;exact⟨i3,i1,i4,i5⟩
 . obtain⟨o,es,ep,ho,r⟩:=hm
   exact⟨o,es,ep,k _ o (Bq e1) (Bq i1) ho,r⟩
 . by_cases hb:b=T
   . subst hb
     rw[zN]at q
     cases q
     exact⟨hz,its,r,_,ho,rfl,n,rfl,rfl⟩
   . rw[zI hb]at q
     refine(I.hok b u q).qf (fun c v hc w=>k c v ?_ ?_ w) (fun c hc=>by rw[zI (neT c _ hc)];exact hc) fun c xs hc=>by rw[zI (neT c _ hc)];exact hc
     . rcases hc with z|z
       . rw[z];exact nee b u q
       . exact nee c _ z
     . rcases hc with z|z
       . rw[z];exact nei b u q
       . exact nei c _ z
theorem Inv.iH{X:Cx}{pins:List (Addr × Obj)}{σ:St}{H:Hp}{s:Shared}{h':Heap}{t':Nat}{it:Addr}(I:Inv X pins σ H s)(fi:vx X pins H it)(k:∀b o,b≠it->s.heap.get? b=some o->h'.get? b=some o):Inv X pins σ H {s with heap:=h',toks:=t'}:=by
 obtain⟨i0,i1,i2,i3,i4,i5⟩:=fi
 exact I.turned k i0 i1 i3 i4 i5
theorem gy{P:Program}{w:World}{K:Af}{elts:List Expr}{x1:Nat}{pos:Pos}(a e it:Addr)(hei:e≠it):Turn P w K (.Tuple elts x1 pos) (Ite K a) [e,it] e (fun i h=>(∃old,IsEnum h e it (i:Nat) old)/\h.IsTupleIter it a i) where
 mem:=by simp
 obj:=fun i h st b hb=>by
  rcases Al.mp hb with z|hb
  . subst z
    obtain⟨old,he⟩:=st.1
    exact⟨_,he,fun v z=>by cases (show GG _=Data.cell v from z)⟩
  . have z:=Aq.mp hb
    subst z
    obtain⟨o,q,c,d⟩:=st.2
    exact⟨o,q,fun v z=>by rw[d]at z;cases z⟩
 keep:=fun i h h' st k=>⟨let ⟨old,he⟩:=st.1;⟨old,k e (by simp) _ he⟩,st.2.at fun o q=>k it (by simp) o q⟩
 item:=by
  intro X hP hw hK hc i pins s σ H E I hf st hg
  subst hP hw hK
  obtain⟨xs,x,hq,hx⟩:=hg
  obtain⟨⟨old,he⟩,hit⟩:=st
  obtain⟨its,rv,p,hz⟩:=I.tuple hq
  obtain⟨u,hu,ru⟩:=rv.get hx
  have hlen:=rv.length
  have hi:i<xs.length:=(As.mp hx).1
  have hai:a≠it:=fun z=>by
   obtain⟨o1,q1,c1,_⟩:=id p
   obtain⟨o2,q2,c2,_⟩:=id hit
   rw[z,q2]at q1;cases q1
   rw[c2]at c1;exact absurd (Dp c1) (by decide)
  have hae:a≠e:=fun z=>by
   obtain⟨o1,q1,c1,_⟩:=id p
   have he':s.heap.get? e=_:=he
   rw[z,he']at q1;cases q1
   exact absurd (Dp c1) (by decide)
  have D:=pC (prog:=X.prog) (w:=X.w) (A:=X.A.in1) (I.ok.hd hc) it a hai its.toArray
  refine Gr D he ⟨hit,p⟩ (by rw[Ah];omega) hei (fun m=>?_) fun v h1 tk hP ho hs1 hT hsz hk=>?_
  . rcases Al.mp m with z|m
    . exact hei z
    . exact hae (Aq.mp m).symm
  . have hP:its.toArray[i]?=some v:=hP
    have ev:v=u:=by
     rw[CN,hu]at hP
     exact(AG hP).symm
    subst ev
    refine⟨_,rfl,FF (s:={s with heap:=h1,toks:=tk+1}) ho fun h2 he2 sb=>?_⟩
    have sz:s.heap.objs.size≠e:=Dk (An he)
    refine⟨.ref s.heap.objs.size,_,Inv.iI (s:=s) (h':=h2) (t':=tk+1) (T:=s.heap.objs.size) (ys:=[.int (i:Nat),x]) (its:=[.int (i:Nat) tk,v]) (n:=0) I (hf e (by simp)) (hf it (by simp)) (fun b o h1' h2' q=>(sb.2 b h1').trans (hk b o h1' h2' q)) (Ag _) (by rw[A3];show 2<=_;decide) (.cons ⟨tk,rfl⟩ (.cons ru .nil)) ((sb.2 _ sz).trans hT),rfl,
     ⟨s.heap.objs.size,x,I.hok.fresh (Ag _),rfl,fun ys hy=>by rw[I.pX hy hq];exact hx,rfl⟩,⟨⟨v,by simpa using he2⟩,hs1.1.at fun o q=>(sb.2 it (Bq hei)).trans q⟩,fun b hb=>?_⟩
    rw[zI (fun z=>?_)]
    . exact(hf b hb).1
    . have hlt:b<s.heap.objs.size:=by
       rcases Al.mp hb with y|hb
       . rw[y];exact An he
       . rw[Aq.mp hb];obtain⟨o,q,_⟩:=hit;exact An q
      exact absurd z (AB hlt)
 done:=by
  intro X hP hw hK hc i pins s σ H E I hf st hg
  subst hP hw hK
  obtain⟨xs,hq,hx⟩:=hg
  obtain⟨⟨old,he⟩,hit⟩:=st
  obtain⟨its,rv,p,hz⟩:=I.tuple hq
  have hlen:=rv.length
  have hai:a≠it:=fun z=>by
   obtain⟨o1,q1,c1,_⟩:=id p
   obtain⟨o2,q2,c2,_⟩:=id hit
   rw[z,q2]at q1;cases q1
   rw[c2]at c1;exact absurd (Dp c1) (by decide)
  have D:=pC (prog:=X.prog) (w:=X.w) (A:=X.A.in1) (I.ok.hd hc) it a hai its.toArray
  have en:its.toArray.size=i:=by rw[Ah];omega
  exact wpAny_pyNext_enum_endD D he ⟨by rw[en];exact hit,p⟩ fun h' eb=>⟨rfl,I.iH (t':=s.toks) (hf it (by simp)) fun b o hb q=>eb b o hb q⟩
 self:=fun _ _ _ _ _ st h=>let ⟨old,he⟩:=st.1;Eh he h
noncomputable def Xk(K:Af)(a:Addr):It:=
 ⟨fun i H=>∃xs x,SqL K H a xs/\xs[i]?=some x,fun i H x H'=>∃t y,H t=none/\x=.ref t/\(∀xs,SqL K H a xs->xs[i]?=some y)/\H'=upd H t (.tup [.int (i:Nat),y]),fun i H=>∃xs,SqL K H a xs/\xs.length=i⟩
theorem ku{P:Program}{w:World}{K:Af}{elts:List Expr}{x1:Nat}{pos:Pos}(a e it:Addr)(hei:e≠it):Turn P w K (.Tuple elts x1 pos) (Xk K a) [e,it] e (fun i h=>(∃old,IsEnum h e it (i:Nat) old)/\h.IsListIter it a i) where
 mem:=by simp
 obj:=fun i h st b hb=>by
  rcases Al.mp hb with z|hb
  . subst z
    obtain⟨old,he⟩:=st.1
    exact⟨_,he,fun v z=>by cases (show GG _=Data.cell v from z)⟩
  . have z:=Aq.mp hb
    subst z
    obtain⟨o,q,c,d⟩:=st.2
    exact⟨o,q,fun v z=>by rw[d]at z;cases z⟩
 keep:=fun i h h' st k=>⟨let ⟨old,he⟩:=st.1;⟨old,k e (by simp) _ he⟩,st.2.at fun o q=>k it (by simp) o q⟩
 item:=by
  intro X hP hw hK hc i pins s σ H E I hf st hg
  subst hP hw hK
  obtain⟨xs,x,hq,hx⟩:=hg
  obtain⟨⟨old,he⟩,hit⟩:=st
  obtain⟨its,rv,p0,hz⟩:=I.list hq
  have p:=p0.isList
  obtain⟨u,hu,ru⟩:=rv.get hx
  have hlen:=rv.length
  have hi:i<xs.length:=(As.mp hx).1
  have hai:a≠it:=fun z=>by
   obtain⟨o1,q1,c1,_⟩:=id p
   obtain⟨o2,q2,c2,_⟩:=id hit
   rw[z,q2]at q1;cases q1
   rw[c2]at c1;exact absurd (Dp c1) (by decide)
  have hae:a≠e:=fun z=>by
   obtain⟨o1,q1,c1,_⟩:=id p
   have he':s.heap.get? e=_:=he
   rw[z,he']at q1;cases q1
   exact absurd (Dp c1) (by decide)
  have D:=Draws.list (prog:=X.prog) (w:=X.w) (A:=X.A.in1) (I.ok.hd hc) it a hai its.toArray
  refine Gr D he ⟨hit,p⟩ (by rw[Ah];omega) hei (fun m=>?_) fun v h1 tk hP ho hs1 hT hsz hk=>?_
  . rcases Al.mp m with z|m
    . exact hei z
    . exact hae (Aq.mp m).symm
  . have hP:its.toArray[i]?=some v:=hP
    have ev:v=u:=by
     rw[CN,hu]at hP
     exact(AG hP).symm
    subst ev
    refine⟨_,rfl,FF (s:={s with heap:=h1,toks:=tk+1}) ho fun h2 he2 sb=>?_⟩
    have sz:s.heap.objs.size≠e:=Dk (An he)
    refine⟨.ref s.heap.objs.size,_,Inv.iI (s:=s) (h':=h2) (t':=tk+1) (T:=s.heap.objs.size) (ys:=[.int (i:Nat),x]) (its:=[.int (i:Nat) tk,v]) (n:=0) I (hf e (by simp)) (hf it (by simp)) (fun b o h1' h2' q=>(sb.2 b h1').trans (hk b o h1' h2' q)) (Ag _) (by rw[A3];show 2<=_;decide) (.cons ⟨tk,rfl⟩ (.cons ru .nil)) ((sb.2 _ sz).trans hT),rfl,
     ⟨s.heap.objs.size,x,I.hok.fresh (Ag _),rfl,fun ys hy=>by rw[I.mF hy hq];exact hx,rfl⟩,⟨⟨v,by simpa using he2⟩,hs1.1.at fun o q=>(sb.2 it (Bq hei)).trans q⟩,fun b hb=>?_⟩
    rw[zI (fun z=>?_)]
    . exact(hf b hb).1
    . have hlt:b<s.heap.objs.size:=by
       rcases Al.mp hb with y|hb
       . rw[y];exact An he
       . rw[Aq.mp hb];obtain⟨o,q,_⟩:=hit;exact An q
      exact absurd z (AB hlt)
 done:=by
  intro X hP hw hK hc i pins s σ H E I hf st hg
  subst hP hw hK
  obtain⟨xs,hq,hx⟩:=hg
  obtain⟨⟨old,he⟩,hit⟩:=st
  obtain⟨its,rv,p0,hz⟩:=I.list hq
  have p:=p0.isList
  have hlen:=rv.length
  have hai:a≠it:=fun z=>by
   obtain⟨o1,q1,c1,_⟩:=id p
   obtain⟨o2,q2,c2,_⟩:=id hit
   rw[z,q2]at q1;cases q1
   rw[c2]at c1;exact absurd (Dp c1) (by decide)
  have D:=Draws.list (prog:=X.prog) (w:=X.w) (A:=X.A.in1) (I.ok.hd hc) it a hai its.toArray
  have en:its.toArray.size=i:=by rw[Ah];omega
  exact wpAny_pyNext_enum_endD D he ⟨by rw[en];exact hit,p⟩ fun h' eb=>⟨rfl,I.iH (t':=s.toks) (hf it (by simp)) fun b o hb q=>eb b o hb q⟩
 self:=fun _ _ _ _ _ st h=>let ⟨old,he⟩:=st.1;Eh he h
noncomputable def Uq(K:Af)(ta:TA):TI:=fun σ H R=>ta σ H fun vs H1=>∃a,vs=[.ref a]/\(((∃xs,SqT K H1 a xs)/\R (Ite K a) H1)\/((∃xs,SqL K H1 a xs)/\R (Xk K a) H1))
theorem YE{X:Cx}{elts:List Expr}{x1:Nat}{tpos:Pos}{a:Expr}{ta:TA}{p pos:Pos}(hg:Gl X "enumerate")(hm:X.mg "enumerate"=none)(ha:PA X [a] ta)(hs:AM [a] X.env=[(false,eval a X.env)]:=by rfl):PI X (.Tuple elts x1 tpos) (.Call (.Name "enumerate" p) [a] [] pos) (Uq X.K ta):=by
 intro pins s σ H R I h
 refine Call_ (uD I hg hm boot_enumerate (CH (thn (ha pos pins s σ H _ I h) fun us s1 ⟨vs,H1,I1,r1,q1⟩=>?_) hs rfl))
 obtain⟨c,e,q⟩:=q1
 subst e
 cases r1 with
 |cons r rr=>
  cases rr
  cases r
  have fp:∀b∈[s1.heap.objs.size+1,s1.heap.objs.size],vx X pins H1 b:=fun b hb=>by
   have hb':s1.heap.objs.size<=b:=by
    rcases Al.mp hb with z|hb
    . rw[z];exact Dg _
    . rw[Aq.mp hb];exact Ag _
   exact I1.ZL hb' (I1.hok.fresh hb')
  rcases q with⟨⟨xs,hq⟩,q⟩|⟨⟨xs,hq⟩,q⟩
  . obtain⟨its,rv,pt,hz⟩:=I1.tuple hq
    refine qX (show s1.heap.IsTuple c its.toArray from pt) fun h' he hit hsz hk=>Eh he ?_
    exact⟨s1.heap.objs.size+1,[s1.heap.objs.size+1,s1.heap.objs.size],_,_,H1,rfl,I1.kept (t':=s1.toks) hk,gy c _ _ (Nat.succ_ne_self _),⟨⟨_,he⟩,hit⟩,fp,q⟩
  . obtain⟨its,rv,pt,hz⟩:=I1.list hq
    refine call_enumerate_list pt.isList fun h' he hit hsz hk=>Eh he ?_
    exact⟨s1.heap.objs.size+1,[s1.heap.objs.size+1,s1.heap.objs.size],_,_,H1,rfl,I1.kept (t':=s1.toks) hk,ku c _ _ (Nat.succ_ne_self _),⟨⟨_,he⟩,hit⟩,fp,q⟩
end L2
end
section
namespace L2
open PySem PyProof.Rows
noncomputable def intsOf:List Expr->Option (List Int)
 |[]=>some []
 |.Constant (.int i) _ _::es=>(intsOf es).map fun r=>i::r
 |.UnaryOp .USub (.Constant (.int i) _ _) _::es=>(intsOf es).map fun r=>-i::r
 |_=>none
end L2
end
section
namespace L2
open PySem PyProof.Rows
section
variable {X:Cx}{a b:Expr}{rest:List Expr}{ta tb:TE}{pos:Pos}
noncomputable def Ri(K:Af)(ta tb:TE):TE:=fun σ H Q=>ta σ H fun x H1=>∃c,ae K x H1 c/\if c=true then Q x H1 else tb σ H1 Q
theorem Vd(ha:PE X a ta)(hb:PE X (.BoolOp .Or (b::rest) pos) tb):PE X (.BoolOp .Or (a::b::rest) pos) (Ri X.K ta tb):=by
 intro pins s σ H Q I h
 refine BoolOp_or (thn (ha pins s σ H _ I h) fun v s1 ⟨x,H1,I1,r1,c,ht,q1⟩=>?_)
 refine thn (aM pins s1 σ H1 x v (fun k H2=>if k=true then Q x H2 else tb σ H2 Q) I1 r1 ⟨c,ht,q1⟩) fun k s2 ⟨H2,I2,q2⟩=>?_
 cases k with
 |false=>exact hb pins s2 σ H2 Q I2 q2
 |true=>exact⟨x,H2,I2,r1,q2⟩
end
noncomputable def vR(n:Nat)(lo hi:Option Int)(c:Int):Int × Nat:=((By lo hi (some c) n).1,(if c > 0 then (if (By lo hi (some c) n).1<(By lo hi (some c) n).2.1 then ((By lo hi (some c) n).2.1-(By lo hi (some c) n).1+c-1)/c else 0) else (if (By lo hi (some c) n).1 > (By lo hi (some c) n).2.1 then ((By lo hi (some c) n).1-(By lo hi (some c) n).2.1-c-1)/(-c) else 0):Int).toNat)
theorem vZ(its:List Value)(lo hi:Option Int)(c:Int):G7 its.toArray lo hi (some c)=(zw its (vR its.length lo hi c).1 c (vR its.length lo hi c).2).toArray:=by
 unfold G7 sliceRange zw vR
 rw[B8]
 refine congrArg List.toArray ?_
 have e:(By lo hi (some c) its.toArray.size).2.2=c:=rfl
 rw[e]
 simp only[Ah]
 refine congrArg (fun f=>List.filterMap f _) ?_
 funext k
 show its.toArray[_]?=_
 rw[CN,Int.mul_comm]
noncomputable def SK(K:Af):V->Option Int->Option Int->Option Int->Hp->VK->Prop:=fun x lo hi st H Q=>∃a xs c,x=.ref a/\SqL K H a xs/\st=some c/\c≠0/\∀p,H p=none->Q (.ref p) (upd H p (.lst (zw xs (vR xs.length lo hi c).1 c (vR xs.length lo hi c).2)))
theorem kF{X:Cx}{e:Expr}{te:TE}{lo hi:Option Expr}{st:Expr}{tl th tc:TO}{pos p2:Pos}(he:PE X e te)(hl:PO X lo tl)(hu:PO X hi th)(hc:PO X (some st) tc):PE X (.Subscript e (.Slice lo hi (some st) p2) pos) (Sq (SK X.K) te tl th tc):=by
 intro pins s σ H Q I h
 refine GW (thn (he pins s σ H _ I h) fun v s1 ⟨x,H1,I1,r1,q1⟩=>?_)
 refine wpAny_Slice (thn (hl pins s1 σ H1 _ I1 q1) fun vl s2 ⟨l,H2,I2,pl,q2⟩=>thn (hu pins s2 σ H2 _ I2 q2) fun vu s3 ⟨u,H3,I3,pu,q3⟩=>thn (hc pins s3 σ H3 _ I3 q3) fun vc s4 ⟨c,H4,I4,pc,q4⟩=>?_)
 obtain⟨a,xs,cc,rfl,hx,ec,h0,g⟩:=q4
 subst ec
 cases r1
 have I5:Inv X pins σ H4 {s4 with heap:=s4.heap.push {cls:=.type "slice",data:=.fields #[vl,vu,vc]}}:=I4.kept (t':=s4.toks) fun b ob q=>Ad _ q
 obtain⟨its,r,ht,hz⟩:=I5.list hx
 have hlen:=r.length
 show wpAny (model X.prog X.w) X.A (FD e (.Slice lo hi (some st) p2) (.ref a) (.ref s4.heap.objs.size)) (EP X pins σ Q) X.xe {s4 with heap:=s4.heap.push {cls:=.type "slice",data:=.fields #[vl,vu,vc]}}
 refine tail_any (ops:=[.ref a,.ref s4.heap.objs.size]) ht.isList.typeIs FQ.lookup (F6 ht.isList (Fo ..) pl pu pc (fun z=>h0 (AG z)) ?_ (by rw[Ah]<;>omega)) (by with_unfolding_all rfl)
 rw[vZ,<-hlen]
 refine⟨.ref _,_,I5.laid (t':=s4.toks) (o:=.lst (zw xs (vR xs.length l u cc).1 cc (vR xs.length l u cc).2)) (fun b ob q=>Ad _ q) (Ag _) ?_,rfl,g _ (I5.hok.fresh (Ag _))⟩
 have rp:=r.zw (vR xs.length l u cc).1 cc (vR xs.length l u cc).2
 have bound:(zw xs (vR xs.length l u cc).1 cc (vR xs.length l u cc).2).length<=xs.length:=by
  have:=slicePick_size_le its.toArray l u (some cc)
  rw[vZ,Ah,Ah,<-hlen,<-rp.length]at this
  exact this
 exact⟨Ax bound hz,_,0,rp,Ay _ rfl⟩
end L2
end
section
namespace L2
open PySem PyProof PyProof.Rows
section
variable {X:Cx}
noncomputable def U6(z:Str)(ys:List Str):Str:=Txt.join z ys
end
end L2
end
section
namespace L2
open PySem PySem.Spec PyProof PyProof.Rows
section
variable {X:Cx}
noncomputable def Se(ns:List Int):Bool:=decide (ns.length<=1000)&&ns.all fun n=>decide (-1000000<=n)&&decide (n<=1000000)
end
end L2
end
section
namespace L2
open PySem PySem.W PySem.Calls PyProof PyProof.Rows
open AutoSeq1 (wpAny_loadPart')
open SeqAt
theorem eQ{x:V}:∀{xs:List V} {us:List Value},Vals xs us->xs.all vF=true->us.map (eqU x)=xs.map fun y=>eqV y x
 |_,_,.nil,_=>rfl
 |y::ys,u::us,.cons r rs,h=>by
  rw[DA,Aa]at h
  rw[AJ,AJ,eQ rs h.2,lV r h.1]
theorem rl:∀{ns:List Int} {us:List Value},Vals (ns.map V.int) us->IntsAre us ns
 |[],_,.nil=>.nil
 |n::ns,_,.cons ⟨t,e⟩ r=>by subst e;exact .cons _ _ (rl r)
section
variable {X:Cx}
noncomputable def bV(K:Af)(g:List Int->Int):List V->Hp->VK->Prop:=fun xs H Q=>∃(a:Addr) (ns:List Int),xs=[.ref a]/\SqT K H a (ns.map V.int)/\ns≠[]/\Q (.int (g ns)) H
theorem iQ(hc:X.calm=true):yJ X (.builtin "max") (bV X.K (vH 0)):=by
 intro pins s σ H xs us Q I r h
 obtain⟨a,ns,rfl,ha,hne,q⟩:=h
 obtain⟨u,rfl,ru⟩:=vals1 r
 cases ru
 obtain⟨its,rv,pl,hz⟩:=I.tuple ha
 have hlen:=rv.length
 have alt:a<s.heap.objs.size:=by obtain⟨o,ho,_⟩:=id pl;exact An ho
 have hl:its.toArray.size=ns.length:=by rw[Ah,<-hlen,Ai]
 have hpos:0<ns.length:=B1.mpr hne
 have hat:∀(i:Nat) (v:Value),its.toArray[i]?=some v->∃t,v=.int (ns.getD i 0) t:=fun i v hv=>rv.ints (by simpa using hv)
 refine call_max_walk (B6 pl ?_)
 refine⟨s.heap.objs.size,_,_,_,_,_,_,rfl,Walks.tuple (A:=X.A.in1) (I.ok.hd hc) s.heap.objs.size a (AB alt) its.toArray,⟨⟨_,Ay _ rfl,rfl,rfl⟩,?_⟩,fun b hb=>?_,by omega,CmpOf.ints_gt (fun i=>ns.getD i 0) hat,fun v h' tk hP hk=>?_⟩
 . obtain⟨o,ho,hc',n,hd⟩:=id pl
   exact⟨o,Ad _ ho,hc',n,hd⟩
 . rw[A5]
   simp only[Al,BC,or_false]at hb
   rcases hb with e|e
   . rw[e];exact Cz _
   . rw[e];exact BD alt
 . obtain⟨t,rfl⟩:=hat _ _ hP
   obtain⟨b1,b2⟩:=argBest_gt (fun i=>ns.getD i 0) (its.toArray.size-1)
   have e:vH 0 ns=ns.getD (argBest (fun i j=>decide (ns.getD i 0 > ns.getD j 0)) (its.toArray.size-1)) 0:=by
    refine mH ?_ fun x hx=>?_
    . have:argBest (fun i j=>decide (ns.getD i 0 > ns.getD j 0)) (its.toArray.size-1)<ns.length:=by omega
      rw[Aw,Ae this];exact B5 this
    . obtain⟨i,hi,rfl⟩:=Bw hx
      have:=b2 i (by omega)
      simpa [Aw,Ae hi] using this
   refine⟨.int (vH 0 ns),H,I.kept fun b o ho=>hk b o ?_ (Ad _ ho),⟨t,by rw[e]⟩,q⟩
   simpa using AB (An ho)
theorem lR(hc:X.calm=true):yJ X (.builtin "min") (bV X.K (vV 0)):=by
 intro pins s σ H xs us Q I r h
 obtain⟨a,ns,rfl,ha,hne,q⟩:=h
 obtain⟨u,rfl,ru⟩:=vals1 r
 cases ru
 obtain⟨its,rv,pl,hz⟩:=I.tuple ha
 have hlen:=rv.length
 have alt:a<s.heap.objs.size:=by obtain⟨o,ho,_⟩:=id pl;exact An ho
 have hl:its.toArray.size=ns.length:=by rw[Ah,<-hlen,Ai]
 have hpos:0<ns.length:=B1.mpr hne
 have hat:∀(i:Nat) (v:Value),its.toArray[i]?=some v->∃t,v=.int (ns.getD i 0) t:=fun i v hv=>rv.ints (by simpa using hv)
 refine call_min_walk (B6 pl ?_)
 refine⟨s.heap.objs.size,_,_,_,_,_,_,rfl,Walks.tuple (A:=X.A.in1) (I.ok.hd hc) s.heap.objs.size a (AB alt) its.toArray,⟨⟨_,Ay _ rfl,rfl,rfl⟩,?_⟩,fun b hb=>?_,by omega,CmpOf.ints_lt (fun i=>ns.getD i 0) hat,fun v h' tk hP hk=>?_⟩
 . obtain⟨o,ho,hc',n,hd⟩:=id pl
   exact⟨o,Ad _ ho,hc',n,hd⟩
 . rw[A5]
   simp only[Al,BC,or_false]at hb
   rcases hb with e|e
   . rw[e];exact Cz _
   . rw[e];exact BD alt
 . obtain⟨t,rfl⟩:=hat _ _ hP
   obtain⟨b1,b2⟩:=argBest_lt (fun i=>ns.getD i 0) (its.toArray.size-1)
   have e:vV 0 ns=ns.getD (argBest (fun i j=>decide (ns.getD i 0<ns.getD j 0)) (its.toArray.size-1)) 0:=by
    refine mJ ?_ fun x hx=>?_
    . have:argBest (fun i j=>decide (ns.getD i 0<ns.getD j 0)) (its.toArray.size-1)<ns.length:=by omega
      rw[Aw,Ae this];exact B5 this
    . obtain⟨i,hi,rfl⟩:=Bw hx
      have:=b2 i (by omega)
      simpa [Aw,Ae hi] using this
   refine⟨.int (vV 0 ns),H,I.kept fun b o ho=>hk b o ?_ (Ad _ ho),⟨t,by rw[e]⟩,q⟩
   simpa using AB (An ho)
end
end L2
end
section
namespace L2
open PySem PySem.W PySem.Calls PyProof PyProof.Rows
def fF(prog:Program)(w:World)(A:Around)(P:Nat->Value->Prop)(bt:Nat->Nat->Bool)(St:Nat->Heap->Prop):Prop:=
 ∀m i j vi vj (s:Shared) (Q:Value->Shared->Prop) (E:Value->Shared->Prop),St m s.heap->P i vi->P j vj->Q (.bool (bt i j)) s->wpAny (model prog w) A (richCompare .Lt vi vj) Q E s
section
variable {prog:Program}{w:World}{A:Around}{R:Result->Shared->Prop}{I:Addr}{fp wr:List Addr}{n:Nat}{P:Nat->Value->Prop}{St:Nat->Heap->Prop}
theorem gF(W:Walks prog w A.in1 I fp wr n P St)(bt:Nat->Nat->Bool)(hcmp:fF prog w A.in1 P bt St)(S:Addr)(hSf:S ∉ fp) :
 ∀(k j:Nat) (s:Shared) (vb:Value) (c:Nat),n-(j+1)=k->j+1<=n->St (j+1) s.heap->P (argBest bt j) vb ->
 s.heap.get? S=some {cls:=.type "list",dict:=none,data:=.seq #[vb,vb] c,slots:=#[]} ->
 (∀v h' tk,P (argBest bt (n-1)) v->(∀b o,b ∉ wr->b≠S->s.heap.get? b=some o->h'.get? b=some o)->R (.ok (.ret v)) {s with heap:=h',toks:=tk}) ->
 codeAny (model prog w) A (.builtin "min.loop" ⟨[.ref I,.none,.ref S],[]⟩) R s:=by
 have hSw:S ∉ wr:=fun h=>hSf (W.sub _ h)
 have hname:(DU "min"++DU ".loop":String)="min.loop":=by decide
 intro k
 induction k with
 |zero=>
  intro j s vb c hk hj hst hPb hS hR
  have hin:j+1=n:=by omega
  refine DK Gi ?_
  rw[EW CA _]
  show wpAny _ A.in1 (Ft (.ref S) >>= _) _ _ s
  refine Ac (D7 hS rfl ?_)
  show wpAny _ A.in1 (tryCatch (pyNext (.ref I)) _ >>= _) _ _ s
  refine Ac (Fd (W.done s _ _ (hin▸hst) fun h' tk hk'=>?_))
  have hS':=hk' S _ hSw hS
  show wpAny _ A.in1 (updateSeq S (fun _=>#[]) >>= _) _ _ _
  refine Ac ?_
  refine GB hS' rfl (Ac (Fh (Am ?_)))
  refine hR vb _ tk (by rw[<-hin];exact hPb) fun b o hbw hbS e=>(Bs _ _ (Bq hbS)).trans (hk' b o hbw e)
 |succ k ih=>
  intro j s vb c hk hj hst hPb hS hR
  have hlt:j+1<n:=by omega
  refine DK Gi ?_
  rw[EW CA _]
  show wpAny _ A.in1 (Ft (.ref S) >>= _) _ _ s
  refine Ac (D7 hS rfl ?_)
  show wpAny _ A.in1 (tryCatch (pyNext (.ref I)) _ >>= _) _ _ s
  refine Ac (Fd (W.item (j+1) s _ _ hlt hst fun v h' tk hP hst' hk'=>?_))
  have hS':=hk' S _ hSw hS
  show wpAny _ A.in1 (tryCatch (holding [v,v] (richCompare .Lt v vb >>= _)) _ >>= _) _ _ _
  refine Ac (Fd (BY (Ac (hcmp (j+2) (j+1) (argBest bt j) v vb _ _ _ hst' hP hPb ?_))))
  refine Ac (BY (Bx ?_))
  refine Ac (Fh (Am ?_))
  cases hb:bt (j+1) (argBest bt j) with
  |true=>
   simp only[if_true]
   refine Ac ?_
   refine GB hS' rfl (Ac (Fh ?_))
   rw[hname]
   refine Am ⟨FG CA _,ih (j+1) _ v _ (by omega) hlt (W.frame _ _ _ hst' fun b hbf o e=>?_) (by simp only[argBest,hb,if_true];exact hP) (CL _ hS' rfl)
    fun v' h'' tk'' hP' hk''=>?_⟩
   . exact(Bs _ _ (fun h:S=b=>hSf (by rw[h];exact hbf))).trans e
   . exact hR v' h'' tk'' hP' fun b o hbw hbS e=>hk'' b o hbw hbS ((Bs _ _ (Bq hbS)).trans (hk' b o hbw e))
  |false=>
   simp only[AV,if_false]
   refine Ac (Fh ?_)
   rw[hname]
   refine Am ⟨FG CA _,ih (j+1) _ vb c (by omega) hlt hst' (by simp only[argBest,hb,AV,if_false];exact hPb) hS' fun v' h'' tk'' hP' hk''=>?_⟩
   exact hR v' h'' tk'' hP' fun b o hbw hbS e=>hk'' b o hbw hbS (hk' b o hbw e)
theorem sS(W:Walks prog w A.in1 I fp wr n P St)(bt:Nat->Nat->Bool)(hcmp:fF prog w A.in1 P bt St)(S:Addr)(hSf:S ∉ fp)(hn:0<n){s:Shared}{c:Nat}(hst:St 0 s.heap)
 (hS:s.heap.get? S=some {cls:=.type "list",dict:=none,data:=.seq #[] c,slots:=#[]})
 (hR:∀v h' tk,P (argBest bt (n-1)) v->(∀b o,b ∉ wr->b≠S->s.heap.get? b=some o->h'.get? b=some o)->R (.ok (.ret v)) {s with heap:=h',toks:=tk}) :
 codeAny (model prog w) A (.builtin "min.loop" ⟨[.ref I,.none,.ref S],[]⟩) R s:=by
 have hSw:S ∉ wr:=fun h=>hSf (W.sub _ h)
 have hname:(DU "min"++DU ".loop":String)="min.loop":=by decide
 refine DK Gi ?_
 rw[EW CA _]
 show wpAny _ A.in1 (Ft (.ref S) >>= _) _ _ s
 refine Ac (D7 hS rfl ?_)
 show wpAny _ A.in1 (tryCatch (pyNext (.ref I)) _ >>= _) _ _ s
 refine Ac (Fd (W.item 0 s _ _ hn hst fun v h' tk hP hst' hk'=>?_))
 have hS':=hk' S _ hSw hS
 show wpAny _ A.in1 (updateSeq S (fun _=>#[v,v]) >>= _) _ _ _
 refine Ac ?_
 refine GB hS' rfl ?_
 rw[hname]
 refine Am ⟨FG CA _,gF W bt hcmp S hSf _ 0 _ v _ rfl hn (W.frame _ _ _ hst' fun b hbf o e=>?_) hP (CL _ hS' rfl) fun v' h'' tk'' hP' hk''=>?_⟩
 . exact(Bs _ _ (fun h:S=b=>hSf (by rw[h];exact hbf))).trans e
 . exact hR v' h'' tk'' hP' fun b o hbw hbS e=>hk'' b o hbw hbS ((Bs _ _ (Bq hbS)).trans (hk' b o hbw e))
end
section
variable {prog:Program}{w:World}{A:Around}{E:Value->Shared->Prop}{s:Shared}
theorem call_min_walkS{x:Value}{Q:Value->Shared->Prop}
 (h:wpAny (model prog w) A.in1 (pyIter x) (fun it s₂=>∃I fp wr n P St bt,it=.ref I/\Walks prog w A.in1 I fp wr n P St/\St 0 s₂.heap/\(∀b∈fp,b<s₂.heap.objs.size)/\0<n/\fF prog w A.in1 P bt St /\
  ∀v h' tk,P (argBest bt (n-1)) v->(∀b o,b ∉ wr->s₂.heap.get? b=some o->h'.get? b=some o)->Q v {s₂ with heap:=h',toks:=tk}) E s) :
 wpAny (model prog w) A (call (.builtin "min") [x]) Q E s:=by
 have hname:(DU "min"++DU ".loop":String)="min.loop":=by decide
 refine call_function_tree F.kind_min F.plain_min F.entry_min (F.args_min1 _) ?_
 show wpAny _ A.in1 (Fu "min" ["key","default"] 0 ⟨[],[]⟩ >>= _) _ _ s
 refine Ac (wpAny_of_eq (show Fu "min" ["key","default"] 0 ⟨[],[]⟩=pure [none,none] from rfl) ?_)
 refine Ac (Am ?_)
 refine Ac (Ba h (fun it s₂ h₂=>?_) fun _ _ e=>e)
 obtain⟨I,fp,wr,n,P,St,bt,rfl,W,hst,hfp,hn,hcmp,hQ⟩:=h₂
 refine Ac (Be ?_)
 have hSf:s₂.heap.objs.size ∉ fp:=fun hm=>Bg _ (hfp _ hm)
 rw[hname]
 refine Am ⟨FG CA _,sS W bt hcmp s₂.heap.objs.size hSf hn (W.frame _ _ _ hst fun b _ o e=>Ad _ e) (Ay _ rfl) fun v h' tk hP hk=>?_⟩
 exact hQ v h' tk hP fun b o hbw e=>hk b o hbw (AB (An e)) (Ad _ e)
end
end L2
end
section
namespace L2
open PySem PySem.W PySem.Calls PyProof PyProof.Rows
open AutoSeq1 (wpAny_loadPart')
open SeqAt
noncomputable def we:List Int->List Int->Bool
 |[],[]=>false
 |[],_::_=>true
 |_::_,[]=>false
 |x::xs,y::ys=>if x=y then we xs ys else decide (x<y)
end L2
namespace L2
open PySem PySem.W PySem.Calls PyProof PyProof.Rows
theorem k7{prog:Program}{w:World}{A:Around}{I:Addr}{fp wr:List Addr}{n:Nat}{P:Nat->Value->Prop}{St:Nat->Heap->Prop}(W:Walks prog w A I fp wr n P St)(tps:List Addr)(G:Heap->Prop)
 (hG:∀h h',(∀b∈tps,∀o,h.get? b=some o->h'.get? b=some o)->G h->G h') (hd:∀b∈tps,b ∉ wr):Walks prog w A I (fp++tps) wr n P (fun i h=>St i h/\G h) where
 sub:=fun b hb=>Bc _ (W.sub b hb)
 frame:=fun i h h' st hk=>⟨W.frame i h h' st.1 fun b hb=>hk b (Bc _ hb),hG h h' (fun b hb=>hk b (AU _ hb)) st.2⟩
 item:=fun i s Q E hi st hQ=>W.item i s Q E hi st.1 fun v h' tk hp hs hk=>hQ v h' tk hp ⟨hs,hG _ _ (fun b hb o e=>hk b o (hd b hb) e) st.2⟩ hk
 done:=fun s Q E st hQ=>W.done s Q E st.1 hQ
 self:=fun i s Q E st hQ=>W.self i s Q E st.1 hQ
noncomputable def oY:List (List Int)->List Int
 |[]=>[]
 |z::t=>t.foldl (fun m y=>if we y m then y else m) z
theorem jJ{bt:Nat->Nat->Bool}:∀k,argBest bt k<=k
 |0=>Ag _
 |k+1=>by
  unfold argBest
  have:=jJ (bt:=bt) k
  split<;>omega
theorem qp(zs:List (List Int)):∀k,k<zs.length->zs.getD (argBest (fun i j=>we (zs.getD i []) (zs.getD j [])) k) []=((zs.drop 1).take k).foldl (fun m y=>if we y m then y else m) (zs.getD 0 [])
 |0,_=>rfl
 |k+1,h=>by
  have ih:=qp zs k (by omega)
  have ht:(zs.drop 1).take (k+1)=(zs.drop 1).take k++[zs.getD (k+1) []]:=by
   rw[List.take_add_one]
   congr 1
   rw[List.getElem?_drop,show 1+k=k+1 by omega,Ae h,Aw,Ae h];rfl
  rw[ht,List.foldl_append,<-ih]
  show zs.getD (argBest _ (k+1)) []=if we (zs.getD (k+1) []) (zs.getD (argBest _ k) []) then zs.getD (k+1) [] else zs.getD (argBest _ k) []
  show zs.getD (if we (zs.getD (k+1) []) (zs.getD (argBest _ k) []) then k+1 else argBest _ k) []=_
  split<;>rfl
theorem fR{zs:List (List Int)}(h:zs≠[]):zs[argBest (fun i j=>we (zs.getD i []) (zs.getD j [])) (zs.length-1)]?=some (oY zs):=by
 have hpos:0<zs.length:=B1.mpr h
 have hle:=jJ (bt:=fun i j=>we (zs.getD i []) (zs.getD j [])) (zs.length-1)
 have hlt:argBest (fun i j=>we (zs.getD i []) (zs.getD j [])) (zs.length-1)<zs.length:=by omega
 have hb:=qp zs (zs.length-1) (by omega)
 rw[Aw,Ae hlt]at hb
 rw[Ae hlt]
 congr 1
 refine GY hb ?_
 cases zs with
 |nil=>exact absurd rfl h
 |cons z t=>rw[List.drop_succ_cons,Dn,List.take_of_length_le (by rw[Ar];omega)];rfl
theorem iq{us:List Value}{z:List Int}(h:nS us z):IntsAre us z:=by
 induction h with
 |nil=>exact .nil
 |cons _ ih=>exact .cons _ _ ih
end L2
end
section
namespace PySem
open Sem (wp)
section
variable {prog:Program}{w:World}{A:Around}{E:Value->Shared->Prop}{s:Shared}
theorem rO{l:Addr}{items:Array Value}{ns:List Int}{Q:Value->Shared->Prop}
 (hh:A.handled=none) (hl:s.heap.IsTuple l items) (hi:PyProof.Rows.IntsAre items.toList ns) (hb:items.size+1<scanBound)
 (h:∀(h':Heap) (tk:Nat),h'.SetOf (intKind prog w) s.heap.objs.size (fun k'=>(CO (fun i=>ns.getD i 0) items.size).any (· == k')) (CO (fun i=>ns.getD i 0) items.size).length ->
  (∀b o,b<s.heap.objs.size->s.heap.get? b=some o->h'.get? b=some o)->Q (.ref s.heap.objs.size) {s with heap:=h',toks:=tk}) :
 wpAny (model prog w) A (call (.type "set") [.ref l]) Q E s:=by
 obtain⟨c,tl,hmro⟩:=C4.mro
 have hmade:=C4.made
 have hsub:=C4.sub
 refine D4 (codeAny_of_tree ?_)
 show wpAny _ _ (callAny (.type "set") _) _ _ _
 refine Am ⟨DV _ (by decide +kernel),DK F.entry_type_call ?_⟩
 rw[Around.under_plain (weight_type_call_type "set" [.ref l] []) rfl]
 have h1:=C4.notType
 have h2:=C4.canCreate
 have hct:=F.typeCall_set_1 (.ref l)
 repeat (any_goals (first|assumption|wp_step))
 refine CI (code_set_new_1 (.ref l) (E:=E) (Q₁:=fun obj s₁=>∃led:Bool,obj=.ref s.heap.objs.size/\s₁={s with heap:=s.heap.push {cls:=.type "set",dict:=none,data:=.set #[] 0 (.fresh 0 0 led)}}) fun led=>⟨led,rfl,rfl⟩) fun r s₁ hr=>?_
 cases r with
 |error e=>exact hr
 |ok fl=>
  cases fl with
  |ret obj=>
   obtain⟨led,rfl,rfl⟩:=hr
   have hS:(s.heap.push {cls:=.type "set",dict:=none,data:=.set #[] 0 (.fresh 0 0 led)}).get? s.heap.objs.size=some {cls:=.type "set",dict:=none,data:=.set #[] 0 (.fresh 0 0 led)}:=Ay _ rfl
   have hT:Shared.TypeIs {s with heap:=s.heap.push {cls:=.type "set",dict:=none,data:=.set #[] 0 (.fresh 0 0 led)}} (.ref s.heap.objs.size) "set":=⟨_,hS,rfl⟩
   have hli:=C4.init.lookup
   have hbi:=C4.init.bind (.ref s.heap.objs.size)
   repeat (any_goals (first|assumption|wp_step))
   refine CI (Dv (R:=wants (fun r s₂=>r=.none/\∃h' tk,s₂={s with heap:=h',toks:=tk} /\
    h'.SetOf (intKind prog w) s.heap.objs.size (fun k'=>(CO (fun i=>ns.getD i 0) items.size).any (· == k')) (CO (fun i=>ns.getD i 0) items.size).length /\
    (∀b o,b<s.heap.objs.size->s.heap.get? b=some o->h'.get? b=some o)) E) C4.init.plain F.entry_set_init (check_set_init_1 hT ?_)) fun r₂ s₂ hr₂=>?_
   . obtain⟨ol,hol,hcl,nl,hdl⟩:=hl
     obtain⟨ocls,odict,odata,oslots⟩:=ol
     simp only at hcl hdl
     subst hcl;subst hdl
     have hol':(s.heap.push {cls:=.type "set",dict:=none,data:=.set #[] 0 (.fresh 0 0 led)}).get? l=some {cls:=.type "tuple",dict:=odict,data:=.seq items nl,slots:=oslots}:=Ad _ hol
     have hsls:=F.sub_tuple_set
     have hslf:=F.sub_tuple_frozenset
     have hne:(D2 "tuple" == D2 "dict")=false:=by decide
     have hl1:(s.heap.push {cls:=.type "set",dict:=none,data:=.set #[] 0 (.fresh 0 0 led)}).IsTuple l items:=⟨_,hol',rfl,nl,rfl⟩
     unfold Builtin.«set.__init__» noKeywords Builtin.Frozenset.updateFrom
     generalize hPI:pyIter=PI
     wp_walk
     subst hPI
     refine B6 hl1 ?_
     refine Ac (wpAny_runValue ?_)
     have hlS:l<s.heap.objs.size:=An hol
     have hh3:A.in1.in1.in1.handled=none:=by simp[hh]
     have hneI:l≠(s.heap.push {cls:=.type "set",dict:=none,data:=.set #[] 0 (.fresh 0 0 led)}).objs.size:=by
      rw[A5];exact AB (BD hlS)
     have hSf:s.heap.objs.size ∉ [(s.heap.push {cls:=.type "set",dict:=none,data:=.set #[] 0 (.fresh 0 0 led)}).objs.size,l]:=by
      rw[A5];simp only[Al,Aq,BC,or_false,not_or]
      exact⟨AB (Cz _),Dk hlS⟩
     have hval:∀(i:Nat) (v:Value),items[i]?=some v->∃t,v=.int ((fun i=>ns.getD i 0) i) t:=fun i v hv=>
      PyProof.Rows.IntsAre.int_at hi i v (by rw[Array.getElem?_toList];exact hv)
     refine PyProof.Rows.codeAny_set_update_loopS ((Walks.tuple hh3 _ l hneI items).toS) s.heap.objs.size
      hSf (fun i=>ns.getD i 0) hval hb (items.size-0) 0 _ (by omega) (A9 _)
      ⟨⟨_,Ay _ rfl,rfl,rfl⟩,(hl1.push _)⟩ ?hS0 ?hR
     case hS0=>
      have hget:((s.heap.push {cls:=.type "set",dict:=none,data:=.set #[] 0 (.fresh 0 0 led)}).push {cls:=.type "tuple_iterator",data:=.fields #[.ref l,.int 0 0]}).get? s.heap.objs.size
       = some {cls:=.type "set",dict:=none,data:=.set #[] 0 (.fresh 0 0 led)}:=Ad _ hS
      exact PyProof.Rows.SetOf_congr ((PyProof.Rows.setObjOf_fresh (knd:=intKind prog w) led).setOf hget (by unfold scanBound;omega)) (fun _=>rfl) rfl
     case hR=>
      intro s' hm hS'
      obtain⟨h',g',d',tk',os'⟩:=s'
      have eg:g'=s.gens:=hm.gens
      have ed:d'=s.drawn:=hm.drawn
      have eo:os'=s.os:=hm.os
      subst eg;subst ed;subst eo
      show wpAny _ _ _ _ _ _
      refine Am ?_
      show wpAny _ _ (ret Ce) _ _ _
      refine Am ⟨rfl,h',tk',rfl,hS',fun b o hb e=>?_⟩
      have hb1:b≠s.heap.objs.size:=AB hb
      have hb2:b≠(s.heap.push {cls:=.type "set",dict:=none,data:=.set #[] 0 (.fresh 0 0 led)}).objs.size:=by
       rw[A5];exact AB (BD hb)
      exact hm.heap b o (by simp only[Al,Aq,BC,or_false,not_or];exact⟨hb1,hb2⟩) (Ad _ (Ad _ e))
   . cases r₂ with
     |error e=>exact hr₂
     |ok fl₂=>
      cases fl₂ with
      |ret r=>
       obtain⟨rfl,h',tk,rfl,hS',hk'⟩:=hr₂
       repeat (any_goals (first|assumption|wp_step))
       exact h _ _ hS' hk'
      |_=>exact hr₂.elim
  |_=>exact hr.elim
end
end PySem
end
section
namespace L2
open PySem PySem.W PySem.Calls PyProof PyProof.Rows
noncomputable def dN(ns:List Int):Nat:=(firstMet (fun i=>ns.getD i 0) ns.length).length
theorem iU{X:Cx}(hc:X.calm=true):yJ X (.type "set") (fun xs H Q=>∃p ns,xs=[.ref p]/\(SqL X.K H p (ns.map V.int)\/SqT X.K H p (ns.map V.int))/\ns.length<=1000/\∀l S,H l=none->Q (.ref l) (upd H l (.set S (dN ns)))):=by
 intro pins s σ H xs us Q I r h
 obtain⟨p,ns,rfl,hq,h1000,q⟩:=h
 obtain⟨u,rfl,rx⟩:=vals1 r
 cases rx
 have hsb:scanBound=4096:=rfl
 rcases hq with hq|hq
 . obtain⟨its,rv,pl,hz⟩:=I.list hq
   have hl:=rv.length
   rw[Ai]at hl
   refine call_set_list (ns:=ns) (I.ok.hd hc) pl.isList (by simpa using rl rv) (by rw[Ah];omega) fun h' tk hS kp=>?_
   rw[show its.toArray.size=ns.length by rw[Ah];omega]at hS
   exact⟨.ref _,_,I.laid (t':=tk) (o:=.set _ (dN ns)) (fun b o e=>kp b o (An e) e) (Ag _) (show yB X.prog X.w _ _ _ (.set _ (dN ns)) from hS),rfl,q _ _ (I.hok.fresh (Ag _))⟩
 . obtain⟨its,rv,p1,_⟩:=I.tuple hq
   have hl:=rv.length
   rw[Ai]at hl
   refine rO (ns:=ns) (I.ok.hd hc) p1 (by simpa using rl rv) (by rw[Ah];omega) fun h' tk hS kp=>?_
   rw[show its.toArray.size=ns.length by rw[Ah];omega]at hS
   exact⟨.ref _,_,I.laid (t':=tk) (o:=.set _ (dN ns)) (fun b o e=>kp b o (An e) e) (Ag _) (show yB X.prog X.w _ _ _ (.set _ (dN ns)) from hS),rfl,q _ _ (I.hok.fresh (Ag _))⟩
theorem iN{X:Cx}:yJ X (.builtin "len") (fun xs H Q=>∃p S n,xs=[.ref p]/\H p=some (.set S n)/\n<=1000/\Q (.int (n:Nat)) H):=by
 intro pins s σ H xs us Q I r h
 obtain⟨p,S,n,rfl,hp,hn,q⟩:=h
 obtain⟨u,rfl,rx⟩:=vals1 r
 cases rx
 obtain⟨o,es,ep,t,ho,hex,hd,_,_,_,hf,e⟩:=(show s.heap.SetOf (intKind X.prog X.w) p S n from I.hok p _ hp)
 subst e
 exact call_len_set ho hex hd hf (by omega) ⟨.int _,H,I.tok _,⟨_,rfl⟩,q⟩
theorem UY(ns:List Int):dN ns<=ns.length:=firstMet_length_le _ _
end L2
end
section
namespace L2
open PySem PySem.W PySem.Calls PyProof PyProof.Rows
open AutoSeq1 (wpAny_loadPart')
open SeqAt
def HdI(x:Str)(us:List Value)(as:List Int):Prop:=∃t us',us=.str x t::us'/\IntsAre us' as
theorem gx(tx:Str)(x y:Addr)(xs ys:Array Value)(n k:Nat)(d1 d2:Option Addr)(sl1 sl2:Array (Option Value))(as bs:List Int)(h1:HdI tx xs.toList as)(h2:HdI tx ys.toList bs) :
 Meets (Builtin.«tuple.__lt__» ⟨[.ref x,.ref y],[]⟩)
  (fun A R s=>s.heap.get? x=some {cls:=.type "tuple",dict:=d1,data:=.seq xs n,slots:=sl1}/\s.heap.get? y=some {cls:=.type "tuple",dict:=d2,data:=.seq ys k,slots:=sl2}/\R (.ok (.ret (.bool (we as bs)))) s):=
 .of_wp fun prog w A R s h=>by
  obtain⟨hp,g,d,tk,os⟩:=s;obtain⟨hl,hb,h⟩:=h
  have f2:=AutoSeq1.sub_tuple_tuple
  have lenA:∀{vs:List Value} {ns:List Int},IntsAre vs ns->vs.length=ns.length:=fun h=>by
   induction h with
   |nil=>rfl
   |cons _ _ _ ih=>rw[Ar,Ar,ih]
  wp_walk using Bt hl,Bt hb,wpAny_forIn_list _ (fun rest b s'=>b.1=none/\s'=⟨hp,g,d,tk,os⟩/\((∃t1 t2 vs ws,rest=(DL tx t1,DL tx t2)::vs.zip ws/\IntsAre vs as/\IntsAre ws bs/\xs.size+bs.length=ys.size+as.length/\R (.ok (.ret (.bool (we as bs)))) ⟨hp,g,d,tk,os⟩)\/∃vs ws cs ds,rest=vs.zip ws/\IntsAre vs cs/\IntsAre ws ds/\xs.size+ds.length=ys.size+cs.length/\R (.ok (.ret (.bool (we cs ds)))) ⟨hp,g,d,tk,os⟩)) _
  case turn=>
   rintro ⟨u,v⟩ rest b s' ⟨hb',rfl,⟨t1,t2,vs,ws,hz,i1,i2,hn,hR⟩|⟨vs,ws,cs,ds,hz,i1,i2,hn,hR⟩⟩
   . injection hz with hu hr
     cases hu
     refine Ac (wpAny_eqBool_str ?_)
     rw[decide_eq_true rfl]
     wp_walk
     exact⟨rfl,rfl,.inr ⟨_,_,_,_,hr,i1,i2,hn,hR⟩⟩
   cases i1 with
   |nil=>cases hz
   |cons c t1 i1=>
    cases i2 with
    |nil=>rw[List.zip_nil_right]at hz;cases hz
    |cons e t2 i2=>
     rw[DW]at hz
     injection hz with hu hr
     cases hu
     refine Ac (wpAny_eqBool_int ?_)
     rw[we]at hR
     by_cases hce:c=e
     . rw[if_pos hce]at hR
       rw[show (c == e)=true by rw[hce];exact beq_self_eq_true _]
       wp_walk
       exact⟨rfl,rfl,.inr ⟨_,_,_,_,hr,i1,i2,by rw[Ar,Ar]at hn;omega,hR⟩⟩
     . rw[if_neg hce]at hR
       rw[show (c == e)=false from beq_eq_false_iff_ne.mpr hce]
       simp only[Bool.not_false,if_true]
       refine Ac (EN (Ac ?_))
       refine lt_int ?_
       wp_walk
       exact⟨_,rfl,hR⟩
  case fin=>
   rintro ⟨b1,b2⟩ s' ⟨hb',rfl,⟨t1,t2,vs,ws,hz,i1,i2,hn,hR⟩|⟨vs,ws,cs,ds,hz,i1,i2,hn,hR⟩⟩
   . cases hz
   simp only at hb'
   subst hb'
   have e:Builtin.Tuple.tupleCompareSizes .Lt xs.size ys.size=CB (we cs ds):=by
    show CB (decide (xs.size<ys.size))=_
    congr 1
    cases i1 with
    |nil=>
     cases i2 with
     |nil=>exact decide_eq_false (by rw[A8]at hn;omega)
     |cons _ _ _=>exact decide_eq_true (by rw[A8,Ar]at hn;omega)
    |cons _ _ _=>
     cases i2 with
     |nil=>exact decide_eq_false (by rw[A8,Ar]at hn;omega)
     |cons _ _ _=>rw[DW]at hz;cases hz
   wp_walk
   exact⟨_,rfl,by first|(rw[e];exact hR)|exact hR⟩
  case h=>
   obtain⟨t1,us1,e1,i1⟩:=h1
   obtain⟨t2,us2,e2,i2⟩:=h2
   refine⟨rfl,rfl,.inl ⟨t1,t2,us1,us2,by rw[e1,e2];rfl,i1,i2,?_,h⟩⟩
   have e3:=lenA i1
   have e4:=lenA i2
   have e5:=congrArg CZ e1
   have e6:=congrArg CZ e2
   rw[Cv,Ar]at e5 e6
   omega
def aa(K:Af)(H:Hp)(tx:Str)(ys:List V)(zs:List (List Int)):Prop:=ys.length=zs.length/\∀(i:Nat) (z:List Int),zs[i]?=some z->∃b,ys[i]?=some (V.ref b)/\SqT K H b (V.str tx::z.map V.int)
def SV(tx:Str)(h:Heap)(its:List Value)(zs:List (List Int)):Prop:=
 its.length=zs.length/\∀(i:Nat) (z:List Int),zs[i]?=some z->∃b o n us,its[i]?=some (A1 b)/\h.get? b=some o/\o.cls=.type "tuple"/\o.data=.seq (List.toArray us) n/\HdI tx us z
theorem aa.tv{X:Cx}{pins:List (Addr × Obj)}{σ:St}{H:Hp}{s:Shared}(I:Inv X pins σ H s){tx:Str}{ys:List V}{its:List Value}{zs:List (List Int)}(h:aa X.K H tx ys zs)(r:Vals ys its):SV tx s.heap its zs:=by
 refine⟨by rw[<-r.length];exact h.1,fun i z e=>?_⟩
 obtain⟨b,e1,e2⟩:=h.2 i z e
 obtain⟨u,e3,ru⟩:=r.get e1
 obtain⟨us,rt,⟨o,ho,hc,n,hd⟩,_⟩:=I.tuple e2
 have ru':u=A1 b:=ru
 subst ru'
 cases rt with
 |cons r1 r2=>
  obtain⟨t,rfl⟩:=(show ∃t,_=DL tx t from r1)
  exact⟨b,o,n,_,e3,ho,hc,hd,t,_,rfl,iq (Y9 r2)⟩
theorem iT{X:Cx}{k:Nat}{tx:Str}(hc:X.calm=true)(hr:yu k X.A):yJ X (.builtin "min") (fun xs H Q=>∃a ys zs,xs=[.ref a]/\SqL X.K H a ys/\aa X.K H tx ys zs/\zs≠[]/\∀i,zs[i]?=some (oY zs)->Q (ys.getD i .non) H):=by
 intro pins s σ H xs us Q I r h
 obtain⟨a,ys,zs,rfl,ha,ht,hne,q⟩:=h
 obtain⟨u,rfl,ru⟩:=vals1 r
 cases ru
 obtain⟨its,rv,pl,hz⟩:=I.list ha
 have hlen:=rv.length
 have tv:=ht.tv I rv
 have hn:its.length=zs.length:=tv.1
 have alt:a<s.heap.objs.size:=by obtain⟨o,ho,_⟩:=pl.isList;exact An ho
 have hpos:0<zs.length:=B1.mpr hne
 let tps:List Addr:=its.filterMap fun v=>match v with|.ref b=>some b|_=>none
 have hlt:∀b∈tps,b<s.heap.objs.size:=fun b hb=>by
  obtain⟨v,hv,e⟩:=BW.mp hb
  obtain⟨i,hi,rfl⟩:=Bw hv
  obtain⟨b',o,n,us,e1,e2,_⟩:=tv.2 i zs[i] (Ae (by omega))
  rw[Ae hi]at e1
  rw[AG e1]at e
  cases e
  exact An e2
 have hG:∀h h':Heap,(∀b∈tps,∀o,h.get? b=some o->h'.get? b=some o)->SV tx h its zs->SV tx h' its zs:=fun h h' hk t=>⟨t.1,fun i z e=>by
  obtain⟨b,o,n,us,e1,e2,e3,e4,e5⟩:=t.2 i z e
  exact⟨b,o,n,us,e1,hk b (BW.mpr ⟨_,AS e1,rfl⟩) o e2,e3,e4,e5⟩⟩
 have hu:=hr.un
 refine call_min_walkS (Dj pl.isList ?_)
 have W:=k7 (GZ (prog:=X.prog) (w:=X.w) (A:=X.A.in1) (I.ok.hd hc) s.heap.objs.size a (AB alt) its.toArray) tps (fun h=>SV tx h its zs) hG (fun b hb hm=>by have:=hlt b hb;rw[Aq.mp hm]at this;exact Bg _ this)
 refine⟨s.heap.objs.size,_,_,_,_,_,fun i j=>we (zs.getD i []) (zs.getD j []),rfl,W,⟨⟨⟨_,Ay _ rfl,rfl,rfl⟩,?_⟩,?_⟩,fun b hb=>?_,by rw[Ah];omega,?_,fun v h' tk hP hk=>?_⟩
 . obtain⟨o,ho,hc',n,hd⟩:=pl.isList
   exact⟨o,Ad _ ho,hc',n,hd⟩
 . exact hG _ _ (fun b _ o e=>Ad _ e) tv
 . rw[A5]
   rcases AO.mp hb with hb|hb
   . simp only[Al,BC,or_false]at hb
     rcases hb with e|e
     . rw[e];exact Cz _
     . rw[e];exact BD alt
   . exact BD (hlt b hb)
 . intro m i j vi vj s' Q' E' st hi hj hq
   have gt:∀{i:Nat} {v:Value},its.toArray[i]?=some v->∃b o n us,v=.ref b/\s'.heap.get? b=some o/\o.cls=.type "tuple"/\o.data=.seq (List.toArray us) n/\HdI tx us (zs.getD i []):=fun{i v} hv=>by
    rw[CN]at hv
    have hil:=(As.mp hv).1
    obtain⟨b,o,n,us,e1,e2,e3,e4,e5⟩:=st.2.2 i zs[i] (Ae (by omega))
    rw[hv]at e1
    refine⟨b,o,n,us,AG e1,e2,e3,e4,?_⟩
    rw[Aw,Ae (by omega)]
    exact e5
   obtain⟨b,⟨c1,dd1,da1,sl1⟩,n1,us1,rfl,e2,e3,e4,e5⟩:=gt hi
   obtain⟨b',⟨c2,dd2,da2,sl2⟩,n2,us2,rfl,f2,f3,f4,f5⟩:=gt hj
   simp only at e3 e4 f3 f4
   subst e3 e4 f3 f4
   refine richCompare_meets_room (T:="tuple") ⟨_,e2,rfl⟩ ⟨_,f2,rfl⟩ F.slot_tuple_lt F.entry_tuple_lt (F.args_tuple_lt_2 _ _) (gx tx b b' us1.toArray us2.toArray n1 n2 dd1 dd2 sl1 sl2 _ _ (by simpa using e5) (by simpa using f5)) ⟨e2,f2,?_⟩ (by show X.A.units+1<_;omega)
   exact⟨by simp,hq⟩
 . rw[Ah,hn]at hP
   have hb:=fR hne
   have hi:argBest (fun i j=>we (zs.getD i []) (zs.getD j [])) (zs.length-1)<ys.length:=by
    have:=(As.mp hb).1;omega
   rw[CN]at hP
   refine⟨ys.getD (argBest (fun i j=>we (zs.getD i []) (zs.getD j [])) (zs.length-1)) .non,H,I.kept fun b o ho=>hk b o ?_ (Ad _ ho),?_,q _ hb⟩
   . simpa using AB (An ho)
   . obtain⟨u,hu',ru⟩:=rv.get (Ae hi)
     rw[hP]at hu'
     cases hu'
     rw[Aw,Ae hi]
     exact ru
end L2
end
section
namespace PySem
open Sem (wp)
structure xq(B newId initId:String)(bm:List Value):Prop extends ExcCallFacts B newId initId where
 newSplit:splitId newId=some (B,"__new__")
 newKind:builtinKind newId=some .builtinFn
 newRow:Manifest.signature? newId=some ⟨.any,B,B,.cls,[⟨"args",.varPos,false⟩,⟨"kwargs",.varKw,false⟩]⟩
 hasB:bm.contains (.type B)=true
 hasBase:bm.contains (.type "BaseException")=true
 noAttr:bm.contains (.type "AttributeError")=false
 noName:bm.contains (.type "NameError")=false
 canon:Manifest.canonical newId=Manifest.canonical "BaseException.__new__"
theorem ExcBaseFacts.two{B newId initId:String}{bm:List Value}(F:ExcBaseFacts B newId initId bm)(D:Addr):xq B newId initId (.ref D::bm):=
 ⟨F.toExcCallFacts,F.newSplit,F.newKind,F.newRow,by rw[BI,F.hasB,EX],by rw[BI,F.hasBase,EX],by rw[BI,F.noAttr];rfl,by rw[BI,F.noName];rfl,F.canon⟩
section
variable {M:Model}{A:Around}{E:Value->Shared->Prop}{h:Heap}{g:Array F2}{d:Drawn}{t:Nat}{os:OsState}
variable {nm q:Str}{C N:Addr}{bs bm:List Value}{hdct:Bool}{sn:List Str}{sub:List Value}{ab:Bool}{col:Option Bool}{dd:Option Addr}{k0 k1 k2 k3 k5:Option Value}{B newId initId:String}
theorem vM{nm1 q1:Str}{D N1:Addr}{bs1 bm1:List Value}{hd1:Bool}{sn1:List Str}{sub1:List Value}{ab1:Bool}{col1:Option Bool}{dd1:Option Addr}{j0 j1 j2 j3 j5:Option Value}{new1:String}{mN1:Str->Option Value}{name:Str}{mN:Str->Option Value}{y:Option Value}{Q:Option Value->Shared->Prop}
 (hC:h.get? C=some (B2 nm q C N bs bm hdct sn sub ab col dd k0 k1 k2 k3 k5 newId)) (hn:h.Ns N mN) (hni:mN name=none)
 (hD:h.get? D=some (B2 nm1 q1 D N1 bs1 bm1 hd1 sn1 sub1 ab1 col1 dd1 j0 j1 j2 j3 j5 new1)) (hn1:h.Ns N1 mN1) (hni1:mN1 name=none) (hbm:bm=.ref D::bm1) (hb1:mroOf (.type B)=pure bm1) (hB:GV (.type B) name=pure y)
 (hq:Q y ⟨h,g,d,t,os⟩):wpAny M A (GV (.ref C) name) Q E ⟨h,g,d,t,os⟩:=by
 have hrest:lookupAlong bm1 name=pure y:=by rw[typeLookup_eq,hb1]at hB;exact hB
 rw[typeLookup_eq]
 refine Ac (wpAny_mroOf_exc hC ?_)
 rw[lookupAlong_cons]
 refine Ac (wpAny_classOwn_exc hC hn ?_)
 rw[hni,hbm]
 show wpAny M A (lookupAlong (.ref D::bm1) name) Q E _
 rw[lookupAlong_cons]
 refine Ac (wpAny_classOwn_exc hD hn1 ?_)
 rw[hni1,hrest]
 exact Am hq
theorem vg(F:xq B newId initId bm){rest:List Value}{Q:Unit->Shared->Prop}(hC:h.get? C=some (B2 nm q C N bs bm hdct sn sub ab col dd k0 k1 k2 k3 k5 newId))
 (hq:Q () ⟨h,g,d,t,os⟩):wpAny M A (C6 newId ⟨.ref C::rest,[]⟩) Q E ⟨h,g,d,t,os⟩:=by
 have hcont:(A1 C::bm).contains (.type B)=true:=by rw[BI,F.hasB,EX]
 have hstar:=F.noStar
 simp only[C6,F.newKind,F.newSplit,F.newRow]
 repeat (first|refine Bp hC ?_|(refine DG hC ?_;rw[hcont])|refine wpAny_staticBase_exc hC ?_|refine wpAny_madeBy_exc hC ?_|simp only[bne_self_eq_false,AV,if_false]|wp_step)
 exact hq
end
section
variable {prog:Program}{w:World}{A:Around}{R:Result->Shared->Prop}{h:Heap}{g:Array F2}{d:Drawn}{t:Nat}{os:OsState}
variable {nm q:Str}{C N:Addr}{bs bm:List Value}{hdct:Bool}{sn:List Str}{sub:List Value}{ab:Bool}{col:Option Bool}{dd:Option Addr}{k0 k1 k2 k3 k5:Option Value}{B newId initId:String}
theorem vQ(F:xq B newId initId bm){rest:List Value}(hC:h.get? C=some (B2 nm q C N bs bm hdct sn sub ab col dd k0 k1 k2 k3 k5 newId))
 (hq:R (.ok (.ret (.ref (h.objs.size+1)))) ⟨(h.push {cls:=.type "tuple",data:=.seq rest.toArray}).push
  {cls:=.ref C,data:=.fields #[.ref h.objs.size,.none,.none,.none,.bool false,.none]},g,d,t,os⟩) (hrest:rest.length<=AA:=by size_fits) :
 codeAny (model prog w) A (.builtin newId ⟨.ref C::rest,[]⟩) R ⟨h,g,d,t,os⟩:=by
 have hends:=F.ends
 have hcB:(A1 C::bm).contains (.type B)=true:=by rw[BI,F.hasB,EX]
 have hcA:(A1 C::bm).contains (.type "AttributeError")=false:=by rw[BI,F.noAttr];rfl
 have hcN:(A1 C::bm).contains (.type "NameError")=false:=by rw[BI,F.noName];rfl
 refine codeAny_builtinAt F.entry ?_
 unfold Builtin.«BaseException.__new__»
 refine wpAt_bind ?_
 show wpAt _ _ _ (stack >>= _) _ _ _
 refine wpAt_bind (wpAt_stack fun p below=>wpAt_of_wpAny ?_)
 wp_walk
 refine wpAt_of_wpAny ?_
 rw[F.owner]
 repeat (first|with_reducible refine wpAny_madeHere_exc F.canon hC ?_|with_reducible refine Bp hC ?_|(with_reducible refine DG hC ?_;first|rw[hcB]|rw[hcA]|rw[hcN])|wp_step)
 show R _ _
 rw[A5]
 exact hq
end
section
variable {prog:Program}{w:World}{A:Around}{E:Value->Shared->Prop}{h:Heap}{g:Array F2}{d:Drawn}{t:Nat}{os:OsState}
variable {nm q:Str}{C N:Addr}{bs bm:List Value}{hdct:Bool}{sn:List Str}{sub:List Value}{ab:Bool}{col:Option Bool}{dd:Option Addr}{k0 k1 k2 k3 k5:Option Value}{B newId initId:String}
theorem vL(F:xq B newId initId bm){M:Model}{e:Addr}{oe:Obj}{rest:List Value}{Q:Unit->Shared->Prop}
 (hC:h.get? C=some (B2 nm q C N bs bm hdct sn sub ab col dd k0 k1 k2 k3 k5 newId)) (he:h.get? e=some oe) (hcls:oe.cls=.ref C) (hq:Q () ⟨h,g,d,t,os⟩) :
 wpAny M A (C6 initId ⟨.ref e::rest,[]⟩) Q E ⟨h,g,d,t,os⟩:=by
 have hcB:(A1 C::bm).contains (.type B)=true:=by rw[BI,F.hasB,EX]
 have hshort:=F.noStar
 simp only[C6,F.initKind,F.initSplit,F.initRow]
 repeat (first|(with_reducible refine Bp he ?_;rw[hcls])|with_reducible refine Bp hC ?_|(with_reducible refine DG hC ?_;rw[hcB])|wp_step)
 refine wpAny_onRaise ?_
 rw[show ∀(a b:String) (n:Nat),Bind.check ⟨.positional,"*",B,.self,[⟨"args",.varPos,false⟩]⟩ a b n (Fe (fun x=>x.fst) ({pos:=A1 e::rest}:Args).kw)=pure () from
  fun a b n=>check_star_args _ _ _ _ _ _]
 exact Am hq
theorem wZ(F:xq B newId initId bm){nm1 q1:Str}{D N1:Addr}{bs1 bm1:List Value}{hd1:Bool}{sn1:List Str}{sub1:List Value}{ab1:Bool}{col1:Option Bool}{dd1:Option Addr}{j0 j1 j2 j3 j5:Option Value}{new1:String}{mN1:Str->Option Value}{mN:Str->Option Value}{rest:List Value}{Q:Fin->Shared->Prop}
 (hC:h.get? C=some (B2 nm q C N bs bm hdct sn sub ab col dd k0 k1 k2 k3 k5 newId)) (hn:h.Ns N mN) (hni:mN "__init__"=none) (hD:h.get? D=some (B2 nm1 q1 D N1 bs1 bm1 hd1 sn1 sub1 ab1 col1 dd1 j0 j1 j2 j3 j5 new1)) (hn1:h.Ns N1 mN1) (hni1:mN1 "__init__"=none) (hbm:bm=.ref D::bm1) (hb1:mroOf (.type B)=pure bm1) 
 (hq:∀h' e,D8 h h' e (.ref C) rest->Q (.done (.ret (.ref e))) ⟨h',g,d,t,os⟩) (hrest:rest.length<=AA:=by size_fits) :
 wpAny (model prog w) A (Builtin.«type.__call__» ⟨.ref C::rest,[]⟩) Q E ⟨h,g,d,t,os⟩:=by
 repeat (first|with_reducible refine Bp hC ?_|with_reducible refine wpAny_madeBy_exc hC ?_|wp_step)
 refine codeAny_call_builtin_code (DV _ F.quiet) (vg F hC ?_)
 refine vQ F hC ?_ hrest
 show wpAny _ _ _ _ _ _
 have hC₁:=Ad {cls:=.ref C,data:=.fields #[.ref h.objs.size,.none,.none,.none,.bool false,.none]}
  (Ad {cls:=.type "tuple",data:=.seq rest.toArray} hC)
 have hn₁:((h.push {cls:=.type "tuple",data:=.seq rest.toArray}).push {cls:=.ref C,data:=.fields #[.ref h.objs.size,.none,.none,.none,.bool false,.none]}).Ns N mN:=
  let ⟨o,es,ep,e,r⟩:=hn;⟨o,es,ep,Ad _ (Ad _ e),r⟩
 have hget:((h.push {cls:=.type "tuple",data:=.seq rest.toArray}).push
  {cls:=.ref C,data:=.fields #[.ref h.objs.size,.none,.none,.none,.bool false,.none]}).get? (h.objs.size+1)=some
  {cls:=.ref C,data:=.fields #[.ref h.objs.size,.none,.none,.none,.bool false,.none]}:=by heap_get
 have hcC:(A1 C::bm).contains (.ref C)=true:=by simp
 unfold isInstance
 repeat (first|with_reducible refine Bp hget ?_|(with_reducible refine DG hC₁ ?_;rw[hcC])|wp_step)
 show wpAny _ _ (GV (.ref C) _) _ _ _
 have hD₁:=Ad {cls:=.ref C,data:=.fields #[.ref h.objs.size,.none,.none,.none,.bool false,.none]}
  (Ad {cls:=.type "tuple",data:=.seq rest.toArray} hD)
 have hn1₁:((h.push {cls:=.type "tuple",data:=.seq rest.toArray}).push {cls:=.ref C,data:=.fields #[.ref h.objs.size,.none,.none,.none,.bool false,.none]}).Ns N1 mN1:=
  let ⟨o,es,ep,e,r⟩:=hn1;⟨o,es,ep,Ad _ (Ad _ e),r⟩
 refine vM hC₁ hn₁ hni hD₁ hn1₁ hni1 hbm hb1 F.init.lookup ?_
 refine BY (Ac (wpAny_of_eq (F.init.bind _) ?_))
 refine Ac (D4 (Dv F.init.plain F.initEntry (vL F hC₁ hget rfl ?_)))
 wp_walk
 refine hq _ _ ⟨fun b o hb=>?_,EL (Dg _),h.objs.size+2,?_,EL (by omega),?_⟩
 . rw[Bs _ _ (Dk (BD (An hb)))]
   exact Ad _ (Ad _ (Ad _ hb))
 . rw[CL _ (Ad _ hget) rfl]
   simp only[A5]
   rfl
 . rw[Bs _ _ (show h.objs.size+1≠h.objs.size+2 by omega)]
   exact Heap.get?_push_at (by simp only[A5]) rfl
theorem v5(F:xq B newId initId bm){nm1 q1:Str}{D N1:Addr}{bs1 bm1:List Value}{hd1:Bool}{sn1:List Str}{sub1:List Value}{ab1:Bool}{col1:Option Bool}{dd1:Option Addr}{j0 j1 j2 j3 j5:Option Value}{new1:String}{mN1:Str->Option Value}{mN:Str->Option Value}{rest:List Value}{Q:Value->Shared->Prop}
 (hC:h.get? C=some (B2 nm q C N bs bm hdct sn sub ab col dd k0 k1 k2 k3 k5 newId)) (hn:h.Ns N mN) (hni:mN "__init__"=none) (hD:h.get? D=some (B2 nm1 q1 D N1 bs1 bm1 hd1 sn1 sub1 ab1 col1 dd1 j0 j1 j2 j3 j5 new1)) (hn1:h.Ns N1 mN1) (hni1:mN1 "__init__"=none) (hbm:bm=.ref D::bm1) (hb1:mroOf (.type B)=pure bm1) 
 (hq:∀h' e,D8 h h' e (.ref C) rest->Q (.ref e) ⟨h',g,d,t,os⟩) (hrest:rest.length<=AA:=by size_fits) :
 wpAny (model prog w) A (call (.ref C) rest) Q E ⟨h,g,d,t,os⟩:=by
 have f1:=tc_lookup
 have f2:=tc_bind (.ref C)
 have hT:(⟨h,g,d,t,os⟩:Shared).TypeIs (.ref C) "type":=⟨_,hC,rfl⟩
 refine D4 (codeAny_of_tree ?_)
 show wpAny _ _ (callAny (.ref C) _) _ _ _
 repeat (any_goals (first|assumption|with_reducible refine Bp hC ?_|wp_step))
 refine⟨rfl,?_⟩
 refine codeAny_call_builtin_at (DV _ (by decide +kernel)) entry_typeCall (wpAny_check_type_call_sub hC (wZ (hrest:=hrest) F hC hn hni hD hn1 hni1 hbm hb1 fun h' e hm=>?_))
 exact hq h' e hm
end
section
variable {prog:Program}{w:World}{A:Around}{E:Value->Shared->Prop}{s:Shared}{env:Env}
variable {nm q:Str}{C N:Addr}{bs bm:List Value}{hdct:Bool}{sn:List Str}{sub:List Value}{ab:Bool}{col:Option Bool}{dd:Option Addr}{k0 k1 k2 k3 k5:Option Value}{B newId initId:String}
theorem vK(F:xq B newId initId bm){nm1 q1:Str}{D N1:Addr}{bs1 bm1:List Value}{hd1:Bool}{sn1:List Str}{sub1:List Value}{ab1:Bool}{col1:Option Bool}{dd1:Option Addr}{j0 j1 j2 j3 j5:Option Value}{new1:String}{mN1:Str->Option Value}{mN:Str->Option Value}{x:Str}{np cpos pos:Pos}{args:List Expr}{Q:Flow->Shared->Prop}
 (hh:A.handled=none) (hplain:(backTo cpos (AM args env)).any (·.1)=false) (hni:mN "__init__"=none) (hni1:mN1 "__init__"=none) (hbm:bm=.ref D::bm1) (hb1:mroOf (.type B)=pure bm1)
 (h:wpAny (model prog w) A (eval (.Name x np) env) (fun f s₁=>f=.ref C/\wpAny (model prog w) A (evalArgs (.ref C) true (backTo cpos (AM args env)) [])
  (fun a s₂=>a.kw=[]/\a.pos.length<=AA/\s₂.heap.get? C=some (B2 nm q C N bs bm hdct sn sub ab col dd k0 k1 k2 k3 k5 newId)/\s₂.heap.Ns N mN/\s₂.heap.get? D=some (B2 nm1 q1 D N1 bs1 bm1 hd1 sn1 sub1 ab1 col1 dd1 j0 j1 j2 j3 j5 new1)/\s₂.heap.Ns N1 mN1 /\
   ∀h' e,D8 s₂.heap h' e (.ref C) a.pos->E (.ref e) {s₂ with heap:=h'}) E s₁) E s) :
 wpAny (model prog w) A (exec (.Raise (some (.Call (.Name x np) args [] cpos)) none pos) env) Q E s:=by
 rw[arm_exec_Raise]
 first
  |refine Ac (BN (DX (C:=C) (nm:=nm) (q:=q) (N:=N) (bs:=bs) (bm:=bm) (hdct:=hdct) (sn:=sn) (sub:=sub) (ab:=ab) (col:=col) (dd:=dd) (k0:=k0) (k1:=k1) (k2:=k2) (k3:=k3) (k5:=k5) (newId:=newId) F.hasBase hh (Ac (Ba (FV (Ba h (fun f s₁ h₁=>?_) fun _ _ x=>x)) (fun v s₃ h₃=>Ac (BN (Am h₃))) fun _ _ x=>x))))
  |(simp only[evalOpt,Option.map];refine Ac (BN (DX (C:=C) (nm:=nm) (q:=q) (N:=N) (bs:=bs) (bm:=bm) (hdct:=hdct) (sn:=sn) (sub:=sub) (ab:=ab) (col:=col) (dd:=dd) (k0:=k0) (k1:=k1) (k2:=k2) (k3:=k3) (k5:=k5) (newId:=newId) F.hasBase hh (Ac (Ba (FV (Ba h (fun f s₁ h₁=>?_) fun _ _ x=>x)) (fun v s₃ h₃=>Ac (BN (Am h₃))) fun _ _ x=>x)))))
  |(refine Ac (BN (DX (C:=C) (nm:=nm) (q:=q) (N:=N) (bs:=bs) (bm:=bm) (hdct:=hdct) (sn:=sn) (sub:=sub) (ab:=ab) (col:=col) (dd:=dd) (k0:=k0) (k1:=k1) (k2:=k2) (k3:=k3) (k5:=k5) (newId:=newId) F.hasBase hh ?_));refine Ac (Ba (FV (Ba h (fun f s₁ h₁=>?_) fun _ _ x=>x)) (fun v s₃ h₃=>Ac (BN (Am h₃))) fun _ _ x=>x))
 obtain⟨rfl,h₁⟩:=h₁
 unfold callWith
 refine Ac (BY (Ba h₁ (fun a s₂ h₂=>Ac (BN ?_)) fun _ _ x=>x))
 obtain⟨apos,akw⟩:=a
 obtain⟨hkw,hlen,hC,hn,hD,hn1,h₂⟩:=h₂
 obtain rfl:akw=[]:=hkw
 obtain⟨hp,g,d,tk,os⟩:=s₂
 simp only[hplain]
 refine Ac (wpAny_keeperOf_exc hC ?_)
 refine Ac (v5 (hrest:=hlen) F hC hn hni hD hn1 hni1 hbm hb1 fun h' e hm=>Ac (BY (wpAny_point (Am ?_))))
 obtain⟨t,ht,_,_⟩:=hm.there
 exact⟨e,t,rfl,hm.keeps _ _ hC,ht,h₂ h' e hm⟩
end
end PySem
end
section
namespace L2
open PySem PySem.W PySem.Spec PyProof PyProof.Rows
structure uO(P:Program)(w:World)(outer:List Env)(H:Hp)(s:Shared)(H':Hp)(a:Addr)(cls:Value)(s':Shared):Prop where
 os:s'.os=s.os
 bare:AllBare s'.gens
 frf:∀b∈frs outer,H' b=none
 fly:∃(t:Addr) (g B:Heap),Un (frs outer) [] H H' s.heap g/\HOk P w H' g/\(∀b o,g.get? b=some o->b ∉ frs outer->(b<s.heap.objs.size\/H' b≠none)->B.get? b=some o) /\
  (∀b o,g.get? b=some o->b∈frs outer->∃sl,s'.heap.get? b=some {o with slots:=sl})/\Heap.FlyingW B outer a cls (.ref t) s'.heap
noncomputable def CXE(P:Program)(w:World):CXT:=fun outer H s E e s'=>∃(a:Addr) (cls:Value) (H':Hp),e=.ref a/\uO P w outer H s H' a cls s'/\E cls none H'
theorem uO.un{P:Program}{w:World}{outer:List Env}{H H':Hp}{s s':Shared}{a:Addr}{cls:Value}(f:uO P w outer H s H' a cls s'):Un (frs outer) [] H H' s.heap s'.heap/\HOk P w H' s'.heap:=by
 obtain⟨t,g,B,u,hk,cov,fr,k,_⟩:=f.fly
 have go:∀b o,s.heap.get? b=some o->b ∉ frs outer->∀o',g.get? b=some o'->s'.heap.get? b=some o':=fun b o e n o' e'=>k b o' (cov b o' e' n (.inl (An e)))
 refine⟨⟨fun b o e n hb hx=>go b o e hb o (u.keep b o e n hb hx),fun b o e n hb hx=>?_,u.free,fun b o e hx=>?_,u.tups,u.frzs,u.tbls⟩,fun b o e=>(hk b o e).qf (fun c v hc e'=>?_) (fun _ q=>q) fun _ _ q=>q⟩
 . obtain⟨sl,e1⟩:=u.slot b o e n hb hx
   obtain⟨sl',e2⟩:=fr b _ e1 hb
   exact⟨sl',e2⟩
 . obtain⟨o',e1⟩:=u.there b o e hx
   by_cases hb:b∈frs outer
   . obtain⟨sl,e2⟩:=fr b o' e1 hb
     exact⟨_,e2⟩
   . exact⟨o',go b o e hb o' e1⟩
 . have hc':H' c≠none:=by
    rcases hc with rfl|hc
    . rw[e];exact nofun
    . rw[hc];exact nofun
   exact k c v (cov c v e' (fun hm=>hc' (f.frf c hm)) (.inr hc'))
section
variable {P:Program}{w:World}{K:Af}{mg:Str->Option Value}{base:Heap}{N:List Str}{qual:Str}{scope:Scope}{f:Addr}{cd:Value}{A:Around}{outer:List Env}{s₀:Shared}{H₀:Hp}{E:XK}
theorem gT:Passes (CXE P w) (xW (CXE P w) P w K mg base N qual scope f cd A outer s₀ H₀ E) E:=by
 rintro pins σ H s e s' I ⟨a,cls,H',rfl,fl,hE⟩
 obtain⟨t,g,B,u,hk,cov,fr,fly⟩:=fl.fly
 show wpAny _ _ _ _ _ _
 have I1:Inv (xW (CXE P w) P w K mg base N qual scope f cd A outer s₀ H₀ E) pins σ H' {s with heap:=g}:=I.call (g':=s.gens) (t':=s.toks) (d':=s.drawn) (ch:=[]) u hk I.bare fun b z=>absurd z (by simp)
 have hL:∀b,(b<s₀.heap.objs.size\/H' b≠none)->b≠s₀.heap.objs.size:=fun b hb z=>by
  subst z
  rcases hb with hb|hb
  . exact Bg _ hb
  . exact hb I1.free
 have hmem:∀b,b∈frs outer->b∈frs (envOfC qual scope s₀.heap.objs.size f cd::outer):=fun b hb=>Ao _ hb
 refine wpAny_leaves_onW (base:=B) (env:=envOfC qual scope s₀.heap.objs.size f cd) (outer:=outer) (L:=s₀.heap.objs.size) I.ok.frames rfl fly fun h' x1 x2=>?_
 refine⟨a,cls,H',rfl,⟨fl.os.trans I.os,fl.bare,fun b hb=>fl.frf b (hmem b hb),t,g,B,I1.base,hk,fun b o e n hb=>?_,fun b o e hb=>?_,x1⟩,hE⟩
 . refine cov b o e (fun hm=>?_) ?_
   . rcases Al.mp (show b∈s₀.heap.objs.size::frs outer from hm) with z|z
     . exact hL b hb z
     . exact n z
   . rcases hb with hb|hb
     . exact .inl (AD hb I.sz)
     . exact .inr hb
 . obtain⟨sl,e1⟩:=fr b o e (hmem b hb)
   obtain⟨_,o',e2,hd⟩:=fly.2.2.1.mem (hmem b hb)
   rw[e1]at e2
   cases e2
   obtain⟨sl',e3⟩:=x2 b _ e1 hd
   exact⟨sl',e3⟩
theorem ml{pins:List (Addr × Obj)}{σ:St}{H:Hp}{s:Shared}{h1:Heap}{a C:Addr}{us:List Value}(I:Inv (xW (CXE P w) P w K mg base N qual scope f cd A outer s₀ H₀ E) pins σ H s)(m:D8 s.heap h1 a (.ref C) us)(hE:E (.ref C) none H) :
 (xW (CXE P w) P w K mg base N qual scope f cd A outer s₀ H₀ E).xe (.ref a) {s with heap:=h1}:=by
 have hmem:∀b,b∈frs outer->b∈frs (envOfC qual scope s₀.heap.objs.size f cd::outer):=fun b hb=>Ao _ hb
 have hin:∀env∈(envOfC qual scope s₀.heap.objs.size f cd::outer),∀b,env.frame=some b->b∈frs (envOfC qual scope s₀.heap.objs.size f cd::outer):=fun env he b hb=>BW.mpr ⟨env,he,hb⟩
 have hst:s.heap.FunFrames base (envOfC qual scope s₀.heap.objs.size f cd::outer):=I.stack
 show wpAny _ _ _ _ _ _
 refine wpAny_leaves_madeW (base:=hideAll s.heap (frs (envOfC qual scope s₀.heap.objs.size f cd::outer))) (h:=s.heap) (env:=envOfC qual scope s₀.heap.objs.size f cd) (outer:=outer) (L:=s₀.heap.objs.size) I.ok.frames rfl (fun b o q=>of_hideAll _ q) (funFrames_hide hst hin) m fun h' t x1 x2 x3 x4=>?_
 refine⟨a,_,H,rfl,⟨I.os,I.bare,fun b hb=>I.nI b (hmem b hb),t,s.heap,_,I.base,I.hok,fun b o e n hb=>hideAll_get _ e fun hm=>?_,fun b o e hb=>?_,x1⟩,hE⟩
 . rcases Al.mp (show b∈s₀.heap.objs.size::frs outer from hm) with z|z
   . subst z
     rcases hb with hb|hb
     . exact Bg _ hb
     . exact hb I.free
   . exact n z
 . obtain⟨_,o',e2,hd⟩:=hst.mem (hmem b hb)
   rw[e]at e2
   cases e2
   obtain⟨sl,e3⟩:=x4 b o (m.keeps b o e) hd
   exact⟨sl,e3⟩
end
end L2
end
section
namespace L2
open PySem PySem.W PySem.Spec PyProof PyProof.Rows
noncomputable def veM:List Value:=[.type "ValueError",.type "Exception",.type "BaseException",.type "object"]
def ClsAt(h:Heap)(C:Addr)(bm:List Value):Prop:=∃(nm q:Str) (N:Addr) (bs:List Value) (hdct:Bool) (sn:List Str) (sub:List Value) (ab:Bool) (col:Option Bool) (dd:Option Addr) (k0 k1 k2 k3 k5:Option Value) (mN:Str->Option Value),
 h.get? C=some (B2 nm q C N bs bm hdct sn sub ab col dd k0 k1 k2 k3 k5 "ValueError.__new__")/\h.Ns N mN/\mN "__init__"=none
def XR(X:Cx)(C:Addr)(H:Hp):Prop:=∀(pins:List (Addr × Obj)) (σ:St) (s:Shared),Inv X pins σ H s->∀(h1:Heap) (a:Addr) (us:List Value),D8 s.heap h1 a (.ref C) us->X.xe (.ref a) {s with heap:=h1}
noncomputable def V2(X:Cx)(C:Addr)(t:TA):TS:=fun _ σ H=>t σ H fun vs H1=>vs.length<=AA/\XR X C H1
section
variable {X:Cx}
theorem mf{x:Str}{np cpos pos:Pos}{e:Expr}{es:List Expr}{t:TA}{C D:Addr}(hc:X.A.handled=none)(hg:Gl X x)(hm:X.mg x=some (.ref C))(cC:ClsAt X.base C (.ref D::veM))(cD:ClsAt X.base D veM)(ha:PA X (e::es) t)
 (hdb:(x == ("__debug__":Str))=false) (he:AM (e::es) X.env=(false,eval e X.env)::AM es X.env) (hpl:(backTo cpos (AM es X.env)).any (·.1)=false):PS X (.Raise (some (.Call (.Name x np) (e::es) [] cpos)) none pos) (V2 X C t):=by
 intro pins s σ H D' I h
 obtain⟨nm,q,N,bs,hdct,sn,sub,ab,col,dd,k0,k1,k2,k3,k5,mN,hC,hN,hz⟩:=cC
 obtain⟨nm1,q1,N1,bs1,hd1,sn1,sub1,ab1,col1,dd1,j0,j1,j2,j3,j5,mN1,hD,hN1,hz1⟩:=cD
 refine vK (C:=C) (D:=D) (nm:=nm) (q:=q) (N:=N) (bs:=bs) (hdct:=hdct) (sn:=sn) (sub:=sub) (ab:=ab) (col:=col) (dd:=dd) (k0:=k0) (k1:=k1) (k2:=k2) (k3:=k3) (k5:=k5) (mN:=mN)
  (nm1:=nm1) (q1:=q1) (N1:=N1) (bs1:=bs1) (hd1:=hd1) (sn1:=sn1) (sub1:=sub1) (ab1:=ab1) (col1:=col1) (dd1:=dd1) (j0:=j0) (j1:=j1) (j2:=j2) (j3:=j3) (j5:=j5) (mN1:=mN1) (new1:="ValueError.__new__") (FH.two D) hc ?_ hz hz1 rfl FH.mroIs (wO I hg hm ⟨rfl,?_⟩ hdb)
 . rw[he];exact hpl
 . rw[he]
   refine Calls.evalArgs_plain ?_
   have q:=ha cpos pins s σ H _ I h
   rw[he]at q
   refine Ba q (fun us s1 hq=>?_) fun _ _ z=>z
   obtain⟨vs,H1,I1,r,hl,hx⟩:=hq
   exact⟨rfl,by rw[<-r.length];exact hl,I1.bk _ _ hC,hN.keeps I1.bk,I1.bk _ _ hD,hN1.keeps I1.bk,fun h' e' m=>hx pins σ s1 I1 h' e' _ m⟩
end
theorem Yn{P:Program}{w:World}{K:Af}{mg:Str->Option Value}{base:Heap}{N:List Str}{qual:Str}{scope:Scope}{f:Addr}{cd:Value}{A:Around}{outer:List Env}{s₀:Shared}{H₀ H:Hp}{E:XK}{C:Addr}
 (hE:E (.ref C) none H):XR (xW (CXE P w) P w K mg base N qual scope f cd A outer s₀ H₀ E) C H:=fun _ _ _ I _ _ _ m=>ml I m hE
end L2
end
section
namespace L2
open PySem PySem.W PySem.Spec PyProof PyProof.Rows
noncomputable def tFs(ta tb:TE):TE:=fun σ H Q=>ta σ H fun x H1=>∃i:Int,x=.int i/\i.natAbs<2 ^ 64/\tb σ H1 fun y H2=>∃j:Int,y=.int j/\j.natAbs<2 ^ 64/\∀z,Q (.str z) H2
theorem tu{i:Int}(h:i.natAbs<2 ^ 64):i.natAbs.log2<64:=by
 by_cases z:i.natAbs=0
 . rw[z];decide
 . exact(Nat.log2_lt z).mpr h
theorem pQ{i:Int}(h:i.natAbs<2 ^ 64):(Dm (DU i)).length<=65:=by
 rw[PySem.ofString_length]
 exact int_text_length_le (by decide) (tu h)
section
variable {X:Cx}
theorem Tt{a b:Expr}{ta tb:TE}{c1 c2 c3:Str}{k1 k2 k3:Nat}{p1 p2 p3 p4 p5 pos:Pos}(ha:PE X a ta)(hb:PE X b tb)(h1:c1.length<=1000)(h2:c2.length<=1000)(h3:c3.length<=1000) :
 PE X (.JoinedStr [.Constant (.str c1) k1 p1,.FormattedValue a (-1) none p2,.Constant (.str c2) k2 p3,.FormattedValue b (-1) none p4,.Constant (.str c3) k3 p5] pos) (tFs ta tb):=by
 intro pins s σ H Q I h
 refine JoinedStr_many (D9 (DO ⟨?_,D9 (FormattedValue_plain ?_)⟩))
 . rw[A7,A3,show EF.length=0 from rfl];omega
 refine thn (ha pins _ σ H _ (I.tok _) h) fun u s1 ⟨x,H1,I1,r1,i,e1,hi,q1⟩=>?_
 subst e1
 obtain⟨t1,rfl⟩:=r1
 have l1:=pQ hi
 refine formatField_int_small (AD (tu hi) (by decide)) ⟨?_,D9 (DO ⟨?_,D9 (FormattedValue_plain ?_)⟩)⟩
 . rw[A7,A7,A3,show EF.length=0 from rfl];omega
 . rw[A7,A7,A7,A3,show EF.length=0 from rfl];omega
 refine thn (hb pins _ σ H1 _ (I1.tok _) q1) fun u2 s2 ⟨y,H2,I2,r2,j,e2,hj,q2⟩=>?_
 subst e2
 obtain⟨t2,rfl⟩:=r2
 have l2:=pQ hj
 refine formatField_int_small (AD (tu hj) (by decide)) ⟨?_,D9 (DO ⟨?_,joinParts_nil ⟨.str _,H2,I2.tok _,⟨_,rfl⟩,q2 _⟩ ?_⟩)⟩
 . rw[A7,A7,A7,A7,A3,show EF.length=0 from rfl];omega
 . rw[A7,A7,A7,A7,A7,A3,show EF.length=0 from rfl];omega
 . rw[A7,A7,A7,A7,A7,A3,show EF.length=0 from rfl];omega
end
end L2
end
section
namespace L2
open PySem PySem.W PySem.Spec PyProof PyProof.Rows
def Bm(base:Heap)(mg:Str->Option Value):Prop:=∃(bm:Addr) (ob:Obj),mg "__builtins__"=some (.ref bm)/\bm≠FY/\base.get? bm=some ob/\ob.cls=.type "module"/\ob.dict=some FY/\ob.data=.plain
def UL(H:Hp)(P:Addr)(ps:Array Value)(pos:Pos)(q:Str)(c:Addr)(H':Hp):Prop:=H'=H \/
 ∃(o:Obj) (vs:Array Value) (t:Tok),DY pos ps.toList=none/\H c=none/\o.data=.fields vs/\vs[1]?=some (.str q t)/\H'=upd (upd H P (.tbl (ps++#[rawInt pos.line,rawInt pos.col,.ref c]))) c (.frz o (.own 0))
section
variable {X:Cx}{pins:List (Addr × Obj)}{σ:St}{H:Hp}{s:Shared}{M:Model}{A:Around}{E:Value->Shared->Prop}
theorem cA{a:BV}{body:Expr}{lsc:Scope}{pos:Pos}{c P:Addr}{ps:Array Value}{clos:List (Str × Addr)}{Q:Value->Shared->Prop}(I:Inv X pins σ H s)(eu:defaultsOf a X.env=([],[]))(hcl:GX lsc X.env=pure clos)
 (hcode:X.env.code=.ref c) (C:CodeHd s.heap c P) (hP:H P=some (.tbl ps)) (ht:DZ ps.toList) (B:Bm X.base X.mg)
 (hit:∀cv,DY pos ps.toList=some cv->∃(c':Addr) (o:Obj) (vs:Array Value) (t:Tok),cv=.ref c'/\H c'=some (.frz o (.own 0))/\o.data=.fields vs/\vs[1]?=some (.str (X.env.qual++("<lambda>":Str)) t))
 (h:∀(lf c':Addr) (ctv:Value) (H':Hp) (h':Heap) (tk:Nat),Inv X pins σ H' {s with heap:=h',toks:=tk}->UL H P ps pos (X.env.qual++("<lambda>":Str)) c' H'->(H' lf=none/\lf ∉ frs X.stack/\∃(o:Obj) (vs:Array Value) (t:Tok),H' c'=some (.frz o (.own 0))/\o.data=.fields vs/\vs[1]?=some (.str (X.env.qual++("<lambda>":Str)) t)) ->
  h'.get? lf=some (kla_obj "<lambda>" (X.env.qual++("<lambda>":Str)) a body lsc clos ((X.mg "__name__").getD .none) c' ctv)->h'.CodeRec (.ref c') (X.env.qual++("<lambda>":Str))->Q (.ref lf) {s with heap:=h',toks:=tk}) :
 wpAny M A (eval (.Lambda a body lsc pos) X.env) Q E s:=by
 obtain⟨bm,ob,b1,b2,b3,b4,b5,b6⟩:=B
 have hPo:s.heap.get? P=some (tabObj ps):=I.hok P _ hP
 have hg:s.heap.Ns AN X.mg:=I.mod.glob.keeps I.bk
 have hbH:H bm=none:=(I.bs _ _ b3).2
 have hbP:bm≠P:=fun z=>by rw[z,hP]at hbH;cases hbH
 obtain⟨og,eg,pg,g1,g2,_⟩:=I.mod.glob
 have hgH:H AN=none:=(I.bs _ _ g1).2
 have hgP:AN≠P:=fun z=>by rw[z,hP]at hgH;cases hgH
 have hbG:bm≠AN:=fun z=>by rw[z,g1]at b3;cases b3;rw[g2]at b6;cases b6
 have hb:s.heap.BuiltinsAt X.mg P:=⟨bm,ob,b1,b2,hbG,hbP,I.bk _ _ b3,b4,b5,b6⟩
 have nst:∀lf,s.heap.objs.size<=lf->lf ∉ frs X.stack:=fun lf hl hm=>by
  obtain⟨_,o,e,_⟩:=I.stack.mem hm
  exact absurd (AD (An e) hl) (Bg _)
 refine kla_eval eu ?_
 cases hf:DY pos ps.toList with
 |some cv=>
  obtain⟨c',o,vs,t,rfl,q1,q2,q3⟩:=hit cv hf
  refine kla_makeFunctionHit (mg:=X.mg) hcl I.ok.glob hg hcode C hPo ht hf hb fun ctv h' tk hk hsz=>?_
  have hk2:∀b u,s.heap.get? b=some u->(h'.push {cls:=.type "function",data:=.func (kla_fn "<lambda>" (X.env.qual++("<lambda>":Str)) a body lsc clos ((X.mg "__name__").getD .none) (.ref c') ctv)}).get? b=some u:=fun b u e=>Ad _ (hk b u e)
  have hcr:s.heap.CodeRec (.ref c') (X.env.qual++("<lambda>":Str)):=⟨c',o,vs,t,rfl,(I.hok c' _ q1).1,q2,q3⟩
  refine h _ c' ctv H _ tk (I.kept hk2) (.inl rfl) ⟨I.hok.fresh hsz,nst _ hsz,o,vs,t,q1,q2,q3⟩ (Ay _ rfl) ?_
  obtain⟨c2,o2,vs2,t2,e1,e2,e3⟩:=hcr
  exact⟨c2,o2,vs2,t2,e1,hk2 _ _ e2,e3⟩
 |none=>
  refine kla_makeFunction (mg:=X.mg) hcl I.ok.glob hg hcode C hPo ht hf hgP hb fun c' ctv h' tk hx hge hlt lY htb=>?_
  obtain⟨c2,oc,vs,t,e1,e2,e3,e4⟩:=lY
  cases e1
  have hcn:H c'=none:=I.hok.fresh hge
  have hcP:c'≠P:=fun z=>by rw[z,hP]at hcn;cases hcn
  have hk2:∀b u,b≠P->s.heap.get? b=some u->(h'.push (kla_obj "<lambda>" (X.env.qual++("<lambda>":Str)) a body lsc clos ((X.mg "__name__").getD .none) c' ctv)).get? b=some u:=fun b u n e=>Ad _ (hx b u n e)
  have nP:∀b,H b=none->b≠P:=fun b n z=>by rw[z,hP]at n;cases n
  have nc:∀b o,s.heap.get? b=some o->b≠c':=fun b o e z=>absurd (AD (An e) hge) (by rw[z];exact Bg _)
  refine h _ c' ctv (upd (upd H P (.tbl (ps++#[rawInt pos.line,rawInt pos.col,.ref c']))) c' (.frz oc (.own 0))) _ tk (I.un (t':=tk) ⟨fun b o e n _ _=>hk2 b o (nP b n) e,fun b o e n _ _=>⟨o.slots,hk2 b o (nP b n) e⟩,fun b o e n _=>?_,fun b o e _=>?_,fun b xs e=>?_,fun b o u e=>?_,fun b qs e=>?_⟩ fun b u e=>?_)
   (.inr ⟨oc,vs,t,hf,hcn,e3,e4,rfl⟩) ⟨by rw[zI (Dk hlt),zI (nP _ (I.hok.fresh (Ax hge (DM hlt))))];exact I.hok.fresh (Ax hge (DM hlt)),nst _ (Ax hge (DM hlt)),oc,vs,t,zN,e3,e4⟩ (Ay _ rfl) ⟨c',oc,vs,t,rfl,Ad _ e2,e3,e4⟩
  . rw[zI (nc b o e),zI (nP b n)];exact n
  . by_cases z:b=P
    . rw[z];exact⟨_,Ad _ htb⟩
    . exact⟨o,hk2 b o z e⟩
  . have z1:b≠c':=fun z=>by rw[z,hcn]at e;cases e
    have z2:b≠P:=fun z=>by rw[z,hP]at e;cases e
    rw[zI z1,zI z2];exact e
  . have z1:b≠c':=fun z=>by rw[z,hcn]at e;cases e
    have z2:b≠P:=fun z=>by rw[z,hP]at e;cases e
    rw[zI z1,zI z2];exact e
  . have z1:b≠c':=fun z=>by rw[z,hcn]at e;cases e
    rw[zI z1]
    by_cases z:b=P
    . subst z
      rw[hP]at e;cases e
      exact⟨_,zN⟩
    . rw[zI z];exact⟨#[],by rw[e];simp⟩
  . by_cases z1:b=c'
    . subst z1
      rw[zN]at e;cases e
      exact⟨Ad _ e2,oc,Ad _ e2⟩
    . rw[zI z1]at e
      by_cases z:b=P
      . subst z
        rw[zN]at e;cases e
        exact Ad _ htb
      . rw[zI z]at e
        have own:∀d y,H d=some (.own y)->d≠c'/\d≠P:=fun d y r=>⟨fun z=>(by rw[z,hcn]at r;cases r),fun z=>(by rw[z,hP]at r;cases r)⟩
        refine(I.hok b u e).qf (fun d v hd q=>hk2 d v ?_ q) (fun d r=>by rw[zI (own d b r).1,zI (own d b r).2];exact r) fun d xs r=>?_
        . rcases hd with rfl|hd
          . exact z
          . exact(own d b hd).2
        . have y1:d≠c':=fun z=>by rw[z,hcn]at r;cases r
          have y2:d≠P:=fun z=>by rw[z,hP]at r;cases r
          rw[zI y1,zI y2];exact r
end
end L2
end
section
namespace L2
open PySem PySem.W PySem.Spec PyProof PyProof.Rows
section
variable {P:Program}{w:World}{K:Af}{mg:Str->Option Value}{base:Heap}{CX:CXT}{A:Around}{outer:List Env}{s:Shared}{H:Hp}{E:XK}{R:Result->Shared->Prop}
noncomputable abbrev Cx.loud(X:Cx)(A:Around):Cx:={X with A:=A,calm:=false}
theorem Inv.loud{X:Cx}{pins:List (Addr × Obj)}{σ:St}{A':Around}(I:Inv X pins σ H s)(hf:A'.frames=some X.stack):Inv (X.loud A') pins σ H s:=
 ⟨⟨I.ok.mod,I.ok.kind,I.ok.glob,I.ok.blt,I.ok.above,I.ok.inj,I.ok.has,I.ok.cab,fun z=>absurd z Aj,hf,I.ok.stk,I.ok.exf,I.ok.bs,I.ok.bsz,I.ok.noex,I.ok.exfs,I.ok.ud,I.ok.frf⟩,I.os,I.bare,I.base,I.loc,I.cell,I.free,I.freeC,I.pin,I.hok,I.len⟩
theorem Inv.calm{X:Cx}{pins:List (Addr × Obj)}{σ:St}{A':Around}(I:Inv (X.loud A') pins σ H s)(ok:X.Ok):Inv X pins σ H s:=
 ⟨ok,I.os,I.bare,I.base,I.loc,I.cell,I.free,I.freeC,I.pin,I.hok,I.len⟩
noncomputable abbrev fG(P:Program)(w:World)(A:Around)(env:Env)(R:Result->Shared->Prop)(body:List Stmt)(s1:Shared):Prop:=
 wpAny (model P w) (A.deeper env) (execs body env) (fun fl s'=>R (.ok (.ret (match fl with|.ret v=>v|_=>.none))) s')
  (fun e s'=>wpAny (model P w) (A.deeper env) (leaving env e) (fun _ s''=>R (.error e) s'') (fun e' s''=>R (.error e') s'') s') s1
theorem nz{f:Addr}{name qual:Str}{params:BV}{body:List Stmt}{scope:Scope}{dV kV doc pm cdv ct oc:Value}{an od:Option Addr}{osl:Array (Option Value)}{N ps:List Str}{args:Args}{us:List Value}{vs:List V}
 (lk:K.lookup f=some ⟨oc,od,.func (BM name qual params body scope dV kV doc pm an cdv ct),osl⟩) (hcd:BZ K cdv qual=true) (S:wM N ps scope) (hdp:A.depth<C0)
 (e0:lK P w K mg base A outer s H) (hb:BindsTo s (BM name qual params body scope dV kV doc pm an cdv ct) args (ps.zip us)) (hl:vs.length=ps.length) (r:Vals vs us)
 (h:∀s1:Shared,Inv (xW CX P w K mg base N qual scope f cdv {A with handled:=none} outer s H E) [] (start N vs) H s1->(∀b o,s.heap.get? b=some o->s1.heap.get? b=some o)->fG P w A (envOfC qual scope s.heap.objs.size f cdv) R body s1) :
 codeAny (model P w) A (.call (.ref f) args) R s:=by
 have KX:K.In s.heap:=e0.mod.kin.keeps fun b o e=>(e0.bs b o e).1
 have lim:s.heap.NoLimit:=e0.mod.nolimit.keeps fun b o e=>(e0.bs b o e).1
 have hkind:∀y∈ps.zip us,scope.names.lookup y.1=some .local\/(scope.names.lookup y.1=some .cell/\((CJ (s.heap.objs.size+1) scope.names []).lookup y.1).isSome=true):=fun⟨n,v⟩ hy=>by
  rcases S.par n (EO hy).1 with q|q
  . exact .inl q
  . exact .inr ⟨q,Ej _ _ _ (.inl q)⟩
 refine codeAny_call_function hdp (KX _ _ lk) rfl S.co S.gen rfl (PySem.W.codeRec_of KX hcd) (hb _ _ _ _ ?_)
 refine FC S.kind hkind fun env he s1 x=>?_
 subst he
 refine⟨lim.keeps x.toInCall.keep,codeAny_func ?_⟩
 exact h s1 (pF (A:={A with handled:=none}) S rfl ⟨e0.frames,e0.mod,e0.bs,e0.bsz,e0.ud,e0.frf,e0.hok,e0.bare⟩ hl r x) x.toInCall.keep
theorem nT(h:A.handled=none):{A with handled:=none}=A:=by
 cases A
 simp only at h
 subst h
 rfl
noncomputable def noArgs:BV:=⟨[],[],none,[],[],none,[]⟩
noncomputable def rR(CX:CXT)(P:Program)(w:World)(K:Af)(mg:Str->Option Value)(base:Heap)(N:List Str)(qual:Str)(scope:Scope)(f:Addr)(cd:Value)(cl:List (Str × Addr))(A:Around)(outer:List Env)(s:Shared)(H:Hp)(E:XK):Cx where
 prog:=P
 w:=w
 K:=K
 mg:=mg
 base:=base
 A:=A.deeper (envX qual scope s.heap.objs.size f cd cl)
 N:=N
 s₀:=s
 H₀:=H
 env:=envX qual scope s.heap.objs.size f cd cl
 outer:=outer
 stack:=envX qual scope s.heap.objs.size f cd cl::outer
 ex:=[]
 calm:=true
 fn:=fun _=>false
 pn:=[]
 xe:=fun e s'=>wpAny (model P w) (A.deeper (envX qual scope s.heap.objs.size f cd cl)) (leaving (envX qual scope s.heap.objs.size f cd cl) e) (fun _ s''=>CX outer H s E e s'') (fun e' s''=>CX outer H s E e' s'') s'
theorem Zq{lf c:Addr}{nm qual:Str}{body:Expr}{lsc:Scope}{cl:List (Str × Addr)}{pm ctv:Value}{N:List Str}{σ:St}(hdp:A.depth<C0)(hh:A.handled=none)(e0:lK P w K mg base A outer s H)
 (ho:s.heap.get? lf=some (kla_obj nm qual noArgs body lsc cl pm c ctv)) (hcr:s.heap.CodeRec (.ref c) qual) (hk:lsc.kind=.function) (hco:lsc.isCoroutine=false) (hgen:lsc.isGenerator=false)
 (hnm:∀x∈lsc.names,x.2≠.cell/\x.2≠.local) (hinj:∀x y b,cl.lookup x=some b->cl.lookup y=some b->x=y) (hhas:∀x,lsc.names.lookup x=some .free->∃b,cl.lookup x=some b)
 (hcel:∀x b,cl.lookup x=some b->(∃v,s.heap.IsCell b v)/\H b=none)
 (hval:∀(i:Nat) (x:Str) (v:V),N[i]?=some x->σ[i]?=some (some v)->lsc.names.lookup x=some .free->∃u b,RelV v u/\cl.lookup x=some b/\s.heap.IsCell b (some u)) (hlen:σ.length=N.length)
 (h:∀s1:Shared,Inv (rR CX P w K mg base N qual lsc lf (.ref c) cl A outer s H E) [] σ H s1->wpAny (model P w) (A.deeper (envX qual lsc s.heap.objs.size lf (.ref c) cl)) (eval body (envX qual lsc s.heap.objs.size lf (.ref c) cl)) (fun v s'=>R (.ok (.ret v)) s')
  (fun e s'=>wpAny (model P w) (A.deeper (envX qual lsc s.heap.objs.size lf (.ref c) cl)) (leaving (envX qual lsc s.heap.objs.size lf (.ref c) cl) e) (fun _ s''=>R (.error e) s'') (fun e' s''=>R (.error e') s'') s') s1) :
 codeAny (model P w) A (.call (.ref lf) ⟨[],[]⟩) R s:=by
 have lim:s.heap.NoLimit:=e0.mod.nolimit.keeps fun b o e=>(e0.bs b o e).1
 refine kla_callFunE hdp ho rfl hco hgen rfl hcr ?_
 have hb:GU (kla_fn nm qual noArgs body lsc cl pm (.ref c) ctv) ⟨[],[]⟩=pure []:=rfl
 rw[hb]
 refine Am (wpAny_newFunctionEnv (fun x hx=>(hnm x hx).1) (fun x hx=>absurd hx (by simp)) (fun h₁ hns hsb=>⟨lim.fresh _ hsb,?_⟩) hk)
 show codeAny _ _ (.expr body (envX qual lsc s.heap.objs.size lf (.ref c) cl)) _ _
 have hk₁:∀b o,s.heap.get? b=some o->h₁.get? b=some o:=fun b o e=>hsb.extBut b o (AB (An e)) (Ad _ e)
 have noA:∀b:Addr,b ∉ (rR CX P w K mg base N qual lsc lf (.ref c) cl A outer s H E).ex:=fun b z=>absurd (show b∈([]:List Addr) from z) (by simp)
 have cellK:∀b v,s.heap.IsCell b v->h₁.IsCell b v:=fun b v ⟨o,e,d⟩=>⟨o,hk₁ b o e,d⟩
 refine kla_codeExpr (h _ ⟨⟨e0.mod,hk,rfl,rfl,Ag _,hinj,fun y hy=>?_,fun y b z _=>absurd z Aj,fun _=>hh,ES e0.frames,.inr ⟨rfl,rfl⟩,fun b z=>absurd z (noA b),e0.bs,e0.bsz,fun b _ _=>noA b,fun b z=>absurd z (noA b),e0.ud,e0.frf⟩,
  rfl,e0.bare,Un.kept hk₁,⟨_,hns,fun i y v h1 h2 h3=>?_⟩,fun y b e=>?_,e0.hok.fresh (Ag _),fun y b e=>(hcel y b e).2,fun p hp=>absurd (show p∈([]:List (Addr × Obj)) from hp) (by simp),e0.hok.kept hk₁,hlen⟩)
 . have hy:lsc.names.lookup y=some .cell\/lsc.names.lookup y=some .free:=hy
   rcases hy with hy|hy
   . exact absurd rfl (hnm _ (A0 hy)).1
   . exact hhas y hy
 . have h3:lsc.names.lookup y=some .local\/lsc.names.lookup y=some .cell\/lsc.names.lookup y=some .free:=h3
   rcases h3 with z|z|z
   . exact absurd rfl (hnm _ (A0 z)).2
   . exact absurd rfl (hnm _ (A0 z)).1
   . obtain⟨u,b,q1,q2,q3⟩:=hval i y v h1 h2 z
     exact⟨u,q1,.inr ⟨.inr z,b,q2,cellK _ _ q3⟩⟩
 . obtain⟨v,q⟩:=(hcel y b e).1
   exact⟨v,cellK b v q⟩
end
end L2
end
section
namespace L2
open PySem PySem.W PySem.Spec PyProof PyProof.Rows
section
variable {P:Program}{w:World}{K:Af}{mg:Str->Option Value}{base:Heap}{A:Around}{outer:List Env}{s₀:Shared}{H₀:Hp}{E:XK}
theorem qK{N:List Str}{qual:Str}{scope:Scope}{f:Addr}{cd:Value}{cl:List (Str × Addr)}:Passes (CXE P w) (rR (CXE P w) P w K mg base N qual scope f cd cl A outer s₀ H₀ E) E:=by
 rintro pins σ H s e s' I ⟨a,cls,H',rfl,fl,hE⟩
 obtain⟨t,g,B,u,hk,cov,fr,fly⟩:=fl.fly
 show wpAny _ _ _ _ _ _
 have I1:Inv (rR (CXE P w) P w K mg base N qual scope f cd cl A outer s₀ H₀ E) pins σ H' {s with heap:=g}:=I.call (g':=s.gens) (t':=s.toks) (d':=s.drawn) (ch:=[]) u hk I.bare fun b z=>absurd z (by simp)
 have hL:∀b,(b<s₀.heap.objs.size\/H' b≠none)->b≠s₀.heap.objs.size:=fun b hb z=>by
  subst z
  rcases hb with hb|hb
  . exact Bg _ hb
  . exact hb I1.free
 have hmem:∀b,b∈frs outer->b∈frs (envX qual scope s₀.heap.objs.size f cd cl::outer):=fun b hb=>Ao _ hb
 refine wpAny_leaves_onW (base:=B) (env:=envX qual scope s₀.heap.objs.size f cd cl) (outer:=outer) (L:=s₀.heap.objs.size) I.ok.frames rfl fly fun h' x1 x2=>?_
 refine⟨a,cls,H',rfl,⟨fl.os.trans I.os,fl.bare,fun b hb=>fl.frf b (hmem b hb),t,g,B,I1.base,hk,fun b o e n hb=>?_,fun b o e hb=>?_,x1⟩,hE⟩
 . refine cov b o e (fun hm=>?_) ?_
   . rcases Al.mp (show b∈s₀.heap.objs.size::frs outer from hm) with z|z
     . exact hL b hb z
     . exact n z
   . rcases hb with hb|hb
     . exact .inl (AD hb I.sz)
     . exact .inr hb
 . obtain⟨sl,e1⟩:=fr b o e (hmem b hb)
   obtain⟨_,o',e2,hd⟩:=fly.2.2.1.mem (hmem b hb)
   rw[e1]at e2
   cases e2
   obtain⟨sl',e3⟩:=x2 b _ e1 hd
   exact⟨sl',e3⟩
end
section
variable {X:Cx}{pins:List (Addr × Obj)}{σ:St}{H H':Hp}{s s':Shared}{a:Addr}{cls:Value}
theorem Inv.Y0(I:Inv X pins σ H s)(f:uO X.prog X.w X.stack H s H' a cls s'):Inv X pins σ H' s':=by
 obtain⟨u,hk⟩:=f.un
 obtain⟨hh,g,d,t,os⟩:=s'
 obtain rfl:os=s.os:=f.os
 exact I.call (h':=hh) (g':=g) (d':=d) (t':=t) (ch:=[]) u hk f.bare fun b z=>absurd z (by simp)
theorem uO.obj(f:uO X.prog X.w X.stack H s H' a cls s')(I:Inv X pins σ H s):∃oe,s'.heap.get? a=some oe/\oe.cls=cls/\H' a=none/\s.heap.get? a=none/\(∃vs,oe.data=.fields vs):=by
 obtain⟨t,g,B,u,hk,cov,fr,fly⟩:=f.fly
 obtain⟨f1,f2,f3,oe,vs,_,_,_,he,hc,hd,_⟩:=id fly
 have nfr:a ∉ frs X.stack:=fun hm=>by
  obtain⟨_,o',e2,hd'⟩:=f3.mem hm
  rw[he]at e2
  cases e2
  exact hd' vs hd
 refine⟨oe,he,hc.1,?_,?_,vs,hd⟩
 . cases q:H' a with
   |none=>rfl
   |some o=>
    have ht:=(hk a o q)
    have:∃ob,g.get? a=some ob:=by
     have hlt:=ht.lt
     cases qg:g.get? a with
     |some ob=>exact⟨ob,rfl⟩
     |none=>
      exfalso
      cases o with
      |lst xs=>obtain⟨_,_,_,_,e⟩:=ht;rw[qg]at e;cases e
      |tup xs=>obtain⟨_,_,_,ob,e,_⟩:=ht;rw[qg]at e;cases e
      |dK kvs=>obtain⟨_,_,_,_,ob,_,_,e,_⟩:=ht;rw[qg]at e;cases e
      |dT kvs=>obtain⟨_,_,_,_,ob,_,_,e,_⟩:=ht;rw[qg]at e;cases e
      |set S n=>obtain⟨ob,_,_,_,e,_⟩:=ht;rw[qg]at e;cases e
      |ins C dx fs=>obtain⟨_,_,_,e,_⟩:=ht;rw[qg]at e;cases e
      |own y=>obtain⟨_,e⟩:=ht;rw[qg]at e;cases e
      |xd fs=>obtain⟨_,⟨_,_,_,e,_⟩,_⟩:=ht;rw[qg]at e;cases e
      |rng lo hi=>obtain⟨_,_,_,e⟩:=ht;rw[qg]at e;cases e
      |frz ob u=>obtain⟨e,_⟩:=ht;rw[qg]at e;cases e
      |tbl ps=>have e:g.get? a=some _:=ht;rw[qg]at e;cases e
      |met f y=>have e:g.get? a=some _:=ht;rw[qg]at e;cases e
      |ext φ=>obtain⟨_,⟨_,e⟩,_⟩:=ht;rw[qg]at e;cases e
    obtain⟨ob,e⟩:=this
    rw[cov a ob e nfr (.inr (by rw[q];exact nofun))]at f2
    cases f2
 . cases q:s.heap.get? a with
   |none=>rfl
   |some o=>
    obtain⟨o',e⟩:=u.there a o q (by simp)
    rw[cov a o' e nfr (.inl (An q))]at f2
    cases f2
theorem Inv.adopt{oe:Obj}{vs:Array Value}(I:Inv X [] σ H s)(hn:H a=none)(he:s.heap.get? a=some oe)(hd:oe.data=.fields vs)(h0:X.s₀.heap.get? a=none)(hpn:X.pn=[]):Inv X [] σ (upd H a (.frz oe (.own 0))) s:=by
 have ne:∀b,H b≠none->b≠a:=fun b n z=>n (by rw[z];exact hn)
 have nL:X.env.locals≠a:=fun z=>by
  obtain⟨m,⟨o,es,ep,e,d,_⟩,_⟩:=I.loc
  rw[z,he]at e;cases e;rw[hd]at d;cases d
 have nC:∀x c,X.env.cells.lookup x=some c->c≠a:=fun x c e z=>by
  obtain⟨v,o,e2,d⟩:=I.cell x c e
  rw[z,he]at e2;cases e2;rw[hd]at d;cases d
 have ob:∀b u,H b=some u->upd H a (.frz oe (.own 0)) b=some u:=fun b u e=>by rw[zI (ne b (by rw[e];exact nofun))];exact e
 refine⟨I.ok,I.os,I.bare,⟨I.base.keep,I.base.slot,fun b o e n hx=>?_,I.base.there,fun b xs e=>ob _ _ (I.base.tups b xs e),fun b o u e=>ob _ _ (I.base.frzs b o u e),fun b ps e=>?_⟩,I.loc,I.cell,?_,fun x c e=>?_,fun p hp=>?_,fun b u e=>?_,I.len⟩
 . rw[zI (fun z=>by rw[z,h0]at e;cases e)];exact I.base.free b o e n hx
 . obtain⟨more,q⟩:=I.base.tbls b ps e
   exact⟨more,ob _ _ q⟩
 . rw[zI nL];exact I.free
 . rw[zI (nC x c e)];exact I.freeC x c e
 . rw[hpn]at hp;cases hp
 . by_cases z:b=a
   . subst z
     rw[zN]at e;cases e
     exact⟨he,oe,he⟩
   . rw[zI z]at e
     exact(I.hok b u e).qf (fun _ _ _ q=>q) (fun c q=>ob _ _ q) fun c xs q=>ob _ _ q
theorem Inv.gone{h':Heap}{m':Str->Option Value}{tk:Nat}(I:Inv X [] σ H s)(hn:h'.Ns X.env.locals m')(hs:DN X.env.locals s.heap h')(hpn:X.pn=[]):Inv X [] (Az X.N.length none) H {s with heap:=h',toks:=tk}:=by
 have neL:∀b o,X.s₀.heap.get? b=some o->b≠X.env.locals:=fun b o e=>AB (AD (An e) I.ok.above)
 refine⟨I.ok,I.os,I.bare,⟨fun b o e n hb hx=>?_,fun b o e n hb hx=>?_,I.base.free,fun b o e hx=>?_,I.base.tups,I.base.frzs,I.base.tbls⟩,⟨m',hn,fun i x v e1 e2 e3=>?_⟩,fun y c e=>?_,I.free,I.freeC,fun p hp=>?_,fun b u e=>?_,by simp⟩
 . exact(hs.2 b (neL b o e)).trans (I.base.keep b o e n hb hx)
 . obtain⟨sl,e1⟩:=I.base.slot b o e n hb hx
   exact⟨sl,(hs.2 b (neL b o e)).trans e1⟩
 . obtain⟨o',e1⟩:=I.base.there b o e hx
   exact⟨o',(hs.2 b (neL b o e)).trans e1⟩
 . rw[Eb]at e2
   split at e2<;>cases e2
 . obtain⟨v,z⟩:=I.cell y c e
   exact⟨v,z.sameBut hs (I.cne y c e)⟩
 . rw[hpn]at hp;cases hp
 . refine(I.hok b u e).qf (fun c v hc q=>(hs.2 c ?_).trans q) (fun _ q=>q) fun _ _ q=>q
   rintro rfl
   have z:=I.free
   rcases hc with rfl|hc
   . rw[z]at e;cases e
   . rw[z]at hc;cases hc
end
end L2
end
section
namespace L2
open PySem PySem.W PySem.Spec PyProof PyProof.Rows
section
variable {prog:Program}{w:World}{A:Around}{E:Value->Shared->Prop}{s:Shared}{env:Env}
theorem il{e:Addr}{t:Expr}{n:Str}{b₀:Stmt}{suite:List Stmt}{pos:Pos}{rest:List ExceptHandler}{Q:Flow->Shared->Prop}
 (h:wpAny (model prog w) (A.mark (some (.ref e))) (eval t env) (fun c s₁=>Looks (model prog w) s₁.heap (excMatches (.ref e) c) true /\
  wpAny (model prog w) (A.mark (some (.ref e))) (setFlight (.ref e) none) (fun _ s₂=>
   wpAny (model prog w) (A.mark (some (.ref e))) (storeName env n (.ref e)) (fun _ s₃=>
    wpAny (model prog w) (A.mark (some (.ref e))) (execs (b₀::suite) env)
     (fun f s₄=>wpAny (model prog w) A (do Df env n .none;unbindBehindTheSuite env n pos) (fun _ s₅=>Q f s₅) E s₄)
     (AsSuiteRaised (model prog w) (A.mark (some (.ref e))) env n pos (notedBy (model prog w) (A.mark (some (.ref e))) env (G0 (model prog w) A env E))) s₃) (notedBy (model prog w) (A.mark (some (.ref e))) env (G0 (model prog w) A env E)) s₂) (notedBy (model prog w) (A.mark (some (.ref e))) env (G0 (model prog w) A env E)) s₁) (notedBy (model prog w) (A.mark (some (.ref e))) env (G0 (model prog w) A env E)) s) :
 wpAny (model prog w) A (handleBy (.ref e) env (.ExceptHandler (some t) (some n) (b₀::suite) pos::rest)) Q E s:=by
 refine wpAny_handleBy_cons (codeAny_handlers_test (Ba h (fun c s₁ h₁=>?_) fun _ _ y=>y)) (by intro q;cases q)
 obtain⟨L,hk⟩:=h₁
 exact L.here (codeAny_handlers_suite_as hk)
end
def qV(Kc K:Af):Prop:=∀a o,Kc.lookup a=some o->K.lookup a=some o
theorem qV.inn{Kc K:Af}{h:Heap}(s:qV Kc K)(x:K.In h):Kc.In h:=fun a o e=>x a o (s a o e)
def XC(X:Cx)(EE:Value->Hp->Prop)(e:Value)(s':Shared):Prop:=∃(a:Addr) (cls:Value) (σ2:St) (H2:Hp) (s2:Shared) (H':Hp),e=.ref a/\Inv X [] σ2 H2 s2/\uO X.prog X.w X.stack H2 s2 H' a cls s'/\EE cls H'
theorem r0{M:Model}{h:Heap}{a:Addr}{o:Obj}{cls:Value}(e:h.get? a=some o)(hc:o.cls=cls):Looks M h (typeOf (.ref a)) cls:=hc▸(Looks.ld e).andThen .now
theorem rZ{g B h h':Heap}{l:List Env}(fr:∀b o,g.get? b=some o->b∈frs l->∃sl,h.get? b=some {o with slots:=sl})(ff:h.FunFrames B l)(sm:h.UpToSlots h'):∀b o,g.get? b=some o->b∈frs l->∃sl,h'.get? b=some {o with slots:=sl}:=fun b o e hb=>by
 obtain⟨sl,e1⟩:=fr b o e hb
 obtain⟨_,o',e2,hd⟩:=ff.mem hb
 rw[e1]at e2
 cases e2
 obtain⟨sl',e3⟩:=sm b _ e1 hd
 exact⟨sl',e3⟩
section
variable {X:Cx}{σ:St}{H:Hp}{s:Shared}{D:Ends}{EE:Value->Hp->Prop}
theorem aN{body:List Stmt}{tb ts:TS}{hx n:Str}{np hpos pos:Pos}{b₀:Stmt}{suite:List Stmt}{hue:Addr}{ie:Nat}(I:Inv X [] σ H s)(hpn:X.pn=[])(hxn:X.ex=[])(hN:X.N.Nodup)(hl:X.env.scope.names.lookup n=some .local)(hi:X.N[ie]?=some n)
 (hst:X.stack=X.env::X.outer) (hfr:X.env.frame=some X.env.locals) (hg:Gl X hx) (hdb:(hx == ("__debug__":Str))=false) (hm:X.mg hx=some (.ref hue)) (hb:PSs (X.wK (XC X EE)) body tb) (hq:tb D σ H)
 (hex:∀cls H',EE cls H'->(∃Kc,qV Kc X.K/\exmOne Kc cls (.ref hue)=some true)/\∀(a:Addr) (oe:Obj) (σ2:St),H' a=none->oe.cls=cls->σ2.length=X.N.length->ts {nx:=fun _ _=>False,rt:=D.rt} (σ2.set ie (some (.ref a))) (upd H' a (.frz oe (.own 0))))
 (hs:∀a:Addr,PSs (X.loud (X.A.mark (some (.ref a)))).nox (b₀::suite) ts) :
 wpAny (model X.prog X.w) X.A (exec (.Try body [.ExceptHandler (some (.Name hx np)) (some n) (b₀::suite) hpos] [] [] pos) X.env) (SP X [] D) X.xe s:=by
 refine wpAny_Try_except (Ba (hb [] s σ H D (I.wK _) hq) (fun f s1 hsp=>?_) fun e s1 hx'=>?_)
 . have q:=hsp.yx
   cases f with
   |next=>
    obtain⟨σ1,H1,I1,q1⟩:=q
    exact oz [] s1 σ1 H1 D I1 q1
   |brk=>exact q
   |cont=>exact q
   |ret u=>exact q
 . obtain⟨a,cls,σ2,H2,s2,H',rfl,I2,f,hE⟩:=hx'
   obtain⟨hx1,hx2⟩:=hex cls H' hE
   obtain⟨t,g,B,u,hk,cov,fr,fly⟩:=f.fly
   have fl0:=fly
   rw[hst]at fly
   have hA:X.A.frames=some (X.env::X.outer):=by rw[<-hst];exact I.ok.frames
   refine wpAny_looks_onW hA hfr fly fun h4 held4 sm4=>?_
   refine wpAny_landsW held4 fun h5 fly5 sm5=>?_
   have fly5':Heap.FlyingW B X.stack a cls (.ref t) h5:=by rw[hst];exact fly5
   have f5:uO X.prog X.w X.stack H2 s2 H' a cls {s1 with heap:=h5}:=⟨f.os,f.bare,f.frf,t,g,B,u,hk,cov,rZ fr fl0.2.2.1 (sm4.trans sm5),fly5'⟩
   have I5:=(I2.Y0 f5).loud (A':=X.A.mark (some (.ref a))) (by rw[hst];exact hA)
   refine il (wO (X:=X.loud (X.A.mark (some (.ref a)))) I5 hg hm ⟨?_,?_⟩ hdb)
   . obtain⟨oe,e1,e2,_⟩:=f5.obj I2
     obtain⟨Kc,sub,hx1⟩:=hx1
     exact exm_one (sub.inn I5.kIn) (r0 e1 e2) hx1
   . refine lands_againW fly5' fun h6 fly6 sm6=>?_
     have f6:uO X.prog X.w X.stack H2 s2 H' a cls {s1 with heap:=h6}:=⟨f.os,f.bare,f.frf,t,g,B,u,hk,cov,rZ (rZ fr fl0.2.2.1 (sm4.trans sm5)) fly5'.2.2.1 sm6,fly6⟩
     obtain⟨oe,e1,e2,e3,e4,vs,e5⟩:=f6.obj I2
     have I6:=I2.Y0 f6
     have h0:X.s₀.heap.get? a=none:=by
      cases q:X.s₀.heap.get? a with
      |none=>rfl
      |some o=>
       have hne:a ∉ X.ex:=by rw[hxn];exact nofun
       obtain⟨o',q'⟩:=I2.base.there a o q hne
       rw[e4]at q';cases q'
     have I7:=(I6.adopt e3 e1 e5 h0 hpn).loud (A':=X.A.mark (some (.ref a))) (by rw[hst];exact hA)
     refine xf (X:=X.loud (X.A.mark (some (.ref a)))) (v:=.ref a) I7 hN hi (.inl hl) rfl (fun s8 I8=>?_) (.inr hl)
     refine Ba ((hs a) [] s8 _ _ {nx:=fun _ _=>False,rt:=D.rt} (I8.wK _) (hx2 a oe σ2 e3 e2 I2.len)) (fun fl s9 hsp=>?_) fun _ _ z=>AF z
     have q:=hsp.yx
     cases fl with
     |next=>obtain⟨_,_,_,z⟩:=q;exact AF z
     |brk=>obtain⟨_,_,_,z⟩:=q;exact AF z
     |cont=>obtain⟨_,_,_,z⟩:=q;exact AF z
     |ret u=>
      obtain⟨v,σ',H3,I9,rv,q9⟩:=q
      have I10:Inv X [] σ' H3 s9:=I9.calm I.ok
      obtain⟨m,hn,_⟩:=I10.loc
      exact wpAny_nameGoes hl hn (by rw[I.ok.kind];rfl) fun h' m' hn' hs'=>⟨v,_,H3,I10.gone hn' hs' hpn,rv,q9⟩
end
end L2
end
section
namespace L2
open PySem PySem.W PySem.Spec PyProof PyProof.Rows
open Sem (wp)
structure rB(K:Af)(C:Addr):Prop where
 ga:findIn K (.ref C) "__getattribute__"=some (some (.builtin "BaseException.__getattribute__"))
 gt:findIn K (.ref C) "__getattr__"=some none
 cl:findIn K (.ref C) "__class__"=some (some (.builtin "object.__class__"))
 be:subIn K (.ref C) (.type "BaseException")=some true
 ob:subIn K (.ref C) (.type "object")=some true
 it:(clsIn K C).isSome=true
section
variable {prog:Program}{w:World}{A:Around}{E:Value->Shared->Prop}{h:Heap}{g:Array F2}{d:Drawn}{t:Nat}{os:OsState}{a C:Addr}{o:Obj}{K:Af}
theorem jB{R:Result->Shared->Prop}(F:rB K C)(X:K.In h)(hx:h.get? a=some o)(hc:o.cls=.ref C)(hq:R (.ok (.ret (.ref C))) ⟨h,g,d,t,os⟩) :
 codeAny (model prog w) A (.call (.builtin "getset_descriptor.__get__") ⟨[.builtin "object.__class__",.ref a,.ref C],[]⟩) R ⟨h,g,d,t,os⟩:=by
 have hT5:(⟨h,g,d,t,os⟩:Shared).TypeIs (.builtin "object.__class__") "getset_descriptor":=Dr
 have L1:Looks (model prog w) h (isSubtype (.ref C) (.type (".".intercalate ("object.__class__".cutAt '.').dropLast))) true:=by rw[PySem.F.owner_object_class];exact looks_subIn X F.ob
 refine Dv E6.plain PySem.F.entry_gs_get (E6.check _ _ _ _ _ _ _ _ hT5 (PySem.F.args_gs_get _ _ _) ?_)
 repeat (any_goals (first|assumption|(with_reducible refine Bp hx ?_;rw[hc])|with_reducible refine L1.at ?_|wp_step))
 refine⟨DV _ (by decide +kernel),DK PySem.F.entry_object_class ?_⟩
 repeat (any_goals (first|assumption|(with_reducible refine Bp hx ?_;rw[hc])|wp_step))
theorem nQ{tk:Tok}{Q:Fin->Shared->Prop}(F:rB K C)(X:K.In h)(hx:h.get? a=some o)(hc:o.cls=.ref C)(hq:Q (.done (.ret (.ref C))) ⟨h,g,d,t,os⟩) :
 wpAny (model prog w) A (Builtin.«object.__getattribute__» ⟨[.ref a,.str "__class__" tk],[]⟩) Q E ⟨h,g,d,t,os⟩:=by
 have hT5:(⟨h,g,d,t,os⟩:Shared).TypeIs (.builtin "object.__class__") "getset_descriptor":=Dr
 have f5:=Dr
 have f6:=E6.lookup
 have f7:=PySem.F.slot_gs_set.lookup
 have L1:=looks_findIn (M:=model prog w) X F.cl
 repeat (any_goals (first|assumption|(with_reducible refine Bp hx ?_;rw[hc])|with_reducible refine L1.at ?_|wp_step))
 refine jB F X hx hc ?_
 repeat (any_goals (first|assumption|wp_step))
theorem nO{M:Model}{nameV:Value}{Q:Unit->Shared->Prop}(F:rB K C)(X:K.In h)(hx:h.get? a=some o)(hc:o.cls=.ref C)(hq:Q () ⟨h,g,d,t,os⟩):wpAny M A (C6 "BaseException.__getattribute__" ⟨[.ref a,nameV],[]⟩) Q E ⟨h,g,d,t,os⟩:=by
 have hk:builtinKind "BaseException.__getattribute__"=some .slot:=by decide +kernel
 have hsplit:splitId "BaseException.__getattribute__"=some ("BaseException","__getattribute__"):=by decide +kernel
 have L1:=looks_subIn (M:=M) X F.be
 have ha:=PySem.F.args_bexc_ga (.ref a) nameV
 simp only[C6,hk,hsplit]
 refine Ac ?_
 . unfold isInstance
   repeat (first|(with_reducible refine Bp hx ?_;rw[hc])|with_reducible refine L1.at ?_|wp_step)
   exact hq
theorem lI{tk:Tok}{R:Result->Shared->Prop}(F:rB K C)(X:K.In h)(hx:h.get? a=some o)(hc:o.cls=.ref C)(hq:R (.ok (.ret (.ref C))) ⟨h,g,d,t,os⟩) :
 codeAny (model prog w) A (.call (.builtin "BaseException.__getattribute__") ⟨[.ref a,.str "__class__" tk],[]⟩) R ⟨h,g,d,t,os⟩:=
 Dv FI.ga.plain PySem.F.entry_bexc_ga (nO F X hx hc (nQ F X hx hc hq))
theorem fB{tk:Tok}{fill expr:Bool}{Q:Value->Shared->Prop}(F:rB K C)(X:K.In h)(hx:h.get? a=some o)(hc:o.cls=.ref C)(hq:Q (.ref C) ⟨h,g,d,t,os⟩) :
 wpAny (model prog w) A (getAttrBy (.ref a) (.str "__class__" tk) fill expr) Q E ⟨h,g,d,t,os⟩:=by
 have f3:=FI.ga.bind (.ref a)
 have hx0:(expr&&onTheHeap (Es "BaseException.__getattribute__"))=false:=by cases expr<;>rfl
 have hx2:(Es "BaseException.__getattribute__" == Es "object.__getattribute__")=false:=by decide +kernel
 have hx1:(onTheHeap (A1 C)&&Es "BaseException.__getattribute__" == Es "object.__getattribute__")=false:=by rw[hx2];rfl
 have L1:=looks_findIn (M:=model prog w) X F.ga
 have L2:=looks_findIn (M:=model prog w) X F.gt
 repeat (any_goals (first|assumption|(with_reducible refine Bp hx ?_;rw[hc])|with_reducible refine L1.at ?_|with_reducible refine L2.at ?_|wp_step))
 refine lI F X hx hc ?_
 repeat (any_goals (first|assumption|wp_step))
theorem lH{Q:Option Value->Shared->Prop}(F:rB K C)(X:K.In h)(hx:h.get? a=some o)(hc:o.cls=.ref C)(hq:Q (some (.ref C)) ⟨h,g,d,t+1,os⟩):wpAny (model prog w) A (getAttr? (.ref a) "__class__") Q E ⟨h,g,d,t,os⟩:=by
 unfold getAttr? getAttrBy?
 repeat (any_goals (first|assumption|with_reducible apply fB F X hx hc|wp_step))
theorem d0(F:rB K C)(hc:o.cls=.ref C):KitX K (.ref a) (.ref C) (fun h=>h.get? a=some o) where
 ty:=fun M h _ e=>r0 e hc
 it:=fun M h X _=>by
  have z:=F.it
  unfold clsIn at z
  split at z
  . rename_i c' d' cd' sl' ho
    intro A' Q' E' s' k q
    unfold isType loadHead
    exact Ac (wpAny_loadPart (k _ _ (X _ _ ho)) (Am q))
  . cases z
 ne:=fun h tp dd its n sl X htp=>by
  have z:=F.it
  refine Bool.eq_false_iff.mpr fun q=>?_
  have e:C=tp:=A1.inj (beq_iff_eq.mp q)
  subst e
  unfold clsIn at z
  split at z
  . rename_i c' d' cd' sl' ho
    have z:=(X _ _ ho).symm.trans htp
    cases z
  . cases z
 ca:=fun{prog w A E Q s} X e k=>by
  obtain⟨h,g,d,t,os⟩:=s
  exact lH F X e hc k
end
end L2
end
section
namespace L2
open PySem PySem.W PySem.Spec PySem.Calls PyProof PyProof.Rows
open SeqAt
noncomputable def nB(K:Af):V->List V->Hp->VK->Prop:=fun x vs H Q=>∃t xs y j,x=.ref t/\vs=[y]/\SqL K H t xs/\vF y=true/\xs.all vF=true/\xs.findIdx? (fun z=>eqV z y)=some j/\Q (.int (j:Nat)) H
noncomputable def SE(K:Af):List V->Hp->VK->Prop:=fun xs H Q=>∃(a:Addr) (oe:Obj) (C:Addr) (dv:V) (du:Value) (b:Bool) (Kc:Af),xs=[.ref a,dv]/\H a=some (.frz oe (.own 0))/\oe.cls=.ref C/\qV Kc K/\rB Kc C/\(∀u,RelV dv u->u=du)/\kitOne Kc (.ref C) du=some b/\Q (.bl b) H
section
variable {X:Cx}
theorem gH:MtR X "list.index" (nB X.K):=by
 intro pins s σ H x xs v us Q I rx rs h
 obtain⟨t,ys,y,j,rfl,rfl,ht,fy,fs,hx,q⟩:=h
 cases rx
 obtain⟨u,rfl,ru⟩:=vals1 rs
 obtain⟨its,r,p1,hz⟩:=I.list ht
 obtain⟨⟨cls,dd,data,sl⟩,ho,hc,n,hd⟩:=id p1.isList
 simp only at hc hd
 subst hc hd
 have hm:=eQ (x:=y) r fs
 have at_:∀(i:Nat) (h1:i<its.length) (h2:i<ys.length),eqU y its[i]=eqV ys[i] y:=fun i h1 h2=>by
  have:=congrArg (·[i]?) hm
  simp only[AQ,Ae h1,Ae h2,DH,Ef]at this
  exact this
 have hl:=r.length
 obtain⟨hj,hit,hno⟩:=Em.mp hx
 have hsz:its.length<=AA:=by first|exact hz|(rw[<-hl];exact hz)|simpa using hz
 rw[A3]at hsz
 refine CD F.slot_list_index ⟨_,ho,rfl⟩ F.entry_list_index (F.args_list_index_2 _ _) (list_indexAt t its.toArray n dd sl u (eqU y) j (by rw[Ah];omega) (by omega) ?_ fun m hm hmj=>?_) ⟨ho,fun w hw=>qA ru fy r fs w (by simpa using hw),?_⟩
 . rw[List.getElem_toArray,at_ j (by omega) hj];exact hit
 . rw[Ah]at hm
   rw[List.getElem_toArray,at_ m hm (by omega)]
   have:=hno m hmj
   simpa using this
 . exact⟨.int _,H,I.tok _,⟨s.toks,rfl⟩,q⟩
theorem gW{o e:Expr}{to te:TE}{apos cpos:Pos}(ho:PE X o to)(he:PE X e te)(hbase:DB o "index" X.env (eval o X.env)=eval o X.env:=by rfl)(hst:noStar e=true:=by rfl)(hline:(apos.endLine == cpos.line)=true:=by rfl) :
 PE X (.Call (.Attribute o "index" apos) [e] [] cpos) (tBM X.K "list" (nB X.K) to (vJ te qQ)):=by
 have hs1:AM [e] X.env=(false,eval e X.env)::AM [] X.env:=zd hst
 refine bD Ed PySem.F.slot_list_index PySem.F.type_list_index gH ho (pac he yr hst) hbase ?_ hline hs1 rfl
 rw[hs1];rfl
theorem nX:yJ X (.builtin "isinstance") (SE X.K):=by
 intro pins s σ H vs us Q I r h
 obtain⟨a,oe,C,dv,du,b,Kc,rfl,ha,hc,sub,F,hd,hk,q⟩:=h
 cases r with
 |cons r1 r2=>
  cases r2 with
  |cons r2 r3=>
   cases r3
   cases r1
   rw[hd _ r2]
   exact kia_one (d0 F hc) (sub.inn I.kIn) (I.hok a _ ha).1 hk (fun z=>nomatch z) fun tk=>⟨.bl b,H,I.tok tk,rfl,q⟩
theorem Ve{c:Str}{D:Addr}{p:Pos}(hg:Gl X c)(hm:X.mg c=some (.ref D))(hdb:(c == ("__debug__":Str))=false):PE X (.Name c p) (tC (.ref D)):=fun pins s σ H Q I h=>wO I hg hm ⟨.ref D,H,I,rfl,h⟩ hdb
theorem VY{c:Str}{n:String}{p:Pos}(hg:Gl X c)(hm:X.mg c=none)(hv:Cf c=some (.type n))(hn:c≠"__name__")(hdb:(c == ("__debug__":Str))=false):PE X (.Name c p) (tC (.ty n)):=fun pins s σ H Q I h=>uD I hg hm hv ⟨.ty n,H,I,rfl,h⟩ hn hdb
end
end L2
end
section
namespace L2
open PySem PySem.W PySem.Spec PySem.Calls PyProof PyProof.Rows
noncomputable def vP(sc:Scope):List Str->List Expr->Bool
 |[],es=>es.isEmpty
 |c::cs,es=>M.lc es fun e es=>(M.eCN e fun f xs=>M.lc xs fun a ys=>M.l1 ys fun b=>M.eName a fun y _=>M.eName b fun x _=>decide (f="isinstance")&&decide (y="_law_e")&&decide (x=c)&&decide (sc.names.lookup c=some .globalImplicit)&&!(c == ("__debug__":Str)))&&vP sc cs es
noncomputable def tJ:List Str->List Expr->Bool
 |[],es=>es.isEmpty
 |w::ws,es=>M.lc es fun e es=>(M.a0 e fun c _ _=>decide (c=.str w))&&tJ ws es
noncomputable def adr(mg:Str->Option Value)(c:Str):Addr:=match mg c with|some (.ref D)=>D|_=>0
theorem fO{mg:Str->Option Value}{c:Str}{D:Addr}(h:mg c=some (.ref D)):adr mg c=D:=by unfold adr;rw[h]
noncomputable def aH(K:Af)(dv:V):TE:=tCB (SE K) (vJ (uM 0) (vJ (tC dv) qQ))
noncomputable def kf(K:Af)(mg:Str->Option Value):List Str->TA
 |[]=>qQ
 |c::cs=>vJ (aH K (.ref (adr mg c))) (kf K mg cs)
noncomputable def lA:List Str->TA
 |[]=>qQ
 |w::ws=>vJ (tC (.str w)) (lA ws)
structure KB(X:Cx)(sc:Scope):Prop where
 es:X.env.scope=sc
 nd:X.N.Nodup
 n0:X.N[0]?=some ("_law_e":Str)
 n1:X.N[1]?=some ("_law_marks":Str)
 n2:X.N[2]?=some ("_law_words":Str)
 l0:sc.names.lookup ("_law_e":Str)=some .local
 l1:sc.names.lookup ("_law_marks":Str)=some .local
 l2:sc.names.lookup ("_law_words":Str)=some .local
 gi:sc.names.lookup ("isinstance":Str)=some .globalImplicit
 gv:sc.names.lookup ("ValueError":Str)=some .globalImplicit
 mi:X.mg "isinstance"=none
 mv:X.mg "ValueError"=none
structure KS(K Kc:Af)(C a:Addr)(oe:Obj)(H0:Hp)(σ:St)(H:Hp):Prop where
 e0:σ[0]?=some (some (.ref a))
 ha:H a=some (.frz oe (.own 0))
 hc:oe.cls=.ref C
 F:rB Kc C
 sub:qV Kc K
 sm:xt H0 H
section
variable {X:Cx}{sc:Scope}
theorem KB.gl(B:KB X sc){x:Str}(h:sc.names.lookup x=some .globalImplicit):Gl X x:=by show X.env.scope.names.lookup x=_;rw[B.es];exact h
theorem KB.vis(B:KB X sc){x:Str}(h:sc.names.lookup x=some .local):Vis X.env.scope x:=by rw[B.es];exact .inl h
theorem KB.Ts(B:KB X sc){p:Pos}:PE X (.Name "_law_e" p) (uM 0):=vX B.n0 (B.vis B.l0) (by decide) (by decide)
theorem KB.Va(B:KB X sc){p:Pos}:PE X (.Name "_law_marks" p) (uM 1):=vX B.n1 (B.vis B.l1) (by decide) (by decide)
theorem KB.RU(B:KB X sc){p:Pos}:PE X (.Name "_law_words" p) (uM 2):=vX B.n2 (B.vis B.l2) (by decide) (by decide)
theorem KB.Tu(B:KB X sc){c:Str}{D:Addr}{p1 p2 p3 p4:Pos}(hg:sc.names.lookup c=some .globalImplicit)(hdb:(c == ("__debug__":Str))=false)(hm:X.mg c=some (.ref D)):PE X (.Call (.Name "isinstance" p1) [.Name "_law_e" p2,.Name c p3] [] p4) (aH X.K (.ref D)):=
 vW nX (B.gl B.gi) B.mi boot_isinstance (xV B.Ts (xV (Ve (B.gl hg) hm hdb) yr))
theorem KB.VZ(B:KB X sc){p1 p2 p3 p4:Pos}:PE X (.Call (.Name "isinstance" p1) [.Name "_law_e" p2,.Name "ValueError" p3] [] p4) (aH X.K (.ty "ValueError")):=
 vW nX (B.gl B.gi) B.mi boot_isinstance (xV B.Ts (xV (VY (B.gl B.gv) B.mv (by first|rfl|decide +kernel) (by decide) (by decide)) yr))
theorem KB.isl(B:KB X sc):∀{cs:List Str} {es:List Expr},vP sc cs es=true->(∀c∈cs,∃D,X.mg c=some (.ref D))->PA X es (kf X.K X.mg cs)
 |[],es,h,_=>by cases AY.mp h;exact yr
 |c::cs,es,h,hm=>by
  replace h:=M.yV h
  obtain⟨e,es,rfl,h⟩:=h
  obtain⟨h0,h6⟩:=M.zW h
  replace h0:=M.yn h0
  obtain⟨f,p1,xs,p4,rfl,h0⟩:=h0
  replace h0:=M.d6 h0
  obtain⟨a,b,rfl,h0⟩:=h0
  replace h0:=M.y0 h0
  obtain⟨y,p2,rfl,h0⟩:=h0
  replace h0:=M.y0 h0
  obtain⟨x,p3,rfl,h0⟩:=h0
  clear h
  simp only[Aa,decide_eq_true_eq,AX]at h0
  obtain⟨⟨⟨⟨rfl,rfl⟩,rfl⟩,h4⟩,h5⟩:=h0
  obtain⟨D,hD⟩:=hm _ (Av ..)
  refine xV ?_ (KB.isl B h6 fun c' hc'=>hm c' (Ao _ hc'))
  rw[fO hD]
  exact B.Tu h4 h5 hD
theorem Vz:∀{ws:List Str} {es:List Expr},tJ ws es=true->PA X es (lA ws)
 |[],es,h=>by cases AY.mp h;exact yr
 |w::ws,es,h=>by
  replace h:=M.yV h
  obtain⟨e,es,rfl,h⟩:=h
  obtain⟨h0,h6⟩:=M.zW h
  obtain⟨c,k,p,rfl,h1⟩:=M.rS h0
  obtain rfl:=of_decide_eq_true h1
  exact xV tS (Vz h6)
end
section
variable {K Kc:Af}{mg:Str->Option Value}{C a:Addr}{oe:Obj}{H0 H:Hp}{σ:St}
theorem dG{dv:V}{du:Value}{b:Bool}{Q:VK}(S:KS K Kc C a oe H0 σ H)(hd:∀u,RelV dv u->u=du)(hk:kitOne Kc (.ref C) du=some b)(q:Q (.bl b) H):aH K dv σ H Q:=
 ⟨_,S.e0,a,oe,C,dv,du,b,Kc,rfl,S.ha,S.hc,S.sub,S.F,hd,hk,q⟩
theorem oU(S:KS K Kc C a oe H0 σ H)(b:Str->Bool):∀{cs:List Str} {Q:List V->Hp->Prop},(∀c∈cs,kitOne Kc (.ref C) (.ref (adr mg c))=some (b c))->Q (cs.map fun c=>.bl (b c)) H->kf K mg cs σ H Q
 |[],_,_,q=>q
 |c::cs,Q,hk,q=>dG S (fun u z=>z) (hk c (Av ..)) (oU S b (fun c' hc'=>hk c' (Ao _ hc')) q)
theorem qP:∀{ws:List Str} {Q:List V->Hp->Prop},Q (ws.map V.str) H->lA ws σ H Q
 |[],_,q=>q
 |w::ws,Q,q=>qP (ws:=ws) q
theorem xa{p:Addr}{o:HO}(h:H p=none):xt H (upd H p o):=fun b u e=>by rw[zI (zR e h)];exact e
theorem KS.new{p:Addr}{o:HO}(S:KS K Kc C a oe H0 σ H)(h:H p=none):KS K Kc C a oe H0 σ (upd H p o):=⟨S.e0,xa h _ _ S.ha,S.hc,S.F,S.sub,S.sm.trans (xa h)⟩
theorem KS.put{i:Nat}{v:V}(S:KS K Kc C a oe H0 σ H):KS K Kc C a oe H0 (σ.set (i+1) (some v)) H:=⟨by rw[BK (by omega)];exact S.e0,S.ha,S.hc,S.F,S.sub,S.sm⟩
theorem Zt{b:Str->Bool}{cs:List Str}{D:Ends}(S:KS K Kc C a oe H0 σ H)(hl:3<=σ.length)(hz:cs.length<=1000)(hk:∀c∈cs,kitOne Kc (.ref C) (.ref (adr mg c))=some (b c))
 (q:∀(p:Addr) (σ':St) (H':Hp),KS K Kc C a oe H0 σ' H'->σ'.length=σ.length->σ'[1]?=some (some (.ref p))->H' p=some (.lst (cs.map fun c=>.bl (b c)))->D.nx σ' H'):u0 (kg (kf K mg cs)) (x9 1) D σ H:=
 oU S b hk ⟨by rw[Ai,A3];omega,fun p hp=>q p _ _ (S.new hp).put (by simp) (by rw[AR (by omega)]) zN⟩
theorem oa{b:Str->Bool}{ds cs:List Str}{D:Ends}{p0:Addr}(S:KS K Kc C a oe H0 σ H)(hl:3<=σ.length)(h1:σ[1]?=some (some (.ref p0)))(h2:H p0=some (.lst (ds.map fun c=>.bl (b c))))(hz:ds.length+cs.length<=1000)(hk:∀c∈cs,kitOne Kc (.ref C) (.ref (adr mg c))=some (b c))
 (q:∀(p:Addr) (σ':St) (H':Hp),KS K Kc C a oe H0 σ' H'->σ'.length=σ.length->σ'[1]?=some (some (.ref p))->H' p=some (.lst ((ds++cs).map fun c=>.bl (b c)))->D.nx σ' H'):u0 (tOp YJ (uM 1) (kg (kf K mg cs))) (x9 1) D σ H:=by
 refine⟨_,h1,oU S b hk ⟨by rw[Ai,A3];omega,fun p1 hp1=>⟨p0,p1,_,_,rfl,rfl,by rw[zI (zR h2 hp1)];exact h2,zN,by rw[Ai,Ai,A3];omega,fun p hp=>?_⟩⟩⟩
 refine q p _ _ ((S.new hp1).new hp).put (by simp) (by rw[AR (by omega)]) ?_
 rw[zN,Co]
end
end L2
end
section
namespace L2
open PySem PySem.W PySem.Spec PySem.Calls PyProof PyProof.Rows
noncomputable def ans(pre:Option Str)(w:Str):Str:=match pre with|none=>w|some x=>x++w
noncomputable def T8:R2:=fun x y H Q=>∃i j,x=.str i/\y=.str j/\i.length+j.length<=AA/\Q (.str (i++j)) H
noncomputable def iE(K:Af)(ws2:List Str):TE:=tOp (Vr K) (tOp YJ (uM 2) (kg (lA ws2))) (tBM K "list" (nB K) (uM 1) (vJ (tC (.bl true)) qQ))
noncomputable def kh(K:Af)(pre:Option Str)(ws2:List Str):TE:=match pre with
 |none=>iE K ws2
 |some x=>tOp T8 (tC (.str x)) (iE K ws2)
noncomputable def tMk(K:Af)(mg:Str->Option Value)(cs:List Str):TS:=u0 (tOp YJ (uM 1) (kg (kf K mg cs))) (x9 1)
noncomputable def Xa(K:Af)(mg:Str->Option Value)(cs1 cs2 cs3 cs4 ws1 ws2:List Str)(pre:Option Str)(odd:Str):TS:=
 m9 (u0 (kg (kf K mg cs1)) (x9 1)) (m9 (tMk K mg cs2) (m9 (tMk K mg cs3) (m9 (tMk K mg cs4)
  (m9 (Sh (tOr (Si (tB (aH K (.ty "ValueError")))) (iF (tOp rNe (tBM K "list" (kK K false) (uM 1) (vJ (tC (.bl true)) qQ)) (tC (.int 1))))) (gw (tC (.str odd))) Xb)
   (m9 (u0 (kg (lA ws1)) (x9 2)) (gw (kh K pre ws2)))))))
section
variable {X:Cx}{sc:Scope}
theorem KB.pick(B:KB X sc){ws2:List Str}{l2:List Expr}{p1 p2 p3 p4 p5 p6 ap cp:Pos}{k:Nat}(w2:tJ ws2 l2=true)(hline:(ap.endLine == cp.line)=true) :
 PE X (.Subscript (.BinOp (.Name "_law_words" p1) .Add (.List l2 p2) p3) (.Call (.Attribute (.Name "_law_marks" p4) "index" ap) [.Constant (.bool true) k p5] [] cp) p6) (iE X.K ws2):=
 XU jk (mX kB B.RU (qL (Vz w2))) (gW B.Va bC (hline:=hline)) (fun _ _=>rfl)
theorem KB.mks(B:KB X sc){cs:List Str}{es:List Expr}{p1 p2 p3 p4 p5:Pos}(h:vP sc cs es=true)(hm:∀c∈cs,∃D,X.mg c=some (.ref D)) :
 PS X (.Assign [.Name "_law_marks" p1] (.BinOp (.Name "_law_marks" p2) .Add (.List es p3) p4) p5) (tMk X.K X.mg cs):=
 uK B.nd B.n1 (by rw[B.es];exact .inl B.l1) (mX kB B.Va (qL (B.isl h hm))) (hf:=.inr (by rw[B.es];exact B.l1))
theorem dy(B:KB X sc){cs1 cs2 cs3 cs4 ws1 ws2:List Str}{pre:Option Str}{odd:Str}{e1 e2 e3 e4 l1:List Expr}{r:Expr}{a1 a2 a3 b1 b2 b3 b4 b5 c1 c2 c3 c4 c5 d1 d2 d3 d4 d5 f1 f2 f3 f4 f5 f6 f7 f8 f9 fa fb fc fd g1 g2 g3 ap cp r1:Pos}{k1 k2 k3:Nat}
 (h1:vP sc cs1 e1=true) (h2:vP sc cs2 e2=true) (h3:vP sc cs3 e3=true) (h4:vP sc cs4 e4=true) (hm:∀c∈cs1++cs2++cs3++cs4,∃D,X.mg c=some (.ref D)) (w1:tJ ws1 l1=true) (hline:(ap.endLine == cp.line)=true) (hr:PE X r (kh X.K pre ws2)) :
 PSs X [.Assign [.Name "_law_marks" a1] (.List e1 a2) a3,.Assign [.Name "_law_marks" b1] (.BinOp (.Name "_law_marks" b2) .Add (.List e2 b3) b4) b5,.Assign [.Name "_law_marks" c1] (.BinOp (.Name "_law_marks" c2) .Add (.List e3 c3) c4) c5,
  .Assign [.Name "_law_marks" d1] (.BinOp (.Name "_law_marks" d2) .Add (.List e4 d3) d4) d5,
  .If (.BoolOp .Or [.UnaryOp .Not (.Call (.Name "isinstance" f1) [.Name "_law_e" f2,.Name "ValueError" f3] [] f4) f5,.Compare (.Call (.Attribute (.Name "_law_marks" f6) "count" ap) [.Constant (.bool true) k1 f7] [] cp) [.NotEq] [.Constant (.int 1) k2 f8] f9] fa) [.Return (some (.Constant (.str odd) k3 fb)) fc] [] fd,
  .Assign [.Name "_law_words" g1] (.List l1 g2) g3,.Return (some r) r1] (Xa X.K X.mg cs1 cs2 cs3 cs4 ws1 ws2 pre odd):=by
 have m1:∀c∈cs1,∃D,X.mg c=some (.ref D):=fun c h=>hm c (by simp[h])
 have m2:∀c∈cs2,∃D,X.mg c=some (.ref D):=fun c h=>hm c (by simp[h])
 have m3:∀c∈cs3,∃D,X.mg c=some (.ref D):=fun c h=>hm c (by simp[h])
 have m4:∀c∈cs4,∃D,X.mg c=some (.ref D):=fun c h=>hm c (by simp[h])
 refine yi (uK B.nd B.n1 (by rw[B.es];exact .inl B.l1) (qL (B.isl h1 m1)) (hf:=.inr (by rw[B.es];exact B.l1))) (yi (B.mks h2 m2) (yi (B.mks h3 m3) (yi (B.mks h4 m4) (yi ?_ (yi
  (uK B.nd B.n2 (by rw[B.es];exact .inl B.l2) (qL (Vz w1)) (hf:=.inr (by rw[B.es];exact B.l2))) (vA (vY hr)))))))
 exact me (T4 (kJ (Vo B.VZ)) (Vp (nA XM (gV B.Va bC (hline:=hline)) bJ (qE _ (by decide) (by decide))))) (vA (vY tS)) oz
end
section
variable {K Kc:Af}{mg:Str->Option Value}{C a:Addr}{oe:Obj}{H0 H:Hp}{σ:St}
theorem jK{cs:List Str}{b:Str->Bool}:(cs.map fun c=>V.bl (b c)).all vF=true:=by rw[List.all_map,AI];intro _ _;rfl
theorem cY{cs:List Str}{c0:Str}(nd:cs.Nodup)(hm:c0∈cs):((cs.map fun c=>V.bl (decide (c=c0))).countP fun z=>eqV z (.bl true))=1:=by
 rw[List.countP_map]
 have e:((fun z=>eqV z (.bl true))∘fun c=>V.bl (decide (c=c0)))=fun c:Str=>c == c0:=by
  funext c
  by_cases z:c=c0
  . subst z;simp[eqV]
  . simp[eqV,z]
 rw[e]
 have h1:cs.count c0<=1:=List.nodup_iff_count.mp nd c0
 have h2:0<cs.count c0:=List.count_pos_iff.mpr hm
 show cs.count c0=1
 omega
theorem ZV{cs:List Str}{c0:Str}{i:Nat}(nd:cs.Nodup)(hi:cs[i]?=some c0):(cs.map fun c=>V.bl (decide (c=c0))).findIdx? (fun z=>eqV z (.bl true))=some i:=by
 obtain⟨h1,h2⟩:=As.mp hi
 rw[Em]
 refine⟨by rw[Ai];exact h1,by rw[Gj,h2];simp[eqV],fun j hj=>?_⟩
 rw[Gj]
 have:cs[j]≠c0:=fun z=>by
  rw[<-h2]at z
  exact absurd ((List.getElem_inj nd).mp z) (by omega)
 simp[eqV,this]
theorem dz{cs1 cs2 cs3 cs4 ws1 ws2:List Str}{pre:Option Str}{odd c0 w:Str}{i:Nat}{D:Ends}(S:KS K Kc C a oe H0 σ H)(hl:3<=σ.length)(nd:(cs1++cs2++cs3++cs4).Nodup)(hz:(cs1++cs2++cs3++cs4).length<=100)(hz2:(ws1++ws2).length<=100)
 (hi:(cs1++cs2++cs3++cs4)[i]?=some c0) (hw:(ws1++ws2)[i]?=some w) (hwl:w.length<=100) (hpl:∀x,pre=some x->x.length<=100) (hk:∀c∈cs1++cs2++cs3++cs4,kitOne Kc (.ref C) (.ref (adr mg c))=some (decide (c=c0))) (hv:kitOne Kc (.ref C) (.type "ValueError")=some true)
 (q:∀H',xt H0 H'->D.rt (.str (ans pre w)) H'):Xa K mg cs1 cs2 cs3 cs4 ws1 ws2 pre odd D σ H:=by
 simp only[Ap]at hz hz2
 have k1:∀c∈cs1,kitOne Kc (.ref C) (.ref (adr mg c))=some (decide (c=c0)):=fun c h=>hk c (by simp[h])
 have k2:∀c∈cs2,kitOne Kc (.ref C) (.ref (adr mg c))=some (decide (c=c0)):=fun c h=>hk c (by simp[h])
 have k3:∀c∈cs3,kitOne Kc (.ref C) (.ref (adr mg c))=some (decide (c=c0)):=fun c h=>hk c (by simp[h])
 have k4:∀c∈cs4,kitOne Kc (.ref C) (.ref (adr mg c))=some (decide (c=c0)):=fun c h=>hk c (by simp[h])
 refine Zt (b:=fun c=>decide (c=c0)) S hl (by omega) k1 fun p1 σ1 H1 S1 n1 e1 q1=>?_
 refine oa (b:=fun c=>decide (c=c0)) (ds:=cs1) S1 (by omega) e1 q1 (by omega) k2 fun p2 σ2 H2 S2 n2 e2 q2=>?_
 refine oa (b:=fun c=>decide (c=c0)) (ds:=cs1++cs2) S2 (by omega) e2 q2 (by rw[Ap];omega) k3 fun p3 σ3 H3 S3 n3 e3 q3=>?_
 refine oa (b:=fun c=>decide (c=c0)) (ds:=cs1++cs2++cs3) S3 (by omega) e3 q3 (by rw[Ap,Ap];omega) k4 fun p4 σ4 H4 S4 n4 e4 q4=>?_
 have hmem:c0∈cs1++cs2++cs3++cs4:=AS hi
 refine dG S4 (fun u z=>z) hv ⟨true,rfl,?_⟩
 refine sR ?_
 refine⟨_,e4,?_,p4,_,.bl true,rfl,rfl,.inl (.inl q4),rfl,jK,rfl,_,rfl,?_⟩
 . exact .inl ⟨rfl,_,.inl (.inl q4)⟩
 rw[cY nd hmem]
 refine sR ?_
 refine qP ⟨by rw[Ai,A3];omega,fun p5 hp5=>?_⟩
 have S5:KS K Kc C a oe H0 (σ4.set 2 (some (.ref p5))) (upd H4 p5 (.lst (ws1.map V.str))):=(S4.new hp5).put
 have e5:(σ4.set 2 (some (V.ref p5)))[1]?=some (some (.ref p4)):=by rw[BK (by omega)];exact e4
 have q5:upd H4 p5 (.lst (ws1.map V.str)) p4=some (.lst ((cs1++cs2++cs3++cs4).map fun c=>V.bl (decide (c=c0)))):=by rw[zI (zR q4 hp5)];exact q4
 have pick:∀Q:VK,(∀H',xt H0 H'->Q (.str w) H')->iE K ws2 (σ4.set 2 (some (.ref p5))) (upd H4 p5 (.lst (ws1.map V.str))) Q:=fun Q hQ=>by
  refine⟨_,by rw[AR (by omega)],qP ⟨by rw[Ai,A3];omega,fun p6 hp6=>⟨p5,p6,_,_,rfl,rfl,by rw[zI (zR zN hp6)];exact zN,zN,by rw[Ai,Ai,A3];omega,fun p7 hp7=>?_⟩⟩⟩
  have q6:=xa (o:=.lst (ws1.map V.str++ws2.map V.str)) hp7 _ _ (xa (o:=.lst (ws2.map V.str)) hp6 _ _ q5)
  refine⟨_,e5,.inl ⟨rfl,_,.inl (.inl q6)⟩,p4,_,.bl true,i,rfl,rfl,.inl (.inl q6),rfl,jK,ZV nd hi,p7,_,i,.str w,rfl,rfl,.inl (.inl zN),?_,hQ _ ((S5.sm.trans (xa hp6)).trans (xa hp7))⟩
  obtain⟨h1,h2⟩:=As.mp hw
  rw[Ap]at h1
  unfold atI ixN
  rw[<-Co,if_pos (by omega),Ai,Ap,if_pos (by omega)]
  show (Fe V.str (ws1++ws2))[(i:Int).toNat]?=_
  rw[Bk,AQ,hw];rfl
 cases pre with
 |none=>exact pick _ q
 |some x=>
  refine pick _ fun H' sm=>⟨x,w,rfl,rfl,?_,q H' sm⟩
  have:=hpl x rfl
  rw[A3];omega
end
end L2
end
section
namespace L2
open PySem PySem.W PySem.Spec PySem.Calls PyProof PyProof.Rows
noncomputable def kN:List Str:=["_law_e","_law_marks","_law_words"]
def fH(sc:Scope)(cs ws:List Str)(pre:Option Str)(body:List Stmt):Prop:=
 ∃(cs1 cs2 cs3 cs4 ws1 ws2:List Str) (odd:Str) (e1 e2 e3 e4 l1 l2:List Expr) (r s:Expr) (a1 a2 a3 b1 b2 b3 b4 b5 c1 c2 c3 c4 c5 d1 d2 d3 d4 d5 f1 f2 f3 f4 f5 f6 f7 f8 f9 fa fb fc fd g1 g2 g3 ap cp r1 q1 q2 q3 q4 q5 q6 ap2 cp2 t1 t2:Pos) (k1 k2 k3 k4 k5:Nat),
  body=[.Assign [.Name "_law_marks" a1] (.List e1 a2) a3,.Assign [.Name "_law_marks" b1] (.BinOp (.Name "_law_marks" b2) .Add (.List e2 b3) b4) b5,.Assign [.Name "_law_marks" c1] (.BinOp (.Name "_law_marks" c2) .Add (.List e3 c3) c4) c5,
   .Assign [.Name "_law_marks" d1] (.BinOp (.Name "_law_marks" d2) .Add (.List e4 d3) d4) d5,
   .If (.BoolOp .Or [.UnaryOp .Not (.Call (.Name "isinstance" f1) [.Name "_law_e" f2,.Name "ValueError" f3] [] f4) f5,.Compare (.Call (.Attribute (.Name "_law_marks" f6) "count" ap) [.Constant (.bool true) k1 f7] [] cp) [.NotEq] [.Constant (.int 1) k2 f8] f9] fa) [.Return (some (.Constant (.str odd) k3 fb)) fc] [] fd,
   .Assign [.Name "_law_words" g1] (.List l1 g2) g3,.Return (some r) r1] /\
  s=.Subscript (.BinOp (.Name "_law_words" q1) .Add (.List l2 q2) q3) (.Call (.Attribute (.Name "_law_marks" q4) "index" ap2) [.Constant (.bool true) k4 q5] [] cp2) q6 /\
  (match pre with|none=>r=s|some x=>r=.BinOp (.Constant (.str x) k5 t1) .Add s t2) /\
  (vP sc cs1 e1&&vP sc cs2 e2&&vP sc cs3 e3&&vP sc cs4 e4&&tJ ws1 l1&&tJ ws2 l2&&(ap.endLine == cp.line)&&(ap2.endLine == cp2.line))=true/\cs=cs1++cs2++cs3++cs4/\ws=ws1++ws2
structure pv(K:Af)(mg:Str->Option Value)(x:Str)(cs ws:List Str)(pre:Option Str):Prop where
 ex:∃(st:Stmt) (f:Addr) (fd:Bu),mg x=some (.ref f)/\Fun K x x st f fd/\wM kN ["_law_e"] (zG st)/\Binds K fd ["_law_e"] []/\fH (zG st) cs ws pre (yU st) /\
  ((zG st).names.lookup ("_law_e":Str)=some .local/\(zG st).names.lookup ("_law_marks":Str)=some .local/\(zG st).names.lookup ("_law_words":Str)=some .local/\(zG st).names.lookup ("isinstance":Str)=some .globalImplicit/\(zG st).names.lookup ("ValueError":Str)=some .globalImplicit)
 own:∀c∈cs,∃D,mg c=some (.ref D)
 mi:mg "isinstance"=none
 mv:mg "ValueError"=none
 nd:cs.Nodup
 hz:cs.length<=100
 hz2:ws.length<=100
 hw:∀w∈ws,w.length<=100
 hp:∀x,pre=some x->x.length<=100
structure Xl(Kc:Af)(mg:Str->Option Value)(cs:List Str)(C:Addr)(c0:Str):Prop where
 F:rB Kc C
 kit:∀c∈cs,kitOne Kc (.ref C) (.ref (adr mg c))=some (decide (c=c0))
 ve:kitOne Kc (.ref C) (.type "ValueError")=some true
def Named(K:Af)(mg:Str->Option Value)(cs:List Str)(C:Addr)(c0:Str):Prop:=∃Kc,qV Kc K/\Xl Kc mg cs C c0
noncomputable def tKC(K:Af)(mg:Str->Option Value)(cs ws:List Str)(pre:Option Str)(ie:Nat):TE:=fun σ H Q=>∃(a:Addr) (oe:Obj) (C:Addr) (c0:Str) (i:Nat) (w:Str),σ[ie]?=some (some (.ref a))/\H a=some (.frz oe (.own 0))/\oe.cls=.ref C/\Named K mg cs C c0 /\
 cs[i]?=some c0/\ws[i]?=some w/\∀H',xt H H'->Q (.str (ans pre w)) H'
section
variable {X:Cx}
theorem i8{x e:Str}{cs ws:List Str}{pre:Option Str}{ie:Nat}{p p2 pos:Pos}(F:pv X.K X.mg x cs ws pre)(hdp:X.A.depth<C0)(hg:Gl X x)(hdb:(x == ("__debug__":Str))=false)(hN:X.N[ie]?=some e)(hv:Vis X.env.scope e)(hd1:(e == ("__debug__":Str))=false)(hd2:(e == ("__classdict__":Str))=false) :
 PE X (.Call (.Name x p) [.Name e p2] [] pos) (tKC X.K X.mg cs ws pre ie):=by
 intro pins s σ H Q I ⟨a,oe,C,c0,i,w,h0,ha,hc,nm,hi,hw,q⟩
 obtain⟨st,f,fd,hm,Fn,S,hb,sh,hl0,hl1,hl2,hgi,hgv⟩:=F.ex
 refine BX (wO I hg hm ?_ hdb)
 have hpa:PA X [.Name e p2] (vJ (uM ie) qQ):=xV (vX hN hv hd1 hd2) yr
 refine DP (h₀:=X.base) I.ok.mod.kin Fn.kp (thn (hpa pos pins s σ H (fun vs H1=>vs=[V.ref a]/\H1=H) I ⟨_,h0,rfl,rfl⟩) fun us s1 ⟨vs,H1,I1,r,hvs,hH⟩=>⟨I1.kIn,?_⟩)
 subst hvs hH
 obtain⟨oc,od,kV,doc,pm,an,cdv,ct,osl,rfl,lk,hcd⟩:=Fn.ex
 have hl:us.length=1:=by rw[<-r.length];rfl
 have hbt:=hb s1 us I1.kIn (by rw[AZ];exact hl)
 rw[AZ]at hbt
 refine D4 (CI (nz (CX:=CX0) (E:=E0) (R:=CR CX0 X.stack X.prog X.w H1 s1 Q E0) (N:=kN) lk hcd S hdp I1.vS hbt rfl r fun s2 I2 _=>?_) fun r s' hq=>?_)
 . have I3:=I2.loud (A':=X.A.deeper (envOfC x (zG st) s1.heap.objs.size f cdv)) (ES I1.vS.frames)
   have B:KB ((xW CX0 X.prog X.w X.K X.mg X.base kN x (zG st) f cdv {X.A with handled:=none} X.stack s1 H1 E0).loud (X.A.deeper (envOfC x (zG st) s1.heap.objs.size f cdv))).nox (zG st):=
    ⟨rfl,S.nd,rfl,rfl,rfl,hl0,hl1,hl2,hgi,hgv,F.mi,F.mv⟩
   obtain⟨cs1,cs2,cs3,cs4,ws1,ws2,odd,e1,e2,e3,e4,l1,l2,rr,ss,a1,a2,a3,b1,b2,b3,b4,b5,c1,c2,c3,c4,c5,d1,d2,d3,d4,d5,f1,f2,f3,f4,f5,f6,f7,f8,f9,fa,fb,fc,fd,g1,g2,g3,ap,cp,r1,q1,q2,q3,q4,q5,q6,ap2,cp2,t1,t2,k1,k2,k3,k4,k5,hbody,hs,hr,hck,hcs,hws⟩:=sh
   simp only[Aa]at hck
   obtain⟨⟨⟨⟨⟨⟨⟨y1,y2⟩,y3⟩,y4⟩,y5⟩,y6⟩,y7⟩,y8⟩:=hck
   subst hcs hws hs
   have hpe:PE ((xW CX0 X.prog X.w X.K X.mg X.base kN x (zG st) f cdv {X.A with handled:=none} X.stack s1 H1 E0).loud (X.A.deeper (envOfC x (zG st) s1.heap.objs.size f cdv))).nox rr (kh X.K pre ws2):=by
    cases pre with
    |none=>subst hr;exact B.pick y6 y8
    |some x=>subst hr;exact mX qI tS (B.pick y6 y8)
   have t:=dy B (a1:=a1) (a2:=a2) (a3:=a3) (b1:=b1) (b2:=b2) (b3:=b3) (b4:=b4) (b5:=b5) (c1:=c1) (c2:=c2) (c3:=c3) (c4:=c4) (c5:=c5) (d1:=d1) (d2:=d2) (d3:=d3) (d4:=d4) (d5:=d5) (f1:=f1) (f2:=f2) (f3:=f3) (f4:=f4) (f5:=f5) (f6:=f6) (f7:=f7) (f8:=f8) (f9:=f9) (fa:=fa) (fb:=fb) (fc:=fc) (fd:=fd) (g1:=g1) (g2:=g2) (g3:=g3) (ap:=ap) (cp:=cp) (r1:=r1) (k1:=k1) (k2:=k2) (k3:=k3) (odd:=odd) (pre:=pre) (ws2:=ws2) y1 y2 y3 y4 F.own y5 y7 hpe
   unfold fG
   rw[hbody]
   obtain⟨Kc,sub,nm⟩:=nm
   have KS0:KS X.K Kc C a oe H1 (start kN [.ref a]) H1:=⟨rfl,ha,hc,nm.F,sub,xt.refl _⟩
   refine Ba (t [] s2 (start kN [.ref a]) H1 {nx:=fun _ _=>False,rt:=Q} (I3.wK _) (dz KS0 (show 3<=3 from Ag _) F.nd F.hz F.hz2 hi hw (F.hw _ (AS hw)) F.hp nm.kit nm.ve fun H' sm=>q H' sm)) (fun fl s' hs=>?_) fun _ _ z=>AF z
   cases fl with
   |ret u=>
    obtain⟨v,σ',H',J,rv,q'⟩:=hs
    exact⟨v,H',J.os,J.bare,J.base,J.hok,rv,q'⟩
   |next=>obtain⟨_,_,_,z⟩:=hs;exact AF z
   |brk=>obtain⟨_,_,_,z⟩:=hs;exact AF z
   |cont=>obtain⟨_,_,_,z⟩:=hs;exact AF z
 . cases r with
   |error e=>exact AF hq
   |ok fl=>
    cases fl with
    |ret u=>exact I1.after hq
    |next=>exact AF hq
    |brk=>exact AF hq
    |cont=>exact AF hq
end
end L2
end
section
namespace L2
open PySem PySem.W PySem.Spec PySem.Calls PyProof PyProof.Rows
structure jG(outer:List Env)(h:Heap)(H:Hp)(lf c:Addr)(qual:Str)(body:Expr)(lsc:Scope)(cl:List (Str × Addr))(pm ctv:Value)(N:List Str)(σ:St):Prop where
 ob:h.get? lf=some (kla_obj "<lambda>" qual noArgs body lsc cl pm c ctv)
 nl:H lf=none
 fl:lf ∉ frs outer
 cd:∃(o:Obj) (vs:Array Value) (t:Tok),H c=some (.frz o (.own 0))/\o.data=.fields vs/\vs[1]?=some (.str qual t)
 inj:∀x y b,cl.lookup x=some b->cl.lookup y=some b->x=y
 has:∀x,lsc.names.lookup x=some .free->∃b,cl.lookup x=some b
 cel:∀x b,cl.lookup x=some b->(∃v,h.IsCell b v)/\H b=none
 val:∀(i:Nat) (x:Str) (v:V),N[i]?=some x->σ[i]?=some (some v)->lsc.names.lookup x=some .free->∃u b,RelV v u/\cl.lookup x=some b/\h.IsCell b (some u)
 len:σ.length=N.length
 kd:lsc.kind=.function
 co:lsc.isCoroutine=false
 gn:lsc.isGenerator=false
 nm:∀x∈lsc.names,x.2≠.cell/\x.2≠.local
section
variable {X:Cx}{EE:Value->Hp->Prop}
theorem d9{lf c:Addr}{qual:Str}{body:Expr}{lsc:Scope}{cl:List (Str × Addr)}{pm ctv:Value}{N:List Str}{σ:St}{tb:TE}{ic:Nat}{p pos:Pos}(L:jG X.outer X.s₀.heap X.H₀ lf c qual body lsc cl pm ctv N σ)(hxn:X.ex=[])(hdp:X.A.depth<C0)(hh:X.A.handled=none)
 (hN:X.N[ic]?=some ("_law_call":Str)) (hv:Vis X.env.scope "_law_call")
 (hbody:∀(s':Shared) (H':Hp),PE (rR (CXE X.prog X.w) X.prog X.w X.K X.mg X.base N qual lsc lf (.ref c) cl X.A X.stack s' H' (fun cls _ H'=>EE cls H')) body tb) :
 PE (X.wK (XC X EE)) (.Call (.Name "_law_call" p) [] [] pos) (fun σ1 H1 Q=>σ1[ic]?=some (some (.ref lf))/\tb σ H1 Q):=by
 intro pins s1 σ1 H1 Q I ⟨h0,hq⟩
 have hpe:PE (X.wK (XC X EE)) (.Name "_law_call" p) (uM ic):=vX hN hv (by decide) (by decide)
 refine BX (thn (hpe pins s1 σ1 H1 (fun v H2=>v=V.ref lf/\H2=H1) I ⟨_,h0,rfl,rfl⟩) fun u s2 ⟨v,H2,I2,r,hv2,hH2⟩=>?_)
 subst hv2 hH2
 cases r
 have un:Un (frs X.outer) [] X.H₀ H2 X.s₀.heap s2.heap:=by have:=I2.base;rw[show (X.wK (XC X EE)).ex=[] from hxn]at this;exact this
 have ob2:s2.heap.get? lf=some (kla_obj "<lambda>" qual noArgs body lsc cl pm c ctv):=un.keep _ _ L.ob L.nl L.fl (by simp)
 have cr2:s2.heap.CodeRec (.ref c) qual:=by
  obtain⟨o,vs,t,q1,q2,q3⟩:=L.cd
  exact⟨c,o,vs,t,rfl,(I2.hok c _ (un.frzs c o _ q1)).1,q2,q3⟩
 have cell2:∀b v,X.s₀.heap.IsCell b v->X.H₀ b=none->s2.heap.IsCell b v:=fun b v ⟨o,e,d⟩ n=>by
  by_cases f:b∈frs X.outer
  . obtain⟨sl,e1⟩:=un.slot b o e n f (by simp)
    exact⟨_,e1,d⟩
  . exact⟨o,un.keep b o e n f (by simp),d⟩
 refine callWith_of (P:=fun h=>h.get? lf=some (kla_obj "<lambda>" qual noArgs body lsc cl pm c ctv)) rfl (fun h e=>⟨.frame,.inl rfl,(Looks.ld (part:=none) e).andThen .now⟩) (evalArgs_nil3 ⟨ob2,?_⟩)
 refine D4 (CI (Zq (CX:=CXE X.prog X.w) (E:=fun cls _ H'=>EE cls H') (R:=CR (CXE X.prog X.w) X.stack X.prog X.w H2 s2 Q (fun cls _ H'=>EE cls H')) (N:=N) (σ:=σ) hdp hh I2.vS ob2 cr2 L.kd L.co L.gn L.nm L.inj L.has (fun x b e=>?_) (fun i x v e1 e2 e3=>?_) L.len fun s3 I3=>?_) fun r s' hq=>?_)
 . obtain⟨⟨v,z⟩,n⟩:=L.cel x b e
   obtain⟨o,eo,_⟩:=id z
   exact⟨⟨v,cell2 b v z n⟩,un.free b o eo n (by simp)⟩
 . obtain⟨u,b,q1,q2,q3⟩:=L.val i x v e1 e2 e3
   obtain⟨_,n⟩:=L.cel x b q2
   exact⟨u,b,q1,q2,cell2 b _ q3 n⟩
 . refine Ba (hbody s2 H2 [] s3 σ H2 Q I3 hq) (fun u s' ⟨v,H',J,rv,q⟩=>?_) fun e s' z=>z
   exact⟨v,H',J.os,J.bare,J.base,J.hok,rv,q⟩
 . cases r with
   |error e=>
    obtain⟨a,cls,H',rfl,fl,hE⟩:=hq
    exact⟨a,cls,σ1,H2,s2,H',rfl,I2.yx.ox fun p hp=>absurd hp (by simp),fl,hE⟩
   |ok fl=>
    cases fl with
    |ret u=>exact I2.after hq
    |next=>exact AF hq
    |brk=>exact AF hq
    |cont=>exact AF hq
end
end L2
end
section
namespace L2
open PySem PySem.W PySem.Spec PySem.Calls PyProof PyProof.Rows
noncomputable def yb(m:Bool):Str:=if m then "_law_got" else "_law_said"
noncomputable def xZ(m:Bool):List Str:=if m then ["_law_call","_law_e"] else ["_law_call","_law_e","_law_word"]
def fJ(m:Bool)(kx:Str)(body:List Stmt):Prop:=∃(te:Expr) (p1 p2 p3 p4 p5 p6 p7 p8 p9 pa pb q1 q2 q3 q4 q5 q6 q7 q8:Pos) (k1 k2:Nat),body=if m then
 [.Try [.Return (some (.Call (.Name "_law_call" p1) [] [] p2)) p3] [.ExceptHandler (some (.Name "HueError" p4)) (some "_law_e") [.Return (some (.Call (.Name kx p6) [.Name "_law_e" p7] [] p8)) p9] pa] [] [] pb]
 else [.Try [.Expr (.Call (.Name "_law_call" p1) [] [] p2) p3] [.ExceptHandler (some (.Name "HueError" p4)) (some "_law_e") [.Assign [.Name "_law_word" p5] (.Call (.Name kx p6) [.Name "_law_e" p7] [] p8) p9,
  .Return (some (.IfExp (.Compare (.Name "_law_word" q1) [.Eq] [.Constant (.str "great") k1 q2] q3) te (.Name "_law_word" q4) q5)) q6] pa] [] [] pb,.Return (some (.Constant (.str "told") k2 q7)) q8]
structure fI(K:Af)(mg:Str->Option Value)(m:Bool)(kx:Str)(f:Addr):Prop where
 ex:∃(st:Stmt) (fd:Bu),mg (yb m)=some (.ref f)/\Fun K (yb m) (yb m) st f fd/\wM (xZ m) ["_law_call"] (zG st)/\Binds K fd ["_law_call"] []/\fJ m kx (yU st) /\
  (zG st).names.lookup ("_law_call":Str)=some .local/\(zG st).names.lookup ("_law_e":Str)=some .local/\(m=false->(zG st).names.lookup ("_law_word":Str)=some .local)/\(zG st).names.lookup ("HueError":Str)=some .globalImplicit/\(zG st).names.lookup kx=some .globalImplicit
 kd:(kx == ("__debug__":Str))=false
section
variable {X:Cx}{D:Ends}{s:Shared}{E:Value->Shared->Prop}
theorem iZ{st:Stmt}(h:wpAny (model X.prog X.w) X.A (exec st X.env) (SP X [] D) E s):wpAny (model X.prog X.w) X.A (execs [st] X.env) (SP X [] D) E s:=by
 refine Eu (thn h fun f s1 q=>?_)
 cases f with
 |next=>exact EM q
 |brk=>exact q
 |cont=>exact q
 |ret u=>exact q
theorem ig{st st2:Stmt}{t:TS}(h:wpAny (model X.prog X.w) X.A (exec st X.env) (SP X [] {D with nx:=t D}) X.xe s)(h2:PS X st2 t):wpAny (model X.prog X.w) X.A (execs [st,st2] X.env) (SP X [] D) X.xe s:=by
 refine Eu (thn h fun f s1 q=>?_)
 cases f with
 |next=>obtain⟨σ',H',I,q⟩:=q;exact vA h2 [] s1 σ' H' D I q
 |brk=>exact q
 |cont=>exact q
 |ret u=>exact q
end
section
variable {P:Program}{w:World}{K:Af}{mg:Str->Option Value}{base:Heap}{A:Around}{outer:List Env}{s:Shared}{H:Hp}{Q:VK}
theorem bu{m:Bool}{kx:Str}{cs ws:List Str}{pre:Option Str}{f hue lf c:Addr}{qual:Str}{body:Expr}{lsc:Scope}{cl:List (Str × Addr)}{pm ctv:Value}{N:List Str}{σ:St}{EE:Value->Hp->Prop}{tb:TE}
 (e0:lK P w K mg base A outer s H) (hh:A.handled=none) (hdp:A.depth+1<C0) (S:fI K mg m kx f) (KF:pv K mg kx cs ws pre) (hu:mg "HueError"=some (.ref hue)) (L:jG outer s.heap H lf c qual body lsc cl pm ctv N σ)
 (hbody:∀(env:Env) (s':Shared) (H':Hp),PE (rR (CXE P w) P w K mg base N qual lsc lf (.ref c) cl (A.deeper env) (env::outer) s' H' (fun cls _ H'=>EE cls H')) body tb)
 (hq:tb σ H fun v H1=>Q (if m then v else .str "told") H1)
 (hE:∀cls H',EE cls H'->∃(C:Addr) (c0:Str) (i:Nat) (x:Str),cls=.ref C/\(∃Kc,qV Kc K/\exmOne Kc (.ref C) (.ref hue)=some true)/\Named K mg cs C c0/\cs[i]?=some c0/\ws[i]?=some x/\(m=false->ans pre x≠"great")/\∀H'',xt H' H''->Q (.str (ans pre x)) H'') :
 codeAny (model P w) A (.call (.ref f) ⟨[.ref lf],[]⟩) (CR CX0 outer P w H s Q E0) s:=by
 obtain⟨st,fd,hm,Fn,Sc,hb,sh,l0,l1,l2,g0,g1⟩:=S.ex
 obtain⟨oc,od,kV,doc,pm',an,cdv,ct,osl,rfl,lk,hcd⟩:=Fn.ex
 have KX:K.In s.heap:=e0.mod.kin.keeps fun b o e=>(e0.bs b o e).1
 have hbt:=hb s [.ref lf] KX rfl
 refine nz (CX:=CX0) (E:=E0) (R:=CR CX0 outer P w H s Q E0) (N:=xZ m) (vs:=[.ref lf]) lk hcd Sc (by omega) e0 hbt rfl (.cons rfl .nil) fun s1 I1 _=>?_
 rw[nT hh]at I1
 obtain⟨te,p1,p2,p3,p4,p5,p6,p7,p8,p9,pa,pb,q1,q2,q3,q4,q5,q6,q7,q8,k1,k2,hbd⟩:=sh
 have hLam:jG (xW CX0 P w K mg base (xZ m) (yb m) (zG st) f cdv A outer s H E0).outer (xW CX0 P w K mg base (xZ m) (yb m) (zG st) f cdv A outer s H E0).s₀.heap (xW CX0 P w K mg base (xZ m) (yb m) (zG st) f cdv A outer s H E0).H₀ lf c qual body lsc cl pm ctv N σ:=L
 have hA:(xW CX0 P w K mg base (xZ m) (yb m) (zG st) f cdv A outer s H E0).A.depth=A.depth+1:=rfl
 have hlam:∀{p pos:Pos},PE ((xW CX0 P w K mg base (xZ m) (yb m) (zG st) f cdv A outer s H E0).wK (XC (xW CX0 P w K mg base (xZ m) (yb m) (zG st) f cdv A outer s H E0) EE)) (.Call (.Name "_law_call" p) [] [] pos) (fun σ1 H1 Q=>σ1[0]?=some (some (.ref lf))/\tb σ H1 Q):=fun{p pos}=>
  d9 hLam rfl (by rw[hA];exact hdp) hh (by cases m<;>rfl) (.inl l0) fun s' H'=>hbody _ s' H'
 have n1:(xZ m)[1]?=some ("_law_e":Str):=by cases m<;>rfl
 have fin:∀(fl:Flow) (s':Shared),SP (xW CX0 P w K mg base (xZ m) (yb m) (zG st) f cdv A outer s H E0) [] {nx:=fun _ _=>False,rt:=Q} fl s'->CR CX0 outer P w H s Q E0 (.ok (.ret (match fl with|.ret v=>v|_=>.none))) s':=fun fl s' hs=>by
  cases fl with
  |ret u=>
   obtain⟨v,σ',H',J,rv,q'⟩:=hs
   exact⟨v,H',J.os,J.bare,J.base,J.hok,rv,q'⟩
  |next=>obtain⟨_,_,_,z⟩:=hs;exact AF z
  |brk=>obtain⟨_,_,_,z⟩:=hs;exact AF z
  |cont=>obtain⟨_,_,_,z⟩:=hs;exact AF z
 have kc:∀(a:Addr) {p p2 pos:Pos},PE ((xW CX0 P w K mg base (xZ m) (yb m) (zG st) f cdv A outer s H E0).loud ((xW CX0 P w K mg base (xZ m) (yb m) (zG st) f cdv A outer s H E0).A.mark (some (.ref a)))).nox (.Call (.Name kx p) [.Name "_law_e" p2] [] pos) (tKC K mg cs ws pre 1):=fun a {p p2 pos}=>
  i8 KF (by show A.depth+1<_;exact hdp) g1 S.kd n1 (.inl l1) (by decide) (by decide)
 unfold fG
 rw[hbd]
 cases m with
 |true=>
  rw[if_pos rfl]
  refine Ba (iZ (X:=xW CX0 P w K mg base (xZ true) (yb true) (zG st) f cdv A outer s H E0) (D:={nx:=fun _ _=>False,rt:=Q}) (aN (EE:=EE) (ts:=gw (tKC K mg cs ws pre 1)) (ie:=1) I1 rfl rfl Sc.nd l1 n1 rfl rfl g0 (by decide) hu (vA (vY hlam)) ⟨rfl,hq⟩ (fun cls H' hc=>?_) fun a=>vA (vY (kc a)))) fin fun e s' z=>z
  obtain⟨C,c0,i,x,rfl,hx,nm,hi,hw,_,qq⟩:=hE cls H' hc
  refine⟨hx,fun a oe σ2 hn hcl hl=>⟨a,oe,C,c0,i,x,?_,zN,hcl,nm,hi,hw,fun H'' sm=>qq H'' ((xa hn).trans sm)⟩⟩
  rw[AR (by rw[hl];exact(by decide:1<2))]
 |false=>
  rw[if_neg Aj]
  have n2:(xZ false)[2]?=some ("_law_word":Str):=rfl
  refine Ba (ig (X:=xW CX0 P w K mg base (xZ false) (yb false) (zG st) f cdv A outer s H E0) (D:={nx:=fun _ _=>False,rt:=Q}) (t:=gw (tC (.str "told"))) (aN (EE:=EE) (ts:=m9 (u0 (tKC K mg cs ws pre 1) (x9 2)) (gw (tIf (iF (tOp rEq (uM 2) (tC (.str "great")))) (fun _ _ _=>False) (uM 2)))) (ie:=1) I1 rfl rfl Sc.nd l1 n1 rfl rfl g0 (by decide) hu (vA (oy hlam)) ⟨rfl,hq⟩ (fun cls H' hc=>?_) fun a=>?_) (vY tS)) fin fun e s' z=>z
  . obtain⟨C,c0,i,x,rfl,hx,nm,hi,hw,ng,qq⟩:=hE cls H' hc
    refine⟨hx,fun a oe σ2 hn hcl hl=>⟨a,oe,C,c0,i,x,?_,zN,hcl,nm,hi,hw,fun H'' sm=>?_⟩⟩
    . rw[AR (by rw[hl];exact(by decide:1<3))]
    . have e2:((σ2.set 1 (some (V.ref a))).set 2 (some (V.str (ans pre x))))[2]?=some (some (.str (ans pre x))):=by rw[AR (by rw[CM,hl];exact(by decide:2<3))]
      refine⟨_,e2,rfl,_,rfl,?_⟩
      have hne:¬(V.str (ans pre x)=V.str "great"):=fun z=>ng rfl (V.str.inj z)
      rw[decide_eq_false hne]
      exact sR ⟨_,e2,qq H'' ((xa hn).trans sm)⟩
  . have vw:Vis (zG st) "_law_word":=.inl (l2 rfl)
    have pw:∀{X':Cx} {p:Pos},X'.N=xZ false->X'.env.scope=zG st->PE X' (.Name "_law_word" p) (uM 2):=fun{X' p} h1 h2=>vX (by rw[h1];exact n2) (by rw[h2];exact vw) (by decide) (by decide)
    exact yi (uK Sc.nd n2 (.inl (l2 rfl)) (kc a) (hf:=.inr (l2 rfl))) (vA (vY (mW (nA XJ (pw rfl rfl) tS (qE _ (by decide) (by decide))) (fun _ _ _ _ _ _ z=>AF z) (pw rfl rfl))))
end
end L2
end
section
namespace M
open PySem
inductive Val where
 |none|bool (b:Bool)|int (i:Int)|str (x:Str)
 |tup (vs:List Val)|lst (vs:List Val)|dct0
 |ctup (ns:List Int)|scr (ns:List Int)
 |ref (i:Nat)|fn (x:Str)|ty (n:String)|dref (i:Nat)
 deriving Inhabited
inductive Cel where
 |lst (vs:List Val)
 |dS (kvs:List (Str × Val))
 |dT (kvs:List (List Int × Val))
 /-- the table of the codes that lie within the def x -/
 |tb (x:Str)
 deriving Inhabited
noncomputable abbrev Sto:=List Cel
noncomputable abbrev Env:=List (Option Val)
inductive Out(α:Type) where
 |ok (a:α) (s:Sto)
 |exc (c:Str) (args:List Val) (s:Sto)
 |stuck
noncomputable def Out.bind{α β:Type}(o:Out α)(f:α->Sto->Out β):Out β:=
 match o with
 |.ok a s=>f a s
 |.exc c as s=>.exc c as s
 |.stuck=>.stuck
@[simp] theorem zX{α β:Type}(a:α)(s:Sto)(f:α->Sto->Out β):(Out.ok a s).bind f=f a s:=rfl
@[simp] theorem rK{α β:Type}(f:α->Sto->Out β):(Out.stuck:Out α).bind f=.stuck:=rfl
@[simp] theorem fV{α β:Type}(c:Str)(as:List Val)(s:Sto)(f:α->Sto->Out β):(Out.exc c as s:Out α).bind f=.exc c as s:=rfl
mutual
noncomputable def Val.isD:Val->Bool
 |.none|.bool _|.int _=>true
 |.str x=>PyData.strOk x
 |.tup vs=>xO vs
 |.lst vs=>xO vs
 |.dct0|.ctup _|.scr _|.ref _|.fn _|.ty _|.dref _=>false
noncomputable def xO:List Val->Bool
 |[]=>true
 |v::vs=>v.isD&&xO vs
end
mutual
noncomputable def Val.isR:Val->Bool
 |.none|.bool _|.int _|.str _|.dct0=>true
 |.tup vs=>sQ vs
 |.lst vs=>sQ vs
 |.ctup _|.scr _|.ref _|.fn _|.ty _|.dref _=>false
noncomputable def sQ:List Val->Bool
 |[]=>true
 |v::vs=>v.isR&&sQ vs
end
mutual
noncomputable def Val.d:Val->PyData
 |.none=>.none
 |.bool b=>.bool b
 |.int i=>.int i
 |.str x=>.str x
 |.tup vs=>.tuple (ds vs)
 |.lst vs=>.list (ds vs)
 |.dct0=>.dict []
 |.ctup _|.scr _|.ref _|.fn _|.ty _|.dref _=>.none
noncomputable def ds:List Val->List PyData
 |[]=>[]
 |v::vs=>v.d::ds vs
end
mutual
noncomputable def Val.noRef:Val->Bool
 |.ref _|.dref _=>false
 |.tup vs=>zl vs
 |.lst vs=>zl vs
 |.none|.bool _|.int _|.str _|.dct0|.ctup _|.scr _|.fn _|.ty _=>true
noncomputable def zl:List Val->Bool
 |[]=>true
 |v::vs=>v.noRef&&zl vs
end
noncomputable def Cel.noRef:Cel->Bool
 |.lst vs=>zl vs
 |.dS kvs=>zl (kvs.map (·.2))
 |.dT kvs=>zl (kvs.map (·.2))
 |.tb _=>true
mutual
noncomputable def Val.beq:Val->Val->Bool
 |.none,.none=>true
 |.bool a,.bool b=>a == b
 |.int a,.int b=>a == b
 |.str a,.str b=>a == b
 |.tup a,.tup b=>tG a b
 |.lst a,.lst b=>tG a b
 |.dct0,.dct0=>true
 |.ctup a,.ctup b=>a == b
 |.scr a,.scr b=>a == b
 |.ref a,.ref b=>a == b
 |.fn a,.fn b=>a == b
 |.ty a,.ty b=>a == b
 |.dref a,.dref b=>a == b
 |_,_=>false
noncomputable def tG:List Val->List Val->Bool
 |[],[]=>true
 |a::as,b::bs=>a.beq b&&tG as bs
 |_,_=>false
end
noncomputable def Cel.beq:Cel->Cel->Bool
 |.lst a,.lst b=>tG a b
 |.dS a,.dS b=>decide (a.map (·.1)=b.map (·.1))&&tG (a.map (·.2)) (b.map (·.2))
 |.dT a,.dT b=>decide (a.map (·.1)=b.map (·.1))&&tG (a.map (·.2)) (b.map (·.2))
 |.tb a,.tb b=>decide (a=b)
 |_,_=>false
noncomputable def wD:Sto->Sto->Bool
 |[],_=>true
 |o::r,o'::r'=>(o'.noRef||o'.beq o)&&wD r r'
 |_::_,[]=>false
mutual
noncomputable def wN(n0:Nat)(s:Sto):Nat->Val->Option Val
 |_,.dref i=>if i<n0 then some (.dref i) else Ab
 |_,.ref i=>if i<n0 then some (.ref i) else match s[i]? with
  |some (.lst vs)=>if zl vs then some (.lst vs) else Ab
  |_=>Ab
 |k+1,.tup vs=>(uc n0 s k vs).map .tup
 |_,v=>if v.noRef then some v else Ab
noncomputable def uc(n0:Nat)(s:Sto):Nat->List Val->Option (List Val)
 |_,[]=>some []
 |0,_::_=>Ab
 |k+1,v::vs=>match (if v.noRef then some v else wN n0 s k v),uc n0 s k vs with
  |some v',some vs'=>some (v'::vs')
  |_,_=>Ab
end
noncomputable def freeze(n0:Nat)(s:Sto)(v:Val):Option Val:=if v.noRef then some v else wN n0 s 20 v
inductive Bop|add|sub|mul|fdiv|mod|pow|shl|shr|band
 deriving DecidableEq
inductive Cop|eq|ne|lt|le|gt|ge|is|isNot|in_|notIn|inD|notInD|notInK
 deriving DecidableEq
inductive Bf|len|all|any|tuple|list|sorted|repr|max|min|sum|int|isi|divmod|str|sortedI|minT|sortedR|minS
 deriving DecidableEq
inductive Mf|count|append|extend|pop|index|join
 deriving DecidableEq
inductive Tgt
 |nm (i:Nat)
 |nms (is:List Nat)
mutual
inductive Ex
 |lit (v:Val)|var (i:Nat)|gl (x:Str)|ty (x:Str) (n:String)
 |bin (m:Bool) (op:Bop) (a b:Ex)|neg (a:Ex)|not (a:Ex)
 |cmp (op:Cop) (a b:Ex)|chain (op op':Cop) (a b c:Ex)
 |andE (a:Ex) (es:Exs)|orE (a:Ex) (es:Exs)|ife (c:Cn) (a b:Ex)
 |tup (es:Exs)|lst (m:Bool) (es:Exs)|dct0
 |call (f:Str) (ver:Nat) (es:Exs)|blt (f:Bf) (m:Bool) (es:Exs)|maxD (a d:Ex)
 |xF (f:Mf) (m:Bool) (o:Ex) (es:Exs)
 |ix (a b:Ex)|sl (m:Bool) (a:Ex) (lo hi st:OEx)
 |comp (m:Bool) (N:List Str) (fr:List (Option Nat)) (elt:Ex) (t:Tgt) (it:Itb) (ifs:Cns)
 |comp2 (m:Bool) (N:List Str) (fr:List (Option Nat)) (elt:Ex) (t:Tgt) (it:Itb) (ifs:Cns) (t2:Tgt) (it2:Itb) (ifs2:Cns)
 |listRange (m:Bool) (a b c:Ex)
 |dctN (t:Bool)|ixD (a b:Ex)
inductive Exs
 |nil|cons (e:Ex) (es:Exs)
inductive OEx
 |no|yes (e:Ex)
inductive Cn
 |val (e:Ex)|not (c:Cn)|and (c:Cn) (cs:Cns)|or (c:Cn) (cs:Cns)
inductive Cns
 |nil|cons (c:Cn) (cs:Cns)
inductive Itb
 |val (e:Ex)|range1 (a:Ex)|range2 (a b:Ex)|enum (e:Ex)|zip (a b:Ex)
end
mutual
inductive Sm
 |expr (e:Ex)|ret (e:Ex)|retN|asg (i:Nat) (e:Ex)|asgT (is:List Nat) (e:Ex)|par (is:List Nat) (es:Exs)
 |aug (i:Nat) (op:Bop) (e:Ex)|setIx (o i e:Ex)
 |ifS (c:Cn) (a b:Sms)|forS (t:Tgt) (it:Itb) (b:Sms)|whileS (c:Cn) (b:Sms)
 |pass|brk|cont|raise (e:Ex)|setD (o i e:Ex)
inductive Sms
 |nil|cons (s:Sm) (ss:Sms)
end
structure Fn where
 N:List Str
 ps:List Str
 keep:Bool
 body:Sms
noncomputable abbrev Calls:=Str->Nat->List Val->Sto->Out Val
noncomputable def zU:Nat:=16777216
noncomputable def newList(m:Bool)(vs:List Val)(s:Sto):Out Val:=if m then .ok (.ref s.length) (s++[.lst vs]) else .ok (.lst vs) s
noncomputable def xI(s:Sto):Val->Option (List Val)
 |.tup vs=>some vs
 |.lst vs=>some vs
 |.ctup ns=>some (ns.map .int)
 |.scr ns=>some (ns.map .int)
 |.ref i=>match s[i]? with
  |some (.lst vs)=>some vs
  |_=>Ab
 |_=>Ab
noncomputable def yN(s:Sto):Val->Option (List Val)
 |.lst vs=>some vs
 |.ref i=>match s[i]? with
  |some (.lst vs)=>some vs
  |_=>Ab
 |_=>Ab
noncomputable def truth(s:Sto):Val->Option Bool
 |.none=>some false
 |.bool b=>some b
 |.int i=>some (i != 0)
 |.str x=>if x.length<=zU then some ((x.length:Int) != 0) else Ab
 |.tup vs=>some !vs.isEmpty
 |.lst vs=>some !vs.isEmpty
 |.dct0=>some false
 |.ref i=>match s[i]? with
  |some (.lst vs)=>some !vs.isEmpty
  |_=>Ab
 |_=>Ab
noncomputable def Out.truth(o:Out Val):Out Bool:=o.bind fun v s=>match M.truth s v with
 |some b=>.ok b s
 |Ab=>.stuck
noncomputable def yI(s:Sto):Val->Val
 |.ref i=>match s[i]? with
  |some (.lst vs)=>.lst vs
  |_=>.ref i
 |v=>v
noncomputable def zj(s:Sto):Val->Val
 |.tup vs=>.tup (vs.map (yI s))
 |v=>yI s v
noncomputable def qH(d:PyData):Bool:=d.showable&&d.leavesShort 40&&decide (d.depth<=50)&&decide (d.weight<=300000)&&(!d.hasDict||!L2.xC d)
noncomputable def flat:Val->Bool
 |.none|.bool _|.int _|.str _=>true
 |_=>false
noncomputable def eqF:Val->Val->Bool
 |.none,.none=>true
 |.bool a,.bool b=>a == b
 |.bool a,.int b=>(if a then 1 else 0) == b
 |.int a,.bool b=>a == (if b then 1 else 0)
 |.int a,.int b=>a == b
 |.str a,.str b=>a == b
 |_,_=>false
noncomputable def rW(a b:Val):Option Bool:=if a.isD&&b.isD&&decide (b.d.depth<=60) then some (Dw a.d b.d) else Ab
noncomputable def intsOf:List Val->Option (List Int)
 |[]=>some []
 |.int i::vs=>(intsOf vs).map (i::·)
 |_=>Ab
noncomputable def Val.isN:Val->Bool
 |.none=>true
 |_=>false
noncomputable def inD(x:Val)(vs:List Val):Bool:=x.isD&&xO vs&&decide (x.d.depth<=60)
noncomputable def ay{κ:Type} [DecidableEq κ]:List (κ × Val)->κ->Option Val
 |[],_=>Ab
 |p::r,k=>if p.1=k then some p.2 else ay r k
noncomputable def UZ{κ:Type} [DecidableEq κ] (kvs:List (κ × Val))(k:κ)(v:Val):List (κ × Val):=
 if (ay kvs k).isSome then kvs.map (fun p=>if p.1=k then (p.1,v) else p) else kvs++[(k,v)]
noncomputable def Yx(s:Sto):Val->Option (Nat × Cel)
 |.dref i=>(s[i]?).map fun c=>(i,c)
 |_=>Ab
noncomputable def Xv:Cel->Val->Option (Option Val)
 |.dS kvs,.str k=>some (ay kvs k)
 |.dT kvs,.tup vs=>(intsOf vs).map fun k=>ay kvs k
 |_,_=>Ab
noncomputable def Xw:Cel->Val->Val->Option Cel
 |.dS kvs,.str k,v=>if kvs.length<zU then some (.dS (UZ kvs k v)) else Ab
 |.dT kvs,.tup vs,v=>(intsOf vs).bind fun k=>if kvs.length<zU then some (.dT (UZ kvs k v)) else Ab
 |_,_,_=>Ab
noncomputable def getD(d y:Val)(s:Sto):Option (Option Val):=(Yx s d).bind fun c=>Xv c.2 y
noncomputable def ixD(d y:Val)(s:Sto):Out Val:=match getD d y s with
 |some (some v)=>.ok v s
 |_=>.stuck
noncomputable def putD(d y v:Val)(s:Sto):Option Sto:=(Yx s d).bind fun c=>(Xw c.2 y v).map fun c'=>s.set c.1 c'
noncomputable def strsOf:List Val->Option (List Str)
 |[]=>some []
 |.str x::vs=>(strsOf vs).map (x::·)
 |_=>Ab
noncomputable def zQ(op:Cop)(x y:Val)(s:Sto):Out Val:=
 match op with
 |.eq=>match x,y with
  |.str a,.str b=>.ok (.bool (decide (a=b))) s
  |.tup a,.ctup ns=>match rW (zj s (.tup a)) (.tup (ns.map .int)) with|some b=>.ok (.bool b) s|Ab=>.stuck
  |_,_=>match rW (zj s x) (zj s y) with|some b=>.ok (.bool b) s|Ab=>.stuck
 |.ne=>match x,y with
  |.str a,.str b=>.ok (.bool !(decide (a=b))) s
  |_,_=>match rW (zj s x) (zj s y) with|some b=>.ok (.bool !b) s|Ab=>.stuck
 |.is=>match y with|.none=>.ok (.bool x.isN) s|.bool b=>(match x with|.bool a=>.ok (.bool (decide (a=b))) s|_=>.stuck)|_=>.stuck
 |.isNot=>match y with|.none=>.ok (.bool !x.isN) s|.bool b=>(match x with|.bool a=>.ok (.bool !(decide (a=b))) s|_=>.stuck)|_=>.stuck
 |.in_=>match xI s y with
  |some vs=>if flat x&&vs.all flat then .ok (.bool (vs.any fun z=>eqF z x)) s else if inD x vs then .ok (.bool (vs.any fun z=>Dw z.d x.d)) s else .stuck
  |Ab=>.stuck
 |.notIn=>match xI s y with
  |some vs=>if flat x&&vs.all flat then .ok (.bool !(vs.any fun z=>eqF z x)) s else if inD x vs then .ok (.bool !(vs.any fun z=>Dw z.d x.d)) s else .stuck
  |Ab=>.stuck
 |.inD=>match getD y x s with|some o=>.ok (.bool o.isSome) s|Ab=>.stuck
 |.notInD=>match getD y x s with|some o=>.ok (.bool !o.isSome) s|Ab=>.stuck
 |.notInK=>match x with
  |.dct0=>(match xI s y with
   |some vs=>(match M.intsOf vs with|some _=>.ok (.bool true) s|Ab=>.stuck)
   |Ab=>.stuck)
  |_=>(match xI s y with
   |some vs=>if flat x&&vs.all flat then .ok (.bool !(vs.any fun z=>eqF z x)) s else if inD x vs then .ok (.bool !(vs.any fun z=>Dw z.d x.d)) s else .stuck
   |Ab=>.stuck)
 |.lt=>match x,y with|.int i,.int j=>.ok (.bool (decide (i<j))) s|_,_=>.stuck
 |.le=>match x,y with|.int i,.int j=>.ok (.bool (decide (i<=j))) s|_,_=>.stuck
 |.gt=>match x,y with|.int i,.int j=>.ok (.bool (decide (j<i))) s|_,_=>.stuck
 |.ge=>match x,y with|.int i,.int j=>.ok (.bool (decide (j<=i))) s|_,_=>.stuck
noncomputable def binOp(m:Bool)(op:Bop)(x y:Val)(s:Sto):Out Val:=
 match op with
 |.add=>match x,y with
  |.int i,.int j=>.ok (.int (i+j)) s
  |.str a,.str b=>if a.length+b.length<=zU then .ok (.str (a++b)) s else .stuck
  |.tup a,.tup b=>if a.length+b.length<=zU then .ok (.tup (a++b)) s else .stuck
  |_,_=>match yN s x,yN s y with
   |some a,some b=>if a.length+b.length<=zU then newList m (a++b) s else .stuck
   |_,_=>.stuck
 |.sub=>match x,y with|.int i,.int j=>.ok (.int (i-j)) s|_,_=>.stuck
 |.mul=>match x,y with
  |.int i,.int j=>if (-(2 ^ 64)<i/\i<2 ^ 64)\/(-(2 ^ 64)<j/\j<2 ^ 64) then .ok (.int (i*j)) s else .stuck
  |.tup a,.int k=>if -1000<=k/\k<=1000/\a≠[]/\a.length<=1000 then .ok (.tup (Az k.toNat a).flatten) s else .stuck
  |_,.int k=>match yN s x with
   |some a=>if -1000<=k/\k<=1000/\a.length*k.toNat<=zU then newList m (Az k.toNat a).flatten s else .stuck
   |Ab=>.stuck
  |_,_=>.stuck
 |.fdiv=>match x,y with|.int i,.int j=>if 0<j/\j<1073741824 then .ok (.int (i/j)) s else .stuck|_,_=>.stuck
 |.mod=>match x,y with|.int i,.int j=>if 0<j then .ok (.int (i%j)) s else .stuck|_,_=>.stuck
 |.pow=>match x,y with|.int i,.int j=>if 0<=j/\j<=1000000/\i.natAbs<2 ^ 64 then .ok (.int (i ^ j.toNat)) s else .stuck|_,_=>.stuck
 |.shl=>match x,y with|.int i,.int j=>if 0<=j/\j<=1000000/\i.natAbs<2 ^ 64 then .ok (.int (i*2 ^ j.toNat)) s else .stuck|_,_=>.stuck
 |.shr=>match x,y with|.int i,.int j=>if 0<=j then .ok (.int (i/2 ^ j.toNat)) s else .stuck|_,_=>.stuck
 |.band=>match x,y with|.int i,.int j=>.ok (.int (Builtin.bitAnd i j)) s|_,_=>.stuck
noncomputable def kindOf:Val->Option L2.Kd
 |.none=>some .non
 |.bool _=>some .bl
 |.int _=>some .int
 |.str _=>some .str
 |.tup _=>some .tup
 |.lst _=>some .lst
 |.dct0=>some .dct
 |.ref _=>some .lst
 |_=>Ab
noncomputable def vT:String->Option L2.Kd
 |"bool"=>some .bl
 |"int"=>some .int
 |"str"=>some .str
 |"list"=>some .lst
 |"tuple"=>some .tup
 |"dict"=>some .dct
 |_=>Ab
noncomputable def boolsOf:List Val->Option (List Bool)
 |[]=>some []
 |.bool b::vs=>(boolsOf vs).map (b::·)
 |_=>Ab
noncomputable def pairsOf:List Val->Option (List (Int × Int))
 |[]=>some []
 |.tup [.int a,.int b]::vs=>(pairsOf vs).map ((a,b)::·)
 |_=>Ab
noncomputable def prV(z:Int × Int):Val:=.tup [.int z.1,.int z.2]
noncomputable def Uu(z:Int × Int):List (Int × Int)->List (Int × Int)
 |[]=>[z]
 |y::ys=>if L2.jN z<=L2.jN y then z::y::ys else y::Uu z ys
noncomputable def m5:List (Int × Int)->List (Int × Int)
 |[]=>[]
 |z::zs=>Uu z (m5 zs)
noncomputable def nN:List Val->Option (List (List Int))
 |[]=>some []
 |.tup a::vs=>match intsOf a,nN vs with
  |some z,some zs=>some (z::zs)
  |_,_=>Ab
 |_=>Ab
noncomputable def tpV(z:List Int):Val:=.tup (z.map .int)
noncomputable def tpS(x:Str)(z:List Int):Val:=.tup (.str x::z.map .int)
noncomputable def pY(x:Str):List Val->Option (List (List Int))
 |[]=>some []
 |.tup (.str y::a)::vs=>if y=x then (match intsOf a,pY x vs with
  |some z,some zs=>some (z::zs)
  |_,_=>Ab) else Ab
 |_=>Ab
noncomputable def jg:List Val->Str
 |.tup (.str x::_)::_=>x
 |_=>""
noncomputable def aA(m:Bool)(vs:List Val)(s:Sto):Out Val:=match nN vs with
 |some zs=>if zs.Nodup/\(zs.length<2\/∀z∈zs,z≠[]) then newList m ((L2.XY zs).map tpV) s else .stuck
 |Ab=>.stuck
noncomputable def SM(zs:List (List Int)):Bool:=decide (zs.length<2)||match zs with
 |[]=>true
 |z::_=>decide (0<z.length)&&zs.all (fun y=>decide (y.length=z.length))&&(AE (zs.length-1)).all fun i=>!L2.TF (zs.getD (i+1) []) (zs.getD i [])
noncomputable def Vs(m:Bool)(vs:List Val)(s:Sto):Out Val:=match nN vs with
 |some zs=>if SM zs then newList m vs s else .stuck
 |Ab=>.stuck
noncomputable def insI(z:Int):List Int->List Int
 |[]=>[z]
 |y::ys=>if z<=y then z::y::ys else y::insI z ys
noncomputable def sortI:List Int->List Int
 |[]=>[]
 |z::zs=>insI z (sortI zs)
noncomputable def blt(f:Bf)(m:Bool)(xs:List Val)(s:Sto):Out Val:=
 match f with
 |.len=>match xs with
  |[.str x]=>if x.length<=zU then .ok (.int x.length) s else .stuck
  |[x]=>match xI s x with|some vs=>.ok (.int vs.length) s|Ab=>.stuck
  |_=>.stuck
 |.all=>match xs with
  |[x]=>match yN s x with|some vs=>(match boolsOf vs with|some bs=>.ok (.bool (bs.all id)) s|Ab=>.stuck)|Ab=>.stuck
  |_=>.stuck
 |.any=>match xs with
  |[x]=>match yN s x with|some vs=>(match boolsOf vs with|some bs=>.ok (.bool (bs.any id)) s|Ab=>.stuck)|Ab=>.stuck
  |_=>.stuck
 |.tuple=>match xs with
  |[.tup vs]=>.ok (.tup vs) s
  |[x]=>match yN s x with|some vs=>.ok (.tup vs) s|Ab=>.stuck
  |_=>.stuck
 |.list=>match xs with
  |[x]=>match xI s x with|some vs=>newList m vs s|Ab=>.stuck
  |_=>.stuck
 |.repr=>match xs with
  |[x]=>if (zj s x).isR&&qH (zj s x).d then .ok (.str (zj s x).d.shown) s else .stuck
  |_=>.stuck
 |.max=>match xs with
  |[.int i,.int j]=>.ok (.int (if j > i then j else i)) s
  |[.tup vs]=>(match M.intsOf vs with|some ns=>if ns≠[] then .ok (.int (L2.vH 0 ns)) s else .stuck|Ab=>.stuck)
  |[x]=>match yN s x with|some vs=>(match M.intsOf vs with|some ns=>if ns≠[] then .ok (.int (L2.vH 0 ns)) s else .stuck|Ab=>.stuck)|Ab=>.stuck
  |_=>.stuck
 |.min=>match xs with
  |[.int i,.int j]=>.ok (.int (if j<i then j else i)) s
  |[.tup vs]=>(match M.intsOf vs with|some ns=>if ns≠[] then .ok (.int (L2.vV 0 ns)) s else .stuck|Ab=>.stuck)
  |[x]=>match yN s x with|some vs=>(match M.intsOf vs with|some ns=>if ns≠[] then .ok (.int (L2.vV 0 ns)) s else .stuck|Ab=>.stuck)|Ab=>.stuck
  |_=>.stuck
 |.int=>match xs with
  |[.int i]=>.ok (.int i) s
  |[.bool b]=>.ok (.int (if b then 1 else 0)) s
  |_=>.stuck
 |.isi=>match xs with
  |[x,.ty n]=>match kindOf x,vT n with|some a,some c=>.ok (.bool (a.sub c)) s|_,_=>.stuck
  |_=>.stuck
 |.divmod=>match xs with
  |[.int i,.int j]=>if 0<j/\j<1073741824 then .ok (.tup [.int (i/j),.int (i%j)]) s else .stuck
  |_=>.stuck
 |.str=>match xs with
  |[.int i]=>if i.natAbs.log2<1920 then .ok (.str (DU i)) s else .stuck
  |_=>.stuck
 |.sum=>match xs with
  |[x]=>match yN s x with|some vs=>(match M.intsOf vs with|some ns=>if L2.Se ns then .ok (.int ns.sum) s else .stuck|Ab=>.stuck)|Ab=>.stuck
  |_=>.stuck
 |.sorted=>match xs with
  |[x]=>match yN s x with
   |some vs=>(match pairsOf vs with
    |some zs=>if zs.Nodup/\∀z∈zs,0<=z.2/\z.2<1000 then newList m ((m5 zs).map prV) s else aA m vs s
    |Ab=>aA m vs s)
   |Ab=>.stuck
  |_=>.stuck
 |.minT=>match xs with
  |[x]=>match yN s x with|some vs=>(match nN vs with|some zs=>if zs≠[] then .ok (tpV (L2.oY zs)) s else .stuck|Ab=>.stuck)|Ab=>.stuck
  |_=>.stuck
 |.minS=>match xs with
  |[x]=>match yN s x with|some vs=>(match pY (jg vs) vs with|some zs=>if zs≠[] then .ok (tpS (jg vs) (L2.oY zs)) s else .stuck|Ab=>.stuck)|Ab=>.stuck
  |_=>.stuck
 |.sortedR=>match xs with
  |[x]=>match yN s x with|some vs=>Vs m vs s|Ab=>.stuck
  |_=>.stuck
 |.sortedI=>match xs with
  |[x]=>match xI s x with|some vs=>(match M.intsOf vs with|some ns=>if ns.length<64 then newList m ((sortI ns).map .int) s else .stuck|Ab=>.stuck)|Ab=>.stuck
  |_=>.stuck
noncomputable def mxD(x y:Val)(s:Sto):Out Val:=match y with
 |.int k=>(match yN s x with|some vs=>(match M.intsOf vs with|some ns=>.ok (.int (L2.vH k ns)) s|Ab=>.stuck)|Ab=>.stuck)
 |_=>.stuck
noncomputable def upd(s:Sto)(i:Nat)(vs:List Val):Sto:=s.set i (.lst vs)
noncomputable def xF(f:Mf)(o:Val)(xs:List Val)(s:Sto):Out Val:=
 match f with
 |.count=>match o,xs with
  |.tup vs,[y]=>if flat y&&vs.all flat then .ok (.int (vs.countP fun z=>eqF z y:Nat)) s else .stuck
  |_,[y]=>match yN s o with|some vs=>if flat y&&vs.all flat then .ok (.int (vs.countP fun z=>eqF z y:Nat)) s else .stuck|Ab=>.stuck
  |_,_=>.stuck
 |.append=>match o,xs with
  |.ref i,[y]=>match s[i]? with|some (.lst vs)=>if vs.length<zU then .ok .none (upd s i (vs++[y])) else .stuck|_=>.stuck
  |_,_=>.stuck
 |.extend=>match o,xs with
  |.ref i,[y]=>match s[i]?,yN s y with|some (.lst vs),some ws=>if vs.length+ws.length<=zU then .ok .none (upd s i (vs++ws)) else .stuck|_,_=>.stuck
  |_,_=>.stuck
 |.pop=>match o,xs with
  |.ref i,[.int k]=>(match s[i]? with
   |some (.lst vs)=>if -(2 ^ 63)<=k/\k<2 ^ 63 then (match seqIndex? k vs.length with
    |some j=>(match vs[j]? with|some y=>.ok y (upd s i (vs.eraseIdx j))|Ab=>.stuck)
    |Ab=>.stuck) else .stuck
   |_=>.stuck)
  |_,_=>.stuck
 |.index=>match o,xs with
  |.tup vs,[y]=>if flat y&&vs.all flat then (match vs.findIdx? fun z=>eqF z y with|some j=>.ok (.int (j:Nat)) s|Ab=>.stuck) else .stuck
  |_,_=>.stuck
 |.join=>match o,xs with
  |.str z,[y]=>(match yN s y with
   |some vs=>(match strsOf vs with|some ys=>if (ys.map (·.length)).sum+ys.length*z.length<=16777216 then .ok (.str (L2.U6 z ys)) s else .stuck|Ab=>.stuck)
   |Ab=>.stuck)
  |_,_=>.stuck
noncomputable def wU(a b:Val)(s:Sto):Out Val:=
 match b with
 |.int i=>match xI s a with|some vs=>(match L2.atI vs i with|some v=>.ok v s|Ab=>.stuck)|Ab=>.stuck
 |_=>.stuck
noncomputable def xM{α:Type}(xs:List α)(lo hi:Option Int):List α:=(xs.drop (HT.sIx xs.length 0 lo)).take (HT.sIx xs.length xs.length hi-HT.sIx xs.length 0 lo)
noncomputable def tq(m:Bool)(a:Val)(lo hi st:Option Int)(s:Sto):Out Val:=
 match a,st with
 |.tup vs,Ab=>.ok (.tup (xM vs lo hi)) s
 |.tup vs,some c=>if c≠0/\(L2.yT vs.length lo hi c).2<=zU then .ok (.tup (L2.zw vs (L2.yT vs.length lo hi c).1 c (L2.yT vs.length lo hi c).2)) s else .stuck
 |_,Ab=>match yN s a with|some vs=>newList m (xM vs lo hi) s|Ab=>.stuck
 |_,some c=>match yN s a with|some vs=>if c≠0 then newList m (L2.zw vs (L2.vR vs.length lo hi c).1 c (L2.vR vs.length lo hi c).2) s else .stuck|Ab=>.stuck
noncomputable def lr(m:Bool)(x y z:Val)(s:Sto):Out Val:=match x,y,z with
 |.int i,.int j,.int k=>if -(2 ^ 30)<=i/\i<=2 ^ 30∧-(2 ^ 30)<=j/\j<=2 ^ 30/\0<k/\k<=2 ^ 29/\Ct i j k<=1000 then newList m ((L2.kL i j k).map .int) s else .stuck
 |.none,y,.str _=>(match xI s y with|some vs=>(match M.intsOf vs with|some ns=>if ns.length<=1000 then .ok (.int (L2.dN ns:Nat)) s else .stuck|Ab=>.stuck)|Ab=>.stuck)
 |.int i,.int j,.bool _=>if -(2 ^ 30)<=i/\i<=2 ^ 30∧-(2 ^ 30)<=j/\j<=2 ^ 30/\Ct i j 1<=1000 then newList m ((L2.kL i j 1).map .int) s else .stuck
 |.int i,.int j,.none=>if -(2 ^ 30)<=i/\i<=2 ^ 30∧-(2 ^ 30)<=j/\j<=2 ^ 30/\Ct i j 1<=1000 then .ok (.tup ((L2.kL i j 1).map .int)) s else .stuck
 |_,_,_=>.stuck
noncomputable def yq(t:Tgt)(v:Val)(env:Env):Option Env:=
 match t with
 |.nm i=>some (env.set i (some v))
 |.nms is=>match v with
  |.tup vs=>if vs.length=is.length then some ((is.zip vs).foldl (fun e p=>e.set p.1 (some p.2)) env) else Ab
  |_=>Ab
structure Src where
 xs:List Val
 at_:Option Nat
noncomputable def Src.ok(r:Src)(s:Sto):Bool:=match r.at_ with
 |Ab=>true
 |some i=>match s[i]? with
  |some (.lst vs)=>tG vs r.xs
  |_=>false
noncomputable def S6:List Val->List Val->List Val
 |v::vs,w::ws=>.tup [v,w]::S6 vs ws
 |_,_=>[]
noncomputable def zt(n:Nat):List Val->List Val
 |[]=>[]
 |v::vs=>.tup [.int n,v]::zt (n+1) vs
noncomputable def srcOf(s:Sto):Val->Option Src
 |.tup vs=>some ⟨vs,Ab⟩
 |.lst vs=>some ⟨vs,Ab⟩
 |.ctup ns=>some ⟨ns.map .int,Ab⟩
 |.ref i=>match s[i]? with
  |some (.lst vs)=>some ⟨vs,some i⟩
  |_=>Ab
 |_=>Ab
noncomputable def yK(lo:Int)(n:Nat):List Val:=(AE n).map fun(k:Nat)=>Val.int (lo+k)
noncomputable def yg(r:Src)(t:Tgt)(body:Env->Sto->List Val->Out (List Val × Env)):List Val->Env->Sto->List Val->Out (List Val × Env)
 |[],env,s,acc=>if r.ok s then .ok (acc,env) s else .stuck
 |x::xs,env,s,acc=>if r.ok s then match yq t x env with
    |Ab=>.stuck
    |some env'=>(body env' s acc).bind fun p s'=>yg r t body xs p.2 s' p.1
  else .stuck
noncomputable def zT(fr:List (Option Nat))(env:Env):Env:=fr.map fun o=>match o with|some j=>(env[j]?).join|Ab=>Ab
inductive Fl
 |nx (env:Env)|bk (env:Env)|ct (env:Env)|rt (v:Val)
noncomputable def vG(r:Src)(t:Tgt)(body:Env->Sto->Out Fl):List Val->Env->Sto->Out Fl
 |[],env,s=>if r.ok s then .ok (.nx env) s else .stuck
 |x::xs,env,s=>if r.ok s then match yq t x env with
    |Ab=>.stuck
    |some env'=>(body env' s).bind fun fl s'=>match fl with
     |.nx e=>vG r t body xs e s'
     |.ct e=>vG r t body xs e s'
     |.bk e=>.ok (.nx e) s'
     |.rt v=>.ok (.rt v) s'
  else .stuck
noncomputable def cJ(c:Env->Sto->Out Bool)(body:Env->Sto->Out Fl):Nat->Env->Sto->Out Fl
 |0,_,_=>.stuck
 |n+1,env,s=>(c env s).bind fun b s1=>if b then (body env s1).bind fun fl s2=>match fl with
    |.nx e=>cJ c body n e s2
    |.ct e=>cJ c body n e s2
    |.bk e=>.ok (.nx e) s2
    |.rt v=>.ok (.rt v) s2
  else .ok (.nx env) s1
noncomputable def UR:Nat:=100000
section
variable (Φ:Calls)(G:Str->Option Val)
mutual
noncomputable def evE(env:Env):Ex->Sto->Out Val
 |.lit v,s=>.ok v s
 |.var i,s=>match env[i]? with|some (some v)=>.ok v s|_=>.stuck
 |.gl x,s=>match G x with|some v=>.ok v s|Ab=>.stuck
 |.ty _ n,s=>.ok (.ty n) s
 |.bin m op a b,s=>(evE env a s).bind fun x s1=>(evE env b s1).bind fun y s2=>binOp m op x y s2
 |.neg a,s=>(evE env a s).bind fun x s1=>match x with|.int i=>.ok (.int (-i)) s1|_=>.stuck
 |.not a,s=>(evE env a s).bind fun x s1=>match x with|.bool b=>.ok (.bool !b) s1|_=>.stuck
 |.cmp op a b,s=>(evE env a s).bind fun x s1=>(evE env b s1).bind fun y s2=>zQ op x y s2
 |.chain op op' a b c,s=>(evE env a s).bind fun x s1=>(evE env b s1).bind fun y s2=>(zQ op x y s2).bind fun r s3=>match r with
  |.bool true=>(evE env c s3).bind fun z s4=>zQ op' y z s4
  |.bool false=>.ok (.bool false) s3
  |_=>.stuck
 |.andE a es,s=>match es with
  |.nil=>evE env a s
  |.cons _ _=>(evE env a s).bind fun x s1=>match x with
   |.bool true=>sH env es s1
   |.bool false=>.ok (.bool false) s1
   |_=>.stuck
 |.orE a es,s=>match es with
  |.nil=>evE env a s
  |.cons _ _=>(evE env a s).bind fun x s1=>match truth s1 x with
   |some false=>nv env es s1
   |some true=>.ok x s1
   |Ab=>.stuck
 |.ife c a b,s=>(evT env c s).bind fun t s1=>if t then evE env a s1 else evE env b s1
 |.tup es,s=>(zo env es s).bind fun vs s1=>if vs.length<=zU then .ok (.tup vs) s1 else .stuck
 |.lst m es,s=>(zo env es s).bind fun vs s1=>if vs.length<=zU then newList m vs s1 else .stuck
 |.dct0,s=>.ok .dct0 s
 |.call f ver es,s=>(zo env es s).bind fun vs s1=>Φ f ver vs s1
 |.blt f m es,s=>(zo env es s).bind fun vs s1=>blt f m vs s1
 |.maxD a d,s=>(evE env a s).bind fun x s1=>(evE env d s1).bind fun y s2=>mxD x y s2
 |.xF f _ o es,s=>(evE env o s).bind fun x s1=>(zo env es s1).bind fun vs s2=>xF f x vs s2
 |.ix a b,s=>(evE env a s).bind fun x s1=>(evE env b s1).bind fun y s2=>wU x y s2
 |.sl m a lo hi st,s=>(evE env a s).bind fun x s1=>(evO env lo s1).bind fun l s2=>(evO env hi s2).bind fun h s3=>(evO env st s3).bind fun c s4=>tq m x l h c s4
 |.comp m _ fr elt t it ifs,s=>(xB env it s).bind fun r s1=>
  (yg r t (fun e s' acc=>(wI e ifs s').bind fun b s2=>if b then (evE e elt s2).bind fun v s3=>.ok (acc++[v],e) s3 else .ok (acc,e) s2) r.xs (zT fr env) s1 []).bind fun p s2=>newList m p.1 s2
 |.comp2 m _ fr elt t it ifs t2 it2 ifs2,s=>(xB env it s).bind fun r s1=>
  (yg r t (fun e s' acc=>(wI e ifs s').bind fun b s2=>if b then (xB e it2 s2).bind fun r2 s3=>
      yg r2 t2 (fun e' s4 acc'=>(wI e' ifs2 s4).bind fun b' s5=>if b' then (evE e' elt s5).bind fun v s6=>.ok (acc'++[v],e') s6 else .ok (acc',e') s5) r2.xs e s3 acc
   else .ok (acc,e) s2) r.xs (zT fr env) s1 []).bind fun p s2=>if p.1.length<=zU then newList m p.1 s2 else .stuck
 |.dctN t,s=>.ok (.dref s.length) (s++[if t then .dT [] else .dS []])
 |.ixD a b,s=>(evE env a s).bind fun x s1=>(evE env b s1).bind fun y s2=>ixD x y s2
 |.listRange m a b c,s=>(evE env a s).bind fun x s1=>(evE env b s1).bind fun y s2=>(evE env c s2).bind fun z s3=>lr m x y z s3
noncomputable def sH(env:Env):Exs->Sto->Out Val
 |.nil,_=>.stuck
 |.cons a es,s=>match es with
  |.nil=>evE env a s
  |.cons _ _=>(evE env a s).bind fun x s1=>match x with
   |.bool true=>sH env es s1
   |.bool false=>.ok (.bool false) s1
   |_=>.stuck
noncomputable def nv(env:Env):Exs->Sto->Out Val
 |.nil,_=>.stuck
 |.cons a es,s=>match es with
  |.nil=>evE env a s
  |.cons _ _=>(evE env a s).bind fun x s1=>match truth s1 x with
   |some false=>nv env es s1
   |some true=>.ok x s1
   |Ab=>.stuck
noncomputable def zo(env:Env):Exs->Sto->Out (List Val)
 |.nil,s=>.ok [] s
 |.cons e es,s=>(evE env e s).bind fun v s1=>(zo env es s1).bind fun vs s2=>.ok (v::vs) s2
noncomputable def evO(env:Env):OEx->Sto->Out (Option Int)
 |.no,s=>.ok Ab s
 |.yes e,s=>(evE env e s).bind fun v s1=>match v with|.int i=>.ok (some i) s1|_=>.stuck
/-- a test -/
noncomputable def evT(env:Env):Cn->Sto->Out Bool
 |.val e,s=>(evE env e s).truth
 |.not a,s=>(evT env a s).bind fun b s1=>.ok (!b) s1
 |.and a es,s=>(evT env a s).bind fun b s1=>if b then wI env es s1 else .ok false s1
 |.or a es,s=>(evT env a s).bind fun b s1=>if b then .ok true s1 else sO env es s1
noncomputable def wI(env:Env):Cns->Sto->Out Bool
 |.nil,s=>.ok true s
 |.cons a es,s=>(evT env a s).bind fun b s1=>if b then wI env es s1 else .ok false s1
noncomputable def sO(env:Env):Cns->Sto->Out Bool
 |.nil,s=>.ok false s
 |.cons a es,s=>(evT env a s).bind fun b s1=>if b then .ok true s1 else sO env es s1
noncomputable def xB(env:Env):Itb->Sto->Out Src
 |.val e,s=>(evE env e s).bind fun v s1=>match srcOf s1 v with|some r=>.ok r s1|Ab=>.stuck
 |.range1 a,s=>(evE env a s).bind fun x s1=>match x with
  |.int j=>if -(2 ^ 62)<=j/\j<=zU then .ok ⟨yK 0 j.toNat,Ab⟩ s1 else .stuck
  |_=>.stuck
 |.range2 a b,s=>(evE env a s).bind fun x s1=>(evE env b s1).bind fun y s2=>match x,y with
  |.int i,.int j=>if -(2 ^ 62)<=i/\i<2 ^ 62∧-(2 ^ 62)<=j/\j<2 ^ 62/\j-i<=zU then .ok ⟨yK i (j-i).toNat,Ab⟩ s2 else .stuck
  |_,_=>.stuck
 |.enum e,s=>(evE env e s).bind fun v s1=>match v with
  |.tup vs=>.ok ⟨zt 0 vs,Ab⟩ s1
  |.lst vs=>.ok ⟨zt 0 vs,Ab⟩ s1
  |_=>.stuck
 |.zip a b,s=>(evE env a s).bind fun x s1=>(evE env b s1).bind fun y s2=>match x,y with
  |.tup vs,.tup ws=>if ws.length<=vs.length then .ok ⟨S6 vs ws,Ab⟩ s2 else .stuck
  |_,_=>.stuck
end
mutual
noncomputable def exS(env:Env):Sm->Sto->Out Fl
 |.expr e,s=>(evE Φ G env e s).bind fun _ s1=>.ok (.nx env) s1
 |.ret e,s=>(evE Φ G env e s).bind fun v s1=>.ok (.rt v) s1
 |.retN,s=>.ok (.rt .none) s
 |.asg i e,s=>(evE Φ G env e s).bind fun v s1=>.ok (.nx (env.set i (some v))) s1
 |.asgT is e,s=>(evE Φ G env e s).bind fun v s1=>match yq (.nms is) v env with|some env'=>.ok (.nx env') s1|Ab=>.stuck
 |.par is es,s=>(zo Φ G env es s).bind fun vs s1=>if vs.length=is.length then .ok (.nx ((is.zip vs).foldl (fun e p=>e.set p.1 (some p.2)) env)) s1 else .stuck
 |.aug i op e,s=>match env[i]? with
  |some (some (.int x))=>(evE Φ G env e s).bind fun v s1=>match v with
   |.int y=>(binOp false op (.int x) (.int y) s1).bind fun z s2=>.ok (.nx (env.set i (some z))) s2
   |_=>.stuck
  |some (some (.tup x))=>if op=.add then (evE Φ G env e s).bind fun v s1=>match v with
   |.tup y=>(binOp false .add (.tup x) (.tup y) s1).bind fun z s2=>.ok (.nx (env.set i (some z))) s2
   |_=>.stuck
   else .stuck
  |_=>.stuck
 |.setIx o i e,s=>(evE Φ G env e s).bind fun v s1=>(evE Φ G env o s1).bind fun x s2=>(evE Φ G env i s2).bind fun y s3=>match x,y with
  |.ref r,.int k=>(match s3[r]? with
   |some (.lst vs)=>(match L2.ixN vs.length k with|some j=>.ok (.nx env) (upd s3 r (vs.set j v))|Ab=>.stuck)
   |_=>.stuck)
  |_,_=>.stuck
 |.ifS c a b,s=>(evT Φ G env c s).bind fun t s1=>if t then zY env a s1 else zY env b s1
 |.forS t it b,s=>(xB Φ G env it s).bind fun r s1=>vG r t (fun e s'=>zY e b s') r.xs env s1
 |.whileS c b,s=>cJ (fun e s'=>evT Φ G e c s') (fun e s'=>zY e b s') UR env s
 |.pass,s=>.ok (.nx env) s
 |.brk,s=>.ok (.bk env) s
 |.cont,s=>.ok (.ct env) s
 |.raise _,_=>.stuck
 |.setD o i e,s=>(evE Φ G env e s).bind fun v s1=>(evE Φ G env o s1).bind fun x s2=>(evE Φ G env i s2).bind fun y s3=>match putD x y v s3 with|some s4=>.ok (.nx env) s4|Ab=>.stuck
noncomputable def zY(env:Env):Sms->Sto->Out Fl
 |.nil,s=>.ok (.nx env) s
 |.cons c cs,s=>(exS env c s).bind fun fl s1=>match fl with
  |.nx e=>zY e cs s1
  |fl=>.ok fl s1
end
end
noncomputable abbrev rC:=Option (Str × List Val × Sto)
noncomputable abbrev xu:=Str->Nat->List Val->Sto->rC
noncomputable def mK:List Val->Bool
 |[.str _]=>true
 |[.int i,.int j]=>decide (i.natAbs<2 ^ 64)&&decide (j.natAbs<2 ^ 64)
 |_=>false
section
variable (W:Str->Bool)(Φ:Calls)(Ψ:xu)(G:Str->Option Val)
mutual
noncomputable def xE(env:Env):Ex->Sto->rC
 |.call f v es,s=>match zo Φ G env es s with
  |.ok vs s1=>Ψ f v vs s1
  |_=>Ab
 |.cmp _ a _,s=>xE env a s
 |.bin _ _ a _,s=>xE env a s
 |.blt _ _ es,s=>xL env es s
 |_,_=>Ab
/-- one argument that raises -/
noncomputable def xL(env:Env):Exs->Sto->rC
 |.cons a es,s=>match es with
  |.nil=>xE env a s
  |.cons _ _=>Ab
 |.nil,_=>Ab
end
noncomputable def xT(env:Env):Cn->Sto->rC
 |.val e,s=>match e with
  |.call f v es=>xE Φ Ψ G env (.call f v es) s
  |_=>Ab
 |.not c,s=>xT env c s
 |_,_=>Ab
mutual
noncomputable def xS(env:Env):Sm->Sto->rC
 |.expr e,s=>xE Φ Ψ G env e s
 |.ret e,s=>xE Φ Ψ G env e s
 |.asg _ e,s=>xE Φ Ψ G env e s
 |.ifS c a b,s=>match evT Φ G env c s with
  |.ok t s1=>if t then xSs env a s1 else xSs env b s1
  |_=>xT Φ Ψ G env c s
 |.raise e,s=>match e with
  |.call c _ es=>(match zo Φ G env es s with
   |.ok vs s1=>if mK vs&&W c then some (c,vs,s1) else Ab
   |_=>Ab)
  |_=>Ab
 |_,_=>Ab
noncomputable def xSs(env:Env):Sms->Sto->rC
 |.nil,_=>Ab
 |.cons c cs,s=>match exS Φ G env c s with
  |.ok fl s1=>(match fl with
   |.nx e=>xSs e cs s1
   |_=>Ab)
  |_=>xS env c s
end
end
noncomputable def zZ(N:List Str)(vs:List Val):Env:=vs.map some++Az (N.length-vs.length) Ab
noncomputable def leave(F:Fn)(s0:Sto)(v:Val)(s:Sto):Out Val:=
 if F.keep then .ok v s
 else if wD s0 s then (match freeze s0.length s v with|some v'=>.ok v' (s.take s0.length)|Ab=>.stuck) else .stuck
structure Tbl where
 fn:Str->Nat->Option Fn
 gl:Str->Option Val
 /-- the defs whose tables the store holds,from its start -/
 tb:List Str:=[]
 /-- the classes of exceptions,and what the law's def says of each -/
 xc:List (Str × Str):=[]
 /-- which of the law's two defs that try a call is there -/
 md:Bool->Bool:=fun _=>false
noncomputable def yM:List Str->Sto->Bool
 |[],_=>true
 |x::r,.tb y::s=>decide (x=y)&&yM r s
 |_::_,_=>false
noncomputable def mz(T:Tbl)(m:Bool)(o:Out Val)(x:rC):Out Val:=match o with
 |.ok v s=>.ok (if m then v else .str "told") s
 |_=>match x with
  |some (c,_,s)=>(match T.xc.lookup c with
   |some w=>.ok (.str w) s
   |Ab=>.stuck)
  |Ab=>.stuck
noncomputable def run(T:Tbl)(Φ:Calls)(F:Fn)(vs:List Val)(s:Sto):Out Val:=
 if vs.length=F.ps.length then (zY Φ T.gl (zZ F.N vs) F.body s).bind fun fl s1=>match fl with
  |.nx _=>leave F s .none s1
  |.rt v=>leave F s v s1
  |_=>.stuck
 else .stuck
noncomputable def jd:List Val->Option Str
 |.fn g::_=>some g
 |_=>Ab
mutual
noncomputable def zE(T:Tbl):Nat->Calls
 |0=>fun _ _ _ _=>.stuck
 |n+1=>fun f ver vs s=>match T.fn f ver with|some F=>run T (zE T n) F vs s|Ab=>if ((decide (ver=100)&&T.md false)||(decide (ver=101)&&T.md true))&&yM T.tb s then mz T (decide (ver=101)) (zE T n f 0 vs s) (zm T n f 0 vs s) else (match jd vs with|some g=>if decide (ver=200) then (match T.fn g 0 with|some F=>run T (zE T n) F vs.tail s|Ab=>.stuck) else if ((decide (ver=300)&&T.md false)||(decide (ver=301)&&T.md true))&&yM T.tb s then mz T (decide (ver=301)) (zE T n g 0 vs.tail s) (zm T n g 0 vs.tail s) else .stuck|Ab=>.stuck)
noncomputable def zm(T:Tbl):Nat->xu
 |0=>fun _ _ _ _=>Ab
 |n+1=>fun f ver vs s=>match T.fn f ver with
  |some F=>if vs.length=F.ps.length then xSs (fun c=>(T.xc.lookup c).isSome) (zE T n) (zm T n) T.gl (zZ F.N vs) F.body s else Ab
  |Ab=>Ab
end
end M
end
section
namespace M
open PySem
noncomputable abbrev KF:=Af
structure Own where
 o:List Addr
 h:List Addr
def Own.no(ρ:Own)(a:Addr):Prop:=a ∉ ρ.o/\a ∉ ρ.h
def KT(K:KF)(a:Addr)(xs:List L2.V):Prop:=∃(o:Obj) (its:Array Value) (n:Nat),K.lookup a=some o/\o.cls=.type "tuple"/\o.data=.seq its n/\its.size<=AA/\L2.Vals xs its.toList
def SC(K:KF)(ρ:Own)(H:L2.Hp)(a:Addr)(xs:List L2.V):Prop:=(ρ.no a/\L2.Rd H a (.lst xs)) \/
 ∃(o:Obj) (its:Array Value) (n:Nat),K.lookup a=some o/\o.cls=.type "list"/\o.dict=none/\o.data=.seq its n/\its.size<=AA/\L2.Vals xs its.toList
noncomputable def hk:Option L2.HO->Nat
 |some (.lst _)=>1
 |some (.dK _)=>2
 |some (.dT _)=>3
 |some (.tbl _)=>4
 |_=>0
mutual
inductive RD(K:KF)(mg:Str->Option Value)(ρ:Own)(H:L2.Hp):Val->L2.V->Prop
 |none:RD K mg ρ H .none .non
 |bool (b:Bool):RD K mg ρ H (.bool b) (.bl b)
 |int (i:Int):RD K mg ρ H (.int i) (.int i)
 |str (x:Str):RD K mg ρ H (.str x) (.str x)
 |tup {a:Addr} {vs:List Val} {xs:List L2.V}:ρ.no a->H a=some (.tup xs)->RDs K mg ρ H vs xs->RD K mg ρ H (.tup vs) (.ref a)
 |lst {a:Addr} {vs:List Val} {xs:List L2.V}:ρ.no a->H a=some (.lst xs)->RDs K mg ρ H vs xs->RD K mg ρ H (.lst vs) (.ref a)
 |dct0 {a:Addr}:ρ.no a->H a=some (.dK [])->RD K mg ρ H .dct0 (.ref a)
 |ctup {a:Addr} {ns:List Int}:KT K a (ns.map L2.V.int)->RD K mg ρ H (.ctup ns) (.ref a)
 |scr {a:Addr} {ns:List Int}:SC K ρ H a (ns.map L2.V.int)->RD K mg ρ H (.scr ns) (.ref a)
 |ref {a:Addr} {i:Nat}:ρ.o[i]?=some a->hk (H a)=1->RD K mg ρ H (.ref i) (.ref a)
 |dref {a:Addr} {i:Nat}:ρ.o[i]?=some a->1<hk (H a)->RD K mg ρ H (.dref i) (.ref a)
 |fn {x:Str} {f:Addr}:mg x=some (.ref f)->RD K mg ρ H (.fn x) (.ref f)
 |ty (n:String):RD K mg ρ H (.ty n) (.ty n)
inductive RDs(K:KF)(mg:Str->Option Value)(ρ:Own)(H:L2.Hp):List Val->List L2.V->Prop
 |nil:RDs K mg ρ H [] []
 |cons {v:Val} {x:L2.V} {vs:List Val} {xs:List L2.V}:RD K mg ρ H v x->RDs K mg ρ H vs xs->RDs K mg ρ H (v::vs) (x::xs)
end
noncomputable def Wy(x:Str):Str:=(x++(".<locals>.":Str))++("<lambda>":Str)
def UQ(K:KF)(mg:Str->Option Value)(ρ:Own)(H:L2.Hp)(P:Addr)(x:Str):Prop:=∃ps,H P=some (.tbl ps)/\DZ ps.toList /\
 (∀(pos:Pos) (cv:Value),DY pos ps.toList=some cv->∃(c:Addr) (o:Obj) (vs:Array Value) (t:Tok),cv=.ref c/\ρ.no c/\H c=some (.frz o (.own 0))/\o.data=.fields vs/\vs[1]?=some (.str (Wy x) t)) /\
 ∃(fa c:Addr) (o:Obj) (fd:Bu),mg x=some (.ref fa)/\K.lookup fa=some o/\o.data=.func fd/\fd.code=.ref c/\∀h:Heap,K.In h->PySem.W.CodeHd h c P
noncomputable def CR(K:KF)(mg:Str->Option Value)(ρ:Own)(H:L2.Hp)(a:Addr):Cel->Prop
 |.lst vs=>∃xs,H a=some (.lst xs)/\RDs K mg ρ H vs xs
 |.dS kvs=>∃kxs,H a=some (.dK kxs)/\kxs.map (·.1)=kvs.map (fun p=>ED p.1)/\RDs K mg ρ H (kvs.map (·.2)) (kxs.map (·.2))
 |.dT kvs=>∃kxs,H a=some (.dT kxs)/\kxs.map (·.1)=kvs.map (fun p=>p.1.map EC)/\RDs K mg ρ H (kvs.map (·.2)) (kxs.map (·.2))
 |.tb x=>UQ K mg ρ H a x
structure HR(K:KF)(mg:Str->Option Value)(ρ:Own)(s:Sto)(H:L2.Hp):Prop where
 len:ρ.o.length=s.length
 nd:ρ.o.Nodup
 cel:∀(i:Nat) (c:Cel),s[i]?=some c->∃a:Addr,ρ.o[i]?=some a/\CR K mg ρ H a c
 hid:∀a∈ρ.h,(∃xs,H a=some (.lst xs))/\a ∉ ρ.o
structure Ext(ρ:Own)(H:L2.Hp)(ρ':Own)(H':L2.Hp):Prop where
 pre:∃new:List Addr,ρ'.o=ρ.o++new/\∀a∈new,H a=none
 hid:ρ'.h=ρ.h
 keep:∀(a:Addr) (o:L2.HO),H a=some o->a ∉ ρ.o->H' a=some o
 kd:∀a∈ρ.o,hk (H' a)=hk (H a)
structure ER(K:KF)(mg:Str->Option Value)(ρ:Own)(H:L2.Hp)(env:Env)(σ:L2.St):Prop where
 len:env.length=σ.length
 at_:∀(i:Nat) (v:Val),env[i]?=some (some v)->∃x:L2.V,σ[i]?=some (some x)/\RD K mg ρ H v x
section
variable {K:KF}{mg:Str->Option Value}{ρ ρ' ρ'':Own}{H H' H'':L2.Hp}{s s':Sto}
theorem HR.obj(h:HR K mg ρ s H)(i:Nat)(vs:List Val)(e:s[i]?=some (Cel.lst vs)):∃(a:Addr) (xs:List L2.V),ρ.o[i]?=some a/\H a=some (.lst xs)/\RDs K mg ρ H vs xs:=by
 obtain⟨a,e1,xs,e2,r⟩:=h.cel i _ e
 exact⟨a,xs,e1,e2,r⟩
theorem CR.there{a:Addr}{c:Cel}(h:CR K mg ρ H a c):∃o,H a=some o:=by
 cases c with
 |lst vs=>obtain⟨xs,e,_⟩:=h;exact⟨_,e⟩
 |dS kvs=>obtain⟨xs,e,_⟩:=h;exact⟨_,e⟩
 |dT kvs=>obtain⟨xs,e,_⟩:=h;exact⟨_,e⟩
 |tb x=>obtain⟨ps,e,_⟩:=h;exact⟨_,e⟩
theorem CR.hk{a:Addr}{c:Cel}(h:CR K mg ρ H a c):0<hk (H a):=by
 cases c with
 |lst vs=>obtain⟨xs,e,_⟩:=h;rw[e];exact Cz 0
 |dS kvs=>obtain⟨xs,e,_⟩:=h;rw[e];exact EI rfl
 |dT kvs=>obtain⟨xs,e,_⟩:=h;rw[e];exact EI rfl
 |tb x=>obtain⟨ps,e,_⟩:=h;rw[e];exact EI rfl
theorem HR.trk(h:HR K mg ρ s H){a:Addr}(ha:a∈ρ.o):∃o,H a=some o:=by
 obtain⟨i,hi,e⟩:=Bw ha
 have hs:i<s.length:=by rw[<-h.len];exact hi
 obtain⟨b,e1,e2⟩:=h.cel i _ (Ae hs)
 rw[Ae hi,e]at e1
 cases e1
 exact e2.there
theorem dA{a:Addr}(h:hk (H a)=1):∃xs,H a=some (.lst xs):=by
 cases e:H a with
 |none=>rw[e]at h;cases h
 |some o=>
  rw[e]at h
  cases o with
  |lst xs=>exact⟨xs,rfl⟩
  |_=>cases h
theorem HR.new(h:HR K mg ρ s H){p:Addr}(hp:H p=none):ρ.no p:=by
 refine⟨fun hm=>?_,fun hm=>?_⟩
 . obtain⟨xs,e⟩:=h.trk hm
   rw[hp]at e;cases e
 . obtain⟨⟨xs,e⟩,_⟩:=h.hid p hm
   rw[hp]at e;cases e
theorem Ext.refl:Ext ρ H ρ H:=⟨⟨[],by simp,fun a ha=>by cases ha⟩,rfl,fun a o e _=>e,fun _ _=>rfl⟩
theorem Ext.TL(x:Ext ρ H ρ' H'){a:Addr}{o:L2.HO}(e:H a=some o)(n:ρ.no a):ρ'.no a:=by
 obtain⟨new,e1,hn⟩:=x.pre
 refine⟨?_,by rw[x.hid];exact n.2⟩
 rw[e1]
 intro hm
 rcases AO.mp hm with hm|hm
 . exact n.1 hm
 . rw[hn a hm]at e;cases e
theorem Ext.get(x:Ext ρ H ρ' H'){i:Nat}{a:Addr}(e:ρ.o[i]?=some a):ρ'.o[i]?=some a:=by
 obtain⟨new,e1,hn⟩:=x.pre
 have hi:i<ρ.o.length:=(As.mp e).1
 rw[e1,Bb hi];exact e
theorem Ext.trans(x:Ext ρ H ρ' H')(h:HR K mg ρ' s H')(y:Ext ρ' H' ρ'' H''):Ext ρ H ρ'' H'':=by
 obtain⟨new,e1,hn⟩:=x.pre
 obtain⟨new2,e2,hn2⟩:=y.pre
 refine⟨⟨new++new2,by rw[e2,e1,Bj],fun a ha=>?_⟩,y.hid.trans x.hid,fun a o e n=>y.keep a o (x.keep a o e n) ?_,fun a ha=>(y.kd a (by rw[e1];exact Bc _ ha)).trans (x.kd a ha)⟩
 . rcases AO.mp ha with ha|ha
   . exact hn a ha
   . cases q:H a with
     |none=>rfl
     |some o=>
      by_cases hm:a∈ρ.o
      . obtain⟨xs,e⟩:=h.trk (a:=a) (by rw[e1];exact Bc _ hm)
        rw[hn2 a ha]at e;cases e
      . have:=x.keep a o q hm
        rw[hn2 a ha]at this;cases this
 . rw[e1]
   intro hm
   rcases AO.mp hm with hm|hm
   . exact n hm
   . rw[hn a hm]at e;cases e
theorem SC.sql{a:Addr}{xs:List L2.V}(h:SC K ρ H a xs):L2.SqL K H a xs:=by
 rcases h with⟨_,h⟩|h
 . exact .inl h
 . exact .inr h
theorem KT.sqt{a:Addr}{xs:List L2.V}(h:KT K a xs):L2.SqT K H a xs:=.inr h
structure Mv(ρ:Own)(H:L2.Hp)(ρ':Own)(H':L2.Hp):Prop where
 keep:∀(a:Addr) (o:L2.HO),H a=some o->ρ.no a->H' a=some o/\ρ'.no a
 get:∀(i:Nat) (a:Addr),ρ.o[i]?=some a->ρ'.o[i]?=some a
 kd:∀a∈ρ.o,hk (H' a)=hk (H a)
theorem Ext.mv(x:Ext ρ H ρ' H'):Mv ρ H ρ' H':=⟨fun a o e n=>⟨x.keep a o e n.1,x.TL e n⟩,fun i a e=>x.get e,x.kd⟩
theorem SC.mv{a:Addr}{xs:List L2.V}(x:Mv ρ H ρ' H')(h:SC K ρ H a xs):SC K ρ' H' a xs:=by
 rcases h with⟨n,h|⟨o,h⟩⟩|h
 . exact .inl ⟨(x.keep _ _ h n).2,.inl (x.keep _ _ h n).1⟩
 . exact .inl ⟨(x.keep _ _ h n).2,.inr ⟨o,(x.keep _ _ h n).1⟩⟩
 . exact .inr h
end
mutual
theorem RD.mv{K:KF}{mg:Str->Option Value}{ρ ρ':Own}{H H':L2.Hp}(x:Mv ρ H ρ' H'){v:Val}{u:L2.V}(q:RD K mg ρ H v u):RD K mg ρ' H' v u:=by
 cases q with
 |none=>exact .none
 |bool b=>exact .bool b
 |int i=>exact .int i
 |str t=>exact .str t
 |tup n e r=>exact .tup (x.keep _ _ e n).2 (x.keep _ _ e n).1 (RDs.mv x r)
 |lst n e r=>exact .lst (x.keep _ _ e n).2 (x.keep _ _ e n).1 (RDs.mv x r)
 |dct0 n e=>exact .dct0 (x.keep _ _ e n).2 (x.keep _ _ e n).1
 |ctup h=>exact .ctup h
 |scr h=>exact .scr (h.mv x)
 |ref e k=>exact .ref (x.get _ _ e) ((x.kd _ (AS e)).trans k)
 |dref e k=>exact .dref (x.get _ _ e) (by rw[x.kd _ (AS e)];exact k)
 |fn e=>exact .fn e
 |ty n=>exact .ty n
theorem RDs.mv{K:KF}{mg:Str->Option Value}{ρ ρ':Own}{H H':L2.Hp}(x:Mv ρ H ρ' H'){vs:List Val}{us:List L2.V}(q:RDs K mg ρ H vs us):RDs K mg ρ' H' vs us:=by
 cases q with
 |nil=>exact .nil
 |cons r rs=>exact .cons (RD.mv x r) (RDs.mv x rs)
end
theorem CR.mv{K:KF}{mg:Str->Option Value}{ρ ρ':Own}{H H':L2.Hp}{a:Addr}{c:Cel}(x:Mv ρ H ρ' H')(e:H' a=H a)(h:CR K mg ρ H a c):CR K mg ρ' H' a c:=by
 cases c with
 |lst vs=>obtain⟨xs,e1,r⟩:=h;exact⟨xs,e.trans e1,RDs.mv x r⟩
 |dS kvs=>obtain⟨xs,e1,k,r⟩:=h;exact⟨xs,e.trans e1,k,RDs.mv x r⟩
 |dT kvs=>obtain⟨xs,e1,k,r⟩:=h;exact⟨xs,e.trans e1,k,RDs.mv x r⟩
 |tb y=>
  obtain⟨ps,e1,k,r,g⟩:=h
  refine⟨ps,e.trans e1,k,fun pos cv hc=>?_,g⟩
  obtain⟨c,o,vs,t,q1,q2,q3,q4⟩:=r pos cv hc
  exact⟨c,o,vs,t,q1,(x.keep _ _ q3 q2).2,(x.keep _ _ q3 q2).1,q4⟩
theorem RD.mono{K:KF}{mg:Str->Option Value}{ρ ρ':Own}{H H':L2.Hp}{v:Val}{u:L2.V}(r:RD K mg ρ H v u)(x:Ext ρ H ρ' H'):RD K mg ρ' H' v u:=RD.mv x.mv r
theorem RDs.mono{K:KF}{mg:Str->Option Value}{ρ ρ':Own}{H H':L2.Hp}{v:List Val}{u:List L2.V}(r:RDs K mg ρ H v u)(x:Ext ρ H ρ' H'):RDs K mg ρ' H' v u:=RDs.mv x.mv r
end M
end
section
namespace M
open PySem
section
variable {K:KF}{mg:Str->Option Value}{ρ ρ' ρ'':Own}{H H' H'':L2.Hp}{s s':Sto}
theorem RDs.length{vs:List Val}{xs:List L2.V}(q:RDs K mg ρ H vs xs):vs.length=xs.length:=by
 cases q with
 |nil=>rfl
 |cons _ r=>rw[Ar,Ar,r.length]
theorem RDs.get{vs:List Val}{xs:List L2.V}{i:Nat}{v:Val}(q:RDs K mg ρ H vs xs)(e:vs[i]?=some v):∃x,xs[i]?=some x/\RD K mg ρ H v x:=by
 cases q with
 |nil=>cases e
 |cons r rs=>
  cases i with
  |zero=>cases e;exact⟨_,rfl,r⟩
  |succ i=>exact RDs.get (i:=i) rs e
theorem RDs.append{vs ws:List Val}{xs ys:List L2.V}(p:RDs K mg ρ H vs xs)(q:RDs K mg ρ H ws ys):RDs K mg ρ H (vs++ws) (xs++ys):=by
 cases p with
 |nil=>exact q
 |cons r rs=>exact .cons r (rs.append q)
theorem RDs.take{vs:List Val}{xs:List L2.V}(n:Nat)(q:RDs K mg ρ H vs xs):RDs K mg ρ H (vs.take n) (xs.take n):=by
 cases n with
 |zero=>exact .nil
 |succ n=>cases q with
  |nil=>exact .nil
  |cons r rs=>exact .cons r (rs.take n)
theorem RDs.drop{vs:List Val}{xs:List L2.V}(n:Nat)(q:RDs K mg ρ H vs xs):RDs K mg ρ H (vs.drop n) (xs.drop n):=by
 cases n with
 |zero=>exact q
 |succ n=>cases q with
  |nil=>exact .nil
  |cons _ rs=>exact rs.drop n
theorem RDs.set{v:Val}{x:L2.V}(r:RD K mg ρ H v x){vs:List Val}{xs:List L2.V}(i:Nat)(q:RDs K mg ρ H vs xs):RDs K mg ρ H (vs.set i v) (xs.set i x):=by
 cases q with
 |nil=>exact .nil
 |cons q t=>cases i with
  |zero=>exact .cons r t
  |succ i=>exact .cons q (RDs.set r i t)
theorem RDs.rep{vs:List Val}{xs:List L2.V}(r:RDs K mg ρ H vs xs):∀k:Nat,RDs K mg ρ H (Az k vs).flatten (Az k xs).flatten
 |0=>.nil
 |k+1=>by
  rw[BQ,BQ,Cp,Cp]
  exact r.append (RDs.rep r k)
theorem RDs.pick{vs:List Val}{xs:List L2.V}(r:RDs K mg ρ H vs xs):∀(is:List Nat),RDs K mg ρ H (is.filterMap fun i=>vs[i]?) (is.filterMap fun i=>xs[i]?)
 |[]=>.nil
 |i::is=>by
  rw[A4,A4]
  cases hx:vs[i]? with
  |none=>
   have:xs[i]?=none:=by
    have h2:vs.length<=i:=CU.mp hx
    exact CU.mpr (by rw[<-r.length];exact h2)
   rw[this];exact RDs.pick r is
  |some v=>
   obtain⟨u,hu,ru⟩:=r.get hx
   rw[hu]
   exact .cons ru (RDs.pick r is)
theorem RDs.zw{vs:List Val}{xs:List L2.V}(r:RDs K mg ρ H vs xs)(lo st:Int)(n:Nat):RDs K mg ρ H (L2.zw vs lo st n) (L2.zw xs lo st n):=by
 have h:=r.pick ((AE n).map fun(k:Nat)=>(lo+(k:Int)*st).toNat)
 rw[B8,B8]at h
 exact h
theorem RDs.ints:∀(ns:List Int),RDs K mg ρ H (ns.map .int) (ns.map .int)
 |[]=>.nil
 |n::ns=>.cons (.int n) (RDs.ints ns)
theorem RDs.cut{vs:List Val}{xs:List L2.V}(r:RDs K mg ρ H vs xs)(lo hi:Option Int):RDs K mg ρ H (xM vs lo hi) (L2.qY xs lo hi):=by
 unfold xM L2.qY
 rw[r.length]
 exact(r.drop _).take _
theorem cN{α:Type}:∀{l:List α} {i j:Nat} {x:α},l.Nodup->l[i]?=some x->l[j]?=some x->i=j
 |[],_,_,_,_,e,_=>by simp at e
 |a::l,0,0,_,_,_,_=>rfl
 |a::l,0,j+1,x,nd,e1,e2=>by
  simp at e1 e2;subst e1
  exact absurd (AS e2) (Bz.mp nd).1
 |a::l,i+1,0,x,nd,e1,e2=>by
  simp at e1 e2;subst e2
  exact absurd (AS e1) (Bz.mp nd).1
 |a::l,i+1,j+1,x,nd,e1,e2=>by
  simp at e1 e2
  rw[cN (Bz.mp nd).2 e1 e2]
theorem Ext.new(h:HR K mg ρ s H){p:Addr}(hp:H p=none)(o:L2.HO):Ext ρ H ρ (L2.upd H p o):=
 ⟨⟨[],by simp,fun a ha=>by cases ha⟩,rfl,fun a u e _=>by rw[L2.zI (L2.zR e hp)];exact e,fun a ha=>by rw[L2.zI fun z=>(h.new hp).1 (by rw[<-z];exact ha)]⟩
theorem HR.more(h:HR K mg ρ s H){p:Addr}(hp:H p=none)(o:L2.HO):HR K mg ρ s (L2.upd H p o):=by
 refine⟨h.len,h.nd,fun i c e=>?_,fun a ha=>?_⟩
 . obtain⟨a,e1,r⟩:=h.cel i c e
   obtain⟨u,e2⟩:=r.there
   exact⟨a,e1,r.mv (Ext.new h hp o).mv (L2.zI (L2.zR e2 hp))⟩
 . obtain⟨⟨xs,e⟩,n⟩:=h.hid a ha
   exact⟨⟨xs,by rw[L2.zI (L2.zR e hp)];exact e⟩,n⟩
noncomputable def Own.more(ρ:Own)(p:Addr):Own:=⟨ρ.o++[p],ρ.h⟩
theorem Ext.own(h:HR K mg ρ s H){p:Addr}(hp:H p=none)(o:L2.HO):Ext ρ H (ρ.more p) (L2.upd H p o):=
 ⟨⟨[p],rfl,fun a ha=>by rw[Aq.mp ha];exact hp⟩,rfl,fun a u e _=>by rw[L2.zI (L2.zR e hp)];exact e,fun a ha=>by rw[L2.zI fun z=>(h.new hp).1 (by rw[<-z];exact ha)]⟩
theorem sj(h:HR K mg ρ s H)(p:Addr):(ρ.more p).o[s.length]?=some p:=by
 show (ρ.o++[p])[s.length]?=some p
 rw[<-h.len,BO (Ag _)];simp
theorem HR.wW(h:HR K mg ρ s H){p:Addr}(hp:H p=none){c:Cel}{o:L2.HO}(r:CR K mg (ρ.more p) (L2.upd H p o) p c):HR K mg (ρ.more p) (s++[c]) (L2.upd H p o):=by
 have X:=Ext.own h hp o
 refine⟨by show (ρ.o++[p]).length=_;rw[Ap,Ap,h.len];rfl,?_,fun i ws q=>?_,fun a ha=>?_⟩
 . show (ρ.o++[p]).Nodup
   rw[FW]
   exact⟨h.nd,by simp,fun a ha b hb=>by rw[Aq.mp hb];intro z;subst z;exact(h.new hp).1 ha⟩
 . by_cases hi:i<s.length
   . rw[Bb hi]at q
     obtain⟨a,e1,t⟩:=h.cel i ws q
     obtain⟨u,e2⟩:=t.there
     exact⟨a,X.get e1,t.mv X.mv (L2.zI (L2.zR e2 hp))⟩
   . have hi':i=s.length:=by
      have:=(As.mp q).1
      rw[Ap]at this
      simp at this;omega
     subst hi'
     rw[BO (Ag _)]at q
     simp at q
     subst q
     exact⟨p,sj h p,r⟩
 . obtain⟨⟨ys,q⟩,n⟩:=h.hid a ha
   refine⟨⟨ys,by rw[L2.zI (L2.zR q hp)];exact q⟩,fun hm=>?_⟩
   rcases AO.mp hm with hm|hm
   . exact n hm
   . rw[Aq.mp hm,hp]at q;cases q
theorem HR.own(h:HR K mg ρ s H){p:Addr}(hp:H p=none){vs:List Val}{xs:List L2.V}(r:RDs K mg ρ H vs xs):HR K mg (ρ.more p) (s++[.lst vs]) (L2.upd H p (.lst xs)):=h.wW hp ⟨xs,L2.zN,r.mono (Ext.own h hp _)⟩
theorem Ext.sD(h:HR K mg ρ s H){i:Nat}{a:Addr}(e:ρ.o[i]?=some a){o:L2.HO}(k:hk (some o)=hk (H a)):Ext ρ H ρ (L2.upd H a o):=
 ⟨⟨[],by simp,fun a ha=>by cases ha⟩,rfl,fun b u q n=>by rw[L2.zI (fun z=>n (by rw[z];exact AS e))];exact q,fun b hb=>by
   by_cases z:b=a
   . subst z;rw[L2.zN];exact k
   . rw[L2.zI z]⟩
theorem Ext.write(h:HR K mg ρ s H){i:Nat}{a:Addr}(e:ρ.o[i]?=some a){ys:List L2.V}(k:H a=some (.lst ys))(xs:List L2.V):Ext ρ H ρ (L2.upd H a (.lst xs)):=Ext.sD h e (by rw[k];rfl)
theorem HR.sD(h:HR K mg ρ s H){i:Nat}{a:Addr}(e:ρ.o[i]?=some a){c:Cel}{o:L2.HO}(k:hk (some o)=hk (H a))(r:CR K mg ρ (L2.upd H a o) a c):HR K mg ρ (s.set i c) (L2.upd H a o):=by
 have X:=Ext.sD h e k
 refine⟨by rw[CM];exact h.len,h.nd,fun j ws q=>?_,fun b hb=>?_⟩
 . skip
   by_cases hij:i=j
   . subst hij
     have hi:i<s.length:=by rw[<-h.len];exact(As.mp e).1
     rw[AR hi]at q
     cases q
     exact⟨a,e,r⟩
   . rw[BK hij]at q
     obtain⟨b,e1,t⟩:=h.cel j ws q
     refine⟨b,e1,t.mv X.mv ?_⟩
     have hb:b≠a:=by
      intro z
      subst z
      exact hij (cN h.nd e e1)
     rw[L2.zI hb]
 . obtain⟨⟨ys,q⟩,n⟩:=h.hid b hb
   exact⟨⟨ys,by rw[L2.zI (fun z=>n (by rw[z];exact AS e))];exact q⟩,n⟩
theorem HR.write(h:HR K mg ρ s H){i:Nat}{a:Addr}(e:ρ.o[i]?=some a){ys:List L2.V}(k:H a=some (.lst ys)){vs:List Val}{xs:List L2.V}(r:RDs K mg ρ H vs xs):HR K mg ρ (upd s i vs) (L2.upd H a (.lst xs)):=
 h.sD e (by rw[k];rfl) ⟨xs,L2.zN,r.mono (Ext.write h e k xs)⟩
theorem ER.mono{env:Env}{σ:L2.St}(x:Ext ρ H ρ' H')(h:ER K mg ρ H env σ):ER K mg ρ' H' env σ:=⟨h.len,fun i v e=>by
 obtain⟨u,h1,h2⟩:=h.at_ i v e
 exact⟨u,h1,h2.mono x⟩⟩
theorem ER.set{env:Env}{σ:L2.St}(h:ER K mg ρ H env σ)(i:Nat){v:Val}{x:L2.V}(r:RD K mg ρ H v x):ER K mg ρ H (env.set i (some v)) (σ.set i (some x)):=by
 refine⟨by rw[CM,CM,h.len],fun j w e=>?_⟩
 by_cases hij:i=j
 . subst hij
   by_cases hi:i<env.length
   . rw[AR hi]at e
     cases e
     exact⟨x,by rw[AR (by rw[<-h.len];exact hi)],r⟩
   . rw[B9 (by rw[CM];omega)]at e
     cases e
 . rw[BK hij]at e
   rw[BK hij]
   exact h.at_ j w e
end
section
variable (K:KF)(mg:Str->Option Value)
def ym{α β:Type}(R:Own->L2.Hp->α->β->Prop)(ρ:Own)(H:L2.Hp)(o:Out α)(Q:β->L2.Hp->Prop):Prop:=
 match o with
 |.ok v s'=>∀ρ' x H',Ext ρ H ρ' H'->HR K mg ρ' s' H'->R ρ' H' v x->Q x H'
 |_=>False
noncomputable def tV(env:Env)(s:Sto)(o:Out Val):L2.TE:=fun σ H Q=>∃ρ,HR K mg ρ s H/\ER K mg ρ H env σ/\ym K mg (RD K mg) ρ H o Q
noncomputable def tVs(env:Env)(s:Sto)(o:Out (List Val)):L2.TA:=fun σ H Q=>∃ρ,HR K mg ρ s H/\ER K mg ρ H env σ/\ym K mg (RDs K mg) ρ H o Q
noncomputable def tT(env:Env)(s:Sto)(o:Out Bool):L2.TT:=fun σ H Q=>∃ρ,HR K mg ρ s H/\ER K mg ρ H env σ/\ym K mg (fun _ _ a b=>a=b) ρ H o Q
noncomputable def tO(env:Env)(s:Sto)(o:Out (Option Int)):L2.TO:=fun σ H Q=>∃ρ,HR K mg ρ s H/\ER K mg ρ H env σ/\ym K mg (fun _ _ a b=>a=b) ρ H o Q
end
section
variable {X:L2.Cx}{e:Expr}
theorem zb{t t':L2.TE}(h:L2.PE X e t)(i:∀σ H Q,t' σ H Q->t σ H Q):L2.PE X e t':=fun pins s σ H Q I q=>h pins s σ H Q I (i σ H Q q)
theorem tU{t t':L2.TT}(h:L2.PT X e t)(i:∀σ H Q,t' σ H Q->t σ H Q):L2.PT X e t':=fun pins s σ H Q I q=>h pins s σ H Q I (i σ H Q q)
theorem bA{es:List Expr}{t t':L2.TA}(h:L2.PA X es t)(i:∀σ H Q,t' σ H Q->t σ H Q):L2.PA X es t':=fun pos pins s σ H Q I q=>h pos pins s σ H Q I (i σ H Q q)
theorem yh{st:Stmt}{t t':L2.TS}(h:L2.PS X st t)(i:∀D σ H,t' D σ H->t D σ H):L2.PS X st t':=fun pins s σ H D I q=>h pins s σ H D I (i D σ H q)
theorem uq{st:List Stmt}{t t':L2.TS}(h:L2.PSs X st t)(i:∀D σ H,t' D σ H->t D σ H):L2.PSs X st t':=fun pins s σ H D I q=>h pins s σ H D I (i D σ H q)
theorem yO{t:L2.TE}(h:∀σ H Q,¬t σ H Q):L2.PE X e t:=fun pins s σ H Q I q=>(h σ H Q q).elim
theorem j7{t:L2.TT}(h:∀σ H Q,¬t σ H Q):L2.PT X e t:=fun pins s σ H Q I q=>(h σ H Q q).elim
theorem T5{t:L2.TT}(h:∀σ H Q,¬t σ H Q):L2.PW X e t:=fun wh pins s σ H Q I q=>(h σ H Q q).elim
theorem Tr{es:List Expr}{t:L2.TA}(h:∀σ H Q,¬t σ H Q):L2.PA X es t:=fun pos pins s σ H Q I q=>(h σ H Q q).elim
end
section
variable {K:KF}{mg:Str->Option Value}{env:Env}{s:Sto}
theorem Sr{o:Out Val}(h:∀v s',o≠.ok v s'){σ:L2.St}{H:L2.Hp}{Q:L2.VK}:¬tV K mg env s o σ H Q:=by
 rintro ⟨ρ,_,_,w⟩
 cases o with
 |ok v s'=>exact h v s' rfl
 |_=>exact w
theorem V4{o:Out (List Val)}(h:∀v s',o≠.ok v s'){σ:L2.St}{H:L2.Hp}{Q:List L2.V->L2.Hp->Prop}:¬tVs K mg env s o σ H Q:=by
 rintro ⟨ρ,_,_,w⟩
 cases o with
 |ok v s'=>exact h v s' rfl
 |_=>exact w
theorem Xd{o:Out Bool}(h:∀v s',o≠.ok v s'){σ:L2.St}{H:L2.Hp}{Q:Bool->L2.Hp->Prop}:¬tT K mg env s o σ H Q:=by
 rintro ⟨ρ,_,_,w⟩
 cases o with
 |ok v s'=>exact h v s' rfl
 |_=>exact w
end
end M
end
section
namespace M
open PySem
theorem yo:zU=AA:=by rw[A3];rfl
section
variable {K:KF}{mg:Str->Option Value}{ρ ρ':Own}{H H':L2.Hp}{s s':Sto}
theorem wV(hr:HR K mg ρ s H){v:Val}{x:L2.V}{vs:List Val}(r:RD K mg ρ H v x)(e:yN s v=some vs):∃a xs,x=.ref a/\H a=some (.lst xs)/\RDs K mg ρ H vs xs:=by
 cases r with
 |lst n h q=>cases e;exact⟨_,_,rfl,h,q⟩
 |@ref a i h _=>
  simp only[yN]at e
  split at e
  . rename_i ws hw
    cases e
    obtain⟨b,xs,e1,e2,q⟩:=hr.obj i _ hw
    rw[h]at e1;cases e1
    exact⟨_,_,rfl,e2,q⟩
  . cases e
 |_=>cases e
theorem kY(hr:HR K mg ρ s H){v:Val}{x:L2.V}{vs:List Val}(r:RD K mg ρ H v x)(e:xI s v=some vs):∃a xs,x=.ref a/\(L2.SqL K H a xs\/L2.SqT K H a xs)/\RDs K mg ρ H vs xs:=by
 cases r with
 |lst n h q=>cases e;exact⟨_,_,rfl,.inl (.of h),q⟩
 |tup n h q=>cases e;exact⟨_,_,rfl,.inr (.of h),q⟩
 |ctup h=>cases e;exact⟨_,_,rfl,.inr h.sqt,RDs.ints _⟩
 |scr h=>cases e;exact⟨_,_,rfl,.inl h.sql,RDs.ints _⟩
 |@ref a i h _=>
  simp only[xI]at e
  split at e
  . rename_i ws hw
    cases e
    obtain⟨b,xs,e1,e2,q⟩:=hr.obj i _ hw
    rw[h]at e1;cases e1
    exact⟨_,_,rfl,.inl (.of e2),q⟩
  . cases e
 |_=>cases e
mutual
theorem RD.reads{P:Program}{w:World}{h:Heap}(ok:L2.HOk P w H h){v:Val}{x:L2.V}{u:Value}(q:RD K mg ρ H v x)(hv:v.isR=true)(r:L2.RelV x u):∃as,Reads h u v.d as/\(L2.xC v.d=false->B3 ∉ as):=by
 cases q with
 |none=>cases (show u=Ce from r);exact⟨[],.none,fun _=>by simp⟩
 |bool b=>cases (show u=CB b from r);exact⟨[],.bool b,fun _=>by simp⟩
 |int i=>obtain⟨t,q⟩:=(show ∃t,u=Fi i t from r);cases q;exact⟨[],.int i t,fun _=>by simp⟩
 |str x=>obtain⟨t,q⟩:=(show ∃t,u=DL x t from r);cases q;exact⟨[],.str x t,fun _=>by simp⟩
 |@lst a vs xs n ha rs=>
  cases (show u=A1 a from r)
  obtain⟨z,its,n,rv,e⟩:=(show L2.yB P w H h a (.lst xs) from ok a _ ha)
  obtain⟨as,q,_⟩:=RDs.reads ok rs (by simpa only[Val.isR] using hv) rv
  exact⟨a::as,.list e rfl rfl (by simpa using q),fun z=>by simp[Val.d,L2.xC]at z⟩
 |@tup a vs xs n ha rs=>
  cases (show u=A1 a from r)
  obtain⟨z,its,rv,o,e,c,n,dd⟩:=(show L2.yB P w H h a (.tup xs) from ok a _ ha)
  obtain⟨as,q,q2⟩:=RDs.reads ok rs (by simpa only[Val.isR] using hv) rv
  exact⟨as,.tuple e c dd.1 (by simpa using q),fun z=>q2 (by simpa [Val.d,L2.xC] using z)⟩
 |@dct0 a n ha=>
  cases (show u=A1 a from r)
  obtain⟨z,y,vs,rv,o,es,ep,e,c,dd,k⟩:=(show L2.yB P w H h a (.dK []) from ok a _ ha)
  cases rv
  have hes:es=#[]:=by
   have h2:=k.2.1
   cases hl:es.toList with
   |nil=>simpa using hl
   |cons a r=>rw[hl]at h2;cases h2
  subst hes
  refine⟨[a]++[],Reads.dict (as:=[]) (bs:=[]) e c.1 dd .nil .nil,fun _=>?_⟩
  have:a≠B3:=by simpa using y
  simpa using Bq this
 |ctup _=>cases hv
 |scr _=>cases hv
 |ref _ _=>cases hv
 |dref _ _=>cases hv
 |fn _=>cases hv
 |ty _=>cases hv
theorem RDs.reads{P:Program}{w:World}{h:Heap}(ok:L2.HOk P w H h){vs:List Val}{xs:List L2.V}{us:List Value}(p:RDs K mg ρ H vs xs)(hv:sQ vs=true)(q:L2.Vals xs us):∃as,ReadsAll h us (ds vs) as/\(L2.xN (ds vs)=false->B3 ∉ as):=by
 cases p with
 |nil=>cases q;exact⟨[],.nil,fun _=>by simp⟩
 |cons r rs=>
  cases q with
  |cons q1 q2=>
   rw[sQ,Aa]at hv
   obtain⟨as,h1,h2⟩:=RD.reads ok r hv.1 q1
   obtain⟨bs,h3,h4⟩:=RDs.reads ok rs hv.2 q2
   refine⟨as++bs,.cons h1 h3,fun z=>?_⟩
   rw[ds,L2.xN,EY]at z
   intro hm
   rcases AO.mp hm with hm|hm
   . exact h2 z.1 hm
   . exact h4 z.2 hm
end
theorem uY{P:Program}{w:World}{h:Heap}(ok:L2.HOk P w H h)(hr:HR K mg ρ s H){v:Val}{x:L2.V}{u:Value}(hv:(yI s v).isR=true)(r:RD K mg ρ H v x)(ru:L2.RelV x u) :
 ∃as,Reads h u (yI s v).d as/\(L2.xC (yI s v).d=false->B3 ∉ as):=by
 cases v with
 |ref i=>
  cases r with
  |@ref a _ e0=>
  simp only[yI]at hv ⊢
  split at hv
  . rename_i ws hw
    obtain⟨b,xs,e1,e2,q⟩:=hr.obj i _ hw
    rw[e0]at e1;cases e1
    cases (show u=A1 a from ru)
    obtain⟨z,its,n,rv,e⟩:=(show L2.yB P w H h a (.lst xs) from ok a _ e2)
    obtain⟨as,q,_⟩:=RDs.reads ok q (by simpa only[Val.isR] using hv) rv
    exact⟨a::as,.list e rfl rfl (by simpa using q),fun z=>by simp[Val.d,L2.xC]at z⟩
  . cases hv
 |_=>exact RD.reads ok r hv ru
theorem RDs.bX{P:Program}{w:World}{h:Heap}(ok:L2.HOk P w H h)(hr:HR K mg ρ s H):∀{vs:List Val} {xs:List L2.V} {us:List Value},RDs K mg ρ H vs xs->sQ (vs.map (yI s))=true->L2.Vals xs us->∃as,ReadsAll h us (ds (vs.map (yI s))) as/\(L2.xN (ds (vs.map (yI s)))=false->B3 ∉ as)
 |_,_,_,.nil,_,r=>by cases r;exact⟨[],.nil,fun _=>by simp⟩
 |_,_,_,.cons r rs,hv,q=>by
  cases q with
  |cons q1 q2=>
   rw[AJ,sQ,Aa]at hv
   obtain⟨as,h1,h2⟩:=uY ok hr hv.1 r q1
   obtain⟨bs,h3,h4⟩:=RDs.bX ok hr rs hv.2 q2
   rw[AJ]
   refine⟨as++bs,.cons h1 h3,fun z=>?_⟩
   rw[ds,L2.xN,EY]at z
   intro hm
   rcases AO.mp hm with hm|hm
   . exact h2 z.1 hm
   . exact h4 z.2 hm
theorem eC{v:Val}(h:∀vs,v≠.tup vs):zj s v=yI s v:=by
 cases v<;>first|rfl|exact absurd rfl (h _)
theorem yz{P:Program}{w:World}{h:Heap}(ok:L2.HOk P w H h)(hr:HR K mg ρ s H){v:Val}{x:L2.V}{u:Value}(hv:(zj s v).isR=true)(r:RD K mg ρ H v x)(ru:L2.RelV x u) :
 ∃as,Reads h u (zj s v).d as/\(L2.xC (zj s v).d=false->B3 ∉ as):=by
 cases v with
 |tup vs=>
  cases r with
  |@tup a _ xs n ha rs=>
   cases (show u=A1 a from ru)
   obtain⟨z,its,rv,o,e,c,n,dd⟩:=(show L2.yB P w H h a (.tup xs) from ok a _ ha)
   obtain⟨as,q,q2⟩:=RDs.bX ok hr rs (by simpa only[zj,Val.isR] using hv) rv
   exact⟨as,.tuple e c dd.1 (by simpa using q),fun z=>q2 (by simpa [zj,Val.d,L2.xC] using z)⟩
 |_=>exact(show _ from by rw[eC (fun _ h=>by cases h)]at hv ⊢;exact uY ok hr hv r ru)
mutual
theorem yv:∀{v:Val},v.isD=true->v.isR=true
 |.none,_=>rfl
 |.bool _,_=>rfl
 |.int _,_=>rfl
 |.str _,_=>rfl
 |.tup vs,h=>by rw[Val.isR];exact wy (by simpa only[Val.isD] using h)
 |.lst vs,h=>by rw[Val.isR];exact wy (by simpa only[Val.isD] using h)
 |.dct0,h=>by cases h
 |.ctup _,h=>by cases h
 |.scr _,h=>by cases h
 |.ref _,h=>by cases h
 |.fn _,h=>by cases h
 |.ty _,h=>by cases h
theorem wy:∀{vs:List Val},xO vs=true->sQ vs=true
 |[],_=>rfl
 |v::vs,h=>by
  rw[xO,Aa]at h
  rw[sQ,yv h.1,wy h.2];rfl
end
mutual
theorem yH:∀{v:Val},v.isD=true->v.d.canLay0=true
 |.none,_=>rfl
 |.bool _,_=>rfl
 |.int _,_=>rfl
 |.str _,h=>by simpa only[Val.isD,Val.d,GR] using h
 |.tup vs,h=>by rw[Val.d,GR];exact xg (by simpa only[Val.isD] using h)
 |.lst vs,h=>by rw[Val.d,GR];exact xg (by simpa only[Val.isD] using h)
 |.dct0,h=>by cases h
 |.ctup _,h=>by cases h
 |.scr _,h=>by cases h
 |.ref _,h=>by cases h
 |.fn _,h=>by cases h
 |.ty _,h=>by cases h
theorem xg:∀{vs:List Val},xO vs=true->PyData.canLayAll0 (ds vs)=true
 |[],_=>rfl
 |v::vs,h=>by
  rw[xO,Aa]at h
  rw[ds,PyData.canLayAll0,yH h.1,xg h.2];rfl
end
theorem uh(hr:HR K mg ρ s H){m:Bool}{vs:List Val}{xs:List L2.V}(r:RDs K mg ρ H vs xs){Q:L2.VK}(w:ym K mg (RD K mg) ρ H (newList m vs s) Q):∀p,H p=none->Q (.ref p) (L2.upd H p (.lst xs)):=fun p hp=>by
 cases m with
 |true=>exact w _ _ _ (Ext.own hr hp _) (hr.own hp r) (.ref (sj hr p) (by rw[L2.zN];rfl))
 |false=>exact w _ _ _ (Ext.new hr hp _) (hr.more hp _) (.lst (hr.new hp) L2.zN (r.mono (Ext.new hr hp _)))
theorem js(hr:HR K mg ρ s H){vs:List Val}{xs:List L2.V}(r:RDs K mg ρ H vs xs){Q:L2.VK}(w:ym K mg (RD K mg) ρ H (.ok (.tup vs) s) Q):∀p,H p=none->Q (.ref p) (L2.upd H p (.tup xs)):=fun p hp=>
 w _ _ _ (Ext.new hr hp _) (hr.more hp _) (.tup (hr.new hp) L2.zN (r.mono (Ext.new hr hp _)))
theorem Ext.same(hr:HR K mg ρ s H)(e:L2.xt H H'):Ext ρ H ρ H':=⟨⟨[],by simp,fun a ha=>by cases ha⟩,rfl,fun a o h _=>e a o h,fun a ha=>by
 obtain⟨o,q⟩:=hr.trk ha
 rw[q,e a o q]⟩
theorem HR.same(hr:HR K mg ρ s H)(e:L2.xt H H'):HR K mg ρ s H':=⟨hr.len,hr.nd,fun i c q=>by
 obtain⟨a,e1,r⟩:=hr.cel i c q
 obtain⟨o,e2⟩:=r.there
 exact⟨a,e1,r.mv (Ext.same hr e).mv ((e a _ e2).trans e2.symm)⟩,fun a ha=>by
 obtain⟨⟨ys,q⟩,n⟩:=hr.hid a ha
 exact⟨⟨ys,e a _ q⟩,n⟩⟩
theorem uf(hr:HR K mg ρ s H){vs:List Val}{xs:List L2.V}(r:RDs K mg ρ H vs xs){Q:L2.VK}(w:ym K mg (RD K mg) ρ H (.ok (.tup vs) s) Q):L2.sF H xs Q:=fun p H' e h=>by
 have hr':=hr.same e
 refine w _ _ _ (Ext.same hr e) hr' (.tup ⟨fun hm=>?_,fun hm=>?_⟩ h (r.mono (Ext.same hr e)))
 . obtain⟨i,hi,q⟩:=Bw hm
   have hs:i<s.length:=by rw[<-hr'.len];exact hi
   obtain⟨b,e1,e2⟩:=hr'.cel i _ (Ae hs)
   rw[Ae hi,q]at e1
   cases e1
   have:=e2.hk
   rw[h]at this
   exact absurd this (Bg 0)
 . obtain⟨⟨ys,q⟩,_⟩:=hr'.hid _ hm
   rw[h]at q;cases q
end
section
variable (K:KF)(mg:Str->Option Value)
noncomputable def rM2(g:Val->Val->Sto->Out Val):L2.R2:=fun x y H Q=>∃ρ s v w,HR K mg ρ s H/\RD K mg ρ H v x/\RD K mg ρ H w y/\ym K mg (RD K mg) ρ H (g v w s) Q
noncomputable def rMc(g:List Val->Sto->Out Val):List L2.V->L2.Hp->L2.VK->Prop:=fun xs H Q=>∃ρ s vs,HR K mg ρ s H/\RDs K mg ρ H vs xs/\ym K mg (RD K mg) ρ H (g vs s) Q
end
section
variable {X:L2.Cx}{k:Nat}
theorem zM{K:KF}{mg:Str->Option Value}{ρ:Own}{H:L2.Hp}{s:Sto}(hr:HR K mg ρ s H){v:Val}{x:L2.V}(r:RD K mg ρ H v x){Q:L2.VK}(w:ym K mg (RD K mg) ρ H (.ok v s) Q):Q x H:=w _ _ _ Ext.refl hr r
theorem l6(m:Bool):L2.OpR X (BB .Add) (rM2 X.K X.mg (binOp m .add)):=by
 intro pins s σ H x y v u Q I rx ry h
 obtain⟨ρ,t,a,b,hr,ra,rb,w⟩:=h
 simp only[binOp]at w
 split at w
 . cases ra;cases rb
   exact L2.VA pins s σ H _ _ v u Q I rx ry ⟨_,_,rfl,rfl,zM hr (.int _) w⟩
 . split at w
   . rename_i hz
     cases ra;cases rb
     exact L2.qI pins s σ H _ _ v u Q I rx ry ⟨_,_,rfl,rfl,by rw[<-yo];exact hz,zM hr (.str _) w⟩
   . exact w.elim
 . split at w
   . rename_i hz
     cases ra with
     |tup n1 h1 q1=>
      cases rb with
      |tup n2 h2 q2=>
       refine L2.cb pins s σ H _ _ v u Q I rx ry ⟨_,_,_,_,rfl,rfl,h1,h2,?_,uf hr (q1.append q2) w⟩
       rw[<-q1.length,<-q2.length,<-yo];exact hz
   . exact w.elim
 . split at w
   . rename_i ea eb
     split at w
     . rename_i hz
       obtain⟨p1,xs,rfl,h1,q1⟩:=wV hr ra ea
       obtain⟨p2,ys,rfl,h2,q2⟩:=wV hr rb eb
       refine L2.kB pins s σ H _ _ v u Q I rx ry ⟨_,_,_,_,rfl,rfl,h1,h2,?_,uh hr (q1.append q2) w⟩
       rw[<-q1.length,<-q2.length,<-yo];exact hz
     . exact w.elim
   . exact w.elim
theorem kA(m:Bool):L2.OpR X (BB .Sub) (rM2 X.K X.mg (binOp m .sub)):=by
 intro pins s σ H x y v u Q I rx ry h
 obtain⟨ρ,t,a,b,hr,ra,rb,w⟩:=h
 simp only[binOp]at w
 split at w
 . cases ra;cases rb
   exact L2.VG pins s σ H _ _ v u Q I rx ry ⟨_,_,rfl,rfl,zM hr (.int _) w⟩
 . exact w.elim
theorem l8(m:Bool):L2.OpR X (BB .Mult) (rM2 X.K X.mg (binOp m .mul)):=by
 intro pins s σ H x y v u Q I rx ry h
 obtain⟨ρ,t,a,b,hr,ra,rb,w⟩:=h
 simp only[binOp]at w
 split at w
 . split at w
   . rename_i hz
     cases ra;cases rb
     exact L2.VD pins s σ H _ _ v u Q I rx ry ⟨_,_,rfl,rfl,hz,zM hr (.int _) w⟩
   . exact w.elim
 . split at w
   . rename_i hz
     obtain⟨z1,z2,z3,z4⟩:=hz
     cases ra with
     |tup n1 h1 q1=>
      cases rb
      refine L2.Z2 pins s σ H _ _ v u Q I rx ry ⟨_,_,_,rfl,rfl,h1,z1,z2,?_,?_,uf hr (q1.rep _) w⟩
      . intro e;subst e;cases q1;exact z3 rfl
      . rw[<-q1.length];exact z4
   . exact w.elim
 . split at w
   . rename_i ea
     split at w
     . rename_i hz
       obtain⟨z1,z2,z3⟩:=hz
       obtain⟨p1,xs,rfl,h1,q1⟩:=wV hr ra ea
       cases rb
       refine L2.VF pins s σ H _ _ v u Q I rx ry ⟨_,_,_,rfl,rfl,h1,by omega,by omega,?_,uh hr (q1.rep _) w⟩
       rw[<-q1.length,<-yo];exact z3
     . exact w.elim
   . exact w.elim
 . exact w.elim
theorem mR(m:Bool):L2.OpR X (BB .FloorDiv) (rM2 X.K X.mg (binOp m .fdiv)):=by
 intro pins s σ H x y v u Q I rx ry h
 obtain⟨ρ,t,a,b,hr,ra,rb,w⟩:=h
 simp only[binOp]at w
 split at w
 . split at w
   . rename_i hz
     cases ra;cases rb
     exact L2.Z0 pins s σ H _ _ v u Q I rx ry ⟨_,_,rfl,rfl,hz,zM hr (.int _) w⟩
   . exact w.elim
 . exact w.elim
theorem l7(m:Bool):L2.OpR X (BB .Mod) (rM2 X.K X.mg (binOp m .mod)):=by
 intro pins s σ H x y v u Q I rx ry h
 obtain⟨ρ,t,a,b,hr,ra,rb,w⟩:=h
 simp only[binOp]at w
 split at w
 . split at w
   . rename_i hz
     cases ra;cases rb
     exact L2.VC pins s σ H _ _ v u Q I rx ry ⟨_,_,rfl,rfl,hz,zM hr (.int _) w⟩
   . exact w.elim
 . exact w.elim
theorem l9(m:Bool):L2.OpR X (BB .Pow) (rM2 X.K X.mg (binOp m .pow)):=by
 intro pins s σ H x y v u Q I rx ry h
 obtain⟨ρ,t,a,b,hr,ra,rb,w⟩:=h
 simp only[binOp]at w
 split at w
 . split at w
   . rename_i hz
     cases ra;cases rb
     exact L2.VE pins s σ H _ _ v u Q I rx ry ⟨_,_,rfl,rfl,hz,zM hr (.int _) w⟩
   . exact w.elim
 . exact w.elim
end
end M
end
section
namespace L2
open PySem PyProof PyProof.Rows
section
variable {κ:Type} [DecidableEq κ]
theorem KV.length{kvs:List (κ × V)}{vs:List (κ × Value)}(r:KV kvs vs):kvs.length=vs.length:=G2 r
end
section
variable {X:Cx}{pins:List (Addr × Obj)}{σ:St}{H:Hp}{s:Shared}{a:Addr}{y v:V}{u r:Value}{o:Option V}{A:Around}{E:Value->Shared->Prop}
theorem Inv.big(I:Inv X pins σ H s):B3<s.heap.objs.size:=by
 have h:AN<s.heap.objs.size:=(I.mod.glob.keeps I.bk).lt
 exact Nat.lt_trans (by decide) h
end
theorem eD{P:Program}{w:World}{H:Hp}(h:Heap)(hb:B3<h.objs.size):yB P w H (h.push {cls:=.type "dict",data:=.dict #[]}) h.objs.size (.dK []):=
 ⟨A9 _,beq_eq_false_iff_ne.mpr (Bq (AB hb)),[],.nil,Heap.DictOf.new h⟩
theorem eE{P:Program}{w:World}{H:Hp}(h:Heap)(hb:B3<h.objs.size):yB P w H (h.push {cls:=.type "dict",data:=.dict #[]}) h.objs.size (.dT []):=
 ⟨A9 _,beq_eq_false_iff_ne.mpr (Bq (AB hb)),[],.nil,_,#[],0,Ay _ rfl,⟨rfl,rfl,rfl⟩,rfl,rfl,List.nodup_nil⟩
noncomputable def V0:TE:=fun _ H Q=>∀p,H p=none->Q (.ref p) (upd H p (.dK []))
noncomputable def V1:TE:=fun _ H Q=>∀p,H p=none->Q (.ref p) (upd H p (.dT []))
section
variable {X:Cx}{pos:Pos}
theorem bH:PE X (.Dict [] [] pos) V0:=fun pins s σ H Q I h=>
 Ge ⟨.ref s.heap.objs.size,_,I.laid (a:=s.heap.objs.size) (o:=.dK []) (t':=s.toks) (fun _ _ q=>Ad _ q) (Ag _) (eD s.heap I.big),rfl,h _ (I.hok.fresh (Ag _))⟩
theorem bI:PE X (.Dict [] [] pos) V1:=fun pins s σ H Q I h=>
 Ge ⟨.ref s.heap.objs.size,_,I.laid (a:=s.heap.objs.size) (o:=.dT []) (t':=s.toks) (fun _ _ q=>Ad _ q) (Ag _) (eE s.heap I.big),rfl,h _ (I.hok.fresh (Ag _))⟩
end
end L2
end
section
namespace M
open PySem
section
variable {K:KF}{mg:Str->Option Value}{ρ:Own}{H:L2.Hp}{s:Sto}
noncomputable def RO(K:KF)(mg:Str->Option Value)(ρ:Own)(H:L2.Hp):Option Val->Option L2.V->Prop
 |none,none=>True
 |some v,some x=>RD K mg ρ H v x
 |_,_=>False
theorem RO.isSome{o:Option Val}{o':Option L2.V}(h:RO K mg ρ H o o'):o'.isSome=o.isSome:=by
 cases o with
 |none=>cases o' with|none=>rfl|some _=>exact h.elim
 |some v=>cases o' with|none=>exact h.elim|some _=>rfl
end
end M
end
section
namespace M
open PySem
section
variable {K:KF}{mg:Str->Option Value}{ρ ρ':Own}{H H':L2.Hp}{s s':Sto}
theorem RDs.bools:∀{vs:List Val} {xs:List L2.V} {bs:List Bool},RDs K mg ρ H vs xs->boolsOf vs=some bs->xs=bs.map L2.V.bl
 |_,_,_,.nil,h=>by cases h;rfl
 |_,_,_,.cons r rs,h=>by
  cases r with
  |bool b=>
   simp only[boolsOf,A6]at h
   obtain⟨bs',h1,h2⟩:=h
   subst h2
   rw[rs.bools h1];rfl
  |_=>cases h
theorem RDs.rk:∀{vs:List Val} {xs:List L2.V} {ns:List Int},RDs K mg ρ H vs xs->intsOf vs=some ns->xs=ns.map L2.V.int
 |_,_,_,.nil,h=>by cases h;rfl
 |_,_,_,.cons r rs,h=>by
  cases r with
  |int b=>
   simp only[intsOf,A6]at h
   obtain⟨bs',h1,h2⟩:=h
   subst h2
   rw[rs.rk h1];rfl
  |_=>cases h
theorem af{vs:List Val}{xs:List L2.V}{i:Int}{v:Val}(r:RDs K mg ρ H vs xs)(h:L2.atI vs i=some v):∃x,L2.atI xs i=some x/\RD K mg ρ H v x:=by
 unfold L2.atI at h ⊢
 rw[<-r.length]
 obtain⟨j,h1,h2⟩:=Ea.mp h
 obtain⟨x,h3,h4⟩:=r.get h2
 exact⟨x,by rw[h1];exact h3,h4⟩
theorem aL(hr:HR K mg ρ s H){v:Val}{x:L2.V}{b:Bool}(r:RD K mg ρ H v x)(h:truth s v=some b):L2.ae K x H b:=by
 have hz:∀{vs:List Val} {xs:List L2.V},RDs K mg ρ H vs xs->vs.isEmpty=xs.isEmpty:=fun r=>by cases r<;>rfl
 cases r with
 |none=>cases h;rfl
 |bool b=>cases h;rfl
 |int i=>cases h;rfl
 |str x=>
  simp only[truth]at h
  split at h
  . cases h
    rename_i q
    exact⟨by rw[<-yo];exact q,rfl⟩
  . cases h
 |tup n e q=>cases h;exact .inr (.inl ⟨_,.of e,by rw[hz q]⟩)
 |lst n e q=>cases h;exact .inl ⟨_,.of e,by rw[hz q]⟩
 |dct0 n e=>cases h;exact .inr (.inr ⟨_,e,rfl⟩)
 |ctup _=>cases h
 |scr _=>cases h
 |@ref a i e _=>
  simp only[truth]at h
  split at h
  . rename_i ws hw
    cases h
    obtain⟨c,xs,e1,e2,q⟩:=hr.obj i _ hw
    rw[e]at e1;cases e1
    exact .inl ⟨_,.of e2,by rw[hz q]⟩
  . cases h
 |fn _=>cases h
 |ty _=>cases h
 |dref _ _=>cases h
theorem Sx(hr:HR K mg ρ s H){v:Val}{x:L2.V}{a:L2.Kd}(r:RD K mg ρ H v x)(h:kindOf v=some a):(L2.uQ K H x (.type a.nm)):=by
 cases r with
 |none=>cases h;exact .non
 |bool b=>cases h;exact .bl b
 |int i=>cases h;exact .int i
 |str x=>cases h;exact .str x
 |tup n e q=>cases h;exact .tup e
 |lst n e q=>cases h;exact .lst e
 |dct0 n e=>cases h;exact .dK e
 |ref e k=>
  cases h
  obtain⟨xs,q⟩:=dA k
  exact .lst q
 |_=>cases h
theorem U9{n:String}{c:L2.Kd}(h:vT n=some c):n=c.nm/\c≠.non:=by
 unfold vT at h
 split at h<;>first|(cases h;exact⟨rfl,by decide⟩)|cases h
end
section
variable {X:L2.Cx}{k:Nat}
theorem TJ{d:PyData}(h:qH d=true):L2.Yr d:=by
 unfold qH at h
 simp only[Aa,decide_eq_true_eq,AL,AX]at h
 obtain⟨⟨⟨⟨h1,h2⟩,h3⟩,h4⟩,h5⟩:=h
 have L:L2.v9 d.depth d.weight d:=⟨h1,h2,Ag _,Ag _⟩
 refine L.SY h3 h4 fun z=>?_
 rcases h5 with h5|h5
 . rw[h5]at z;cases z
 . exact h5
theorem gM(hr0:L2.yu k X.A):L2.OpR X (Bl .Eq) (rM2 X.K X.mg (zQ .eq)):=by
 intro pins s σ H x y v u Q I rx ry h
 obtain⟨ρ,t,a,b,hr,ra,rb,w⟩:=h
 simp only[zQ,rW]at w
 split at w
 . rename_i p q
   cases ra;cases rb
   have e:decide (L2.V.str p=L2.V.str q)=decide (p=q):=by
    rw[Ci];simp
   refine L2.XJ pins s σ H _ _ v u Q I rx ry ⟨rfl,?_⟩
   rw[e]
   exact zM hr (.bool _) w
 . rename_i a ns
   cases rb with
   |ctup g=>
    by_cases hc:((zj t (.tup a)).isD&&(Val.tup (ns.map .int)).isD&&decide ((Val.tup (ns.map .int)).d.depth<=60))=true
    . rw[if_pos hc]at w
      simp only[Aa,decide_eq_true_eq]at hc
      obtain⟨as,r1,_⟩:=yz I.hok hr (yv hc.1.1) ra rx
      obtain⟨its,rv,p1,_⟩:=I.tuple g.sqt
      obtain⟨o,ho,hcl,n,hd⟩:=id p1
      obtain⟨bs,q,_⟩:=RDs.reads I.hok (RDs.ints (K:=X.K) (mg:=X.mg) (ρ:=ρ) (H:=H) ns) (yv hc.1.2) rv
      have r2:Reads s.heap u (Val.tup (ns.map .int)).d bs:=by cases ry;exact .tuple ho hcl hd (by simpa using q)
      have hu:=hr0.un
      have hm:=Ew (zj t (.tup a)).d.depth (Val.tup (ns.map .int)).d.depth
      exact SeqAt.compareEq_reads r1 r2 (yH hc.1.1) (yH hc.1.2) (by omega) ⟨.bl _,H,I,rfl,zM hr (.bool _) w⟩
    . rw[if_neg hc]at w;exact w.elim
 . by_cases hc:((zj t a).isD&&(zj t b).isD&&decide ((zj t b).d.depth<=60))=true
   . rw[if_pos hc]at w
     simp only[Aa,decide_eq_true_eq]at hc
     obtain⟨as,r1,_⟩:=yz I.hok hr (yv hc.1.1) ra rx
     obtain⟨bs,r2,_⟩:=yz I.hok hr (yv hc.1.2) rb ry
     have hu:=hr0.un
     have hm:=Ew (zj t a).d.depth (zj t b).d.depth
     exact SeqAt.compareEq_reads r1 r2 (yH hc.1.1) (yH hc.1.2) (by omega) ⟨.bl _,H,I,rfl,zM hr (.bool _) w⟩
   . rw[if_neg hc]at w;exact w.elim
theorem gS(hr0:L2.yu k X.A):L2.OpR X (Bl .NotEq) (rM2 X.K X.mg (zQ .ne)):=by
 intro pins s σ H x y v u Q I rx ry h
 obtain⟨ρ,t,a,b,hr,ra,rb,w⟩:=h
 simp only[zQ,rW]at w
 split at w
 . rename_i p q
   cases ra;cases rb
   have e:decide (L2.V.str p=L2.V.str q)=decide (p=q):=by
    rw[Ci];simp
   refine L2.XM pins s σ H _ _ v u Q I rx ry ⟨rfl,?_⟩
   rw[e]
   exact zM hr (.bool _) w
 . by_cases hc:((zj t a).isD&&(zj t b).isD&&decide ((zj t b).d.depth<=60))=true
   . rw[if_pos hc]at w
     simp only[Aa,decide_eq_true_eq]at hc
     obtain⟨as,r1,_⟩:=yz I.hok hr (yv hc.1.1) ra rx
     obtain⟨bs,r2,_⟩:=yz I.hok hr (yv hc.1.2) rb ry
     have hu:=hr0.un
     have hm:=Ew (zj t a).d.depth (zj t b).d.depth
     exact SeqAt.compareNe_reads r1 r2 (yH hc.1.1) (yH hc.1.2) (by omega) ⟨.bl _,H,I,rfl,zM hr (.bool _) w⟩
   . rw[if_neg hc]at w;exact w.elim
theorem RD.isNone{K:KF}{mg:Str->Option Value}{ρ:Own}{H:L2.Hp}{v:Val}{x:L2.V}(r:RD K mg ρ H v x):decide (x=.non)=v.isN:=by
 cases r<;>first|rfl|exact decide_eq_false (fun z=>nomatch z)
theorem gP:L2.OpR X (Bl .Is) (rM2 X.K X.mg (zQ .is)):=by
 intro pins s σ H x y v u Q I rx ry h
 obtain⟨ρ,t,a,b,hr,ra,rb,w⟩:=h
 cases rb with
 |none=>
  refine L2.VB pins s σ H _ _ v u Q I rx ry ⟨rfl,?_⟩
  rw[ra.isNone]
  exact zM hr (.bool _) w
 |bool c=>
  cases ra with
  |bool d=>cases rx;cases ry;cases c<;>cases d<;>exact Am ⟨.bl _,H,I,rfl,zM hr (.bool _) w⟩
  |_=>exact w.elim
 |_=>exact w.elim
theorem om:L2.OpR X (Bl .IsNot) (rM2 X.K X.mg (zQ .isNot)):=by
 intro pins s σ H x y v u Q I rx ry h
 obtain⟨ρ,t,a,b,hr,ra,rb,w⟩:=h
 cases rb with
 |none=>
  refine L2.Z1 pins s σ H _ _ v u Q I rx ry ⟨rfl,?_⟩
  rw[ra.isNone]
  exact zM hr (.bool _) w
 |bool c=>
  cases ra with
  |bool d=>cases rx;cases ry;cases c<;>cases d<;>exact Am ⟨.bl _,H,I,rfl,zM hr (.bool _) w⟩
  |_=>exact w.elim
 |_=>exact w.elim
theorem gR:L2.OpR X (Bl .Lt) (rM2 X.K X.mg (zQ .lt)):=by
 intro pins s σ H x y v u Q I rx ry h
 obtain⟨ρ,t,a,b,hr,ra,rb,w⟩:=h
 simp only[zQ]at w
 split at w
 . cases ra;cases rb
   exact L2.TV pins s σ H _ _ v u Q I rx ry ⟨_,_,rfl,rfl,zM hr (.bool _) w⟩
 . exact w.elim
theorem gQ:L2.OpR X (Bl .LtE) (rM2 X.K X.mg (zQ .le)):=by
 intro pins s σ H x y v u Q I rx ry h
 obtain⟨ρ,t,a,b,hr,ra,rb,w⟩:=h
 simp only[zQ]at w
 split at w
 . cases ra;cases rb
   exact L2.TU pins s σ H _ _ v u Q I rx ry ⟨_,_,rfl,rfl,zM hr (.bool _) w⟩
 . exact w.elim
theorem gO:L2.OpR X (Bl .Gt) (rM2 X.K X.mg (zQ .gt)):=by
 intro pins s σ H x y v u Q I rx ry h
 obtain⟨ρ,t,a,b,hr,ra,rb,w⟩:=h
 simp only[zQ]at w
 split at w
 . cases ra;cases rb
   exact L2.TR pins s σ H _ _ v u Q I rx ry ⟨_,_,rfl,rfl,zM hr (.bool _) w⟩
 . exact w.elim
theorem gN:L2.OpR X (Bl .GtE) (rM2 X.K X.mg (zQ .ge)):=by
 intro pins s σ H x y v u Q I rx ry h
 obtain⟨ρ,t,a,b,hr,ra,rb,w⟩:=h
 simp only[zQ]at w
 split at w
 . cases ra;cases rb
   exact L2.TQ pins s σ H _ _ v u Q I rx ry ⟨_,_,rfl,rfl,zM hr (.bool _) w⟩
 . exact w.elim
noncomputable def Cop.op:Cop->CmpOp
 |.eq=>.Eq|.ne=>.NotEq|.lt=>.Lt|.le=>.LtE|.gt=>.Gt|.ge=>.GtE|.is=>.Is|.isNot=>.IsNot|.in_=>.In|.notIn=>.NotIn|.inD=>.In|.notInD=>.NotIn|.notInK=>.NotIn
noncomputable def okC:Cop->Bool
 |.in_|.notIn|.inD|.notInD|.notInK=>false
 |_=>true
theorem uH(hr0:L2.yu k X.A):∀op:Cop,okC op=true->L2.OpR X (Bl op.op) (rM2 X.K X.mg (zQ op))
 |.eq,_=>gM hr0
 |.ne,_=>gS hr0
 |.lt,_=>gR
 |.le,_=>gQ
 |.gt,_=>gO
 |.ge,_=>gN
 |.is,_=>gP
 |.isNot,_=>om
 |.in_,h=>by cases h
 |.notIn,h=>by cases h
 |.inD,h=>by cases h
 |.notInD,h=>by cases h
 |.notInK,h=>by cases h
noncomputable def Bop.op:Bop->Operator
 |.add=>.Add|.sub=>.Sub|.mul=>.Mult|.fdiv=>.FloorDiv|.mod=>.Mod|.pow=>.Pow|.shl=>.LShift|.shr=>.RShift|.band=>.BitAnd
noncomputable def okB:Bop->Bool
 |.shl|.shr|.band=>false
 |_=>true
theorem cZ(m:Bool):∀op:Bop,okB op=true->L2.OpR X (BB op.op) (rM2 X.K X.mg (binOp m op))
 |.add,_=>l6 m
 |.sub,_=>kA m
 |.mul,_=>l8 m
 |.fdiv,_=>mR m
 |.mod,_=>l7 m
 |.pow,_=>l9 m
 |.shl,h=>by cases h
 |.shr,h=>by cases h
 |.band,h=>by cases h
theorem Uw:L2.IxR X (rM2 X.K X.mg wU):=by
 intro value slice pins s σ H x y v u Q I rx ry h hs
 obtain⟨ρ,t,a,b,hr,ra,rb,w⟩:=h
 simp only[wU]at w
 split at w
 . split at w
   . rename_i vs e
     split at w
     . rename_i z hz
       obtain⟨p,xs,rfl,hq,q⟩:=kY hr ra e
       cases rb
       obtain⟨xz,h1,h2⟩:=af q hz
       refine L2.WJ value slice pins s σ H _ _ v u Q I rx ry ?_ hs
       rcases hq with hq|hq
       . exact .inl ⟨p,xs,_,xz,rfl,rfl,hq,h1,zM hr h2 w⟩
       . exact .inr (.inl ⟨p,xs,_,xz,rfl,rfl,hq,h1,zM hr h2 w⟩)
     . exact w.elim
   . exact w.elim
 . exact w.elim
end
end M
end
section
namespace M
open PySem
noncomputable def Bf.nm:Bf->Str
 |.len=>"len"|.all=>"all"|.any=>"any"|.tuple=>"tuple"|.list=>"list"|.sorted=>"sorted"|.repr=>"repr"|.max=>"max"|.min=>"min"|.sum=>"sum"|.int=>"int"|.isi=>"isinstance"|.divmod=>"divmod"|.str=>"str"|.sortedI=>"sorted"|.minT=>"min"|.sortedR=>"sorted"|.minS=>"min"
noncomputable def Bf.val:Bf->Value
 |.len=>.builtin "len"|.all=>.builtin "all"|.any=>.builtin "any"|.tuple=>.type "tuple"|.list=>.type "list"|.sorted=>.builtin "sorted"|.repr=>.builtin "repr"|.max=>.builtin "max"|.min=>.builtin "min"|.sum=>.builtin "sum"|.int=>.type "int"
 |.isi=>.builtin "isinstance"|.divmod=>.builtin "divmod"|.str=>.type "str"|.sortedI=>.builtin "sorted"|.minT=>.builtin "min"|.sortedR=>.builtin "sorted"|.minS=>.builtin "min"
theorem Bf.boot:∀f:Bf,Cf f.nm=some f.val
 |.len=>boot_len|.all=>PyProof.Rows.boot_all|.any=>PyProof.Rows.boot_any|.tuple=>Gs|.list=>PyProof.Rows.boot_list|.sorted=>D0|.repr=>PyProof.Rows.boot_repr|.max=>PyProof.Rows.boot_max|.min=>EJ
 |.sum=>PyProof.Rows.boot_sum|.int=>PyProof.Rows.boot_int|.isi=>PyProof.Rows.boot_isinstance|.divmod=>PyProof.Rows.boot_divmod|.str=>PyProof.Rows.boot_str|.sortedI=>D0|.minT=>EJ|.sortedR=>D0|.minS=>EJ
section
variable {X:L2.Cx}{k:Nat}{m:Bool}
theorem uu{K:KF}{mg:Str->Option Value}{ρ:Own}{H:L2.Hp}{v:Val}{xs:List L2.V}(r:RDs K mg ρ H [v] xs):∃x,xs=[x]/\RD K mg ρ H v x:=by
 cases r with
 |cons r1 r2=>cases r2;exact⟨_,rfl,r1⟩
theorem bW{K:KF}{mg:Str->Option Value}{ρ:Own}{H:L2.Hp}{v w:Val}{xs:List L2.V}(r:RDs K mg ρ H [v,w] xs):∃x y,xs=[x,y]/\RD K mg ρ H v x/\RD K mg ρ H w y:=by
 cases r with
 |cons r1 r2=>
  obtain⟨y,rfl,r3⟩:=uu r2
  exact⟨_,_,rfl,r1,r3⟩
theorem fg:L2.yJ X (.builtin "len") (rMc X.K X.mg (blt .len m)):=by
 intro pins s σ H xs us Q I r h
 obtain⟨ρ,t,vs,hr,rv,w⟩:=h
 simp only[blt]at w
 split at w
 . split at w
   . rename_i hz
     obtain⟨x,rfl,rx⟩:=uu rv
     cases rx
     exact L2.oF pins s σ H _ us Q I r ⟨_,rfl,by rw[<-yo];exact hz,zM hr (.int _) w⟩
   . exact w.elim
 . split at w
   . rename_i e
     obtain⟨x,rfl,rx⟩:=uu rv
     obtain⟨p,ys,rfl,hq,q⟩:=kY hr rx e
     refine L2.oE pins s σ H _ us Q I r ⟨p,ys,rfl,hq,?_⟩
     rw[<-q.length]
     exact zM hr (.int _) w
   . exact w.elim
 . exact w.elim
theorem rM(hc:X.calm=true):L2.yJ X (.builtin "all") (rMc X.K X.mg (blt .all m)):=by
 intro pins s σ H xs us Q I r h
 obtain⟨ρ,t,vs,hr,rv,w⟩:=h
 simp only[blt]at w
 split at w
 . split at w
   . rename_i e
     split at w
     . rename_i bs eb
       obtain⟨x,rfl,rx⟩:=uu rv
       obtain⟨p,ys,rfl,hq,q⟩:=wV hr rx e
       rw[q.bools eb]at hq
       exact L2.rM hc pins s σ H _ us Q I r ⟨p,bs,rfl,.of hq,zM hr (.bool _) w⟩
     . exact w.elim
   . exact w.elim
 . exact w.elim
theorem lS:L2.yJ X (.type "tuple") (rMc X.K X.mg (blt .tuple m)):=by
 intro pins s σ H xs us Q I r h
 obtain⟨ρ,t,vs,hr,rv,w⟩:=h
 simp only[blt]at w
 split at w
 . obtain⟨x,rfl,rx⟩:=uu rv
   cases rx with
   |tup n e q=>exact L2.v7 pins s σ H _ us Q I r ⟨_,_,rfl,.inr ⟨.of e,zM hr (.tup n e q) w⟩⟩
 . split at w
   . rename_i e
     obtain⟨x,rfl,rx⟩:=uu rv
     obtain⟨p,ys,rfl,hq,q⟩:=wV hr rx e
     exact L2.v7 pins s σ H _ us Q I r ⟨p,ys,rfl,.inl ⟨.of hq,js hr q w⟩⟩
   . exact w.elim
 . exact w.elim
theorem fk(hr0:L2.yu k X.A):L2.yJ X (.builtin "repr") (rMc X.K X.mg (blt .repr m)):=by
 intro pins s σ H xs us Q I r h
 obtain⟨ρ,t,vs,hr,rv,w⟩:=h
 simp only[blt]at w
 split at w
 . rename_i v
   split at w
   . rename_i hc
     rw[Aa]at hc
     obtain⟨x,rfl,rx⟩:=uu rv
     obtain⟨u,rfl,ru⟩:=L2.vals1 r
     have S:=TJ hc.2
     have q:Q (.str (zj t v).d.shown) H:=zM hr (.str _) w
     have fin:∀(tk':Tok) (tk:Nat),L2.EP X pins σ Q (.str (zj t v).d.shown tk') {s with toks:=tk}:=fun _ tk=>⟨.str _,H,I.tok _,⟨_,rfl⟩,q⟩
     obtain⟨as,R,hs⟩:=yz I.hok hr hc.1 rx ru
     have fr:∀a,u=.ref a->wpAny (model X.prog X.w) X.A (call (.builtin "repr") [u]) (L2.EP X pins σ Q) X.xe s:=fun a e=>by
      subst e
      refine repr_of_reads' R S.sh (fun z=>hs (S.mix z)) hr0.gd ?_ (fun _ _ e=>e) (fun h' u tk hk=>⟨.str _,H,I.kept hk,⟨_,rfl⟩,q⟩) S.ln
      have:=S.dp
      have:=hr0.un
      omega
     cases rx with
     |none=>cases (show u=Ce from ru);exact PySem.P.repr_of_none (fin _ _)
     |bool b=>cases (show u=CB b from ru);exact PySem.P.repr_of_bool (fin _ _)
     |int i=>obtain⟨t',z⟩:=(show ∃t,u=Fi i t from ru);cases z;exact PySem.P.repr_of_int (by simpa [zj,yI,Val.d,PyData.showable] using S.sh) (fin _ _)
     |str x=>obtain⟨t',z⟩:=(show ∃t,u=DL x t from ru);cases z;exact PySem.P.repr_of_str (fin _ _) S.ln
     |tup _ _ _=>exact fr _ ru
     |lst _ _ _=>exact fr _ ru
     |dct0 _ _=>exact fr _ ru
     |ref _ _=>exact fr _ ru
     |ctup _=>exact fr _ ru
     |scr _=>exact fr _ ru
     |fn _=>exact fr _ ru
     |ty _=>exact absurd hc.1 (by simp[zj,yI,Val.isR])
     |dref _ _=>exact fr _ ru
   . exact w.elim
 . exact w.elim
theorem fh(hc:X.calm=true):L2.yJ X (.builtin "max") (rMc X.K X.mg (blt .max m)):=by
 intro pins s σ H xs us Q I r h
 obtain⟨ρ,t,vs,hr,rv,w⟩:=h
 simp only[blt]at w
 split at w
 . obtain⟨x,y,rfl,rx,ry⟩:=bW rv
   cases rx;cases ry
   exact L2.iO hc pins s σ H _ us Q I r ⟨_,_,rfl,zM hr (.int _) w⟩
 . split at w
   . rename_i ns en
     split at w
     . rename_i hn
       obtain⟨x,rfl,rx⟩:=uu rv
       cases rx with
       |tup n e q=>
        rw[q.rk en]at e
        exact L2.iQ hc pins s σ H _ us Q I r ⟨_,ns,rfl,.of e,hn,zM hr (.int _) w⟩
     . exact w.elim
   . exact w.elim
 . split at w
   . rename_i e
     split at w
     . rename_i ns en
       split at w
       . rename_i hn
         obtain⟨x,rfl,rx⟩:=uu rv
         obtain⟨p,ys,rfl,hq,q⟩:=wV hr rx e
         rw[q.rk en]at hq
         exact L2.iP hc pins s σ H _ us Q I r ⟨p,ns,rfl,.of hq,hn,zM hr (.int _) w⟩
       . exact w.elim
     . exact w.elim
   . exact w.elim
 . exact w.elim
theorem fj(hc:X.calm=true):L2.yJ X (.builtin "min") (rMc X.K X.mg (blt .min m)):=by
 intro pins s σ H xs us Q I r h
 obtain⟨ρ,t,vs,hr,rv,w⟩:=h
 simp only[blt]at w
 split at w
 . obtain⟨x,y,rfl,rx,ry⟩:=bW rv
   cases rx;cases ry
   exact L2.iR hc pins s σ H _ us Q I r ⟨_,_,rfl,zM hr (.int _) w⟩
 . split at w
   . rename_i ns en
     split at w
     . rename_i hn
       obtain⟨x,rfl,rx⟩:=uu rv
       cases rx with
       |tup n e q=>
        rw[q.rk en]at e
        exact L2.lR hc pins s σ H _ us Q I r ⟨_,ns,rfl,.of e,hn,zM hr (.int _) w⟩
     . exact w.elim
   . exact w.elim
 . split at w
   . rename_i e
     split at w
     . rename_i ns en
       split at w
       . rename_i hn
         obtain⟨x,rfl,rx⟩:=uu rv
         obtain⟨p,ys,rfl,hq,q⟩:=wV hr rx e
         rw[q.rk en]at hq
         exact L2.iS hc pins s σ H _ us Q I r ⟨p,ns,rfl,.of hq,hn,zM hr (.int _) w⟩
       . exact w.elim
     . exact w.elim
   . exact w.elim
 . exact w.elim
theorem fZ:L2.yJ X (.type "int") (rMc X.K X.mg (blt .int m)):=by
 intro pins s σ H xs us Q I r h
 obtain⟨ρ,t,vs,hr,rv,w⟩:=h
 simp only[blt]at w
 split at w
 . obtain⟨x,rfl,rx⟩:=uu rv
   cases rx
   exact L2.qw pins s σ H _ us Q I r (.inl ⟨_,rfl,zM hr (.int _) w⟩)
 . obtain⟨x,rfl,rx⟩:=uu rv
   cases rx
   exact L2.qw pins s σ H _ us Q I r (.inr ⟨_,rfl,zM hr (.int _) w⟩)
 . exact w.elim
theorem rN:L2.yJ X (.builtin "isinstance") (rMc X.K X.mg (blt .isi m)):=by
 intro pins s σ H xs us Q I r h
 obtain⟨ρ,t,vs,hr,rv,w⟩:=h
 simp only[blt]at w
 split at w
 . split at w
   . rename_i ea ec
     obtain⟨x,y,rfl,rx,ry⟩:=bW rv
     cases ry
     obtain⟨e1,e2⟩:=U9 ec
     subst e1
     exact L2.rN pins s σ H _ us Q I r ⟨_,_,_,_,rfl,Sx hr rx ea,L2.Wx X.K _ _ e2,zM hr (.bool _) w⟩
   . exact w.elim
 . exact w.elim
theorem ints_map:∀{a:List Val} {z:List Int},intsOf a=some z->a=z.map .int
 |[],_,h=>by cases h;rfl
 |v::vs,z,h=>by
  cases v with
  |int i=>
   obtain⟨n,h1,rfl⟩:=A6.mp (show (intsOf vs).map (i::·)=some z from h)
   rw[ints_map h1];rfl
  |_=>cases h
theorem aK{K:KF}{mg:Str->Option Value}{ρ:Own}{H:L2.Hp}{tx:Str}:∀{vs:List Val} {xs:List L2.V} {zs:List (List Int)},RDs K mg ρ H vs xs->pY tx vs=some zs->L2.aa K H tx xs zs/\vs=zs.map (tpS tx)
 |_,_,_,.nil,h=>by cases h;exact⟨⟨rfl,fun i z e=>by simp at e⟩,rfl⟩
 |_,_,_,.cons (v:=v) (x:=x) (vs:=vs) (xs:=xs) r rs,h=>by
  unfold pY at h
  split at h
  . rename_i hv;cases hv
  . rename_i y a ws hv
    cases hv
    split at h
    . rename_i hy
      subst hy
      split at h
      . rename_i z zs' h1 h2
        cases h
        obtain⟨⟨e2,e3⟩,e4⟩:=aK rs h2
        refine⟨⟨by rw[Ar,Ar,e2],fun i z' hz=>?_⟩,by rw[AJ,<-e4,ints_map h1];rfl⟩
        cases i with
        |zero=>
         simp at hz;subst hz
         cases r with
         |tup n e q=>
          cases q with
          |cons q1 q2=>
           cases q1 with
           |str=>exact⟨_,rfl,by rw[q2.rk h1]at e;exact .of e⟩
        |succ i=>
         simp only[List.getElem?_cons_succ]at hz ⊢
         exact e3 i z' hz
      . cases h
    . cases h
  . cases h
theorem lQ(hc:X.calm=true)(hr0:L2.yu k X.A):L2.yJ X (.builtin "min") (rMc X.K X.mg (blt .minS m)):=by
 intro pins s σ H xs us Q I r h
 obtain⟨ρ,t,vs,hr,rv,w⟩:=h
 simp only[blt]at w
 split at w
 . split at w
   . rename_i e
     split at w
     . rename_i zs ez
       split at w
       . rename_i hz
         obtain⟨x,rfl,rx⟩:=uu rv
         obtain⟨p,ys,rfl,hq,q⟩:=wV hr rx e
         obtain⟨hs,hv⟩:=aK q ez
         refine L2.iT hc hr0 pins s σ H _ us Q I r ⟨p,ys,zs,rfl,.of hq,hs,hz,fun i hi=>?_⟩
         generalize jg _=tx at *
         subst hv
         obtain⟨y,h1,h2⟩:=q.get (show (zs.map (tpS tx))[i]?=some (tpS tx (L2.oY zs)) by rw[AQ,hi];rfl)
         rw[Aw,h1]
         exact zM hr h2 w
       . exact w.elim
     . exact w.elim
   . exact w.elim
 . exact w.elim
noncomputable def okF:Bf->Bool
 |.any|.list|.sorted|.sum|.divmod|.str|.sortedI|.minT|.sortedR=>false
 |_=>true
theorem aj(hc:X.calm=true)(hr0:L2.yu k X.A):∀(f:Bf) (m:Bool),okF f=true->L2.yJ X f.val (rMc X.K X.mg (blt f m))
 |.len,_,_=>fg
 |.all,_,_=>rM hc
 |.any,_,h=>by cases h
 |.tuple,_,_=>lS
 |.list,_,h=>by cases h
 |.sorted,_,h=>by cases h
 |.repr,_,_=>fk hr0
 |.max,_,_=>fh hc
 |.min,_,_=>fj hc
 |.sum,_,h=>by cases h
 |.int,_,_=>fZ
 |.isi,_,_=>rN
 |.divmod,_,h=>by cases h
 |.str,_,h=>by cases h
 |.sortedI,_,h=>by cases h
 |.sortedR,_,h=>by cases h
 |.minT,_,h=>by cases h
 |.minS,_,_=>lQ hc hr0
end
end M
end
section
namespace M
open PySem
noncomputable def Out.isOk{α:Type}:Out α->Bool
 |.ok _ _=>true
 |.exc _ _ _|.stuck=>false
theorem zF{α:Type}{o:Out α}(h:o.isOk=false)(v:α)(s:Sto):o≠.ok v s:=fun e=>by subst e;cases h
noncomputable def plain:Expr->Bool
 |.Starred ..|.Set ..|.Slice ..|.SetComp ..=>false
 |_=>true
theorem zV{e:Expr}(h:plain e=true):L2.noStar e=true:=by cases e<;>first|rfl|cases h
theorem wF{op:CmpOp}{e:Expr}(h:plain e=true):Dy op e=false:=by cases e<;>first|rfl|cases h
theorem bP{e:Expr}(h:plain e=true):L2.jH e:=by
 intro o i
 cases e<;>first|rfl|cases h
theorem w9{e:Expr}{env:BJ}(h:plain e=true)(x:Value):CT e env x=pure x:=by cases e<;>first|rfl|cases h
noncomputable def oh:Expr->Bool
 |.Call (.Name _ _) [] [] _=>false
 |_=>true
theorem sW{o:Expr}{name:Str}{env:BJ}(h:oh o=true):DB o name env (eval o env)=eval o env:=by
 unfold DB
 split
 . cases h
 . rfl
noncomputable def plainT:Expr->Bool
 |.UnaryOp .Not _ _|.BoolOp ..|.IfExp ..|.Compare ..=>false
 |_=>true
theorem pO{e:Expr}{env:BJ}(h:plainT e=true)(whole:Sem Value):isTrue e env whole=(do let v <-whole;standAt e.pos;holding [v] (truthy v)):=by
 cases e with
 |UnaryOp op a p=>cases op<;>first|rfl|cases h
 |_=>first|rfl|cases h
noncomputable def zg:List Expr->Bool
 |[]=>true
 |e::es=>plain e&&zg es
theorem yw:∀{es:List Expr} {pos:Pos} {env:BJ},zg es=true->(backTo pos (AM es env)).any (·.1)=false
 |[],_,_,_=>rfl
 |e::es,pos,env,h=>by
  rw[zg,Aa]at h
  rw[L2.zd (zV h.1)]
  show (false||(backTo pos (AM es env)).any (·.1))=false
  rw[yw h.2];rfl
section
variable {K:KF}{mg:Str->Option Value}{env:Env}{s s1:Sto}{ρ ρ':Own}{H H':L2.Hp}
theorem ym.mono{α β:Type}{R:Own->L2.Hp->α->β->Prop}{o:Out α}{Q:β->L2.Hp->Prop}(w:ym K mg R ρ H o Q)(x:Ext ρ H ρ' H')(h:HR K mg ρ' s1 H'):ym K mg R ρ' H' o Q:=by
 cases o with
 |ok v s'=>exact fun ρ2 y H2 x2 h2 r2=>w ρ2 y H2 (x.trans h x2) h2 r2
 |_=>exact w
end
section
variable {X:L2.Cx}{env:Env}{s:Sto}{E a b c:Expr}
theorem zJ{o:Out Val}(h:∀v s',o≠.ok v s'):L2.PE X E (tV X.K X.mg env s o):=yO fun _ _ _=>Sr h
theorem un1{o:Out Val}{r:L2.V->L2.Hp->L2.VK->Prop}{g:Val->Sto->Out Val}(h:L2.PE X a (tV X.K X.mg env s o))(rule:∀ta,L2.PE X a ta->L2.PE X E (L2.tUn r ta))
 (op:∀ρ H s1 v x Q,HR X.K X.mg ρ s1 H->RD X.K X.mg ρ H v x->ym X.K X.mg (RD X.K X.mg) ρ H (g v s1) Q->r x H Q):L2.PE X E (tV X.K X.mg env s (o.bind g)):=by
 cases o with
 |ok v s1=>exact zb (rule _ h) fun σ H Q ⟨ρ,hr,er,w⟩=>⟨ρ,hr,er,fun ρ1 x H1 x1 hr1 r1=>op ρ1 H1 s1 v x Q hr1 r1 (w.mono x1 hr1)⟩
 |exc _ _ _=>exact zJ (zF rfl)
 |stuck=>exact zJ (zF rfl)
theorem Xq{o:Out Val}{f2:Sto->Out Val}{g:Val->Val->Sto->Out Val}(h1:L2.PE X a (tV X.K X.mg env s o))(h2:∀s1,L2.PE X b (tV X.K X.mg env s1 (f2 s1)))
 (rule:∀ta tb,L2.PE X a ta->L2.PE X b tb->L2.PE X E (L2.tOp (rM2 X.K X.mg g) ta tb)):L2.PE X E (tV X.K X.mg env s (o.bind fun x s1=>(f2 s1).bind fun y s2=>g x y s2)):=by
 cases o with
 |ok v s1=>
  show L2.PE X E (tV X.K X.mg env s ((f2 s1).bind fun y s2=>g v y s2))
  have h2':=h2 s1
  cases hb:f2 s1 with
  |ok w s2=>
   rw[hb]at h2'
   exact zb (rule _ _ h1 h2') fun σ H Q ⟨ρ,hr,er,wt⟩=>⟨ρ,hr,er,fun ρ1 x H1 x1 hr1 r1=>⟨ρ1,hr1,er.mono x1,fun ρ2 y H2 x2 hr2 r2=>⟨ρ2,s2,v,w,hr2,r1.mono x2,r2,wt.mono (x1.trans hr1 x2) hr2⟩⟩⟩
  |exc _ _ _=>exact zJ (zF rfl)
  |stuck=>exact zJ (zF rfl)
 |exc _ _ _=>exact zJ (zF rfl)
 |stuck=>exact zJ (zF rfl)
theorem dX{op op':Cop}{o:Out Val}{f2 f3:Sto->Out Val}{k:Nat}{pos:Pos}(k1:okC op=true)(k2:okC op'=true)(hr0:L2.yu k X.A)(h1:L2.PE X a (tV X.K X.mg env s o))(h2:∀s1,L2.PE X b (tV X.K X.mg env s1 (f2 s1)))(h3:∀s1,L2.PE X c (tV X.K X.mg env s1 (f3 s1)))(hm:plain c=true) :
 L2.PE X (.Compare a [op.op,op'.op] [b,c] pos) (tV X.K X.mg env s (o.bind fun x s1=>(f2 s1).bind fun y s2=>(zQ op x y s2).bind fun r s3=>match r with
  |.bool true=>(f3 s3).bind fun z s4=>zQ op' y z s4
  |.bool false=>.ok (.bool false) s3
  |_=>.stuck)):=by
 cases o with
 |ok v s1=>
  have h2':=h2 s1
  show L2.PE X _ (tV X.K X.mg env s ((f2 s1).bind _))
  cases hb:f2 s1 with
  |ok w s2=>
   rw[hb]at h2'
   show L2.PE X _ (tV X.K X.mg env s ((zQ op v w s2).bind _))
   cases hc:zQ op v w s2 with
   |ok r s3=>
    cases r with
    |bool t=>
     have h3':=h3 s3
     have rule:=L2.bF (pos:=pos) (uH hr0 op k1) (uH hr0 op' k2) h1 h2' h3' (show G6 [op.op,op'.op] [b,c]=false from wF hm)
     refine zb rule fun σ H Q ⟨ρ,hr,er,wt⟩=>⟨ρ,hr,er,fun ρ1 x H1 x1 hr1 r1=>⟨ρ1,hr1,er.mono x1,fun ρ2 y H2 x2 hr2 r2=>⟨ρ2,s2,v,w,hr2,r1.mono x2,r2,?_⟩⟩⟩
     rw[hc]
     intro ρ3 z H3 x3 hr3 r3
     cases r3
     refine⟨t,rfl,?_⟩
     have xx:=(x1.trans hr1 x2).trans hr2 x3
     have wt':=wt.mono xx hr3
     cases t with
     |true=>
      rw[if_pos rfl]
      refine⟨ρ3,hr3,er.mono xx,?_⟩
      have wt2:ym X.K X.mg (RD X.K X.mg) ρ3 H3 ((f3 s3).bind fun z s4=>zQ op' w z s4) Q:=wt'
      cases hz:f3 s3 with
      |ok u s4=>
       rw[hz]at wt2
       exact fun ρ4 q H4 x4 hr4 r4=>⟨ρ4,s4,w,u,hr4,(r2.mono x3).mono x4,r4,wt2.mono x4 hr4⟩
      |exc _ _ _=>rw[hz]at wt2;exact wt2
      |stuck=>rw[hz]at wt2;exact wt2
     |false=>
      rw[if_neg Aj]
      exact zM hr3 (.bool false) wt'
    |_=>exact zJ (zF rfl)
   |exc _ _ _=>exact zJ (zF rfl)
   |stuck=>exact zJ (zF rfl)
  |exc _ _ _=>exact zJ (zF rfl)
  |stuck=>exact zJ (zF rfl)
 |exc _ _ _=>exact zJ (zF rfl)
 |stuck=>exact zJ (zF rfl)
theorem Wg{o:Out Val}{pos:Pos}(h:L2.PE X a (tV X.K X.mg env s o)):L2.PE X (.UnaryOp .USub a pos) (tV X.K X.mg env s (o.bind fun x s1=>match x with|.int i=>.ok (.int (-i)) s1|_=>.stuck)):=by
 refine un1 h (fun ta q=>L2.Tx L2.UH q) fun ρ H s1 v x Q hr r w=>?_
 cases r with
 |int i=>exact⟨i,rfl,zM hr (.int _) w⟩
 |_=>exact w.elim
theorem Wh{o:Out Val}{pos:Pos}(h:L2.PE X a (tV X.K X.mg env s o)):L2.PE X (.UnaryOp .Not a pos) (tV X.K X.mg env s (o.bind fun x s1=>match x with|.bool b=>.ok (.bool !b) s1|_=>.stuck)):=by
 refine un1 (r:=fun x H Q=>∃c,x=.bl c/\Q (.bl (!c)) H) h (fun ta q=>L2.Vc q) fun ρ H s1 v x Q hr r w=>?_
 cases r with
 |bool i=>exact⟨i,rfl,zM hr (.bool _) w⟩
 |_=>exact w.elim
theorem dU{rest:List Expr}{o:Out Val}{f2:Sto->Out Val}{pos:Pos}(h1:L2.PE X a (tV X.K X.mg env s o))(h2:∀s1,L2.PE X (.BoolOp .And (b::rest) pos) (tV X.K X.mg env s1 (f2 s1))) :
 L2.PE X (.BoolOp .And (a::b::rest) pos) (tV X.K X.mg env s (o.bind fun x s1=>match x with|.bool true=>f2 s1|.bool false=>.ok (.bool false) s1|_=>.stuck)):=by
 cases o with
 |ok v s1=>
  refine zb (L2.VX h1 (h2 s1)) fun σ H Q ⟨ρ,hr,er,wt⟩=>⟨ρ,hr,er,fun ρ1 x H1 x1 hr1 r1=>?_⟩
  have wt':=wt.mono x1 hr1
  cases r1 with
  |bool t=>
   refine⟨t,rfl,?_⟩
   cases t with
   |true=>exact L2.oW (⟨ρ1,hr1,er.mono x1,wt'⟩)
   |false=>exact L2.sR (zM hr1 (.bool _) wt')
  |_=>exact wt'.elim
 |exc _ _ _=>exact zJ (zF rfl)
 |stuck=>exact zJ (zF rfl)
theorem U2{rest:List Expr}{o:Out Val}{f2:Sto->Out Val}{pos:Pos}(h1:L2.PE X a (tV X.K X.mg env s o))(h2:∀s1,L2.PE X (.BoolOp .Or (b::rest) pos) (tV X.K X.mg env s1 (f2 s1))) :
 L2.PE X (.BoolOp .Or (a::b::rest) pos) (tV X.K X.mg env s (o.bind fun x s1=>match truth s1 x with|some false=>f2 s1|some true=>.ok x s1|Ab=>.stuck)):=by
 cases o with
 |ok v s1=>
  refine zb (L2.Vd h1 (h2 s1)) fun σ H Q ⟨ρ,hr,er,wt⟩=>⟨ρ,hr,er,fun ρ1 x H1 x1 hr1 r1=>?_⟩
  have wt':ym X.K X.mg (RD X.K X.mg) ρ1 H1 (match truth s1 v with|some false=>f2 s1|some true=>.ok v s1|Ab=>.stuck) Q:=wt.mono x1 hr1
  cases ht:truth s1 v with
  |none=>rw[ht]at wt';exact wt'.elim
  |some t=>
   rw[ht]at wt'
   refine⟨t,aL hr1 r1 ht,?_⟩
   cases t with
   |true=>exact L2.oW (zM hr1 r1 wt')
   |false=>exact L2.sR (⟨ρ1,hr1,er.mono x1,wt'⟩)
 |exc _ _ _=>exact zJ (zF rfl)
 |stuck=>exact zJ (zF rfl)
theorem Wf{o:Out Bool}{f2 f3:Sto->Out Val}{pos:Pos}(h1:L2.PT X c (tT X.K X.mg env s o))(h2:∀s1,L2.PE X a (tV X.K X.mg env s1 (f2 s1)))(h3:∀s1,L2.PE X b (tV X.K X.mg env s1 (f3 s1))) :
 L2.PE X (.IfExp c a b pos) (tV X.K X.mg env s (o.bind fun t s1=>if t then f2 s1 else f3 s1)):=by
 cases o with
 |ok v s1=>
  refine zb (L2.mW h1 (h2 s1) (h3 s1)) fun σ H Q ⟨ρ,hr,er,wt⟩=>⟨ρ,hr,er,fun ρ1 x H1 x1 hr1 r1=>?_⟩
  have wt':=wt.mono x1 hr1
  cases r1
  cases v with
  |true=>exact L2.oW (⟨ρ1,hr1,er.mono x1,wt'⟩)
  |false=>exact L2.sR (⟨ρ1,hr1,er.mono x1,wt'⟩)
 |exc _ _ _=>exact zJ (zF rfl)
 |stuck=>exact zJ (zF rfl)
theorem um{es:List Expr}{o:Out (List Val)}(h:∀v s',o≠.ok v s'):L2.PA X es (tVs X.K X.mg env s o):=Tr fun _ _ _=>V4 h
theorem jm:L2.PA X [] (tVs X.K X.mg env s (.ok [] s)):=bA L2.yr fun σ H Q ⟨ρ,hr,er,wt⟩=>wt ρ [] H Ext.refl hr .nil
theorem mC{es:List Expr}{o:Out Val}{f2:Sto->Out (List Val)}(hp:plain a=true)(h1:L2.PE X a (tV X.K X.mg env s o))(h2:∀s1,L2.PA X es (tVs X.K X.mg env s1 (f2 s1))) :
 L2.PA X (a::es) (tVs X.K X.mg env s (o.bind fun v s1=>(f2 s1).bind fun vs s2=>.ok (v::vs) s2)):=by
 cases o with
 |ok v s1=>
  have h2':=h2 s1
  show L2.PA X _ (tVs X.K X.mg env s ((f2 s1).bind _))
  cases hb:f2 s1 with
  |ok ws s2=>
   rw[hb]at h2'
   exact bA (L2.pac h1 h2' (zV hp)) fun σ H Q ⟨ρ,hr,er,wt⟩=>⟨ρ,hr,er,fun ρ1 x H1 x1 hr1 r1=>⟨ρ1,hr1,er.mono x1,fun ρ2 y H2 x2 hr2 r2=>wt ρ2 _ H2 (x1.trans hr1 x2) hr2 (.cons (r1.mono x2) r2)⟩⟩
  |exc _ _ _=>exact um (zF rfl)
  |stuck=>exact um (zF rfl)
 |exc _ _ _=>exact um (zF rfl)
 |stuck=>exact um (zF rfl)
theorem la{es:List Expr}{o:Out (List Val)}{k:Nat}{pos:Pos}(h:L2.PA X es (tVs X.K X.mg env s o)):L2.PE X (.Tuple es k pos) (tV X.K X.mg env s (o.bind fun vs s1=>if vs.length<=zU then .ok (.tup vs) s1 else .stuck)):=by
 cases o with
 |ok vs s1=>
  refine zb (L2.Vf h) fun σ H Q ⟨ρ,hr,er,wt⟩=>⟨ρ,hr,er,fun ρ1 xs H1 x1 hr1 r1=>?_⟩
  have wt':ym X.K X.mg (RD X.K X.mg) ρ1 H1 (if vs.length<=zU then .ok (.tup vs) s1 else .stuck) Q:=wt.mono x1 hr1
  by_cases hz:vs.length<=zU
  . rw[if_pos hz]at wt'
    exact⟨by rw[<-r1.length,<-yo];exact hz,js hr1 r1 wt'⟩
  . rw[if_neg hz]at wt';exact wt'.elim
 |exc _ _ _=>exact zJ (zF rfl)
 |stuck=>exact zJ (zF rfl)
theorem dZ{es:List Expr}{o:Out (List Val)}{m:Bool}{pos:Pos}(h:L2.PA X es (tVs X.K X.mg env s o)):L2.PE X (.List es pos) (tV X.K X.mg env s (o.bind fun vs s1=>if vs.length<=zU then newList m vs s1 else .stuck)):=by
 cases o with
 |ok vs s1=>
  refine zb (L2.qL h) fun σ H Q ⟨ρ,hr,er,wt⟩=>⟨ρ,hr,er,fun ρ1 xs H1 x1 hr1 r1=>?_⟩
  have wt':ym X.K X.mg (RD X.K X.mg) ρ1 H1 (if vs.length<=zU then newList m vs s1 else .stuck) Q:=wt.mono x1 hr1
  by_cases hz:vs.length<=zU
  . rw[if_pos hz]at wt'
    exact⟨by rw[<-r1.length,<-yo];exact hz,uh hr1 r1 wt'⟩
  . rw[if_neg hz]at wt';exact wt'.elim
 |exc _ _ _=>exact zJ (zF rfl)
 |stuck=>exact zJ (zF rfl)
theorem U1{es:List Expr}{o:Out (List Val)}{g:List Val->Sto->Out Val}(h:L2.PA X es (tVs X.K X.mg env s o))(rule:∀t,L2.PA X es t->L2.PE X E (L2.tCB (rMc X.K X.mg g) t)):L2.PE X E (tV X.K X.mg env s (o.bind g)):=by
 cases o with
 |ok vs s1=>exact zb (rule _ h) fun σ H Q ⟨ρ,hr,er,wt⟩=>⟨ρ,hr,er,fun ρ1 xs H1 x1 hr1 r1=>⟨ρ1,s1,vs,hr1,r1,wt.mono x1 hr1⟩⟩
 |exc _ _ _=>exact zJ (zF rfl)
 |stuck=>exact zJ (zF rfl)
theorem We{es:List Expr}{o:Out (List Val)}{f:Bf}{m:Bool}{k:Nat}{p pos:Pos}(k1:okF f=true)(hc:X.calm=true)(hr0:L2.yu k X.A)(hg:L2.Gl X f.nm)(hm:X.mg f.nm=none)(hp:zg (a::es)=true)(h:L2.PA X (a::es) (tVs X.K X.mg env s o)) :
 L2.PE X (.Call (.Name f.nm p) (a::es) [] pos) (tV X.K X.mg env s (o.bind (blt f m))):=by
 rw[zg,Aa]at hp
 refine U1 h fun t ht=>?_
 have hb:=aj hc hr0 f m k1
 have bo:=f.boot
 have st:=L2.zd (es:=es) (env:=X.env) (zV hp.1)
 have hn:=yw (pos:=pos) (env:=X.env) hp.2
 cases f with
 |tuple=>exact L2.yp hb hg hm bo ht (by decide) (by decide) st hn
 |list=>exact L2.yp hb hg hm bo ht (by decide) (by decide) st hn
 |int=>exact L2.yp hb hg hm bo ht (by decide) (by decide) st hn
 |str=>exact L2.yp hb hg hm bo ht (by decide) (by decide) st hn
 |_=>exact L2.vW hb hg hm bo ht (by decide) (by decide) st hn
theorem yA{o:Out Bool}(h:∀v s',o≠.ok v s'):L2.PT X E (tT X.K X.mg env s o):=j7 fun _ _ _=>Xd h
theorem Wo{o:Out Val}(hp:plainT a=true)(h:L2.PE X a (tV X.K X.mg env s o)):L2.PT X a (tT X.K X.mg env s o.truth):=by
 cases o with
 |ok v s1=>
  refine tU (L2.mh h (pO hp)) fun σ H Q ⟨ρ,hr,er,wt⟩=>⟨ρ,hr,er,fun ρ1 x H1 x1 hr1 r1=>?_⟩
  have wt':=wt.mono x1 hr1
  simp only[Out.truth,zX]at wt'
  cases ht:truth s1 v with
  |none=>rw[ht]at wt';exact wt'.elim
  |some b=>rw[ht]at wt';exact⟨b,aL hr1 r1 ht,wt' _ _ _ Ext.refl hr1 rfl⟩
 |exc _ _ _=>exact yA (zF rfl)
 |stuck=>exact yA (zF rfl)
theorem Wn{o:Out Bool}{pos:Pos}(h:L2.PT X a (tT X.K X.mg env s o)):L2.PT X (.UnaryOp .Not a pos) (tT X.K X.mg env s (o.bind fun b s1=>.ok (!b) s1)):=by
 cases o with
 |ok v s1=>exact tU (L2.kJ h) fun σ H Q ⟨ρ,hr,er,wt⟩=>⟨ρ,hr,er,fun ρ1 x H1 x1 hr1 r1=>by cases r1;exact wt _ _ _ x1 hr1 rfl⟩
 |exc _ _ _=>exact yA (zF rfl)
 |stuck=>exact yA (zF rfl)
theorem ur{o:Out Bool}(h:∀v s',o≠.ok v s'):L2.PW X E (tT X.K X.mg env s o):=T5 fun _ _ _=>Xd h
theorem lb{pos:Pos}:L2.PW X (.BoolOp .And [] pos) (tT X.K X.mg env s (.ok true s)):=fun wh pins sh σ H Q I ⟨ρ,hr,er,wt⟩=>PyProof.Rows.isTrue_and_nil ⟨H,I,wt _ _ _ Ext.refl hr rfl⟩
theorem i7{pos:Pos}:L2.PW X (.BoolOp .Or [] pos) (tT X.K X.mg env s (.ok false s)):=fun wh pins sh σ H Q I ⟨ρ,hr,er,wt⟩=>PyProof.Rows.isTrue_or_nil ⟨H,I,wt _ _ _ Ext.refl hr rfl⟩
theorem dk{rest:List Expr}{o:Out Bool}{f2:Sto->Out Bool}{pos:Pos}(h1:L2.PT X a (tT X.K X.mg env s o))(h2:∀s1,L2.PW X (.BoolOp .And rest pos) (tT X.K X.mg env s1 (f2 s1))) :
 L2.PW X (.BoolOp .And (a::rest) pos) (tT X.K X.mg env s (o.bind fun b s1=>if b then f2 s1 else .ok false s1)):=by
 cases o with
 |ok v s1=>
  intro wh pins sh σ H Q I h
  obtain⟨ρ,hr,er,wt⟩:=h
  refine PyProof.Rows.isTrue_and (L2.thn (h1 pins sh σ H (fun c H1=>if c=true then tT X.K X.mg env s1 (f2 s1) σ H1 Q else Q false H1) I ⟨ρ,hr,er,fun ρ1 x H1 x1 hr1 r1=>?_⟩) fun c s' ⟨H1,I1,q1⟩=>?_)
  . have wt':=wt.mono x1 hr1
    cases r1
    cases v with
    |true=>exact L2.oW (⟨ρ1,hr1,er.mono x1,wt'⟩)
    |false=>exact L2.sR (wt' _ _ _ Ext.refl hr1 rfl)
  . cases c with
    |true=>exact h2 s1 wh pins s' σ H1 Q I1 q1
    |false=>exact⟨H1,I1,q1⟩
 |exc _ _ _=>exact ur (zF rfl)
 |stuck=>exact ur (zF rfl)
theorem XG{rest:List Expr}{o:Out Bool}{f2:Sto->Out Bool}{pos:Pos}(h1:L2.PT X a (tT X.K X.mg env s o))(h2:∀s1,L2.PW X (.BoolOp .Or rest pos) (tT X.K X.mg env s1 (f2 s1))) :
 L2.PW X (.BoolOp .Or (a::rest) pos) (tT X.K X.mg env s (o.bind fun b s1=>if b then .ok true s1 else f2 s1)):=by
 cases o with
 |ok v s1=>
  intro wh pins sh σ H Q I h
  obtain⟨ρ,hr,er,wt⟩:=h
  refine PyProof.Rows.isTrue_or (L2.thn (h1 pins sh σ H (fun c H1=>if c=true then Q true H1 else tT X.K X.mg env s1 (f2 s1) σ H1 Q) I ⟨ρ,hr,er,fun ρ1 x H1 x1 hr1 r1=>?_⟩) fun c s' ⟨H1,I1,q1⟩=>?_)
  . have wt':=wt.mono x1 hr1
    cases r1
    cases v with
    |true=>exact L2.oW (wt' _ _ _ Ext.refl hr1 rfl)
    |false=>exact L2.sR (⟨ρ1,hr1,er.mono x1,wt'⟩)
  . cases c with
    |true=>exact⟨H1,I1,q1⟩
    |false=>exact h2 s1 wh pins s' σ H1 Q I1 q1
 |exc _ _ _=>exact ur (zF rfl)
 |stuck=>exact ur (zF rfl)
end
end M
end
section
namespace M
open PySem
section
variable {X:L2.Cx}{env:Env}{s:Sto}{E a b c:Expr}
theorem bQ{e:Option Expr}{t t':L2.TO}(h:L2.PO X e t)(i:∀σ H Q,t' σ H Q->t σ H Q):L2.PO X e t':=fun pins s σ H Q I q=>h pins s σ H Q I (i σ H Q q)
theorem Sk{o:Out (Option Int)}(h:∀v s',o≠.ok v s'){σ:L2.St}{H:L2.Hp}{Q:Option Int->L2.Hp->Prop}:¬tO X.K X.mg env s o σ H Q:=by
 rintro ⟨ρ,_,_,w⟩
 cases o with
 |ok v s'=>exact h v s' rfl
 |_=>exact w
theorem ma{e:Option Expr}{o:Out (Option Int)}(h:∀v s',o≠.ok v s'):L2.PO X e (tO X.K X.mg env s o):=fun pins sh σ H Q I q=>(Sk h q).elim
theorem U5:L2.PO X none (tO X.K X.mg env s (.ok none s)):=bQ L2.YF fun σ H Q ⟨ρ,hr,er,wt⟩=>wt _ _ _ Ext.refl hr rfl
theorem Wj{o:Out Val}(h:L2.PE X a (tV X.K X.mg env s o)):L2.PO X (some a) (tO X.K X.mg env s (o.bind fun v s1=>match v with|.int i=>.ok (some i) s1|_=>.stuck)):=by
 cases o with
 |ok v s1=>
  refine bQ (L2.YG h) fun σ H Q ⟨ρ,hr,er,wt⟩=>⟨ρ,hr,er,fun ρ1 x H1 x1 hr1 r1=>?_⟩
  have wt':=wt.mono x1 hr1
  cases r1 with
  |int i=>exact⟨i,rfl,wt' _ _ _ Ext.refl hr1 rfl⟩
  |_=>exact wt'.elim
 |exc _ _ _=>exact ma (zF rfl)
 |stuck=>exact ma (zF rfl)
noncomputable def rMs(K:KF)(mg:Str->Option Value)(m:Bool):L2.V->Option Int->Option Int->L2.Hp->L2.VK->Prop:=fun x lo hi H Q=>∃ρ s v,HR K mg ρ s H/\RD K mg ρ H v x/\ym K mg (RD K mg) ρ H (tq m v lo hi none s) Q
theorem Sa(m:Bool):L2.SlR X (rMs X.K X.mg m):=by
 intro pins s σ H x v vl vu lo hi sl Q I rx hs pl pu h
 obtain⟨ρ,t,w,hr,rw',wt⟩:=h
 simp only[tq]at wt
 split at wt
 . cases rw' with
   |tup n e q=>exact L2.YQ pins s σ H _ v vl vu lo hi sl Q I rx hs pl pu ⟨_,_,rfl,e,uf hr (q.cut lo hi) wt⟩
 . rename_i heq
   cases heq
 . split at wt
   . rename_i e
     obtain⟨p,xs,rfl,hq,q⟩:=wV hr rw' e
     exact L2.YO pins s σ H _ v vl vu lo hi sl Q I rx hs pl pu ⟨_,_,rfl,.of hq,uh hr (q.cut lo hi) wt⟩
   . exact wt.elim
 . rename_i heq
   cases heq
theorem U3{lo hi st:Option Expr}{o:Out Val}{f2 f3 f4:Sto->Out (Option Int)}{m:Bool}{p2 pos:Pos}(h1:L2.PE X a (tV X.K X.mg env s o))(h2:∀s1,L2.PO X lo (tO X.K X.mg env s1 (f2 s1)))(h3:∀s1,L2.PO X hi (tO X.K X.mg env s1 (f3 s1)))
 (h4:∀s1,L2.PO X st (tO X.K X.mg env s1 (f4 s1))) (hst:(st=none/\∀s1,f4 s1=.ok none s1)\/∃e,st=some e/\∀s1 s2,f4 s1≠.ok none s2) :
 L2.PE X (.Subscript a (.Slice lo hi st p2) pos) (tV X.K X.mg env s (o.bind fun x s1=>(f2 s1).bind fun l s2=>(f3 s2).bind fun h s3=>(f4 s3).bind fun c s4=>tq m x l h c s4)):=by
 cases o with
 |ok v s1=>
  have h2':=h2 s1
  show L2.PE X _ (tV X.K X.mg env s ((f2 s1).bind _))
  cases hl:f2 s1 with
  |ok l s2=>
   rw[hl]at h2'
   have h3':=h3 s2
   show L2.PE X _ (tV X.K X.mg env s ((f3 s2).bind _))
   cases hh:f3 s2 with
   |ok h s3=>
    rw[hh]at h3'
    have h4':=h4 s3
    show L2.PE X _ (tV X.K X.mg env s ((f4 s3).bind _))
    rcases hst with⟨rfl,e4⟩|⟨e,rfl,e4⟩
    . rw[e4 s3]
      refine zb (L2.bK (Sa m) h1 h2' h3') fun σ H Q ⟨ρ,hr,er,wt⟩=>⟨ρ,hr,er,fun ρ1 x H1 x1 hr1 r1=>⟨ρ1,hr1,er.mono x1,fun ρ2 y H2 x2 hr2 r2=>?_⟩⟩
      cases r2
      refine⟨ρ2,hr2,(er.mono x1).mono x2,fun ρ3 z H3 x3 hr3 r3=>?_⟩
      cases r3
      exact⟨ρ3,s3,v,hr3,(r1.mono x2).mono x3,wt.mono ((x1.trans hr1 x2).trans hr2 x3) hr3⟩
    . cases hc:f4 s3 with
      |ok cc s4=>
       rw[hc]at h4'
       cases cc with
       |none=>exact absurd hc (e4 s3 s4)
       |some ci=>
        by_cases hv:∃vs,v=.tup vs
        case neg=>
         refine zb (L2.kF h1 h2' h3' h4') fun σ H Q ⟨ρ,hr,er,wt⟩=>⟨ρ,hr,er,fun ρ1 x H1 x1 hr1 r1=>⟨ρ1,hr1,er.mono x1,fun ρ2 y H2 x2 hr2 r2=>?_⟩⟩
         cases r2
         refine⟨ρ2,hr2,(er.mono x1).mono x2,fun ρ3 z H3 x3 hr3 r3=>?_⟩
         cases r3
         refine⟨ρ3,hr3,((er.mono x1).mono x2).mono x3,fun ρ4 z4 H4 x4 hr4 r4=>?_⟩
         cases r4
         have wt':ym X.K X.mg (RD X.K X.mg) ρ4 H4 (tq m v l h (some ci) s4) Q:=wt.mono (((x1.trans hr1 x2).trans hr2 x3).trans hr3 x4) hr4
         have em:tq m v l h (some ci) s4=(match yN s4 v with|some vs=>if ci≠0 then newList m (L2.zw vs (L2.vR vs.length l h ci).1 ci (L2.vR vs.length l h ci).2) s4 else .stuck|Ab=>.stuck):=by
          cases v with
          |tup vs=>exact absurd ⟨vs,rfl⟩ hv
          |_=>rfl
         rw[em]at wt'
         cases hl:yN s4 v with
         |none=>rw[hl]at wt';exact wt'.elim
         |some vs=>
          rw[hl]at wt'
          dsimp only at wt'
          obtain⟨p,xs,rfl,hq,q⟩:=wV hr4 (((r1.mono x2).mono x3).mono x4) hl
          by_cases c0:ci≠0
          . have wt2:ym X.K X.mg (RD X.K X.mg) ρ4 H4 (newList m (L2.zw vs (L2.vR vs.length l h ci).1 ci (L2.vR vs.length l h ci).2) s4) Q:=by rwa [if_pos c0]at wt'
            refine⟨p,xs,ci,rfl,.of hq,rfl,c0,?_⟩
            rw[<-q.length]
            exact uh hr4 (q.zw _ _ _) wt2
          . rw[if_neg c0]at wt';exact wt'.elim
        refine zb (L2.gX h1 h2' h3' h4') fun σ H Q ⟨ρ,hr,er,wt⟩=>⟨ρ,hr,er,fun ρ1 x H1 x1 hr1 r1=>⟨ρ1,hr1,er.mono x1,fun ρ2 y H2 x2 hr2 r2=>?_⟩⟩
        cases r2
        refine⟨ρ2,hr2,(er.mono x1).mono x2,fun ρ3 z H3 x3 hr3 r3=>?_⟩
        cases r3
        refine⟨ρ3,hr3,((er.mono x1).mono x2).mono x3,fun ρ4 z4 H4 x4 hr4 r4=>?_⟩
        cases r4
        have xx:=((x1.trans hr1 x2).trans hr2 x3).trans hr3 x4
        have wt':ym X.K X.mg (RD X.K X.mg) ρ4 H4 (tq m v l h (some ci) s4) Q:=wt.mono xx hr4
        have r:=((r1.mono x2).mono x3).mono x4
        cases r with
        |tup n e q=>
         change ym X.K X.mg (RD X.K X.mg) ρ4 H4 (if ci≠0/\(L2.yT (CZ _) l h ci).2<=zU then .ok (.tup (L2.zw _ (L2.yT (CZ _) l h ci).1 ci (L2.yT (CZ _) l h ci).2)) s4 else .stuck) Q at wt'
         split at wt'
         . rename_i hz
           have hlen:=q.length
           refine⟨_,_,ci,rfl,e,rfl,hz.1,by rw[<-hlen,<-yo];exact hz.2,?_⟩
           rw[<-hlen]
           exact uf hr4 (q.zw _ _ _) wt'
         . exact wt'.elim
        |_=>obtain⟨_,e⟩:=hv;cases e
      |exc _ _ _=>exact zJ (zF rfl)
      |stuck=>exact zJ (zF rfl)
   |exc _ _ _=>exact zJ (zF rfl)
   |stuck=>exact zJ (zF rfl)
  |exc _ _ _=>exact zJ (zF rfl)
  |stuck=>exact zJ (zF rfl)
 |exc _ _ _=>exact zJ (zF rfl)
 |stuck=>exact zJ (zF rfl)
noncomputable def Mf.nm:Mf->Str
 |.count=>"count"|.append=>"append"|.extend=>"extend"|.pop=>"pop"|.index=>"index"|.join=>"join"
noncomputable def okM:Mf->Bool
 |.count|.extend|.pop|.index|.join=>false
 |_=>true
theorem da{f:Mf}{o:Out Val}{f2:Sto->Out Val}{apos cpos:Pos}(hm:okM f=true)(hs:oh a=true)(hp:plain b=true)(hline:(apos.endLine == cpos.line)=true)(h1:L2.PE X a (tV X.K X.mg env s o))(h2:∀s1,L2.PE X b (tV X.K X.mg env s1 (f2 s1))) :
 L2.PE X (.Call (.Attribute a f.nm apos) [b] [] cpos) (tV X.K X.mg env s (o.bind fun x s1=>((f2 s1).bind fun v s2=>(Out.ok [v] s2:Out (List Val))).bind fun vs s2=>xF f x vs s2)):=by
 cases o with
 |ok v s1=>
  have h2':=h2 s1
  show L2.PE X _ (tV X.K X.mg env s (((f2 s1).bind fun v s2=>(Out.ok [v] s2:Out (List Val))).bind fun vs s2=>xF f v vs s2))
  cases hb:f2 s1 with
  |ok w s2=>
   rw[hb]at h2'
   show L2.PE X _ (tV X.K X.mg env s (xF f v [w] s2))
   cases f with
   |count=>cases hm
   |append=>
    cases v with
    |ref i=>
     refine zb (L2.gU (es:=[]) h1 h2' (sW hs) (zV hp) hline) fun σ H Q ⟨ρ,hr,er,wt⟩=>⟨ρ,hr,er,fun ρ1 x H1 x1 hr1 r1=>?_⟩
     cases r1 with
     |ref e k=>
      obtain⟨xs,q⟩:=dA k
      refine⟨.inl ⟨rfl,_,.of q⟩,ρ1,hr1,er.mono x1,fun ρ2 y H2 x2 hr2 r2=>?_⟩
      have wt':ym X.K X.mg (RD X.K X.mg) ρ2 H2 (xF .append (.ref i) [w] s2) Q:=wt.mono (x1.trans hr1 x2) hr2
      simp only[xF]at wt'
      split at wt'
      . rename_i vs hv
        split at wt'
        . rename_i hz
          obtain⟨b',ys,e1,e2,q2⟩:=hr2.obj i _ hv
          have e':=x2.get e
          rw[e']at e1;cases e1
          refine⟨_,ys,y,rfl,rfl,e2,by rw[<-q2.length,<-yo];exact hz,?_⟩
          exact wt' _ _ _ (Ext.write hr2 e' e2 _) (hr2.write e' e2 (q2.append (.cons r2 .nil))) .none
        . exact wt'.elim
      . exact wt'.elim
    |_=>exact zJ (zF rfl)
   |extend=>cases hm
   |pop=>cases hm
   |index=>cases hm
   |join=>cases hm
  |exc _ _ _=>exact zJ (zF rfl)
  |stuck=>exact zJ (zF rfl)
 |exc _ _ _=>exact zJ (zF rfl)
 |stuck=>exact zJ (zF rfl)
end
noncomputable def spN(T:Tbl)(K:KF)(mg:Str->Option Value)(n:Nat)(f:Str)(ver:Nat):L2.Sp:=fun vs H Q _=>∃ρ s args,HR K mg ρ s H/\RDs K mg ρ H args vs/\ym K mg (RD K mg) ρ H (zE T n f ver args s) Q
structure Callee(T:Tbl)(n:Nat)(X:L2.Cx)(f:Str)(ver:Nat)(F:Fn):Prop where
 ex:∃fa fd,X.mg f=some (.ref fa)/\B7 X.K (.ref fa)=true/\L2.Binds X.K fd F.ps []/\L2.uP X.prog X.w X.K X.mg X.base L2.CX0 n fa fd F.ps (spN T X.K X.mg n f ver)
section
variable {X:L2.Cx}{env:Env}{s:Sto}{T:Tbl}{n ver:Nat}{f:Str}{F:Fn}
theorem dW{p pos:Pos}(C:Callee T n X f ver F)(hr0:L2.yu n X.A)(hg:L2.Gl X f)(hd:(f == ("__debug__":Str))=false):L2.PE X (.Call (.Name f p) [] [] pos) (tV X.K X.mg env s (zE T n f ver [] s)):=by
 obtain⟨fa,fd,hm,hk,hb,hf⟩:=C.ex
 exact zb (L2.mV hf hr0 hg hm hk hb .nil L2.XS hd) fun σ H Q ⟨ρ,hr,er,wt⟩=>⟨ρ,s,[],hr,.nil,wt⟩
theorem Ze{es:List Expr}{o:Out (List Val)}{p pos:Pos}(C:Callee T n X f ver F)(hr0:L2.yu n X.A)(hg:L2.Gl X f)(hd:(f == ("__debug__":Str))=false)(hp:zg es=true)(hne:es≠[])(h:L2.PA X es (tVs X.K X.mg env s o)) :
 L2.PE X (.Call (.Name f p) es [] pos) (tV X.K X.mg env s (o.bind (zE T n f ver))):=by
 obtain⟨fa,fd,hm,hk,hb,hf⟩:=C.ex
 cases o with
 |ok vs s1=>
  cases es with
  |nil=>exact absurd rfl hne
  |cons e es=>
   rw[zg,Aa]at hp
   refine zb (L2.ou hf hr0 hg hm hk hb .nil L2.XS h hd (L2.zd (zV hp.1)) (yw hp.2)) fun σ H Q ⟨ρ,hr,er,wt⟩=>⟨ρ,hr,er,fun ρ1 xs H1 x1 hr1 r1=>?_⟩
   show spN T X.K X.mg n f ver (xs++[]) H1 Q L2.E0
   rw[AZ]
   exact⟨ρ1,s1,vs,hr1,r1,wt.mono x1 hr1⟩
 |exc _ _ _=>exact zJ (zF rfl)
 |stuck=>exact zJ (zF rfl)
end
end M
end
section
namespace M
open PySem
theorem xh:∀{c:Bool} {p:Prop},(c=true->p)->cond c p True
 |true,_,h=>h rfl
 |false,_,_=>Bh
theorem rQ{c:Bool}{p:Prop}(h:cond c p True)(e:c=true):p:=by subst e;exact h
mutual
theorem UT:∀(a b:Val),cond (a.beq b) (a=b) True
 |.none,b=>by cases b<;>first|exact(rfl:Val.none=Val.none)|exact Bh
 |.bool x,b=>by cases b with|bool y=>exact xh fun h=>congrArg Val.bool (Cr (show (x == y)=true from h))|_=>exact Bh
 |.int x,b=>by cases b with|int y=>exact xh fun h=>congrArg Val.int (Cr (show (x == y)=true from h))|_=>exact Bh
 |.str x,b=>by cases b with|str y=>exact xh fun h=>congrArg Val.str (Cr (show (x == y)=true from h))|_=>exact Bh
 |.tup x,b=>by cases b with|tup y=>exact xh fun h=>congrArg Val.tup (rQ (oD x y) h)|_=>exact Bh
 |.lst x,b=>by cases b with|lst y=>exact xh fun h=>congrArg Val.lst (rQ (oD x y) h)|_=>exact Bh
 |.dct0,b=>by cases b<;>first|exact(rfl:Val.dct0=Val.dct0)|exact Bh
 |.ctup x,b=>by cases b with|ctup y=>exact xh fun h=>congrArg Val.ctup (Cr (show (x == y)=true from h))|_=>exact Bh
 |.scr x,b=>by cases b with|scr y=>exact xh fun h=>congrArg Val.scr (Cr (show (x == y)=true from h))|_=>exact Bh
 |.ref x,b=>by cases b with|ref y=>exact xh fun h=>congrArg Val.ref (Cr (show (x == y)=true from h))|_=>exact Bh
 |.fn x,b=>by cases b with|fn y=>exact xh fun h=>congrArg Val.fn (Cr (show (x == y)=true from h))|_=>exact Bh
 |.ty x,b=>by cases b with|ty y=>exact xh fun h=>congrArg Val.ty (Cr (show (x == y)=true from h))|_=>exact Bh
 |.dref x,b=>by cases b with|dref y=>exact xh fun h=>congrArg Val.dref (Cr (show (x == y)=true from h))|_=>exact Bh
theorem oD:∀(a b:List Val),cond (tG a b) (a=b) True
 |[],[]=>(rfl:([]:List Val)=[])
 |[],_::_=>Bh
 |_::_,[]=>Bh
 |x::xs,y::ys=>xh fun h=>by
  have h:(x.beq y&&tG xs ys)=true:=h
  rw[Aa]at h
  rw[rQ (UT x y) h.1,rQ (oD xs ys) h.2]
end
theorem uS{a b:List Val}(h:tG a b=true):a=b:=rQ (oD a b) h
mutual
theorem beq_refl:∀a:Val,a.beq a=true
 |.none=>rfl
 |.bool x=>(beq_self_eq_true x:(x == x)=true)
 |.int x=>(beq_self_eq_true x:(x == x)=true)
 |.str x=>(beq_self_eq_true x:(x == x)=true)
 |.tup x=>vn x
 |.lst x=>vn x
 |.dct0=>rfl
 |.ctup x=>(beq_self_eq_true x:(x == x)=true)
 |.scr x=>(beq_self_eq_true x:(x == x)=true)
 |.ref x=>(beq_self_eq_true x:(x == x)=true)
 |.fn x=>(beq_self_eq_true x:(x == x)=true)
 |.ty x=>(beq_self_eq_true x:(x == x)=true)
 |.dref x=>(beq_self_eq_true x:(x == x)=true)
theorem vn:∀a:List Val,tG a a=true
 |[]=>rfl
 |x::xs=>by rw[tG,beq_refl x,vn xs];rfl
end
section
variable {K:KF}{mg:Str->Option Value}
theorem Mv.refl{ρ:Own}{H:L2.Hp}:Mv ρ H ρ H:=⟨fun a o e n=>⟨e,n⟩,fun i a e=>e,fun _ _=>rfl⟩
theorem Mv.trans{ρ ρ1 ρ2:Own}{H H1 H2:L2.Hp}(x:Mv ρ H ρ1 H1)(y:Mv ρ1 H1 ρ2 H2):Mv ρ H ρ2 H2:=
 ⟨fun a o e n=>y.keep a o (x.keep a o e n).1 (x.keep a o e n).2,fun i a e=>y.get i a (x.get i a e),fun a ha=>by
  obtain⟨i,hi⟩:=List.getElem?_of_mem ha
  exact(y.kd a (AS (x.get i a hi))).trans (x.kd a ha)⟩
structure Walk(K:KF)(mg:Str->Option Value)(ρ:Own)(H:L2.Hp)(r:Src)(J:L2.It):Prop where
 len:r.xs.length<=zU
 go:∀(ρ2:Own) (H2:L2.Hp) (s2:Sto) (i:Nat) (v:Val),Mv ρ H ρ2 H2->HR K mg ρ2 s2 H2->r.ok s2=true->r.xs[i]?=some v->J.go i H2/\∀x H3,J.yld i H2 x H3->(H3=H2\/∃p o,H2 p=none/\H3=L2.upd H2 p o)/\RD K mg ρ2 H3 v x
 stop:∀(ρ2:Own) (H2:L2.Hp) (s2:Sto) (i:Nat),Mv ρ H ρ2 H2->HR K mg ρ2 s2 H2->r.ok s2=true->i=r.xs.length->J.stop i H2
theorem Walk.mv{ρ ρ1:Own}{H H1:L2.Hp}{r:Src}{J:L2.It}(w:Walk K mg ρ H r J)(x:Mv ρ H ρ1 H1):Walk K mg ρ1 H1 r J:=
 ⟨w.len,fun ρ2 H2 s2 i v y=>w.go ρ2 H2 s2 i v (x.trans y),fun ρ2 H2 s2 i y=>w.stop ρ2 H2 s2 i (x.trans y)⟩
def fL(H:L2.Hp):Prop:=∀a xs,(H a=some (.tup xs)\/H a=some (.lst xs))->xs.length<=AA
theorem uo{X:L2.Cx}{tg it:Expr}{wi:L2.TI}(h:L2.PI X tg it wi):L2.PI X tg it (fun σ H R=>wi σ H fun J H1=>fL H1->R J H1):=fun pins s σ H R I q=>
 L2.thn (h pins s σ H _ I q) fun v s1 h1=>L2.thn h1 fun itv s2 ⟨i,fp,tn,J,H',e,I',T,t0,f,r⟩=>⟨i,fp,tn,J,H',e,I',T,t0,f,r fun a xs hx=>by
  rcases hx with hx|hx
  . obtain⟨z,_⟩:=(show L2.yB X.prog X.w H' s2.heap a (.tup xs) from I'.hok a _ hx);exact z
  . obtain⟨z,_⟩:=(show L2.yB X.prog X.w H' s2.heap a (.lst xs) from I'.hok a _ hx);exact z⟩
theorem aT{ρ:Own}{H:L2.Hp}{a:Addr}{vs:List Val}{xs:List L2.V}(hz:vs.length<=zU)(n:ρ.no a)(e:H a=some (.tup xs))(q:RDs K mg ρ H vs xs):Walk K mg ρ H ⟨vs,none⟩ (L2.Itt K a) where
 len:=hz
 go:=fun ρ2 H2 s2 i v x hr _ hv=>by
  have e2:=(x.keep a _ e n).1
  have q2:=RDs.mv x q
  obtain⟨y,h1,h2⟩:=q2.get hv
  refine⟨⟨xs,y,.of e2,h1⟩,fun z H3 ⟨e3,h3⟩=>⟨.inl e3,?_⟩⟩
  subst e3
  have:=h3 xs (.of e2)
  rw[h1]at this;cases this
  exact h2
 stop:=fun ρ2 H2 s2 i x hr _ hi=>⟨xs,.of (x.keep a _ e n).1,by rw[<-q.length];exact EZ hi.symm⟩
theorem aR{ρ:Own}{H:L2.Hp}{a:Addr}{vs:List Val}{xs:List L2.V}(hz:vs.length<=zU)(n:ρ.no a)(e:H a=some (.lst xs))(q:RDs K mg ρ H vs xs):Walk K mg ρ H ⟨vs,none⟩ (L2.Itl K a) where
 len:=hz
 go:=fun ρ2 H2 s2 i v x hr _ hv=>by
  have e2:=(x.keep a _ e n).1
  have q2:=RDs.mv x q
  obtain⟨y,h1,h2⟩:=q2.get hv
  refine⟨⟨xs,y,.of e2,h1⟩,fun z H3 ⟨e3,h3⟩=>⟨.inl e3,?_⟩⟩
  subst e3
  have:=h3 xs (.of e2)
  rw[h1]at this;cases this
  exact h2
 stop:=fun ρ2 H2 s2 i x hr _ hi=>⟨xs,.of (x.keep a _ e n).1,by rw[<-q.length];exact EZ hi.symm⟩
theorem g7{ρ:Own}{H:L2.Hp}{a:Addr}{ns:List Int}(k:KT K a (ns.map L2.V.int)):Walk K mg ρ H ⟨ns.map .int,none⟩ (L2.Itt K a) where
 len:=by
  obtain⟨o,its,n,_,_,_,h4,h5⟩:=k
  have:=h5.length
  simp only[Ai,Cv]at this
  show (ns.map Val.int).length<=_
  rw[Ai,yo,this];exact h4
 go:=fun ρ2 H2 s2 i v x hr _ hv=>by
  obtain⟨y,h1,h2⟩:=(RDs.ints (K:=K) (mg:=mg) (ρ:=ρ2) (H:=H2) ns).get hv
  refine⟨⟨_,y,k.sqt,h1⟩,fun z H3 ⟨e3,h3⟩=>⟨.inl e3,?_⟩⟩
  subst e3
  have:=h3 _ k.sqt
  rw[h1]at this;cases this
  exact h2
 stop:=fun ρ2 H2 s2 i x hr _ hi=>⟨_,k.sqt,by rw[Ai];rw[hi];simp⟩
theorem aS{ρ:Own}{H:L2.Hp}{i0:Nat}{a:Addr}{vs:List Val}(hz:vs.length<=zU)(e:ρ.o[i0]?=some a):Walk K mg ρ H ⟨vs,some i0⟩ (L2.Itl K a) where
 len:=hz
 go:=fun ρ2 H2 s2 i v x hr ho hv=>by
  simp only[Src.ok]at ho
  split at ho
  . rename_i ws hw
    cases uS ho
    obtain⟨b,xs,e1,e2,q⟩:=hr.obj i0 _ hw
    rw[x.get _ _ e]at e1;cases e1
    obtain⟨y,h1,h2⟩:=q.get hv
    refine⟨⟨xs,y,.of e2,h1⟩,fun z H3 ⟨e3,h3⟩=>⟨.inl e3,?_⟩⟩
    subst e3
    have:=h3 xs (.of e2)
    rw[h1]at this;cases this
    exact h2
  . cases ho
 stop:=fun ρ2 H2 s2 i x hr ho hi=>by
  simp only[Src.ok]at ho
  split at ho
  . rename_i ws hw
    cases uS ho
    obtain⟨b,xs,e1,e2,q⟩:=hr.obj i0 _ hw
    rw[x.get _ _ e]at e1;cases e1
    exact⟨xs,.of e2,by rw[<-q.length];exact EZ hi.symm⟩
  . cases ho
theorem ba{lo:Int}{n i:Nat}:(yK lo n)[i]?=if i<n then some (.int (lo+i)) else none:=by
 unfold yK
 rw[AQ]
 by_cases h:i<n
 . rw[if_pos h,E7 h];rfl
 . rw[if_neg h,B9 (by rw[BE];omega)];rfl
theorem ux{lo:Int}{n:Nat}:(yK lo n).length=n:=by unfold yK;rw[Ai,BE]
theorem lF{ρ:Own}{H:L2.Hp}{lo:Int}{n:Nat}(hz:n<=zU):Walk K mg ρ H ⟨yK lo n,none⟩ (L2.Itr lo n) where
 len:=by show (yK lo n).length<=_;rw[ux];exact hz
 go:=fun ρ2 H2 s2 i v x hr _ hv=>by
  have hv':(yK lo n)[i]?=some v:=hv
  rw[ba]at hv'
  split at hv'
  . rename_i hi
    cases hv'
    refine⟨hi,fun z H3 ⟨e3,h3⟩=>⟨.inl e3,?_⟩⟩
    subst h3
    exact .int _
  . cases hv'
 stop:=fun ρ2 H2 s2 i x hr _ hi=>by
  have:i=(yK lo n).length:=hi
  rw[ux]at this;exact EZ this.symm
theorem vo:∀{vs:List Val} {n i:Nat},(zt n vs)[i]?=(vs[i]?).map fun v=>.tup [.int ((n+i:Nat):Int),v]
 |[],_,_=>rfl
 |v::vs,n,0=>rfl
 |v::vs,n,i+1=>by
  show (zt (n+1) vs)[i]?=(vs[i]?).map _
  rw[vo]
  rw[show n+1+i=n+(i+1) by omega]
theorem wd:∀{vs:List Val} {n:Nat},(zt n vs).length=vs.length
 |[],_=>rfl
 |v::vs,n=>by show (zt (n+1) vs).length+1=_;rw[wd];rfl
theorem g8{ρ:Own}{H:L2.Hp}{a:Addr}{vs:List Val}{xs:List L2.V}(hz:vs.length<=zU)(n:ρ.no a)(e:H a=some (.tup xs))(q:RDs K mg ρ H vs xs):Walk K mg ρ H ⟨zt 0 vs,none⟩ (L2.Ite K a) where
 len:=by show (zt 0 vs).length<=_;rw[wd];exact hz
 go:=fun ρ2 H2 s2 i v x hr _ hv=>by
  have e2:=(x.keep a _ e n).1
  have q2:=RDs.mv x q
  have hv':(zt 0 vs)[i]?=some v:=hv
  rw[vo,A6]at hv'
  obtain⟨w,h0,rfl⟩:=hv'
  obtain⟨y,h1,h2⟩:=q2.get h0
  refine⟨⟨xs,y,.of e2,h1⟩,fun z H3 ⟨t,y',ht,e3,h3,e4⟩=>⟨.inr ⟨t,_,ht,e4⟩,?_⟩⟩
  subst e3 e4
  have:=h3 xs (.of e2)
  rw[h1]at this;cases this
  have X:=Ext.new hr ht (.tup [.int ((i:Nat):Int),y])
  refine .tup (hr.new ht) L2.zN (.cons ?_ (.cons (h2.mono X) .nil))
  rw[Dq];exact .int _
 stop:=fun ρ2 H2 s2 i x hr _ hi=>⟨xs,.of (x.keep a _ e n).1,by rw[<-q.length,hi];exact wd.symm⟩
theorem k6{ρ:Own}{H:L2.Hp}{a:Addr}{vs:List Val}{xs:List L2.V}(hz:vs.length<=zU)(n:ρ.no a)(e:H a=some (.lst xs))(q:RDs K mg ρ H vs xs):Walk K mg ρ H ⟨zt 0 vs,none⟩ (L2.Xk K a) where
 len:=by show (zt 0 vs).length<=_;rw[wd];exact hz
 go:=fun ρ2 H2 s2 i v x hr _ hv=>by
  have e2:=(x.keep a _ e n).1
  have q2:=RDs.mv x q
  have hv':(zt 0 vs)[i]?=some v:=hv
  rw[vo,A6]at hv'
  obtain⟨w,h0,rfl⟩:=hv'
  obtain⟨y,h1,h2⟩:=q2.get h0
  refine⟨⟨xs,y,.of e2,h1⟩,fun z H3 ⟨t,y',ht,e3,h3,e4⟩=>⟨.inr ⟨t,_,ht,e4⟩,?_⟩⟩
  subst e3 e4
  have:=h3 xs (.of e2)
  rw[h1]at this;cases this
  have X:=Ext.new hr ht (.tup [.int ((i:Nat):Int),y])
  refine .tup (hr.new ht) L2.zN (.cons ?_ (.cons (h2.mono X) .nil))
  rw[Dq];exact .int _
 stop:=fun ρ2 H2 s2 i x hr _ hi=>⟨xs,.of (x.keep a _ e n).1,by rw[<-q.length,hi];exact wd.symm⟩
noncomputable def tI(env:Env)(s:Sto)(o:Out Src):L2.TI:=fun σ H R=>∃ρ,HR K mg ρ s H/\ER K mg ρ H env σ/\(match o with
 |.ok r s'=>∀ρ' H' J,Ext ρ H ρ' H'->HR K mg ρ' s' H'->Walk K mg ρ' H' r J->R J H'
 |_=>False)
end
section
variable {X:L2.Cx}{env:Env}{s:Sto}{a b tg:Expr}
theorem uJ{it:Expr}{t t':L2.TI}(h:L2.PI X tg it t)(i:∀σ H R,t' σ H R->t σ H R):L2.PI X tg it t':=fun pins s σ H R I q=>h pins s σ H R I (i σ H R q)
theorem yP{it:Expr}{o:Out Src}(h:∀v s',o≠.ok v s'):L2.PI X tg it (tI (K:=X.K) (mg:=X.mg) env s o):=fun pins sh σ H R I q=>by
 obtain⟨ρ,_,_,w⟩:=q
 cases o with
 |ok v s'=>exact(h v s' rfl).elim
 |exc _ _ _=>exact w.elim
 |stuck=>exact w.elim
theorem fL.of{K:KF}{mg:Str->Option Value}{ρ:Own}{H:L2.Hp}(z:fL H){a:Addr}{vs:List Val}{xs:List L2.V}(q:RDs K mg ρ H vs xs)(h:H a=some (.tup xs)\/H a=some (.lst xs)):vs.length<=zU:=by
 rw[q.length,yo];exact z a xs h
theorem Wi{o:Out Val}(h:L2.PE X a (tV X.K X.mg env s o)):L2.PI X tg a (tI (K:=X.K) (mg:=X.mg) env s (o.bind fun v s1=>match srcOf s1 v with|some r=>.ok r s1|Ab=>.stuck)):=by
 cases o with
 |ok v s1=>
  show L2.PI X tg a (tI (K:=X.K) (mg:=X.mg) env s (match srcOf s1 v with|some r=>.ok r s1|Ab=>.stuck))
  cases v with
  |tup vs=>
   refine uJ (uo (L2.bM h)) fun σ H R ⟨ρ,hr,er,w⟩=>⟨ρ,hr,er,fun ρ1 x H1 x1 hr1 r1=>?_⟩
   cases r1 with
   |tup n e q=>exact⟨_,rfl,⟨_,.of e⟩,fun z=>w ρ1 H1 _ x1 hr1 (aT (z.of q (.inl e)) n e q)⟩
  |lst vs=>
   refine uJ (uo (L2.j4 h)) fun σ H R ⟨ρ,hr,er,w⟩=>⟨ρ,hr,er,fun ρ1 x H1 x1 hr1 r1=>?_⟩
   cases r1 with
   |lst n e q=>exact⟨_,rfl,⟨_,.of e⟩,fun z=>w ρ1 H1 _ x1 hr1 (aR (z.of q (.inr e)) n e q)⟩
  |ctup ns=>
   refine uJ (L2.bM h) fun σ H R ⟨ρ,hr,er,w⟩=>⟨ρ,hr,er,fun ρ1 x H1 x1 hr1 r1=>?_⟩
   cases r1 with
   |ctup k=>exact⟨_,rfl,⟨_,k.sqt⟩,w ρ1 H1 _ x1 hr1 (g7 k)⟩
  |ref i=>
   simp only[srcOf]
   cases hs:s1[i]? with
   |none=>exact yP (zF rfl)
   |some cl=>
    cases cl with
    |lst vs=>
     refine uJ (uo (L2.j4 h)) fun σ H R ⟨ρ,hr,er,w⟩=>⟨ρ,hr,er,fun ρ1 x H1 x1 hr1 r1=>?_⟩
     cases r1 with
     |ref e=>
      obtain⟨b',xs,e1,e2,q⟩:=hr1.obj i _ hs
      rw[e]at e1;cases e1
      exact⟨_,rfl,⟨_,.of e2⟩,fun z=>w ρ1 H1 _ x1 hr1 (aS (z.of q (.inr e2)) e)⟩
    |_=>exact yP (zF rfl)
  |_=>exact yP (zF rfl)
 |exc _ _ _=>exact yP (zF rfl)
 |stuck=>exact yP (zF rfl)
theorem iz{o:Out Val}{p pos:Pos}(hp:plain a=true)(hg:L2.Gl X "range")(hm:X.mg "range"=none)(h:L2.PE X a (tV X.K X.mg env s o)) :
 L2.PI X tg (.Call (.Name "range" p) [a] [] pos) (tI (K:=X.K) (mg:=X.mg) env s (o.bind fun x s1=>match x with
  |.int j=>if -(2 ^ 62)<=j/\j<=zU then .ok ⟨yK 0 j.toNat,Ab⟩ s1 else .stuck
  |_=>.stuck)):=by
 cases o with
 |ok v s1=>
  have st:AM [a] X.env=[(false,eval a X.env)]:=L2.zd (zV hp)
  refine uJ (L2.gY hg hm (L2.pac h L2.yr (zV hp)) st) fun σ H R ⟨ρ,hr,er,w⟩=>⟨ρ,hr,er,fun ρ1 x H1 x1 hr1 r1=>?_⟩
  cases r1 with
  |int j=>
   simp only[zX]at w
   by_cases hz:-(2 ^ 62)<=j/\j<=zU
   . rw[if_pos hz]at w
     have hl:(zU:Int)<2 ^ 62:=by decide
     exact⟨j,rfl,hz.1,by omega,w ρ1 H1 _ x1 hr1 (lF (by omega))⟩
   . rw[if_neg hz]at w;exact w.elim
  |_=>exact w.elim
 |exc _ _ _=>exact yP (zF rfl)
 |stuck=>exact yP (zF rfl)
theorem i6{o:Out Val}{f2:Sto->Out Val}{p pos:Pos}(hp:plain a=true)(hp2:plain b=true)(hg:L2.Gl X "range")(hm:X.mg "range"=none)(h:L2.PE X a (tV X.K X.mg env s o))(h2:∀s1,L2.PE X b (tV X.K X.mg env s1 (f2 s1))) :
 L2.PI X tg (.Call (.Name "range" p) [a,b] [] pos) (tI (K:=X.K) (mg:=X.mg) env s (o.bind fun x s1=>(f2 s1).bind fun y s2=>match x,y with
  |.int i,.int j=>if -(2 ^ 62)<=i/\i<2 ^ 62∧-(2 ^ 62)<=j/\j<2 ^ 62/\j-i<=zU then .ok ⟨yK i (j-i).toNat,Ab⟩ s2 else .stuck
  |_,_=>.stuck)):=by
 cases o with
 |ok v s1=>
  have h2':=h2 s1
  simp only[zX]
  cases hb:f2 s1 with
  |ok w s2=>
   rw[hb]at h2'
   have st2:AM [b] X.env=[(false,eval b X.env)]:=L2.zd (zV hp2)
   have st:AM [a,b] X.env=[(false,eval a X.env),(false,eval b X.env)]:=by rw[L2.zd (zV hp),st2]
   refine uJ (L2.gZ hg hm (L2.pac h (L2.pac h2' L2.yr (zV hp2)) (zV hp)) st st2) fun σ H R ⟨ρ,hr,er,wt⟩=>⟨ρ,hr,er,fun ρ1 x H1 x1 hr1 r1=>⟨ρ1,hr1,er.mono x1,fun ρ2 y H2 x2 hr2 r2=>?_⟩⟩
   simp only[zX]at wt
   cases r1 with
   |int i=>
    cases r2 with
    |int j=>
     simp only at wt
     by_cases hz:-(2 ^ 62)<=i/\i<2 ^ 62∧-(2 ^ 62)<=j/\j<2 ^ 62/\j-i<=zU
     . rw[if_pos hz]at wt
       exact⟨i,j,rfl,⟨hz.1,hz.2.1,hz.2.2.1,hz.2.2.2.1⟩,wt ρ2 H2 _ (x1.trans hr1 x2) hr2 (lF (by omega))⟩
     . rw[if_neg hz]at wt;exact wt.elim
    |_=>exact wt.elim
   |_=>exact wt.elim
  |exc _ _ _=>exact yP (zF rfl)
  |stuck=>exact yP (zF rfl)
 |exc _ _ _=>exact yP (zF rfl)
 |stuck=>exact yP (zF rfl)
theorem Zi{es:List Expr}{k:Nat}{o:Out Val}{p pos tp:Pos}(hp:plain a=true)(hg:L2.Gl X "enumerate")(hm:X.mg "enumerate"=none)(h:L2.PE X a (tV X.K X.mg env s o)) :
 L2.PI X (.Tuple es k tp) (.Call (.Name "enumerate" p) [a] [] pos) (tI (K:=X.K) (mg:=X.mg) env s (o.bind fun v s1=>match v with
  |.tup vs=>.ok ⟨zt 0 vs,Ab⟩ s1
  |.lst vs=>.ok ⟨zt 0 vs,Ab⟩ s1
  |_=>.stuck)):=by
 cases o with
 |ok v s1=>
  have st:AM [a] X.env=[(false,eval a X.env)]:=L2.zd (zV hp)
  refine uJ (uo (L2.YE hg hm (L2.pac h L2.yr (zV hp)) st)) fun σ H R ⟨ρ,hr,er,w⟩=>⟨ρ,hr,er,fun ρ1 x H1 x1 hr1 r1=>?_⟩
  cases r1 with
  |tup n e q=>exact⟨_,rfl,.inl ⟨⟨_,.of e⟩,fun z=>w ρ1 H1 _ x1 hr1 (g8 (z.of q (.inl e)) n e q)⟩⟩
  |lst n e q=>exact⟨_,rfl,.inr ⟨⟨_,.of e⟩,fun z=>w ρ1 H1 _ x1 hr1 (k6 (z.of q (.inr e)) n e q)⟩⟩
  |_=>exact w.elim
 |exc _ _ _=>exact yP (zF rfl)
 |stuck=>exact yP (zF rfl)
end
end M
end
section
namespace M
open PySem
def qW(K:KF)(mg:Str->Option Value)(t:Tgt)(g:L2.TG):Prop:=∀(ρ:Own) (s:Sto) (H:L2.Hp) (v:Val) (x:L2.V) (env env':Env) (σ:L2.St) (Q:L2.St->L2.Hp->Prop),HR K mg ρ s H->RD K mg ρ H v x->ER K mg ρ H env σ->yq t v env=some env' ->
 (∀σ',ER K mg ρ H env' σ'->Q σ' H)->g x σ H Q
theorem nK{K:KF}{mg:Str->Option Value}{i:Nat}:qW K mg (.nm i) (L2.x9 i):=fun ρ s H v x env env' σ Q hr r er e q=>by
 cases e
 exact q _ (er.set i r)
noncomputable def oM:List Nat->L2.TGs
 |[]=>L2.Uk
 |i::is=>L2.Y7 (L2.x9 i) (oM is)
theorem pK{K:KF}{mg:Str->Option Value}{ρ:Own}{H:L2.Hp}{Q:L2.St->L2.Hp->Prop}:∀{is:List Nat} {vs:List Val} {xs:List L2.V} {env:Env} {σ:L2.St},RDs K mg ρ H vs xs->ER K mg ρ H env σ->vs.length=is.length ->
 (∀σ',ER K mg ρ H ((is.zip vs).foldl (fun e p=>e.set p.1 (some p.2)) env) σ'->Q σ' H)->oM is xs σ H Q
 |[],[],_,env,σ,.nil,er,_,q=>⟨rfl,q σ er⟩
 |[],_::_,_,_,_,_,_,h,_=>by cases h
 |_::_,[],_,_,_,_,_,h,_=>by cases h
 |i::is,v::vs,x::xs,env,σ,.cons r rs,er,h,q=>⟨x,xs,rfl,pK rs (er.set i r) (by simpa using h) q⟩
theorem u6{K:KF}{mg:Str->Option Value}{is:List Nat}:qW K mg (.nms is) (L2.Um K is.length (oM is)):=fun ρ s H v x env env' σ Q hr r er e q=>by
 simp only[yq]at e
 split at e
 . split at e
   . rename_i hl
     cases e
     cases r with
     |tup n e q2=>exact⟨_,_,rfl,.of e,by rw[<-q2.length];exact hl,pK q2 er hl q⟩
   . cases e
 . cases e
noncomputable def yE(sc:Scope)(N:List Str):List Nat->List Expr->Bool
 |[],[]=>true
 |i::is,.Name x _::es=>decide (N[i]?=some x)&&(decide (sc.names.lookup x=some .local)||decide (sc.names.lookup x=some .cell))&&yE sc N is es
 |_,_=>false
noncomputable def ckT(sc:Scope)(N:List Str):Tgt->Expr->Bool
 |.nm i,.Name x _=>decide (N[i]?=some x)&&(decide (sc.names.lookup x=some .local)||decide (sc.names.lookup x=some .cell))
 |.nms is,.Tuple es _ _=>yE sc N is es&&decide (es≠[])
 |_,_=>false
section
variable {X:L2.Cx}
structure Scp(sc:Scope)(N:List Str)(X:L2.Cx):Prop where
 hN:X.N=N
 nd:N.Nodup
 vis:∀x,sc.names.lookup x=some .local\/sc.names.lookup x=some .cell\/sc.names.lookup x=some .free->L2.Vis X.env.scope x
 loc:∀x,sc.names.lookup x=some .local\/sc.names.lookup x=some .cell->L2.Loc X.env.scope x/\(X.fn x=true\/X.env.scope.names.lookup x=some .local)
 gl:∀x,sc.names.lookup x=some .globalImplicit->L2.Gl X x
 cf:∀x,sc.names.lookup x=some .cell\/sc.names.lookup x=some .free->X.env.kindOf x=some .cell\/X.env.kindOf x=some .free
theorem jz{sc:Scope}{N:List Str}(S:Scp sc N X){i:Nat}{x:Str}{p:Pos}(h1:N[i]?=some x)(h2:sc.names.lookup x=some .local\/sc.names.lookup x=some .cell):L2.PG X (.Name x p) (L2.x9 i):=by
 obtain⟨a,b⟩:=S.loc x h2
 exact L2.YC (by rw[S.hN];exact S.nd) (by rw[S.hN];exact h1) a b
theorem wj{sc:Scope}{N:List Str}(S:Scp sc N X):∀{is:List Nat} {es:List Expr},yE sc N is es=true->L2.PGs X es (oM is)/\(CV es X.env).length=is.length/\(CV es X.env).findIdx? (·.1)=none
 |[],[],_=>⟨L2.YD,rfl,rfl⟩
 |[],_::_,h=>by cases h
 |_::_,[],h=>by cases h
 |i::is,e::es,h=>by
  cases e with
  |Name x p=>
   simp only[yE,Aa,AL,decide_eq_true_eq]at h
   obtain⟨a,b,c⟩:=wj S h.2
   refine⟨L2.bL (jz S h.1.1 h.1.2) a,?_,?_⟩
   . show (CV es X.env).length+1=is.length+1
     rw[b]
   . show List.findIdx? (·.1) ((false,assign (.Name x p) X.env)::CV es X.env)=none
     rw[List.findIdx?_cons]
     simp only[AV,if_false]
     rw[c];rfl
  |_=>cases h
theorem T3{sc:Scope}{N:List Str}(S:Scp sc N X)(hc:X.calm=true){t:Tgt}{e:Expr}(h:ckT sc N t e=true):∃g,L2.PG X e g/\qW X.K X.mg t g:=by
 cases t with
 |nm i=>
  cases e with
  |Name x p=>
   simp only[ckT,Aa,AL,decide_eq_true_eq]at h
   exact⟨_,jz S h.1 h.2,nK⟩
  |_=>cases h
 |nms is=>
  cases e with
  |Tuple es k p=>
   simp only[ckT,Aa,decide_eq_true_eq]at h
   obtain⟨a,b,c⟩:=wj S h.1
   exact⟨_,L2.ow hc a b c,u6⟩
  |_=>cases h
end
structure Lp(acc:Addr)(ρ:Own)(H:L2.Hp)(ρ':Own)(H':L2.Hp):Prop where
 pre:∃new:List Addr,ρ'.o=ρ.o++new/\∀a∈new,H a=none
 hid:ρ'.h=acc::ρ.h
 keep:∀(a:Addr) (o:L2.HO),H a=some o->a ∉ ρ.o->H' a=some o
 kd:∀a∈ρ.o,hk (H' a)=hk (H a)
section
variable {K:KF}{mg:Str->Option Value}{ρ ρ1 ρ2:Own}{H H1 H2:L2.Hp}{s s1:Sto}{acc:Addr}
noncomputable def Own.hide(ρ:Own)(acc:Addr):Own:=⟨ρ.o,acc::ρ.h⟩
theorem oP(hr:HR K mg ρ s H)(hn:H acc=none)(o:L2.HO):Mv ρ H (ρ.hide acc) (L2.upd H acc o):=
 ⟨fun a u e n=>⟨by rw[L2.zI (L2.zR e hn)];exact e,n.1,fun hm=>by
  rcases Al.mp hm with z|z
  . exact L2.zR e hn z
  . exact n.2 z⟩,fun i a e=>e,fun a ha=>by rw[L2.zI fun z=>(hr.new hn).1 (by rw[<-z];exact ha)]⟩
theorem HR.hide(hr:HR K mg ρ s H)(hn:H acc=none){xs:List L2.V}:HR K mg (ρ.hide acc) s (L2.upd H acc (.lst xs)):=by
 refine⟨hr.len,hr.nd,fun i c e=>?_,fun a ha=>?_⟩
 . obtain⟨a,e1,q⟩:=hr.cel i c e
   obtain⟨o,e2⟩:=q.there
   exact⟨a,e1,q.mv (oP hr hn _) (L2.zI (L2.zR e2 hn))⟩
 . rcases Al.mp ha with z|z
   . subst z;exact⟨⟨xs,L2.zN⟩,(hr.new hn).1⟩
   . obtain⟨⟨ys,e⟩,n⟩:=hr.hid a z
     exact⟨⟨ys,by rw[L2.zI (L2.zR e hn)];exact e⟩,n⟩
theorem Lp.start(hr:HR K mg ρ s H)(hn:H acc=none)(o:L2.HO):Lp acc ρ H (ρ.hide acc) (L2.upd H acc o):=
 ⟨⟨[],by simp[Own.hide],fun a ha=>by cases ha⟩,rfl,fun a u e _=>by rw[L2.zI (L2.zR e hn)];exact e,(oP hr hn o).kd⟩
theorem Lp.step(l:Lp acc ρ H ρ1 H1)(hr:HR K mg ρ1 s1 H1)(x:Ext ρ1 H1 ρ2 H2):Lp acc ρ H ρ2 H2:=by
 obtain⟨new,e1,hn⟩:=l.pre
 obtain⟨new2,e2,hn2⟩:=x.pre
 refine⟨⟨new++new2,by rw[e2,e1,Bj],fun a ha=>?_⟩,x.hid.trans l.hid,fun a o e n=>x.keep a o (l.keep a o e n) ?_,fun a ha=>(x.kd a (by rw[e1];exact Bc _ ha)).trans (l.kd a ha)⟩
 . rcases AO.mp ha with ha|ha
   . exact hn a ha
   . cases q:H a with
     |none=>rfl
     |some o=>
      by_cases hm:a∈ρ.o
      . obtain⟨xs,e⟩:=hr.trk (a:=a) (by rw[e1];exact Bc _ hm)
        rw[hn2 a ha]at e;cases e
      . have:=l.keep a o q hm
        rw[hn2 a ha]at this;cases this
 . rw[e1]
   intro hm
   rcases AO.mp hm with hm|hm
   . exact n hm
   . rw[hn a hm]at e;cases e
theorem Lp.emit(l:Lp acc ρ H ρ1 H1)(hr:HR K mg ρ1 s1 H1)(hn:H acc=none)(o:L2.HO):Lp acc ρ H ρ1 (L2.upd H1 acc o):=
 ⟨l.pre,l.hid,fun a u e n=>by rw[L2.zI (L2.zR e hn)];exact l.keep a u e n,fun a ha=>by
  obtain⟨new,e1,_⟩:=l.pre
  rw[L2.zI fun z=>(hr.hid acc (by rw[l.hid];exact Av)).2 (by rw[<-z,e1];exact Bc _ ha)]
  exact l.kd a ha⟩
theorem Lp.here(l:Lp acc ρ H ρ1 H1):acc∈ρ1.h:=by rw[l.hid];exact Av
theorem jX(hr:HR K mg ρ1 s1 H1)(ha:acc∈ρ1.h)(o:L2.HO):Mv ρ1 H1 ρ1 (L2.upd H1 acc o):=
 ⟨fun a u e n=>⟨by rw[L2.zI (fun z=>n.2 (by rw[z];exact ha))];exact e,n⟩,fun i a e=>e,fun a h=>by rw[L2.zI fun z=>(hr.hid acc ha).2 (by rw[<-z];exact h)]⟩
theorem HR.emit(hr:HR K mg ρ1 s1 H1)(ha:acc∈ρ1.h){xs:List L2.V}:HR K mg ρ1 s1 (L2.upd H1 acc (.lst xs)):=by
 have hno:=(hr.hid acc ha).2
 refine⟨hr.len,hr.nd,fun i c e=>?_,fun a hm=>?_⟩
 . obtain⟨a,e1,q⟩:=hr.cel i c e
   exact⟨a,e1,q.mv (jX hr ha _) (L2.zI (fun z=>hno (by rw[<-z];exact AS e1)))⟩
 . obtain⟨⟨ys,e⟩,n⟩:=hr.hid a hm
   by_cases z:a=acc
   . subst z;exact⟨⟨xs,L2.zN⟩,n⟩
   . exact⟨⟨ys,by rw[L2.zI z];exact e⟩,n⟩
theorem Lp.done(l:Lp acc ρ H ρ1 H1)(h0:HR K mg ρ s H)(hn:H acc=none)(hr:HR K mg ρ1 s1 H1){vs:List Val}{ys:List L2.V}(e:H1 acc=some (.lst ys))(q:RDs K mg ρ1 H1 vs ys){m:Bool}{Q:L2.VK}(w:ym K mg (RD K mg) ρ H (newList m vs s1) Q):Q (.ref acc) H1:=by
 have ha:=l.here
 have hacc:=(hr.hid acc ha).2
 have hnh:=(h0.new hn).2
 cases m with
 |false=>
  have mv:Mv ρ1 H1 ⟨ρ1.o,ρ.h⟩ H1:=⟨fun a u e n=>⟨e,n.1,fun z=>n.2 (by rw[l.hid];exact Ao _ z)⟩,fun i a e=>e,fun _ _=>rfl⟩
  refine w ⟨ρ1.o,ρ.h⟩ _ H1 ⟨l.pre,rfl,l.keep,l.kd⟩ ⟨hr.len,hr.nd,fun i ws e=>?_,fun a hm=>?_⟩ (.lst ⟨hacc,hnh⟩ e (RDs.mv mv q))
  . obtain⟨a,e1,t⟩:=hr.cel i ws e
    exact⟨a,e1,t.mv mv rfl⟩
  . exact hr.hid a (by rw[l.hid];exact Ao _ hm)
 |true=>
  have mv:Mv ρ1 H1 ⟨ρ1.o++[acc],ρ.h⟩ H1:=by
   refine⟨fun a u e n=>⟨e,fun hm=>?_,fun z=>n.2 (by rw[l.hid];exact Ao _ z)⟩,fun i a e=>?_,fun _ _=>rfl⟩
   . rcases AO.mp hm with hm|hm
     . exact n.1 hm
     . rw[Aq.mp hm]at n;exact n.2 ha
   . show (ρ1.o++[acc])[i]?=_
     rw[Bb (As.mp e).1];exact e
  have rf:(ρ1.o++[acc])[s1.length]?=some acc:=by rw[<-hr.len,BO (Ag _)];simp
  refine w ⟨ρ1.o++[acc],ρ.h⟩ _ H1 ⟨?_,rfl,l.keep,l.kd⟩ ⟨?_,?_,fun i ws q'=>?_,fun a hm=>?_⟩ (.ref rf (by rw[e];rfl))
  . obtain⟨new,e1,hnew⟩:=l.pre
    refine⟨new++[acc],by show ρ1.o++[acc]=_;rw[e1,Bj],fun a hm=>?_⟩
    rcases AO.mp hm with hm|hm
    . exact hnew a hm
    . rw[Aq.mp hm];exact hn
  . show (ρ1.o++[acc]).length=(s1++[Cel.lst vs]).length
    rw[Ap,Ap,hr.len];rfl
  . show (ρ1.o++[acc]).Nodup
    rw[FW]
    exact⟨hr.nd,by simp,fun a ha' b hb=>by rw[Aq.mp hb];intro z;subst z;exact hacc ha'⟩
  . by_cases hi:i<s1.length
    . rw[Bb hi]at q'
      obtain⟨a,e1,t⟩:=hr.cel i ws q'
      exact⟨a,mv.get i a e1,t.mv mv rfl⟩
    . have hi':i=s1.length:=by
       have:=(As.mp q').1
       rw[Ap]at this
       simp at this;omega
      subst hi'
      rw[BO (Ag _)]at q'
      simp at q'
      subst q'
      exact⟨acc,rf,ys,e,RDs.mv mv q⟩
  . obtain⟨x,n⟩:=hr.hid a (by rw[l.hid];exact Ao _ hm)
    refine⟨x,fun z=>?_⟩
    rcases AO.mp z with z|z
    . exact n z
    . rw[Aq.mp z]at hm;exact hnh hm
end
end M
end
section
namespace M
open PySem
section
variable {K:KF}{mg:Str->Option Value}
theorem n5{J:L2.It}{g:L2.TG}{tb:L2.TS}{D:L2.Ends}{σ:L2.St}{H:L2.Hp}{n:Nat}(Pv:Nat->L2.St->L2.Hp->Prop)(h0:Pv 0 σ H)(hd:∀σ H,Pv n σ H->J.stop n H/\D.nx σ H)
 (hs:∀i σ H,i<n->Pv i σ H->J.go i H/\∀x H',J.yld i H x H'->g x σ H' fun σ2 H2=>tb {D with nx:=Pv (i+1),ct:=Pv (i+1),bk:=D.nx} σ2 H2):L2.mj J g tb D σ H:=by
 refine⟨fun i m σ H=>m=n-i/\i<=n/\Pv i σ H,⟨n,by simp,A9 _,h0⟩,?_⟩
 rintro i m σ H ⟨rfl,hi,p⟩
 by_cases hlt:i<n
 . obtain⟨a,b⟩:=hs i σ H hlt p
   exact .inr ⟨a,Pv (i+1),fun σ' H' p'=>⟨n-(i+1),by omega,rfl,hlt,p'⟩,b⟩
 . have e:i=n:=by omega
   subst e
   exact .inl (hd σ H p)
structure CS(K:KF)(mg:Str->Option Value)(acc:Addr)(ρ0:Own)(H0:L2.Hp)(a:List Val)(s:Sto)(env:Env)(ρ:Own)(σ:L2.St)(H:L2.Hp):Prop where
 lp:Lp acc ρ0 H0 ρ H
 hr:HR K mg ρ s H
 er:ER K mg ρ H env σ
 ac:∃ys,H acc=some (.lst ys)/\RDs K mg ρ H a ys
def Grows(body:Env->Sto->List Val->Out (List Val × Env)):Prop:=∀e s a p s',body e s a=.ok p s'->a.length<=p.1.length
theorem sI{r:Src}{t:Tgt}{body:Env->Sto->List Val->Out (List Val × Env)}(hb:Grows body):∀{xs:List Val} {env:Env} {s:Sto} {a:List Val} {p:List Val × Env} {s':Sto},yg r t body xs env s a=.ok p s'->a.length<=p.1.length
 |[],env,s,a,p,s',h=>by
  rw[yg]at h
  split at h
  . cases h;exact Ag _
  . cases h
 |x::xs,env,s,a,p,s',h=>by
  rw[yg]at h
  split at h
  . split at h
    . cases h
    . rename_i env' he
      cases hc:body env' s a with
      |ok q s1=>
       rw[hc]at h
       exact Ax (hb _ _ _ _ _ hc) (sI hb h)
      |exc _ _ _=>rw[hc]at h;cases h
      |stuck=>rw[hc]at h;cases h
  . cases h
def BodyOk(K:KF)(mg:Str->Option Value)(acc:Addr)(ρ0:Own)(H0:L2.Hp)(body:Env->Sto->List Val->Out (List Val × Env))(tb:L2.TS):Prop:=
 ∀(ρ:Own) (s:Sto) (H:L2.Hp) (env:Env) (σ:L2.St) (a:List Val) (p:List Val × Env) (s':Sto) (D:L2.Ends),CS K mg acc ρ0 H0 a s env ρ σ H->body env s a=.ok p s'->p.1.length<=zU ->
  (∀ρ' H' σ',CS K mg acc ρ0 H0 p.1 s' p.2 ρ' σ' H'->Mv ρ H ρ' H'->D.nx σ' H')->tb D σ H
theorem tL{acc:Addr}{ρ0:Own}{H0:L2.Hp}{r:Src}{J:L2.It}{t:Tgt}{g:L2.TG}{body:Env->Sto->List Val->Out (List Val × Env)}{tb:L2.TS}{D:L2.Ends}{ρ:Own}{s:Sto}{H:L2.Hp}{env:Env}{σ:L2.St}{a:List Val}
 {p:List Val × Env} {sf:Sto} (W:Walk K mg ρ H r J) (TG:qW K mg t g) (hg:Grows body) (hb:BodyOk K mg acc ρ0 H0 body tb)
 (C:CS K mg acc ρ0 H0 a s env ρ σ H) (h:yg r t body r.xs env s a=.ok p sf) (hz:p.1.length<=zU) (fin:∀ρ' H' σ',CS K mg acc ρ0 H0 p.1 sf p.2 ρ' σ' H'->Mv ρ H ρ' H'->D.nx σ' H'):L2.mj J g tb D σ H:=by
 refine n5 (n:=r.xs.length) (fun i σ2 H2=>∃ρ2 s2 env2 a2,CS K mg acc ρ0 H0 a2 s2 env2 ρ2 σ2 H2/\Mv ρ H ρ2 H2/\yg r t body (r.xs.drop i) env2 s2 a2=.ok p sf) ⟨ρ,s,env,a,C,Mv.refl,by rw[Dn];exact h⟩ ?_ ?_
 . rintro σ2 H2 ⟨ρ2,s2,env2,a2,C2,mv,h2⟩
   rw[List.drop_length,yg]at h2
   split at h2
   . rename_i ho
     cases h2
     exact⟨W.stop ρ2 H2 _ _ mv C2.hr ho rfl,fin ρ2 H2 σ2 C2 mv⟩
   . cases h2
 . rintro i σ2 H2 hi ⟨ρ2,s2,env2,a2,C2,mv,h2⟩
   rw[BS hi,yg]at h2
   split at h2
   . rename_i ho
     obtain⟨hgo,hy⟩:=W.go ρ2 H2 s2 i (r.xs[i]) mv C2.hr ho (Ae hi)
     refine⟨hgo,fun x H3 y=>?_⟩
     obtain⟨hH,rx⟩:=hy x H3 y
     split at h2
     . cases h2
     . rename_i env' he
       -- the item is there: perhaps a new thing
       have C3:CS K mg acc ρ0 H0 a2 s2 env2 ρ2 σ2 H3/\Mv ρ2 H2 ρ2 H3:=by
        rcases hH with e|⟨q,o,hq,e⟩
        . subst e;exact⟨C2,Mv.refl⟩
        . subst e
          have X:=Ext.new C2.hr hq o
          refine⟨⟨C2.lp.step C2.hr X,C2.hr.more hq o,C2.er.mono X,?_⟩,X.mv⟩
          obtain⟨ys,e1,e2⟩:=C2.ac
          exact⟨ys,by rw[L2.zI (L2.zR e1 hq)];exact e1,e2.mono X⟩
       refine TG ρ2 s2 H3 _ x env2 env' σ2 _ C3.1.hr rx C3.1.er he fun σ4 er4=>?_
       cases hc:body env' s2 a2 with
       |ok q s5=>
        rw[hc]at h2
        have hlen:q.1.length<=zU:=Ax (sI hg h2) hz
        exact hb ρ2 s2 H3 env' σ4 a2 q s5 _ ⟨C3.1.lp,C3.1.hr,er4,C3.1.ac⟩ hc hlen fun ρ5 H5 σ5 C5 mv5=>⟨ρ5,s5,q.2,q.1,C5,(mv.trans C3.2).trans mv5,h2⟩
       |exc _ _ _=>rw[hc]at h2;cases h2
       |stuck=>rw[hc]at h2;cases h2
   . cases h2
end
section
variable (K:KF)(mg:Str->Option Value)(Φ:Calls)(G:Str->Option Val)
noncomputable def uE(e:Ex):L2.TE:=fun σ H Q=>∃env s,tV K mg env s (evE Φ G env e s) σ H Q
noncomputable def uT(e:Cn):L2.TT:=fun σ H Q=>∃env s,tT K mg env s (evT Φ G env e s) σ H Q
noncomputable def uI(it:Itb):L2.TI:=fun σ H R=>∃env s,tI (K:=K) (mg:=mg) env s (xB Φ G env it s) σ H R
noncomputable def uTs:Cns->List L2.TT
 |.nil=>[]
 |.cons e es=>uT K mg Φ G e::uTs es
end
section
variable {K:KF}{mg:Str->Option Value}{Φ:Calls}{G:Str->Option Val}
theorem Tw{X:L2.Cx}{e:Ex}{E:Expr}(h:∀env s,L2.PE X E (tV X.K X.mg env s (evE Φ G env e s))):L2.PE X E (uE X.K X.mg Φ G e):=fun pins s σ H Q I ⟨env,t,q⟩=>h env t pins s σ H Q I q
theorem RW{X:L2.Cx}{e:Cn}{E:Expr}(h:∀env s,L2.PT X E (tT X.K X.mg env s (evT Φ G env e s))):L2.PT X E (uT X.K X.mg Φ G e):=fun pins s σ H Q I ⟨env,t,q⟩=>h env t pins s σ H Q I q
theorem Vh{X:L2.Cx}{it:Itb}{tg E:Expr}(h:∀env s,L2.PI X tg E (tI (K:=X.K) (mg:=X.mg) env s (xB Φ G env it s))):L2.PI X tg E (uI X.K X.mg Φ G it):=fun pins s σ H Q I ⟨env,t,q⟩=>h env t pins s σ H Q I q
theorem lC{s2:Sto}{env:Env}{σ:L2.St}{b:Bool}{Q:Bool->L2.Hp->Prop}:∀{es:Cns} {ρ:Own} {s:Sto} {H:L2.Hp},HR K mg ρ s H->ER K mg ρ H env σ->wI Φ G env es s=.ok b s2 ->
 (∀ρ' H',Ext ρ H ρ' H'->HR K mg ρ' s2 H'->Q b H')->L2.nJ (uTs K mg Φ G es) σ H Q
 |.nil,ρ,s,H,hr,er,h,q=>by
  rw[wI]at h;cases h
  exact q ρ H Ext.refl hr
 |.cons e es,ρ,s,H,hr,er,h,q=>by
  rw[wI]at h
  refine⟨env,s,ρ,hr,er,?_⟩
  cases hc:evT Φ G env e s with
  |ok c s1=>
   rw[hc]at h
   intro ρ1 c' H1 x1 hr1 e1
   cases e1
   cases c with
   |true=>exact L2.oW (lC hr1 (er.mono x1) h fun ρ' H' x' hr'=>q ρ' H' (x1.trans hr1 x') hr')
   |false=>
    simp only[zX]at h
    cases h
    exact L2.sR (q ρ1 H1 x1 hr1)
  |exc _ _ _=>rw[hc]at h;cases h
  |stuck=>rw[hc]at h;cases h
noncomputable def u9(Φ:Calls)(G:Str->Option Val)(elt:Ex)(ifs:Cns):Env->Sto->List Val->Out (List Val × Env):=fun e s' acc=>(wI Φ G e ifs s').bind fun b s2=>if b then (evE Φ G e elt s2).bind fun v s3=>.ok (acc++[v],e) s3 else .ok (acc,e) s2
theorem sN{elt:Ex}{ifs:Cns}:Grows (u9 Φ G elt ifs):=by
 intro e s a p s' h
 unfold u9 at h
 cases hc:wI Φ G e ifs s with
 |ok b s1=>
  rw[hc]at h
  cases b with
  |true=>
   simp only[zX,if_true]at h
   cases hv:evE Φ G e elt s1 with
   |ok v s2=>rw[hv]at h;cases h;simp
   |exc _ _ _=>rw[hv]at h;cases h
   |stuck=>rw[hv]at h;cases h
  |false=>simp only[zX]at h;cases h;exact Ag _
 |exc _ _ _=>rw[hc]at h;cases h
 |stuck=>rw[hc]at h;cases h
theorem lE{acc:Addr}{ρ0:Own}{H0:L2.Hp}(hn:H0 acc=none){elt:Ex}{ifs:Cns}:BodyOk K mg acc ρ0 H0 (u9 Φ G elt ifs) (L2.tTB (uTs K mg Φ G ifs) (L2.pT acc (uE K mg Φ G elt))):=by
 intro ρ s H env σ a p s' D C h hz q
 unfold u9 at h
 cases hc:wI Φ G env ifs s with
 |ok b s1=>
  rw[hc]at h
  refine lC (ρ:=ρ) (s:=s) C.hr C.er hc fun ρ1 H1 x1 hr1=>?_
  have hacc1:∃ys,H1 acc=some (.lst ys)/\RDs K mg ρ1 H1 a ys:=by
   obtain⟨ys,e1,e2⟩:=C.ac
   exact⟨ys,x1.keep _ _ e1 (C.hr.hid acc C.lp.here).2,e2.mono x1⟩
  cases b with
  |true=>
   simp only[zX,if_true]at h
   refine L2.oW ⟨env,s1,ρ1,hr1,C.er.mono x1,?_⟩
   cases hv:evE Φ G env elt s1 with
   |ok v s2=>
    rw[hv]at h
    cases h
    intro ρ2 y H2 x2 hr2 r2
    have xx:=x1.trans hr1 x2
    have lp2:=C.lp.step C.hr xx
    obtain⟨ys,e1,e2⟩:=hacc1
    have e3:H2 acc=some (.lst ys):=x2.keep _ _ e1 (hr1.hid acc (C.lp.step C.hr x1).here).2
    have e4:=e2.mono x2
    have hl:ys.length<AA:=by
     have h1:(a++[v]).length<=zU:=hz
     rw[Ap,e2.length,yo]at h1
     simp at h1;omega
    have mv2:=jX (H1:=H2) hr2 lp2.here (.lst (ys++[y]))
    refine⟨ys,e3,hl,q ρ2 _ σ ⟨lp2.emit hr2 hn _,hr2.emit lp2.here,⟨C.er.len,fun i v' e'=>?_⟩,⟨_,L2.zN,RDs.mv mv2 (e4.append (.cons r2 .nil))⟩⟩ (xx.mv.trans mv2)⟩
    obtain⟨u,h1,h2⟩:=(C.er.mono xx).at_ i v' e'
    exact⟨u,h1,RD.mv mv2 h2⟩
   |exc _ _ _=>rw[hv]at h;cases h
   |stuck=>rw[hv]at h;cases h
  |false=>
   simp only[zX]at h
   cases h
   exact L2.sR (q ρ1 H1 σ ⟨C.lp.step C.hr x1,hr1,C.er.mono x1,hacc1⟩ x1.mv)
 |exc _ _ _=>rw[hc]at h;cases h
 |stuck=>rw[hc]at h;cases h
theorem gq{ρ:Own}{H:L2.Hp}{env:Env}{σ:L2.St}(er:ER K mg ρ H env σ)(fr:List (Option Nat)):ER K mg ρ H (zT fr env) (L2.zT fr σ):=by
 refine⟨by unfold zT L2.zT;rw[Ai,Ai],fun i v e=>?_⟩
 unfold zT at e
 unfold L2.zT
 rw[AQ]at e ⊢
 cases hf:fr[i]? with
 |none=>rw[hf]at e;cases e
 |some o=>
  rw[hf]at e
  cases o with
  |none=>cases e
  |some j=>
   have e':(env[j]?).join=some v:=AG e
   have e2:env[j]?=some (some v):=by
    cases h1:env[j]? with
    |none=>rw[h1]at e';cases e'
    |some w=>rw[h1]at e';have:w=some v:=e';rw[this]
   obtain⟨x,h1,h2⟩:=er.at_ j v e2
   refine⟨x,?_,h2⟩
   show some ((σ[j]?).join)=_
   rw[h1];rfl
theorem pA{fr:List (Option Nat)}{it:Itb}{t:Tgt}{g:L2.TG}{ts:List L2.TT}{tb:Addr->L2.TB}{body:Env->Sto->List Val->Out (List Val × Env)}{m:Bool}{env:Env}{s:Sto}(TG:qW K mg t g)(hg:Grows body)
 (hb:∀acc ρ0 H0,H0 acc=none->BodyOk K mg acc ρ0 H0 body (L2.tTB ts (tb acc))) {σ:L2.St} {H:L2.Hp} {Q:L2.VK} {chk:Bool}
 (h:tV K mg env s ((xB Φ G env it s).bind fun r s1=>(yg r t body r.xs (zT fr env) s1 []).bind fun p s2=>if chk=true->p.1.length<=zU then newList m p.1 s2 else .stuck) σ H Q)
 (hlen:chk=false->∀r s1 p s2,yg r t body r.xs (zT fr env) s1 []=.ok p s2->p.1.length<=r.xs.length):L2.sJ fr (uI K mg Φ G it) g ts tb σ H Q:=by
 obtain⟨ρ,hr,er,w⟩:=h
 refine⟨env,s,ρ,hr,er,?_⟩
 cases hi:xB Φ G env it s with
 |ok r s1=>
  rw[hi]at w
  simp only[zX]at w
  intro ρ1 H1 J x1 hr1 W acc hacc
  cases hl:yg r t body r.xs (zT fr env) s1 [] with
  |ok p s2=>
   rw[hl]at w
   simp only[zX]at w
   have hz:p.1.length<=zU/\ym K mg (RD K mg) ρ H (newList m p.1 s2) Q:=by
    by_cases hc:chk=true->p.1.length<=zU
    . rw[if_pos hc]at w
      refine⟨?_,w⟩
      cases chk with
      |true=>exact hc rfl
      |false=>exact Ax (hlen rfl r s1 p s2 hl) W.len
    . rw[if_neg hc]at w;exact w.elim
   have mv:=oP (ρ:=ρ1) hr1 hacc (.lst [])
   have ers:=gq (er.mono x1) fr
   refine tL (ρ0:=ρ1) (H0:=H1) (W.mv mv) TG hg (hb acc ρ1 H1 hacc) ⟨Lp.start hr1 hacc _,hr1.hide hacc,⟨ers.len,fun i v e=>?_⟩,⟨[],L2.zN,.nil⟩⟩ hl hz.1 fun ρ3 H3 σ3 C3 _=>?_
   . obtain⟨x,h1,h2⟩:=ers.at_ i v e
     exact⟨x,h1,RD.mv mv h2⟩
   . obtain⟨ys,e1,e2⟩:=C3.ac
     exact C3.lp.done hr1 hacc C3.hr e1 e2 (hz.2.mono x1 hr1)
  |exc _ _ _=>rw[hl]at w;exact w.elim
  |stuck=>rw[hl]at w;exact w.elim
 |exc _ _ _=>rw[hi]at w;exact w.elim
 |stuck=>rw[hi]at w;exact w.elim
theorem sC{r:Src}{t:Tgt}{elt:Ex}{ifs:Cns}:∀{xs:List Val} {env:Env} {s:Sto} {a:List Val} {p:List Val × Env} {s':Sto},yg r t (u9 Φ G elt ifs) xs env s a=.ok p s'->p.1.length<=a.length+xs.length
 |[],env,s,a,p,s',h=>by
  rw[yg]at h
  split at h
  . cases h;exact Ag _
  . cases h
 |x::xs,env,s,a,p,s',h=>by
  rw[yg]at h
  split at h
  . split at h
    . cases h
    . rename_i env' he
      cases hc:u9 Φ G elt ifs env' s a with
      |ok q s1=>
       rw[hc]at h
       have h1:=sC h
       have h2:q.1.length<=a.length+1:=by
        unfold u9 at hc
        cases h3:wI Φ G env' ifs s with
        |ok b s2=>
         rw[h3]at hc
         cases b with
         |true=>
          simp only[zX,if_true]at hc
          cases h4:evE Φ G env' elt s2 with
          |ok v s3=>rw[h4]at hc;cases hc;simp
          |exc _ _ _=>rw[h4]at hc;cases hc
          |stuck=>rw[h4]at hc;cases hc
         |false=>simp only[zX]at hc;cases hc;exact Dg _
        |exc _ _ _=>rw[h3]at hc;cases hc
        |stuck=>rw[h3]at hc;cases hc
       rw[Ar];omega
      |exc _ _ _=>rw[hc]at h;cases h
      |stuck=>rw[hc]at h;cases h
  . cases h
end
end M
end
section
namespace M
open PySem PySem.W
def qT(K:KF)(mg:Str->Option Value)(ρ:Own)(H:L2.Hp)(x:rC)(E:L2.XK):Prop:=match x with
 |some (c,_,s')=>∀ρ' H',Ext ρ H ρ' H'->HR K mg ρ' s' H'->∀C,mg c=some (.ref C)->E (.ref C) none H'
 |Ab=>False
noncomputable def spX(T:Tbl)(K:KF)(mg:Str->Option Value)(n:Nat)(f:Str)(ver:Nat):L2.Sp:=fun vs H Q E=>∃ρ s args,HR K mg ρ s H/\RDs K mg ρ H args vs/\(ym K mg (RD K mg) ρ H (zE T n f ver args s) Q\/qT K mg ρ H (zm T n f ver args s) E)
structure Sc(T:Tbl)(K:KF)(mg:Str->Option Value):Prop where
 ex:∃(kx:Str) (cs ws:List Str) (pre:Option Str) (hue:Addr),mg "HueError"=some (.ref hue)/\L2.pv K mg kx cs ws pre/\(∀b,T.md b=true->∃f,L2.fI K mg b kx f) /\
  (∀c w,T.xc.lookup c=some w->∃(C:Addr) (i:Nat) (x:Str),mg c=some (.ref C)/\(∃Kc,L2.qV Kc K/\exmOne Kc (.ref C) (.ref hue)=some true)/\L2.Named K mg cs C c/\cs[i]?=some c/\ws[i]?=some x/\w=L2.ans pre x/\w≠"great") /\
  ∀c w,T.xc.lookup c=some w->∀base,K.In base->∃C,mg c=some (.ref C)/\L2.ClsAt base C (.ref hue::L2.veM)/\L2.ClsAt base hue L2.veM
 bm:∀base,K.In base->L2.Bm base mg
structure Lv(T:Tbl)(P:Program)(w:World)(K:KF)(mg:Str->Option Value)(base:Heap)(n:Nat):Prop where
 ex:∀f v F,T.fn f v=some F->∃fa fd,mg f=some (.ref fa)/\B7 K (.ref fa)=true/\L2.Binds K fd F.ps []/\L2.uP P w K mg base L2.CX0 n fa fd F.ps (spN T K mg n f v)/\L2.uP P w K mg base (L2.CXE P w) n fa fd F.ps (spX T K mg n f v)
structure Sd(T:Tbl)(P:Program)(w:World)(K:KF)(mg:Str->Option Value)(base:Heap)(m:Nat):Prop where
 sc:Sc T K mg
 lv:∀j,j<=m->Lv T P w K mg base j
def Cod(T:Tbl)(X:L2.Cx):Prop:=∃g∈T.tb,∃(fa c:Addr) (o:Obj) (fd:Bu),X.mg g=some (.ref fa)/\X.K.lookup fa=some o/\o.data=.func fd/\fd.code=.ref c/\X.env.code=.ref c/\X.env.qual=g++(".<locals>.":Str)
theorem n6:∀{l:List Str} {s:Sto} {g:Str},yM l s=true->g∈l->∃j:Nat,s[j]?=some (.tb g)
 |[],_,_,_,h=>by cases h
 |x::r,[],_,h,_=>by cases h
 |x::r,c::s,g,h,hm=>by
  cases c with
  |tb y=>
   rw[yM,Aa,decide_eq_true_eq]at h
   rcases Al.mp hm with z|z
   . subst z;rw[h.1];exact⟨0,rfl⟩
   . obtain⟨j,e⟩:=n6 h.2 z
     exact⟨j+1,e⟩
  |_=>cases h
section
variable {K:KF}{mg:Str->Option Value}{ρ:Own}{H H':L2.Hp}{s:Sto}
theorem HR.SU(h:HR K mg ρ s H)(sm:L2.xt H H'):HR K mg ρ s H'/\Ext ρ H ρ H':=by
 have X:Ext ρ H ρ H':=⟨⟨[],by simp,fun a ha=>by cases ha⟩,rfl,fun a o e _=>sm a o e,fun a ha=>by
  obtain⟨o,e⟩:=h.trk ha
  rw[e,sm a o e]⟩
 refine⟨⟨h.len,h.nd,fun i c e=>?_,fun a ha=>?_⟩,X⟩
 . obtain⟨a,e1,r⟩:=h.cel i c e
   obtain⟨o,e2⟩:=r.there
   exact⟨a,e1,r.mv X.mv (by rw[e2,sm a o e2])⟩
 . obtain⟨⟨xs,e⟩,n⟩:=h.hid a ha
   exact⟨⟨xs,sm _ _ e⟩,n⟩
theorem pW{l:List Value}(h:DZ l):l=[]\/∃(i j:Int) (t u:Tok) (c:Value) (r:List Value),l=.int i t::.int j u::c::r/\DZ r:=by
 unfold DZ at h
 split at h
 . exact .inl rfl
 . exact .inr ⟨_,_,_,_,_,_,rfl,h⟩
 . exact h.elim
theorem pV{i j:Int}{t u:Tok}{c:Value}:∀(n:Nat) {l:List Value},l.length<=n->DZ l->DZ (l++[.int i t,.int j u,c])
 |n,l,hl,h=>by
  rcases pW h with rfl|⟨i',j',t',u',c',r,rfl,h'⟩
  . exact Bh
  . cases n with
    |zero=>cases hl
    |succ n=>exact pV n (l:=r) (by simp only[Ar]at hl;omega) h'
theorem rH{pos:Pos}{c cv:Value}{i j:Int}{t u:Tok}:∀(n:Nat) {l:List Value},l.length<=n->DZ l->DY pos (l++[.int i t,.int j u,c])=some cv->DY pos l=some cv\/cv=c
 |n,l,hl,h,e=>by
  rcases pW h with rfl|⟨i',j',t',u',c',r,rfl,h'⟩
  . have e':(if i == pos.line&&j == pos.col then some c else none)=some cv:=e
    split at e'
    . cases e';exact .inr rfl
    . cases e'
  . have e':(if i' == pos.line&&j' == pos.col then some c' else DY pos (r++[.int i t,.int j u,c]))=some cv:=e
    show (if i' == pos.line&&j' == pos.col then some c' else DY pos r)=some cv\/_
    cases n with
    |zero=>cases hl
    |succ n=>
     split at e'
     . rename_i z;rw[if_pos z];exact .inl e'
     . rename_i z;rw[if_neg z];exact rH n (l:=r) (by simp only[Ar]at hl;omega) h' e'
theorem HR.lam{P c:Addr}{ps:Array Value}{pos:Pos}{g:Str}{j:Nat}(h:HR K mg ρ s H)(hs:s[j]?=some (.tb g))(hj:ρ.o[j]?=some P)(tr:UQ K mg ρ H P g)(hP:H P=some (.tbl ps))(l:L2.UL H P ps pos (Wy g) c H'):HR K mg ρ s H'/\Ext ρ H ρ H':=by
 rcases l with rfl|⟨o,vs,t,hf,hc,hd,hv,rfl⟩
 . exact⟨h,Ext.refl⟩
 . obtain⟨ps',e1,tok,among,fn⟩:=tr
   rw[hP]at e1;cases e1
   have hcP:c≠P:=fun z=>by rw[z,hP]at hc;cases hc
   have comm:L2.upd (L2.upd H P (.tbl (ps++#[rawInt pos.line,rawInt pos.col,.ref c]))) c (.frz o (.own 0))=L2.upd (L2.upd H c (.frz o (.own 0))) P (.tbl (ps++#[rawInt pos.line,rawInt pos.col,.ref c])):=by
    funext b
    unfold L2.upd
    by_cases z1:b=c
    . subst z1;rw[if_pos rfl,if_neg hcP,if_pos rfl]
    . rw[if_neg z1]
      by_cases z2:b=P
      . rw[if_pos z2,if_pos z2]
      . rw[if_neg z2,if_neg z2,if_neg z1]
   rw[comm]
   have h1:=h.more hc (.frz o (.own 0))
   have X1:=Ext.new h hc (.frz o (.own 0))
   have hP1:L2.upd H c (.frz o (.own 0)) P=some (.tbl ps):=by rw[L2.zI (Bq hcP)];exact hP
   have kk:hk (some (.tbl (ps++#[rawInt pos.line,rawInt pos.col,.ref c])))=hk (L2.upd H c (.frz o (.own 0)) P):=by rw[hP1];rfl
   have X2:=Ext.sD h1 hj kk
   have hnoc:ρ.no c:=h.new hc
   have kc:∀b u,ρ.no b->H b=some u->L2.upd (L2.upd H c (.frz o (.own 0))) P (.tbl (ps++#[rawInt pos.line,rawInt pos.col,.ref c])) b=some u:=fun b u nb e=>X2.keep b u (X1.keep b u e nb.1) nb.1
   refine⟨?_,X1.trans h1 X2⟩
   have hr:=h1.sD (c:=.tb g) hj kk ⟨_,L2.zN,?_,fun pos' cv hcv=>?_,fn⟩
   . rw[show s.set j (.tb g)=s from ?_]at hr
     . exact hr
     . refine FX fun i=>?_
       by_cases z:j=i
       . subst z;rw[AR (As.mp hs).1,hs]
       . rw[BK z]
   . rw[Array.toList_append];exact pV _ (Ag _) tok
   . rw[Array.toList_append]at hcv
     rcases rH _ (Ag _) tok hcv with z|z
     . obtain⟨b,ob,vb,tb,q1,q2,q3,q4⟩:=among pos' cv z
       exact⟨b,ob,vb,tb,q1,q2,kc b _ q2 q3,q4⟩
     . exact⟨c,o,vs,t,z,hnoc,X2.keep c _ L2.zN hnoc.1,hd,hv⟩
end
noncomputable def xy(cells:List (Str × Addr)):List (Str × Bn)->List (Str × Addr)->List (Str × Addr)
 |[],acc=>acc
 |(x,k)::r,acc=>xy cells r (if k == .free then (x,(cells.lookup x).getD 0)::acc else acc)
theorem ao{lsc:Scope}{env:BJ}(h:∀x∈lsc.names,x.2=.free->∃c,env.cells.lookup x.1=some c):GX lsc env=pure (xy env.cells lsc.names []):=by
 have key:∀(names:List (Str × Bn)) (acc:List (Str × Addr)),(∀x∈names,x.2=.free->∃c,env.cells.lookup x.1=some c) ->
  (forIn names acc fun(x:Str × Bn) (cs:List (Str × Addr))=>(do if x.2 == .free then pure (Cm ((x.1,<-cellOf env x.1)::cs)) else pure (Cm cs):Sem (ForInStep (List (Str × Addr)))))=pure (xy env.cells names acc):=by
  intro names
  induction names with
  |nil=>intro acc _;rfl
  |cons p r ih=>
   obtain⟨x,k⟩:=p
   intro acc hh
   rw[EV]
   by_cases hk:k=.free
   . subst hk
     obtain⟨c,hc⟩:=hh (x,.free) (Av ..) rfl
     have e:cellOf env x=pure c:=by unfold cellOf;rw[hc]
     have e2:xy env.cells ((x,.free)::r) acc=xy env.cells r ((x,c)::acc):=by
      show xy env.cells r ((x,(env.cells.lookup x).getD 0)::acc)=_
      rw[hc];rfl
     rw[e2]
     simp only[show ((AK == AK)=true) from rfl,if_true,e,EH]
     exact ih _ fun y hy=>hh y (Ao _ hy)
   . have hb:(k == AK)=false:=by simpa using hk
     have e2:xy env.cells ((x,k)::r) acc=xy env.cells r acc:=by
      show xy env.cells r (if k == .free then _ else acc)=_
      rw[hb];rfl
     rw[e2]
     simp only[hb,AV,if_false,EH]
     exact ih _ fun y hy=>hh y (Ao _ hy)
 unfold GX
 have:=key lsc.names [] h
 simpa using this
theorem qy{cells:List (Str × Addr)}:∀{names:List (Str × Bn)} {acc:List (Str × Addr)} {x:Str} {b:Addr},(x,b)∈xy cells names acc->(x,b)∈acc\/((x,AK)∈names/\b=(cells.lookup x).getD 0)
 |[],_,_,_,h=>.inl h
 |(y,k)::r,acc,x,b,h=>by
  rcases qy (names:=r) h with z|z
  . by_cases hk:k=.free
    . subst hk
      rcases Al.mp z with z|z
      . cases z;exact .inr ⟨Av ..,rfl⟩
      . exact .inl z
    . have hb:(k == AK)=false:=by simpa using hk
      rw[hb]at z
      exact .inl z
  . exact .inr ⟨Ao _ z.1,z.2⟩
theorem qx{cells:List (Str × Addr)}:∀{names:List (Str × Bn)} {acc:List (Str × Addr)} {x:Str} {b:Addr},(x,b)∈acc->(x,b)∈xy cells names acc
 |[],_,_,_,h=>h
 |(y,k)::r,acc,x,b,h=>qx (names:=r) (by
  split
  . exact Ao _ h
  . exact h)
theorem tK{cells:List (Str × Addr)}:∀{names:List (Str × Bn)} {acc:List (Str × Addr)} {x:Str},(x,AK)∈names->(x,(cells.lookup x).getD 0)∈xy cells names acc
 |(y,k)::r,acc,x,h=>by
  rcases Al.mp h with z|z
  . cases z;exact qx (names:=r) (Av ..)
  . exact tK (names:=r) z
theorem lookup_mem{α:Type}{l:List (Str × α)}{x:Str}{b:α}(h:(x,b)∈l):∃c,l.lookup x=some c:=by
 cases e:l.lookup x with
 |some c=>exact⟨c,rfl⟩
 |none=>
  rw[Gu]at e
  have:=e _ h
  simp at this
end M
end
section
namespace L2
open PySem PySem.Spec PyProof.Rows
def UM(tabs:List Addr)(H:Hp):Prop:=∀b,H b=none\/(∃o xs,H b=some (.frz o (.lst xs)))\/(b∈tabs/\H b=some (.tbl #[]))
theorem hJ{P:Program}{w:World}{K:Af}{mg mb:Str->Option Value}{CX:CXT}{k:Nat}{fa a:Addr}{fd:Bu}{x:Str}{sp:Sp}{s₁:Shared}{vs:List Value}{ns:List Int}{tabs:List Addr}
 (KX:K.In s₁.heap) (hns:s₁.heap.Ns AN mg) (hb:s₁.heap.Ns FY mb) (hbb:∀x:Str,x≠"__name__"->mb x=Cf x) (hlim:s₁.heap.NoLimit) (hg:s₁.gens=#[])
 (ha:s₁.heap.get? a=some {cls:=.type "list",data:=.seq vs.toArray}) (hi:IntsAre vs ns) (hl:ns.length<=AA) (hr:yu k callerA)
 (ht:∀b∈tabs,s₁.heap.get? b=some (Ff #[])/\K.lookup b=none/\GH s₁.heap b)
 (F:∀base:Heap,K.In base->base.Ns AN mg->uP P w K mg base CX k fa fd [x] sp) (hbind:∀(s:Shared) (u:Value),BindsTo s fd ⟨[u],[]⟩ [(x,u)])
 (hsp:∀H:Hp,(∀b∈tabs,H b=some (.tbl #[]))->SqL K H a (ns.map V.int)->sp [.ref a] H (fun v _=>v=.bl true) fun _ _ _=>False)
 (hCX:∀H e s',CX [] H s₁ (fun _ _ _=>False) e s'->False) :
 codeAny (model P w) callerA (.call (.ref fa) ⟨[.ref a],[]⟩) (fun r s'=>r=.ok (.ret (.bool true))/\OldK s₁.heap s'.heap/\s'.os=s₁.os/\AllBare s'.gens) s₁:=by
 have rv:=pZ hi
 have lenV:=hi.length
 have nat:a ∉ tabs:=fun z=>by
  have:=(ht a z).1
  rw[ha]at this;cases this
 have core:∀H:Hp,UM tabs H->(∀b∈tabs,H b=some (.tbl #[]))->SqL K H a (ns.map V.int)->HOk P w H s₁.heap->(∀b,H b≠none->b=a\/b∈tabs)->(H a≠none->K.lookup a=none) ->
  codeAny (model P w) callerA (.call (.ref fa) ⟨[.ref a],[]⟩) (fun r s'=>r=.ok (.ret (.bool true))/\OldK s₁.heap s'.heap/\s'.os=s₁.os/\AllBare s'.gens) s₁:=by
  intro H hO hT hS hok hA hK
  have sW:∀{b:Addr} {o:Obj},s₁.heap.get? b=some o->H b=none->(oO s₁.heap H).get? b=some o:=fun e n=>ey e n
  have noA:∀{b:Addr} {o:Obj} {es:Array Gw} {ep:Nat},s₁.heap.get? b=some o->o.data=.dict es ep->H b=none:=fun{b o es ep} e d=>by
   cases q:H b with
   |none=>rfl
   |some u=>
    rcases hA b (by rw[q];simp) with e'|e'
    . subst e'
      rw[ha]at e;cases e
      have d':Data.seq vs.toArray _=Data.dict es ep:=d
      cases d'
    . rw[(ht b e').1]at e;cases e
      have d':GG #[]=Data.dict es ep:=d
      cases d'
  have nsK:∀{b:Addr} {m:Str->Option Value},s₁.heap.Ns b m->(oO s₁.heap H).Ns b m:=fun{b m} ⟨o,es,ep,e,d,r⟩=>⟨o,es,ep,sW e (noA e d),d,r⟩
  have hKb:K.In (oO s₁.heap H):=fun b o e=>sW (KX b o e) (by
   cases q:H b with
   |none=>rfl
   |some u=>
    rcases hA b (by rw[q];simp) with e'|e'
    . subst e'
      rw[hK (by rw[q];simp)]at e;cases e
    . rw[(ht b e').2.1]at e;cases e)
  have hM:Mod K mg (oO s₁.heap H):=⟨hKb,nsK hns,⟨mb,nsK hb,hbb⟩,let ⟨mc,h1,h2⟩:=hlim;⟨mc,nsK h1,h2⟩⟩
  have e0:lK P w K mg (oO s₁.heap H) callerA [] s₁ H:=⟨rfl,hM,fun b o e=>Zx e,EZ (ip _ _),trivial,fun b hb=>absurd (show b∈([]:List Addr) from hb) (by simp),hok,.of_eq hg⟩
  refine CI ((F _ hKb (nsK hns)).run callerA [] s₁ H ⟨[.ref a],[]⟩ [.ref a] [.ref a] _ _ hr e0 (hbind s₁ (.ref a)) (.cons rfl .nil) (hsp H hT hS)) fun r s' h=>?_
  cases r with
  |error e=>exact(hCX H e s' h).elim
  |ok fl=>
   cases fl with
   |next=>exact AF h
   |brk=>exact AF h
   |cont=>exact AF h
   |ret u=>
    obtain⟨v,H',os,bare,un,hok',r',q⟩:=h
    have q':v=.bl true:=q
    subst q'
    obtain rfl:u=CB true:=r'
    have all:∀b o,s₁.heap.get? b=some o->asItWas s₁.heap s'.heap b o:=fun b o e=>by
     cases q:H b with
     |none=>exact .inl (un.keep b o e q (by intro z;exact absurd (show b∈([]:List Addr) from z) (by simp)) (by simp))
     |some u=>
      rcases hO b with z|⟨ob,xs,z⟩|⟨z1,z⟩
      . rw[q]at z;cases z
      . have z2:=un.frzs b ob _ z
        obtain⟨e1,_⟩:=hok b _ z
        obtain⟨e2,_⟩:=hok' b _ z2
        rw[e]at e1;cases e1
        exact .inl e2
      . obtain⟨more,z2⟩:=un.tbls b _ z
        have e2:s'.heap.get? b=some (Ff (#[]++more)):=hok' b _ z2
        obtain⟨t1,_,t3⟩:=ht b z1
        rw[e]at t1;cases t1
        exact .inr (.inl ⟨t3,rfl,#[],more,rfl,e2⟩)
    exact⟨rfl,⟨all,fun b o e=>by
     rcases all b o e with z|⟨_,_,_,_,_,z⟩|⟨_,_,⟨o',_,_,z,_⟩,_⟩
     . exact⟨_,z⟩
     . exact⟨_,z⟩
     . exact⟨_,z⟩⟩,os,bare⟩
 cases hk:K.lookup a with
 |some o=>
  have e:=KX a o hk
  rw[ha]at e
  cases e
  refine core (fun b=>if b∈tabs then some (.tbl #[]) else none) (fun b=>?_) (fun b hb=>if_pos hb) (.inr ⟨_,vs.toArray,_,hk,rfl,rfl,rfl,by rw[Ah,lenV];exact hl,by simpa using rv⟩) (fun b u z=>?_) (fun b z=>?_) fun z=>?_
  . by_cases hb:b∈tabs
    . exact .inr (.inr ⟨hb,if_pos hb⟩)
    . exact .inl (if_neg hb)
  . by_cases hb:b∈tabs
    . have z':=(if_pos hb).symm.trans z
      cases z'
      exact(ht b hb).1
    . have z':=(if_neg hb).symm.trans z
      cases z'
  . by_cases hb:b∈tabs
    . exact .inr hb
    . exact absurd (if_neg hb) z
  . exact absurd (if_neg nat) z
 |none=>
  refine core (fun b=>if b=a then some (.frz {cls:=.type "list",data:=.seq vs.toArray} (.lst (ns.map V.int))) else if b∈tabs then some (.tbl #[]) else none) (fun b=>?_) (fun b hb=>(if_neg (fun z=>nat (by rw[<-z];exact hb))).trans (if_pos hb)) (.inl (.inr ⟨{cls:=.type "list",data:=.seq vs.toArray},if_pos rfl⟩)) (fun b u z=>?_) (fun b z=>?_) fun _=>hk
  . by_cases hb:b=a
    . exact .inr (.inl ⟨_,_,if_pos hb⟩)
    . by_cases hb2:b∈tabs
      . exact .inr (.inr ⟨hb2,(if_neg hb).trans (if_pos hb2)⟩)
      . exact .inl ((if_neg hb).trans (if_neg hb2))
  . by_cases hb:b=a
    . have z':=(if_pos hb).symm.trans z
      cases z'
      subst hb
      exact⟨ha,by rw[Ai];exact hl,vs,_,rv,ha⟩
    . by_cases hb2:b∈tabs
      . have z':=((if_neg hb).trans (if_pos hb2)).symm.trans z
        cases z'
        exact(ht b hb2).1
      . have z':=((if_neg hb).trans (if_neg hb2)).symm.trans z
        cases z'
  . by_cases hb:b=a
    . exact .inl hb
    . by_cases hb2:b∈tabs
      . exact .inr hb2
      . exact absurd ((if_neg hb).trans (if_neg hb2)) z
end L2
end
section
namespace M
open PySem
noncomputable def mB(sc:Scope)(x:Str):Bool:=decide (sc.names.lookup x=some .local)||decide (sc.names.lookup x=some .cell)||decide (sc.names.lookup x=some .free)
noncomputable def xj(sc:Scope)(x:Str):Bool:=decide (sc.names.lookup x=some .globalImplicit)
noncomputable def xw:List Str:=["len","all","any","tuple","list","sorted","repr","max","min","sum","int","isinstance","divmod","str","bool","dict","set","range","enumerate","zip"]
noncomputable def Sw(y:Str)(n:String):Bool:=(decide (y="int")&&decide (n="int"))||(decide (y="bool")&&decide (n="bool"))||(decide (y="str")&&decide (n="str"))||(decide (y="list")&&decide (n="list"))||(decide (y="tuple")&&decide (n="tuple"))||(decide (y="dict")&&decide (n="dict"))
noncomputable def vC:Val->Option Const
 |.none=>some .none
 |.bool b=>some (.bool b)
 |.int i=>some (.int i)
 |.str x=>some (.str x)
 |_=>none
noncomputable def UX(v:Val)(e:Expr):Bool:=a0 e fun c _ _=>decide (vC v=some c)
noncomputable def isLit:Ex->Int->Bool
 |.lit (.int i),j=>decide (i=j)
 |_,_=>false
noncomputable def WE:Ex->Bool
 |.lit (.str _)=>true
 |_=>false
theorem ZS{e:Ex}(h:WE e=true):∃t,e=.lit (.str t):=by
 unfold WE at h
 split at h
 . exact⟨_,rfl⟩
 . cases h
noncomputable def dD:Ex->Bool
 |.lit .none=>true
 |_=>false
theorem dE{e:Ex}(h:dD e=true):e=.lit .none:=by
 unfold dD at h
 split at h
 . rfl
 . cases h
noncomputable def eSd(e:Expr)(k:Str->BV->Str->List Expr->Scope->Bool):Bool:=eCN e fun x xs=>l1 xs fun l=>Uh l fun a b lsc _=>eCN b fun y ys=>k x a y ys lsc
theorem ZE{e:Expr}{k:Str->BV->Str->List Expr->Scope->Bool}(h:eSd e k=true):∃x a y ys lsc p1 p2 p3 p4 p5,e=.Call (.Name x p1) [.Lambda a (.Call (.Name y p2) ys [] p3) lsc p4] [] p5/\k x a y ys lsc=true:=by
 obtain⟨x,p1,xs,p5,rfl,h1⟩:=yn h
 obtain⟨l,rfl,h2⟩:=yf h1
 obtain⟨a,b,lsc,p4,rfl,h3⟩:=eN h2
 obtain⟨y,p2,ys,p3,rfl,h4⟩:=yn h3
 exact⟨x,a,y,ys,lsc,p1,p2,p3,p4,p5,rfl,h4⟩
noncomputable def tH(a:BV):Bool:=a.posonlyargs.isEmpty&&a.args.isEmpty&&a.vararg.isNone&&a.kwonlyargs.isEmpty&&a.kw_defaults.isEmpty&&a.kwarg.isNone&&a.defaults.isEmpty
noncomputable def nh(sc lsc:Scope):Bool:=decide (lsc.kind=.function)&&!lsc.isCoroutine&&!lsc.isGenerator&&lsc.names.all (fun y=>decide (y.2=.globalImplicit)||(decide (y.2=.free)&&(decide (sc.names.lookup y.1=some .cell)||decide (sc.names.lookup y.1=some .free))))&&lsc.names.any (fun y=>decide (y.2=.free)&&decide (sc.names.lookup y.1=some .cell))
noncomputable def okV:Bool:=false
noncomputable def Rn:Exs->Bool
 |.cons (.var _) _=>true
 |_=>false
mutual
noncomputable def sim:Ex->Bool
 |.lit _|.var _|.gl _=>true
 |.bin m _ a b=>!m&&sim a&&sim b
 |.neg a=>sim a
 |.tup es=>tm es
 |.lst m es=>!m&&tm es
 |.ix a b=>sim a&&sim b
 |_=>false
noncomputable def tm:Exs->Bool
 |.nil=>true
 |.cons e es=>sim e&&tm es
end
noncomputable def ckA(sc:Scope)(f:Str)(q:List Expr->Bool)(e:Expr):Bool:=eCN e fun x xs=>decide (x=f)&&xj sc x&&!(x == ("__debug__":Str))&&q xs&&zg xs
noncomputable def ckB(sc:Scope)(N:List Str)(f:Str)(ver:Nat)(es:Exs)(q:Scope->List Expr->Bool)(e:Expr):Bool:=eSd e fun x a y ys lsc=>decide (x=L2.yb (decide (ver=101)))&&xj sc x&&tH a&&nh sc lsc&&decide (y=f)&&xj lsc y&&!(y == ("__debug__":Str))&&tm es&&q lsc ys&&zg ys&&!ys.isEmpty&&decide (("!":Str)∈N)
noncomputable def ckV(sc:Scope)(N:List Str)(ver:Nat)(es:Exs)(q:Scope->List Expr->Bool)(e:Expr):Bool:=(okV&&Rn es)&&eSd e fun x a y ys lsc=>decide (x=L2.yb (decide (ver=301)))&&xj sc x&&tH a&&nh sc lsc&&tm es&&q lsc (.Name y default::ys)&&zg ys&&!ys.isEmpty&&decide (("!":Str)∈N)&&decide (ver≠200)
mutual
noncomputable def ck(sc:Scope)(N:List Str):Ex->Expr->Bool
 |.lit v,e=>UX v e
 |.var i,e=>(eName e fun x _=>decide (N[i]?=some x)&&mB sc x&&!(x == ("__debug__":Str))&&!(x == ("__classdict__":Str)))
 |.gl y,e=>(eName e fun x _=>decide (x=y)&&xj sc x&&!(x == ("__debug__":Str)))
 |.ty y n,e=>(eName e fun x _=>decide (x=y)&&xj sc x&&Sw y n)
 |.bin _ op a b,e=>(Ub e fun l o r _=>(okB op&&decide (o=op.op))&&ck sc N a l&&ck sc N b r)
 |.neg a,e=>(eOp .USub e fun x=>ck sc N a x)
 |.not a,e=>(eOp .Not e fun x=>ck sc N a x)
 |.cmp op a b,e=>(eC1 e fun l o r=>(okC op&&decide (o=op.op))&&ck sc N a l&&ck sc N b r&&plain r)
 |.chain op op' a b c,e=>(eC2 e fun l o o' r r'=>(okC op&&decide (o=op.op))&&(okC op'&&decide (o'=op'.op))&&ck sc N a l&&ck sc N b r&&ck sc N c r'&&plain r')
 |.andE a es,e=>(eBl .And e fun x xs=>ck sc N a x&&ckL sc N es xs)
 |.orE _ _,_=>false
 |.ife c a b,e=>(Ug e fun t x y _=>ckC sc N c t&&ck sc N a x&&ck sc N b y)
 |.tup es,e=>(ZG e fun xs _ _=>ckL sc N es xs&&zg xs)
 |.lst _ es,e=>(Ui e fun xs _=>ckL sc N es xs&&zg xs)
 |.dct0,e=>(eD0 e)
 |.dctN _,e=>(eD0 e)
 |.ixD _ _,_=>false
 |.call f ver es,e=>if ver<100 then ckA sc f (fun xs=>ckL sc N es xs) e else if ver<200 then ckB sc N f ver es (fun l ys=>ckL l N es ys) e else ckV sc N ver es (fun l ys=>ckL l N es ys) e
 |.blt f _ es,e=>(eCN e fun x xs=>lc xs fun y ys=>(okF f&&decide (x=f.nm))&&xj sc x&&ckL sc N es (y::ys)&&zg (y::ys))
 |.maxD _ _,_=>false
 |.xF f _ o es,e=>(eMt e fun ob x ap y cp=>decide (x=f.nm)&&ck sc N o ob&&ckL sc N es [y]&&plain y&&oh ob&&(ap.endLine == cp.line)&&okM f)
 |.ix a b,e=>(ZF e fun l r _=>ck sc N a l&&ck sc N b r&&plain r)
 |.sl _ a lo hi st,e=>(eSS e fun l x y z=>ck sc N a l&&ckO sc N lo x&&ckO sc N hi y&&ckO sc N st z)
 |.comp _ N' fr elt t it ifs,e=>(eG1 e fun x tg iter fs csc=>L2.rP sc N N' csc fr&&decide N'.Nodup&&ckT csc N' t tg&&ckI sc N it iter tg&&fm csc N' ifs fs&&ck csc N' elt x&&plain iter)
 |.comp2 _ _ _ _ _ _ _ _ _ _,_=>false
 |.listRange _ z a w,e=>(eCN e fun x xs=>l1 xs fun i=>eCN i fun y ys=>lc ys fun c ds=>if ds.isEmpty then (if WE w then dD z&&decide (x="len")&&decide (y="set") else false)&&xj sc x&&xj sc y&&ck sc N a c&&plain c else false)
noncomputable def ckL(sc:Scope)(N:List Str):Exs->List Expr->Bool
 |.nil,es=>es.isEmpty
 |.cons a as,es=>(lc es fun e es=>ck sc N a e&&ckL sc N as es)
noncomputable def ckO(sc:Scope)(N:List Str):OEx->Option Expr->Bool
 |.no,e=>e.isNone
 |.yes a,e=>(o1 e fun e=>ck sc N a e)
noncomputable def ckC(sc:Scope)(N:List Str):Cn->Expr->Bool
 |.val a,e=>ck sc N a e&&(plainT e||decide (e.ctorIdx=15))
 |.not c,e=>(eOp .Not e fun x=>ckC sc N c x)
 |.and c cs,e=>(eBl .And e fun x xs=>ckC sc N c x&&fm sc N cs xs)
 |.or c cs,e=>(eBl .Or e fun x xs=>ckC sc N c x&&fm sc N cs xs)
noncomputable def fm(sc:Scope)(N:List Str):Cns->List Expr->Bool
 |.nil,es=>es.isEmpty
 |.cons a as,es=>(lc es fun e es=>ckC sc N a e&&fm sc N as es)
noncomputable def ckI(sc:Scope)(N:List Str):Itb->Expr->Expr->Bool
 |.val a,e,_=>ck sc N a e
 |.range1 a,e,_=>(eCN e fun x xs=>l1 xs fun y=>decide (x="range")&&xj sc x&&ck sc N a y&&plain y)
 |.range2 a b,e,_=>(eCN e fun x xs=>lc xs fun y ys=>l1 ys fun z=>decide (x="range")&&xj sc x&&ck sc N a y&&ck sc N b z&&plain y&&plain z)
 |.enum a,e,tg=>(decide (tg.ctorIdx=25)&&eCN e fun x xs=>l1 xs fun y=>decide (x="enumerate")&&xj sc x&&ck sc N a y&&plain y)
 |.zip _ _,_,_=>false
end
structure Ok(T:Tbl)(n:Nat)(sc:Scope)(N:List Str)(X:L2.Cx):Prop where
 calm:X.calm=true
 room:L2.yu n X.A
 scp:Scp sc N X
 fns:∀f v F,T.fn f v=some F->Callee T n X f v F
 gls:∀x v,T.gl x=some v->∃u xv,X.mg x=some u/\L2.RelV xv u/\∀ρ H,RD X.K X.mg ρ H v xv
 blt:∀x∈xw,X.mg x=none
 xe:X.xe=fun _ _=>False
 no:∀f v,100<=v->T.fn f v=none
 sd:∀m,n=m+1->(∃b,T.md b=true)->Sd T X.prog X.w X.K X.mg X.base m
 cod:(∃b,T.md b=true)->(∃x,sc.names.lookup x=some .cell)->("!":Str)∈N->Cod T X
theorem Yv{sc:Scope}{N N':List Str}{csc:Scope}{fr:List (Option Nat)}{X:L2.Cx}(S:Scp sc N X)(h:L2.rP sc N N' csc fr=true):L2.z7 X N' csc fr:=by
 unfold L2.rP at h
 simp only[Aa,AI,AL,decide_eq_true_eq,AW]at h
 obtain⟨⟨⟨⟨⟨⟨⟨a1,a2⟩,a3⟩,a4⟩,a5⟩,a6⟩,a7⟩,a8⟩:=h
 refine⟨a1,fun x h1 h2=>(a2 _ h1).elim (fun z=>z rfl) fun z=>z _ h2 rfl,fun x hx hk=>?_,fun x hx hk=>?_,a5,fun i j x e1 e2=>?_,fun x e1 e2=>?_⟩
 . rcases a3 x hx with z|z
   . exact absurd hk z
   . exact z
 . rcases a4 x hx with z|z
   . exact absurd hk z
   . exact S.cf x.1 z
 . have hi:i<N'.length:=(As.mp e1).1
   have q:=a6 i hi
   rw[e1,e2]at q
   simp only[Aa,decide_eq_true_eq,BL]at q
   obtain⟨q1,y,q2,q3,q4⟩:=q
   refine⟨by rw[S.hN];exact q1,?_⟩
   have:y=(x,AK):=Et q3 q4
   rw[<-this];exact q2
 . rcases a7 (x,.free) e2 with z|z
   . exact z rfl
   . exact z e1
theorem wY{sc:Scope}{env:BJ}{x:Str}(h:sc.names.lookup x=some .local):(relabel sc env).names.lookup x=some .local:=lookup_relabel_local h
theorem kO{sc:Scope}{env:BJ}{x:Str}(h:sc.names.lookup x=some .globalImplicit):(relabel sc env).names.lookup x=some .globalImplicit:=by
 have key:∀(names:List (Str × Bn)),names.lookup x=some .globalImplicit->(names.map fun(n,k)=>if (k == AK&&env.scope.kind == .function&&env.kindOf n == some .cell) then (n,Bo) else (n,k)).lookup x=some .globalImplicit:=by
  intro names
  induction names with
  |nil=>intro h;simp at h
  |cons p r ih=>
   obtain⟨n,k⟩:=p
   intro h
   rw[AJ]
   dsimp only
   cases hx:(x == n) with
   |true=>
    rw[Au,hx]at h
    cases h
    have e:(Ee == AK)=false:=rfl
    rw[e]
    simp only[Dl,AV,if_false,Au,hx]
   |false=>
    rw[Au,hx]at h
    have:=ih h
    split<;>simpa only[Au,hx] using this
 exact key sc.names h
theorem Scp.comp{sc:Scope}{N N':List Str}{csc:Scope}{fr:List (Option Nat)}{X:L2.Cx}(S:Scp sc N X)(hc:L2.z7 X N' csc fr)(nd:N'.Nodup)(C:Addr)(s0:Shared)(H0:L2.Hp)(ex:List Addr):Scp csc N' (X.comp N' csc C s0 H0 ex):=by
 refine⟨rfl,nd,fun x h=>?_,fun x h=>?_,fun x h=>?_,fun x h=>?_⟩
 . rcases h with h|h|h
   . exact .inl (wY h)
   . exact .inr (.inl (L2.vB h))
   . exact(L2.uw hc.locals h).elim (fun z=>.inr (.inl z)) fun z=>.inr (.inr z)
 . rcases h with h|h
   . exact⟨.inl (wY h),.inr (wY h)⟩
   . exact⟨.inr (L2.vB h),.inl (BL.mpr ⟨_,A0 h,decide_eq_true rfl⟩)⟩
 . exact kO h
 . rcases h with h|h
   . exact .inl (L2.vB h)
   . exact L2.uw hc.locals h
theorem Callee.comp{T:Tbl}{n:Nat}{X:L2.Cx}{f:Str}{v:Nat}{F:Fn}(c:Callee T n X f v F)(N':List Str)(csc:Scope)(C:Addr)(s0:Shared)(H0:L2.Hp)(ex:List Addr):Callee T n (X.comp N' csc C s0 H0 ex) f v F:=⟨c.ex⟩
theorem Ok.comp{T:Tbl}{n:Nat}{sc:Scope}{N N':List Str}{csc:Scope}{fr:List (Option Nat)}{X:L2.Cx}(o:Ok T n sc N X)(hc:L2.z7 X N' csc fr)(nd:N'.Nodup)(hck:L2.rP sc N N' csc fr=true)(C:Addr)(s0:Shared)(H0:L2.Hp)(ex:List Addr):Ok T n csc N' (X.comp N' csc C s0 H0 ex):=
 ⟨o.calm,o.room,o.scp.comp hc nd C s0 H0 ex,fun f v F h=>(o.fns f v F h).comp N' csc C s0 H0 ex,o.gls,o.blt,rfl,o.no,o.sd,fun hmd _ h=>by
  unfold L2.rP at hck
  simp only[Aa,BL,AL,decide_eq_true_eq]at hck
  rcases hck.2 with z|⟨z1,y,_,z2⟩
  . exact absurd h z
  . exact o.cod hmd ⟨y.1,z2⟩ z1⟩
end M
end
section
namespace M
open PySem
section
variable {T:Tbl}{n:Nat}
def JE(T:Tbl)(n:Nat)(a:Ex):Prop:=∀(sc:Scope) (N:List Str) (X:L2.Cx) (e:Expr),Ok T n sc N X->ck sc N a e=true->∀env s,L2.PE X e (tV X.K X.mg env s (evE (zE T n) T.gl env a s))
def JL(T:Tbl)(n:Nat)(a:Exs):Prop:=∀(sc:Scope) (N:List Str) (X:L2.Cx) (es:List Expr),Ok T n sc N X->ckL sc N a es=true ->
 (zg es=true->∀env s,L2.PA X es (tVs X.K X.mg env s (zo (zE T n) T.gl env a s))) /\
 (∀e es' pos,es=e::es'->∀env s,L2.PE X (.BoolOp .And es pos) (tV X.K X.mg env s (sH (zE T n) T.gl env a s))) /\
 (∀e es' pos,es=e::es'->∀env s,L2.PE X (.BoolOp .Or es pos) (tV X.K X.mg env s (nv (zE T n) T.gl env a s))) /\
 (∀y,es=[y]->plain y=true->∃b,a=.cons b .nil/\∀env s,L2.PE X y (tV X.K X.mg env s (evE (zE T n) T.gl env b s)))
def JO(T:Tbl)(n:Nat)(a:OEx):Prop:=∀(sc:Scope) (N:List Str) (X:L2.Cx) (e:Option Expr),Ok T n sc N X->ckO sc N a e=true->(∀env s,L2.PO X e (tO X.K X.mg env s (evO (zE T n) T.gl env a s))) /\
 ((e=none/\∀env s1,evO (zE T n) T.gl env a s1=.ok none s1)\/∃e',e=some e'/\∀env s1 s2,evO (zE T n) T.gl env a s1≠.ok none s2)
def JC(T:Tbl)(n:Nat)(a:Cn):Prop:=∀(sc:Scope) (N:List Str) (X:L2.Cx) (e:Expr),Ok T n sc N X->ckC sc N a e=true->∀env s,L2.PT X e (tT X.K X.mg env s (evT (zE T n) T.gl env a s))
def JCs(T:Tbl)(n:Nat)(a:Cns):Prop:=∀(sc:Scope) (N:List Str) (X:L2.Cx) (es:List Expr),Ok T n sc N X->fm sc N a es=true ->
 (∀pos env s,L2.PW X (.BoolOp .And es pos) (tT X.K X.mg env s (wI (zE T n) T.gl env a s)))/\(∀pos env s,L2.PW X (.BoolOp .Or es pos) (tT X.K X.mg env s (sO (zE T n) T.gl env a s)))/\L2.PTs X es (uTs X.K X.mg (zE T n) T.gl a)
def JI(T:Tbl)(n:Nat)(a:Itb):Prop:=∀(sc:Scope) (N:List Str) (X:L2.Cx) (e tg:Expr),Ok T n sc N X->ckI sc N a e tg=true->∀env s,L2.PI X tg e (tI (K:=X.K) (mg:=X.mg) env s (xB (zE T n) T.gl env a s))
theorem dY{v:Val}:JE T n (.lit v):=by
 intro sc N X e o h env s
 show L2.PE X e (tV X.K X.mg env s (.ok v s))
 replace h:=rS h
 obtain⟨c,k,p,rfl,h⟩:=h
 have h:=of_decide_eq_true h
 cases v with
 |none=>cases h;exact zb L2.Vb fun σ H Q ⟨ρ,hr,er,w⟩=>zM hr .none w
 |bool b=>cases h;exact zb L2.bC fun σ H Q ⟨ρ,hr,er,w⟩=>zM hr (.bool _) w
 |int i=>cases h;exact zb L2.bJ fun σ H Q ⟨ρ,hr,er,w⟩=>zM hr (.int _) w
 |str x=>cases h;exact zb L2.tS fun σ H Q ⟨ρ,hr,er,w⟩=>zM hr (.str _) w
 |_=>cases h
theorem de{i:Nat}:JE T n (.var i):=by
 intro sc N X e o h env s
 replace h:=y0 h
 obtain⟨x,p,rfl,h⟩:=h
 simp only[Aa,decide_eq_true_eq,mB,AL,AX]at h
 obtain⟨⟨⟨h1,h2⟩,h3⟩,h4⟩:=h
 have hv:L2.Vis X.env.scope x:=o.scp.vis x (by rcases h2 with (z|z)|z;exact .inl z;exact .inr (.inl z);exact .inr (.inr z))
 show L2.PE X _ (tV X.K X.mg env s (match env[i]? with|some (some v)=>.ok v s|_=>.stuck))
 refine zb (L2.vX (i:=i) (by rw[o.scp.hN];exact h1) hv h3 h4) fun σ H Q ⟨ρ,hr,er,w⟩=>?_
 split at w
 . rename_i v e
   obtain⟨x',h5,h6⟩:=er.at_ i v e
   exact⟨x',h5,zM hr h6 w⟩
 . exact w.elim
theorem XF{y:Str}:JE T n (.gl y):=by
 intro sc N X e o h env s
 replace h:=y0 h
 obtain⟨x,p,rfl,h⟩:=h
 simp only[Aa,decide_eq_true_eq,xj,AX]at h
 obtain⟨⟨h1,h2⟩,h3⟩:=h
 subst h1
 show L2.PE X _ (tV X.K X.mg env s (match T.gl x with|some v=>.ok v s|Ab=>.stuck))
 cases hv:T.gl x with
 |none=>exact zJ (zF rfl)
 |some v=>
  obtain⟨u,xv,e1,e2,e3⟩:=o.gls x v hv
  exact zb (L2.YB (o.scp.gl x h2) e1 e2 h3) fun σ H Q ⟨ρ,hr,er,w⟩=>zM hr (e3 ρ H) w
theorem U4{y:Str}{m:String}:JE T n (.ty y m):=by
 intro sc N X e o h env s
 replace h:=y0 h
 obtain⟨x,p,rfl,h⟩:=h
 simp only[Aa,decide_eq_true_eq,xj]at h
 obtain⟨⟨h1,h2⟩,h3⟩:=h
 subst h1
 show L2.PE X _ (tV X.K X.mg env s (.ok (.ty m) s))
 have key:x∈xw/\Cf x=some (.type m)/\x≠"__name__"/\(x == ("__debug__":Str))=false:=by
  unfold Sw at h3
  simp only[AL,Aa,decide_eq_true_eq]at h3
  rcases h3 with ((((⟨rfl,rfl⟩|⟨rfl,rfl⟩)|⟨rfl,rfl⟩)|⟨rfl,rfl⟩)|⟨rfl,rfl⟩)|⟨rfl,rfl⟩
  . exact⟨by decide,PyProof.Rows.boot_int,by decide,by decide⟩
  . exact⟨by decide,PyProof.Rows.boot_bool,by decide,by decide⟩
  . exact⟨by decide,PyProof.Rows.boot_str,by decide,by decide⟩
  . exact⟨by decide,PyProof.Rows.boot_list,by decide,by decide⟩
  . exact⟨by decide,Gs,by decide,by decide⟩
  . exact⟨by decide,PyProof.Rows.boot_dict,by decide,by decide⟩
 exact zb (L2.Tv (o.scp.gl x h2) (o.blt x key.1) key.2.1 key.2.2.1 key.2.2.2) fun σ H Q ⟨ρ,hr,er,w⟩=>zM hr (.ty _) w
theorem Zg{t:Bool}:JE T n (.dctN t):=by
 intro sc N X e o h env s
 obtain⟨p,rfl⟩:=jV h
 show L2.PE X _ (tV X.K X.mg env s (.ok (.dref s.length) (s++[if t then .dT [] else .dS []])))
 cases t with
 |true=>exact zb L2.bI fun σ H Q ⟨ρ,hr,er,w⟩ p hp=>w _ _ _ (Ext.own hr hp _) (hr.wW hp ⟨[],L2.zN,rfl,.nil⟩) (.dref (sj hr p) (by rw[L2.zN];decide))
 |false=>exact zb L2.bH fun σ H Q ⟨ρ,hr,er,w⟩ p hp=>w _ _ _ (Ext.own hr hp _) (hr.wW hp ⟨[],L2.zN,rfl,.nil⟩) (.dref (sj hr p) (by rw[L2.zN];decide))
theorem Zf:JE T n .dct0:=by
 intro sc N X e o h env s
 obtain⟨p,rfl⟩:=jV h
 show L2.PE X _ (tV X.K X.mg env s (.ok .dct0 s))
 exact zb (L2.YA fun pins σ H s I=>I.big) fun σ H Q ⟨ρ,hr,er,w⟩ p hp=>w _ _ _ (Ext.new hr hp _) (hr.more hp _) (.dct0 (hr.new hp) L2.zN)
theorem nk{op:Cop}{x y v:Val}{s s':Sto}(h:zQ op x y s=.ok v s'):∃b,v=.bool b:=by
 unfold zQ at h
 split at h<;>(split at h<;>first|(cases h;exact⟨_,rfl⟩)|cases h|(split at h<;>first|(cases h;exact⟨_,rfl⟩)|cases h|(split at h<;>first|(cases h;exact⟨_,rfl⟩)|cases h|(split at h<;>first|(cases h;exact⟨_,rfl⟩)|cases h))))
theorem qS{K:KF}{mg:Str->Option Value}{ρ:Own}{H:L2.Hp}{o:Out Val}{Q:Bool->L2.Hp->Prop}(hb:∀v s',o=.ok v s'->∃b,v=.bool b)(w:ym K mg (fun _ _ a b=>a=b) ρ H o.truth Q):ym K mg (RD K mg) ρ H o fun x H'=>∃k,x=.bl k/\Q k H':=by
 cases o with
 |ok v s1=>
  obtain⟨b,rfl⟩:=hb v s1 rfl
  intro ρ1 x H1 x1 hr1 r1
  cases r1
  exact⟨b,rfl,w _ _ _ x1 hr1 rfl⟩
 |exc _ _ _=>exact w
 |stuck=>exact w
theorem Wm{X:L2.Cx}{env:Env}{s:Sto}{a b:Expr}{op:Cop}{o:Out Val}{f2:Sto->Out Val}{k:Nat}{pos:Pos}(k1:okC op=true)(hr0:L2.yu k X.A)(h1:L2.PE X a (tV X.K X.mg env s o))(h2:∀s1,L2.PE X b (tV X.K X.mg env s1 (f2 s1)))(hm:plain b=true) :
 L2.PT X (.Compare a [op.op] [b] pos) (tT X.K X.mg env s (o.bind fun x s1=>(f2 s1).bind fun y s2=>zQ op x y s2).truth):=by
 cases o with
 |ok v s1=>
  have h2':=h2 s1
  show L2.PT X _ (tT X.K X.mg env s ((f2 s1).bind fun y s2=>zQ op v y s2).truth)
  cases hb:f2 s1 with
  |ok w s2=>
   rw[hb]at h2'
   exact tU (L2.nA (uH hr0 op k1) h1 h2' (wF hm)) fun σ H Q ⟨ρ,hr,er,wt⟩=>⟨ρ,hr,er,fun ρ1 x H1 x1 hr1 r1=>⟨ρ1,hr1,er.mono x1,fun ρ2 y H2 x2 hr2 r2=>⟨ρ2,s2,v,w,hr2,r1.mono x2,r2,qS (fun _ _ h=>nk h) (wt.mono (x1.trans hr1 x2) hr2)⟩⟩⟩
  |exc _ _ _=>exact yA (zF rfl)
  |stuck=>exact yA (zF rfl)
 |exc _ _ _=>exact yA (zF rfl)
 |stuck=>exact yA (zF rfl)
theorem dj{X:L2.Cx}{env:Env}{s:Sto}{a b c:Expr}{op op':Cop}{o:Out Val}{f2 f3:Sto->Out Val}{k:Nat}{pos:Pos}(k1:okC op=true)(k2:okC op'=true)(hr0:L2.yu k X.A)(h1:L2.PE X a (tV X.K X.mg env s o))(h2:∀s1,L2.PE X b (tV X.K X.mg env s1 (f2 s1)))(h3:∀s1,L2.PE X c (tV X.K X.mg env s1 (f3 s1)))(hm:plain c=true) :
 L2.PT X (.Compare a [op.op,op'.op] [b,c] pos) (tT X.K X.mg env s (o.bind fun x s1=>(f2 s1).bind fun y s2=>(zQ op x y s2).bind fun r s3=>match r with
  |.bool true=>(f3 s3).bind fun z s4=>zQ op' y z s4
  |.bool false=>.ok (.bool false) s3
  |_=>.stuck).truth):=by
 cases o with
 |ok v s1=>
  have h2':=h2 s1
  show L2.PT X _ (tT X.K X.mg env s ((f2 s1).bind _).truth)
  cases hb:f2 s1 with
  |ok w s2=>
   rw[hb]at h2'
   show L2.PT X _ (tT X.K X.mg env s ((zQ op v w s2).bind _).truth)
   cases hc:zQ op v w s2 with
   |ok r s3=>
    cases r with
    |bool t=>
     have h3':=h3 s3
     have rule:=L2.bT (pos:=pos) (uH hr0 op k1) (uH hr0 op' k2) h1 h2' h3' (show G6 [op.op,op'.op] [b,c]=false from wF hm)
     refine tU rule fun σ H Q ⟨ρ,hr,er,wt⟩=>⟨ρ,hr,er,fun ρ1 x H1 x1 hr1 r1=>⟨ρ1,hr1,er.mono x1,fun ρ2 y H2 x2 hr2 r2=>⟨ρ2,s2,v,w,hr2,r1.mono x2,r2,?_⟩⟩⟩
     rw[hc]
     intro ρ3 z H3 x3 hr3 r3
     cases r3
     refine⟨t,rfl,?_⟩
     have xx:=(x1.trans hr1 x2).trans hr2 x3
     have wt':=wt.mono xx hr3
     cases t with
     |true=>
      rw[if_pos rfl]
      refine⟨ρ3,hr3,er.mono xx,?_⟩
      have wt2:ym X.K X.mg (fun _ _ a b=>a=b) ρ3 H3 ((f3 s3).bind fun z s4=>zQ op' w z s4).truth Q:=wt'
      cases hz:f3 s3 with
      |ok u s4=>
       rw[hz]at wt2
       exact fun ρ4 q H4 x4 hr4 r4=>⟨ρ4,s4,w,u,hr4,(r2.mono x3).mono x4,r4,qS (fun _ _ h=>nk h) (wt2.mono x4 hr4)⟩
      |exc _ _ _=>rw[hz]at wt2;exact wt2
      |stuck=>rw[hz]at wt2;exact wt2
     |false=>
      rw[if_neg Aj]
      exact⟨false,rfl,wt' _ _ _ Ext.refl hr3 rfl⟩
    |_=>exact yA (zF rfl)
   |exc _ _ _=>exact yA (zF rfl)
   |stuck=>exact yA (zF rfl)
  |exc _ _ _=>exact yA (zF rfl)
  |stuck=>exact yA (zF rfl)
 |exc _ _ _=>exact yA (zF rfl)
 |stuck=>exact yA (zF rfl)
theorem Wd{op:Cop}{a b:Ex}(ja:JE T n a)(jb:JE T n b):JC T n (.val (.cmp op a b)):=by
 intro sc N X e o h env s
 replace h:=oK (zW h).1
 obtain⟨_,_,_,_,rfl,h1⟩:=h
 simp only[Aa,decide_eq_true_eq]at h1
 obtain⟨⟨⟨⟨k1,rfl⟩,h3⟩,h4⟩,h5⟩:=h1
 exact Wm k1 o.room (ja _ _ _ _ o h3 env s) (fun s1=>jb _ _ _ _ o h4 env s1) h5
theorem dR{op op':Cop}{a b c:Ex}(ja:JE T n a)(jb:JE T n b)(jc:JE T n c):JC T n (.val (.chain op op' a b c)):=by
 intro sc N X e o h env s
 replace h:=jU (zW h).1
 obtain⟨_,_,_,_,_,_,rfl,h1⟩:=h
 simp only[Aa,decide_eq_true_eq]at h1
 obtain⟨⟨⟨⟨⟨⟨k1,rfl⟩,k2,rfl⟩,h3⟩,h4⟩,h5⟩,h6⟩:=h1
 exact dj k1 k2 o.room (ja _ _ _ _ o h3 env s) (fun s1=>jb _ _ _ _ o h4 env s1) (fun s1=>jc _ _ _ _ o h5 env s1) h6
noncomputable def XA:Ex->Bool
 |.cmp ..|.chain ..=>true
 |_=>false
theorem fo{sc:Scope}{N:List Str}{a:Ex}{l:Expr}{os:List CmpOp}{rs:List Expr}{p:Pos}(h:ck sc N a (.Compare l os rs p)=true):XA a=true:=by
 cases a with
 |cmp _ _ _=>rfl
 |chain _ _ _ _ _=>rfl
 |call f v es=>
  replace h:(if v<100 then ckA sc f (fun xs=>ckL sc N es xs) (.Compare l os rs p) else if v<200 then ckB sc N f v es (fun l ys=>ckL l N es ys) (.Compare l os rs p) else ckV sc N v es (fun l ys=>ckL l N es ys) (.Compare l os rs p))=true:=h
  split at h
  . cases h
  . split at h
    . cases h
    . exact absurd (show false=true from (zW h).2) Aj
 |_=>cases h
theorem fu{e:Expr}(h:e.ctorIdx=15):∃l os rs p,e=.Compare l os rs p:=FT (motive_1:=fun e=>∃l os rs p,e=Expr.Compare l os rs p) e h fun l os rs p=>⟨l,os,rs,p,rfl⟩
theorem z6{a:Ex}(ja:JE T n a)(hn:XA a=false):JC T n (.val a):=by
 intro sc N X e o h env s
 obtain⟨h1,h2⟩:=zW h
 have je:=ja sc N X e o h1 env s
 rcases (AL _ _).mp h2 with h2|h2
 . exact Wo h2 je
 . obtain⟨l,os,rs,p,rfl⟩:=fu (of_decide_eq_true h2)
   rw[fo h1]at hn
   cases hn
end
end M
end
section
namespace M
open PySem
section
variable {T:Tbl}{n:Nat}
theorem dI{m:Bool}{op:Bop}{a b:Ex}(ja:JE T n a)(jb:JE T n b):JE T n (.bin m op a b):=by
 intro sc N X e o h env s
 replace h:=nq h
 obtain⟨l,o1,r,p,rfl,h⟩:=h
 simp only[Aa,decide_eq_true_eq]at h
 obtain⟨⟨⟨k1,rfl⟩,h1⟩,h2⟩:=h
 exact Xq (ja _ _ _ _ o h1 env s) (fun s1=>jb _ _ _ _ o h2 env s1) fun ta tb pa pb=>L2.mX (cZ m op k1) pa pb
theorem dM{a:Ex}(ja:JE T n a):JE T n (.neg a):=by
 intro sc N X e o h env s
 replace h:=sY h
 obtain⟨x,p,rfl,h⟩:=h
 exact Wg (ja _ _ _ _ o h env s)
theorem WV{es:Exs}(jl:JL T n es):JE T n (.tup es):=by
 intro sc N X e o h env s
 replace h:=uZ h
 obtain⟨xs,k,p,rfl,h⟩:=h
 simp only[Aa]at h
 exact la ((jl _ _ _ _ o h.1).1 h.2 env s)
theorem WT{m:Bool}{es:Exs}(jl:JL T n es):JE T n (.lst m es):=by
 intro sc N X e o h env s
 replace h:=nu h
 obtain⟨xs,p,rfl,h⟩:=h
 simp only[Aa]at h
 exact dZ ((jl _ _ _ _ o h.1).1 h.2 env s)
theorem XE{a b:Ex}(ja:JE T n a)(jb:JE T n b):JE T n (.ix a b):=by
 intro sc N X e o h env s
 replace h:=rT h
 obtain⟨l,r,p,rfl,h⟩:=h
 simp only[Aa]at h
 exact Xq (ja _ _ _ _ o h.1.1 env s) (fun s1=>jb _ _ _ _ o h.1.2 env s1) fun ta tb pa pb=>L2.XU Uw pa pb (bP h.2)
end
section
variable {Φ Φ':Calls}{G:Str->Option Val}{env:Env}
mutual
theorem tZ:∀(a:Ex) (s:Sto),sim a=true->evE Φ G env a s=evE Φ' G env a s
 |.lit _,_,_=>rfl
 |.var _,_,_=>rfl
 |.gl _,_,_=>rfl
 |.bin m op a b,s,h=>by
  simp only[sim,Aa]at h
  show (evE Φ G env a s).bind _=(evE Φ' G env a s).bind _
  rw[tZ a s h.1.2]
  exact congrArg _ (funext fun x=>funext fun s1=>by rw[tZ b s1 h.2])
 |.neg a,s,h=>by
  simp only[sim]at h
  show (evE Φ G env a s).bind _=(evE Φ' G env a s).bind _
  rw[tZ a s h]
 |.tup es,s,h=>by
  simp only[sim]at h
  show (zo Φ G env es s).bind _=(zo Φ' G env es s).bind _
  rw[sr es s h]
 |.lst m es,s,h=>by
  simp only[sim,Aa]at h
  show (zo Φ G env es s).bind _=(zo Φ' G env es s).bind _
  rw[sr es s h.2]
 |.ix a b,s,h=>by
  simp only[sim,Aa]at h
  show (evE Φ G env a s).bind _=(evE Φ' G env a s).bind _
  rw[tZ a s h.1]
  exact congrArg _ (funext fun x=>funext fun s1=>by rw[tZ b s1 h.2])
 |.ty _ _,_,h=>by cases h
 |.not _,_,h=>by cases h
 |.cmp _ _ _,_,h=>by cases h
 |.chain _ _ _ _ _,_,h=>by cases h
 |.andE _ _,_,h=>by cases h
 |.orE _ _,_,h=>by cases h
 |.ife _ _ _,_,h=>by cases h
 |.dct0,_,h=>by cases h
 |.call _ _ _,_,h=>by cases h
 |.blt _ _ _,_,h=>by cases h
 |.maxD _ _,_,h=>by cases h
 |.xF _ _ _ _,_,h=>by cases h
 |.sl _ _ _ _ _,_,h=>by cases h
 |.comp _ _ _ _ _ _ _,_,h=>by cases h
 |.comp2 _ _ _ _ _ _ _ _ _ _,_,h=>by cases h
 |.listRange _ _ _ _,_,h=>by cases h
 |.dctN _,_,h=>by cases h
 |.ixD _ _,_,h=>by cases h
theorem sr:∀(es:Exs) (s:Sto),tm es=true->zo Φ G env es s=zo Φ' G env es s
 |.nil,_,_=>rfl
 |.cons e es,s,h=>by
  simp only[tm,Aa]at h
  show (evE Φ G env e s).bind _=(evE Φ' G env e s).bind _
  rw[tZ e s h.1]
  exact congrArg _ (funext fun x=>funext fun s1=>by rw[sr es s1 h.2])
end
theorem qB{vs:List Val}{s s':Sto}{v:Val}(h:newList false vs s=.ok v s'):s'=s:=by
 simp only[newList,AV,if_false]at h
 cases h;rfl
theorem fU{op:Bop}{x y v:Val}{s s':Sto}(h:binOp false op x y s=.ok v s'):s'=s:=by
 unfold binOp at h
 split at h<;>(repeat' split at h)<;>first|exact qB h|(cases h;rfl)|cases h
theorem ZT{x y v:Val}{s s':Sto}(h:wU x y s=.ok v s'):s'=s:=by
 unfold wU at h
 split at h
 . split at h
   . split at h
     . cases h;rfl
     . cases h
   . cases h
 . cases h
theorem yL{α β:Type}{o:Out α}{f:α->Sto->Out β}{b:β}{s:Sto}(h:o.bind f=.ok b s):∃a s1,o=.ok a s1/\f a s1=.ok b s:=by
 cases o with
 |ok a s1=>exact⟨a,s1,rfl,h⟩
 |exc _ _ _=>cases h
 |stuck=>cases h
mutual
theorem tj:∀(a:Ex) (s s':Sto) (v:Val),sim a=true->evE Φ G env a s=.ok v s'->s'=s
 |.lit _,_,_,_,_,h=>by cases h;rfl
 |.var i,s,s',v,_,h=>by
  have key:∀o:Option (Option Val),(match o with|some (some v)=>Out.ok v s|_=>.stuck)=.ok v s'->s'=s:=fun o h=>by
   cases o with
   |none=>cases h
   |some o=>cases o with
    |none=>cases h
    |some w=>cases h;rfl
  exact key _ h
 |.gl x,s,s',v,_,h=>by
  have key:∀o:Option Val,(match o with|some v=>Out.ok v s|Ab=>.stuck)=.ok v s'->s'=s:=fun o h=>by
   cases o with
   |none=>cases h
   |some w=>cases h;rfl
  exact key _ h
 |.bin m op a b,s,s',v,z,h=>by
  simp only[sim,Aa,AX]at z
  obtain⟨⟨rfl,z1⟩,z2⟩:=z
  obtain⟨x,s1,e1,h⟩:=yL h
  obtain⟨y,s2,e2,h⟩:=yL h
  rw[fU h,tj b _ _ _ z2 e2,tj a _ _ _ z1 e1]
 |.neg a,s,s',v,z,h=>by
  simp only[sim]at z
  obtain⟨x,s1,e1,h⟩:=yL h
  rw[<-tj a _ _ _ z e1]
  split at h
  . cases h;rfl
  . cases h
 |.tup es,s,s',v,z,h=>by
  simp only[sim]at z
  obtain⟨x,s1,e1,h⟩:=yL h
  rw[<-su es _ _ _ z e1]
  split at h
  . cases h;rfl
  . cases h
 |.lst m es,s,s',v,z,h=>by
  simp only[sim,Aa,AX]at z
  obtain⟨rfl,z⟩:=z
  obtain⟨x,s1,e1,h⟩:=yL h
  rw[<-su es _ _ _ z e1]
  split at h
  . exact qB h
  . cases h
 |.ix a b,s,s',v,z,h=>by
  simp only[sim,Aa]at z
  obtain⟨x,s1,e1,h⟩:=yL h
  obtain⟨y,s2,e2,h⟩:=yL h
  rw[ZT h,tj b _ _ _ z.2 e2,tj a _ _ _ z.1 e1]
 |.ty _ _,_,_,_,h,_=>by cases h
 |.not _,_,_,_,h,_=>by cases h
 |.cmp _ _ _,_,_,_,h,_=>by cases h
 |.chain _ _ _ _ _,_,_,_,h,_=>by cases h
 |.andE _ _,_,_,_,h,_=>by cases h
 |.orE _ _,_,_,_,h,_=>by cases h
 |.ife _ _ _,_,_,_,h,_=>by cases h
 |.dct0,_,_,_,h,_=>by cases h
 |.call _ _ _,_,_,_,h,_=>by cases h
 |.blt _ _ _,_,_,_,h,_=>by cases h
 |.maxD _ _,_,_,_,h,_=>by cases h
 |.xF _ _ _ _,_,_,_,h,_=>by cases h
 |.sl _ _ _ _ _,_,_,_,h,_=>by cases h
 |.comp _ _ _ _ _ _ _,_,_,_,h,_=>by cases h
 |.comp2 _ _ _ _ _ _ _ _ _ _,_,_,_,h,_=>by cases h
 |.listRange _ _ _ _,_,_,_,h,_=>by cases h
 |.dctN _,_,_,_,h,_=>by cases h
 |.ixD _ _,_,_,_,h,_=>by cases h
theorem su:∀(es:Exs) (s s':Sto) (vs:List Val),tm es=true->zo Φ G env es s=.ok vs s'->s'=s
 |.nil,_,_,_,_,h=>by cases h;rfl
 |.cons e es,s,s',vs,z,h=>by
  simp only[tm,Aa]at z
  obtain⟨x,s1,e1,h⟩:=yL h
  obtain⟨y,s2,e2,h⟩:=yL h
  cases h
  rw[su es _ _ _ z.2 e2,tj e _ _ _ z.1 e1]
end
end
section
variable {T:Tbl}{n:Nat}
mutual
theorem tN:∀(a:Ex),sim a=true->JE T n a
 |.lit _,_=>dY
 |.var _,_=>de
 |.gl _,_=>XF
 |.bin m op a b,h=>by
  simp only[sim,Aa]at h
  exact dI (tN a h.1.2) (tN b h.2)
 |.neg a,h=>dM (tN a (by simpa only[sim] using h))
 |.tup es,h=>by
  simp only[sim]at h
  intro sc N X e o hc env s
  replace hc:=uZ hc
  obtain⟨xs,k,p,rfl,hc⟩:=hc
  simp only[Aa]at hc
  exact la (oq es h _ _ _ _ o hc.1 hc.2 env s)
 |.lst m es,h=>by
  simp only[sim,Aa]at h
  intro sc N X e o hc env s
  replace hc:=nu hc
  obtain⟨xs,p,rfl,hc⟩:=hc
  simp only[Aa]at hc
  exact dZ (oq es h.2 _ _ _ _ o hc.1 hc.2 env s)
 |.ix a b,h=>by
  simp only[sim,Aa]at h
  exact XE (tN a h.1) (tN b h.2)
 |.ty _ _,h=>by cases h
 |.not _,h=>by cases h
 |.cmp _ _ _,h=>by cases h
 |.chain _ _ _ _ _,h=>by cases h
 |.andE _ _,h=>by cases h
 |.orE _ _,h=>by cases h
 |.ife _ _ _,h=>by cases h
 |.dct0,h=>by cases h
 |.call _ _ _,h=>by cases h
 |.blt _ _ _,h=>by cases h
 |.maxD _ _,h=>by cases h
 |.xF _ _ _ _,h=>by cases h
 |.sl _ _ _ _ _,h=>by cases h
 |.comp _ _ _ _ _ _ _,h=>by cases h
 |.comp2 _ _ _ _ _ _ _ _ _ _,h=>by cases h
 |.listRange _ _ _ _,h=>by cases h
 |.dctN _,h=>by cases h
 |.ixD _ _,h=>by cases h
theorem oq:∀(es:Exs),tm es=true->∀(sc:Scope) (N:List Str) (X:L2.Cx) (xs:List Expr),Ok T n sc N X->ckL sc N es xs=true->zg xs=true->∀env s,L2.PA X xs (tVs X.K X.mg env s (zo (zE T n) T.gl env es s))
 |.nil,_=>fun sc N X xs o h hp env s=>by
  cases AY.mp h
  exact jm
 |.cons e es,hs=>fun sc N X xs o h hp env s=>by
  simp only[tm,Aa]at hs
  replace h:=yV h
  obtain⟨y,ys,rfl,h⟩:=h
  rw[zg,Aa]at hp
  exact mC hp.1 (tN e hs.1 _ _ _ _ o (zW h).1 env s) fun s1=>oq es hs.2 _ _ _ _ o (zW h).2 hp.2 env s1
end
end
end M
end
section
namespace M
open PySem PySem.W PyProof.Rows
theorem kD{X:L2.Cx}{es:List Expr}{t:L2.TA}(h:L2.PA X.nox es t):L2.PA X es t:=fun pos pins s σ H Q I hw=>
 Ba (h pos pins s σ H Q (I.wK _) hw) (fun _ _ ⟨vs,H',I',r,q⟩=>⟨vs,H',I'.yx,r,q⟩) fun _ _ z=>AF z
theorem gI{a:BV}(h:tH a=true):a=L2.noArgs:=by
 obtain⟨po,ar,va,ko,kd,kw,df⟩:=a
 simp only[tH,Aa,AY,Cc]at h
 obtain⟨⟨⟨⟨⟨⟨rfl,rfl⟩,rfl⟩,rfl⟩,rfl⟩,rfl⟩,rfl⟩:=h
 rfl
theorem bf{m:Nat}{A:Around}(r:L2.yu (m+1) A)(e1 e2:BJ):L2.yu m ((A.deeper e1).deeper e2):=
 ⟨r.hd,by have:=r.dp;show A.depth+1+1+3*m+5<_;omega,by have:=r.un;show A.units+3+3+16*m+200<_;omega,r.gd⟩
theorem dF{sc:Scope}{x:Str}(h:mB sc x=true):L2.Vis sc x:=by
 simp only[mB,AL,decide_eq_true_eq]at h
 rcases h with (h|h)|h
 . exact .inl h
 . exact .inr (.inl h)
 . exact .inr (.inr h)
theorem bE{CX:L2.CXT}{k:Nat}{f:Addr}{fd:Bu}{ps:List Str}{sp:L2.Sp}{ds:List Value}{dvs:List L2.V}{E:L2.XK}{t:L2.TA}{e:Expr}{es:List Expr}{x:Str}{i:Nat}{p pos:Pos}{X:L2.Cx}(F:L2.uP X.prog X.w X.K X.mg X.base CX k f fd ps sp)(hr:L2.yu k X.A)(hN:X.N[i]?=some x)(hv:L2.Vis X.env.scope x)(hk:B7 X.K (.ref f)=true)(hb:L2.Binds X.K fd ps ds)(hd:L2.Vals dvs ds)(hx:L2.Passes CX X E)
 (ha:L2.PA X (e::es) t) (hdb:(x == ("__debug__":Str))=false) (hcd:(x == ("__classdict__":Str))=false) (he:AM (e::es) X.env=(false,eval e X.env)::AM es X.env) (hpl:(backTo pos (AM es X.env)).any (·.1)=false) :
 L2.PE X (.Call (.Name x p) (e::es) [] pos) (fun σ H Q=>σ[i]?=some (some (.ref f))/\L2.iD sp dvs E t σ H Q):=by
 intro pins s σ H Q I ⟨h0,h⟩
 refine BX (L2.thn (L2.vX hN hv hdb hcd pins s σ H (fun v H2=>v=L2.V.ref f/\H2=H) I ⟨_,h0,rfl,rfl⟩) fun u s2 ⟨v,H2,I2,r,hv2,hH2⟩=>?_)
 subst hv2 hH2
 cases r
 refine DP (h₀:=X.base) I2.ok.mod.kin hk (L2.thn (ha pos pins s2 σ H2 _ I2 h) fun us s1 ⟨vs,H1,I1,r,q⟩=>⟨I1.kIn,?_⟩) he hpl
 exact L2.kS F hr hb hd hx I1 r q
section
variable {T:Tbl}{n:Nat}{sc lsc:Scope}{N:List Str}{X:L2.Cx}
def Cal(lsc:Scope)(N:List Str)(env:Env)(y f:Str):Prop:=(y=f/\lsc.names.lookup y=some .globalImplicit/\(y == ("__debug__":Str))=false) \/
 ∃i:Nat,N[i]?=some y/\mB lsc y=true/\(y == ("__debug__":Str))=false/\(y == ("__classdict__":Str))=false/\env[i]?=some (some (.fn f))
theorem gm{m:Nat}{md:Bool}{f y:Str}{es:Exs}{vs:List Val}{a:BV}{ys:List Expr}{p1 p2 p3 p4 p5:Pos}(o:Ok T (m+1) sc N X)(h2:sc.names.lookup (L2.yb md)=some .globalImplicit)(h3:tH a=true)(h4:nh sc lsc=true)
 (h8:tm es=true) (h9:ckL lsc N es ys=true) (h10:zg ys=true) (h11:ys.isEmpty=false) (h12:("!":Str)∈N) (env:Env) (s:Sto) (hcal:Cal lsc N env y f) (ho:zo (zE T m) T.gl env es s=.ok vs s) (htb:yM T.tb s=true) (hmd:T.md md=true) :
 L2.PE X (.Call (.Name (L2.yb md) p1) [.Lambda a (.Call (.Name y p2) ys [] p3) lsc p4] [] p5) (tV X.K X.mg env s (mz T md (zE T m f 0 vs s) (zm T m f 0 vs s))):=by
 obtain rfl:=gI h3
 intro pins s0 σ H Q I ⟨ρ,hr,er,wt⟩
 have sd:=o.sd m rfl ⟨md,hmd⟩
 obtain⟨kx,cs,ws,pre,hue,hhue,KF,SF,CF,RF⟩:=sd.sc.ex
 obtain⟨fS,SF'⟩:=SF md hmd
 obtain⟨stS,fdS,hmS,FnS,_⟩:=id SF'.ex
 simp only[nh,Aa,decide_eq_true_eq,AX,AI,BL,AL]at h4
 obtain⟨⟨⟨⟨k1,k2⟩,k3⟩,k4⟩,⟨x0,hx0,hx0f⟩⟩:=h4
 have fcell:∀x∈lsc.names,x.2=.free->sc.names.lookup x.1=some .cell\/sc.names.lookup x.1=some .free:=fun x hx hf=>by
  rcases k4 x hx with z|z
  . rw[hf]at z;cases z
  . exact z.2
 obtain⟨g,hg,fa,c,ob,fd,q1,q2,q3,q4,q5,q6⟩:=o.cod ⟨md,hmd⟩ ⟨x0.1,hx0f.2⟩ h12
 obtain⟨j,hj⟩:=n6 htb hg
 obtain⟨P,hPo,tr⟩:=hr.cel j _ hj
 obtain⟨ps,hP,tok,among,fa',c',o',fd',w1,w2,w3,w4,w5⟩:=id tr
 rw[q1]at w1;cases w1
 rw[q2]at w2;cases w2
 rw[q3]at w3;cases w3
 rw[q4]at w4;cases w4
 have hq:X.env.qual++("<lambda>":Str)=Wy g:=by rw[q6];rfl
 have cellOf':∀x,(x,AK)∈lsc.names->∃b,X.env.cells.lookup x=some b:=fun x hx=>I.ok.has x (o.scp.cf x (fcell _ hx rfl))
 have clk:∀x b,(xy X.env.cells lsc.names []).lookup x=some b->(x,AK)∈lsc.names/\X.env.cells.lookup x=some b:=fun x b e=>by
  rcases qy (A0 e) with z|⟨z1,z2⟩
  . cases z
  . obtain⟨b',hb'⟩:=cellOf' x z1
    rw[hb']at z2
    exact⟨z1,by rw[hb',z2];rfl⟩
 have hdbg:(L2.yb md == ("__debug__":Str))=false:=by cases md<;>decide
 refine BX (L2.wO I (o.scp.gl _ h2) hmS ?_ hdbg)
 refine DP (h₀:=X.base) I.ok.mod.kin FnS.kp ?_
 show wpAny _ _ (spliced ((false,eval (.Lambda L2.noArgs (.Call (.Name y p2) ys [] p3) lsc p4) X.env)::backTo p5 (AM [] X.env))) _ _ s0
 refine Calls.spliced_cons (L2.cA (P:=P) (ps:=ps) (c:=c) I rfl (ao fun x hx hf=>cellOf' x.1 (by rw[<-hf];exact hx)) q5 (w5 _ I.kIn) hP tok (sd.sc.bm _ I.ok.mod.kin) (fun cv hcv=>?_) fun lf c2 ctv H' h' tk I' lamh ⟨nl,nf,cdr⟩ obj cr=>Calls.spliced_nil ⟨I'.kIn,?_⟩)
 . obtain⟨b,ob',vb,tb,z1,_,z3,z4,z5⟩:=among _ cv hcv
   exact⟨b,ob',vb,tb,z1,z3,z4,by rw[hq];exact z5⟩
 rw[hq]at lamh
 obtain⟨hr',X0⟩:=hr.lam hj hPo tr hP lamh
 cases hfn:T.fn f 0 with
 |none=>
  exfalso
  have h1:zE T m f 0 vs s=.stuck:=by
   cases m with
   |zero=>rfl
   |succ m=>simp only[zE,hfn];cases jd vs<;>rfl
  have h2:zm T m f 0 vs s=Ab:=by
   cases m with
   |zero=>rfl
   |succ m=>simp only[zm,hfn]
  rw[h1,h2]at wt
  exact wt
 |some F=>
  obtain⟨fa2,fd2,e1,e2,e3,e4,e5⟩:=(sd.lv m (Ag _)).ex f 0 F hfn
  have L:L2.jG X.stack h' H' lf c2 (X.env.qual++("<lambda>":Str)) (.Call (.Name y p2) ys [] p3) lsc (xy X.env.cells lsc.names []) ((X.mg "__name__").getD .none) ctv N σ:=by
   refine⟨obj,nl,nf,cdr,fun x y b z1 z2=>I.ok.inj x y b (clk x b z1).2 (clk y b z2).2,fun x hx=>lookup_mem (tK (A0 hx)),fun x b e=>?_,fun i x v z1 z2 z3=>?_,by rw[<-o.scp.hN];exact I'.len,k1,k2,k3,fun x hx=>?_⟩
   . obtain⟨y1,y2⟩:=clk x b e
     exact⟨I'.cell x b y2,I'.freeC x b y2⟩
   . have hm3:=A0 z3
     have hcl:=fcell _ hm3 rfl
     obtain⟨mm,hn,hl⟩:=I'.loc
     obtain⟨u,ru,lk⟩:=hl i x v (by rw[o.scp.hN];exact z1) z2 (o.scp.vis x (.inr hcl))
     rcases lk with⟨y,_⟩|⟨_,b,y2,y3⟩
     . rcases o.scp.cf x hcl with y'|y'
       . rw[y]at y';cases y'
       . rw[y]at y';cases y'
     . obtain⟨b',hb'⟩:=lookup_mem (tK (cells:=X.env.cells) (acc:=[]) hm3)
       have:=(clk x b' hb').2
       rw[y2]at this;cases this
       exact⟨u,b,ru,hb',y3⟩
   . rcases k4 x hx with z|z
     . rw[z];exact⟨nofun,nofun⟩
     . rw[z.1];exact⟨nofun,nofun⟩
  refine D4 (CI (L2.bu (EE:=fun cls H2=>∃(cc:Str) (as:List Val) (s':Sto) (ρ2:Own) (C:Addr),((∀v s1,zE T m f 0 vs s≠.ok v s1)/\zm T m f 0 vs s=some (cc,as,s'))/\Ext ρ H' ρ2 H2/\HR X.K X.mg ρ2 s' H2/\X.mg cc=some (.ref C)/\cls=.ref C)
   (Q:=Q) (tb:=fun σ1 H1 Q1=>(∀i:Nat,env[i]?=some (some (.fn f))->σ1[i]?=some (some (.ref fa2)))/\L2.iD (spX T X.K X.mg m f 0) [] (fun cls _ H2=>∃(cc:Str) (as:List Val) (s':Sto) (ρ2:Own) (C:Addr),((∀v s1,zE T m f 0 vs s≠.ok v s1)/\zm T m f 0 vs s=some (cc,as,s'))/\Ext ρ H' ρ2 H2/\HR X.K X.mg ρ2 s' H2/\X.mg cc=some (.ref C)/\cls=.ref C) (tVs X.K X.mg env s (zo (zE T m) T.gl env es s)) σ1 H1 Q1)
   I'.vS o.room.hd (by have:=o.room.dp;omega) SF' KF hhue L (fun vS s' H2=>?_) ?_ fun cls H2 hEE=>?_) fun r s' hres=>?_)
  . cases ys with
    |nil=>cases h11
    |cons y1 ys=>
     have hp2:=h10
     rw[zg,Aa]at hp2
     have okL:Ok T m lsc N (L2.rR (L2.CXE X.prog X.w) X.prog X.w X.K X.mg X.base N (X.env.qual++("<lambda>":Str)) lsc lf (.ref c2) (xy X.env.cells lsc.names []) (X.A.deeper vS) (vS::X.stack) s' H2 (fun cls _ H2=>∃(cc:Str) (as:List Val) (s':Sto) (ρ2:Own) (C:Addr),((∀v s1,zE T m f 0 vs s≠.ok v s1)/\zm T m f 0 vs s=some (cc,as,s'))/\Ext ρ H' ρ2 H2/\HR X.K X.mg ρ2 s' H2/\X.mg cc=some (.ref C)/\cls=.ref C)).nox:=by
      refine⟨rfl,bf o.room _ _,⟨rfl,o.scp.nd,fun x hx=>hx,fun x hx=>?_,fun x hx=>hx,fun x hx=>hx⟩,fun f' v' F' hf'=>?_,o.gls,o.blt,rfl,o.no,fun m' hm' hmd'=>⟨sd.sc,fun j hj=>sd.lv j (by omega)⟩,fun _ ⟨x,hx⟩ _=>?_⟩
      . exfalso
        rcases hx with hx|hx
        . rcases k4 _ (A0 hx) with z|z
          . cases z
          . cases z.1
        . rcases k4 _ (A0 hx) with z|z
          . cases z
          . cases z.1
      . obtain⟨fa3,fd3,y1,y2,y3,y4,y5⟩:=(sd.lv m (Ag _)).ex f' v' F' hf'
        exact⟨⟨fa3,fd3,y1,y2,y3,y4⟩⟩
      . exfalso
        rcases k4 _ (A0 hx) with z|z
        . cases z
        . cases z.1
     have hpa:=kD (oq es h8 lsc N _ _ okL h9 h10 env s)
     rcases hcal with⟨rfl,h6,h7⟩|⟨i,c1,c2,c3,c4,c5⟩
     . exact zb (L2.ou e5 (bf o.room _ _) h6 e1 e2 e3 .nil L2.qK hpa h7 (L2.zd (zV hp2.1)) (yw hp2.2)) fun σ H Q h=>h.2
     . exact zb (bE e5 (bf o.room _ _) c1 (dF c2) e2 e3 .nil L2.qK hpa c3 c4 (L2.zd (zV hp2.1)) (yw hp2.2)) fun σ H Q h=>⟨h.1 i c5,h.2⟩
  . refine Ak (fun i he=>?_) ⟨ρ,hr',er.mono X0,?_⟩
    . obtain⟨x,hx,r⟩:=er.at_ i _ he
      cases r with
      |fn e=>rw[e1]at e;cases e;exact hx
    rw[ho]
    intro ρ1 xs H1 x1 hr1 r1
    refine⟨ρ1,s,vs,hr1,by rw[AZ];exact r1,?_⟩
    cases hres:zE T m f 0 vs s with
    |ok v s'=>
     rw[hres]at wt
     refine .inl fun ρ2 x H2 x2 hr2 r2=>?_
     have X2:=X0.trans hr' (x1.trans hr1 x2)
     cases md with
     |true=>exact wt ρ2 x H2 X2 hr2 r2
     |false=>exact wt ρ2 _ H2 X2 hr2 (.str _)
    |exc _ _ _=>
     rw[hres]at wt
     cases hx:zm T m f 0 vs s with
     |none=>rw[hx]at wt;exact wt.elim
     |some r=>
      obtain⟨cc,as,s'⟩:=r
      exact .inr fun ρ2 H2 x2 hr2 C hC=>⟨cc,as,s',ρ2,C,⟨zF rfl,rfl⟩,x1.trans hr1 x2,hr2,hC,rfl⟩
    |stuck=>
     rw[hres]at wt
     cases hx:zm T m f 0 vs s with
     |none=>rw[hx]at wt;exact wt.elim
     |some r=>
      obtain⟨cc,as,s'⟩:=r
      exact .inr fun ρ2 H2 x2 hr2 C hC=>⟨cc,as,s',ρ2,C,⟨zF rfl,rfl⟩,x1.trans hr1 x2,hr2,hC,rfl⟩
  . obtain⟨cc,as,s',ρ2,C,⟨hno,hexc⟩,x2,hr2,hC,rfl⟩:=hEE
    have wt:ym X.K X.mg (RD X.K X.mg) ρ H (match T.xc.lookup cc with|some w=>.ok (.str w) s'|Ab=>.stuck) Q:=by
     rw[hexc]at wt
     cases hn:zE T m f 0 vs s with
     |ok v s1=>exact absurd hn (hno v s1)
     |exc _ _ _=>rw[hn]at wt;exact wt
     |stuck=>rw[hn]at wt;exact wt
    cases hw:T.xc.lookup cc with
    |none=>rw[hw]at wt;exact wt.elim
    |some w=>
     rw[hw]at wt
     obtain⟨C',i,x,c1,c2,c3,c4,c5,c6,c7⟩:=CF cc w hw
     rw[hC]at c1;cases c1
     refine⟨C,cc,i,x,rfl,c2,c3,c4,c5,fun _=>by rw[<-c6];exact c7,fun H3 sm=>?_⟩
     obtain⟨hr3,x3⟩:=hr2.SU sm
     have:=wt ρ2 (.str w) H3 (X0.trans hr' (x2.trans hr2 x3)) hr3 (.str w)
     rw[<-c6];exact this
  . cases r with
    |error e=>exact AF hres
    |ok fl=>
     cases fl with
     |ret u=>exact I'.after hres
     |next=>exact AF hres
     |brk=>exact AF hres
     |cont=>exact AF hres
theorem Zh{f:Str}{ver:Nat}{es:Exs}{a:BV}{ys:List Expr}{p1 p2 p3 p4 p5:Pos}(o:Ok T n sc N X)(hver:¬ver<100)(hver2:ver<200)(h2:sc.names.lookup (L2.yb (decide (ver=101)))=some .globalImplicit)(h3:tH a=true)(h4:nh sc lsc=true)(h6:lsc.names.lookup f=some .globalImplicit)
 (h7:(f == ("__debug__":Str))=false) (h8:tm es=true) (h9:ckL lsc N es ys=true) (h10:zg ys=true) (h11:ys.isEmpty=false) (h12:("!":Str)∈N) (env:Env) (s:Sto) :
 L2.PE X (.Call (.Name (L2.yb (decide (ver=101))) p1) [.Lambda a (.Call (.Name f p2) ys [] p3) lsc p4] [] p5) (tV X.K X.mg env s (evE (zE T n) T.gl env (.call f ver es) s)):=by
 show L2.PE X _ (tV X.K X.mg env s ((zo (zE T n) T.gl env es s).bind fun vs s1=>zE T n f ver vs s1))
 cases n with
 |zero=>
  refine zJ fun v s' e=>?_
  obtain⟨_,_,_,z⟩:=yL e
  cases z
 |succ m=>
  rw[sr (Φ':=zE T m) es s h8]
  cases ho:zo (zE T m) T.gl env es s with
  |exc _ _ _=>exact zJ (zF rfl)
  |stuck=>exact zJ (zF rfl)
  |ok vs s1=>
   obtain rfl:s=s1:=(su es _ _ _ h8 ho).symm
   rw[zX]
   have hcall:zE T (m+1) f ver vs s=if ((decide (ver=100)&&T.md false)||(decide (ver=101)&&T.md true))&&yM T.tb s then mz T (decide (ver=101)) (zE T m f 0 vs s) (zm T m f 0 vs s) else .stuck:=by
    simp only[zE,o.no f ver (by omega)]
    rw[decide_eq_false (show ¬ver=200 by omega),decide_eq_false (show ¬ver=300 by omega),decide_eq_false (show ¬ver=301 by omega)]
    congr 1
    cases jd vs<;>rfl
   rw[hcall]
   by_cases hcond:(((decide (ver=100)&&T.md false)||(decide (ver=101)&&T.md true))&&yM T.tb s)=true
   case neg=>rw[if_neg hcond];exact zJ (zF rfl)
   rw[if_pos hcond]
   rw[Aa]at hcond
   obtain⟨hmd0,htb⟩:=hcond
   have hmd:T.md (decide (ver=101))=true:=by
    simp only[AL,Aa,decide_eq_true_eq]at hmd0
    rcases hmd0 with⟨z1,z2⟩|⟨z1,z2⟩
    . rw[decide_eq_false (by omega)];exact z2
    . rw[decide_eq_true z1];exact z2
   exact gm o h2 h3 h4 h8 h9 h10 h11 h12 env s (.inl ⟨rfl,h6,h7⟩) ho htb hmd
end
end M
end
section
namespace M
open PySem
section
variable {T:Tbl}{n:Nat}
theorem WU{a:Ex}(ja:JE T n a):JE T n (.not a):=by
 intro sc N X e o h env s
 replace h:=sY h
 obtain⟨x,p,rfl,h⟩:=h
 exact Wh (ja _ _ _ _ o h env s)
theorem WR{op:Cop}{a b:Ex}(ja:JE T n a)(jb:JE T n b):JE T n (.cmp op a b):=by
 intro sc N X e o h env s
 replace h:=oK h
 obtain⟨l,o1,r,p,rfl,h⟩:=h
 simp only[Aa,decide_eq_true_eq]at h
 obtain⟨⟨⟨⟨k1,rfl⟩,h1⟩,h2⟩,h3⟩:=h
 exact Xq (ja _ _ _ _ o h1 env s) (fun s1=>jb _ _ _ _ o h2 env s1) fun ta tb pa pb=>L2.jx (uH o.room op k1) pa pb (wF h3)
theorem dJ{op op':Cop}{a b c:Ex}(ja:JE T n a)(jb:JE T n b)(jc:JE T n c):JE T n (.chain op op' a b c):=by
 intro sc N X e o h env s
 replace h:=jU h
 obtain⟨l,o1,o2,r,r2,p,rfl,h⟩:=h
 simp only[Aa,decide_eq_true_eq]at h
 obtain⟨⟨⟨⟨⟨⟨k1,rfl⟩,k2,rfl⟩,h3⟩,h4⟩,h5⟩,h6⟩:=h
 exact dX k1 k2 o.room (ja _ _ _ _ o h3 env s) (fun s1=>jb _ _ _ _ o h4 env s1) (fun s1=>jc _ _ _ _ o h5 env s1) h6
theorem WO{a:Ex}{es:Exs}(ja:JE T n a)(jl:JL T n es):JE T n (.andE a es):=by
 intro sc N X e o h env s
 replace h:=oJ h
 obtain⟨x,xs,pos,rfl,h⟩:=h
 simp only[Aa]at h
 obtain⟨h1,h2⟩:=h
 cases es with
 |nil=>
  cases AY.mp h2
  exact L2.kE (ja _ _ _ _ o h1 env s)
 |cons b es'=>
  cases xs with
  |nil=>cases h2
  |cons y ys=>exact dU (ja _ _ _ _ o h1 env s) fun s1=>(jl _ _ _ _ o h2).2.1 y ys pos rfl env s1
theorem WS{c:Cn}{a b:Ex}(jc:JC T n c)(ja:JE T n a)(jb:JE T n b):JE T n (.ife c a b):=by
 intro sc N X e o h env s
 replace h:=eM h
 obtain⟨t,x,y,p,rfl,h⟩:=h
 simp only[Aa]at h
 exact Wf (jc _ _ _ _ o h.1.1 env s) (fun s1=>ja _ _ _ _ o h.1.2 env s1) (fun s1=>jb _ _ _ _ o h.2 env s1)
theorem lP{f:Str}{ver:Nat}(hv:ver<100)(h:T.fn f ver=none)(vs:List Val)(s:Sto):zE T n f ver vs s=.stuck:=by
 cases n with
 |zero=>rfl
 |succ n=>
  have h1:decide (ver=100)=false:=decide_eq_false (by omega)
  have h2:decide (ver=101)=false:=decide_eq_false (by omega)
  have h3:decide (ver=200)=false:=decide_eq_false (by omega)
  have h4:decide (ver=300)=false:=decide_eq_false (by omega)
  have h5:decide (ver=301)=false:=decide_eq_false (by omega)
  simp only[zE,h,h1,h2,h3,h4,h5,Dl,Bool.or_self,AV,if_false]
  cases jd vs<;>rfl
theorem ZX{f:Str}{ver:Nat}{es:Exs}(jl:JL T n es):JE T n (.call f ver es):=by
 intro sc N X e o h env s
 replace h:(if ver<100 then ckA sc f (fun xs=>ckL sc N es xs) e else if ver<200 then ckB sc N f ver es (fun l ys=>ckL l N es ys) e else ckV sc N ver es (fun l ys=>ckL l N es ys) e)=true:=h
 split at h
 . rename_i hver
   replace h:=yn h
   obtain⟨x,p,xs,pos,rfl,h⟩:=h
   simp only[Aa,decide_eq_true_eq,xj,AX]at h
   obtain⟨⟨⟨⟨rfl,h2⟩,h3⟩,h4⟩,h5⟩:=h
   show L2.PE X _ (tV X.K X.mg env s ((zo (zE T n) T.gl env es s).bind fun vs s1=>zE T n x ver vs s1))
   cases hf:T.fn x ver with
   |none=>
    refine zJ fun v s' e=>?_
    cases hv:zo (zE T n) T.gl env es s with
    |ok vs s1=>rw[hv]at e;simp only[zX,lP hver hf]at e;cases e
    |exc _ _ _=>rw[hv]at e;cases e
    |stuck=>rw[hv]at e;cases e
   |some F=>
    have C:=o.fns x ver F hf
    cases xs with
    |nil=>
     cases es with
     |nil=>exact dW C o.room (o.scp.gl x h2) h3
     |cons _ _=>cases h4
    |cons y ys=>exact Ze C o.room (o.scp.gl x h2) h3 h5 (by simp) ((jl _ _ _ _ o h4).1 h5 env s)
 . rename_i hver
   split at h
   . rename_i hver2
     replace h:=ZE h
     obtain⟨x,a,y,ys,lsc,p1,p2,p3,p4,p5,rfl,h⟩:=h
     simp only[Aa,decide_eq_true_eq,xj,AX]at h
     obtain⟨⟨⟨⟨⟨⟨⟨⟨⟨⟨⟨rfl,h2⟩,h3⟩,h4⟩,rfl⟩,h6⟩,h7⟩,h8⟩,h9⟩,h10⟩,h11⟩,h12⟩:=h
     exact Zh o hver hver2 h2 h3 h4 h6 h7 h8 h9 h10 h11 h12 env s
   . exact absurd (zW (zW h).1).1 Aj
theorem fT(f:Bf):f.nm∈xw:=by cases f<;>decide
theorem WQ{f:Bf}{m:Bool}{es:Exs}(jl:JL T n es):JE T n (.blt f m es):=by
 intro sc N X e o h env s
 replace h:=yn h
 obtain⟨x,p,xs,pos,rfl,h⟩:=h
 replace h:=yV h
 obtain⟨y,ys,rfl,h⟩:=h
 simp only[Aa,decide_eq_true_eq,xj]at h
 obtain⟨⟨⟨⟨k1,rfl⟩,h2⟩,h3⟩,h4⟩:=h
 exact We k1 o.calm o.room (o.scp.gl _ h2) (o.blt _ (fT f)) h4 ((jl _ _ _ _ o h3).1 h4 env s)
theorem iu{m:Bool}{z a w:Ex}(_:JE T n z)(ja:JE T n a):JE T n (.listRange m z a w):=by
 intro sc N X e o h env s
 replace h:=yn h
 obtain⟨x,p,xs,pos,rfl,h⟩:=h
 replace h:=yf h
 obtain⟨i1,rfl,h⟩:=h
 replace h:=yn h
 obtain⟨y,p2,ys,pos2,rfl,h⟩:=h
 replace h:=yV h
 obtain⟨c,ds,rfl,h⟩:=h
 cases ds with
 |nil=>
  simp only[List.isEmpty_nil,if_true,Aa,xj]at h
  obtain⟨⟨⟨⟨hw,h3⟩,h4⟩,h5⟩,h6⟩:=h
  replace h3:=of_decide_eq_true h3
  replace h4:=of_decide_eq_true h4
  split at hw
  case isTrue htx=>
   obtain⟨t,rfl⟩:=ZS htx
   simp only[Aa,decide_eq_true_eq]at hw
   obtain⟨⟨h1,rfl⟩,rfl⟩:=hw
   obtain rfl:=dE h1
   have je:=ja _ _ _ _ o h5 env s
   show L2.PE X _ (tV X.K X.mg env s ((evE (zE T n) T.gl env a s).bind fun y s2=>lr m .none y (.str t) s2))
   cases ho:evE (zE T n) T.gl env a s with
   |ok v s1=>
    rw[ho]at je
    have hs1:AM [c] X.env=(false,eval c X.env)::AM [] X.env:=L2.zd (zV h6)
    have inner:=L2.yp (p:=p2) (pos:=pos2) (L2.iU o.calm) (o.scp.gl _ h4) (o.blt _ (by decide)) PySem.Pv.boot_set (L2.pac je L2.yr (zV h6)) (he:=hs1)
    refine zb (L2.vW (p:=p) (pos:=pos) L2.iN (o.scp.gl _ h3) (o.blt _ (by decide)) PySem.boot_len (L2.pac inner L2.yr rfl)) fun σ H Q ⟨ρ,hr,er,w⟩=>⟨ρ,hr,er,fun ρ1 x H1 x1 hr1 r1=>?_⟩
    have w':ym X.K X.mg (RD X.K X.mg) ρ1 H1 (lr m .none v (.str t) s1) Q:=w.mono x1 hr1
    simp only[lr]at w'
    split at w'
    . rename_i vs hv
      split at w'
      . rename_i ns hi
        split at w'
        . rename_i hz
          obtain⟨a',ys,rfl,hq,q⟩:=kY hr1 r1 hv
          obtain rfl:=RDs.rk q hi
          refine⟨a',ns,rfl,hq,hz,fun l S hl=>⟨l,S,L2.dN ns,rfl,L2.zN,Ax (L2.UY ns) hz,?_⟩⟩
          exact w' _ _ _ (Ext.new hr1 hl _) (hr1.more hl _) (.int _)
        . exact w'.elim
      . exact w'.elim
    . exact w'.elim
   |exc _ _ _=>exact zJ (zF rfl)
   |stuck=>exact zJ (zF rfl)
  cases hw
 |cons d ds=>cases h
theorem ZZ{f:Mf}{m:Bool}{a:Ex}{es:Exs}(ja:JE T n a)(jl:JL T n es):JE T n (.xF f m a es):=by
 intro sc N X e o h env s
 replace h:=ZC h
 obtain⟨ob,x,ap,y,cp,rfl,h⟩:=h
 simp only[Aa,decide_eq_true_eq]at h
 obtain⟨⟨⟨⟨⟨⟨rfl,h1⟩,h2⟩,h3⟩,h4⟩,h5⟩,hm⟩:=h
 obtain⟨b,rfl,jb⟩:=(jl _ _ _ _ o h2).2.2.2 y rfl h3
 exact da hm h4 h3 h5 (ja _ _ _ _ o h1 env s) fun s1=>jb env s1
theorem Uy{m:Bool}{a:Ex}{lo hi st:OEx}(ja:JE T n a)(j1:JO T n lo)(j2:JO T n hi)(j3:JO T n st):JE T n (.sl m a lo hi st):=by
 intro sc N X e o h env s
 replace h:=ZD h
 obtain⟨l1,x1,y1,z1,p1,p2,rfl,h⟩:=h
 simp only[Aa]at h
 obtain⟨⟨⟨h1,h2⟩,h3⟩,h4⟩:=h
 obtain⟨p3,q3⟩:=j3 _ _ _ _ o h4
 refine U3 (ja _ _ _ _ o h1 env s) (fun s1=>(j1 _ _ _ _ o h2).1 env s1) (fun s1=>(j2 _ _ _ _ o h3).1 env s1) (fun s1=>p3 env s1) ?_
 rcases q3 with⟨e1,e2⟩|⟨e',e1,e2⟩
 . exact .inl ⟨e1,fun s1=>e2 env s1⟩
 . exact .inr ⟨e',e1,fun s1 s2=>e2 env s1 s2⟩
theorem ZY{m:Bool}{N':List Str}{fr:List (Option Nat)}{elt:Ex}{t:Tgt}{it:Itb}{ifs:Cns}(je:JE T n elt)(ji:JI T n it)(jc:JCs T n ifs):JE T n (.comp m N' fr elt t it ifs):=by
 intro sc N X e o h env s
 replace h:=jW h
 obtain⟨x,tg,iter,fs,csc,cpos,rfl,h⟩:=h
 simp only[Aa,decide_eq_true_eq]at h
 obtain⟨⟨⟨⟨⟨⟨h1,h2⟩,h3⟩,h4⟩,h5⟩,h6⟩,h7⟩:=h
 have S:=Yv o.scp h1
 have oc:=o.comp S h2 h1
 obtain⟨g,pg,tg'⟩:∃g,(∀C s0 H0 ex,L2.PG (X.comp N' csc C s0 H0 ex) tg g)/\qW X.K X.mg t g:=by
  cases t with
  |nm i=>
   cases tg with
   |Name y p=>
    simp only[ckT,Aa,AL,decide_eq_true_eq]at h3
    exact⟨_,fun C s0 H0 ex=>jz (oc C s0 H0 ex).scp h3.1 h3.2,nK⟩
   |_=>cases h3
  |nms is=>
   cases tg with
   |Tuple es k p=>
    simp only[ckT,Aa,decide_eq_true_eq]at h3
    refine⟨_,fun C s0 H0 ex=>?_,u6 (is:=is)⟩
    obtain⟨a,b,c⟩:=wj (oc C s0 H0 ex).scp h3.1
    exact L2.ow (X:=X.comp N' csc C s0 H0 ex) o.calm a b c
   |_=>cases h3
 have rule:L2.PE X (.ListComp x [⟨tg,iter,fs,0⟩] csc cpos) (L2.sJ fr (uI X.K X.mg (zE T n) T.gl it) g (uTs X.K X.mg (zE T n) T.gl ifs) fun acc=>L2.pT acc (uE X.K X.mg (zE T n) T.gl elt)):=
  L2.jy o.calm S (Vh fun env s=>ji _ _ _ _ _ o h4 env s) pg (fun C s0 H0 ex=>(jc _ _ _ _ (oc C s0 H0 ex) h5).2.2) (fun C s0 H0 ex=>Tw (X:=X.comp N' csc C s0 H0 ex) fun env s=>je _ _ _ _ (oc C s0 H0 ex) h6 env s) (w9 h7)
 refine zb rule fun σ H Q hq=>pA (env:=env) (s:=s) (chk:=false) (m:=m) (body:=u9 (zE T n) T.gl elt ifs) tg' sN (fun acc ρ0 H0 hn=>lE hn) ?_ fun _ r s1 p s2 hl=>?_
 . simp only[AV,false_implies,if_true];exact hq
 . have:=sC hl
   simpa using this
theorem WX:JL T n .nil:=by
 intro sc N X es o h
 cases AY.mp h
 exact⟨fun _ env s=>jm,⟨fun e es' pos z=>(nomatch z),⟨fun e es' pos z=>(nomatch z),fun y z=>(nomatch z)⟩⟩⟩
theorem Zb{a:Ex}{as:Exs}(ja:JE T n a)(jl:JL T n as):JL T n (.cons a as):=by
 intro sc N X es o h
 replace h:=yV h
 obtain⟨e,es,rfl,h⟩:=h
 simp only[Aa]at h
 obtain⟨h1,h2⟩:=h
 obtain⟨l1,l2,l3,l4⟩:=jl _ _ _ _ o h2
 refine⟨fun hp env s=>?_,fun e' es' pos z env s=>?_,fun e' es' pos z env s=>?_,fun y z hp=>?_⟩
 . rw[zg,Aa]at hp
   exact mC hp.1 (ja _ _ _ _ o h1 env s) fun s1=>l1 hp.2 env s1
 . cases as with
   |nil=>
    cases AY.mp h2
    exact L2.kE (ja _ _ _ _ o h1 env s)
   |cons b as'=>
    cases es with
    |nil=>cases h2
    |cons y ys=>exact dU (ja _ _ _ _ o h1 env s) fun s1=>l2 y ys pos rfl env s1
 . cases as with
   |nil=>
    cases AY.mp h2
    exact L2.kE (ja _ _ _ _ o h1 env s)
   |cons b as'=>
    cases es with
    |nil=>cases h2
    |cons y ys=>exact U2 (ja _ _ _ _ o h1 env s) fun s1=>l3 y ys pos rfl env s1
 . cases z
   cases as with
   |nil=>exact⟨a,rfl,fun env s=>ja _ _ _ _ o h1 env s⟩
   |cons _ _=>cases h2
theorem Uz:JO T n .no:=by
 intro sc N X e o h
 cases Cc.mp h
 exact⟨fun env s=>U5,.inl ⟨rfl,fun env s1=>rfl⟩⟩
theorem WY{a:Ex}(ja:JE T n a):JO T n (.yes a):=by
 intro sc N X e o h
 replace h:=oi h
 obtain⟨e1,rfl,h⟩:=h
 refine⟨fun env s=>Wj (ja _ _ _ _ o h env s),.inr ⟨_,rfl,fun env s1 s2 z=>?_⟩⟩
 have z':((evE (zE T n) T.gl env a s1).bind fun v s1=>match v with|.int i=>.ok (some i) s1|_=>.stuck)=.ok none s2:=z
 cases hv:evE (zE T n) T.gl env a s1 with
 |ok v s3=>rw[hv]at z';cases v<;>cases z'
 |exc _ _ _=>rw[hv]at z';cases z'
 |stuck=>rw[hv]at z';cases z'
theorem WN{c:Cn}(jc:JC T n c):JC T n (.not c):=by
 intro sc N X e o h env s
 replace h:=sY h
 obtain⟨x1,p1,rfl,h⟩:=h
 exact Wn (jc _ _ _ _ o h env s)
theorem WM{c:Cn}{cs:Cns}(jc:JC T n c)(jcs:JCs T n cs):JC T n (.and c cs):=by
 intro sc N X e o h env s
 replace h:=oJ h
 obtain⟨x1,xs1,p1,rfl,h⟩:=h
 simp only[Aa]at h
 exact(dk (jc _ _ _ _ o h.1 env s) fun s1=>(jcs _ _ _ _ o h.2).1 _ env s1).pt
theorem Ux{c:Cn}{cs:Cns}(jc:JC T n c)(jcs:JCs T n cs):JC T n (.or c cs):=by
 intro sc N X e o h env s
 replace h:=oJ h
 obtain⟨x1,xs1,p1,rfl,h⟩:=h
 simp only[Aa]at h
 exact(XG (jc _ _ _ _ o h.1 env s) fun s1=>(jcs _ _ _ _ o h.2).2.1 _ env s1).pt
theorem ZW:JCs T n .nil:=by
 intro sc N X es o h
 cases AY.mp h
 exact⟨fun pos env s=>lb,fun pos env s=>i7,.nil⟩
theorem dH{c:Cn}{cs:Cns}(jc:JC T n c)(jcs:JCs T n cs):JCs T n (.cons c cs):=by
 intro sc N X es o h
 replace h:=yV h
 obtain⟨e1,es1,rfl,h⟩:=h
 simp only[Aa]at h
 obtain⟨a,b,d⟩:=jcs _ _ _ _ o h.2
 exact⟨fun pos env s=>dk (jc _ _ _ _ o h.1 env s) fun s1=>a pos env s1,fun pos env s=>XG (jc _ _ _ _ o h.1 env s) fun s1=>b pos env s1,.cons (RW fun env s=>jc _ _ _ _ o h.1 env s) d⟩
theorem UE{e:Expr}(h:e.ctorIdx=25):∃xs k p,e=.Tuple xs k p:=GA (motive_1:=fun e=>∃xs k p,e=Expr.Tuple xs k p) e h fun xs k p=>⟨xs,k,p,rfl⟩
theorem WW{a:Ex}(ja:JE T n a):JI T n (.val a):=fun sc N X e tg o h env s=>Wi (ja _ _ _ _ o h env s)
theorem iw{a:Ex}(ja:JE T n a):JI T n (.range1 a):=by
 intro sc N X e tg o h env s
 replace h:=yn h
 obtain⟨x1,p1,xs1,p2,rfl,h⟩:=h
 replace h:=yf h
 obtain⟨y1,rfl,h⟩:=h
 simp only[Aa,decide_eq_true_eq,xj]at h
 obtain⟨⟨⟨rfl,h1⟩,h2⟩,h3⟩:=h
 exact iz h3 (o.scp.gl _ h1) (o.blt _ (by decide)) (ja _ _ _ _ o h2 env s)
theorem iy{a b:Ex}(ja:JE T n a)(jb:JE T n b):JI T n (.range2 a b):=by
 intro sc N X e tg o h env s
 replace h:=yn h
 obtain⟨x1,p1,xs1,p2,rfl,h⟩:=h
 replace h:=d6 h
 obtain⟨y1,y2,rfl,h⟩:=h
 simp only[Aa,decide_eq_true_eq,xj]at h
 obtain⟨⟨⟨⟨⟨rfl,h1⟩,h2⟩,h3⟩,h4⟩,h5⟩:=h
 exact i6 h4 h5 (o.scp.gl _ h1) (o.blt _ (by decide)) (ja _ _ _ _ o h2 env s) fun s1=>jb _ _ _ _ o h3 env s1
theorem Za{a:Ex}(ja:JE T n a):JI T n (.enum a):=by
 intro sc N X e tg o h env s
 obtain⟨h0,hh⟩:=zW h
 obtain⟨ts,k,tp,rfl⟩:=UE (of_decide_eq_true h0)
 clear h
 have h:=hh
 replace h:=yn h
 obtain⟨x1,p1,xs1,p2,rfl,h⟩:=h
 replace h:=yf h
 obtain⟨y1,rfl,h⟩:=h
 simp only[Aa,decide_eq_true_eq,xj]at h
 obtain⟨⟨⟨rfl,h1⟩,h2⟩,h3⟩:=h
 exact Zi h3 (o.scp.gl _ h1) (o.blt _ (by decide)) (ja _ _ _ _ o h2 env s)
end
section
variable (T:Tbl)(n:Nat)
mutual
theorem jE:∀a:Ex,JE T n a
 |.lit _=>dY
 |.var _=>de
 |.gl _=>XF
 |.ty _ _=>U4
 |.bin _ _ a b=>dI (jE a) (jE b)
 |.neg a=>dM (jE a)
 |.not a=>WU (jE a)
 |.cmp _ a b=>WR (jE a) (jE b)
 |.chain _ _ a b c=>dJ (jE a) (jE b) (jE c)
 |.andE a es=>WO (jE a) (jL es)
 |.orE _ _=>fun sc N X e o h=>by cases h
 |.ife c a b=>WS (jC c) (jE a) (jE b)
 |.tup es=>WV (jL es)
 |.lst _ es=>WT (jL es)
 |.dct0=>Zf
 |.dctN _=>Zg
 |.ixD _ _=>fun sc N X e o h=>by cases h
 |.call _ _ es=>ZX (jL es)
 |.blt _ _ es=>WQ (jL es)
 |.maxD _ _=>fun sc N X e o h=>by cases h
 |.xF _ _ a es=>ZZ (jE a) (jL es)
 |.ix a b=>XE (jE a) (jE b)
 |.sl _ a lo hi st=>Uy (jE a) (jO lo) (jO hi) (jO st)
 |.comp _ _ _ elt _ it ifs=>ZY (jE elt) (jI it) (jCs ifs)
 |.comp2 _ _ _ _ _ _ _ _ _ _=>fun sc N X e o h=>by cases h
 |.listRange _ z a _=>iu (jE z) (jE a)
theorem jL:∀a:Exs,JL T n a
 |.nil=>WX
 |.cons a as=>Zb (jE a) (jL as)
theorem jO:∀a:OEx,JO T n a
 |.no=>Uz
 |.yes a=>WY (jE a)
theorem jC:∀a:Cn,JC T n a
 |.val (.cmp _ a b)=>Wd (jE a) (jE b)
 |.val (.chain _ _ a b c)=>dR (jE a) (jE b) (jE c)
 |.val (.lit v)=>z6 (jE (.lit v)) rfl
 |.val (.var v)=>z6 (jE (.var v)) rfl
 |.val (.gl v)=>z6 (jE (.gl v)) rfl
 |.val (.ty v w)=>z6 (jE (.ty v w)) rfl
 |.val (.bin m o a b)=>z6 (jE (.bin m o a b)) rfl
 |.val (.neg a)=>z6 (jE (.neg a)) rfl
 |.val (.not a)=>z6 (jE (.not a)) rfl
 |.val (.andE a b)=>z6 (jE (.andE a b)) rfl
 |.val (.orE a b)=>z6 (jE (.orE a b)) rfl
 |.val (.ife a b c)=>z6 (jE (.ife a b c)) rfl
 |.val (.tup a)=>z6 (jE (.tup a)) rfl
 |.val (.lst m a)=>z6 (jE (.lst m a)) rfl
 |.val .dct0=>z6 (jE .dct0) rfl
 |.val (.dctN t)=>z6 (jE (.dctN t)) rfl
 |.val (.ixD a b)=>z6 (jE (.ixD a b)) rfl
 |.val (.call a b c)=>z6 (jE (.call a b c)) rfl
 |.val (.blt a b c)=>z6 (jE (.blt a b c)) rfl
 |.val (.maxD a b)=>z6 (jE (.maxD a b)) rfl
 |.val (.xF a b c d)=>z6 (jE (.xF a b c d)) rfl
 |.val (.ix a b)=>z6 (jE (.ix a b)) rfl
 |.val (.sl a b c d e)=>z6 (jE (.sl a b c d e)) rfl
 |.val (.comp a b c d e f g)=>z6 (jE (.comp a b c d e f g)) rfl
 |.val (.comp2 a b c d e f g h i j)=>z6 (jE (.comp2 a b c d e f g h i j)) rfl
 |.val (.listRange a b c d)=>z6 (jE (.listRange a b c d)) rfl
 |.not c=>WN (jC c)
 |.and c cs=>WM (jC c) (jCs cs)
 |.or c cs=>Ux (jC c) (jCs cs)
theorem jCs:∀a:Cns,JCs T n a
 |.nil=>ZW
 |.cons c cs=>dH (jC c) (jCs cs)
theorem jI:∀a:Itb,JI T n a
 |.val a=>WW (jE a)
 |.range1 a=>iw (jE a)
 |.range2 a b=>iy (jE a) (jE b)
 |.enum a=>Za (jE a)
 |.zip _ _=>fun sc N X e tg o h=>by cases h
end
end
end M
end
section
namespace M
open PySem
section
variable (K:KF)(mg:Str->Option Value)
def ql(ρ:Own)(H:L2.Hp)(o:Out Fl)(D:L2.Ends):Prop:=
 match o with
 |.ok (.nx e) s'=>∀ρ' H' σ',Ext ρ H ρ' H'->HR K mg ρ' s' H'->ER K mg ρ' H' e σ'->D.nx σ' H'
 |.ok (.bk e) s'=>∀ρ' H' σ',Ext ρ H ρ' H'->HR K mg ρ' s' H'->ER K mg ρ' H' e σ'->D.bk σ' H'
 |.ok (.ct e) s'=>∀ρ' H' σ',Ext ρ H ρ' H'->HR K mg ρ' s' H'->ER K mg ρ' H' e σ'->D.ct σ' H'
 |.ok (.rt v) s'=>∀ρ' H' x,Ext ρ H ρ' H'->HR K mg ρ' s' H'->RD K mg ρ' H' v x->D.rt x H'
 |_=>False
noncomputable def tSt(env:Env)(s:Sto)(o:Out Fl):L2.TS:=fun D σ H=>∃ρ,HR K mg ρ s H/\ER K mg ρ H env σ/\ql K mg ρ H o D
end
section
variable {K:KF}{mg:Str->Option Value}{ρ ρ':Own}{H H':L2.Hp}
theorem ql.mono{s1:Sto}{o:Out Fl}{D:L2.Ends}(w:ql K mg ρ H o D)(x:Ext ρ H ρ' H')(h:HR K mg ρ' s1 H'):ql K mg ρ' H' o D:=by
 cases o with
 |ok fl s'=>
  cases fl with
  |nx e=>exact fun ρ2 H2 σ2 x2 h2 r2=>w ρ2 H2 σ2 (x.trans h x2) h2 r2
  |bk e=>exact fun ρ2 H2 σ2 x2 h2 r2=>w ρ2 H2 σ2 (x.trans h x2) h2 r2
  |ct e=>exact fun ρ2 H2 σ2 x2 h2 r2=>w ρ2 H2 σ2 (x.trans h x2) h2 r2
  |rt v=>exact fun ρ2 H2 y x2 h2 r2=>w ρ2 H2 y (x.trans h x2) h2 r2
 |exc _ _ _=>exact w
 |stuck=>exact w
end
noncomputable def vt:Expr->Bool
 |.ListComp ..|.SetComp ..|.DictComp ..=>false
 |_=>true
theorem uz{e:Expr}{t:Option Expr}{l:Nat}{env:BJ}(h:vt e=true):Fj e t l env=pure false:=by cases e<;>first|rfl|cases h
theorem sA{e:Expr}{ts:List Expr}{k:Nat}{p:Pos}{l:Nat}{env:BJ}:Ep [.Tuple ts k p] e l env=pure false:=by cases e<;>rfl
theorem gu{e o i:Expr}{p:Pos}{l:Nat}{env:BJ}:Ep [.Subscript o i p] e l env=pure false:=by cases e<;>rfl
theorem m7{o i e:Expr}{p:Pos}{env:BJ}:B4 [.Subscript o i p] e env=pure none:=by cases e<;>rfl
noncomputable def XZ(sc:Scope)(ts vs:List Expr):Bool:=
 match ts with
 |[.Name x px,.Name y py]=>decide (sc.names.lookup x=some .local)&&decide (sc.names.lookup y=some .local)&&(px.line == py.line)&&decide (x≠y)&&!(vs.all (FJ 8))&&!(vs.all (Fg 8))
 |[.Name x px,.Name y py,.Name z pz]=>decide (sc.names.lookup x=some .local)&&decide (sc.names.lookup y=some .local)&&decide (sc.names.lookup z=some .local)&&(px.line == py.line)&&(px.line == pz.line)&&decide (x≠y)&&decide (x≠z)&&decide (y≠z)&&!(vs.all (FJ 8))&&!(vs.all (Fg 8))
 |_=>false
noncomputable def Xf(sc:Scope)(ts:List Expr):Bool:=ts.any (fun|.Name x _=>decide (sc.names.lookup x≠some .local)|_=>false)||decide (3<ts.length)
theorem qD{vs:List Expr}(h:zg vs=true):(vs.any fun|.Starred ..=>true|_=>false)=false:=by
 induction vs with
 |nil=>rfl
 |cons v vs ih=>
  rw[zg,Aa]at h
  rw[List.any_cons,ih h.2]
  cases v<;>first|rfl|(have z:=h.1;cases z)
theorem m8{x y:Str}{px py pt pt2:Pos}{kt k2:Nat}{a b:Expr}{env:BJ}(hb:env.blockKind=.function)(hx:env.kindOf x=some .local)(hy:env.kindOf y=some .local)(hl:(px.line == py.line)=true)(hne:x≠y)(hp:zg [a,b]=true)
 (hf:[a,b].all (FJ 8)=false) (hc:[a,b].all (Fg 8)=false):B4 [.Tuple [.Name x px,.Name y py] kt pt] (.Tuple [a,b] k2 pt2) env=pure (some [x,y]):=by
 have hs:=qD hp
 have hl':(py.line == px.line)=true:=by rw[beq_iff_eq]at hl ⊢;exact hl.symm
 unfold B4
 have e1:([x,y].eraseDups.length != [x,y].length)=false:=by
  have:(y == x)=false:=by simpa using Bq hne
  simp[List.eraseDups_cons,this]
 simp only[Ar,A8,hb,hf,hs,hc,hx,hy,hl',List.head?_cons,DH,Option.getD_some,A4,List.filterMap_nil,beq_self_eq_true,FK,if_true]
 have hpos:(EG x px).pos.line=px.line:=rfl
 refine(if_neg (by decide)).trans ((if_neg (fun z=>Aj (hs.symm.trans z))).trans ?_)
 simp only[hpos,beq_self_eq_true,hl',FK,if_true,e1,Ar,A8,bne_self_eq_false,Bool.or_self,AV,if_false]
 exact if_neg (fun z=>Aj (e1.symm.trans (by rw[Bool.false_or]at z;exact z)))
theorem qh{x y z:Str}{px py pz pt pt2:Pos}{kt k2:Nat}{a b c:Expr}{env:BJ}(hb:env.blockKind=.function)(hx:env.kindOf x=some .local)(hy:env.kindOf y=some .local)(hz:env.kindOf z=some .local)(hl:(px.line == py.line)=true)(hl2:(px.line == pz.line)=true)
 (hne:x≠y) (hne2:x≠z) (hne3:y≠z) (hp:zg [a,b,c]=true) (hf:[a,b,c].all (FJ 8)=false) (hc:[a,b,c].all (Fg 8)=false):B4 [.Tuple [.Name x px,.Name y py,.Name z pz] kt pt] (.Tuple [a,b,c] k2 pt2) env=pure (some [x,y,z]):=by
 have hs:=qD hp
 have hl':(py.line == px.line)=true:=by rw[beq_iff_eq]at hl ⊢;exact hl.symm
 have hl2':(pz.line == px.line)=true:=by rw[beq_iff_eq]at hl2 ⊢;exact hl2.symm
 unfold B4
 have e1:([x,y,z].eraseDups.length != [x,y,z].length)=false:=by
  have h1:(y == x)=false:=by simpa using Bq hne
  have h2:(z == x)=false:=by simpa using Bq hne2
  have h3:(z == y)=false:=by simpa using Bq hne3
  simp[List.eraseDups_cons,h1,h2,h3]
 simp only[Ar,A8,hb,hf,hs,hc,hx,hy,hz,hl',hl2',List.head?_cons,DH,Option.getD_some,A4,List.filterMap_nil,beq_self_eq_true,FK,if_true]
 have hpos:(EG x px).pos.line=px.line:=rfl
 refine(if_neg (by decide)).trans ((if_neg (fun z=>Aj (hs.symm.trans z))).trans ?_)
 simp only[hpos,beq_self_eq_true,hl',hl2',FK,if_true,e1,Ar,A8,bne_self_eq_false,Bool.or_self,AV,if_false]
 exact if_neg (fun z=>Aj (e1.symm.trans (by rw[Bool.false_or]at z;exact z)))
theorem ua{α β:Type}{f:α->Option β}:∀{l:List α},(∃a∈l,f a=none)->(l.filterMap f).length<l.length
 |[],⟨a,h,_⟩=>by cases h
 |b::l,⟨a,h,e⟩=>by
  rw[A4]
  have hle:=Gg f l
  rcases Al.mp h with z|z
  . subst z;rw[e];simp only[Ar];omega
  . have:=ua ⟨a,z,e⟩
    cases f b with
    |none=>simp only[Ar];omega
    |some _=>simp only[Ar];omega
theorem g6{ts vs:List Expr}{kt k2:Nat}{pt pt2:Pos}{env:BJ}(h:(∃x p,EG x p∈ts/\env.kindOf x≠some .local)\/3<ts.length):B4 [.Tuple ts kt pt] (.Tuple vs k2 pt2) env=pure none:=by
 unfold B4
 simp only[]
 split
 . rfl
 . rename_i h1
   split
   . rfl
   . rw[if_pos]
     rcases h with⟨x,p,hm,hk⟩|h
     . rw[AL]
       left
       rw[bne_iff_ne]
       refine AB (ua ⟨_,hm,?_⟩)
       have:(env.kindOf x == some .local)=false:=by simpa using hk
       simp only[this,Dl,AV,if_false]
     . exfalso
       apply h1
       have:(ts.length == 2||ts.length == 3)=false:=by
        rw[EY]
        constructor<;>(rw[beq_eq_false_iff_ne];omega)
       rw[this];rfl
theorem ka{o i:Expr}{p:Pos}{env:BJ}(h:plain i=true)(v:Value):assign (.Subscript o i p) env v=(do
 let ov <-holding [v] (eval o env)
 let iv <-holding [v,ov] (eval i env)
 standAt p
 holding [v,ov,iv] (setItem ov iv v)
 release [v,ov,iv] []):=by
 cases i<;>first|rfl|cases h
section
variable {X:L2.Cx}{env:Env}{s:Sto}
theorem xY{st:Stmt}{t:L2.TS}(h:∀D σ H,¬t D σ H):L2.PS X st t:=fun pins s σ H D I q=>(h D σ H q).elim
theorem V3{o:Out Fl}(h:∀v s',o≠.ok v s'){D:L2.Ends}{σ:L2.St}{H:L2.Hp}:¬tSt X.K X.mg env s o D σ H:=by
 rintro ⟨ρ,_,_,w⟩
 cases o with
 |ok v s'=>exact h v s' rfl
 |exc _ _ _=>exact w
 |stuck=>exact w
theorem zP{st:Stmt}{o:Out Fl}(h:∀v s',o≠.ok v s'):L2.PS X st (tSt X.K X.mg env s o):=xY fun _ _ _=>V3 h
theorem Zk{e:Expr}{o:Out Val}{pos:Pos}(hn:vt e=true)(h:L2.PE X e (tV X.K X.mg env s o)):L2.PS X (.Expr e pos) (tSt X.K X.mg env s (o.bind fun _ s1=>.ok (.nx env) s1)):=by
 cases o with
 |ok v s1=>exact yh (L2.oy h (uz hn)) fun D σ H ⟨ρ,hr,er,w⟩=>⟨ρ,hr,er,fun ρ1 x H1 x1 hr1 r1=>w ρ1 H1 σ x1 hr1 (er.mono x1)⟩
 |exc _ _ _=>exact zP (zF rfl)
 |stuck=>exact zP (zF rfl)
theorem Wl{e:Expr}{o:Out Val}{pos:Pos}(h:L2.PE X e (tV X.K X.mg env s o)):L2.PS X (.Return (some e) pos) (tSt X.K X.mg env s (o.bind fun v s1=>.ok (.rt v) s1)):=by
 cases o with
 |ok v s1=>exact yh (L2.vY h) fun D σ H ⟨ρ,hr,er,w⟩=>⟨ρ,hr,er,fun ρ1 x H1 x1 hr1 r1=>w ρ1 H1 x x1 hr1 r1⟩
 |exc _ _ _=>exact zP (zF rfl)
 |stuck=>exact zP (zF rfl)
theorem dg{i:Nat}{o:Out Val}{st:Stmt}{te:L2.TE}(rule:L2.PS X st (L2.u0 te (L2.x9 i)))(h:∀σ H Q,tV X.K X.mg env s o σ H Q->te σ H Q):L2.PS X st (tSt X.K X.mg env s (o.bind fun v s1=>.ok (.nx (env.set i (some v))) s1)):=by
 cases o with
 |ok v s1=>exact yh rule fun D σ H ⟨ρ,hr,er,w⟩=>h _ _ _ ⟨ρ,hr,er,fun ρ1 x H1 x1 hr1 r1=>w ρ1 H1 _ x1 hr1 ((er.mono x1).set i r1)⟩
 |exc _ _ _=>exact zP (zF rfl)
 |stuck=>exact zP (zF rfl)
theorem Zj{t:Tgt}{g:L2.TG}{o:Out Val}{st:Stmt}{te:L2.TE}(TG:qW X.K X.mg t g)(rule:L2.PS X st (L2.u0 te g))(h:∀σ H Q,tV X.K X.mg env s o σ H Q->te σ H Q) :
 L2.PS X st (tSt X.K X.mg env s (o.bind fun v s1=>match yq t v env with|some env'=>.ok (.nx env') s1|Ab=>.stuck)):=by
 cases o with
 |ok v s1=>
  show L2.PS X st (tSt X.K X.mg env s (match yq t v env with|some env'=>.ok (.nx env') s1|Ab=>.stuck))
  cases hb:yq t v env with
  |none=>exact zP (zF rfl)
  |some env'=>exact yh rule fun D σ H ⟨ρ,hr,er,w⟩=>h _ _ _ ⟨ρ,hr,er,fun ρ1 x H1 x1 hr1 r1=>TG ρ1 s1 H1 v x env env' σ _ hr1 r1 (er.mono x1) hb fun σ' er'=>w ρ1 H1 σ' x1 hr1 er'⟩
 |exc _ _ _=>exact zP (zF rfl)
 |stuck=>exact zP (zF rfl)
theorem dh{a i e:Expr}{o:Out Val}{f2 f3:Sto->Out Val}{p pos:Pos}(hi0:plain i=true)(h1:L2.PE X e (tV X.K X.mg env s o))(h2:∀s1,L2.PE X a (tV X.K X.mg env s1 (f2 s1)))(h3:∀s1,L2.PE X i (tV X.K X.mg env s1 (f3 s1))) :
 L2.PS X (.Assign [.Subscript a i p] e pos) (tSt X.K X.mg env s (o.bind fun v s1=>(f2 s1).bind fun x s2=>(f3 s2).bind fun y s3=>match x,y with
  |.ref r,.int k=>(match s3[r]? with
   |some (.lst vs)=>(match L2.ixN vs.length k with|some j=>.ok (.nx env) (upd s3 r (vs.set j v))|Ab=>.stuck)
   |_=>.stuck)
  |_,_=>.stuck)):=by
 cases o with
 |ok v s1=>
  have h2':=h2 s1
  simp only[zX]
  cases hb:f2 s1 with
  |ok x s2=>
   rw[hb]at h2'
   have h3':=h3 s2
   simp only[zX]
   cases hc:f3 s2 with
   |ok y s3=>
    rw[hc]at h3'
    simp only[zX]
    have rule:L2.PS X (.Assign [.Subscript a i p] e pos) (L2.u0 _ (L2.Ul _ _ L2.XX)):=L2.bR h1 (L2.Vg h2' h3' L2.set_list (ka hi0)) gu m7
    cases x with
    |ref r=>
     cases y with
     |int k=>
      simp only[]
      cases hs:s3[r]? with
      |none=>exact zP (zF rfl)
      |some cl=>
       cases cl with
       |dS _=>exact zP (zF rfl)
       |dT _=>exact zP (zF rfl)
       |tb _=>exact zP (zF rfl)
       |lst vs=>
        simp only[]
        cases hj:L2.ixN vs.length k with
        |none=>exact zP (zF rfl)
        |some j=>
         refine yh rule fun D σ H ⟨ρ,hr,er,w⟩=>⟨ρ,hr,er,fun ρ1 xv H1 x1 hr1 r1=>⟨ρ1,hr1,er.mono x1,fun ρ2 xo H2 x2 hr2 r2=>⟨ρ2,hr2,(er.mono x1).mono x2,fun ρ3 xi H3 x3 hr3 r3=>?_⟩⟩⟩
         cases r3
         have r2':=r2.mono x3
         cases r2' with
         |ref e0 _=>
          obtain⟨b',xs,e1,e2,q⟩:=hr3.obj r _ hs
          rw[e0]at e1;cases e1
          have xx:=(x1.trans hr1 x2).trans hr2 x3
          refine⟨_,xs,k,j,rfl,rfl,e2,by rw[<-q.length];exact hj,?_⟩
          exact w ρ3 _ σ (xx.trans hr3 (Ext.write hr3 e0 e2 _)) (hr3.write e0 e2 (RDs.set ((r1.mono x2).mono x3) j q)) ((er.mono xx).mono (Ext.write hr3 e0 e2 _))
     |_=>exact zP (zF rfl)
    |_=>exact zP (zF rfl)
   |exc _ _ _=>exact zP (zF rfl)
   |stuck=>exact zP (zF rfl)
  |exc _ _ _=>exact zP (zF rfl)
  |stuck=>exact zP (zF rfl)
 |exc _ _ _=>exact zP (zF rfl)
 |stuck=>exact zP (zF rfl)
end
end M
end
section
namespace M
open PySem
section
variable {X:L2.Cx}{env:Env}{s:Sto}
theorem Zl{i j:Nat}{o:Out (List Val)}{st:Stmt}{ta:L2.TA}(rule:L2.PS X st (L2.Sl i j ta))(h:∀σ H Q,tVs X.K X.mg env s o σ H Q->ta σ H Q) :
 L2.PS X st (tSt X.K X.mg env s (o.bind fun vs s1=>if vs.length=[i,j].length then .ok (.nx (([i,j].zip vs).foldl (fun e p=>e.set p.1 (some p.2)) env)) s1 else .stuck)):=by
 cases o with
 |ok vs s1=>
  show L2.PS X st (tSt X.K X.mg env s (if vs.length=[i,j].length then .ok (.nx (([i,j].zip vs).foldl (fun e p=>e.set p.1 (some p.2)) env)) s1 else .stuck))
  match vs with
  |[v,w]=>
   refine yh rule fun D σ H ⟨ρ,hr,er,wt⟩=>h _ _ _ ⟨ρ,hr,er,fun ρ1 xs H1 x1 hr1 r1=>?_⟩
   obtain⟨x,y,rfl,rx,ry⟩:=bW r1
   exact⟨x,y,rfl,wt ρ1 H1 _ x1 hr1 (((er.mono x1).set i rx).set j ry)⟩
  |[]=>exact zP (zF rfl)
  |[_]=>exact zP (zF rfl)
  |_::_::_::r=>exact zP (fun _ _ e=>by simp at e)
 |exc _ _ _=>exact zP (zF rfl)
 |stuck=>exact zP (zF rfl)
theorem Rc{K:KF}{mg:Str->Option Value}{ρ:Own}{H:L2.Hp}{v w z:Val}{xs:List L2.V}(r:RDs K mg ρ H [v,w,z] xs):∃x y t,xs=[x,y,t]/\RD K mg ρ H v x/\RD K mg ρ H w y/\RD K mg ρ H z t:=by
 cases r with
 |cons r1 r2=>
  obtain⟨y,t,rfl,r3,r4⟩:=bW r2
  exact⟨_,_,_,rfl,r1,r3,r4⟩
theorem Zm{i j k:Nat}{o:Out (List Val)}{st:Stmt}{ta:L2.TA}(rule:L2.PS X st (L2.Xc i j k ta))(h:∀σ H Q,tVs X.K X.mg env s o σ H Q->ta σ H Q) :
 L2.PS X st (tSt X.K X.mg env s (o.bind fun vs s1=>if vs.length=[i,j,k].length then .ok (.nx (([i,j,k].zip vs).foldl (fun e p=>e.set p.1 (some p.2)) env)) s1 else .stuck)):=by
 cases o with
 |ok vs s1=>
  show L2.PS X st (tSt X.K X.mg env s (if vs.length=[i,j,k].length then .ok (.nx (([i,j,k].zip vs).foldl (fun e p=>e.set p.1 (some p.2)) env)) s1 else .stuck))
  match vs with
  |[v,w,z]=>
   refine yh rule fun D σ H ⟨ρ,hr,er,wt⟩=>h _ _ _ ⟨ρ,hr,er,fun ρ1 xs H1 x1 hr1 r1=>?_⟩
   obtain⟨x,y,t,rfl,rx,ry,rt⟩:=Rc r1
   exact⟨x,y,t,rfl,wt ρ1 H1 _ x1 hr1 ((((er.mono x1).set i rx).set j ry).set k rt)⟩
  |[]=>exact zP (zF rfl)
  |[_]=>exact zP (zF rfl)
  |[_,_]=>exact zP (zF rfl)
  |_::_::_::_::r=>exact zP (fun _ _ e=>by simp at e)
 |exc _ _ _=>exact zP (zF rfl)
 |stuck=>exact zP (zF rfl)
noncomputable def uSs(K:KF)(mg:Str->Option Value)(Φ:Calls)(G:Str->Option Val)(b:Sms):L2.TS:=fun D σ H=>∃env s,tSt K mg env s (zY Φ G env b s) D σ H
theorem U7{c:Expr}{a b:List Stmt}{o:Out Bool}{f2 f3:Sto->Out Fl}{ta tb:L2.TS}{pos:Pos}(hc:L2.PT X c (tT X.K X.mg env s o))(ha:L2.PSs X a ta)(hb:L2.PSs X b tb)(ia:∀s1 D σ H,tSt X.K X.mg env s1 (f2 s1) D σ H->ta D σ H)(ib:∀s1 D σ H,tSt X.K X.mg env s1 (f3 s1) D σ H->tb D σ H) :
 L2.PS X (.If c a b pos) (tSt X.K X.mg env s (o.bind fun t s1=>if t then f2 s1 else f3 s1)):=by
 cases o with
 |ok v s1=>
  refine yh (L2.me hc ha hb) fun D σ H ⟨ρ,hr,er,wt⟩=>⟨ρ,hr,er,fun ρ1 x H1 x1 hr1 r1=>?_⟩
  have wt':=wt.mono x1 hr1
  cases r1
  cases v with
  |true=>exact L2.oW (ia s1 D σ H1 ⟨ρ1,hr1,er.mono x1,wt'⟩)
  |false=>exact L2.sR (ib s1 D σ H1 ⟨ρ1,hr1,er.mono x1,wt'⟩)
 |exc _ _ _=>exact zP (zF rfl)
 |stuck=>exact zP (zF rfl)
theorem ee{K:KF}{mg:Str->Option Value}{r:Src}{J:L2.It}{t:Tgt}{g:L2.TG}{body:Env->Sto->Out Fl}{tb:L2.TS}{D:L2.Ends}{ρ:Own}{H:L2.Hp}{σ:L2.St}(W:Walk K mg ρ H r J)(TG:qW K mg t g)(hb:∀env s D σ H,tSt K mg env s (body env s) D σ H->tb D σ H)
 (hr:HR K mg ρ s H) (er:ER K mg ρ H env σ) (w:ql K mg ρ H (vG r t body r.xs env s) D):L2.mj J g tb D σ H:=by
 refine n5 (n:=r.xs.length) (fun i σ2 H2=>∃ρ2 s2 env2,HR K mg ρ2 s2 H2/\ER K mg ρ2 H2 env2 σ2/\Ext ρ H ρ2 H2/\vG r t body (r.xs.drop i) env2 s2=vG r t body r.xs env s) ⟨ρ,s,env,hr,er,Ext.refl,by rw[Dn]⟩ ?_ ?_
 . rintro σ2 H2 ⟨ρ2,s2,env2,hr2,er2,x2,h2⟩
   rw[List.drop_length,vG]at h2
   split at h2
   . rename_i ho
     rw[<-h2]at w
     exact⟨W.stop ρ2 H2 s2 _ x2.mv hr2 ho rfl,w ρ2 H2 σ2 x2 hr2 er2⟩
   . rw[<-h2]at w;exact w.elim
 . rintro i σ2 H2 hi ⟨ρ2,s2,env2,hr2,er2,x2,h2⟩
   rw[BS hi,vG]at h2
   split at h2
   . rename_i ho
     obtain⟨hgo,hy⟩:=W.go ρ2 H2 s2 i (r.xs[i]) x2.mv hr2 ho (Ae hi)
     refine⟨hgo,fun x H3 y=>?_⟩
     obtain⟨hH,rx⟩:=hy x H3 y
     split at h2
     . rw[<-h2]at w;exact w.elim
     . rename_i env' he
       have C3:HR K mg ρ2 s2 H3/\Ext ρ2 H2 ρ2 H3:=by
        rcases hH with e|⟨q,o,hq,e⟩
        . subst e;exact⟨hr2,Ext.refl⟩
        . subst e;exact⟨hr2.more hq o,Ext.new hr2 hq o⟩
       have x3:=x2.trans hr2 C3.2
       refine TG ρ2 s2 H3 _ x env2 env' σ2 _ C3.1 rx (er2.mono C3.2) he fun σ4 er4=>hb env' s2 _ σ4 H3 ⟨ρ2,C3.1,er4,?_⟩
       cases hc:body env' s2 with
       |ok fl s5=>
        rw[hc]at h2
        simp only[zX]at h2
        cases fl with
        |nx e=>exact fun ρ5 H5 σ5 x5 hr5 er5=>⟨ρ5,s5,e,hr5,er5,x3.trans C3.1 x5,h2⟩
        |ct e=>exact fun ρ5 H5 σ5 x5 hr5 er5=>⟨ρ5,s5,e,hr5,er5,x3.trans C3.1 x5,h2⟩
        |bk e=>
         simp only[]at h2
         rw[<-h2]at w
         exact fun ρ5 H5 σ5 x5 hr5 er5=>w ρ5 H5 σ5 (x3.trans C3.1 x5) hr5 er5
        |rt v=>
         simp only[]at h2
         rw[<-h2]at w
         exact fun ρ5 H5 y5 x5 hr5 r5=>w ρ5 H5 y5 (x3.trans C3.1 x5) hr5 r5
       |exc _ _ _=>rw[hc]at h2;simp only[fV]at h2;rw[<-h2]at w;exact w.elim
       |stuck=>rw[hc]at h2;simp only[rK]at h2;rw[<-h2]at w;exact w.elim
   . rw[<-h2]at w;exact w.elim
theorem Wk{Φ:Calls}{G:Str->Option Val}{it:Itb}{t:Tgt}{b:Sms}{tg iter:Expr}{body:List Stmt}{g:L2.TG}{pos:Pos}(hx:X.xe=fun _ _=>False)(hc:X.calm=true)(hp:plain iter=true)(hi:∀env s,L2.PI X tg iter (tI (K:=X.K) (mg:=X.mg) env s (xB Φ G env it s)))(hg:L2.PG X tg g)(TG:qW X.K X.mg t g)
 (hb:L2.PSs X body (uSs X.K X.mg Φ G b)):L2.PS X (.For tg iter body [] pos) (tSt X.K X.mg env s ((xB Φ G env it s).bind fun r s1=>vG r t (fun e s'=>zY Φ G e b s') r.xs env s1)):=by
 have hpass:PassesOwn (model X.prog X.w) X.A X.env X.xe:=by rw[hx];exact PassesOwn.never
 refine yh (L2.Vm hpass hc (Vh hi) hg hb (w9 hp)) fun D σ H ⟨ρ,hr,er,w⟩=>⟨env,s,ρ,hr,er,?_⟩
 cases hv:xB Φ G env it s with
 |ok r s1=>
  rw[hv]at w
  exact fun ρ1 H1 J x1 hr1 W=>ee W TG (fun env s D σ H h=>⟨env,s,h⟩) hr1 (er.mono x1) (w.mono x1 hr1)
 |exc _ _ _=>rw[hv]at w;exact w.elim
 |stuck=>rw[hv]at w;exact w.elim
theorem Zn:L2.PSs X [] (tSt X.K X.mg env s (.ok (.nx env) s)):=uq L2.oz fun D σ H ⟨ρ,hr,er,w⟩=>w ρ H σ Ext.refl hr er
theorem di{st:Stmt}{rest:List Stmt}{o:Out Fl}{f:Env->Sto->Out Fl}{tr:L2.TS}(h1:L2.PS X st (tSt X.K X.mg env s o))(h2:L2.PSs X rest tr)(i2:∀env s D σ H,tSt X.K X.mg env s (f env s) D σ H->tr D σ H) :
 L2.PSs X (st::rest) (tSt X.K X.mg env s (o.bind fun fl s1=>match fl with|.nx e=>f e s1|fl=>.ok fl s1)):=by
 refine uq (L2.yi h1 h2) fun D σ H ⟨ρ,hr,er,w⟩=>⟨ρ,hr,er,?_⟩
 cases o with
 |ok fl s1=>
  simp only[zX]at w
  cases fl with
  |nx e=>exact fun ρ1 H1 σ1 x1 hr1 er1=>i2 e s1 D σ1 H1 ⟨ρ1,hr1,er1,w.mono x1 hr1⟩
  |bk e=>exact w
  |ct e=>exact w
  |rt v=>exact w
 |exc _ _ _=>exact w.elim
 |stuck=>exact w.elim
end
end M
end
section
namespace M
open PySem
noncomputable def cS(c:Const)(k:Str->Bool):Bool:=el c.ctorIdx 5 fun h=>Const.str.elim (motive:=fun _=>Bool) c h k
theorem Xu{c:Const}{k:Str->Bool}(h:cS c k=true):∃x,c=.str x/\k x=true:=by
 obtain⟨hc,h⟩:=zx h
 obtain⟨x,rfl⟩:∃x,c=.str x:=Const.str.elim (motive:=fun c=>∃x,c=Const.str x) c hc fun x=>⟨x,rfl⟩
 exact⟨x,rfl,h⟩
noncomputable def eS(e:Expr):Bool:=a0 e fun c _ _=>cS c fun x=>decide (x.length<=1000)
theorem lU{e:Expr}(h:eS e=true):∃x k p,e=.Constant (.str x) k p/\x.length<=1000:=by
 obtain⟨c,k,p,rfl,h1⟩:=rS h
 obtain⟨x,rfl,h2⟩:=Xu h1
 exact⟨x,k,p,rfl,of_decide_eq_true h2⟩
noncomputable def eF(e:Expr)(k:Expr->Bool):Bool:=Ue e fun u c s _=>decide (c=-1)&&s.isNone&&k u
theorem eK{e:Expr}{k:Expr->Bool}(h:eF e k=true):∃u p,e=.FormattedValue u (-1) none p/\k u=true:=by
 obtain⟨u,c,s,p,rfl,h1⟩:=eL h
 obtain⟨h2,h3⟩:=zW h1
 rw[of_decide_eq_true (zW h2).1,Cc.mp (zW h2).2]
 exact⟨u,p,rfl,h3⟩
noncomputable def eFs(e:Expr)(k:Expr->Expr->Bool):Bool:=eJn e fun xs _=>lc xs fun c1 xs=>lc xs fun f1 xs=>lc xs fun c2 xs=>lc xs fun f2 xs=>l1 xs fun c3=>(eS c1&&(eS c2&&eS c3))&&eF f1 fun u=>eF f2 fun v=>k u v
theorem a9{e:Expr}{k:Expr->Expr->Bool}(h:eFs e k=true):∃(u v:Expr) (c1 c2 c3:Str) (k1 k2 k3:Nat) (p1 p2 p3 p4 p5 pos:Pos),e=.JoinedStr [.Constant (.str c1) k1 p1,.FormattedValue u (-1) none p2,.Constant (.str c2) k2 p3,.FormattedValue v (-1) none p4,.Constant (.str c3) k3 p5] pos/\c1.length<=1000/\c2.length<=1000/\c3.length<=1000/\k u v=true:=by
 obtain⟨xs,pos,rfl,h1⟩:=ZA h
 obtain⟨a1,xs,rfl,h2⟩:=yV h1
 obtain⟨a2,xs,rfl,h3⟩:=yV h2
 obtain⟨a3,xs,rfl,h4⟩:=yV h3
 obtain⟨a4,xs,rfl,h5⟩:=yV h4
 obtain⟨a5,rfl,h6⟩:=yf h5
 obtain⟨h7,h8⟩:=zW h6
 obtain⟨c1,k1,p1,rfl,z1⟩:=lU (zW h7).1
 obtain⟨c2,k2,p3,rfl,z2⟩:=lU (zW (zW h7).2).1
 obtain⟨c3,k3,p5,rfl,z3⟩:=lU (zW (zW h7).2).2
 obtain⟨u,p2,rfl,h9⟩:=eK h8
 obtain⟨v,p4,rfl,h10⟩:=eK h9
 exact⟨u,v,c1,c2,c3,k1,k2,k3,p1,p2,p3,p4,p5,pos,rfl,z1,z2,z3,h10⟩
noncomputable def RG(sc:Scope)(N:List Str)(es:Exs)(a:Expr):Bool:=eFs a fun u v=>ckL sc N es [u,v]
mutual
noncomputable def ckS(sc:Scope)(N:List Str):Sm->Stmt->Bool
 |.expr e,st=>(SN st fun x _=>ck sc N e x&&vt x)
 |.ret e,st=>(SR st fun q _=>o1 q fun x=>ck sc N e x)
 |.retN,_=>false
 |.asg i e,st=>(YM st fun ts v _=>l1 ts fun t=>eName t fun x _=>decide (N[i]?=some x)&&(decide (sc.names.lookup x=some .local)||decide (sc.names.lookup x=some .cell))&&ck sc N e v)
 |.asgT _ _,_=>false
 |.par is es,st=>(YM st fun t0 v _=>l1 t0 fun t=>ZG t fun ts _ _=>ZG v fun vs _ _=>yE sc N is ts&&ckL sc N es vs&&zg vs&&decide (is.length<=8)&&decide is.Nodup&&decide (ts.length=vs.length)&&(XZ sc ts vs||Xf sc ts))
 |.aug _ _ _,_=>false
 |.setD _ _ _,_=>false
 |.setIx o i e,st=>(YM st fun ts v _=>l1 ts fun t=>ZF t fun a b _=>ck sc N o a&&ck sc N i b&&ck sc N e v&&plain b)
 |.ifS c a b,st=>(sIf st fun t x y _=>ckC sc N c t&&ni sc N a x&&ni sc N b y)
 |.forS t it b,st=>(SQ st fun tg iter body els _=>els.isEmpty&&(ckT sc N t tg&&ckI sc N it iter tg&&ni sc N b body&&plain iter))
 |.whileS _ _,_=>false
 |.pass,_=>false
 |.brk,_=>false
 |.cont,_=>false
 |.raise e,st=>(match e with
  |.call c _ es=>(sRs st fun q b _=>b.isNone&&o1 q fun q=>eCN q fun x xs=>l1 xs fun a=>decide (x=c)&&xj sc x&&!(x == ("__debug__":Str))&&((ckL sc N es [a]&&plain a)||RG sc N es a))
  |.lit _=>true
  |_=>false)
noncomputable def ni(sc:Scope)(N:List Str):Sms->List Stmt->Bool
 |.nil,ss=>ss.isEmpty
 |.cons c cs,ss=>(lc ss fun t ts=>ckS sc N c t&&ni sc N cs ts)
end
structure OkF(T:Tbl)(n:Nat)(sc:Scope)(N:List Str)(X:L2.Cx):Prop where
 ok:Ok T n sc N X
 esc:X.env.scope=sc
 bk:X.env.blockKind=.function
section
variable {T:Tbl}{n:Nat}
def JS(T:Tbl)(n:Nat)(a:Sm):Prop:=∀(sc:Scope) (N:List Str) (X:L2.Cx) (st:Stmt),OkF T n sc N X->ckS sc N a st=true->∀env s,L2.PS X st (tSt X.K X.mg env s (exS (zE T n) T.gl env a s))
def JSs(T:Tbl)(n:Nat)(a:Sms):Prop:=∀(sc:Scope) (N:List Str) (X:L2.Cx) (st:List Stmt),OkF T n sc N X->ni sc N a st=true->∀env s,L2.PSs X st (tSt X.K X.mg env s (zY (zE T n) T.gl env a s))
theorem j6{X:L2.Cx}{b:Sms}{st:List Stmt}{Φ:Calls}{G:Str->Option Val}(h:∀env s,L2.PSs X st (tSt X.K X.mg env s (zY Φ G env b s))):L2.PSs X st (uSs X.K X.mg Φ G b):=fun pins s σ H D I ⟨env,t,q⟩=>h env t pins s σ H D I q
theorem Zc{e:Ex}:JS T n (.expr e):=by
 intro sc N X st o h env s
 replace h:=mx h
 obtain⟨x1,p1,rfl,h⟩:=h
 simp only[Aa]at h
 exact Zk h.2 (jE T n e _ _ _ _ o.ok h.1 env s)
theorem Wc{e:Ex}:JS T n (.ret e):=by
 intro sc N X st o h env s
 replace h:=my h
 obtain⟨q1,p1,rfl,h⟩:=h
 replace h:=oi h
 obtain⟨x1,rfl,h⟩:=h
 exact Wl (jE T n e _ _ _ _ o.ok h env s)
theorem ke{elt:Expr}{gens:List C9}{csc:Scope}{cpos py:Pos}{y:Str}{l:Nat}{env:BJ}:∃b,Fj (.ListComp elt gens csc cpos) (some (.Name y py)) l env=pure b:=⟨_,rfl⟩
noncomputable def ZQ:Ex->Bool
 |.comp ..=>true
 |_=>false
theorem mL{sc:Scope}{N:List Str}{a:Ex}{e:Expr}(h:ck sc N a e=true)(ha:ZQ a=false):vt e=true:=by
 have no:∀{e:Expr},ck sc N a e=true->e.ctorIdx=8\/e.ctorIdx=9\/e.ctorIdx=10->False:=fun{e} h hc=>by
  have key:(∃x g c p,e=.ListComp x g c p)\/(∃x g c p,e=.SetComp x g c p)\/∃k x g c p,e=.DictComp k x g c p:=by
   rcases hc with hc|hc|hc
   . exact .inl (Fp (motive_1:=fun e=>∃x g c p,e=Expr.ListComp x g c p) e hc fun x g c p=>⟨x,g,c,p,rfl⟩)
   . exact .inr (.inl (Expr.SetComp.elim (motive_1:=fun e=>∃x g c p,e=Expr.SetComp x g c p) e hc fun x g c p=>⟨x,g,c,p,rfl⟩))
   . exact .inr (.inr (Expr.DictComp.elim (motive_1:=fun e=>∃k x g c p,e=Expr.DictComp k x g c p) e hc fun k x g c p=>⟨k,x,g,c,p,rfl⟩))
  rcases key with⟨x,g,c,p,rfl⟩|⟨x,g,c,p,rfl⟩|⟨k,x,g,c,p,rfl⟩ <;>
  . cases a with
    |comp _ _ _ _ _ _ _=>cases ha
    |call f v es=>
     have h:(if v<100 then _ else if v<200 then _ else _)=true:=h
     split at h
     . cases h
     . split at h
       . cases h
       . exact absurd (show false=true from (zW h).2) Aj
    |_=>cases h
 cases e with
 |ListComp _ _ _ _=>exact(no h (.inl rfl)).elim
 |SetComp _ _ _ _=>exact(no h (.inr (.inl rfl))).elim
 |DictComp _ _ _ _ _=>exact(no h (.inr (.inr rfl))).elim
 |_=>rfl
theorem WZ{i:Nat}{e:Ex}:JS T n (.asg i e):=by
 intro sc N X st o h env s
 replace h:=uy h
 obtain⟨ts1,v,pos,rfl,h⟩:=h
 replace h:=yf h
 obtain⟨t1,rfl,h⟩:=h
 replace h:=y0 h
 obtain⟨x,px,rfl,h⟩:=h
 simp only[Aa,decide_eq_true_eq,AL]at h
 obtain⟨⟨h1,h2⟩,h3⟩:=h
 obtain⟨l1,l2⟩:=o.ok.scp.loc x h2
 have hN:X.N.Nodup:=by rw[o.ok.scp.hN];exact o.ok.scp.nd
 have hi:X.N[i]?=some x:=by rw[o.ok.scp.hN];exact h1
 by_cases hn:vt v=true
 . exact dg (L2.uK hN hi l1 (jE T n e _ _ _ _ o.ok h3 env s) (uz hn) l2) fun σ H Q q=>q
 . -- a comprehension
   cases e with
   |comp m N' fr elt t it ifs=>
    replace h3:=jW h3
    obtain⟨x',tg,iter,fs,csc,cpos,rfl,h3⟩:=h3
    simp only[Aa,decide_eq_true_eq]at h3
    obtain⟨⟨⟨⟨⟨⟨c1,c2⟩,c3⟩,c4⟩,c5⟩,c6⟩,c7⟩:=h3
    have S:=Yv o.ok.scp c1
    have oc:=o.ok.comp S c2 c1
    obtain⟨g,pg,tg'⟩:∃g,(∀C s0 H0 ex,L2.PG (X.comp N' csc C s0 H0 ex) tg g)/\qW X.K X.mg t g:=by
     cases t with
     |nm i=>
      cases tg with
      |Name y p=>
       simp only[ckT,Aa,AL,decide_eq_true_eq]at c3
       exact⟨_,fun C s0 H0 ex=>jz (oc C s0 H0 ex).scp c3.1 c3.2,nK⟩
      |_=>cases c3
     |nms is=>
      cases tg with
      |Tuple es k p=>
       simp only[ckT,Aa,decide_eq_true_eq]at c3
       refine⟨_,fun C s0 H0 ex=>?_,u6 (is:=is)⟩
       obtain⟨a,b,c⟩:=wj (oc C s0 H0 ex).scp c3.1
       exact L2.ow (X:=X.comp N' csc C s0 H0 ex) o.ok.calm a b c
      |_=>cases c3
    have hpi:L2.PI X tg iter (uI X.K X.mg (zE T n) T.gl it):=Vh fun env s=>jI T n it _ _ _ _ _ o.ok c4 env s
    have hts:∀C s0 H0 ex,L2.PTs (X.comp N' csc C s0 H0 ex) fs (uTs X.K X.mg (zE T n) T.gl ifs):=fun C s0 H0 ex=>(jCs T n ifs _ _ _ _ (oc C s0 H0 ex) c5).2.2
    have hel:∀C s0 H0 ex,L2.PE (X.comp N' csc C s0 H0 ex) x' (uE X.K X.mg (zE T n) T.gl elt):=fun C s0 H0 ex=>Tw (X:=X.comp N' csc C s0 H0 ex) fun env s=>jE T n elt _ _ _ _ (oc C s0 H0 ex) c6 env s
    have rule:L2.PS X (.Assign [.Name x px] (.ListComp x' [⟨tg,iter,fs,0⟩] csc cpos) pos) (L2.u0 (L2.sJ fr (uI X.K X.mg (zE T n) T.gl it) g (uTs X.K X.mg (zE T n) T.gl ifs) fun acc=>L2.pT acc (uE X.K X.mg (zE T n) T.gl elt)) (L2.x9 i)):=by
     obtain⟨b,hb⟩:=ke (elt:=x') (gens:=[⟨tg,iter,fs,0⟩]) (csc:=csc) (cpos:=cpos) (y:=x) (py:=px) (l:=pos.line) (env:=X.env)
     cases b with
     |true=>exact L2.YH o.ok.calm S hpi pg hts hel hN hi l1 hb l2 (w9 c7)
     |false=>exact L2.uK hN hi l1 (L2.jy o.ok.calm S hpi pg hts hel (w9 c7)) hb l2
    refine dg (o:=evE (zE T n) T.gl env (.comp m N' fr elt t it ifs) s) rule fun σ H Q hq=>pA (env:=env) (s:=s) (chk:=false) (m:=m) (body:=u9 (zE T n) T.gl elt ifs) tg' sN (fun acc ρ0 H0 hn=>lE hn) ?_ fun _ r s1 p s2 hl=>?_
    . simp only[AV,false_implies,if_true];exact hq
    . have:=sC hl
      simpa using this
   |_=>exact absurd (mL h3 rfl) hn
theorem Wb{is:List Nat}{es:Exs}:JS T n (.par is es):=by
 intro sc N X st o h env s
 replace h:=uy h
 obtain⟨ts1,v,pos,rfl,h⟩:=h
 replace h:=yf h
 obtain⟨t1,rfl,h⟩:=h
 replace h:=uZ h
 obtain⟨ts,k,p,rfl,h⟩:=h
 replace h:=uZ h
 obtain⟨vs,k2,p2,rfl,h⟩:=h
 simp only[Aa,decide_eq_true_eq,AL]at h
 obtain⟨⟨⟨⟨⟨⟨h1,h2⟩,h3⟩,h4⟩,h5⟩,h6⟩,h7⟩:=h
 have hes:=(jL T n es _ _ _ _ o.ok h2).1 h3 env s
 have hN:X.N.Nodup:=by rw[o.ok.scp.hN];exact o.ok.scp.nd
 have kind:∀x,X.env.kindOf x=sc.names.lookup x:=fun x=>by show X.env.scope.names.lookup x=_;rw[o.esc]
 rcases h7 with h7|h7
 . unfold XZ at h7
   split at h7
   . rename_i x px y py
     simp only[Aa,decide_eq_true_eq,AX]at h7
     obtain⟨⟨⟨⟨⟨q1,q2⟩,q3⟩,q4⟩,q5⟩,q6⟩:=h7
     match is,h1,h5 with
     |[i,j],h1,h5=>
      simp only[yE,Aa,decide_eq_true_eq,AL]at h1
      obtain⟨⟨i1,i2⟩,⟨j1,j2⟩,_⟩:=h1
      match vs,h6 with
      |[a,b],_=>
       have hij:i≠j:=by rw[Bz]at h5;exact fun z=>h5.1 (by rw[z];exact Aq.mpr rfl)
       exact Zl (L2.Vn o.ok.calm hN (by rw[o.ok.scp.hN];exact i1) (by rw[o.ok.scp.hN];exact j1) hij (by rw[o.esc];exact q1) (by rw[o.esc];exact q2) hes
        (m8 o.bk (by rw[kind];exact q1) (by rw[kind];exact q2) q3 q4 h3 q5 q6) sA) fun σ H Q q=>q
     |[],h1,_=>exact absurd h1 (by simp[yE])
     |[_],h1,_=>exact absurd h1 (by simp[yE])
     |_::_::_::_,h1,_=>exact absurd h1 (by simp[yE])
   . rename_i x px y py z pz
     simp only[Aa,decide_eq_true_eq,AX]at h7
     obtain⟨⟨⟨⟨⟨⟨⟨⟨⟨q1,q2⟩,q3⟩,q4⟩,q5⟩,q6⟩,q7⟩,q8⟩,q9⟩,q10⟩:=h7
     match is,h1,h5 with
     |[i,j,l],h1,h5=>
      simp only[yE,Aa,decide_eq_true_eq,AL]at h1
      obtain⟨⟨i1,i2⟩,⟨j1,j2⟩,⟨l1,l2⟩,_⟩:=h1
      match vs,h6 with
      |[a,b,c],_=>
       simp only[Bz,Al,BC,or_false,not_or]at h5
       exact Zm (L2.YI o.ok.calm hN (by rw[o.ok.scp.hN];exact i1) (by rw[o.ok.scp.hN];exact j1) (by rw[o.ok.scp.hN];exact l1) h5.1.1 h5.1.2 h5.2.1 (by rw[o.esc];exact q1) (by rw[o.esc];exact q2) (by rw[o.esc];exact q3) hes
        (qh o.bk (by rw[kind];exact q1) (by rw[kind];exact q2) (by rw[kind];exact q3) q4 q5 q6 q7 q8 h3 q9 q10) sA) fun σ H Q q=>q
     |[],h1,_=>exact absurd h1 (by simp[yE])
     |[_],h1,_=>exact absurd h1 (by simp[yE])
     |[_,_],h1,_=>exact absurd h1 (by simp[yE])
     |_::_::_::_::_,h1,_=>exact absurd h1 (by simp[yE])
   . cases h7
 . have hun:(∃x p,EG x p∈ts/\X.env.kindOf x≠some .local)\/3<ts.length:=by
    unfold Xf at h7
    simp only[AL,decide_eq_true_eq,BL]at h7
    rcases h7 with⟨e,hm,he⟩|h7
    . cases e with
      |Name x px=>
       simp only[decide_eq_true_eq]at he
       exact .inl ⟨x,px,hm,by rw[kind];exact he⟩
      |_=>cases he
    . exact .inr h7
   obtain⟨a,b,c⟩:=wj o.ok.scp h1
   have rule:=Zj (t:=.nms is) (env:=env) (s:=s) u6 (L2.bR (pos:=pos) (la (k:=k2) (pos:=p2) hes) (L2.ow (k:=k) (pos:=p) o.ok.calm a b c) sA (g6 hun)) fun σ H Q q=>q
   have e:((zo (zE T n) T.gl env es s).bind fun vs s1=>if vs.length=is.length then (.ok:Fl->Sto->Out Fl) (.nx ((is.zip vs).foldl (fun e p=>e.set p.1 (some p.2)) env)) s1 else .stuck)=(((zo (zE T n) T.gl env es s).bind fun vs s1=>if vs.length<=zU then (.ok:Val->Sto->Out Val) (.tup vs) s1 else .stuck).bind fun v s1=>match yq (.nms is) v env with|some env'=>(.ok:Fl->Sto->Out Fl) (.nx env') s1|Ab=>.stuck):=by
    cases zo (zE T n) T.gl env es s with
    |ok ws s1=>
     simp only[zX]
     by_cases hl:ws.length=is.length
     . have hz:ws.length<=zU:=by rw[hl];exact Ax h4 (by decide)
       simp only[if_pos hl,if_pos hz,zX,yq]
     . rw[if_neg hl]
       by_cases hz:ws.length<=zU
       . simp only[if_neg hl,if_pos hz,zX,yq]
       . simp only[if_neg hz,rK]
    |exc _ _ _=>rfl
    |stuck=>rfl
   show L2.PS X _ (tSt X.K X.mg env s ((zo (zE T n) T.gl env es s).bind fun vs s1=>if vs.length=is.length then .ok (.nx ((is.zip vs).foldl (fun e p=>e.set p.1 (some p.2)) env)) s1 else .stuck))
   rw[e]
   exact rule
theorem dP{a i e:Ex}:JS T n (.setIx a i e):=by
 intro sc N X st o h env s
 replace h:=uy h
 obtain⟨ts1,v,pos,rfl,h⟩:=h
 replace h:=yf h
 obtain⟨t1,rfl,h⟩:=h
 replace h:=rT h
 obtain⟨a1,b1,p1,rfl,h⟩:=h
 simp only[Aa]at h
 exact dh h.2 (jE T n e _ _ _ _ o.ok h.1.2 env s) (fun s1=>jE T n a _ _ _ _ o.ok h.1.1.1 env s1) fun s1=>jE T n i _ _ _ _ o.ok h.1.1.2 env s1
theorem U0{c:Cn}{a b:Sms}(ja:JSs T n a)(jb:JSs T n b):JS T n (.ifS c a b):=by
 intro sc N X st o h env s
 replace h:=iA h
 obtain⟨t1,x1,y1,p1,rfl,h⟩:=h
 simp only[Aa]at h
 exact U7 (jC T n c _ _ _ _ o.ok h.1.1 env s) (j6 fun env s=>ja _ _ _ _ o h.1.2 env s) (j6 fun env s=>jb _ _ _ _ o h.2 env s) (fun s1 D σ H q=>⟨env,s1,q⟩) fun s1 D σ H q=>⟨env,s1,q⟩
theorem Wa{t:Tgt}{it:Itb}{b:Sms}(jb:JSs T n b):JS T n (.forS t it b):=by
 intro sc N X st o h env s
 replace h:=bq h
 obtain⟨tg1,i1,b1,e1,p1,rfl,h⟩:=h
 obtain⟨h0,hh⟩:=zW h
 cases AY.mp h0
 clear h
 have h:=hh
 simp only[Aa]at h
 obtain⟨g,pg,tg⟩:=T3 o.ok.scp o.ok.calm h.1.1.1
 exact Wk o.ok.xe o.ok.calm h.2 (fun env s=>jI T n it _ _ _ _ _ o.ok h.1.1.2 env s) pg tg (j6 fun env s=>jb _ _ _ _ o h.1.2 env s)
theorem dO{e:Ex}:JS T n (.raise e):=fun sc N X st o h env s=>zP (zF rfl)
theorem Zd:JSs T n .nil:=by
 intro sc N X st o h env s
 cases AY.mp h
 exact Zn
theorem dQ{c:Sm}{cs:Sms}(jc:JS T n c)(jcs:JSs T n cs):JSs T n (.cons c cs):=by
 intro sc N X st o h env s
 replace h:=yV h
 obtain⟨t1,ts1,rfl,h⟩:=h
 simp only[Aa]at h
 exact di (f:=fun e s=>zY (zE T n) T.gl e cs s) (jc _ _ _ _ o h.1 env s) (j6 fun env s=>jcs _ _ _ _ o h.2 env s) fun env s D σ H q=>⟨env,s,q⟩
end
section
variable (T:Tbl)(n:Nat)
mutual
theorem jS:∀a:Sm,JS T n a
 |.expr _=>Zc
 |.ret _=>Wc
 |.retN=>fun sc N X e o h=>by cases h
 |.asg _ _=>WZ
 |.asgT _ _=>fun sc N X e o h=>by cases h
 |.par _ _=>Wb
 |.aug _ _ _=>fun sc N X e o h=>by cases h
 |.setIx _ _ _=>dP
 |.setD _ _ _=>fun sc N X e o h=>by cases h
 |.ifS _ a b=>U0 (jSs a) (jSs b)
 |.forS _ _ b=>Wa (jSs b)
 |.whileS _ _=>fun sc N X e o h=>by cases h
 |.pass=>fun sc N X e o h=>by cases h
 |.brk=>fun sc N X e o h=>by cases h
 |.cont=>fun sc N X e o h=>by cases h
 |.raise _=>dO
theorem jSs:∀a:Sms,JSs T n a
 |.nil=>Zd
 |.cons c cs=>dQ (jS c) (jSs cs)
end
end
end M
end
section
namespace M
open PySem
structure OkX(T:Tbl)(n:Nat)(sc:Scope)(N:List Str)(X:L2.Cx)(E:L2.XK):Prop where
 okf:OkF T n sc N X.nox
 ps:L2.Passes (L2.CXE X.prog X.w) X E
 xr:∀C H,E (.ref C) none H->L2.XR X C H
 lv:Lv T X.prog X.w X.K X.mg X.base n
 cls:∀c,(T.xc.lookup c).isSome=true->∃C D,X.mg c=some (.ref C)/\L2.ClsAt X.base C (.ref D::L2.veM)/\L2.ClsAt X.base D L2.veM
section
variable (K:KF)(mg:Str->Option Value)(E:L2.XK)
noncomputable def tX(env:Env)(s:Sto)(x:rC):L2.TS:=fun _ σ H=>∃ρ,HR K mg ρ s H/\ER K mg ρ H env σ/\qT K mg ρ H x E
noncomputable def tXe(env:Env)(s:Sto)(x:rC):L2.TE:=fun σ H _=>∃ρ,HR K mg ρ s H/\ER K mg ρ H env σ/\qT K mg ρ H x E
end
theorem qT.mono{K:KF}{mg:Str->Option Value}{ρ ρ':Own}{H H':L2.Hp}{s:Sto}{x:rC}{E:L2.XK}(h:qT K mg ρ H x E)(e:Ext ρ H ρ' H')(hr:HR K mg ρ' s H'):qT K mg ρ' H' x E:=by
 cases x with
 |none=>exact h
 |some r=>
  obtain⟨c,as,s'⟩:=r
  exact fun ρ2 H2 x2 hr2 C hC=>h ρ2 H2 (e.trans hr x2) hr2 C hC
noncomputable abbrev wx(T:Tbl):Str->Bool:=fun c=>(T.xc.lookup c).isSome
section
variable {T:Tbl}{n:Nat}{sc:Scope}{N:List Str}{X:L2.Cx}{E:L2.XK}
theorem zh{env:Env}{s:Sto}{σ:L2.St}{H:L2.Hp}{Q:L2.VK}:¬tXe X.K X.mg E env s Ab σ H Q:=fun⟨_,_,_,z⟩=>z
theorem y9{env:Env}{s:Sto}{σ:L2.St}{H:L2.Hp}{D:L2.Ends}:¬tX X.K X.mg E env s Ab D σ H:=fun⟨_,_,_,z⟩=>z
theorem rL{f:Str}{v:Nat}(h:T.fn f v=Ab)(vs:List Val)(s:Sto):zm T n f v vs s=Ab:=by
 cases n with
 |zero=>rfl
 |succ n=>simp only[zm,h]
mutual
theorem jxE(o:OkX T n sc N X E):∀(a:Ex) (e:Expr),ck sc N a e=true->∀env s,L2.PE X e (tXe X.K X.mg E env s (xE (zE T n) (zm T n) T.gl env a s))
 |.call f v es,e,h=>fun env s=>by
  replace h:(if v<100 then ckA sc f (fun xs=>ckL sc N es xs) e else if v<200 then ckB sc N f v es (fun l ys=>ckL l N es ys) e else ckV sc N v es (fun l ys=>ckL l N es ys) e)=true:=h
  split at h
  . replace h:=yn h
    obtain⟨x,p,xs,pos,rfl,h⟩:=h
    simp only[Aa,decide_eq_true_eq,xj,AX]at h
    obtain⟨⟨⟨⟨rfl,h2⟩,h3⟩,h4⟩,h5⟩:=h
    simp only[xE]
    cases hv:zo (zE T n) T.gl env es s with
    |exc _ _ _=>exact yO fun _ _ _=>zh
    |stuck=>exact yO fun _ _ _=>zh
    |ok vs s1=>
     simp only[]
     cases hf:T.fn x v with
     |none=>rw[rL hf];exact yO fun _ _ _=>zh
     |some F=>
      obtain⟨fa,fd,e1,e2,e3,e4,e5⟩:=o.lv.ex x v F hf
      have hp:=(jL T n es _ _ _ _ o.okf.ok h4).1 h5 env s
      rw[hv]at hp
      have hp:=kD hp
      cases xs with
      |nil=>
       cases es with
       |cons _ _=>cases h4
       |nil=>
        cases hv
        exact zb (L2.mV e5 o.okf.ok.room (o.okf.ok.scp.gl x h2) e1 e2 e3 .nil o.ps h3) fun σ H Q ⟨ρ,hr,er,w⟩=>⟨ρ,_,[],hr,.nil,.inr w⟩
      |cons y ys=>
       rw[zg,Aa]at h5
       refine zb (L2.ou e5 o.okf.ok.room (o.okf.ok.scp.gl x h2) e1 e2 e3 .nil o.ps hp h3 (L2.zd (zV h5.1)) (yw h5.2)) fun σ H Q ⟨ρ,hr,er,w⟩=>⟨ρ,hr,er,fun ρ1 zs H1 x1 hr1 r1=>?_⟩
       show spX T X.K X.mg n x v (zs++[]) H1 Q E
       rw[AZ]
       exact⟨ρ1,s1,vs,hr1,r1,.inr (w.mono x1 hr1)⟩
  . rename_i hver
    have hx:xE (zE T n) (zm T n) T.gl env (.call f v es) s=Ab:=by
     simp only[xE]
     cases zo (zE T n) T.gl env es s with
     |ok vs s1=>exact rL (o.okf.ok.no f v (by omega)) _ _
     |_=>rfl
    rw[hx]
    exact yO fun _ _ _=>zh
 |.cmp op a b,e,h=>fun env s=>by
  replace h:=oK h
  obtain⟨l1,o1,r1,p1,rfl,h⟩:=h
  simp only[Aa,decide_eq_true_eq]at h
  obtain⟨⟨⟨⟨k1,rfl⟩,h1⟩,h2⟩,h3⟩:=h
  simp only[xE]
  exact zb (L2.jx (uH (X:=X) o.okf.ok.room op k1) (jxE o a _ h1 env s) (L2.PE.nox (jE T n b _ _ _ _ o.okf.ok h2 env s)) (wF h3)) fun σ H Q z=>z
 |.lit _,_,_=>fun _ _=>yO fun _ _ _=>zh
 |.var _,_,_=>fun _ _=>yO fun _ _ _=>zh
 |.gl _,_,_=>fun _ _=>yO fun _ _ _=>zh
 |.ty _ _,_,_=>fun _ _=>yO fun _ _ _=>zh
 |.bin m op a b,e,h=>fun env s=>by
  replace h:=nq h
  obtain⟨l1,o1,r1,p1,rfl,h⟩:=h
  simp only[Aa,decide_eq_true_eq]at h
  obtain⟨⟨⟨k1,rfl⟩,h1⟩,h2⟩:=h
  simp only[xE]
  exact zb (L2.mX (cZ (X:=X) m op k1) (jxE o a _ h1 env s) (L2.PE.nox (jE T n b _ _ _ _ o.okf.ok h2 env s))) fun σ H Q z=>z
 |.neg _,_,_=>fun _ _=>yO fun _ _ _=>zh
 |.not _,_,_=>fun _ _=>yO fun _ _ _=>zh
 |.chain _ _ _ _ _,_,_=>fun _ _=>yO fun _ _ _=>zh
 |.andE _ _,_,_=>fun _ _=>yO fun _ _ _=>zh
 |.orE _ _,_,_=>fun _ _=>yO fun _ _ _=>zh
 |.ife _ _ _,_,_=>fun _ _=>yO fun _ _ _=>zh
 |.tup _,_,_=>fun _ _=>yO fun _ _ _=>zh
 |.lst _ _,_,_=>fun _ _=>yO fun _ _ _=>zh
 |.dct0,_,_=>fun _ _=>yO fun _ _ _=>zh
 |.blt f m es,e,h=>fun env s=>by
  replace h:=yn h
  obtain⟨x,p,xs,pos,rfl,h⟩:=h
  replace h:=yV h
  obtain⟨y,ys,rfl,h⟩:=h
  simp only[Aa,decide_eq_true_eq,xj]at h
  obtain⟨⟨⟨⟨k1,rfl⟩,h2⟩,h3⟩,h4⟩:=h
  simp only[xE]
  have hpa:=jxL o es (y::ys) h3 h4 env s
  rw[zg,Aa]at h4
  have bo:=f.boot
  have hg:=o.okf.ok.scp.gl _ h2
  have hm:=o.okf.ok.blt _ (fT f)
  have st:=L2.zd (es:=ys) (env:=X.env) (zV h4.1)
  have hn:=yw (pos:=pos) (env:=X.env) h4.2
  cases f with
  |tuple=>exact zb (L2.yp (r:=fun _ _ _=>False) (fun _ _ _ _ _ _ _ _ _ z=>AF z) hg hm bo hpa (by decide) (by decide) st hn) fun σ H Q z=>z
  |list=>exact zb (L2.yp (r:=fun _ _ _=>False) (fun _ _ _ _ _ _ _ _ _ z=>AF z) hg hm bo hpa (by decide) (by decide) st hn) fun σ H Q z=>z
  |int=>exact zb (L2.yp (r:=fun _ _ _=>False) (fun _ _ _ _ _ _ _ _ _ z=>AF z) hg hm bo hpa (by decide) (by decide) st hn) fun σ H Q z=>z
  |str=>exact zb (L2.yp (r:=fun _ _ _=>False) (fun _ _ _ _ _ _ _ _ _ z=>AF z) hg hm bo hpa (by decide) (by decide) st hn) fun σ H Q z=>z
  |_=>exact zb (L2.vW (r:=fun _ _ _=>False) (fun _ _ _ _ _ _ _ _ _ z=>AF z) hg hm bo hpa (by decide) (by decide) st hn) fun σ H Q z=>z
 |.maxD _ _,_,_=>fun _ _=>yO fun _ _ _=>zh
 |.xF _ _ _ _,_,_=>fun _ _=>yO fun _ _ _=>zh
 |.ix _ _,_,_=>fun _ _=>yO fun _ _ _=>zh
 |.sl _ _ _ _ _,_,_=>fun _ _=>yO fun _ _ _=>zh
 |.comp _ _ _ _ _ _ _,_,_=>fun _ _=>yO fun _ _ _=>zh
 |.comp2 _ _ _ _ _ _ _ _ _ _,_,_=>fun _ _=>yO fun _ _ _=>zh
 |.listRange _ _ _ _,_,_=>fun _ _=>yO fun _ _ _=>zh
 |.dctN _,_,_=>fun _ _=>yO fun _ _ _=>zh
 |.ixD _ _,_,_=>fun _ _=>yO fun _ _ _=>zh
theorem jxL(o:OkX T n sc N X E):∀(as:Exs) (es:List Expr),ckL sc N as es=true->zg es=true->∀env s,L2.PA X es (fun σ H _=>tXe X.K X.mg E env s (xL (zE T n) (zm T n) T.gl env as s) σ H fun _ _=>False)
 |.nil,_,_=>fun _ _ _=>fun _ _ _ _ _ _ _ z=>(zh z).elim
 |.cons a as,es,h=>fun hp env s=>by
  replace h:=yV h
  obtain⟨e,es,rfl,h⟩:=h
  obtain⟨h1,h2⟩:=zW h
  cases as with
  |cons _ _=>exact fun _ _ _ _ _ _ _ z=>(zh z).elim
  |nil=>
   cases AY.mp h2
   simp only[xL]
   exact fun pos pins s0 σ H Q I z=>L2.xV (jxE o a e h1 env s) L2.yr (L2.zd (zV (by rw[zg,Aa]at hp;exact hp.1))) pos pins s0 σ H Q I z
end
theorem jxT(o:OkX T n sc N X E):∀(c:Cn) (e:Expr),ckC sc N c e=true->∀env s,L2.PT X e (fun σ H _=>tXe X.K X.mg E env s (xT (zE T n) (zm T n) T.gl env c s) σ H fun _ _=>False)
 |.val a,e,h=>fun env s=>by
  obtain⟨h1,h2⟩:=zW h
  cases a with
  |call f v es=>
   simp only[xT]
   rcases (AL _ _).mp h2 with h2|h2
   . exact tU (L2.mh (jxE o (.call f v es) e h1 env s) (pO h2)) fun σ H Q z=>z
   . exfalso
     obtain⟨l,os,rs,p,rfl⟩:=fu (of_decide_eq_true h2)
     cases fo h1
  |_=>exact j7 fun _ _ _=>zh
 |.not c,e,h=>fun env s=>by
  replace h:=sY h
  obtain⟨x,p,rfl,h⟩:=h
  simp only[xT]
  exact tU (L2.kJ (jxT o c _ h env s)) fun σ H Q z=>z
 |.and _ _,_,_=>fun _ _=>j7 fun _ _ _=>zh
 |.or _ _,_,_=>fun _ _=>j7 fun _ _ _=>zh
theorem jr{vs:List Val}(h:mK vs=true):(∃x,vs=[.str x])\/∃i j:Int,vs=[.int i,.int j]/\i.natAbs<2 ^ 64/\j.natAbs<2 ^ 64:=by
 unfold mK at h
 split at h
 . exact .inl ⟨_,rfl⟩
 . rw[Aa,decide_eq_true_eq,decide_eq_true_eq]at h
   exact .inr ⟨_,_,rfl,h⟩
 . cases h
theorem dm(o:OkX T n sc N X E){e:Ex}{st:Stmt}(h:ckS sc N (.raise e) st=true)(env:Env)(s:Sto):L2.PS X st (tX X.K X.mg E env s (xS (wx T) (zE T n) (zm T n) T.gl env (.raise e) s)):=by
 cases e with
 |call c v es=>
  replace h:=YN h
  obtain⟨q,b,pos,rfl,h⟩:=h
  obtain⟨h0,hh⟩:=zW h
  cases Cc.mp h0
  replace h:=oi hh
  obtain⟨q,rfl,h⟩:=h
  replace h:=yn h
  obtain⟨x,np,xs,cpos,rfl,h⟩:=h
  replace h:=yf h
  obtain⟨a,rfl,h⟩:=h
  simp only[Aa,decide_eq_true_eq,xj,AX,AL]at h
  obtain⟨⟨⟨rfl,h2⟩,h3⟩,h4⟩:=h
  simp only[xS]
  cases hv:zo (zE T n) T.gl env es s with
  |exc _ _ _=>exact xY fun _ _ _=>y9
  |stuck=>exact xY fun _ _ _=>y9
  |ok vs s1=>
   simp only[]
   by_cases hm:(mK vs&&(T.xc.lookup x).isSome)=true
   case neg=>rw[if_neg hm];exact xY fun _ _ _=>y9
   rw[if_pos hm]
   rw[Aa]at hm
   obtain⟨C,D,m1,m2,m3⟩:=o.cls x hm.2
   rcases h4 with⟨h4,h5⟩|h4
   . have hp:=(jL T n es _ _ _ _ o.okf.ok h4).1 (by rw[zg,zg,Bool.and_true];exact h5) env s
     rw[hv]at hp
     refine yh (L2.mf o.okf.ok.room.hd (o.okf.ok.scp.gl x h2) m1 m2 m3 (kD hp) h3 (L2.zd (zV h5)) rfl) fun D' σ H ⟨ρ,hr,er,w⟩=>⟨ρ,hr,er,fun ρ1 xs H1 x1 hr1 r1=>⟨?_,o.xr C H1 (w ρ1 H1 x1 hr1 C m1)⟩⟩
     rw[<-r1.length,A3]
     rcases jr hm.1 with⟨x,rfl⟩|⟨i,j,rfl,_⟩
     . simp
     . simp
   . replace h4:=a9 h4
     obtain⟨u,v',c1,c2,c3,k1,k2,k3,p1,p2,p3,p4,p5,pos',rfl,z1,z2,z3,h4⟩:=h4
     obtain⟨e1,e2,rfl,h41,h42⟩:∃e1 e2,es=.cons e1 (.cons e2 .nil)/\ck sc N e1 u=true/\ck sc N e2 v'=true:=by
      cases es with
      |nil=>cases h4
      |cons e1 es=>
       obtain⟨q1,q2⟩:=zW h4
       cases es with
       |nil=>cases q2
       |cons e2 es=>
        obtain⟨q3,q4⟩:=zW q2
        cases es with
        |nil=>exact⟨e1,e2,rfl,q1,q3⟩
        |cons _ _=>cases q4
     obtain⟨v1,s2,q1,hv⟩:=yL hv
     obtain⟨vs',s3,q2,hv⟩:=yL hv
     obtain⟨v2,s4,q3,q2⟩:=yL q2
     cases q2
     cases hv
     have pe:=L2.Tt (c1:=c1) (c2:=c2) (c3:=c3) (k1:=k1) (k2:=k2) (k3:=k3) (p1:=p1) (p2:=p2) (p3:=p3) (p4:=p4) (p5:=p5) (pos:=pos') (L2.PE.nox (jE T n e1 _ _ _ _ o.okf.ok h41 env s)) (L2.PE.nox (jE T n e2 _ _ _ _ o.okf.ok h42 env s2)) z1 z2 z3
     rcases jr hm.1 with⟨x,z⟩|⟨i,j,z,hi,hj⟩
     . cases z
     . cases z
       rw[q1,q3]at pe
       refine yh (L2.mf o.okf.ok.room.hd (o.okf.ok.scp.gl x h2) m1 m2 m3 (L2.xV pe L2.yr) h3 rfl rfl) fun D' σ H ⟨ρ,hr,er,w⟩=>⟨ρ,hr,er,fun ρ1 y1 H1 x1 hr1 r1=>?_⟩
       cases r1
       refine⟨i,rfl,hi,ρ1,hr1,er.mono x1,fun ρ2 y2 H2 x2 hr2 r2=>?_⟩
       cases r2
       exact⟨j,rfl,hj,fun z=>⟨by rw[A3];simp,o.xr C H2 (w ρ2 H2 (x1.trans hr1 x2) hr2 C m1)⟩⟩
 |_=>exact xY fun _ _ _=>y9
theorem Wq(o:OkX T n sc N X E){i:Nat}{e:Ex}{st:Stmt}(h:ckS sc N (.asg i e) st=true)(env:Env)(s:Sto):L2.PS X st (tX X.K X.mg E env s (xE (zE T n) (zm T n) T.gl env e s)):=by
 replace h:=uy h
 obtain⟨ts1,v,pos,rfl,h⟩:=h
 replace h:=yf h
 obtain⟨t1,rfl,h⟩:=h
 replace h:=y0 h
 obtain⟨x,px,rfl,h⟩:=h
 simp only[Aa,decide_eq_true_eq,AL]at h
 obtain⟨⟨h1,h2⟩,h3⟩:=h
 obtain⟨l1,l2⟩:=o.okf.ok.scp.loc x h2
 have hN:X.N.Nodup:=by have:=o.okf.ok.scp.hN;rw[show X.N=N from this];exact o.okf.ok.scp.nd
 have hi:X.N[i]?=some x:=by have:=o.okf.ok.scp.hN;rw[show X.N=N from this];exact h1
 by_cases hn:vt v=true
 . exact yh (L2.uK hN hi l1 (jxE o e _ h3 env s) (uz hn) l2) fun D σ H z=>z
 . cases e with
   |call _ _ _=>exact absurd (mL h3 rfl) hn
   |cmp _ _ _=>exact absurd (mL h3 rfl) hn
   |bin _ _ _ _=>exact absurd (mL h3 rfl) hn
   |blt _ _ _=>exact absurd (mL h3 rfl) hn
   |_=>exact xY fun _ _ _=>y9
noncomputable def uX(T:Tbl)(n:Nat)(X:L2.Cx)(E:L2.XK)(b:Sms):L2.TS:=fun D σ H=>∃env s,tX X.K X.mg E env s (xSs (wx T) (zE T n) (zm T n) T.gl env b s) D σ H
mutual
theorem jxS(o:OkX T n sc N X E):∀(a:Sm) (st:Stmt),ckS sc N a st=true->∀env s,L2.PS X st (tX X.K X.mg E env s (xS (wx T) (zE T n) (zm T n) T.gl env a s))
 |.expr e,st,h=>fun env s=>by
  replace h:=mx h
  obtain⟨x1,p1,rfl,h⟩:=h
  simp only[Aa]at h
  simp only[xS]
  exact yh (L2.oy (jxE o e _ h.1 env s) (uz h.2)) fun D σ H z=>z
 |.ret e,st,h=>fun env s=>by
  replace h:=my h
  obtain⟨q1,p1,rfl,h⟩:=h
  replace h:=oi h
  obtain⟨x1,rfl,h⟩:=h
  simp only[xS]
  exact yh (L2.vY (jxE o e _ h env s)) fun D σ H z=>z
 |.asg i e,st,h=>fun env s=>by simp only[xS];exact Wq o h env s
 |.raise e,st,h=>fun env s=>dm o h env s
 |.ifS c a b,st,h=>fun env s=>by
  replace h:=iA h
  obtain⟨t1,x1,y1,p1,rfl,h⟩:=h
  simp only[Aa]at h
  have pc:=L2.PT.nox (jC T n c _ _ _ _ o.okf.ok h.1.1 env s)
  have pn:∀{ss:List Stmt},L2.PSs X ss (fun _ _ _=>False):=fun pins s0 σ H D I q=>q.elim
  simp only[xS]
  cases hc:evT (zE T n) T.gl env c s with
  |exc _ _ _=>exact yh (L2.me (jxT o c _ h.1.1 env s) pn pn) fun D σ H z=>z
  |stuck=>exact yh (L2.me (jxT o c _ h.1.1 env s) pn pn) fun D σ H z=>z
  |ok t s1=>
   rw[hc]at pc
   have pa:L2.PSs X _ (uX T n X E a):=fun pins s0 σ H D I ⟨env',s',q⟩=>Zo o a _ h.1.2 env' s' pins s0 σ H D I q
   have pb:L2.PSs X _ (uX T n X E b):=fun pins s0 σ H D I ⟨env',s',q⟩=>Zo o b _ h.2 env' s' pins s0 σ H D I q
   refine yh (L2.me pc pa pb) fun D σ H ⟨ρ,hr,er,w⟩=>⟨ρ,hr,er,fun ρ1 t' H1 x1 hr1 ht=>?_⟩
   cases ht
   simp only[]at w
   cases t with
   |true=>exact L2.oW ⟨env,s1,ρ1,hr1,er.mono x1,qT.mono w x1 hr1⟩
   |false=>exact L2.sR ⟨env,s1,ρ1,hr1,er.mono x1,qT.mono w x1 hr1⟩
 |.retN,_,_=>fun _ _=>xY fun _ _ _=>y9
 |.asgT _ _,_,_=>fun _ _=>xY fun _ _ _=>y9
 |.par _ _,_,_=>fun _ _=>xY fun _ _ _=>y9
 |.aug _ _ _,_,_=>fun _ _=>xY fun _ _ _=>y9
 |.setIx _ _ _,_,_=>fun _ _=>xY fun _ _ _=>y9
 |.forS _ _ _,_,_=>fun _ _=>xY fun _ _ _=>y9
 |.whileS _ _,_,_=>fun _ _=>xY fun _ _ _=>y9
 |.pass,_,_=>fun _ _=>xY fun _ _ _=>y9
 |.brk,_,_=>fun _ _=>xY fun _ _ _=>y9
 |.cont,_,_=>fun _ _=>xY fun _ _ _=>y9
 |.setD _ _ _,_,_=>fun _ _=>xY fun _ _ _=>y9
theorem Zo(o:OkX T n sc N X E):∀(b:Sms) (st:List Stmt),ni sc N b st=true->∀env s,L2.PSs X st (tX X.K X.mg E env s (xSs (wx T) (zE T n) (zm T n) T.gl env b s))
 |.nil,_,_=>fun _ _=>fun pins s0 σ H D I q=>(y9 q).elim
 |.cons c cs,st,h=>fun env s=>by
  replace h:=yV h
  obtain⟨t0,ts,rfl,h⟩:=h
  rw[Aa]at h
  simp only[xSs]
  have no:L2.PSs X ts (fun _ _ _=>False):=fun pins s0 σ H D I q=>q.elim
  cases hc:exS (zE T n) T.gl env c s with
  |exc _ _ _=>exact uq (L2.yi (jxS o c _ h.1 env s) no) fun D σ H z=>z
  |stuck=>exact uq (L2.yi (jxS o c _ h.1 env s) no) fun D σ H z=>z
  |ok fl s1=>
   simp only[]
   cases fl with
   |nx e=>
    have p1:=jS T n c _ _ _ _ o.okf h.1 env s
    rw[hc]at p1
    have p1':L2.PS X t0 (tSt X.K X.mg env s (.ok (.nx e) s1)):=fun pins s0 σ H D I q=>Ba (p1 pins s0 σ H D (I.wK _) q) (fun _ _ z=>z.yx) fun _ _ z=>AF z
    have p2:L2.PSs X ts (uX T n X E cs):=fun pins s0 σ H D I ⟨env',s',q⟩=>Zo o cs _ h.2 env' s' pins s0 σ H D I q
    refine uq (L2.yi p1' p2) fun D σ H ⟨ρ,hr,er,w⟩=>⟨ρ,hr,er,fun ρ1 H1 σ1 x1 hr1 er1=>?_⟩
    exact⟨e,s1,ρ1,hr1,er1,qT.mono w x1 hr1⟩
   |rt _=>exact fun pins s0 σ H D I q=>(y9 q).elim
   |bk _=>exact fun pins s0 σ H D I q=>(y9 q).elim
   |ct _=>exact fun pins s0 σ H D I q=>(y9 q).elim
end
end
end M
end
section
namespace M
open PySem
mutual
noncomputable def pP(n:Nat):Val->Bool
 |.ref i|.dref i=>decide (i<n)
 |.tup vs=>wX n vs
 |.lst vs=>wX n vs
 |.none|.bool _|.int _|.str _|.dct0|.ctup _|.scr _|.fn _|.ty _=>true
noncomputable def wX(n:Nat):List Val->Bool
 |[]=>true
 |v::vs=>pP n v&&wX n vs
end
mutual
theorem uv{n:Nat}{v:Val}(h:v.noRef=true):pP n v=true:=by
 cases v with
 |ref _=>cases h
 |dref _=>cases h
 |tup vs=>exact wk (vs:=vs) h
 |lst vs=>exact wk (vs:=vs) h
 |_=>rfl
theorem wk{n:Nat}{vs:List Val}(h:zl vs=true):wX n vs=true:=by
 cases vs with
 |nil=>rfl
 |cons v vs=>
  rw[zl,Aa]at h
  rw[wX,uv h.1,wk h.2];rfl
end
section
variable {K:KF}{mg:Str->Option Value}
mutual
theorem RD.refs{ρ:Own}{H:L2.Hp}{v:Val}{x:L2.V}(q:RD K mg ρ H v x):pP ρ.o.length v=true:=by
 cases q with
 |tup _ _ r=>exact RDs.refs r
 |lst _ _ r=>exact RDs.refs r
 |ref e _=>exact decide_eq_true (As.mp e).1
 |dref e _=>exact decide_eq_true (As.mp e).1
 |_=>rfl
theorem RDs.refs{ρ:Own}{H:L2.Hp}{v:List Val}{x:List L2.V}(q:RDs K mg ρ H v x):wX ρ.o.length v=true:=by
 cases q with
 |nil=>rfl
 |cons r rs=>rw[wX,RD.refs r,RDs.refs rs];rfl
end
structure Cut(ρ ρ':Own):Prop where
 pre:∃new,ρ'.o=ρ.o++new
 hid:ρ'.h=ρ.h
theorem Cut.no{ρ ρ':Own}(c:Cut ρ ρ'){a:Addr}(n:ρ'.no a):ρ.no a:=by
 obtain⟨new,e⟩:=c.pre
 exact⟨fun h=>n.1 (by rw[e];exact Bc _ h),by rw[<-c.hid];exact n.2⟩
mutual
theorem RD.vz{ρ ρ':Own}{H:L2.Hp}(c:Cut ρ ρ'){v:Val}{x:L2.V}(q:RD K mg ρ' H v x)(h:pP ρ.o.length v=true):RD K mg ρ H v x:=by
 have at':∀{i:Nat} {a:Addr},ρ'.o[i]?=some a->decide (i<ρ.o.length)=true->ρ.o[i]?=some a:=fun{i a} e h=>by
  obtain⟨new,e'⟩:=c.pre
  rw[e',Bb (of_decide_eq_true h)]at e
  exact e
 cases q with
 |none=>exact .none
 |bool b=>exact .bool b
 |int i=>exact .int i
 |str t=>exact .str t
 |tup n e r=>exact .tup (c.no n) e (RDs.vz c r h)
 |lst n e r=>exact .lst (c.no n) e (RDs.vz c r h)
 |dct0 n e=>exact .dct0 (c.no n) e
 |ctup g=>exact .ctup g
 |scr g=>
  refine .scr ?_
  rcases g with⟨n,g⟩|g
  . exact .inl ⟨c.no n,g⟩
  . exact .inr g
 |ref e k=>exact .ref (at' e h) k
 |dref e k=>exact .dref (at' e h) k
 |fn e=>exact .fn e
 |ty n=>exact .ty n
theorem RDs.vz{ρ ρ':Own}{H:L2.Hp}(c:Cut ρ ρ'){v:List Val}{x:List L2.V}(q:RDs K mg ρ' H v x)(h:wX ρ.o.length v=true):RDs K mg ρ H v x:=by
 cases q with
 |nil=>exact .nil
 |cons r rs=>
  rw[wX,Aa]at h
  exact .cons (RD.vz c r h.1) (RDs.vz c rs h.2)
end
noncomputable def oG:Cel->List Val
 |.lst vs=>vs
 |.dS kvs=>kvs.map (·.2)
 |.dT kvs=>kvs.map (·.2)
 |.tb _=>[]
theorem CR.vals{ρ:Own}{H:L2.Hp}{a:Addr}{c:Cel}(h:CR K mg ρ H a c):∃xs,RDs K mg ρ H (oG c) xs:=by
 cases c with
 |lst vs=>obtain⟨xs,_,r⟩:=h;exact⟨_,r⟩
 |dS kvs=>obtain⟨xs,_,_,r⟩:=h;exact⟨_,r⟩
 |dT kvs=>obtain⟨xs,_,_,r⟩:=h;exact⟨_,r⟩
 |tb x=>exact⟨[],.nil⟩
theorem iV{c:Cel}(h:c.noRef=true):zl (oG c)=true:=by cases c<;>first|exact h|rfl
theorem CR.vz{ρ ρ':Own}{H:L2.Hp}{a:Addr}(c:Cut ρ ρ'){o:Cel}(h:CR K mg ρ' H a o)(hb:wX ρ.o.length (oG o)=true):CR K mg ρ H a o:=by
 cases o with
 |lst vs=>obtain⟨xs,e,r⟩:=h;exact⟨xs,e,RDs.vz c r hb⟩
 |dS kvs=>obtain⟨xs,e,k,r⟩:=h;exact⟨xs,e,k,RDs.vz c r hb⟩
 |dT kvs=>obtain⟨xs,e,k,r⟩:=h;exact⟨xs,e,k,RDs.vz c r hb⟩
 |tb y=>
  obtain⟨ps,e1,k,r,g⟩:=h
  refine⟨ps,e1,k,fun pos cv hc=>?_,g⟩
  obtain⟨a,o,vs,t,q1,q2,q3,q4⟩:=r pos cv hc
  exact⟨a,o,vs,t,q1,c.no q2,q3,q4⟩
theorem ot{α β:Type}:∀{a b:List (α × β)},a.map (·.1)=b.map (·.1)->a.map (·.2)=b.map (·.2)->a=b
 |[],[],_,_=>rfl
 |[],_::_,h,_=>by cases h
 |_::_,[],h,_=>by cases h
 |x::xs,y::ys,h1,h2=>by
  rw[AJ,AJ]at h1 h2
  injection h1 with a1 a2
  injection h2 with b1 b2
  rw[ot a2 b2,Et a1 b1]
theorem mQ:∀{s s':Sto} {i:Nat} {o':Cel},wD s s'=true->i<s.length->s'[i]?=some o'->o'.noRef=true\/s[i]?=some o'
 |[],_,_,_,_,h,_=>by cases h
 |o::r,[],_,_,h,_,_=>by cases h
 |o::r,o'::r',0,q,h,_,e=>by
  rw[wD,Aa,AL]at h
  simp only[List.getElem?_cons_zero,Ef]at e
  subst e
  rcases h.1 with z|z
  . exact .inl z
  . right
    cases o' with
    |lst a=>cases o with
     |lst b=>simp only[Cel.beq]at z;rw[uS z];rfl
     |_=>cases z
    |dS a=>cases o with
     |dS b=>simp only[Cel.beq,Aa,decide_eq_true_eq]at z;rw[ot z.1 (uS z.2)];rfl
     |_=>cases z
    |dT a=>cases o with
     |dT b=>simp only[Cel.beq,Aa,decide_eq_true_eq]at z;rw[ot z.1 (uS z.2)];rfl
     |_=>cases z
    |tb a=>cases o with
     |tb b=>simp only[Cel.beq,decide_eq_true_eq]at z;rw[z];rfl
     |_=>cases z
 |o::r,o'::r',i+1,q,h,hi,e=>by
  rw[wD,Aa]at h
  have:=mQ (i:=i) h.2 (by simpa using hi) (by simpa using e)
  simpa using this
noncomputable def Vi:Val->Bool
 |.ref _|.dref _|.tup _=>false
 |.none|.bool _|.int _|.str _|.dct0|.ctup _|.scr _|.fn _|.ty _|.lst _=>true
theorem ZN{n:Nat}{s:Sto}{k i:Nat}:wN n s k (.ref i)=if i<n then some (Val.ref i) else match s[i]? with
 |some (.lst vs)=>if zl vs then some (.lst vs) else Ab
 |_=>Ab:=by cases k<;>rfl
theorem ef{n:Nat}{s:Sto}{k i:Nat}:wN n s k (.dref i)=if i<n then some (Val.dref i) else Ab:=by cases k<;>rfl
theorem eh{n:Nat}{s:Sto}{k:Nat}{v:Val}(h:Vi v=true):wN n s k v=if v.noRef then some v else Ab:=by
 cases v with
 |ref _=>cases h
 |dref _=>cases h
 |tup _=>cases h
 |_=>cases k<;>rfl
theorem ZM{n:Nat}{s:Sto}{k:Nat}:uc n s k []=some []:=by cases k<;>rfl
mutual
theorem rh{ρ ρ':Own}{H:L2.Hp}{s:Sto}(c:Cut ρ ρ')(hr:HR K mg ρ' s H){k:Nat}{v v':Val}{x:L2.V}(r:RD K mg ρ' H v x)(h:wN ρ.o.length s k v=some v'):RD K mg ρ H v' x:=by
 have sv:∀{w:Val},RD K mg ρ' H w x->(if w.noRef then some w else Ab)=some v'->RD K mg ρ H v' x:=fun{w} r h=>by
  split at h
  . rename_i hn;cases h;exact RD.vz c r (uv hn)
  . cases h
 cases v with
 |ref i=>
  rw[ZN]at h
  cases r with
  |ref e hkd=>
   by_cases hi:i<ρ.o.length
   . rw[if_pos hi]at h
     cases h
     exact RD.vz c (.ref e hkd) (by rw[pP];exact decide_eq_true hi)
   . rw[if_neg hi]at h
     split at h
     . rename_i vs hs
       split at h
       . rename_i hn
         cases h
         obtain⟨a,xs,e1,e2,q⟩:=hr.obj i vs hs
         rw[e]at e1;cases e1
         obtain⟨new,e'⟩:=c.pre
         have hm:=AS e
         refine .lst ⟨fun hm'=>?_,fun hh=>?_⟩ e2 (RDs.vz c q (wk hn))
         . obtain⟨j,hj,ej⟩:=Bw hm'
           have ej':ρ'.o[j]?=ρ'.o[i]?:=by rw[e,e',Bb hj,Ae hj,ej]
           have:=cN hr.nd e (ej'.trans e)
           exact hi (this▸hj)
         . exact(hr.hid _ (by rw[c.hid];exact hh)).2 hm
       . cases h
     . cases h
 |dref i=>
  rw[ef]at h
  split at h
  . rename_i hi
    cases h
    exact RD.vz c r (by rw[pP];exact decide_eq_true hi)
  . cases h
 |tup vs=>
  cases k with
  |zero=>exact sv r h
  |succ k=>
   rw[wN,A6]at h
   obtain⟨ws,h1,rfl⟩:=h
   cases r with
   |tup n e q=>exact .tup (c.no n) e (rd c hr q h1)
 |_=>exact sv r ((eh rfl).symm.trans h)
theorem rd{ρ ρ':Own}{H:L2.Hp}{s:Sto}(c:Cut ρ ρ')(hr:HR K mg ρ' s H){k:Nat}{v v':List Val}{x:List L2.V}(r:RDs K mg ρ' H v x)(h:uc ρ.o.length s k v=some v'):RDs K mg ρ H v' x:=by
 cases r with
 |nil=>rw[ZM]at h;cases h;exact .nil
 |@cons v _ vs _ r1 r2=>
  cases k with
  |zero=>cases h
  |succ k=>
   rw[uc]at h
   split at h
   . rename_i a b ha hb
     cases h
     refine .cons ?_ (rd c hr r2 hb)
     by_cases hn:v.noRef=true
     . rw[if_pos hn]at ha;cases ha;exact RD.vz c r1 (uv hn)
     . rw[if_neg hn]at ha;exact rh c hr r1 ha
   . cases h
end
theorem mE{F:Fn}{ρ ρ':Own}{H H':L2.Hp}{s s1:Sto}{v:Val}{x:L2.V}{Q:L2.VK}(h0:HR K mg ρ s H)(w:ym K mg (RD K mg) ρ H (leave F s v s1) Q)(X:Ext ρ H ρ' H')(hr:HR K mg ρ' s1 H')(r:RD K mg ρ' H' v x):Q x H':=by
 unfold leave at w
 by_cases hk:F.keep=true
 . rw[if_pos hk]at w;exact w ρ' x H' X hr r
 . rw[if_neg hk]at w
   by_cases ho:wD s s1=true
   . rw[if_pos ho]at w
     have c:Cut ρ ρ':=⟨by obtain⟨new,e,_⟩:=X.pre;exact⟨new,e⟩,X.hid⟩
     cases hf:freeze s.length s1 v with
     |none=>rw[hf]at w;exact w.elim
     |some v'=>
      rw[hf]at w
      have hlen:s.length<=s1.length:=by
       obtain⟨new,e,_⟩:=X.pre
       rw[<-h0.len,<-hr.len,e,Ap];omega
      refine w ρ x H' ⟨⟨[],by simp,fun a ha=>by cases ha⟩,rfl,X.keep,X.kd⟩ ⟨?_,h0.nd,fun i vs e=>?_,fun a ha=>?_⟩ ?_
      . rw[Cy,h0.len];omega
      . have hi:i<s.length:=by
         have:=(As.mp e).1
         rw[Cy]at this;omega
        rw[F3 hi]at e
        obtain⟨a,e1,q⟩:=hr.cel i vs e
        have e3:ρ.o[i]?=some a:=by
         obtain⟨new,e',_⟩:=X.pre
         rw[e',Bb (by rw[h0.len];exact hi)]at e1
         exact e1
        refine⟨a,e3,q.vz c ?_⟩
        rcases mQ ho hi e with z|z
        . exact wk (iV z)
        . obtain⟨b,_,q'⟩:=h0.cel i vs z
          obtain⟨xs,q2⟩:=q'.vals
          exact RDs.refs q2
      . obtain⟨z,n⟩:=hr.hid a (by rw[X.hid];exact ha)
        exact⟨z,(h0.hid a ha).2⟩
      . unfold freeze at hf
        by_cases hn:v.noRef=true
        . rw[if_pos hn]at hf;cases hf;exact RD.vz c r (uv hn)
        . rw[if_neg hn,<-h0.len]at hf
          exact rh c hr r hf
   . rw[if_neg ho]at w;exact w.elim
theorem m6{ρ:Own}{H:L2.Hp}{args:List Val}{vs:List L2.V}{N:List Str}(r:RDs K mg ρ H args vs):ER K mg ρ H (zZ N args) (L2.start N vs):=by
 refine⟨by unfold zZ L2.start;rw[Ap,Ap,Ai,Ai,CK,CK,r.length],fun i v e=>?_⟩
 unfold zZ at e
 unfold L2.start
 by_cases hi:i<args.length
 . rw[Bb (by simpa using hi),AQ]at e
   rw[Bb (by rw[Ai,<-r.length];exact hi),AQ]
   cases ha:args[i]? with
   |none=>rw[ha]at e;cases e
   |some a=>
    rw[ha]at e
    have:a=v:=AG (AG e)
    subst this
    obtain⟨x,h1,h2⟩:=r.get ha
    exact⟨x,by rw[h1];rfl,h2⟩
 . rw[BO (by simpa using hi),Eb]at e
   split at e<;>cases e
end
noncomputable def argNames(a:BV):Option (List Str):=
 if a.posonlyargs.isEmpty&&a.vararg.isNone&&a.kwonlyargs.isEmpty&&a.kw_defaults.isEmpty&&a.kwarg.isNone&&a.defaults.isEmpty then some (a.args.map (·.arg)) else none
noncomputable def iW(st:Stmt)(F:Fn):Bool:=
 match st with
 |.FunctionDef _ args body _ _ _ sc _ _ _=>decide (argNames args=some F.ps)&&decide (sc.kind=.function)&&!sc.isCoroutine&&!sc.isGenerator&&decide F.N.Nodup&&decide (F.N.take F.ps.length=F.ps) &&
  F.ps.all (fun x=>decide (sc.names.lookup x=some .local)||decide (sc.names.lookup x=some .cell))&&sc.names.all (fun y=>decide (y.2≠.free))&&ni sc F.N F.body body
 |_=>false
theorem lq:∀{ps:List Str} {us:List Value},ps.Nodup->us.length=ps.length->ps.filterMap (fun n=>((ps.zip us).lookup n).map (n,·))=ps.zip us:=by
 have key:∀(ps qs:List Str) (us ws:List Value),(qs++ps).Nodup->us.length=ps.length->ws.length=qs.length->ps.filterMap (fun n=>(((qs++ps).zip (ws++us)).lookup n).map (n,·))=ps.zip us:=by
  intro ps
  induction ps with
  |nil=>intro qs us ws _ _ _;rfl
  |cons p ps ih=>
   intro qs us ws nd h1 h2
   cases us with
   |nil=>cases h1
   |cons u us=>
    have hl:((qs++p::ps).zip (ws++u::us)).lookup p=some u:=by
     rw[List.zip_append h2.symm]
     have:∀(qs:List Str) (ws:List Value),p ∉ qs->((qs.zip ws)++(p::ps).zip (u::us)).lookup p=some u:=by
      intro qs
      induction qs with
      |nil=>intro ws _;simp
      |cons q qs ih2=>
       intro ws hn
       cases ws with
       |nil=>simp
       |cons w ws=>
        have hpq:(p == q)=false:=by
         have:p≠q:=fun z=>hn (by rw[z];exact Av)
         simpa using this
        rw[DW,F9,Au,hpq]
        exact ih2 ws fun z=>hn (Ao _ z)
     refine this qs ws fun z=>?_
     rw[FW]at nd
     exact nd.2.2 p z p Av rfl
    rw[A4,hl]
    have:=ih (qs++[p]) us (ws++[u]) (by simpa using nd) (by simpa using h1) (by simp[h2])
    rw[Bj,Bj]at this
    exact congrArg ((p,u)::·) this
 intro ps us nd h
 simpa using key ps [] us [] (by simpa using nd) h rfl
theorem lookup_some:∀{ps:List Str} {us:List Value},us.length=ps.length->∀n∈ps,((ps.zip us).lookup n).isNone=false
 |[],_,_,n,h=>by cases h
 |p::ps,[],h,_,_=>by cases h
 |p::ps,u::us,h,n,hn=>by
  rw[DW,Au]
  cases hb:(n == p) with
  |true=>rfl
  |false=>
   have:n≠p:=by simpa using hb
   rcases Al.mp hn with z|z
   . exact absurd z this
   . exact lookup_some (by simpa using h) n z
theorem uU{x qual:Str}{a:BV}{body:List Stmt}{sc:Scope}{kV doc pm cdv ct:Value}{an:Option Addr}{ps:List Str}(h:argNames a=some ps)(nd:ps.Nodup)(us:List Value)(hl:us.length=ps.length) :
 GU (BM x qual a body sc .none kV doc pm an cdv ct) ⟨us,[]⟩=pure (ps.zip us):=by
 unfold argNames at h
 split at h
 . rename_i hc
   simp only[Aa,AY,Cc]at hc
   obtain⟨⟨⟨⟨⟨h1,h2⟩,h3⟩,h4⟩,h5⟩,h6⟩:=hc
   cases h
   obtain⟨po,ar,va,ko,kd,kw,df⟩:=a
   simp only at h1 h2 h3 h4 h5 h6 hl nd ⊢
   subst h1 h2 h3 h4 h5 h6
   have hm:((ar.map (·.arg)).take ((ar.map (·.arg)).length-0)).filter (fun n=>(((ar.map (·.arg)).zip us).lookup n).isNone)=[]:=by
    rw[List.filter_eq_nil_iff]
    intro n hn
    rw[lookup_some hl n (E1 hn)]
    decide
   unfold GU
   have hd:Ft Ce=pure none:=rfl
   have hg:¬(us.length > (ar.map (·.arg)).length/\True):=by rintro ⟨z,_⟩;omega
   simp only[BM,DT,DJ,AZ,GP,EH,hd,F5,List.toList_toArray,A8,List.drop_nil,Nat.sub_zero,Option.isNone_none,Bool.and_true]
   rw[if_neg (by rw[Ai]at hl;simp;omega)]
   have hm':(List.filter (fun n=>(List.lookup n ((Fe (fun x=>x.arg) ar).zip us)).isNone) (List.take (Fe (fun x=>x.arg) ar).length (Fe (fun x=>x.arg) ar)))=[]:=hm
   rw[hm',if_neg (by decide),List.zip_nil_right,GP,EH,if_neg (by decide),lq nd hl]
 . cases h
def sE(K:KF)(x:Str)(st:Stmt):Prop:=∃f fd,BF K AN x=some (some (.ref f))/\L2.Fun K x x st f fd
theorem X5{K:KF}{x:Str}{st:Stmt}{f:Addr}{oc:Value}{od an:Option Addr}{osl:Array (Option Value)}{kV doc pm cdv ct:Value}(a:BF K AN x=some (some (.ref f)))
 (l:K.lookup f=some ⟨oc,od,.func (BM x x (L2.xR st) (L2.yU st) (L2.zG st) .none kV doc pm an cdv ct),osl⟩) (c:BZ K cdv x=true) (k:B7 K (.ref f)=true):sE K x st:=
 ⟨f,_,a,L2.WC l c k⟩
section
variable {P:Program}{w:World}{K:KF}{mg:Str->Option Value}{base:Heap}{T:Tbl}
structure Top(T:Tbl)(K:KF)(mg:Str->Option Value):Prop where
 defs:∀f v F,T.fn f v=some F->∃st fa fd,mg f=some (.ref fa)/\L2.Fun K f f st fa fd/\iW st F=true/\((∃b,T.md b=true)->("!":Str)∈F.N->f∈T.tb)
 gls:∀x v,T.gl x=some v->∃u xv,mg x=some u/\L2.RelV xv u/\∀ρ H,RD K mg ρ H v xv
 blt:∀x∈xw,mg x=none
 no:∀f v,100<=v->T.fn f v=none
 sc:(T.xc≠[]\/∃b,T.md b=true)->Sc T K mg
theorem wu{st:Stmt}{F:Fn}(h:iW st F=true):argNames (L2.xR st)=some F.ps/\L2.wM F.N F.ps (L2.zG st)/\ni (L2.zG st) F.N F.body (L2.yU st)=true:=by
 unfold iW at h
 split at h
 . simp only[Aa,decide_eq_true_eq,AX,AI,AL]at h
   obtain⟨⟨⟨⟨⟨⟨⟨⟨h1,h2⟩,h3⟩,h4⟩,h5⟩,h6⟩,h7⟩,h8⟩,h9⟩:=h
   exact⟨h1,⟨h2,h3,h4,h5,h6,h7,h8⟩,h9⟩
 . cases h
theorem cV(top:Top T K mg){n:Nat}(IH:∀j,j<=n->Lv T P w K mg base j){f:Str}{F:Fn}{st:Stmt}{fa:Addr}{cdv kV doc pm ct oc:Value}{an od:Option Addr}{osl:Array (Option Value)}(p2:L2.wM F.N F.ps (L2.zG st))
 (hm:mg f=some (.ref fa)) (hk:K.lookup fa=some ⟨oc,od,.func (BM f f (L2.xR st) (L2.yU st) (L2.zG st) .none kV doc pm an cdv ct),osl⟩) (hcd:BZ K cdv f=true) (htb:(∃b,T.md b=true)->("!":Str)∈F.N->f∈T.tb)
 {CX:L2.CXT} {A:Around} {outer:List BJ} {s:Shared} {H:L2.Hp} {E:L2.XK} (hr:L2.yu n (A.deeper (PyProof.Rows.envOfC f (L2.zG st) s.heap.objs.size fa cdv))):OkF T n (L2.zG st) F.N (L2.xW CX P w K mg base F.N f (L2.zG st) fa cdv A outer s H E).nox:=by
 refine⟨⟨rfl,hr,⟨rfl,p2.nd,fun x hx=>hx,fun x hx=>⟨hx,.inl rfl⟩,fun x hx=>hx,fun x hx=>hx⟩,fun g v' G hg=>?_,top.gls,top.blt,rfl,top.no,fun m hm hmd=>⟨top.sc (.inr hmd),fun j hj=>IH j (by omega)⟩,fun hmd _ hx=>?_⟩,rfl,?_⟩
 . obtain⟨ga,gd,q1,q2,q3,q4,q5⟩:=(IH n (Ag _)).ex g v' G hg
   exact⟨ga,gd,q1,q2,q3,q4⟩
 . have:∃c,cdv=.ref c:=by
    unfold BZ at hcd
    split at hcd
    . exact⟨_,rfl⟩
    . cases hcd
   obtain⟨c,rfl⟩:=this
   exact⟨f,htb hmd hx,fa,c,_,_,hm,hk,rfl,rfl,rfl,rfl⟩
 . show (if (L2.zG st).kind.isAnnotationScope then ScopeKind.function else (L2.zG st).kind)=.function
   rw[p2.kind];rfl
theorem Y6(top:Top T K mg){n:Nat}(IH:∀j,j<=n->Lv T P w K mg base j){f:Str}{v:Nat}{F:Fn}{st:Stmt}{fa:Addr}{fd:Bu}(h:T.fn f v=some F)(hm:mg f=some (.ref fa))(e2:L2.Fun K f f st fa fd)(e3:iW st F=true)
 (htb:(∃b,T.md b=true)->("!":Str)∈F.N->f∈T.tb):L2.uP P w K mg base L2.CX0 (n+1) fa fd F.ps (spN T K mg (n+1) f v):=by
 obtain⟨p1,p2,p3⟩:=wu e3
 have hcall:∀(vs:List Val) (s:Sto),zE T (n+1) f v vs s=run T (zE T n) F vs s:=fun vs s=>by simp only[zE,h]
 obtain⟨oc,od,kV,doc,pm,an,cdv,ct,osl,rfl,lk,hcd⟩:=e2.ex
 refine L2.Y5 lk hcd p2 (fun vs H Q E q=>?_) fun A outer s H vs Q E hr q=>?_
 . obtain⟨ρ,t,as,_,r,z⟩:=q
   rw[hcall]at z
   unfold run at z
   split at z
   . rename_i hl;rw[<-r.length];exact hl
   . exact z.elim
 . obtain⟨ρ,t,as,h0,r,z⟩:=q
   rw[hcall]at z
   unfold run at z
   have hl:as.length=F.ps.length:=by
    by_cases hl:as.length=F.ps.length
    . exact hl
    . rw[if_neg hl]at z;exact z.elim
   rw[if_pos hl]at z
   have okf:=cV (CX:=L2.CX0) (P:=P) (w:=w) (base:=base) (outer:=outer) (s:=s) (H:=H) (E:=E) top IH p2 hm lk hcd htb hr
   refine⟨_,(jSs T n F.body (L2.zG st) F.N _ (L2.yU st) okf p3 (zZ F.N as) t).nox,ρ,h0,m6 r,?_⟩
   show ql K mg ρ H (zY (zE T n) T.gl (zZ F.N as) F.body t) _
   cases hx:zY (zE T n) T.gl (zZ F.N as) F.body t with
   |ok fl s1=>
    rw[hx]at z
    cases fl with
    |nx e=>exact fun ρ1 H1 σ1 x1 hr1 er1=>mE h0 z x1 hr1 .none
    |rt v'=>exact fun ρ1 H1 x x1 hr1 r1=>mE h0 z x1 hr1 r1
    |bk e=>exact z.elim
    |ct e=>exact z.elim
   |exc _ _ _=>rw[hx]at z;exact z.elim
   |stuck=>rw[hx]at z;exact z.elim
theorem RH(top:Top T K mg)(hB:K.In base){n:Nat}(IH:∀j,j<=n->Lv T P w K mg base j){f:Str}{v:Nat}{F:Fn}{st:Stmt}{fa:Addr}{fd:Bu}(h:T.fn f v=some F)(hm:mg f=some (.ref fa))(e2:L2.Fun K f f st fa fd)(e3:iW st F=true)
 (htb:(∃b,T.md b=true)->("!":Str)∈F.N->f∈T.tb):L2.uP P w K mg base (L2.CXE P w) (n+1) fa fd F.ps (fun vs H Q E=>∃ρ s args,HR K mg ρ s H/\RDs K mg ρ H args vs/\qT K mg ρ H (zm T (n+1) f v args s) E):=by
 obtain⟨p1,p2,p3⟩:=wu e3
 have hcall:∀(vs:List Val) (s:Sto),zm T (n+1) f v vs s=if vs.length=F.ps.length then xSs (wx T) (zE T n) (zm T n) T.gl (zZ F.N vs) F.body s else Ab:=fun vs s=>by simp only[zm,h]
 obtain⟨oc,od,kV,doc,pm,an,cdv,ct,osl,rfl,lk,hcd⟩:=e2.ex
 refine L2.Y5 lk hcd p2 (fun vs H Q E q=>?_) fun A outer s H vs Q E hr q=>?_
 . obtain⟨ρ,t,as,_,r,z⟩:=q
   rw[hcall]at z
   split at z
   . rename_i hl;rw[<-r.length];exact hl
   . exact z.elim
 . obtain⟨ρ,t,as,h0,r,z⟩:=q
   rw[hcall]at z
   have hl:as.length=F.ps.length:=by
    by_cases hl:as.length=F.ps.length
    . exact hl
    . rw[if_neg hl]at z;exact z.elim
   rw[if_pos hl]at z
   have okf:=cV (CX:=L2.CXE P w) (P:=P) (w:=w) (base:=base) (outer:=outer) (s:=s) (H:=H) (E:=E) top IH p2 hm lk hcd htb hr
   have okx:OkX T n (L2.zG st) F.N (L2.xW (L2.CXE P w) P w K mg base F.N f (L2.zG st) fa cdv A outer s H E) E:=by
    refine⟨okf,L2.gT,fun C H hE=>L2.Yn hE,IH n (Ag _),fun c hc=>?_⟩
    have hne:T.xc≠[]:=fun z=>by rw[z]at hc;cases hc
    obtain⟨_,_,_,_,hue,_,_,_,_,RF⟩:=(top.sc (.inl hne)).ex
    obtain⟨w',hw⟩:=Cj.mp hc
    obtain⟨C,q1,q2,q3⟩:=RF c w' hw base hB
    exact⟨C,hue,q1,q2,q3⟩
   exact⟨_,Zo okx F.body (L2.yU st) p3 (zZ F.N as) t,ρ,h0,m6 r,z⟩
theorem W4(top:Top T K mg)(hB:K.In base):∀n j,j<=n->Lv T P w K mg base j:=by
 have step:∀n,(∀j,j<n->Lv T P w K mg base j)->Lv T P w K mg base n:=fun n IH=>⟨fun f v F hf=>by
  obtain⟨st,fa,fd,q1,q2,q3,q4⟩:=top.defs f v F hf
  obtain⟨r1,r2,r3⟩:=wu q3
  have nd:F.ps.Nodup:=by rw[<-r2.pre];exact r2.nd.sublist (FO _ _)
  have hb:L2.Binds K fd F.ps []:=q2.binds fun kV doc pm an cdv ct us hl=>uU r1 nd us hl
  cases n with
  |zero=>
   refine⟨fa,fd,q1,q2.kp,hb,⟨fun vs H Q E q=>?_,fun A outer s H args us vs Q E _ _ _ _ q=>?_⟩,⟨fun vs H Q E q=>?_,fun A outer s H args us vs Q E _ _ _ _ q=>?_⟩⟩
   . obtain⟨ρ,t,as,_,_,z⟩:=q;exact z.elim
   . obtain⟨ρ,t,as,_,_,z⟩:=q;exact z.elim
   . obtain⟨ρ,t,as,_,_,z|z⟩:=q<;>exact z.elim
   . obtain⟨ρ,t,as,_,_,z|z⟩:=q<;>exact z.elim
  |succ n=>
   have IH':∀j,j<=n->Lv T P w K mg base j:=fun j hj=>IH j (by omega)
   have a:=Y6 (P:=P) (w:=w) (base:=base) top IH' hf q1 q2 q3 q4
   have b:=RH (P:=P) (w:=w) (base:=base) top hB IH' hf q1 q2 q3 q4
   refine⟨fa,fd,q1,q2.kp,hb,a,⟨fun vs H Q E q=>?_,fun A outer s H args us vs Q E h1 h2 h3 h4 q=>?_⟩⟩
   . obtain⟨ρ,t,as,x1,x2,z|z⟩:=q
     . exact a.len vs H Q E ⟨ρ,t,as,x1,x2,z⟩
     . exact b.len vs H Q E ⟨ρ,t,as,x1,x2,z⟩
   . obtain⟨ρ,t,as,x1,x2,z|z⟩:=q
     . refine CI (a.run A outer s H args us vs Q E h1 h2 h3 h4 ⟨ρ,t,as,x1,x2,z⟩) fun r s' hq=>?_
       cases r with
       |error e=>exact AF hq
       |ok fl=>cases fl<;>exact hq
     . exact b.run A outer s H args us vs Q E h1 h2 h3 h4 ⟨ρ,t,as,x1,x2,z⟩⟩
 intro n
 induction n with
 |zero=>intro j hj;exact step j fun i hi=>absurd hi (by omega)
 |succ n ih=>
  intro j hj
  by_cases h:j<=n
  . exact ih j h
  . have:j=n+1:=by omega
    subst this
    exact step _ fun i hi=>ih i (by omega)
end
end M
end
section
namespace M
open PySem Hd
noncomputable def iJ(K:KF)(x:Str):Val->Prop
 |.int i=>∃t,BF K AN x=some (some (.int i t))
 |.str y=>∃t,BF K AN x=some (some (.str y t))
 |.ctup ns=>∃a,BF K AN x=some (some (.ref a))/\KT K a (ns.map L2.V.int)
 |_=>False
noncomputable def glO(fnL:List ((Str × Nat) × Fn))(glL:List (Str × Val))(x:Str):Option Val:=match glL.lookup x with
 |some v=>some v
 |Ab=>match fnL.lookup (x,0) with
  |some _=>some (.fn x)
  |Ab=>Ab
noncomputable def kj(fnL:List ((Str × Nat) × Fn))(glL:List (Str × Val))(tb:List Str)(xc:List (Str × Str))(md:Bool->Bool):Tbl:=⟨fun f v=>fnL.lookup (f,v),glO fnL glL,tb,xc,md⟩
noncomputable def pU(fnL:List ((Str × Nat) × Fn))(D:List (Str × Stmt)):Bool:=fnL.all fun p=>decide (p.1.2<100)&&match D.lookup p.1.1 with|some st=>iW st p.2|none=>false
theorem xD{α β:Type} [BEq α] [LawfulBEq α]:∀{l:List (α × β)} {a:α} {b:β},l.lookup a=some b->(a,b)∈l
 |[],_,_,h=>by cases h
 |(c,d)::l,a,b,h=>by
  rw[Au]at h
  cases hb:(a == c) with
  |true=>rw[hb]at h;cases h;rw[Cr hb];exact Av
  |false=>rw[hb]at h;exact Ao _ (xD h)
theorem UA{K:KF}{mg:Str->Option Value}{h:Heap}{fnL:List ((Str × Nat) × Fn)}{glL:List (Str × Val)}{D:List (Str × Stmt)}(X:K.In h)(G:h.Ns AN mg)(hd:∀p∈D,sE K p.1 p.2)(hg:∀p∈glL,iJ K p.1 p.2)(hb:∀x∈xw,BF K AN x=some none)
 (hc:pU fnL D=true) {tb:List Str} {xc:List (Str × Str)} {md:Bool->Bool} (htb:(∃b,md b=true)->fnL.all (fun p=>!decide (("!":Str)∈p.2.N)||decide (p.1.1∈tb))=true) (sc:(xc≠[]\/∃b,md b=true)->Sc (kj fnL glL tb xc md) K mg):Top (kj fnL glL tb xc md) K mg:=by
 refine⟨fun f v F e=>?_,fun x v e=>?_,fun x hx=>PySem.W.mg_none_of X G (hb x hx),fun f v hv=>?_,sc⟩
 . have hm:((f,v),F)∈fnL:=xD e
   unfold pU at hc
   rw[AI]at hc
   have h1:=hc _ hm
   rw[Aa]at h1
   have h1:=h1.2
   split at h1
   . rename_i st hs
     obtain⟨fa,fd,a,F'⟩:=hd _ (xD hs)
     refine⟨st,fa,fd,DE X G a,F',h1,fun hmd hN=>?_⟩
     have:=AI.mp (htb hmd) _ hm
     simp only[AL,AX,decide_eq_false_iff_not,decide_eq_true_eq]at this
     exact this.resolve_left fun z=>z hN
   . cases h1
 case refine_3=>
  show fnL.lookup (f,v)=none
  cases e:fnL.lookup (f,v) with
  |none=>rfl
  |some F=>
   have hm:((f,v),F)∈fnL:=xD e
   unfold pU at hc
   rw[AI]at hc
   have h1:=hc _ hm
   rw[Aa,decide_eq_true_eq]at h1
   have h2:v<100:=h1.1
   omega
 . have e:glO fnL glL x=some v:=e
   unfold glO at e
   split at e
   case h_2=>
    split at e
    . rename_i F hF
      cases e
      unfold pU at hc
      rw[AI]at hc
      have h1:=hc _ (xD hF)
      rw[Aa]at h1
      have h1:=h1.2
      split at h1
      . rename_i st hs
        obtain⟨fa,fd,a,F'⟩:=hd _ (xD hs)
        exact⟨_,.ref fa,DE X G a,rfl,fun ρ H=>.fn (DE X G a)⟩
      . cases h1
    . cases e
   rename_i v' e'
   cases e
   have hm:(x,v)∈glL:=xD e'
   have h1:=hg _ hm
   cases v with
   |int i=>
    obtain⟨t,a⟩:=h1
    exact⟨_,.int i,DE X G a,⟨t,rfl⟩,fun ρ H=>.int i⟩
   |str y=>
    obtain⟨t,a⟩:=h1
    exact⟨_,.str y,DE X G a,⟨t,rfl⟩,fun ρ H=>.str y⟩
   |ctup ns=>
    obtain⟨a,h2,h3⟩:=h1
    exact⟨_,.ref a,DE X G h2,rfl,fun ρ H=>.ctup h3⟩
   |_=>exact h1.elim
theorem int_mk{K:KF}{x:Str}{i:Int}{t:Tok}(a:BF K AN x=some (some (.int i t))):iJ K x (.int i):=⟨t,a⟩
theorem str_mk{K:KF}{x y:Str}{t:Tok}(a:BF K AN x=some (some (.str y t))):iJ K x (.str y):=⟨t,a⟩
theorem rj:∀{us:List Value} {ns:List Int},n9 us=some ns->L2.Vals (ns.map L2.V.int) us
 |[],_,h=>by cases h;exact .nil
 |u::us,ns,h=>by
  cases u with
  |int i t=>
   simp only[n9,A6]at h
   obtain⟨ms,h1,rfl⟩:=h
   exact .cons ⟨t,rfl⟩ (rj h1)
  |_=>cases h
theorem av{K:KF}{x:Str}{a:Addr}{od:Option Addr}{us:List Value}{n:Nat}{sl:Array (Option Value)}{ns:List Int}(h:BF K AN x=some (some (.ref a)))
 (l:K.lookup a=some ⟨.type "tuple",od,.seq us.toArray n,sl⟩) (hz:us.length<=1000) (hi:n9 us=some ns):iJ K x (.ctup ns):=
 ⟨a,h,_,us.toArray,n,l,rfl,rfl,by rw[Ah,A3];omega,by simpa using rj hi⟩
structure UP(T:Tbl)(K:KF)(mg:Str->Option Value)(h:Heap)(tabs:List Addr):Prop where
 nd:tabs.Nodup
 len:tabs.length=T.tb.length
 at_:∀(i:Nat) (g:Str),T.tb[i]?=some g->∃P,tabs[i]?=some P/\h.get? P=some (Ff #[])/\K.lookup P=none/\GH h P /\
  ∃(fa c:Addr) (o:Obj) (fd:Bu),mg g=some (.ref fa)/\K.lookup fa=some o/\o.data=.func fd/\fd.code=.ref c/\∀h':Heap,K.In h'->PySem.W.CodeHd h' c P
noncomputable def Sb(K:KF)(tabs:List Addr):L2.Sp:=fun vs H Q _=>∃(a:Addr) (ns:List Int),vs=[.ref a]/\(∀b∈tabs,H b=some (.tbl #[]))/\L2.SqL K H a (ns.map L2.V.int)/\ns.length<=63/\∀H',Q (.bl true) H'
theorem walk{l:PySem.W.OpenLaw}{q:Program}{loose:List Str}{XP:(Str->Option Value)->Heap->Prop}{YP:World->Heap->Prop}{d:DefRec}{K:KF}{T:Tbl}{F:Fn}{n:Nat}{x:Str}(hn:l.most=some 63)(hdf:d.params.defaults=[])(hr:L2.yu n callerA)
 (hY:∀(w:World) (h:Heap),YP w h->K.In h) (hF:T.fn d.name 0=some F) (hx:F.ps=[x])
 (TOP:∀(w:World) (s₀:Shared) (mg mb:Str->Option Value) (h:Heap),PySem.W.Ground q loose [] XP w s₀ mg mb h->K.In h->Top T K mg/\∃tabs,UP T K mg h tabs)
 (HL:∀ns:List Int,ns.length<=63->∃s',zE T n d.name 0 [.scr ns] (T.tb.map .tb)=.ok (.bool true) s') :
 PySem.W.WalkO q loose XP YP l.row.toRowW d [] (fun f vs=>PySem.call f vs):=by
 refine Att.nU hn hdf fun w s₀ s₁ mg mb fa o pm cd doc a vs ns G Y ho hd hcd hmg hobj hints hlen hg=>?_
 have KX:=hY w _ Y
 obtain⟨top,tabs,TE⟩:=TOP w s₀ mg mb _ G KX
 obtain⟨st,fa',fd',e1,e2,e3,e4⟩:=top.defs _ _ _ hF
 obtain⟨p1,p2,p3⟩:=wu e3
 have nd:F.ps.Nodup:=by rw[<-p2.pre];exact p2.nd.sublist (FO _ _)
 rw[e1]at hmg
 cases hmg
 cases n with
 |zero=>
  obtain⟨s',hs⟩:=HL [] (by decide)
  cases hs
 |succ n=>
  have htab:∀b∈tabs,s₁.heap.get? b=some (Ff #[])/\K.lookup b=none/\GH s₁.heap b:=fun b hb=>by
   obtain⟨i,hi,e⟩:=Bw hb
   obtain⟨P,q1,q2,q3,q4,_⟩:=TE.at_ i _ (Ae (by rw[<-TE.len];exact hi))
   rw[Ae hi,e]at q1
   cases q1
   exact⟨q2,q3,q4⟩
  refine L2.hJ (CX:=L2.CX0) (k:=n+1) (fd:=fd') (x:=x) (sp:=Sb K tabs) (tabs:=tabs) KX G.T.g G.T.b G.T.builtins G.T.nolimit hg hobj hints (Ax hlen (by decide)) hr htab (fun base kb nb=>?_) (fun s u=>?_) (fun H hT hS=>⟨a,ns,rfl,hT,hS,hlen,fun _=>rfl⟩) fun _ _ _ z=>z
  . have f4:=Y6 (P:=l.prog) (w:=w) (base:=base) top (fun j hj=>W4 top kb n j hj) hF e1 e2 e3 e4
    rw[hx]at f4
    refine f4.imp fun vs H Q E ⟨a,ns,e,hT,hS,hl,hq⟩=>?_
    subst e
    obtain⟨s',hs⟩:=HL ns hl
    refine⟨⟨tabs,[]⟩,T.tb.map .tb,[.scr ns],⟨by rw[Ai];exact TE.len,TE.nd,fun i c z=>?_,fun a z=>by cases z⟩,.cons (.scr ?_) .nil,?_⟩
    . rw[AQ]at z
      cases hg:T.tb[i]? with
      |none=>rw[hg]at z;cases z
      |some g=>
       rw[hg]at z
       cases z
       obtain⟨P,q1,q2,q3,q4,fn⟩:=TE.at_ i g hg
       exact⟨P,q1,#[],hT P (AS q1),Bh,fun pos cv hc=>(nomatch hc),fn⟩
    . rcases hS with hS|hS
      . refine .inl ⟨⟨fun hm=>?_,by simp⟩,hS⟩
        have:=hT a hm
        rcases hS with z|⟨o,z⟩<;>(rw[this]at z;cases z)
      . exact .inr hS
    . rw[hs]
      intro ρ' x' H' _ _ r
      cases r
      exact hq H'
  . obtain⟨oc,od,kV,doc,pm,an,cdv,ct,osl,e,_⟩:=e2.ex
    subst e
    refine .of_eq ?_
    have:=uU (x:=d.name) (qual:=d.name) (body:=L2.yU st) (sc:=L2.zG st) (kV:=kV) (doc:=doc) (pm:=pm) (cdv:=cdv) (ct:=ct) (an:=an) p1 nd [u] (by rw[hx];rfl)
    rw[hx]at this
    exact this
end M
end
section
namespace F
open PySem M
noncomputable def z9:Fn:=⟨["_law_script","_law_k"],["_law_script","_law_k"],false,(.cons (.ifS (.val (.cmp .lt (.var 1) (.blt .len false (.cons (.var 0) .nil)))) (.cons (.ret (.ix (.var 0) (.var 1))) .nil) .nil) (.cons (.ret (.lit (.int 0))) .nil))⟩
noncomputable def yd:Fn:=⟨["_law_pen_here","_law_many","_law_left","_law_found","_law_mixed"],["_law_pen_here","_law_many"],false,(.cons (.ifS (.val (.cmp .gt (.ix (.var 0) (.lit (.int 0))) (.lit (.int 0)))) (.cons (.asgT [2,3] (.blt .divmod false (.cons (.ix (.var 0) (.lit (.int 0))) (.cons (.var 1) .nil)))) (.cons (.setIx (.var 0) (.lit (.int 0)) (.var 2)) (.cons (.ret (.var 3)) .nil))) .nil) (.cons (.setIx (.var 0) (.lit (.int 1)) (.bin false .mod (.bin false .add (.bin false .mul (.ix (.var 0) (.lit (.int 1))) (.lit (.int 48271))) (.lit (.int 30269))) (.lit (.int 2147483629)))) (.cons (.asg 4 (.bin false .mod (.bin false .add (.bin false .add (.bin false .mul (.ix (.var 0) (.lit (.int 1))) (.ix (.var 0) (.lit (.int 1)))) (.bin false .mul (.lit (.int 40692)) (.ix (.var 0) (.lit (.int 1))))) (.lit (.int 7))) (.lit (.int 2147483587)))) (.cons (.ret (.bin false .mod (.bin false .fdiv (.var 4) (.lit (.int 64))) (.var 1))) .nil))))⟩
noncomputable def yS:Fn:=⟨["_law_cell","_law_left"],["_law_cell"],true,(.cons (.asg 1 (.blt .max false (.cons (.var 0) (.cons (.bin false .sub (.lit (.int 0)) (.var 0)) .nil)))) (.cons (.ret (.lst true (.cons (.bin false .mul (.var 1) (.blt .int false (.cons (.cmp .ge (.var 1) (.bin false .pow (.lit (.int 10)) (.lit (.int 18)))) .nil))) (.cons (.bin false .mod (.var 1) (.lit (.int 2147483629))) .nil)))) .nil))⟩
noncomputable def yC:Fn:=⟨["thing"],["thing"],false,(.cons (.ret (.andE (.blt .isi false (.cons (.var 0) (.cons (.ty "tuple" "tuple") .nil))) (.cons (.chain .le .le (.lit (.int 1)) (.blt .len false (.cons (.var 0) .nil)) (.blt .len false (.cons (.gl "HUES") .nil))) (.cons (.call "are_wholes" 0 (.cons (.var 0) (.cons (.gl "LEAST_SIZE") (.cons (.gl "MOST_SIZE") .nil)))) .nil)))) .nil)⟩
noncomputable def yl:Fn:=⟨["things","least","most"],["things","least","most"],false,(.cons (.ret (.blt .all false (.cons (.comp false ["thing","least","most"] [none,some 1,some 2] (.call "is_whole" 0 (.cons (.var 0) (.cons (.var 1) (.cons (.var 2) .nil)))) (.nm 0) (.val (.var 0)) .nil) .nil))) .nil)⟩
noncomputable def xK:Fn:=⟨["thing","least","most"],["thing","least","most"],false,(.cons (.ret (.andE (.blt .isi false (.cons (.var 0) (.cons (.ty "int" "int") .nil))) (.cons (.not (.blt .isi false (.cons (.var 0) (.cons (.ty "bool" "bool") .nil)))) (.cons (.chain .le .le (.var 1) (.var 0) (.var 2)) .nil)))) .nil)⟩
noncomputable def yD:Fn:=⟨["thing"],["thing"],false,(.cons (.ifS (.not (.val (.call "are_sizes" 0 (.cons (.var 0) .nil)))) (.cons (.raise (.call "NoSizes" 0 (.cons (.lit (.str "one to four sizes are due")) .nil))) .nil) .nil) .nil)⟩
end F
end
section
namespace M
open PySem L2
noncomputable def qb(n s f:Nat):List (Nat × Nat):=(AE ((n-1-f)/(s-1))).map fun j=>(f,j+1)
noncomputable def wR(n s:Nat):List (Nat × Nat):=(AE n).flatMap (qb n s)
theorem bg(n s f:Nat):(qb n s f).length=(n-1-f)/(s-1):=by unfold qb;rw[Ai,BE]
theorem pI{n s:Nat}{r:Nat × Nat}(hs:2<=s)(h:r∈wR n s):0<r.2/\r.1+r.2*(s-1)<n:=by
 unfold wR qb at h
 obtain⟨f,hf,h⟩:=Dx.mp h
 obtain⟨j,hj,rfl⟩:=Bi.mp h
 rw[AW]at hf hj
 have:(j+1)*(s-1)<=n-1-f:=(Nat.le_div_iff_mul_le (by omega)).mp hj
 refine⟨Nat.succ_pos _,?_⟩
 show f+(j+1)*(s-1)<n
 omega
noncomputable def W9(ns:List Int)(f d s:Nat):Bool:=(AE s).all fun k=>decide (ns[f+k*d]?=ns[f]?)
theorem eY{α β:Type}{f:α->Option β}{g:α->β}:∀{l:List α},(∀x∈l,f x=some (g x))->l.filterMap f=l.map g
 |[],_=>rfl
 |x::l,h=>by rw[A4,h x (Av ..),AJ,eY fun y hy=>h y (Ao _ hy)]
theorem jZ(n s:Nat):∀i,i<=n->2*((AE i).flatMap (qb n s)).length+i*i+i<=2*(i*n)
 |0,_=>by simp
 |i+1,hi=>by
  have h1:=jZ n s i (by omega)
  rw[E2,Cw,Ap]
  have e:List.flatMap (qb n s) [i]=qb n s i:=by simp
  have h2:(qb n s i).length<=n-1-i:=by rw[bg];exact Nat.div_le_self _ _
  rw[e]
  have e2:(i+1)*(i+1)=i*i+2*i+1:=by rw[Nat.add_mul,Nat.mul_add];omega
  have e3:(i+1)*n=i*n+n:=DS i n
  rw[e2,e3];omega
theorem bh{n z:Nat}(h:n<=40):(wR n z).length<=800:=by
 have h1:=jZ n z n (Ag n)
 have h2:n*n<=40*n:=Du n h
 unfold wR;omega
noncomputable def RI(z p:Nat)(r:Nat × Nat):Bool:=(AE z).any fun k=>decide (r.1+k*r.2=p)
noncomputable def atP(n z p:Nat):List (Nat × Nat):=(wR n z).filter (RI z p)
noncomputable def toI(r:Nat × Nat):Int × Int:=(r.1,r.2)
theorem kP{n z:Nat}(hn:n<=40):((wR n z).map toI).Pairwise (fun a b=>jN a<jN b):=by
 rw[Cq]
 unfold wR
 rw[EK]
 have lt40:∀{f j:Nat},j∈AE ((n-1-f)/(z-1))->j<40:=fun{f j} hj=>by
  rw[AW]at hj
  have:=Nat.div_le_self (n-1-f) (z-1)
  omega
 refine⟨fun f _=>?_,?_⟩
 . unfold qb
   rw[Cq]
   refine Ei ?_ Dh
   intro i j hij
   show (f:Int)*1000+((i+1:Nat):Int)<(f:Int)*1000+((j+1:Nat):Int)
   omega
 . refine Ei ?_ Dh
   intro f g hfg x hx y hy
   unfold qb at hx hy
   obtain⟨i,hi,rfl⟩:=Bi.mp hx
   obtain⟨j,hj,rfl⟩:=Bi.mp hy
   have:=lt40 hi
   have:=lt40 hj
   show (f:Int)*1000+((i+1:Nat):Int)<(g:Int)*1000+((j+1:Nat):Int)
   omega
def Sz(zs:List Int):Prop:=1<=zs.length/\zs.length<=4/\∀x∈zs,2<=x/\x<=8
noncomputable def putL(ns:List Int)(p:Nat)(h:Int):List Int:=ns.take p++h::ns.drop (p+1)
noncomputable def RB(ns:List Int)(z p:Nat)(h:Int):List (Nat × Nat):=(atP ns.length z p).filter fun r=>W9 (putL ns p h) r.1 r.2 z
noncomputable def zO(zs:List Int)(h:Nat):Nat:=(zs.getD h 0).toNat
noncomputable def TX(zs ns:List Int)(p:Nat):List Nat:=(AE zs.length).filter fun h=>(RB ns (zO zs h) p h).isEmpty
theorem xb{zs:List Int}(hz:Sz zs){h:Nat}(hh:h<zs.length):zs[h]?=some ((zO zs h:Nat):Int)/\2<=zO zs h/\zO zs h<=8:=by
 have e:zs.getD h 0=zs[h]:=by rw[Aw,Ae hh];rfl
 have:=hz.2.2 zs[h] (B5 hh)
 unfold zO
 rw[e,Ae hh]
 refine⟨?_,by omega,by omega⟩
 congr 1;omega
noncomputable def sq(f d z:Nat):List Int:=(AE z).map fun k=>((f+k*d:Nat):Int)
end M
end
section
namespace M
open PySem
def Out.post{α:Type}(o:Out α)(P:α->Sto->Prop):Prop:=∃a s,o=.ok a s/\P a s
theorem zC{α:Type}{a:α}{s:Sto}{P:α->Sto->Prop}:(Out.ok a s).post P↔P a s:=
 ⟨fun⟨_,_,e,h⟩=>(by cases e;exact h),fun h=>⟨a,s,rfl,h⟩⟩
theorem zH{α β:Type}{o:Out α}{f:α->Sto->Out β}{P:β->Sto->Prop}:(o.bind f).post P↔o.post fun a s=>(f a s).post P:=by
 cases o with
 |ok a s=>exact(zC (P:=fun a s=>(f a s).post P)).symm
 |exc c as s=>exact⟨fun⟨_,_,e,_⟩=>(by cases e),fun⟨_,_,e,_⟩=>(by cases e)⟩
 |stuck=>exact⟨fun⟨_,_,e,_⟩=>(by cases e),fun⟨_,_,e,_⟩=>(by cases e)⟩
theorem zS{α:Type}{o:Out α}{P Q:α->Sto->Prop}(h:o.post P)(i:∀a s,P a s->Q a s):o.post Q:=by
 obtain⟨a,s,e,h⟩:=h
 exact⟨a,s,e,i a s h⟩
theorem zq{α:Type}{o:Out α}{P Q:α->Sto->Prop}(h:∀a s,P a s↔Q a s):o.post P↔o.post Q:=⟨fun k=>zS k fun a s=>(h a s).mp,fun k=>zS k fun a s=>(h a s).mpr⟩
theorem za{α:Type}{P:α->Sto->Prop}:(Out.stuck:Out α).post P↔False:=⟨fun⟨_,_,e,_⟩=>(by cases e),AF⟩
theorem xG{α:Type}{c:Prop} [Decidable c] {a b:Out α}{P:α->Sto->Prop}:(if c then a else b).post P↔if c then a.post P else b.post P:=by split<;>exact C1
theorem post_eq{α:Type}{o:Out α}{a:α}{s:Sto}:o=.ok a s↔o.post fun x t=>x=a/\t=s:=⟨fun h=>⟨a,s,h,rfl,rfl⟩,fun⟨_,_,h,e1,e2⟩=>(by rw[h,e1,e2])⟩
section
variable {Φ:Calls}{G:Str->Option Val}{env:Env}{s:Sto}
theorem Tf{v:Val}{P:Val->Sto->Prop}:(evE Φ G env (.lit v) s).post P↔P v s:=zC
theorem XQ{i:Nat}{P:Val->Sto->Prop}:(evE Φ G env (.var i) s).post P↔∃v,env[i]?=some (some v)/\P v s:=by
 show (match env[i]? with|some (some v)=>Out.ok v s|_=>.stuck).post P↔_
 split
 . rename_i v e
   refine zC.trans ⟨fun h=>⟨_,e,h⟩,fun⟨u,h1,h2⟩=>?_⟩
   rw[e]at h1;cases h1;exact h2
 . rename_i hn
   exact⟨fun⟨_,_,e,_⟩=>(by cases e),fun⟨u,h1,h2⟩=>absurd h1 (hn u)⟩
theorem Td{x:Str}{P:Val->Sto->Prop}:(evE Φ G env (.gl x) s).post P↔∃v,G x=some v/\P v s:=by
 show (match G x with|some v=>Out.ok v s|Ab=>.stuck).post P↔_
 split
 . rename_i v e
   refine zC.trans ⟨fun h=>⟨_,e,h⟩,fun⟨u,h1,h2⟩=>?_⟩
   rw[e]at h1;cases h1;exact h2
 . rename_i e
   exact⟨fun⟨_,_,e,_⟩=>(by cases e),fun⟨u,h1,h2⟩=>(by rw[e]at h1;cases h1)⟩
theorem RT{x:Str}{n:String}{P:Val->Sto->Prop}:(evE Φ G env (.ty x n) s).post P↔P (.ty n) s:=zC
theorem TZ{m:Bool}{op:Bop}{a b:Ex}{P:Val->Sto->Prop}:(evE Φ G env (.bin m op a b) s).post P↔(evE Φ G env a s).post fun x s1=>(evE Φ G env b s1).post fun y s2=>(binOp m op x y s2).post P:=by
 show (Out.bind _ _).post P↔_
 simp only[zH]
theorem Ti{a:Ex}{P:Val->Sto->Prop}:(evE Φ G env (.neg a) s).post P↔(evE Φ G env a s).post fun x s1=>∃i,x=.int i/\P (.int (-i)) s1:=by
 show (Out.bind _ _).post P↔_
 simp only[zH]
 exact zq fun x s1=>by cases x<;>simp[zC,za]
theorem Tj{a:Ex}{P:Val->Sto->Prop}:(evE Φ G env (.not a) s).post P↔(evE Φ G env a s).post fun x s1=>∃b,x=.bool b/\P (.bool !b) s1:=by
 show (Out.bind _ _).post P↔_
 simp only[zH]
 exact zq fun x s1=>by cases x<;>simp[zC,za]
theorem Tb{op:Cop}{a b:Ex}{P:Val->Sto->Prop}:(evE Φ G env (.cmp op a b) s).post P↔(evE Φ G env a s).post fun x s1=>(evE Φ G env b s1).post fun y s2=>(zQ op x y s2).post P:=by
 show (Out.bind _ _).post P↔_
 simp only[zH]
theorem Z5{op op':Cop}{a b c:Ex}{P:Val->Sto->Prop}:(evE Φ G env (.chain op op' a b c) s).post P↔(evE Φ G env a s).post fun x s1=>(evE Φ G env b s1).post fun y s2=>(zQ op x y s2).post fun r s3=>∃t,r=.bool t/\if t=true then (evE Φ G env c s3).post fun z s4=>(zQ op' y z s4).post P else P (.bool false) s3:=by
 show (Out.bind _ _).post P↔_
 simp only[zH]
 refine zq fun x s1=>zq fun y s2=>zq fun r s3=>?_
 cases r with
 |bool t=>cases t<;>simp[zC,za,zH]
 |_=>simp[za]
theorem TY{a b:Ex}{es:Exs}{P:Val->Sto->Prop}:(evE Φ G env (.andE a (.cons b es)) s).post P↔(evE Φ G env a s).post fun x s1=>∃t,x=.bool t/\if t=true then (sH Φ G env (.cons b es) s1).post P else P (.bool false) s1:=by
 show (Out.bind _ _).post P↔_
 simp only[zH]
 refine zq fun x s1=>?_
 cases x with
 |bool t=>cases t<;>simp[zC,za]
 |_=>simp[za]
theorem VH{a:Ex}{P:Val->Sto->Prop}:(sH Φ G env (.cons a .nil) s).post P↔(evE Φ G env a s).post P:=C1
theorem VI{a b:Ex}{es:Exs}{P:Val->Sto->Prop}:(sH Φ G env (.cons a (.cons b es)) s).post P↔(evE Φ G env a s).post fun x s1=>∃t,x=.bool t/\if t=true then (sH Φ G env (.cons b es) s1).post P else P (.bool false) s1:=by
 show ((evE Φ G env a s).bind fun x s1=>match x with
  |.bool true=>sH Φ G env (.cons b es) s1
  |.bool false=>.ok (.bool false) s1
  |_=>.stuck).post P↔_
 simp only[zH]
 refine zq fun x s1=>?_
 cases x with
 |bool t=>cases t<;>simp[zC,za]
 |_=>simp[za]
theorem RR{a b:Ex}{es:Exs}{P:Val->Sto->Prop}:(evE Φ G env (.orE a (.cons b es)) s).post P↔(evE Φ G env a s).post fun x s1=>∃t,truth s1 x=some t/\if t=true then P x s1 else (nv Φ G env (.cons b es) s1).post P:=by
 show (Out.bind _ _).post P↔_
 simp only[zH]
 refine zq fun x s1=>?_
 cases truth s1 x with
 |some t=>cases t<;>simp[zC,za]
 |none=>simp[za]
theorem Tn{a:Ex}{P:Val->Sto->Prop}:(nv Φ G env (.cons a .nil) s).post P↔(evE Φ G env a s).post P:=C1
theorem To{a b:Ex}{es:Exs}{P:Val->Sto->Prop}:(nv Φ G env (.cons a (.cons b es)) s).post P↔(evE Φ G env a s).post fun x s1=>∃t,truth s1 x=some t/\if t=true then P x s1 else (nv Φ G env (.cons b es) s1).post P:=by
 show ((evE Φ G env a s).bind fun x s1=>match truth s1 x with
  |some false=>nv Φ G env (.cons b es) s1
  |some true=>.ok x s1
  |Ab=>.stuck).post P↔_
 simp only[zH]
 refine zq fun x s1=>?_
 cases truth s1 x with
 |some t=>cases t<;>simp[zC,za]
 |none=>simp[za]
theorem Te{c:Cn}{a b:Ex}{P:Val->Sto->Prop}:(evE Φ G env (.ife c a b) s).post P↔(evT Φ G env c s).post fun t s1=>if t=true then (evE Φ G env a s1).post P else (evE Φ G env b s1).post P:=by
 show (Out.bind _ _).post P↔_
 simp only[zH,xG]
theorem Tq{es:Exs}{P:Val->Sto->Prop}:(evE Φ G env (.tup es) s).post P↔(zo Φ G env es s).post fun vs s1=>(if vs.length<=zU then Out.ok (Val.tup vs) s1 else .stuck).post P:=by
 show (Out.bind _ _).post P↔_
 simp only[zH]
theorem Tg{m:Bool}{es:Exs}{P:Val->Sto->Prop}:(evE Φ G env (.lst m es) s).post P↔(zo Φ G env es s).post fun vs s1=>(if vs.length<=zU then newList m vs s1 else .stuck).post P:=by
 show (Out.bind _ _).post P↔_
 simp only[zH]
theorem VL{f:Str}{v:Nat}{es:Exs}{P:Val->Sto->Prop}:(evE Φ G env (.call f v es) s).post P↔(zo Φ G env es s).post fun vs s1=>(Φ f v vs s1).post P:=by
 show (Out.bind _ _).post P↔_
 simp only[zH]
theorem cn{f:Bf}{m:Bool}{es:Exs}{P:Val->Sto->Prop}:(evE Φ G env (.blt f m es) s).post P↔(zo Φ G env es s).post fun vs s1=>(blt f m vs s1).post P:=by
 show (Out.bind _ _).post P↔_
 simp only[zH]
theorem VP{f:Mf}{m:Bool}{o:Ex}{es:Exs}{P:Val->Sto->Prop}:(evE Φ G env (.xF f m o es) s).post P↔(evE Φ G env o s).post fun x s1=>(zo Φ G env es s1).post fun vs s2=>(xF f x vs s2).post P:=by
 show (Out.bind _ _).post P↔_
 simp only[zH]
theorem cy{m:Bool}{a b c:Ex}{P:Val->Sto->Prop}:(evE Φ G env (.listRange m a b c) s).post P↔(evE Φ G env a s).post fun x s1=>(evE Φ G env b s1).post fun y s2=>(evE Φ G env c s2).post fun z s3=>(lr m x y z s3).post P:=by
 show (Out.bind _ _).post P↔_
 simp only[zH]
theorem RQ{a b:Ex}{P:Val->Sto->Prop}:(evE Φ G env (.ix a b) s).post P↔(evE Φ G env a s).post fun x s1=>(evE Φ G env b s1).post fun y s2=>(wU x y s2).post P:=by
 show (Out.bind _ _).post P↔_
 simp only[zH]
theorem RS{m:Bool}{a:Ex}{lo hi st:OEx}{P:Val->Sto->Prop}:(evE Φ G env (.sl m a lo hi st) s).post P↔(evE Φ G env a s).post fun x s1=>(evO Φ G env lo s1).post fun l s2=>(evO Φ G env hi s2).post fun h s3=>(evO Φ G env st s3).post fun c s4=>(tq m x l h c s4).post P:=by
 show (Out.bind _ _).post P↔_
 simp only[zH]
theorem VQ{P:Option Int->Sto->Prop}:(evO Φ G env .no s).post P↔P none s:=zC
theorem VR{e:Ex}{P:Option Int->Sto->Prop}:(evO Φ G env (.yes e) s).post P↔(evE Φ G env e s).post fun v s1=>∃i,v=.int i/\P (some i) s1:=by
 show (Out.bind _ _).post P↔_
 simp only[zH]
 exact zq fun x s1=>by cases x<;>simp[zC,za]
theorem mS{P:List Val->Sto->Prop}:(zo Φ G env .nil s).post P↔P [] s:=zC
theorem oo{e:Ex}{es:Exs}{P:List Val->Sto->Prop}:(zo Φ G env (.cons e es) s).post P↔(evE Φ G env e s).post fun v s1=>(zo Φ G env es s1).post fun vs s2=>P (v::vs) s2:=by
 show (Out.bind _ _).post P↔_
 simp only[zH,zC]
theorem XO{e:Ex}{P:Bool->Sto->Prop}:(evT Φ G env (.val e) s).post P↔(evE Φ G env e s).post fun v s1=>∃b,truth s1 v=some b/\P b s1:=by
 show (Out.bind (evE Φ G env e s) _).post P↔_
 simp only[zH]
 refine⟨fun h=>zS h fun v s1 h=>?_,fun h=>zS h fun v s1 h=>?_⟩
 . split at h
   . rename_i b e;exact⟨b,e,zC.mp h⟩
   . obtain⟨_,_,e,_⟩:=h;cases e
 . obtain⟨b,e,h⟩:=h
   rw[e];exact zC.mpr h
theorem VW{c:Cn}{P:Bool->Sto->Prop}:(evT Φ G env (.not c) s).post P↔(evT Φ G env c s).post fun b s1=>P (!b) s1:=by
 show (Out.bind _ _).post P↔_
 simp only[zH,zC]
theorem VV{c:Cn}{cs:Cns}{P:Bool->Sto->Prop}:(evT Φ G env (.and c cs) s).post P↔(evT Φ G env c s).post fun b s1=>if b=true then (wI Φ G env cs s1).post P else P false s1:=by
 show (Out.bind _ _).post P↔_
 simp only[zH,xG,zC]
theorem Tp{c:Cn}{cs:Cns}{P:Bool->Sto->Prop}:(evT Φ G env (.or c cs) s).post P↔(evT Φ G env c s).post fun b s1=>if b=true then P true s1 else (sO Φ G env cs s1).post P:=by
 show (Out.bind _ _).post P↔_
 simp only[zH,xG,zC]
theorem uk{P:Bool->Sto->Prop}:(wI Φ G env .nil s).post P↔P true s:=zC
theorem Z8{P:Bool->Sto->Prop}:(sO Φ G env .nil s).post P↔P false s:=zC
theorem c9{c:Cn}{cs:Cns}{P:Bool->Sto->Prop}:(wI Φ G env (.cons c cs) s).post P↔(evT Φ G env c s).post fun b s1=>if b=true then (wI Φ G env cs s1).post P else P false s1:=by
 show (Out.bind _ _).post P↔_
 simp only[zH,xG,zC]
theorem c8{c:Cn}{cs:Cns}{P:Bool->Sto->Prop}:(sO Φ G env (.cons c cs) s).post P↔(evT Φ G env c s).post fun b s1=>if b=true then P true s1 else (sO Φ G env cs s1).post P:=by
 show (Out.bind _ _).post P↔_
 simp only[zH,xG,zC]
theorem cx{e:Ex}{P:Src->Sto->Prop}:(xB Φ G env (.val e) s).post P↔(evE Φ G env e s).post fun v s1=>∃r,srcOf s1 v=some r/\P r s1:=by
 show (Out.bind _ _).post P↔_
 simp only[zH]
 refine⟨fun h=>zS h fun v s1 h=>?_,fun h=>zS h fun v s1 h=>?_⟩
 . split at h
   . rename_i b e;exact⟨b,e,zC.mp h⟩
   . obtain⟨_,_,e,_⟩:=h;cases e
 . obtain⟨b,e,h⟩:=h
   rw[e];exact zC.mpr h
theorem mT{a:Ex}{P:Src->Sto->Prop}:(xB Φ G env (.range1 a) s).post P↔(evE Φ G env a s).post fun x s1=>∃j,x=.int j/\(-(2 ^ 62)<=j/\j<=zU)/\P ⟨yK 0 j.toNat,Ab⟩ s1:=by
 show (Out.bind _ _).post P↔_
 simp only[zH]
 refine⟨fun h=>zS h fun v s1 h=>?_,fun h=>zS h fun v s1 h=>?_⟩
 . split at h
   . rw[xG]at h
     split at h
     . rename_i j z;exact⟨_,rfl,z,zC.mp h⟩
     . obtain⟨_,_,e,_⟩:=h;cases e
   . obtain⟨_,_,e,_⟩:=h;cases e
 . obtain⟨j,rfl,z,h⟩:=h
   simp only[if_pos z]
   exact zC.mpr h
theorem mU{a b:Ex}{P:Src->Sto->Prop}:(xB Φ G env (.range2 a b) s).post P↔(evE Φ G env a s).post fun x s1=>(evE Φ G env b s1).post fun y s2=>∃i j,x=.int i/\y=.int j/\(-(2 ^ 62)<=i/\i<2 ^ 62∧-(2 ^ 62)<=j/\j<2 ^ 62/\j-i<=zU)/\P ⟨yK i (j-i).toNat,Ab⟩ s2:=by
 show (Out.bind _ _).post P↔_
 simp only[zH]
 refine⟨fun h=>zS h fun v s1 h=>zS h fun w s2 h=>?_,fun h=>zS h fun v s1 h=>zS h fun w s2 h=>?_⟩
 . split at h
   . rw[xG]at h
     split at h
     . rename_i z;exact⟨_,_,rfl,rfl,z,zC.mp h⟩
     . obtain⟨_,_,e,_⟩:=h;cases e
   . obtain⟨_,_,e,_⟩:=h;cases e
 . obtain⟨i,j,rfl,rfl,z,h⟩:=h
   simp only[if_pos z]
   exact zC.mpr h
theorem VN{a:Ex}{P:Src->Sto->Prop}:(xB Φ G env (.enum a) s).post P↔(evE Φ G env a s).post fun x s1=>∃vs,(x=.tup vs\/x=.lst vs)/\P ⟨zt 0 vs,Ab⟩ s1:=by
 show (Out.bind _ _).post P↔_
 simp only[zH]
 refine⟨fun h=>zS h fun v s1 h=>?_,fun h=>zS h fun v s1 h=>?_⟩
 . split at h
   . exact⟨_,.inl rfl,zC.mp h⟩
   . exact⟨_,.inr rfl,zC.mp h⟩
   . obtain⟨_,_,e,_⟩:=h;cases e
 . obtain⟨j,rfl|rfl,h⟩:=h<;>exact zC.mpr h
theorem cw{e:Ex}{P:Fl->Sto->Prop}:(exS Φ G env (.expr e) s).post P↔(evE Φ G env e s).post fun _ s1=>P (.nx env) s1:=by
 show (Out.bind _ _).post P↔_
 simp only[zH,zC]
theorem XN{e:Ex}{P:Fl->Sto->Prop}:(exS Φ G env (.ret e) s).post P↔(evE Φ G env e s).post fun v s1=>P (.rt v) s1:=by
 show (Out.bind _ _).post P↔_
 simp only[zH,zC]
theorem VT{P:Fl->Sto->Prop}:(exS Φ G env .retN s).post P↔P (.rt .none) s:=zC
theorem cm{i:Nat}{e:Ex}{P:Fl->Sto->Prop}:(exS Φ G env (.asg i e) s).post P↔(evE Φ G env e s).post fun v s1=>P (.nx (env.set i (some v))) s1:=by
 show (Out.bind _ _).post P↔_
 simp only[zH,zC]
theorem VJ{is:List Nat}{e:Ex}{P:Fl->Sto->Prop}:(exS Φ G env (.asgT is e) s).post P↔(evE Φ G env e s).post fun v s1=>∃env',yq (.nms is) v env=some env'/\P (.nx env') s1:=by
 show (Out.bind _ _).post P↔_
 simp only[zH]
 refine⟨fun h=>zS h fun v s1 h=>?_,fun h=>zS h fun v s1 h=>?_⟩
 . split at h
   . rename_i b e;exact⟨b,e,zC.mp h⟩
   . obtain⟨_,_,e,_⟩:=h;cases e
 . obtain⟨b,e,h⟩:=h
   rw[e];exact zC.mpr h
theorem cz{is:List Nat}{es:Exs}{P:Fl->Sto->Prop}:(exS Φ G env (.par is es) s).post P↔(zo Φ G env es s).post fun vs s1=>(if vs.length=is.length then Out.ok (Fl.nx ((is.zip vs).foldl (fun e p=>e.set p.1 (some p.2)) env)) s1 else .stuck).post P:=by
 show (Out.bind _ _).post P↔_
 simp only[zH]
theorem Z6{o i e:Ex}{P:Fl->Sto->Prop}:(exS Φ G env (.setIx o i e) s).post P↔(evE Φ G env e s).post fun v s1=>(evE Φ G env o s1).post fun x s2=>(evE Φ G env i s2).post fun y s3=>∃r k vs j,x=.ref r/\y=.int k/\s3[r]?=some (.lst vs)/\L2.ixN vs.length k=some j/\P (.nx env) (upd s3 r (vs.set j v)):=by
 show (Out.bind _ _).post P↔_
 simp only[zH]
 refine zq fun v s1=>zq fun x s2=>zq fun y s3=>⟨fun h=>?_,fun⟨r,k,vs,j,h1,h2,h3,h4,h5⟩=>?_⟩
 . split at h
   . split at h
     . rename_i e3
       split at h
       . rename_i e4;exact⟨_,_,_,_,rfl,rfl,e3,e4,zC.mp h⟩
       . exact(za.mp h).elim
     . exact(za.mp h).elim
   . exact(za.mp h).elim
 . subst h1;subst h2
   simp only[h3,h4]
   exact zC.mpr h5
theorem VO{c:Cn}{a b:Sms}{P:Fl->Sto->Prop}:(exS Φ G env (.ifS c a b) s).post P↔(evT Φ G env c s).post fun t s1=>if t=true then (zY Φ G env a s1).post P else (zY Φ G env b s1).post P:=by
 show (Out.bind _ _).post P↔_
 simp only[zH,xG]
theorem VS{P:Fl->Sto->Prop}:(exS Φ G env .pass s).post P↔P (.nx env) s:=zC
theorem Ta{P:Fl->Sto->Prop}:(exS Φ G env .brk s).post P↔P (.bk env) s:=zC
theorem VM{P:Fl->Sto->Prop}:(exS Φ G env .cont s).post P↔P (.ct env) s:=zC
theorem kC{P:Fl->Sto->Prop}:(zY Φ G env .nil s).post P↔P (.nx env) s:=zC
noncomputable def qR(Φ:Calls)(G:Str->Option Val)(cs:Sms)(P:Fl->Sto->Prop):Fl->Sto->Prop
 |.nx e,s1=>(zY Φ G e cs s1).post P
 |fl,s1=>P fl s1
theorem zv{c:Sm}{cs:Sms}{P:Fl->Sto->Prop}:(zY Φ G env (.cons c cs) s).post P↔(exS Φ G env c s).post (qR Φ G cs P):=by
 show (Out.bind _ _).post P↔_
 simp only[zH]
 have:∀fl s1,(match fl with|.nx e=>zY Φ G e cs s1|fl=>Out.ok fl s1:Out Fl).post P↔qR Φ G cs P fl s1:=fun fl s1=>by
  cases fl with
  |nx e=>exact C1
  |_=>exact zC
 exact⟨fun h=>zS h fun fl s1 h=>(this fl s1).mp h,fun h=>zS h fun fl s1 h=>(this fl s1).mpr h⟩
theorem Yg{cs:Sms}{P:Fl->Sto->Prop}{e:Env}:qR Φ G cs P (.nx e) s↔(zY Φ G e cs s).post P:=C1
theorem Yh{cs:Sms}{P:Fl->Sto->Prop}{v:Val}:qR Φ G cs P (.rt v) s↔P (.rt v) s:=C1
theorem Yd{cs:Sms}{P:Fl->Sto->Prop}{v:Env}:qR Φ G cs P (.bk v) s↔P (.bk v) s:=C1
theorem Ye{cs:Sms}{P:Fl->Sto->Prop}{v:Env}:qR Φ G cs P (.ct v) s↔P (.ct v) s:=C1
theorem r8{I:Env->Prop}{g:Val->List Val}{r:Src}{t:Tgt}{body:Env->Sto->List Val->Out (List Val × Env)}(hr:r.ok s=true):∀(xs:List Val),(∀x∈xs,∀e acc,I e->∃e1 e2,yq t x e=some e1/\body e1 s acc=.ok (acc++g x,e2) s/\I e2)->∀e acc,I e->∃e',I e'/\yg r t body xs e s acc=.ok (acc++xs.flatMap g,e') s
 |[],_,e,acc,h0=>⟨e,h0,by simp[yg,hr]⟩
 |x::xs,h,e,acc,h0=>by
  obtain⟨e1,e2,h1,h2,h3⟩:=h x (.head _) e acc h0
  obtain⟨e',h4,h5⟩:=r8 hr xs (fun y hy=>h y (.tail _ hy)) e2 (acc++g x) h3
  refine⟨e',h4,?_⟩
  simp only[yg,hr,if_true,h1,h2,zX,h5,BP,Bj]
theorem cq{m:Bool}{N:List Str}{fr:List (Option Nat)}{elt:Ex}{t:Tgt}{it:Itb}{ifs:Cns}{P:Val->Sto->Prop}(I:Env->Prop)(g:Val->List Val)
 (h:(xB Φ G env it s).post fun r s1=>r.ok s1=true/\I (zT fr env)/\(∀x∈r.xs,∀e,I e->∃e1,yq t x e=some e1/\I e1/\(wI Φ G e1 ifs s1).post fun b s2=>s2=s1/\if b=true then (evE Φ G e1 elt s1).post (fun v s2=>s2=s1/\g x=[v]) else g x=[])/\(newList m (r.xs.flatMap g) s1).post P) :
 (evE Φ G env (.comp m N fr elt t it ifs) s).post P:=by
 obtain⟨r,s1,ei,h1,h2,h3,h4⟩:=h
 obtain⟨e',_,h5⟩:=r8 (I:=I) (g:=g) (body:=fun e s' acc=>(wI Φ G e ifs s').bind fun b s2=>if b then (evE Φ G e elt s2).bind fun v s3=>.ok (acc++[v],e) s3 else .ok (acc,e) s2) h1 r.xs (fun x hx e acc he=>by
  obtain⟨e1,k1,k2,b,s2,k3,rfl,k4⟩:=h3 x hx e he
  refine⟨e1,e1,k1,?_,k2⟩
  rw[k3,zX]
  cases b with
  |true=>
   rw[if_pos rfl]at k4 ⊢
   obtain⟨v,s3,kw,rfl,kv⟩:=k4
   rw[kw,zX,kv]
  |false=>
   rw[if_neg Aj]at k4 ⊢
   rw[k4,AZ]) (zT fr env) [] h2
 show (Out.bind (xB Φ G env it s) _).post P
 rw[ei,zX]
 rw[h5,zX]
 exact h4
theorem pH(Q:List Val->Env->Sto->List Val->Prop){r:Src}{t:Tgt}{body:Env->Sto->List Val->Out (List Val × Env)}:∀(xs:List Val),(∀e s acc,Q [] e s acc->r.ok s=true)->(∀x rest e s acc,Q (x::rest) e s acc->r.ok s=true/\∃e1,yq t x e=some e1/\(body e1 s acc).post fun p s2=>Q rest p.2 s2 p.1)->∀e s acc,Q xs e s acc->(yg r t body xs e s acc).post fun p s2=>Q [] p.2 s2 p.1
 |[],h0,_,e,s,acc,q=>by
  simp only[yg,h0 e s acc q,if_true]
  exact zC.mpr q
 |x::xs,h0,h,e,s,acc,q=>by
  obtain⟨h1,e1,h2,h3⟩:=h x xs e s acc q
  simp only[yg,h1,if_true,h2,zH]
  exact zS h3 fun p s2 q=>pH Q xs h0 h p.2 s2 p.1 q
theorem ju{m:Bool}{N:List Str}{fr:List (Option Nat)}{elt:Ex}{t:Tgt}{it:Itb}{ifs:Cns}{P:Val->Sto->Prop}(Q:List Val->Env->Sto->List Val->Prop)
 (h:(xB Φ G env it s).post fun r s1=>Q r.xs (zT fr env) s1 []/\(∀rest e s acc,Q rest e s acc->r.ok s=true)/\(∀x rest e s acc,Q (x::rest) e s acc->∃e1,yq t x e=some e1/\(wI Φ G e1 ifs s).post fun b s2=>if b=true then (evE Φ G e1 elt s2).post (fun v s3=>Q rest e1 s3 (acc++[v])) else Q rest e1 s2 acc)/\∀e s acc,Q [] e s acc->(newList m acc s).post P) :
 (evE Φ G env (.comp m N fr elt t it ifs) s).post P:=by
 obtain⟨r,s1,ei,h1,h2,h3,h4⟩:=h
 show (Out.bind (xB Φ G env it s) _).post P
 rw[ei,zX,zH]
 refine zS (pH Q r.xs (fun e s acc q=>h2 _ e s acc q) (fun x rest e s acc q=>⟨h2 _ e s acc q,?_⟩) _ _ _ h1) fun p s2 q=>h4 _ _ _ q
 obtain⟨e1,k1,k2⟩:=h3 x rest e s acc q
 refine⟨e1,k1,?_⟩
 simp only[zH]
 refine zS k2 fun b s2 k=>?_
 cases b with
 |true=>
  rw[if_pos rfl]at k ⊢
  simp only[zH,zC]
  exact k
 |false=>
  rw[if_neg Aj]at k ⊢
  exact zC.mpr k
theorem tP(Q:List Val->Env->Sto->Prop)(R:Fl->Sto->Prop){r:Src}{t:Tgt}{body:Env->Sto->Out Fl}(h0:∀e s,Q [] e s->R (.nx e) s):∀(xs:List Val),(∀rest e s,Q rest e s->r.ok s=true)->(∀x rest e s,Q (x::rest) e s->∃e1,yq t x e=some e1/\(body e1 s).post fun fl s2=>match fl with|.nx e=>Q rest e s2|.ct e=>Q rest e s2|.bk e=>R (.nx e) s2|.rt v=>R (.rt v) s2)->∀e s,Q xs e s->(vG r t body xs e s).post R
 |[],hk,_,e,s,q=>by
  simp only[vG,hk _ _ _ q,if_true]
  exact zC.mpr (h0 _ _ q)
 |x::xs,hk,h,e,s,q=>by
  obtain⟨e1,h2,h3⟩:=h x xs e s q
  simp only[vG,hk _ _ _ q,if_true,h2,zH]
  refine zS h3 fun fl s2 q=>?_
  cases fl with
  |nx e=>exact tP Q R h0 xs hk h e s2 q
  |ct e=>exact tP Q R h0 xs hk h e s2 q
  |bk e=>exact zC.mpr q
  |rt v=>exact zC.mpr q
noncomputable def pR(Q:Env->Sto->Prop)(R:Fl->Sto->Prop):Fl->Sto->Prop
 |.nx e,s=>Q e s
 |.ct e,s=>Q e s
 |.bk e,s=>R (.nx e) s
 |.rt v,s=>R (.rt v) s
theorem YU{Q:Env->Sto->Prop}{R:Fl->Sto->Prop}{e:Env}:pR Q R (.nx e) s↔Q e s:=C1
theorem YT{Q:Env->Sto->Prop}{R:Fl->Sto->Prop}{e:Env}:pR Q R (.ct e) s↔Q e s:=C1
theorem YS{Q:Env->Sto->Prop}{R:Fl->Sto->Prop}{e:Env}:pR Q R (.bk e) s↔R (.nx e) s:=C1
theorem YV{Q:Env->Sto->Prop}{R:Fl->Sto->Prop}{v:Val}:pR Q R (.rt v) s↔R (.rt v) s:=C1
theorem Tc{t:Tgt}{it:Itb}{b:Sms}{R:Fl->Sto->Prop}(Q:List Val->Env->Sto->Prop)
 (h:(xB Φ G env it s).post fun r s1=>Q r.xs env s1/\(∀rest e s,Q rest e s->r.ok s=true)/\(∀x rest e s,Q (x::rest) e s->∃e1,yq t x e=some e1/\(zY Φ G e1 b s).post (pR (Q rest) R))/\∀e s,Q [] e s->R (.nx e) s) :
 (exS Φ G env (.forS t it b) s).post R:=by
 obtain⟨r,s1,ei,h1,h2,h3,h4⟩:=h
 show (Out.bind (xB Φ G env it s) _).post R
 rw[ei,zX]
 refine tP Q R h4 r.xs h2 (fun x rest e s q=>?_) _ _ h1
 obtain⟨e1,k1,k2⟩:=h3 x rest e s q
 refine⟨e1,k1,zS k2 fun fl s2 k=>?_⟩
 cases fl<;>exact k
theorem xk{t:Tgt}{it:Itb}{b:Sms}{R:Fl->Sto->Prop}(Q:List Val->Env->Sto->Prop)(xs:List Val){s1:Sto}(hi:xB Φ G env it s=.ok ⟨xs,Ab⟩ s1)(h0:Q xs env s1)
 (h1:∀x rest e s,Q (x::rest) e s->∃e1,yq t x e=some e1/\(zY Φ G e1 b s).post (pR (Q rest) R)) (h2:∀e s,Q [] e s->R (.nx e) s) :
 (exS Φ G env (.forS t it b) s).post R:=Tc Q ⟨_,_,hi,h0,fun _ _ _ _=>rfl,h1,h2⟩
theorem uj{m:Bool}{N:List Str}{fr:List (Option Nat)}{elt:Ex}{t:Tgt}{it:Itb}{ifs:Cns}{P:Val->Sto->Prop}(I:Env->Prop)(g:Val->List Val)(xs:List Val){s1:Sto}(hi:xB Φ G env it s=.ok ⟨xs,Ab⟩ s1)(h0:I (zT fr env))
 (h1:∀x∈xs,∀e,I e->∃e1,yq t x e=some e1/\I e1/\(wI Φ G e1 ifs s1).post fun b s2=>s2=s1/\if b=true then (evE Φ G e1 elt s1).post (fun v s2=>s2=s1/\g x=[v]) else g x=[]) (h2:(newList m (xs.flatMap g) s1).post P) :
 (evE Φ G env (.comp m N fr elt t it ifs) s).post P:=cq I g ⟨_,_,hi,rfl,h0,h1,h2⟩
end
theorem Yj{s:Sto}:truth s .none=some false:=rfl
theorem zc{s:Sto}{b:Bool}:truth s (.bool b)=some b:=rfl
theorem UB{s:Sto}{i:Int}:truth s (.int i)=some (i != 0):=rfl
theorem UD{s:Sto}{vs:List Val}:truth s (.tup vs)=some !vs.isEmpty:=rfl
theorem UC{s:Sto}{vs:List Val}:truth s (.lst vs)=some !vs.isEmpty:=rfl
theorem Vy{s:Sto}{vs:List Val}:srcOf s (.tup vs)=some ⟨vs,Ab⟩:=rfl
theorem Vx{s:Sto}{vs:List Val}:srcOf s (.lst vs)=some ⟨vs,Ab⟩:=rfl
theorem YR{s:Sto}{ns:List Int}:srcOf s (.ctup ns)=some ⟨ns.map .int,Ab⟩:=rfl
theorem b9{s:Sto}{xs:List Val}:Src.ok ⟨xs,Ab⟩ s=true:=rfl
theorem UU{i:Nat}{v:Val}{env:Env}:yq (.nm i) v env=some (env.set i (some v)):=rfl
theorem Xs{is:List Nat}{vs:List Val}{env:Env}:yq (.nms is) (.tup vs) env=if vs.length=is.length then some ((is.zip vs).foldl (fun e p=>e.set p.1 (some p.2)) env) else Ab:=rfl
theorem fX(vs:List Val):tG vs vs=true:=vn vs
theorem nY(c:Cel):c.beq c=true:=by cases c<;>simp[Cel.beq,fX]
theorem wg:∀(s t:Sto),wD s (s++t)=true
 |[],_=>rfl
 |c::r,t=>by simp[wD,nY c,wg r t]
theorem l5(s:Sto):wD s s=true:=by have:=wg s [];rwa [AZ]at this
theorem qG:∀(s t:Sto) (i:Nat) (c:Cel),c.noRef=true->wD s (s.set i c++t)=true
 |[],_,_,_,_=>by simp[wD]
 |_::r,t,0,c,h=>by simp[wD,h,wg r t]
 |o::r,t,i+1,c,h=>by simp[wD,nY o,qG r t i c h]
theorem gK(s t:Sto)(i:Nat)(vs:List Val)(h:zl vs=true):wD s (s.set i (.lst vs)++t)=true:=qG s t i _ h
theorem vv:Val.none.noRef=true:=by rw[Val.noRef]
theorem xU{b:Bool}:(Val.bool b).noRef=true:=by rw[Val.noRef]
theorem wC{b:Int}:(Val.int b).noRef=true:=by rw[Val.noRef]
theorem qF{b:Str}:(Val.str b).noRef=true:=by rw[Val.noRef]
theorem tQ{vs:List Val}:(Val.tup vs).noRef=zl vs:=by rw[Val.noRef]
theorem lz{vs:List Val}:(Val.lst vs).noRef=zl vs:=by rw[Val.noRef]
theorem w8:zl []=true:=by rw[zl]
theorem yG{v:Val}{vs:List Val}:zl (v::vs)=(v.noRef&&zl vs):=by rw[zl]
theorem wQ:∀ns:List Int,zl (ns.map .int)=true
 |[]=>rfl
 |_::ns=>by simp[zl,Val.noRef,wQ ns]
theorem uG:∀zs:List (Int × Int),zl (zs.map prV)=true
 |[]=>rfl
 |_::zs=>by simp[zl,Val.noRef,prV,uG zs]
noncomputable def zp(k:Bool)(s0:Sto)(v:Val)(s:Sto):Out Val:=
 if k then .ok v s
 else if wD s0 s then (match freeze s0.length s v with|some v'=>.ok v' (s.take s0.length)|Ab=>.stuck) else .stuck
theorem mD{s0 s:Sto}{v:Val}:zp true s0 v s=.ok v s:=rfl
theorem xP{k:Bool}{s:Sto}{v:Val}(h:v.noRef=true):zp k s v s=.ok v s:=by
 unfold zp
 cases k
 . simp[l5,freeze,h]
 . rfl
theorem wz{s t:Sto}{v:Val}(h:v.noRef=true):zp false s v (s++t)=.ok v s:=by
 unfold zp
 simp[wg,freeze,h]
theorem lj{s t:Sto}{v:Val}{i:Nat}{vs:List Val}(h:v.noRef=true)(hv:zl vs=true):zp false s v (s.set i (.lst vs)++t)=.ok v (s.set i (.lst vs)):=by
 unfold zp
 have e:s.length=(s.set i (.lst vs)).length:=by rw[CM]
 simp only[gK s t i vs hv,freeze,h,if_true,AV,if_false,e,List.take_left']
theorem gA{s:Sto}{v:Val}{i:Nat}{vs:List Val}(h:v.noRef=true)(hv:zl vs=true):zp false s v (s.set i (.lst vs))=.ok v (s.set i (.lst vs)):=by
 have:=lj (s:=s) (t:=[]) (i:=i) h hv
 rwa [AZ]at this
theorem lh{s t:Sto}{vs:List Val}{i:Nat}(hi:i ≥ s.length)(hl:(s++t)[i]?=some (.lst vs))(h:zl vs=true):zp false s (.ref i) (s++t)=.ok (.lst vs) s:=by
 unfold zp
 have:¬i<s.length:=by omega
 simp[wg,freeze,Val.noRef,wN,this,hl,h]
noncomputable def fin(k:Bool)(s:Sto)(P:Val->Sto->Prop):Fl->Sto->Prop
 |.nx _,s1=>(zp k s .none s1).post P
 |.rt v,s1=>(zp k s v s1).post P
 |_,_=>False
theorem WA{k:Bool}{s s1:Sto}{P:Val->Sto->Prop}{e:Env}:fin k s P (.nx e) s1↔(zp k s .none s1).post P:=C1
theorem WB{k:Bool}{s s1:Sto}{P:Val->Sto->Prop}{v:Val}:fin k s P (.rt v) s1↔(zp k s v s1).post P:=C1
theorem xX{T:Tbl}{Φ:Calls}{N ps:List Str}{k:Bool}{b:Sms}{vs:List Val}{s:Sto}{P:Val->Sto->Prop}:(run T Φ ⟨N,ps,k,b⟩ vs s).post P↔vs.length=ps.length/\(zY Φ T.gl (zZ N vs) b s).post (fin k s P):=by
 unfold run
 by_cases hl:vs.length=ps.length
 . rw[if_pos hl,zH]
   refine⟨fun h=>⟨hl,zS h fun fl s1 h=>?_⟩,fun h=>zS h.2 fun fl s1 h=>?_⟩
   . cases fl<;>first|exact h|exact(za.mp h).elim
   . cases fl<;>first|exact h|exact h.elim
 . rw[if_neg hl]
   exact⟨fun h=>(za.mp h).elim,fun h=>absurd h.1 hl⟩
theorem zi{T:Tbl}{n:Nat}{f:Str}{v:Nat}{F:Fn}(h:T.fn f v=some F)(vs:List Val)(s:Sto):zE T (n+1) f v vs s=run T (zE T n) F vs s:=by
 simp only[zE,h]
theorem fY{T:Tbl}{n:Nat}{f:Str}{v:Nat}{F:Fn}(h:T.fn f v=some F){vs:List Val}(hl:vs.length=F.ps.length)(s:Sto):zm T (n+1) f v vs s=xSs (fun c=>(T.xc.lookup c).isSome) (zE T n) (zm T n) T.gl (zZ F.N vs) F.body s:=by
 simp only[zm,h]
 rw[if_pos hl]
def At(T:Tbl)(k:Nat)(C:Calls->Prop):Prop:=∀n,k<=n->C (zE T n)
noncomputable def EVl:=Ak @Tf <| Ak @XQ <| Ak @Td <| Ak @RT <| Ak @TZ <| Ak @Ti <| Ak @Tj <| Ak @Tb <| Ak @Z5 <| Ak @TY <| Ak @VH <| Ak @VI <| Ak @RR <| Ak @Tn <| Ak @To <| Ak @Te <| Ak @Tq <| Ak @Tg <| Ak @VL <| Ak @cn <| Ak @VP <| Ak @cy <| Ak @RQ <| Ak @RS <| Ak @VQ <| Ak @VR <| Ak @mS <| Ak @oo <| Ak @XO <| Ak @VW <| Ak @VV <| Ak @Tp <| Ak @uk <| Ak @Z8 <| Ak @c9 <| Ak @c8 <| Ak @cx <| Ak @mT <| Ak @mU <| Ak @VN <| Ak @cw <| Ak @XN <| Ak @VT <| Ak @cm <| Ak @VJ <| Ak @cz <| Ak @Z6 <| Ak @VO <| Ak @VS <| Ak @Ta <| Ak @VM <| Ak @kC <| Ak @zv <| Ak @Yg <| Ak @Yh <| Ak @Yd <| Ak @Ye <| Ak @YU <| Ak @YT <| Ak @YS <| Ak @YV <| Ak @zC <| Ak @xG <| Ak @za <| Ak @Yj <| Ak @zc <| Ak @UB <| Ak @UD <| Ak @UC <| Ak @Vy <| Ak @Vx <| Ak @YR <| Ak @b9 <| Ak @UU <| Ak @Xs <| Ak @xX <| Ak @WA <| Ak @WB <| Ak @mD <| Ak @xP <| Ak @vv <| Ak @xU <| Ak @wC <| Ak @qF <| Ak @tQ <| Ak @lz <| Ak @w8 <| Ak @yG <| Ak @wQ <| @uG
end M
end
section
namespace M
open PySem
theorem bnd{α β:Type}{o:Out α}{a:α}{s:Sto}{f:α->Sto->Out β}{r:Out β}(h:o=.ok a s)(k:f a s=r):o.bind f=r:=by rw[h];exact k
section
variable {Φ:Calls}{G:Str->Option Val}{env:Env}{s s1 s2 s3 s4:Sto}
theorem zK{v:Val}:evE Φ G env (.lit v) s=.ok v s:=rfl
theorem zB{i:Nat}{v:Val}(h:env[i]?=some (some v)):evE Φ G env (.var i) s=.ok v s:=post_eq.mpr (XQ.mpr ⟨v,h,rfl,rfl⟩)
theorem lG{x:Str}{n:String}:evE Φ G env (.ty x n) s=.ok (.ty n) s:=rfl
theorem Sy{a b:Ex}{r:Out Val}(h1:evE Φ G env a s=.ok (.bool true) s1)(h2:evE Φ G env b s1=r):evE Φ G env (.andE a (.cons b .nil)) s=r:=bnd h1 h2
theorem Yl{x:Str}{v:Val}(h:G x=some v):evE Φ G env (.gl x) s=.ok v s:=post_eq.mpr (Td.mpr ⟨v,h,rfl,rfl⟩)
theorem k9{a b:Ex}{es:Exs}(h1:evE Φ G env a s=.ok (.bool false) s1):evE Φ G env (.andE a (.cons b es)) s=.ok (.bool false) s1:=bnd h1 rfl
theorem aU{a b c:Ex}{es:Exs}(h1:evE Φ G env a s=.ok (.bool true) s1)(h2:evE Φ G env b s1=.ok (.bool false) s2):evE Φ G env (.andE a (.cons b (.cons c es))) s=.ok (.bool false) s2:=bnd h1 (show (evE Φ G env b s1).bind _=_ from bnd h2 rfl)
theorem aV{a b c:Ex}{r:Out Val}(h1:evE Φ G env a s=.ok (.bool true) s1)(h2:evE Φ G env b s1=.ok (.bool true) s2)(h3:evE Φ G env c s2=r):evE Φ G env (.andE a (.cons b (.cons c .nil))) s=r:=bnd h1 (show (evE Φ G env b s1).bind _=_ from bnd h2 h3)
theorem aW{a:Ex}{i:Int}(h:evE Φ G env a s=.ok (.int i) s1):evE Φ G env (.neg a) s=.ok (.int (-i)) s1:=bnd h rfl
theorem zf{m:Bool}{op:Bop}{a b:Ex}{x y:Val}{r:Out Val}(h1:evE Φ G env a s=.ok x s1)(h2:evE Φ G env b s1=.ok y s2)(h3:binOp m op x y s2=r):evE Φ G env (.bin m op a b) s=r:=bnd h1 (bnd h2 h3)
theorem yQ{op:Cop}{a b:Ex}{x y:Val}{r:Out Val}(h1:evE Φ G env a s=.ok x s1)(h2:evE Φ G env b s1=.ok y s2)(h3:zQ op x y s2=r):evE Φ G env (.cmp op a b) s=r:=bnd h1 (bnd h2 h3)
theorem vh{a b:Ex}{x y:Val}{r:Out Val}(h1:evE Φ G env a s=.ok x s1)(h2:evE Φ G env b s1=.ok y s2)(h3:wU x y s2=r):evE Φ G env (.ix a b) s=r:=bnd h1 (bnd h2 h3)
theorem qa:evO Φ G env .no s=.ok none s:=rfl
theorem mP{e:Ex}{i:Int}(h:evE Φ G env e s=.ok (.int i) s1):evO Φ G env (.yes e) s=.ok (some i) s1:=bnd h rfl
theorem aX{m:Bool}{a:Ex}{lo hi st:OEx}{x:Val}{l h c:Option Int}{r:Out Val}(h0:evE Φ G env a s=.ok x s1)(h1:evO Φ G env lo s1=.ok l s2)(h2:evO Φ G env hi s2=.ok h s3)(h3:evO Φ G env st s3=.ok c s4)(h4:tq m x l h c s4=r):evE Φ G env (.sl m a lo hi st) s=r:=bnd h0 (bnd h1 (bnd h2 (bnd h3 h4)))
theorem zD:zo Φ G env .nil s=.ok [] s:=rfl
theorem zA{e:Ex}{es:Exs}{v:Val}{vs:List Val}(h1:evE Φ G env e s=.ok v s1)(h2:zo Φ G env es s1=.ok vs s2):zo Φ G env (.cons e es) s=.ok (v::vs) s2:=bnd h1 (bnd h2 rfl)
theorem sk{e:Ex}{es:Exs}{v:Val}{P:List Val->Sto->Prop}(h:evE Φ G env e s=.ok v s1)(k:(zo Φ G env es s1).post fun vs s2=>P (v::vs) s2):(zo Φ G env (.cons e es) s).post P:=oo.mpr (by rw[h];exact zC.mpr k)
theorem xA{es:Exs}{vs:List Val}(h:zo Φ G env es s=.ok vs s1)(hl:vs.length<=zU):evE Φ G env (.tup es) s=.ok (.tup vs) s1:=bnd h (if_pos hl)
theorem vk{es:Exs}{vs:List Val}(h:zo Φ G env es s=.ok vs s1)(hl:vs.length<=zU):evE Φ G env (.lst false es) s=.ok (.lst vs) s1:=bnd h (if_pos hl)
theorem yX{f:Bf}{m:Bool}{es:Exs}{vs:List Val}{r:Out Val}(h:zo Φ G env es s=.ok vs s1)(k:blt f m vs s1=r):evE Φ G env (.blt f m es) s=r:=bnd h k
theorem x_call{f:Str}{v:Nat}{es:Exs}{vs:List Val}{r:Out Val}(h:zo Φ G env es s=.ok vs s1)(k:Φ f v vs s1=r):evE Φ G env (.call f v es) s=r:=bnd h k
theorem xm{i:Nat}{e:Ex}{cs:Sms}{v:Val}{P:Fl->Sto->Prop}(h:evE Φ G env e s=.ok v s1)(k:(zY Φ G (env.set i (some v)) cs s1).post P):(zY Φ G env (.cons (.asg i e) cs) s).post P:=zv.mpr (cm.mpr (by rw[h];exact zC.mpr k))
theorem br{i:Nat}{e:Ex}{cs:Sms}{P:Fl->Sto->Prop}(h:(evE Φ G env e s).post fun v s1=>(zY Φ G (env.set i (some v)) cs s1).post P):(zY Φ G env (.cons (.asg i e) cs) s).post P:=zv.mpr (cm.mpr h)
theorem xn{e:Ex}{cs:Sms}{v:Val}{P:Fl->Sto->Prop}(h:evE Φ G env e s=.ok v s1)(k:(zY Φ G env cs s1).post P):(zY Φ G env (.cons (.expr e) cs) s).post P:=zv.mpr (cw.mpr (by rw[h];exact zC.mpr k))
theorem yW{e:Ex}{cs:Sms}{v:Val}{P:Fl->Sto->Prop}(h:evE Φ G env e s=.ok v s1)(k:P (.rt v) s1):(zY Φ G env (.cons (.ret e) cs) s).post P:=zv.mpr (XN.mpr (by rw[h];exact zC.mpr k))
theorem oV{e:Ex}{v:Val}{xs:List Val}(h:evE Φ G env e s=.ok v s1)(k:srcOf s1 v=some ⟨xs,none⟩):xB Φ G env (.val e) s=.ok ⟨xs,none⟩ s1:=post_eq.mpr (cx.mpr (by rw[h];exact zC.mpr ⟨_,k,rfl,rfl⟩))
theorem yc{e:Ex}{v:Val}{b:Bool}(h:evE Φ G env e s=.ok v s1)(k:truth s1 v=some b):evT Φ G env (.val e) s=.ok b s1:=post_eq.mpr (XO.mpr (by rw[h];exact zC.mpr ⟨_,k,rfl,rfl⟩))
theorem lB{c:Cn}{b:Bool}(h:evT Φ G env c s=.ok b s1):evT Φ G env (.not c) s=.ok (!b) s1:=bnd h rfl
theorem Ss{c:Cn}{cs:Cns}{b:Bool}(h:evT Φ G env c s=.ok false s1)(k:sO Φ G env cs s1=.ok b s2):evT Φ G env (.or c cs) s=.ok b s2:=bnd h k
theorem V9:sO Φ G env .nil s=.ok false s:=rfl
theorem Yi{c:Cn}{cs:Cns}{b:Bool}(h:evT Φ G env c s=.ok false s1)(k:sO Φ G env cs s1=.ok b s2):sO Φ G env (.cons c cs) s=.ok b s2:=bnd h k
theorem Su{c:Cn}{cs:Cns}(h:evT Φ G env c s=.ok true s1):evT Φ G env (.or c cs) s=.ok true s1:=bnd h rfl
theorem aJ{c:Cn}{cs:Cns}(h:evT Φ G env c s=.ok true s1):sO Φ G env (.cons c cs) s=.ok true s1:=bnd h rfl
theorem vI{c:Cn}{a cs:Sms}{P:Fl->Sto->Prop}(h:evT Φ G env c s=.ok false s1)(k:(zY Φ G env cs s1).post P):(zY Φ G env (.cons (.ifS c a .nil) cs) s).post P:=zv.mpr (VO.mpr (by rw[h];refine zC.mpr ?_;rw[if_neg Aj];exact kC.mpr k))
theorem qO{c:Cn}{a b cs:Sms}{P:Fl->Sto->Prop}(h:evT Φ G env c s=.ok true s1)(k:(zY Φ G env a s1).post (qR Φ G cs P)):(zY Φ G env (.cons (.ifS c a b) cs) s).post P:=zv.mpr (VO.mpr (by rw[h];refine zC.mpr ?_;rw[if_pos rfl];exact k))
theorem sZ{e:Ex}{vs:List Val}(h:evE Φ G env e s=.ok (.tup vs) s1):xB Φ G env (.enum e) s=.ok ⟨zt 0 vs,none⟩ s1:=bnd h rfl
theorem Xg{a:Ex}{b:Bool}(h:evE Φ G env a s=.ok (.bool b) s1):evE Φ G env (.not a) s=.ok (.bool !b) s1:=bnd h rfl
theorem UJ{c:Cn}{a b:Ex}{r:Out Val}(h:evT Φ G env c s=.ok true s1)(k:evE Φ G env a s1=r):evE Φ G env (.ife c a b) s=r:=bnd h k
theorem UI{c:Cn}{a b:Ex}{r:Out Val}(h:evT Φ G env c s=.ok false s1)(k:evE Φ G env b s1=r):evE Φ G env (.ife c a b) s=r:=bnd h k
theorem wG{P:Fl->Sto->Prop}(k:P (.nx env) s):(zY Φ G env .nil s).post P:=kC.mpr k
theorem jv{is:List Nat}{vs:List Val}{P:Fl->Sto->Prop}(hl:vs.length=is.length)(k:P (.nx ((is.zip vs).foldl (fun e p=>e.set p.1 (some p.2)) env)) s):(if vs.length=is.length then Out.ok (Fl.nx ((is.zip vs).foldl (fun e p=>e.set p.1 (some p.2)) env)) s else .stuck).post P:=by
 rw[if_pos hl];exact zC.mpr k
theorem pG{e:Ex}{k:Nat}(h:evE Φ G env e s=.ok (.int (k:Int)) s1)(hk:k<=zU):xB Φ G env (.range1 e) s=.ok ⟨yK 0 k,none⟩ s1:=by
 rw[post_eq]
 refine mT.mpr ?_
 rw[h]
 exact zC.mpr ⟨_,rfl,⟨by omega,by omega⟩,by rw[Bk],rfl⟩
theorem XB{a b:Ex}{i j:Nat}(h:evE Φ G env a s=.ok (.int (i:Int)) s1)(h':evE Φ G env b s1=.ok (.int (j:Int)) s2)(hi:i<=1000)(hj:j<=1000):xB Φ G env (.range2 a b) s=.ok ⟨yK i (j-i),none⟩ s2:=by
 rw[post_eq]
 refine mU.mpr ?_
 rw[h]
 refine zC.mpr ?_
 rw[h']
 exact zC.mpr ⟨_,_,rfl,rfl,⟨by omega,by omega,by omega,by omega,by unfold zU;omega⟩,by congr 2;omega,rfl⟩
theorem V5{c d:Cn}{a b:Bool}(h:evT Φ G env c s=.ok a s)(k:evT Φ G env d s=.ok b s):evT Φ G env (.and c (.cons d .nil)) s=.ok (a&&b) s:=bnd h (by
 cases a with
 |false=>rfl
 |true=>exact bnd k (by cases b<;>rfl))
theorem aO{c:Cn}{b:Bool}(h:evT Φ G env c s=.ok b s):wI Φ G env (.cons c .nil) s=.ok b s:=bnd h (by cases b<;>rfl)
end
end M
end
section
namespace M
open PySem
noncomputable def ya(l m:Int):Val->Bool
 |.int i=>decide (l<=i)&&decide (i<=m)
 |_=>false
theorem g9{l m i:Int}(h1:l<=i)(h2:i<=m):ya l m (.int i)=true:=by simp[ya,h1,h2]
def fE(Φ:Calls):Prop:=∀(v:Val) (l m:Int) (s:Sto),kindOf v≠none->Φ "is_whole" 0 [v,.int l,.int m] s=.ok (.bool (ya l m v)) s
def pq(Φ:Calls):Prop:=∀(vs:List Val) (l m:Int) (s:Sto),(∀v∈vs,kindOf v≠none)->Φ "are_wholes" 0 [.tup vs,.int l,.int m] s=.ok (.bool (vs.all (ya l m))) s
theorem ug{m:Bool}{vs:List Val}{s:Sto}:blt .len m [.tup vs] s=.ok (.int vs.length) s:=rfl
theorem d7{m:Bool}{ns:List Int}{s:Sto}:blt .len m [.ctup ns] s=.ok (.int ns.length) s:=by simp[blt,xI]
theorem d8{m:Bool}{ns:List Int}{s:Sto}:blt .len m [.scr ns] s=.ok (.int ns.length) s:=by simp[blt,xI]
theorem le_int{a b:Int}{s:Sto}:zQ .le (.int a) (.int b) s=.ok (.bool (decide (a<=b))) s:=rfl
theorem lt_int{a b:Int}{s:Sto}:zQ .lt (.int a) (.int b) s=.ok (.bool (decide (a<b))) s:=rfl
theorem ge_int{a b:Int}{s:Sto}:zQ .ge (.int a) (.int b) s=.ok (.bool (decide (b<=a))) s:=rfl
theorem gt_int{a b:Int}{s:Sto}:zQ .gt (.int a) (.int b) s=.ok (.bool (decide (b<a))) s:=rfl
theorem oS{m:Bool}{vs:List Val}{s:Sto}:blt .isi m [.tup vs,.ty "tuple"] s=.ok (.bool true) s:=rfl
theorem vO{α:Type}(f:α->Bool):∀xs:List α,boolsOf (xs.map fun x=>Val.bool (f x))=some (xs.map f)
 |[]=>rfl
 |x::xs=>by simp[boolsOf,vO f xs]
theorem eW{α β:Type}(f:α->β)(xs:List α):xs.flatMap (fun x=>[f x])=xs.map f:=by
 induction xs with
 |nil=>rfl
 |cons x xs ih=>simp[ih]
theorem rJ{m:Bool}{i j:Int}{s:Sto}:binOp m .add (.int i) (.int j) s=.ok (.int (i+j)) s:=by simp only[binOp]
theorem RE{m:Bool}{i j:Int}{s:Sto}:binOp m .sub (.int i) (.int j) s=.ok (.int (i-j)) s:=by simp only[binOp]
theorem nW{m:Bool}{i j:Int}{s:Sto}(h:-1000000<=i/\i<=1000000):binOp m .mul (.int i) (.int j) s=.ok (.int (i*j)) s:=by
 simp only[binOp]
 rw[if_pos (.inl (by omega))]
theorem Yu{m:Bool}{i j:Int}{s:Sto}(h:-1000000<=j/\j<=1000000):binOp m .mul (.int i) (.int j) s=.ok (.int (i*j)) s:=by
 simp only[binOp]
 rw[if_pos (.inr (by omega))]
section
variable {T:Tbl}{Φ:Calls}{s:Sto}
theorem oR{v:Val}{m:Bool}{n:String}{a c:L2.Kd}{s:Sto}(h:kindOf v=some a)(h':vT n=some c):blt .isi m [v,.ty n] s=.ok (.bool (a.sub c)) s:=by
 simp only[blt];rw[h,h']
theorem Ws{v:Val}{a:L2.Kd}(h:kindOf v=some a):(∃i,v=.int i)\/(∃b,v=.bool b)\/(a.sub .int=false/\∀l m,ya l m v=false):=by
 cases v with
 |int i=>exact .inl ⟨i,rfl⟩
 |bool b=>exact .inr (.inl ⟨b,rfl⟩)
 |_=>cases h<;>exact .inr (.inr ⟨rfl,fun _ _=>rfl⟩)
theorem oX{v:Val}(h:kindOf v≠none):∃a,kindOf v=some a:=Option.ne_none_iff_exists'.mp h
theorem dw{v:Val}{a:L2.Kd}(h:kindOf v=some a):(∃vs,v=.tup vs)\/a.sub .tup=false:=by
 cases v with
 |tup vs=>exact .inl ⟨vs,rfl⟩
 |_=>cases h<;>exact .inr rfl
theorem gk{v:Val}{l m:Int}(hk:kindOf v≠none):run T Φ F.xK [v,.int l,.int m] s=.ok (.bool (ya l m v)) s:=by
 obtain⟨a,ha⟩:=oX hk
 have e1:=oR (m:=false) (s:=s) ha (show vT "int"=some .int from rfl)
 have e2:=oR (m:=false) (s:=s) ha (show vT "bool"=some .bl from rfl)
 have end':∀{b:Bool},b=ya l m v->(zp false s (.bool b) s).post fun x t=>x=.bool (ya l m v)/\t=s:=fun{b} e=>by
  rw[xP xU,e];exact zC.mpr ⟨rfl,rfl⟩
 rw[post_eq,F.xK,xX]
 refine⟨rfl,?_⟩
 show (zY Φ T.gl [some v,some (.int l),some (.int m)] _ s).post _
 rcases Ws ha with⟨i,rfl⟩|⟨b,rfl⟩|⟨h1,h2⟩
 . cases ha
   have hc:evE Φ T.gl [some (.int i),some (.int l),some (.int m)] (.chain .le .le (.var 1) (.var 0) (.var 2)) s=.ok (.bool (ya l m (.int i))) s:=by
    refine bnd (zB rfl) (bnd (zB rfl) (bnd le_int ?_))
    show (match Val.bool (decide (l<=i)) with
     |.bool true=>(evE Φ T.gl [some (.int i),some (.int l),some (.int m)] (.var 2) s).bind fun z s4=>zQ .le (.int i) z s4
     |.bool false=>.ok (.bool false) s
     |_=>.stuck)=Out.ok (.bool (decide (l<=i)&&decide (i<=m))) s
    cases decide (l<=i) with
    |true=>exact bnd (zB rfl) le_int
    |false=>rfl
   exact yW (aV (yX (zA (zB rfl) (zA lG zD)) e1) (Xg (yX (zA (zB rfl) (zA lG zD)) e2)) hc) (end' rfl)
 . cases ha
   exact yW (aU (yX (zA (zB rfl) (zA lG zD)) e1) (Xg (yX (zA (zB rfl) (zA lG zD)) e2))) (end' rfl)
 . rw[h1]at e1
   exact yW (k9 (yX (zA (zB rfl) (zA lG zD)) e1)) (end' (h2 _ _).symm)
theorem kX(c:fE Φ){vs:List Val}{l m:Int}(hk:∀v∈vs,kindOf v≠none):run T Φ F.yl [.tup vs,.int l,.int m] s=.ok (.bool (vs.all (ya l m))) s:=by
 rw[post_eq]
 simp[F.yl,EVl,zZ,zT]
 refine cq (fun e=>∃o,e=[o,some (.int l),some (.int m)]) (fun x=>[.bool (ya l m x)]) ?_
 simp[EVl,zZ,zT]
 refine⟨?_,?_⟩
 . intro x hx
   simp[EVl,zZ,zT,c x l m s (hk x hx)]
 . simp[newList,EVl,zZ,zT,blt,eW,yN,vO]
end
end M
end
section
namespace M
open PySem
noncomputable def tY(r:Nat × Nat):Val:=.tup [.int r.1,.int r.2]
theorem jq{lo:Int}{n:Nat}{x:Val}(h:x∈yK lo n):∃k:Nat,k<n/\x=.int (lo+k):=by
 unfold yK at h
 obtain⟨k,h1,rfl⟩:=Bi.mp h
 exact⟨k,AW.mp h1,rfl⟩
theorem pN:∀zs:List (Int × Int),pairsOf (zs.map prV)=some zs
 |[]=>rfl
 |z::zs=>by simp[pairsOf,prV,pN zs]
theorem jY(a b:Int):Dw (.int a) (.int b)=decide (a=b):=by
 by_cases h:a=b<;>simp[Dw,h]
theorem eq_int{a b:Int}{s:Sto}:zQ .eq (.int a) (.int b) s=.ok (.bool (decide (a=b))) s:=by
 simp[zQ,zj,yI,rW,Val.isD,Val.d,PyData.depth,jY]
theorem ne_int{a b:Int}{s:Sto}:zQ .ne (.int a) (.int b) s=.ok (.bool !(decide (a=b))) s:=by
 simp[zQ,zj,yI,rW,Val.isD,Val.d,PyData.depth,jY]
theorem WH{vs:List Val}{k:Nat}{v:Val}{s:Sto}(h:vs[k]?=some v):wU (.tup vs) (.int k) s=.ok v s:=by
 simp[wU,xI,L2.sV h]
theorem rn{ns:List Int}{k:Nat}{i:Int}{s:Sto}(h:ns[k]?=some i):wU (.tup (ns.map .int)) (.int k) s=.ok (.int i) s:=WH (by rw[AQ,h];rfl)
end M
end
section
namespace M
open PySem
theorem i9{ns:List Int}:∀v∈ns.map Val.int,kindOf v≠none:=fun v hv=>by
 obtain⟨i,_,rfl⟩:=Bi.mp hv
 simp[kindOf]
theorem rG{l m:Int}{ns:List Int}(h:∀x∈ns,l<=x/\x<=m):(ns.map Val.int).all (ya l m)=true:=by
 rw[AI]
 intro v hv
 obtain⟨i,hi,rfl⟩:=Bi.mp hv
 exact g9 (h i hi).1 (h i hi).2
noncomputable abbrev tpI(ns:List Int):Val:=.tup (ns.map .int)
section
variable {T:Tbl}{Φ:Calls}{s:Sto}
def qi(Φ:Calls):Prop:=∀(zs:List Int) (s:Sto),Sz zs->Φ "are_sizes" 0 [tpI zs] s=.ok (.bool true) s
def wq(Φ:Calls):Prop:=∀(zs:List Int) (s:Sto),Sz zs->Φ "need_sizes" 0 [tpI zs] s=.ok .none s
theorem qc(c:qi Φ){zs:List Int}(h:Sz zs):run T Φ F.yD [tpI zs] s=.ok .none s:=by
 rw[post_eq]
 simp[F.yD,EVl,zZ,zT,c zs s h]
end
end M
end
section
namespace M
open PySem
theorem ZK{α β:Type}(f:α->Bool)(g:α->β)(xs:List α):xs.flatMap (fun x=>if f x then [g x] else [])=(xs.filter f).map g:=by
 induction xs with
 |nil=>rfl
 |cons x xs ih=>
  rw[BP,ih]
  cases h:f x<;>simp[h]
section
variable {T:Tbl}{Φ:Calls}{s:Sto}
theorem fW{ns:List Int}{p:Nat}{i:Int}(h:ns[p]?=some i):p<ns.length:=(As.mp h).1
end
end M
end
section
namespace M
open PySem
noncomputable def Tz(a b:Int):Cel:=.lst [.int a,.int b]
def UO(s:Sto)(p:Nat):Prop:=∃a b,s[p]?=some (Tz a b)/\0<=b/\b<2147483629
def Yq(s:Sto)(p:Nat)(s':Sto):Prop:=∃a b,s'=s.set p (Tz a b)/\0<=b/\b<2147483629
theorem Yq.at_{s s':Sto}{p:Nat}(h:Yq s p s')(hp:p<s.length):UO s' p:=by
 obtain⟨a,b,rfl,h1⟩:=h
 exact⟨a,b,AR hp,h1⟩
theorem bmod{m:Bool}{i j:Int}{s:Sto}(h:0<j):binOp m .mod (.int i) (.int j) s=.ok (.int (i%j)) s:=by
 simp only[binOp];rw[if_pos h]
theorem bdiv{m:Bool}{i j:Int}{s:Sto}(h:0<j/\j<1073741824):binOp m .fdiv (.int i) (.int j) s=.ok (.int (i/j)) s:=by
 simp only[binOp];rw[if_pos h]
theorem WG{vs:List Val}{k:Nat}{v:Val}{s:Sto}(h:vs[k]?=some v):wU (.lst vs) (.int k) s=.ok v s:=by
 simp[wU,xI,L2.sV h]
theorem WI{vs:List Val}{i k:Nat}{v:Val}{s:Sto}(hs:s[i]?=some (.lst vs))(h:vs[k]?=some v):wU (.ref i) (.int k) s=.ok v s:=by
 simp[wU,xI,hs,L2.sV h]
section
variable {T:Tbl}{Φ:Calls}{s:Sto}
def Yo(Φ:Calls):Prop:=∀(ns:List Int) (k:Nat) (s:Sto),∃c,Φ "_law_cell_at" 0 [.scr ns,.int k] s=.ok (.int c) s
theorem bj(ns:List Int)(k:Nat):∃c,run T Φ F.z9 [.scr ns,.int k] s=.ok (.int c) s:=by
 by_cases h:k<ns.length
 . refine⟨ns[k],?_⟩
   rw[post_eq]
   have h':(k:Int)<ns.length:=by omega
   have e:(ns.map Val.int)[k]?=some (.int ns[k]):=by rw[AQ,Ae h];rfl
   have c1:wU (.scr ns) (.int k) s=.ok (.int ns[k]) s:=by simp[wU,xI,L2.sV e]
   simp[F.z9,EVl,zZ,zT,d8,lt_int,h',h,c1]
 . refine⟨0,?_⟩
   rw[post_eq]
   have h':¬(k:Int)<ns.length:=by omega
   simp[F.z9,EVl,zZ,zT,d8,lt_int,h',h]
end
end M
end
section
namespace M
open PySem
theorem hX{s:Sto}{vs:List Val}(h:zl vs=true):zp false s (.ref s.length) (s++[.lst vs])=.ok (.lst vs) s:=lh (Ag _) (by simp) h
theorem vm{s:Sto}{vs:List Val}{y:Val}(h:vs.length<zU):xF .append (.ref s.length) [y] (s++[.lst vs])=.ok .none (s++[.lst (vs++[y])]):=by
 simp[xF,h,upd]
section
variable {T:Tbl}{Φ:Calls}{s:Sto}
theorem YL(lo:Int)(n:Nat):(yK lo n).length=n:=by unfold yK;rw[Ai,BE]
def Xi(Φ:Calls):Prop:=∀(n z:Nat) (s:Sto),n<=40->2<=z->z<=8->Φ "_law_rows" 0 [.int n,.int z] s=.ok (.lst ((wR n z).map tY)) s
def aZ(Φ:Calls):Prop:=∀(r:Nat × Nat) (z:Nat) (s:Sto),z<=8->r.2<=1000->Φ "_law_places" 0 [tY r,.int z] s=.ok (.lst ((sq r.1 r.2 z).map .int)) s
theorem bb(lo:Int)(k:Nat):yK lo (k+1)=.int lo::yK (lo+1) k:=by
 unfold yK
 rw[El,AJ,C7]
 congr 1
 . simp
 . refine E8 fun j _=>?_
   show Val.int (lo+((j+1:Nat):Int))=Val.int (lo+1+(j:Int))
   congr 1;omega
theorem tW{lo:Int}{k:Nat}{x:Val}{rest:List Val}(h:x::rest=yK lo k):∃k',k=k'+1/\x=.int lo/\rest=yK (lo+1) k':=by
 cases k with
 |zero=>simp[yK]at h
 |succ k=>
  rw[bb]at h
  injection h with h1 h2
  exact⟨k,rfl,h1,h2⟩
theorem nE{lo:Int}{k:Nat}(h:[]=yK lo k):k=0:=by
 have:=congrArg CZ h
 rw[YL]at this
 exact this.symm
end
end M
end
section
namespace M
open PySem
theorem tM:∀ks:List Int,xO (ks.map .int)=true
 |[]=>by rw[DT,xO]
 |k::ks=>by rw[AJ,xO,tM ks,Val.isD];rfl
theorem eq_nil{vs:List Val}{s:Sto}(h:xO vs=true):zQ .eq (.lst vs) (.lst []) s=.ok (.bool vs.isEmpty) s:=by
 have h1:(Val.lst vs).isD=true:=by rw[Val.isD];exact h
 have h2:(Val.lst []).isD=true:=by rw[Val.isD,xO]
 have h3:(Val.lst []).d=.list []:=by rw[Val.d,ds]
 have h4:(Val.lst vs).d=.list (ds vs):=by rw[Val.d]
 have h5:Dw (.list (ds vs)) (.list [])=vs.isEmpty:=by
  cases vs with
  |nil=>rw[ds];rfl
  |cons v vs=>rw[ds];rfl
 simp only[zQ,zj,yI,rW,h1,h2,h3,h4,h5]
 rfl
noncomputable def X9(bad:Int->Bool):Val->List Val
 |.int x=>if bad x then [.int x] else []
 |_=>[]
theorem ZJ(bad:Int->Bool)(ks:List Int):(ks.map Val.int).flatMap (X9 bad)=(ks.filter bad).map .int:=by
 rw[Gk,<-ZK];rfl
end M
end
section
namespace M
open PySem
theorem gL{k w:Nat}{d:PyData}(L:L2.v9 k w d)(hk:k<=50)(hw:w<=300000)(hd:d.hasDict=false):qH d=true:=by
 have:=L.dp
 have:=L.wt
 unfold qH
 rw[L.sh,L.lf,hd,decide_eq_true (show d.depth<=50 by omega),decide_eq_true (show d.weight<=300000 by omega)]
 rfl
theorem mI:∀{n:Nat} {vs:List Val} {x:Val},x∈zt n vs->∃k v,vs[k]?=some v/\x=.tup [.int ((n+k:Nat):Int),v]
 |_,[],_,h=>by cases h
 |n,v::vs,x,h=>by
  rw[zt]at h
  rcases Al.mp h with e|h
  . exact⟨0,v,rfl,e⟩
  . obtain⟨k,w,h1,h2⟩:=mI h
    refine⟨k+1,w,by simpa using h1,?_⟩
    rw[h2]
    congr 3;omega
theorem max2{m:Bool}{i j:Int}{s:Sto}:blt .max m [.int i,.int j] s=.ok (.int (if j > i then j else i)) s:=rfl
theorem min2{m:Bool}{i j:Int}{s:Sto}:blt .min m [.int i,.int j] s=.ok (.int (if j<i then j else i)) s:=rfl
theorem eU{Φ:Calls}{G:Str->Option Val}{env:Env}{s:Sto}{ns:List Int}{K:Nat}(h0:env[0]?=some (some (.scr ns)))(hK:K<=100) :
 xB Φ G env (.range1 (.blt .max false (.cons (.lit (.int 1)) (.cons (.blt .min false (.cons (.blt .len false (.cons (.var 0) .nil)) (.cons (.lit (.int K)) .nil))) .nil)))) s=.ok ⟨yK 0 (max 1 (min ns.length K)),none⟩ s:=by
 rw[post_eq]
 simp only[EVl,zZ,zT]
 refine⟨_,h0,?_⟩
 rw[d8];simp only[zC]
 rw[min2];simp only[zC]
 rw[max2];simp only[zC]
 have e:(if (if (K:Int)<(ns.length:Int) then (K:Int) else (ns.length:Int)) > 1 then (if (K:Int)<(ns.length:Int) then (K:Int) else (ns.length:Int)) else 1)=((max 1 (min ns.length K):Nat):Int):=by
  split<;>split<;>omega
 rw[e]
 refine⟨_,rfl,⟨by omega,by unfold zU;omega⟩,?_⟩
 simp
end M
end
section
namespace M
open PySem
section
variable {T:Tbl}{Φ:Calls}{s:Sto}
theorem ZU{v:Val}{vs:List Val}{s:Sto}:wU (.lst (v::vs)) (.int 0) s=.ok v s:=by
 simp[wU,xI,L2.atI,L2.ixN]
end
end M
end
section
namespace M
open L2
noncomputable def rD(ns:List Int)(f d z:Nat)(h:Int):Bool:=(AE z).all fun k=>decide (ns[f+k*d]?=some h)
theorem rE{ns:List Int}{f d z:Nat}{h:Int}:rD ns f d z h=true↔∀k<z,ns[f+k*d]?=some h:=by
 unfold rD
 rw[AI]
 exact⟨fun H k hk=>of_decide_eq_true (H k (AW.mpr hk)),fun H k hk=>decide_eq_true (H k (AW.mp hk))⟩
noncomputable def yj(zs ns:List Int):List (Nat × Nat):=(AE zs.length).flatMap fun h=>(wR ns.length (zO zs h)).filter fun r=>rD ns r.1 r.2 (zO zs h) h
theorem ny{α β:Type}{f:α->List β}{b:Nat}:∀l:List α,(∀a∈l,(f a).length<=b)->(l.flatMap f).length<=l.length*b
 |[],_=>A9 _
 |a::l,h=>by
  rw[BP,Ap,Ar,DS,Nat.add_comm]
  exact Nat.add_le_add (ny l fun x hx=>h x (.tail _ hx)) (h a (.head _))
theorem fA{zs ns:List Int}(hz:Sz zs)(hn:ns.length<=40):(yj zs ns).length<=3200/\((yj zs ns).map toI).Nodup/\∀x∈(yj zs ns).map toI,0<=x.2/\x.2<1000:=by
 refine⟨?_,?_,fun x hx=>?_⟩
 . have:=ny (f:=fun h=>(wR ns.length (zO zs h)).filter fun r=>rD ns r.1 r.2 (zO zs h) h) (b:=800) (AE zs.length) fun h _=>Ax (Ca _ _) (bh hn)
   rw[BE]at this
   have h4:=hz.2.1
   unfold yj
   omega
 . rw[List.nodup_iff_pairwise_ne,Cq]
   unfold yj
   rw[EK]
   refine⟨fun h _=>?_,?_⟩
   . refine List.Pairwise.filter _ ?_
     have:=kP (n:=ns.length) (z:=zO zs h) hn
     rw[Cq]at this
     exact this.imp fun w e=>by rw[e]at w;omega
   . refine List.Pairwise.imp_of_mem (R:=fun a b=>a<b) (fun{a b} ha hb w x hx y hy e=>?_) Dh
     have hx:=(B0.mp hx).2
     have hy:=(B0.mp hy).2
     have exy:x=y:=by
      unfold toI at e
      injection e with e1 e2
      exact Et (Int.ofNat_inj.mp e1) (Int.ofNat_inj.mp e2)
     subst exy
     have z1:=(xb hz (AW.mp ha)).2.1
     have z2:=(xb hz (AW.mp hb)).2.1
     have q1:=rE.mp hx 0 (by omega)
     have q2:=rE.mp hy 0 (by omega)
     rw[q1]at q2
     injection q2 with q2
     omega
 . obtain⟨r,hr,rfl⟩:=Bi.mp hx
   obtain⟨h,hh,hr⟩:=Dx.mp hr
   have hr:=(B0.mp hr).1
   have z2:=(xb hz (AW.mp hh)).2.1
   have:=pI z2 hr
   have:r.2*1<=r.2*(zO zs h-1):=E5 _ (by omega)
   unfold toI
   dsimp only
   omega
end M
end
section
namespace F
open PySem M
noncomputable def zk:Fn:=⟨["_law_sizes_here","_law_draft","_law_found","_law_hue","_law_size","_law_row"],["_law_sizes_here","_law_draft"],false,(.cons (.asg 2 (.lst true .nil)) (.cons (.forS (.nms [3,4]) (.enum (.var 0)) (.cons (.forS (.nm 5) (.val (.call "_law_rows" 0 (.cons (.blt .len false (.cons (.var 1) .nil)) (.cons (.var 4) .nil)))) (.cons (.ifS (.val (.cmp .eq (.comp false ["_law_place","_law_hue","_law_draft"] [none,some 3,some 1] (.var 0) (.nm 0) (.val (.call "_law_places" 0 (.cons (.var 5) (.cons (.var 4) .nil)))) (.cons (.val (.cmp .ne (.ix (.var 2) (.var 0)) (.var 1))) .nil)) (.lst false .nil))) (.cons (.expr (.xF .append false (.var 2) (.cons (.var 5) .nil))) .nil) .nil) .nil)) .nil)) (.cons (.ret (.blt .sorted false (.cons (.var 2) .nil))) .nil)))⟩
noncomputable def zr:Fn:=⟨["sizes","hues","place","hue"],["sizes","hues"],false,(.cons (.forS (.nms [2,3]) (.enum (.var 1)) (.cons (.ifS (.val (.cmp .ge (.var 3) (.blt .len false (.cons (.var 0) .nil)))) (.cons (.ret (.var 2)) .nil) .nil) .nil)) (.cons (.ret (.lit .none)) .nil))⟩
noncomputable def xJ:Fn:=⟨["thing"],["thing"],false,(.cons (.ret (.andE (.blt .isi false (.cons (.var 0) (.cons (.ty "tuple" "tuple") .nil))) (.cons (.cmp .le (.blt .len false (.cons (.var 0) .nil)) (.gl "MOST_PLACES")) (.cons (.call "are_wholes" 0 (.cons (.var 0) (.cons (.ix (.gl "HUES") (.lit (.int 0))) (.cons (.ix (.gl "HUES") (.neg (.lit (.int 1)))) .nil)))) .nil)))) .nil)⟩
end F
end
section
namespace M
open PySem
structure Gl4(T:Tbl):Prop where
 mp:T.gl "MOST_PLACES"=some (.int 40)
 ls:T.gl "LEAST_SIZE"=some (.int 2)
 ms:T.gl "MOST_SIZE"=some (.int 8)
 hu:T.gl "HUES"=some (.ctup [0,1,2,3])
section
variable {T:Tbl}{Φ:Calls}{s:Sto}
theorem vp{ns:List Int}{x:Val}(h:x∈zt 0 (ns.map .int)):∃k i,ns[k]?=some i/\x=.tup [.int (k:Nat),.int i]:=by
 obtain⟨k,v,h1,rfl⟩:=mI h
 rw[AQ]at h1
 obtain⟨j,h2,rfl⟩:=A6.mp h1
 exact⟨k,j,h2,by rw[Dq]⟩
end
end M
end
section
namespace M
open PySem
theorem bO{ns:List Int}(hn:ns.length<41):L2.zw ns (L2.yT ns.length none none (-1)).1 (-1) (L2.yT ns.length none none (-1)).2=ns.reverse:=by
 have hc:∀n:Nat,n<41->L2.yT n none none (-1)=((n:Int)-1,n):=by decide +kernel
 rw[hc _ hn]
 unfold L2.zw
 dsimp only
 rw[eY (g:=fun k=>ns.getD (ns.length-1-k) 0)]
 . refine FX fun i=>?_
   by_cases hi:i<ns.length
   . rw[AQ,E7 hi,List.getElem?_reverse hi,DH,Aw,Ae (by omega)];rfl
   . rw[B9 (by simp;omega),B9 (by simp;omega)]
 . intro k hk
   have hk:=AW.mp hk
   have:((ns.length:Int)-1+(k:Int)*-1).toNat=ns.length-1-k:=by omega
   rw[this,Aw,Ae (by omega)];rfl
end M
end
section
namespace M
open PySem
theorem ne_nil{vs:List Val}{s:Sto}(h:xO vs=true):zQ .ne (.lst vs) (.lst []) s=.ok (.bool !vs.isEmpty) s:=by
 have h1:(Val.lst vs).isD=true:=by rw[Val.isD];exact h
 have h2:(Val.lst []).isD=true:=by rw[Val.isD,xO]
 have h3:(Val.lst []).d=.list []:=by rw[Val.d,ds]
 have h4:(Val.lst vs).d=.list (ds vs):=by rw[Val.d]
 have h5:Dw (.list (ds vs)) (.list [])=vs.isEmpty:=by
  cases vs with
  |nil=>rw[ds];rfl
  |cons v vs=>rw[ds];rfl
 simp only[zQ,zj,yI,rW,h1,h2,h3,h4,h5]
 rfl
section
variable {T:Tbl}{Φ:Calls}{s:Sto}
def ph(Φ:Calls):Prop:=∀(zs ns:List Int) (s:Sto),Sz zs->ns.length<=40->Φ "_law_wrong" 0 [tpI zs,tpI ns] s=.ok (.lst ((m5 ((yj zs ns).map toI)).map prV)) s
noncomputable def vE(ns:List Int)(z:Nat)(h:Nat):List (Nat × Nat):=(wR ns.length z).filter fun r=>rD ns r.1 r.2 z h
theorem kI{ns:List Int}{r:Nat × Nat}{z h:Nat}:(((sq r.1 r.2 z).filter fun x=>!decide (ns[x.toNat]?=some (h:Int))).map Val.int).isEmpty=rD ns r.1 r.2 z h:=by
 rw[Ci,AY,E9,List.filter_eq_nil_iff,rE]
 unfold sq
 constructor
 . intro H k hk
   have:=H _ (Bi.mpr ⟨k,AW.mpr hk,rfl⟩)
   rw[Bk]at this
   simpa using this
 . intro H x hx
   obtain⟨k,hk,rfl⟩:=Bi.mp hx
   have:=H k (AW.mp hk)
   rw[Bk]
   simpa using this
theorem qN(cR:Xi Φ)(cP:aZ Φ){zs ns:List Int}(hz:Sz zs)(hn:ns.length<=40):run T Φ F.zk [tpI zs,tpI ns] s=.ok (.lst ((m5 ((yj zs ns).map toI)).map prV)) s:=by
 rw[post_eq]
 have hwr:yj zs ns=(AE zs.length).flatMap fun h=>vE ns (zO zs h) h:=rfl
 obtain⟨hlen,ok⟩:=fA hz hn
 simp[F.zk,EVl,zZ,zT,M.newList,zU]
 refine xk (fun rest e s'=>∃done todo o3 o4 o5,done++todo=AE zs.length/\rest=todo.map (fun(h:Nat)=>Val.tup [.int h,.int (zO zs h)])/\e=[some (tpI zs),some (tpI ns),some (.ref s.length),o3,o4,o5]/\s'=s++[.lst ((done.flatMap fun h=>vE ns (zO zs h) h).map tY)]) (zt 0 (zs.map .int)) (s1:=s++[.lst []]) ?_ ⟨[],AE zs.length,_,_,_,rfl,?_,rfl,rfl⟩ ?_ ?_
 . rw[post_eq]
   simp[EVl,zZ,zT]
 . refine FX fun i=>?_
   rw[vo,AQ,AQ]
   by_cases hi:i<zs.length
   . rw[E7 hi,(xb hz hi).1];simp
   . rw[B9 (by omega),B9 (by rw[BE];omega)];rfl
 . rintro x rest e s' ⟨done,todo,o3,o4,o5,hd,hr,rfl,rfl⟩
   cases todo with
   |nil=>cases hr
   |cons h todo=>
    rw[AJ]at hr
    injection hr with hx hr
    subst hx
    have hh:h<zs.length:=AW.mp (by rw[<-hd];simp)
    obtain⟨z1,z2,z3⟩:=xb hz hh
    refine⟨[some (tpI zs),some (tpI ns),some (.ref s.length),some (.int h),some (.int (zO zs h)),o5],rfl,?_⟩
    have hsub:∀pre post:List (Nat × Nat),pre++post=vE ns (zO zs h) h->((done.flatMap fun h=>vE ns (zO zs h) h)++pre).length<=3200:=fun pre post e=>by
     have:yj zs ns=(done.flatMap fun h=>vE ns (zO zs h) h)++(pre++post++todo.flatMap fun h=>vE ns (zO zs h) h):=by
      rw[hwr,<-hd,Cw,BP,e]
     rw[this]at hlen
     simp only[Ap]at hlen ⊢
     omega
    generalize hb:(done.flatMap fun h=>vE ns (zO zs h) h)=base at *
    simp[EVl,zZ,zT]
    refine xk (fun rest2 e s'=>∃dn td o5,dn++td=wR ns.length (zO zs h)/\rest2=td.map tY/\e=[some (tpI zs),some (tpI ns),some (.ref s.length),some (.int h),some (.int (zO zs h)),o5]/\s'=s++[.lst ((base++dn.filter fun r=>rD ns r.1 r.2 (zO zs h) h).map tY)]) ((wR ns.length (zO zs h)).map tY) (s1:=s++[.lst (base.map tY)]) ?_ ⟨[],_,_,rfl,rfl,rfl,by simp⟩ ?_ ?_
    . have c1:=cR ns.length (zO zs h) (s++[.lst (base.map tY)]) hn z2 z3
      rw[post_eq]
      simp[EVl,zZ,zT,ug,c1]
    . rintro x rest2 e s' ⟨dn,td,o5,hd2,hr2,rfl,rfl⟩
      cases td with
      |nil=>cases hr2
      |cons r td=>
       rw[AJ]at hr2
       injection hr2 with hx hr2
       subst hx
       have hmem:r∈wR ns.length (zO zs h):=by rw[<-hd2];simp
       have hr3:=pI z2 hmem
       have hle:r.2<=1000:=by
        have:r.2*1<=r.2*(zO zs h-1):=E5 _ (by omega)
        omega
       refine⟨_,rfl,?_⟩
       generalize hS:s++[Cel.lst ((base++dn.filter fun r=>rD ns r.1 r.2 (zO zs h) h).map tY)]=S at *
       have c3:=cP r (zO zs h) S z3 hle
       simp[EVl,zZ,zT]
       refine uj (fun e=>∃o,e=[o,some (.int h),some (tpI ns)]) (X9 fun x=>!decide (ns[x.toNat]?=some (h:Int))) ((sq r.1 r.2 (zO zs h)).map .int) (s1:=S) ?_ ⟨_,rfl⟩ ?_ ?_
       . rw[post_eq]
         simp[EVl,zZ,zT,c3]
       . rintro x hx e ⟨o,rfl⟩
         obtain⟨i,hi,rfl⟩:=Bi.mp hx
         obtain⟨k,hk,rfl⟩:=Bi.mp hi
         have hk:=AW.mp hk
         have hbd:r.1+k*r.2<ns.length:=by
          have:k*r.2<=(zO zs h-1)*r.2:=Du _ (by omega)
          have e:=Nat.mul_comm (zO zs h-1) r.2
          omega
         have c4:=rn (s:=S) (Ae hbd)
         refine⟨_,rfl,⟨_,rfl⟩,?_⟩
         simp only[EVl,zZ,zT]
         refine⟨_,rfl,_,rfl,?_⟩
         rw[c4]
         simp only[zC]
         refine⟨_,rfl,?_⟩
         simp only[zC,ne_int,zc,X9,Bk,Ae hbd]
         by_cases h5:ns[r.1+k*r.2]=(h:Int)<;>simp[h5,EVl,zZ,zT]
       . rw[ZJ]
         simp only[M.newList,EVl,zZ,zT,AV,if_false]
         rw[eq_nil (tM _),kI]
         simp only[zC,zc]
         have hpost:∀pre,dn.filter (fun r=>rD ns r.1 r.2 (zO zs h) h)=pre->(base++pre).length<=3200:=fun pre e=>hsub pre ((r::td).filter fun r=>rD ns r.1 r.2 (zO zs h) h) (by rw[<-e,<-Dd,hd2];rfl)
         have hl64:=hpost _ rfl
         cases ha:rD ns r.1 r.2 (zO zs h) h with
         |false=>
          refine .inl ⟨rfl,dn++[r],td,by rw[<-hd2];simp,hr2,?_⟩
          rw[<-hS,Dd];simp[ha]
         |true=>
          refine .inr ⟨rfl,?_⟩
          rw[<-hS,vm (by rw[Ai];unfold zU;omega)]
          simp only[zC]
          refine⟨dn++[r],td,by rw[<-hd2];simp,hr2,?_⟩
          rw[Dd];simp[ha]
    . rintro e s' ⟨dn,td,o5,hd2,hr2,rfl,rfl⟩
      have ht:td=[]:=by cases td with|nil=>rfl|cons _ _=>cases hr2
      subst ht
      rw[AZ]at hd2
      simp only[EVl,zZ,zT]
      refine⟨done++[h],todo,by rw[<-hd];simp,hr,?_⟩
      rw[Cw,hb,hd2];simp[vE]
 . rintro e s' ⟨done,todo,o3,o4,o5,hd,hr,rfl,rfl⟩
   have ht:todo=[]:=by cases todo with|nil=>rfl|cons _ _=>cases hr
   subst ht
   rw[AZ]at hd
   have hw:(done.flatMap fun h=>vE ns (zO zs h) h)=yj zs ns:=by rw[hwr,hd]
   rw[hw]
   have e1:(yj zs ns).map tY=((yj zs ns).map toI).map prV:=by rw[C7];rfl
   have hsrt:blt .sorted false [.ref s.length] (s++[.lst ((yj zs ns).map tY)])=.ok (.lst ((m5 ((yj zs ns).map toI)).map prV)) (s++[.lst ((yj zs ns).map tY)]):=by
    have e2:yN (s++[.lst ((yj zs ns).map tY)]) (.ref s.length)=some (((yj zs ns).map toI).map prV):=by
     rw[<-e1];simp[yN]
    simp only[blt,e2,pN]
    rw[if_pos ok]
    rfl
   simp only[EVl,zZ,zT]
   refine⟨_,rfl,?_⟩
   rw[hsrt]
   simp only[zC]
   rw[wz (by rw[lz];exact uG _)]
   exact zC.mpr ⟨rfl,rfl⟩
end
end M
end
section
namespace M
open PySem
section
variable {T:Tbl}{Φ:Calls}{s:Sto}
theorem oQ:∀ns:List Int,intsOf (ns.map .int)=some ns
 |[]=>rfl
 |n::ns=>by show (intsOf (ns.map .int)).map _=_;rw[oQ ns];rfl
end
end M
end
section
namespace M
open PySem
noncomputable def endOf(ms:List Int)(st:List (Nat × Nat)):List Int:=st.foldl (fun ms q=>putL ms q.1 q.2) ms
noncomputable def SO(zs:List Int):List Int->List (Nat × Nat)->Prop
 |_,[]=>True
 |ms,(p,h)::st=>ms[p]?=some (-1)/\TX zs ms p=[h]/\SO zs (putL ms p h) st
theorem SO.append{zs:List Int}:∀{st st':List (Nat × Nat)} {ms:List Int},SO zs ms st->SO zs (endOf ms st) st'->SO zs ms (st++st')
 |[],_,_,_,h=>h
 |(p,h)::st,st',ms,⟨a,b,c⟩,d=>⟨a,b,SO.append c d⟩
end M
end
section
namespace M
open PySem
structure Th(k w:Nat)(v:Val):Prop where
 nr:v.noRef=true
 kd:kindOf v≠none
 r:v.isR=true
 lf:L2.v9 k w v.d
 nd:v.d.hasDict=false
 dr:∀s,yI s v=v
theorem Th.mono{k w k' w':Nat}{v:Val}(h:Th k w v)(h1:k<=k')(h2:w<=w'):Th k' w' v:=⟨h.nr,h.kd,h.r,h.lf.mono h1 h2,h.nd,h.dr⟩
theorem nM{i:Int}(h1:-(10 ^ 30)<i)(h2:i<10 ^ 30):Th 0 100 (.int i):=⟨wC,nofun,by rw[Val.isR],by rw[Val.d];exact L2.cE h1 h2,by rw[Val.d];rfl,fun _=>rfl⟩
theorem Yb(b:Bool):Th 0 100 (.bool b):=⟨xU,nofun,by rw[Val.isR],by rw[Val.d];exact(L2.hU b).mono (Ag _) (A9 _),by rw[Val.d];rfl,fun _=>rfl⟩
theorem Yc:Th 0 100 .none:=⟨vv,nofun,by rw[Val.isR],by rw[Val.d];exact L2.hV.mono (Ag _) (A9 _),by rw[Val.d];rfl,fun _=>rfl⟩
theorem V8{x:Str}(h1:∀c∈x.cps.toList,c<16 ^ 8)(h2:x.cps.size<=100):Th 0 100 (.str x):=⟨qF,nofun,by rw[Val.isR],by rw[Val.d];exact L2.cG h1 h2,by rw[Val.d];rfl,fun _=>rfl⟩
theorem ths{k w:Nat}:∀{vs:List Val},(∀v∈vs,Th k w v)->zl vs=true/\sQ vs=true/\(ds vs).length=vs.length/\∀d∈ds vs,L2.v9 k w d/\d.hasDict=false
 |[],_=>⟨w8,by rw[sQ],by rw[ds];rfl,fun d h=>by rw[ds]at h;cases h⟩
 |v::vs,h=>by
  obtain⟨a,b,c,e⟩:=ths fun x hx=>h x (.tail _ hx)
  have t:=h v (.head _)
  refine⟨by rw[yG,t.nr,a];rfl,by rw[sQ,t.r,b];rfl,by rw[ds,Ar,Ar,c],fun d hd=>?_⟩
  rw[ds]at hd
  rcases Al.mp hd with rfl|hd
  . exact⟨t.lf,t.nd⟩
  . exact e d hd
theorem km{k w n:Nat}{vs:List Val}(h:∀v∈vs,Th k w v)(hn:vs.length<=n):Th (k+1) (n*(w+1)) (.tup vs):=by
 obtain⟨a,b,c,e⟩:=ths h
 refine⟨by rw[tQ];exact a,nofun,by rw[Val.isR];exact b,by rw[Val.d];exact L2.lg (fun d hd=>(e d hd).1) (by rw[c];exact hn),?_,fun _=>rfl⟩
 rw[Val.d,PyData.hasDict]
 exact L2.pM fun d hd=>(e d hd).2
theorem sX{α:Type}{xs:List α}{lo hi:Option Int}:(xM xs lo hi).length<=xs.length:=by
 unfold xM
 rw[Cy,Ey]
 omega
theorem uW{α:Type}{xs:List α}{lo hi:Option Int}{x:α}(h:x∈xM xs lo hi):x∈xs:=by
 unfold xM at h
 exact List.mem_of_mem_drop (E1 h)
end M
end
section
namespace M
open PySem
section
variable {Φ:Calls}{G:Str->Option Val}{env:Env}{s s1 s2 s3 s4:Sto}
noncomputable def Vt(f:Nat->Int):Val->List Val
 |.int k=>[.int (f k.toNat)]
 |_=>[]
theorem bc{f:Nat->Int}{n:Nat}:(yK 0 n).flatMap (Vt f)=((AE n).map f).map .int:=by
 unfold yK
 rw[Gk,C7]
 have:(fun(k:Nat)=>Vt f (.int (0+(k:Int))))=fun k=>[(Val.int∘f) k]:=by
  funext k
  show [Val.int (f (0+(k:Int)).toNat)]=_
  rw[Int.zero_add,Bk];rfl
 rw[this,eW]
theorem Xh{N:List Str}{fr:List (Option Nat)}{elt:Ex}{it:Itb}{n:Nat}{f:Nat->Int}{e0:Env}(hi:xB Φ G env it s=.ok ⟨yK 0 n,none⟩ s)(h0:zT fr env=none::e0)(h:∀(k:Nat) (o:Option Val),k<n->evE Φ G (some (.int k)::e0) elt s=.ok (.int (f k)) s)(hl:n<=zU):evE Φ G env (.comp false N fr elt (.nm 0) it .nil) s=.ok (.lst (((AE n).map f).map .int)) s:=by
 rw[post_eq]
 refine uj (fun e=>∃o,e=o::e0) (Vt f) (yK 0 n) (s1:=s) hi ⟨none,h0⟩ ?_ ?_
 . rintro x hx e ⟨o,rfl⟩
   obtain⟨k,hk,rfl⟩:=jq hx
   refine⟨_,rfl,⟨_,rfl⟩,uk.mpr ⟨rfl,?_⟩⟩
   rw[if_pos rfl,Int.zero_add]
   show (evE Φ G (some (.int (k:Int))::e0) elt s).post _
   rw[h k none hk]
   refine zC.mpr ⟨rfl,?_⟩
   show [Val.int (f (k:Int).toNat)]=_
   rw[Bk]
 . rw[bc]
   exact zC.mpr ⟨rfl,rfl⟩
end
theorem aw{α β:Type}{f:α->β}{xs:List α}{lo hi:Option Int}:xM (xs.map f) lo hi=(xM xs lo hi).map f:=by
 unfold xM
 rw[Ai,List.map_take,List.map_drop]
theorem nG{m:Bool}{ns:List Int}{lo hi:Option Int}{s:Sto}:tq m (tpI ns) lo hi none s=.ok (tpI (xM ns lo hi)) s:=by
 show Out.ok (Val.tup (xM (ns.map .int) lo hi)) s=_
 rw[aw]
end M
end
section
namespace M
open PySem
noncomputable def aB(zs:List Int):Val->List Val
 |.tup [.int i,.int h]=>if (zs.length:Int)<=h then [.int i] else []
 |_=>[]
noncomputable def tw(zs ns:List Int):List Val:=(zt 0 (ns.map .int)).flatMap (aB zs)
theorem sx{zs ns:List Int}{v:Val}(h:v∈tw zs ns):∃k:Nat,v=.int k/\k<ns.length:=by
 obtain⟨x,hx,hv⟩:=Dx.mp h
 obtain⟨k,i,hk,rfl⟩:=vp hx
 have hv:v∈if (zs.length:Int)<=i then [Val.int (k:Nat)] else []:=hv
 by_cases hi:(zs.length:Int)<=i
 . rw[if_pos hi]at hv
   exact⟨k,Aq.mp hv,fW hk⟩
 . rw[if_neg hi]at hv;cases hv
noncomputable def qZ(zs ns:List Int):Val:=match tw zs ns with
 |[]=>.none
 |v::_=>v
section
variable {T:Tbl}{Φ:Calls}{s:Sto}
def lJ(Φ:Calls):Prop:=∀(zs ns:List Int) (s:Sto),Φ "first_hue_wrong" 0 [tpI zs,tpI ns] s=.ok (qZ zs ns) s
theorem gg{zs ns:List Int}:run T Φ F.zr [tpI zs,tpI ns] s=.ok (qZ zs ns) s:=by
 have hl:blt .len false [tpI zs] s=.ok (.int zs.length) s:=by rw[ug,Ai]
 rw[post_eq,F.zr,xX]
 refine⟨rfl,?_⟩
 show (zY Φ T.gl [some (tpI zs),some (tpI ns),none,none] _ s).post _
 refine zv.mpr (xk (fun rest e s'=>s'=s/\(∃o2 o3,e=[some (tpI zs),some (tpI ns),o2,o3])/\(∀x∈rest,x∈zt 0 (ns.map .int))/\tw zs ns=rest.flatMap (aB zs)) (zt 0 (ns.map .int)) (s1:=s) (sZ (zB rfl)) ⟨rfl,⟨_,_,rfl⟩,fun x hx=>hx,rfl⟩ ?_ ?_)
 . rintro x rest e s' ⟨rfl,⟨o2,o3,rfl⟩,hr,hS⟩
   obtain⟨k,i,hk,rfl⟩:=vp (hr x (.head _))
   have hr':∀x∈rest,x∈zt 0 (ns.map .int):=fun x hx=>hr x (.tail _ hx)
   refine⟨_,rfl,?_⟩
   rw[BP,show aB zs (.tup [.int (k:Nat),.int i])=if (zs.length:Int)<=i then [Val.int (k:Nat)] else [] from rfl]at hS
   by_cases hn:(zs.length:Int)<=i
   . rw[if_pos hn]at hS
     have:qZ zs ns=.int (k:Nat):=by unfold qZ;rw[hS];rfl
     refine qO (yc (yQ (zB rfl) (yX (zA (zB rfl) zD) hl) ge_int) (by rw[zc,decide_eq_true hn])) (yW (zB rfl) ?_)
     rw[this]
     show (zp false s' _ s').post _
     rw[xP wC]
     exact zC.mpr ⟨rfl,rfl⟩
   . rw[if_neg hn]at hS
     exact vI (yc (yQ (zB rfl) (yX (zA (zB rfl) zD) hl) ge_int) (by rw[zc,decide_eq_false hn])) (wG ⟨rfl,⟨_,_,rfl⟩,hr',hS⟩)
 . rintro e s' ⟨rfl,⟨o2,o3,rfl⟩,_,hS⟩
   have:qZ zs ns=.none:=by unfold qZ;rw[hS];rfl
   refine yW zK ?_
   rw[this]
   show (zp false s' _ s').post _
   rw[xP vv]
   exact zC.mpr ⟨rfl,rfl⟩
def lM(ns:List Int):Prop:=ns.length<=40/\∀x∈ns,0<=x/\x<=3
def qj(Φ:Calls):Prop:=∀(ns:List Int) (s:Sto),lM ns->Φ "is_strip" 0 [tpI ns] s=.ok (.bool true) s
noncomputable def yt:Val->Bool
 |.tup vs=>(decide (1<=vs.length)&&decide (vs.length<=4))&&vs.all (ya 2 8)
 |_=>false
def pj(Φ:Calls):Prop:=∀(v:Val) (s:Sto),kindOf v≠none->(∀vs,v=.tup vs->∀w∈vs,kindOf w≠none)->Φ "are_sizes" 0 [v] s=.ok (.bool (yt v)) s
theorem b7{v:Val}(h:∀vs,v≠.tup vs):yt v=false:=by
 cases v with
 |tup vs=>exact absurd rfl (h vs)
 |_=>rfl
theorem kT(g:Gl4 T)(c:pq Φ){v:Val}(hk:kindOf v≠none)(hks:∀vs,v=.tup vs->∀w∈vs,kindOf w≠none):run T Φ F.yC [v] s=.ok (.bool (yt v)) s:=by
 rw[post_eq]
 obtain⟨a,ha⟩:=oX hk
 rcases dw ha with⟨vs,rfl⟩|hn
 . have c2:=c vs 2 8 s (hks vs rfl)
   by_cases h1:1<=vs.length
   . have h1':(1:Int)<=(vs.length:Int):=by omega
     by_cases h4:vs.length<=4
     . have h4':(vs.length:Int)<=4:=by omega
       simp[F.yC,EVl,zZ,zT,oS,ug,d7,g.hu,g.ls,g.ms,le_int,c2,h1',h4',yt,h1,h4]
     . have h4':¬(vs.length:Int)<=4:=by omega
       simp[F.yC,EVl,zZ,zT,oS,ug,d7,g.hu,le_int,h1',h4',yt,h1,h4]
   . have h1':¬(1:Int)<=(vs.length:Int):=by omega
     simp[F.yC,EVl,zZ,zT,oS,ug,le_int,h1',yt,h1]
 . have e1:=oR (m:=false) (s:=s) ha (show vT "tuple"=some .tup from rfl)
   rw[hn]at e1
   have e2:=b7 (v:=v) fun vs e=>by rw[e]at ha;cases ha;cases hn
   simp[F.yC,EVl,zZ,zT,e1,e2]
end
end M
end
section
namespace F28
open PySem M
noncomputable def zk:Fn:=⟨["_law_sizes_here","_law_draft_here","_law_found","_law_hue","_law_size","_law_row"],["_law_sizes_here","_law_draft_here"],false,(.cons (.asg 2 (.lst true .nil)) (.cons (.forS (.nms [3,4]) (.enum (.var 0)) (.cons (.forS (.nm 5) (.val (.call "_law_rows" 0 (.cons (.blt .len false (.cons (.var 1) .nil)) (.cons (.var 4) .nil)))) (.cons (.ifS (.val (.cmp .eq (.comp false ["_law_place","_law_hue","_law_draft_here"] [none,some 3,some 1] (.var 0) (.nm 0) (.val (.call "_law_places" 0 (.cons (.var 5) (.cons (.var 4) .nil)))) (.cons (.val (.cmp .ne (.ix (.var 2) (.var 0)) (.var 1))) .nil)) (.lst false .nil))) (.cons (.expr (.xF .append false (.var 2) (.cons (.var 5) .nil))) .nil) .nil) .nil)) .nil)) (.cons (.ret (.blt .sorted false (.cons (.var 2) .nil))) .nil)))⟩
end F28
end
section
namespace M
open PySem
noncomputable def vd:Val->Bool
 |.tup vs=>decide (vs.length<=40)&&vs.all (ya 0 3)
 |_=>false
theorem aC{v:Val}(h:∀vs,v≠.tup vs):vd v=false:=by
 cases v with
 |tup vs=>exact absurd rfl (h vs)
 |_=>rfl
theorem aD{t:List Int}(h:lM t):vd (tpI t)=true:=by
 show (decide ((t.map Val.int).length<=40)&&(t.map Val.int).all (ya 0 3))=true
 rw[Ai,decide_eq_true h.1,rG h.2];rfl
end M
end
section
namespace F31
open PySem M
noncomputable def zk:Fn:=⟨["_law_sizes","_law_draft","_law_found","_law_hue","_law_size","_law_row"],["_law_sizes","_law_draft"],false,(.cons (.asg 2 (.lst true .nil)) (.cons (.forS (.nms [3,4]) (.enum (.var 0)) (.cons (.forS (.nm 5) (.val (.call "_law_rows" 0 (.cons (.blt .len false (.cons (.var 1) .nil)) (.cons (.var 4) .nil)))) (.cons (.ifS (.val (.cmp .eq (.comp false ["_law_place","_law_hue","_law_draft"] [none,some 3,some 1] (.var 0) (.nm 0) (.val (.call "_law_places" 0 (.cons (.var 5) (.cons (.var 4) .nil)))) (.cons (.val (.cmp .ne (.ix (.var 2) (.var 0)) (.var 1))) .nil)) (.lst false .nil))) (.cons (.expr (.xF .append false (.var 2) (.cons (.var 5) .nil))) .nil) .nil) .nil)) .nil)) (.cons (.ret (.blt .sorted false (.cons (.var 2) .nil))) .nil)))⟩
end F31
end
section
namespace F75
open PySem M
noncomputable def yd:Fn:=⟨["_law_pen_here","_law_bound","_law_found","_law_stir"],["_law_pen_here","_law_bound"],false,(.cons (.ifS (.and (.val (.cmp .eq (.ix (.var 0) (.lit (.int 1))) (.lit (.int 1)))) (.cons (.val (.cmp .gt (.ix (.var 0) (.lit (.int 0))) (.lit (.int 0)))) .nil)) (.cons (.asg 2 (.bin false .mod (.ix (.var 0) (.lit (.int 0))) (.var 1))) (.cons (.setIx (.var 0) (.lit (.int 0)) (.bin false .fdiv (.ix (.var 0) (.lit (.int 0))) (.var 1))) (.cons (.ret (.var 2)) .nil))) .nil) (.cons (.setIx (.var 0) (.lit (.int 2)) (.bin false .add (.ix (.var 0) (.lit (.int 2))) (.lit (.int 1)))) (.cons (.asg 3 (.bin false .mod (.bin false .mul (.bin false .add (.ix (.var 0) (.lit (.int 3))) (.lit (.int 17))) (.bin false .add (.lit (.int 69621)) (.bin false .mul (.lit (.int 2)) (.ix (.var 0) (.lit (.int 2)))))) (.lit (.int 2147483647)))) (.cons (.asg 3 (.bin false .mod (.bin false .add (.bin false .add (.bin false .mul (.var 3) (.var 3)) (.bin false .mul (.lit (.int 40503)) (.ix (.var 0) (.lit (.int 2))))) (.lit (.int 5))) (.lit (.int 2147483629)))) (.cons (.ret (.bin false .mod (.bin false .fdiv (.bin false .mod (.bin false .mul (.var 3) (.lit (.int 48271))) (.lit (.int 2147483647))) (.lit (.int 32))) (.var 1))) .nil)))))⟩
noncomputable def yS:Fn:=⟨["_law_cell"],["_law_cell"],true,(.cons (.ret (.lst true (.cons (.var 0) (.cons (.blt .int false (.cons (.cmp .ge (.var 0) (.bin false .pow (.lit (.int 10)) (.lit (.int 18)))) .nil)) (.cons (.lit (.int 0)) (.cons (.bin false .mod (.var 0) (.lit (.int 1000000007))) .nil)))))) .nil)⟩
end F75
end
section
namespace M
open PySem
noncomputable def sU(a b c d:Int):Cel:=.lst [.int a,.int b,.int c,.int d]
def qU(s:Sto)(p:Nat):Prop:=∃a b c d,s[p]?=some (sU a b c d)/\0<=d/\d<1000000007
def vN(s:Sto)(p:Nat)(s':Sto):Prop:=∃a b c d,s'=s.set p (sU a b c d)/\0<=d/\d<1000000007
theorem qU.lt{s:Sto}{p:Nat}(h:qU s p):p<s.length:=by
 obtain⟨a,b,c,d,h,_⟩:=h
 exact(As.mp h).1
theorem vN.at_{s s':Sto}{p:Nat}(h:vN s p s')(hp:p<s.length):qU s' p:=by
 obtain⟨a,b,c,d,rfl,h1⟩:=h
 exact⟨a,b,c,d,AR hp,h1⟩
theorem vN.trans{s s1 s2:Sto}{p:Nat}(h:vN s p s1)(k:vN s1 p s2):vN s p s2:=by
 obtain⟨a,b,c,d,rfl,h1⟩:=h
 obtain⟨a',b',c',d',rfl,h2⟩:=k
 exact⟨a',b',c',d',by rw[List.set_set],h2⟩
theorem qU.refl{s:Sto}{p:Nat}(h:qU s p):vN s p s:=by
 obtain⟨a,b,c,d,h,h1⟩:=h
 obtain⟨hp,e⟩:=As.mp h
 exact⟨a,b,c,d,by rw[<-e,List.set_getElem_self],h1⟩
theorem cH{s s':Sto}{p:Nat}{v:Val}(h:vN s p s')(hv:v.noRef=true):zp false s v s'=.ok v s':=by
 obtain⟨a,b,c,d,rfl,_⟩:=h
 exact gA hv rfl
section
variable {T:Tbl}{Φ:Calls}{G:Str->Option Val}{env:Env}{s s1 s2 s3:Sto}
theorem jA{es:Exs}{vs:List Val}(h:zo Φ G env es s=.ok vs s1)(hl:vs.length<=zU):evE Φ G env (.lst true es) s=.ok (.ref s1.length) (s1++[.lst vs]):=bnd h (if_pos hl)
theorem iB{o i e:Ex}{cs:Sms}{v:Val}{r j:Nat}{k:Int}{vs:List Val}{P:Fl->Sto->Prop}(he:evE Φ G env e s=.ok v s1)(ho:evE Φ G env o s1=.ok (.ref r) s1)(hi:evE Φ G env i s1=.ok (.int k) s1)(hs:s1[r]?=some (.lst vs))(hj:L2.ixN vs.length k=some j)
 (q:(zY Φ G env cs (s1.set r (.lst (vs.set j v)))).post P):(zY Φ G env (.cons (.setIx o i e) cs) s).post P:=by
 have e0:exS Φ G env (.setIx o i e) s=.ok (.nx env) (s1.set r (.lst (vs.set j v))):=by
  show ((evE Φ G env e s).bind _)=_
  rw[he,zX,ho,zX,hi,zX]
  simp only[hs,hj]
  rfl
 refine zv.mpr ?_
 rw[e0]
 exact zC.mpr q
def Yp(Φ:Calls):Prop:=∀(c:Int) (s:Sto),∃a b e d,Φ "_law_pen" 1 [.int c] s=.ok (.ref s.length) (s++[sU a b e d])/\0<=d/\d<1000000007
theorem bp(c:Int):∃a b e d,run T Φ F75.yS [.int c] s=.ok (.ref s.length) (s++[sU a b e d])/\0<=d/\d<1000000007:=by
 refine⟨c,if decide ((10:Int) ^ 18<=c) then 1 else 0,0,c%1000000007,?_,GC _ (by omega),Fv _ (by omega)⟩
 rw[post_eq,F75.yS,xX]
 refine⟨rfl,?_⟩
 show (zY Φ T.gl [some (.int c)] _ s).post _
 refine yW (jA (zA (zB rfl) (zA (yX (zA (yQ (zB rfl) (zf zK zK rfl) ge_int) zD) rfl) (zA zK (zA (zf (zB rfl) zK (bmod (by omega))) zD)))) (show 4<=zU by unfold zU;omega)) ?_
 exact zC.mpr ⟨rfl,rfl⟩
def pf(Φ:Calls):Prop:=∀(p:Nat) (m:Int) (s:Sto),qU s p->0<m->m<1000000->(Φ "_law_draw" 0 [.ref p,.int m] s).post fun v s'=>∃r:Nat,v=.int r/\(r:Int)<m/\vN s p s'
theorem gf{p:Nat}{m:Int}(hp:qU s p)(h1:0<m)(h2:m<1000000):(run T Φ F75.yd [.ref p,.int m] s).post fun v s'=>∃r:Nat,v=.int r/\(r:Int)<m/\vN s p s':=by
 have hpl:=hp.lt
 obtain⟨a,b,c,d,hs,hd0,hd1⟩:=hp
 have ix:∀{s:Sto} {a b c d:Int} {k:Nat} {v:Val},s[p]?=some (sU a b c d)->[Val.int a,.int b,.int c,.int d][k]?=some v->wU (.ref p) (.int k) s=.ok v s:=fun h h'=>WI h h'
 rw[F75.yd,xX]
 refine⟨rfl,?_⟩
 show (zY Φ T.gl [some (.ref p),some (.int m),none,none] _ s).post _
 have tc:evT Φ T.gl [some (.ref p),some (.int m),none,none] (.and (.val (.cmp .eq (.ix (.var 0) (.lit (.int 1))) (.lit (.int 1)))) (.cons (.val (.cmp .gt (.ix (.var 0) (.lit (.int 0))) (.lit (.int 0)))) .nil)) s=.ok (decide (b=1)&&decide (0<a)) s:=V5 (yc (yQ (vh (zB rfl) zK (ix (k:=1) hs rfl)) zK eq_int) zc) (yc (yQ (vh (zB rfl) zK (ix (k:=0) hs rfl)) zK gt_int) zc)
 have fin':∀{x:Int} {s':Sto},vN s p s'->(zp false s (.int (x%m)) s').post fun v s'=>∃r:Nat,v=.int r/\(r:Int)<m/\vN s p s':=fun{x s'} t=>by
  rw[cH t wC]
  have h3:=GC x (show m≠0 by omega)
  have h4:=Fv x h1
  exact zC.mpr ⟨(x%m).toNat,by congr 1;omega,by omega,t⟩
 cases hb:(decide (b=1)&&decide (0<a)) with
 |true=>
  rw[hb]at tc
  refine qO tc (xm (zf (vh (zB rfl) zK (ix (k:=0) hs rfl)) (zB rfl) (bmod h1)) ?_)
  refine iB (j:=0) (zf (vh (zB rfl) zK (ix (k:=0) hs rfl)) (zB rfl) (bdiv ⟨h1,by omega⟩)) (zB rfl) zK hs rfl (yW (zB rfl) ?_)
  exact fin' ⟨a/m,b,c,d,rfl,hd0,hd1⟩
 |false=>
  rw[hb]at tc
  refine vI tc ?_
  refine iB (j:=2) (zf (vh (zB rfl) zK (ix (k:=2) hs rfl)) zK rJ) (zB rfl) zK hs rfl ?_
  have hs':(s.set p (sU a b (c+1) d))[p]?=some (sU a b (c+1) d):=AR hpl
  show (zY Φ T.gl [some (.ref p),some (.int m),none,none] _ (s.set p (sU a b (c+1) d))).post _
  refine xm (zf (zf (zf (vh (zB rfl) zK (ix (k:=3) hs' rfl)) zK rJ) (zf zK (zf zK (vh (zB rfl) zK (ix (k:=2) hs' rfl)) (nW (by omega))) rJ) (show binOp false .mul (.int (d+17)) _ _=_ by simp only[binOp];rw[if_pos (.inl (by omega))])) zK (bmod (by omega))) ?_
  generalize hx:(d+17)*(69621+2*(c+1))%2147483647=x
  have x0:0<=x:=by rw[<-hx];exact GC _ (by omega)
  have x1:x<2147483647:=by rw[<-hx];exact Fv _ (by omega)
  refine xm (zf (zf (zf (zf (zB rfl) (zB rfl) (show binOp false .mul (.int x) (.int x) _=_ by simp only[binOp];rw[if_pos (.inl (by omega))])) (zf zK (vh (zB rfl) zK (ix (k:=2) hs' rfl)) (nW (by omega))) rJ) zK rJ) zK (bmod (by omega))) ?_
  generalize hy:(x*x+40503*(c+1)+5)%2147483629=y
  refine yW (zf (zf (zf (zf (zB rfl) zK (Yu (by omega))) zK (bmod (by omega))) zK (bdiv ⟨by omega,by omega⟩)) (zB rfl) (bmod h1)) ?_
  exact fin' ⟨a,b,c+1,d,rfl,hd0,hd1⟩
end
end M
end
section
namespace M
open PySem
theorem range_getD(zs:List Int):(AE zs.length).map (fun h=>zs.getD h 0)=zs:=by
 apply List.ext_getElem
 . simp
 . intro i h1 h2
   rw[Gj,List.getElem_range,Aw,Ae h2];rfl
end M
end
section
namespace M
open PySem
theorem ye{s:Sto}{v:Val}(h:v.noRef=true):(zp false s v s).post fun x t=>x=v/\t=s:=by
 rw[xP h];exact zC.mpr ⟨rfl,rfl⟩
theorem W8(ns:List Int):(tpI ns).noRef=true:=wQ ns
noncomputable abbrev wJ(os:List Nat):List Int:=os.map fun(h:Nat)=>(h:Int)
section
variable {T:Tbl}{Φ:Calls}{s:Sto}
theorem b8{ns:List Int}(hn:ns.length<41){s:Sto}:tq false (tpI ns) none none (some (-1)) s=.ok (tpI ns.reverse) s:=by
 have hc:∀n:Nat,n<41->(L2.yT n none none (-1)).2<=zU:=by
  have h:∀n:Nat,n<41->(L2.yT n none none (-1)).2<=41:=by decide +kernel
  intro n hn
  exact Ax (h n hn) (by decide)
 have e:tq false (tpI ns) none none (some (-1)) s=.ok (.tup (L2.zw (ns.map .int) (L2.yT ns.length none none (-1)).1 (-1) (L2.yT ns.length none none (-1)).2)) s:=by
  simp only[tq]
  rw[Ai,if_pos ⟨by decide,hc _ hn⟩]
 rw[e,<-bO hn]
 show Out.ok (Val.tup _) s=.ok (Val.tup _) s
 unfold L2.zw
 rw[List.map_filterMap]
 simp only[AQ]
end
end M
end
section
namespace M
open PySem
theorem pL{α β:Type}{f:α->β}:∀{l:List α},l.Nodup->(∀a∈l,∀b∈l,f a=f b->a=b)->(l.map f).Nodup
 |[],_,_=>.nil
 |a::l,h,hi=>by
  rw[Bz]at h
  rw[AJ,Bz]
  refine⟨fun hm=>?_,pL h.2 fun x hx y hy=>hi x (.tail _ hx) y (.tail _ hy)⟩
  obtain⟨b,hb,e⟩:=Bi.mp hm
  exact h.1 (hi b (.tail _ hb) a (.head _) e▸hb)
end M
end
section
namespace M
open PySem
noncomputable abbrev mG(ls:List Nat):Val:=tpI (wJ ls)
theorem vU(ls:List Nat):(wJ ls).map Val.int=ls.map fun(k:Nat)=>Val.int k:=by rw[C7];rfl
theorem iM{bs:List Bool}{s:Sto}:blt .all false [.lst (bs.map Val.bool)] s=.ok (.bool (bs.all id)) s:=by
 show (match boolsOf (bs.map Val.bool) with|some bs=>Out.ok (Val.bool (bs.all id)) s|Ab=>.stuck)=_
 rw[vO (fun b=>b),List.map_id']
end M
end
section
namespace M
open PySem
noncomputable def goN(n f d z:Nat):List Nat:=(AE z).map fun t=>(f+d*t)%n
noncomputable def iC(r:List Int)(f d z:Nat):Bool:=(goN r.length f d z).all fun p=>decide (r[p]?=r[f]?)
noncomputable def vf(r:List Int)(f d z:Nat):Bool:=iC r f d z&&decide ((goN r.length f d z).Nodup)
noncomputable def YW(zs r:List Int)(f:Nat):Nat:=zO zs (r.getD f 0).toNat
theorem aF{zs r:List Int}{f:Nat}{h:Nat}(e:r[f]?=some (h:Int)):YW zs r f=zO zs h:=by
 unfold YW
 rw[Aw,e]
 show zO zs ((h:Int)).toNat=_
 rw[Bk]
end M
end
section
namespace F66
open PySem M
noncomputable def yk:Fn:=⟨["places"],["places"],false,(.cons (.ret (.cmp .eq (.listRange false (.lit .none) (.var 0) (.lit (.str ""))) (.blt .len false (.cons (.var 0) .nil)))) .nil)⟩
noncomputable def zL:Fn:=⟨["sizes","ring","place","first","hue","step"],["sizes","ring"],false,(.cons (.expr (.call "need_sizes" 0 (.cons (.var 0) .nil))) (.cons (.expr (.call "need_ring" 0 (.cons (.var 1) .nil))) (.cons (.asg 2 (.call "first_hue_wrong" 0 (.cons (.var 0) (.cons (.var 1) .nil)))) (.cons (.ifS (.val (.cmp .isNot (.var 2) (.lit .none))) (.cons (.ret (.tup (.cons (.lit (.str "hue")) (.cons (.var 2) .nil)))) .nil) .nil) (.cons (.forS (.nms [3,4]) (.enum (.var 1)) (.cons (.forS (.nm 5) (.range2 (.lit (.int 1)) (.blt .len false (.cons (.var 1) .nil))) (.cons (.ifS (.val (.call "is_whole_round" 0 (.cons (.var 1) (.cons (.var 3) (.cons (.var 5) (.cons (.ix (.var 0) (.var 4)) .nil)))))) (.cons (.ret (.tup (.cons (.lit (.str "round")) (.cons (.var 3) (.cons (.var 5) .nil))))) .nil) .nil) .nil)) .nil)) (.cons (.ret (.lit .none)) .nil))))))⟩
noncomputable def zy:Fn:=⟨["sizes","ring"],["sizes","ring"],false,(.cons (.ret (.cmp .is (.call "first_round_wrong" 0 (.cons (.var 0) (.cons (.var 1) .nil))) (.lit .none))) .nil)⟩
noncomputable def yZ:Fn:=⟨["length","first","step","size"],["length","first","step","size"],false,(.cons (.ret (.blt .tuple false (.cons (.comp false ["at","length","first","step"] [none,some 0,some 1,some 2] (.bin false .mod (.bin false .add (.var 2) (.bin false .mul (.var 3) (.var 0))) (.var 1)) (.nm 0) (.range1 (.var 3)) .nil) .nil))) .nil)⟩
noncomputable def z8:Fn:=⟨["ring","first","step","size","places"],["ring","first","step","size"],false,(.cons (.asg 4 (.call "going_round" 0 (.cons (.blt .len false (.cons (.var 0) .nil)) (.cons (.var 1) (.cons (.var 2) (.cons (.var 3) .nil)))))) (.cons (.ret (.andE (.blt .all false (.cons (.comp false ["place","ring","first"] [none,some 0,some 1] (.cmp .eq (.ix (.var 1) (.var 0)) (.ix (.var 1) (.var 2))) (.nm 0) (.val (.var 4)) .nil) .nil)) (.cons (.call "are_unlike" 0 (.cons (.var 4) .nil)) .nil))) .nil))⟩
noncomputable def yR:Fn:=⟨["thing"],["thing"],false,(.cons (.ifS (.or (.not (.val (.call "is_strip" 0 (.cons (.var 0) .nil)))) (.cons (.val (.cmp .eq (.blt .len false (.cons (.var 0) .nil)) (.lit (.int 0)))) .nil)) (.cons (.raise (.call "NoRing" 0 (.cons (.lit (.str "a strip with one place or more is due")) .nil))) .nil) .nil) .nil)⟩
end F66
end
section
namespace M
open PySem
theorem az(ns:List Int):L2.dN ns=(ns.foldl C8 []).length:=by
 unfold L2.dN CO
 rw[range_getD]
theorem X3{acc:List Int}{k:Int}:acc.any (· == k)=decide (k∈acc):=by
 rw[Ci,BL,decide_eq_true_eq]
 exact⟨fun⟨x,hx,e⟩=>by rwa [<-Cr e],fun h=>⟨k,h,beq_self_eq_true k⟩⟩
theorem Yy:∀(ns acc:List Int),(ns.foldl C8 acc).length=acc.length+ns.length↔ns.Nodup/\∀x∈ns,x ∉ acc
 |[],acc=>⟨fun _=>⟨.nil,fun _ h=>nomatch h⟩,fun _=>rfl⟩
 |k::ns,acc=>by
  have hle:=PyProof.Rows.foldl_step_dedup_length_le acc ns
  rw[Gz,Ar,Bz]
  unfold C8
  rw[X3]
  by_cases h:k∈acc
  . rw[decide_eq_true h,if_pos rfl]
    constructor
    . intro e
      have:(ns.foldl C8 acc).length=acc.length+(ns.length+1):=e
      omega
    . intro e
      exact absurd h (e.2 k (.head _))
  . rw[decide_eq_false h,if_neg Aj]
    have ih:=Yy ns (acc++[k])
    rw[Ap,show acc.length+[k].length+ns.length=acc.length+(ns.length+1) by rw[BU];omega]at ih
    refine ih.trans ?_
    constructor
    . rintro ⟨h1,h2⟩
      refine⟨⟨fun hk=>h2 k hk (AU _ (.head _)),h1⟩,fun x hx=>?_⟩
      rcases Al.mp hx with rfl|hx
      . exact h
      . exact fun hc=>h2 x hx (Bc _ hc)
    . rintro ⟨⟨h1,h2⟩,h3⟩
      refine⟨h2,fun x hx hc=>?_⟩
      rcases AO.mp hc with hc|hc
      . exact h3 x (.tail _ hx) hc
      . rw[Aq.mp hc]at hx;exact h1 hx
theorem Yw{ns:List Int}:L2.dN ns=ns.length↔ns.Nodup:=by
 rw[az]
 have:=Yy ns []
 rw[A8,Dq]at this
 exact this.trans ⟨fun h=>h.1,fun h=>⟨h,fun _ _ h=>nomatch h⟩⟩
theorem W2{m:Bool}{ns:List Int}{t:Str}{s:Sto}(h:ns.length<=1000):lr m .none (tpI ns) (.str t) s=.ok (.int (L2.dN ns:Nat)) s:=by
 show (match M.intsOf (ns.map .int) with|some ns=>if ns.length<=1000 then Out.ok (Val.int (L2.dN ns:Nat)) s else .stuck|Ab=>.stuck)=_
 rw[oQ]
 exact if_pos h
theorem W0{m:Bool}{ns:List Int}{t:Str}{s:Sto}(h:ns.length<=1000):lr m .none (.lst (ns.map .int)) (.str t) s=.ok (.int (L2.dN ns:Nat)) s:=by
 show (match M.intsOf (ns.map .int) with|some ns=>if ns.length<=1000 then Out.ok (Val.int (L2.dN ns:Nat)) s else .stuck|Ab=>.stuck)=_
 rw[oQ]
 exact if_pos h
structure Rg(r:List Int):Prop where
 strip:lM r
 ne:r≠[]
theorem Rg.pos{r:List Int}(h:Rg r):0<r.length:=B1.mpr h.ne
theorem Rg.le{r:List Int}(h:Rg r):r.length<=40:=h.strip.1
theorem uN{Φ:Calls}{G:Str->Option Val}{env:Env}{s:Sto}{i:Nat}{m:Bool}{ns:List Int}(h:env[i]?=some (some (tpI ns))):evE Φ G env (.blt .len m (.cons (.var i) .nil)) s=.ok (.int (ns.length:Nat)) s:=yX (zA (zB h) zD) (by rw[ug,Ai])
section
variable {T:Tbl}{Φ:Calls}{s:Sto}
def tE(Φ:Calls):Prop:=∀(r:List Int) (s:Sto),Rg r->Φ "need_ring" 0 [tpI r] s=.ok .none s
theorem nF(c:qj Φ){r:List Int}(h:Rg r):run T Φ F66.yR [tpI r] s=.ok .none s:=by
 have h0:zQ .eq (.int (r.length:Nat)) (.int 0) s=.ok (.bool false) s:=by rw[eq_int,decide_eq_false (by have:=h.pos;omega)]
 rw[post_eq,F66.yR,xX]
 refine⟨rfl,?_⟩
 show (zY Φ T.gl [some (tpI r)] _ s).post _
 exact vI (Ss (lB (yc (x_call (zA (zB rfl) zD) (c r s h.strip)) zc)) (Yi (yc (yQ (uN rfl) zK h0) zc) V9)) (wG (ye rfl))
def fC(Φ:Calls):Prop:=∀(n f d z:Nat) (s:Sto),0<n->f<=40->d<=40->z<=8->Φ "going_round" 0 [.int n,.int f,.int d,.int z] s=.ok (mG (goN n f d z)) s
theorem gh{n f d z:Nat}(hn:0<n)(hf:f<=40)(hd:d<=40)(hz:z<=8):run T Φ F66.yZ [.int n,.int f,.int d,.int z] s=.ok (mG (goN n f d z)) s:=by
 have hL:z<=zU:=Ax hz (by decide)
 have e0:mG (goN n f d z)=tpI ((AE z).map fun t=>(((f+d*t)%n:Nat):Int)):=by
  unfold goN
  show tpI (Fe _ (Fe _ _))=_
  rw[C7];rfl
 rw[post_eq,F66.yZ,xX]
 refine⟨rfl,?_⟩
 show (zY Φ T.gl [some (.int n),some (.int f),some (.int d),some (.int z)] _ s).post _
 rw[e0]
 refine yW (yX (zA (Xh (n:=z) (f:=fun t=>(((f+d*t)%n:Nat):Int)) (pG (zB rfl) hL) rfl (fun k o hk=>?_) hL) zD) rfl) (ye (W8 _))
 have e:((f:Int)+(d:Int)*(k:Int))%(n:Int)=(((f+d*k)%n:Nat):Int):=by
  rw[Int.natCast_emod,GD,Int.natCast_mul]
 exact zf (zf (zB rfl) (zf (zB rfl) (zB rfl) (nW (by omega))) rJ) (zB rfl) (by rw[bmod (by omega),e])
def jF(Φ:Calls):Prop:=∀(ls:List Nat) (s:Sto),ls.length<=40->Φ "are_unlike" 0 [mG ls] s=.ok (.bool (decide ls.Nodup)) s
theorem cM{ls:List Nat}:(wJ ls).Nodup↔ls.Nodup:=⟨fun h=>(Cq.mp h).imp fun{a b} hab e=>hab (by rw[e]),fun h=>pL h fun a _ b _ e=>by omega⟩
theorem kW{ls:List Nat}(h:ls.length<=40):run T Φ F66.yk [mG ls] s=.ok (.bool (decide ls.Nodup)) s:=by
 have hq:zQ .eq (.int (L2.dN (wJ ls):Nat)) (.int ((wJ ls).length:Nat)) s=.ok (.bool (decide ls.Nodup)) s:=by
  rw[eq_int]
  congr 2
  refine decide_eq_decide.mpr (Iff.trans ?_ cM)
  rw[<-Yw];omega
 rw[post_eq,F66.yk,xX]
 refine⟨rfl,?_⟩
 show (zY Φ T.gl [some (mG ls)] _ s).post _
 exact yW (yQ (bnd zK (bnd (zB rfl) (bnd zK (W2 (by rw[Ai];omega))))) (uN rfl) hq) (ye xU)
theorem lW{n f d z:Nat}:(goN n f d z).length=z:=by unfold goN;rw[Ai,BE]
theorem Y8{n f d z p:Nat}(hn:0<n)(h:p∈goN n f d z):p<n:=by
 obtain⟨t,_,rfl⟩:=Bi.mp h
 exact Nat.mod_lt _ hn
noncomputable def atG(r:List Int)(f:Nat):Val->List Val
 |.int i=>[.bool (decide (r[i.toNat]?=r[f]?))]
 |_=>[]
def rA(Φ:Calls):Prop:=∀(r:List Int) (f d z:Nat) (s:Sto),r.length<=40->f<r.length->d<=40->z<=8->Φ "is_whole_round" 0 [tpI r,.int f,.int d,.int z] s=.ok (.bool (vf r f d z)) s
theorem mw(c5:fC Φ)(c6:jF Φ){r:List Int}{f d z:Nat}(hl:r.length<=40)(hf:f<r.length)(hd:d<=40)(hz:z<=8):run T Φ F66.z8 [tpI r,.int f,.int d,.int z] s=.ok (.bool (vf r f d z)) s:=by
 have cu:=c6 (goN r.length f d z) s (by rw[lW];omega)
 rw[post_eq,F66.z8,xX]
 refine⟨rfl,?_⟩
 show (zY Φ T.gl [some (tpI r),some (.int f),some (.int d),some (.int z),none] _ s).post _
 refine xm (x_call (zA (uN rfl) (zA (zB rfl) (zA (zB rfl) (zA (zB rfl) zD)))) (c5 r.length f d z s (by omega) (by omega) hd hz)) ?_
 show (zY Φ T.gl [some (tpI r),some (.int f),some (.int d),some (.int z),some (mG (goN r.length f d z))] _ s).post _
 have hc:evE Φ T.gl [some (tpI r),some (.int f),some (.int d),some (.int z),some (mG (goN r.length f d z))] (.comp false ["place","ring","first"] [none,some 0,some 1] (.cmp .eq (.ix (.var 1) (.var 0)) (.ix (.var 1) (.var 2))) (.nm 0) (.val (.var 4)) .nil) s=.ok (.lst (((goN r.length f d z).map fun p=>decide (r[p]?=r[f]?)).map Val.bool)) s:=by
  rw[post_eq]
  refine uj (fun e=>∃o,e=[o,some (tpI r),some (.int f)]) (atG r f) ((wJ (goN r.length f d z)).map .int) (s1:=s) (oV (zB rfl) rfl) ⟨none,rfl⟩ ?_ ?_
  . rintro x hx e ⟨o,rfl⟩
    rw[vU]at hx
    obtain⟨p,hp,rfl⟩:=Bi.mp hx
    have hpl:=Y8 (by omega) hp
    have hq:zQ .eq (.int r[p]) (.int r[f]) s=.ok (.bool (decide (r[p]?=r[f]?))) s:=by
     rw[eq_int,Ae hpl,Ae hf]
     congr 2
     exact decide_eq_decide.mpr (by rw[Ef])
    refine⟨_,rfl,⟨_,rfl⟩,uk.mpr ⟨rfl,?_⟩⟩
    rw[if_pos rfl]
    show (evE Φ T.gl [some (.int (p:Int)),some (tpI r),some (.int f)] _ s).post _
    rw[yQ (vh (zB rfl) (zB rfl) (rn (Ae hpl))) (vh (zB rfl) (zB rfl) (rn (Ae hf))) hq]
    refine zC.mpr ⟨rfl,?_⟩
    show [Val.bool (decide (r[(p:Int).toNat]?=r[f]?))]=_
    rw[Bk]
  . have e:((wJ (goN r.length f d z)).map Val.int).flatMap (atG r f)=((goN r.length f d z).map fun p=>decide (r[p]?=r[f]?)).map Val.bool:=by
     rw[vU,Gk,C7]
     have:(fun(k:Nat)=>atG r f (.int (k:Int)))=fun k=>[(Val.bool∘fun p=>decide (r[p]?=r[f]?)) k]:=by
      funext k
      show [Val.bool (decide (r[(k:Int).toNat]?=r[f]?))]=_
      rw[Bk];rfl
     rw[this,eW]
    rw[e]
    exact zC.mpr ⟨rfl,rfl⟩
 have hall:((goN r.length f d z).map fun p=>decide (r[p]?=r[f]?)).all id=iC r f d z:=by
  unfold iC
  rw[List.all_map];rfl
 have ha:=yX (f:=.all) (m:=false) (zA hc zD) iM
 rw[hall]at ha
 unfold vf
 cases hs:iC r f d z with
 |false=>
  rw[hs]at ha
  exact yW (k9 ha) (ye xU)
 |true=>
  rw[hs]at ha
  exact yW (Sy ha (x_call (zA (zB rfl) zD) cu)) (ye xU)
noncomputable def prs(n f:Nat):List (Nat × Nat):=(Di 1 (n-1)).map fun d=>(f,d)
noncomputable def xl(n:Nat):List (Nat × Nat):=(AE n).flatMap (prs n)
theorem si{n f:Nat}{q:Nat × Nat}:q∈prs n f↔q.1=f/\1<=q.2/\q.2<n:=by
 unfold prs
 rw[Bi]
 constructor
 . rintro ⟨d,hd,rfl⟩
   rw[List.mem_range'_1]at hd
   exact⟨rfl,hd.1,by show d<n;omega⟩
 . rintro ⟨rfl,h1,h2⟩
   exact⟨q.2,by rw[List.mem_range'_1];omega,rfl⟩
theorem vq{n f d:Nat}:(f,d)∈xl n↔f<n/\1<=d/\d<n:=by
 unfold xl
 rw[Dx]
 constructor
 . rintro ⟨a,ha,h⟩
   obtain⟨rfl,h1,h2⟩:=si.mp h
   exact⟨AW.mp ha,h1,h2⟩
 . rintro ⟨h1,h2,h3⟩
   exact⟨f,AW.mpr h1,si.mpr ⟨rfl,h2,h3⟩⟩
theorem pairs_len(n:Nat):(xl n).length<=n*n:=by
 have:∀l:List Nat,(l.flatMap (prs n)).length<=l.length*n:=fun l=>by
  induction l with
  |nil=>rw[Gm,A8];omega
  |cons a l ih=>
   have e:(prs n a).length=n-1:=by unfold prs;rw[Ai,Fw]
   rw[BP,Ap,Ar,DS,e]
   omega
 have h:=this (AE n)
 rwa [BE]at h
end
end M
end
section
namespace M
open PySem
noncomputable def frP(zs r:List Int)(q:Nat × Nat):Bool:=vf r q.1 q.2 (YW zs r q.1)
noncomputable def frO(zs r:List Int):Option (Nat × Nat):=(xl r.length).find? (frP zs r)
noncomputable def frV(o:Option (Nat × Nat)):Val:=match o with
 |none=>.none
 |some q=>.tup [.str "round",.int (q.1:Nat),.int (q.2:Nat)]
theorem XI(o:Option (Nat × Nat)):(frV o).noRef=true:=by
 cases o with
 |none=>exact vv
 |some q=>rw[frV,tQ,yG,yG,yG,w8,qF,wC,wC];rfl
structure RgZ(zs r:List Int):Prop where
 sz:Sz zs
 rg:Rg r
 hue:∀x∈r,0<=x/\x<zs.length
theorem dB{zs ns:List Int}(h:∀x∈ns,0<=x/\x<zs.length):qZ zs ns=.none:=by
 have:tw zs ns=[]:=Gv.mpr fun x hx=>by
  obtain⟨k,i,hk,rfl⟩:=vp hx
  show (if (zs.length:Int)<=i then [Val.int (k:Nat)] else [])=[]
  have:=h i (AS hk)
  rw[if_neg (by omega)]
 unfold qZ
 rw[this]
theorem rV{k:Nat}{vs:List Val}{x:Val}{rest:List Val}(h:x::rest=zt k vs):∃v ws,vs=v::ws/\x=.tup [.int (k:Nat),v]/\rest=zt (k+1) ws:=by
 cases vs with
 |nil=>cases h
 |cons v ws=>
  obtain⟨h1,h2⟩:=DF h
  exact⟨v,ws,rfl,h1,h2⟩
section
variable {T:Tbl}{Φ:Calls}{s:Sto}
theorem kQ(c1:wq Φ)(c2:tE Φ)(c3:lJ Φ)(c:rA Φ){zs r:List Int}(h:RgZ zs r):run T Φ F66.zL [tpI zs,tpI r] s=.ok (frV (frO zs r)) s:=by
 have hl:=h.rg.le
 have ch:=c3 zs r s
 rw[dB h.hue]at ch
 rw[post_eq,F66.zL,xX]
 refine⟨rfl,?_⟩
 show (zY Φ T.gl [some (tpI zs),some (tpI r),none,none,none,none] _ s).post _
 refine xn (x_call (zA (zB rfl) zD) (c1 zs s h.sz)) (xn (x_call (zA (zB rfl) zD) (c2 r s h.rg)) (xm (x_call (zA (zB rfl) (zA (zB rfl) zD)) ch) ?_))
 show (zY Φ T.gl [some (tpI zs),some (tpI r),some .none,none,none,none] _ s).post _
 refine vI (yc (yQ (zB rfl) zK (show zQ .isNot .none .none s=.ok (.bool false) s from rfl)) zc) ?_
 refine zv.mpr (xk (fun rest e s'=>s'=s/\(∃o3 o4 o5,e=[some (tpI zs),some (tpI r),some .none,o3,o4,o5])/\∃k,k<=r.length/\rest=zt k ((r.drop k).map .int)/\((Di k (r.length-k)).flatMap (prs r.length)).find? (frP zs r)=frO zs r) (zt 0 (r.map .int)) (s1:=s) (sZ (zB rfl)) ⟨rfl,⟨_,_,_,rfl⟩,0,A9 _,by rw[Dn],by rw[Nat.sub_zero,<-List.range_eq_range'];rfl⟩ ?_ ?_)
 . rintro x rest e s' ⟨rfl,⟨o3,o4,o5,rfl⟩,k,hk,hr,hf⟩
   obtain⟨v,ws,hv,rfl,rfl⟩:=rV hr
   have hk':k<r.length:=by
    refine Nat.lt_of_not_le fun hc=>?_
    rw[List.drop_eq_nil_of_le hc]at hv
    cases hv
   rw[BS hk',AJ]at hv
   obtain⟨rfl,rfl⟩:=DF hv
   have hx:=h.hue r[k] (B5 hk')
   obtain⟨hu,hhu⟩:∃c:Nat,r[k]=c:=⟨r[k].toNat,by omega⟩
   have hul:hu<zs.length:=by omega
   have hsz:YW zs r k=zO zs hu:=aF (by rw[Ae hk',hhu])
   obtain⟨z1,z2,z3⟩:=xb h.sz hul
   have hix:wU (tpI zs) (.int (hu:Int)) s'=.ok (.int (zO zs hu:Nat)) s':=by
    refine rn ?_
    rw[Ae hul]
    unfold zO at z1 ⊢
    rw[Aw,Ae hul]at z1 ⊢
    rw[z1];rfl
   refine⟨_,rfl,?_⟩
   rw[hhu]
   show (zY Φ T.gl [some (tpI zs),some (tpI r),some .none,some (.int (k:Nat)),some (.int (hu:Nat)),o5] _ s').post _
   rw[show r.length-k=r.length-(k+1)+1 by omega,List.range'_succ,BP]at hf
   generalize hlt:(Di (k+1) (r.length-(k+1))).flatMap (prs r.length)=later at hf
   refine zv.mpr (xk (fun rest2 e s''=>s''=s'/\(∃o5,e=[some (tpI zs),some (tpI r),some .none,some (.int (k:Nat)),some (.int (hu:Nat)),o5])/\∃j,1<=j/\j<=r.length/\rest2=yK (j:Nat) (r.length-j)/\(((Di j (r.length-j)).map fun d=>(k,d))++later).find? (frP zs r)=frO zs r) (yK ((1:Nat):Int) (r.length-1)) (s1:=s') (XB (i:=1) (j:=r.length) zK (uN rfl) (by omega) (by omega)) ⟨rfl,⟨_,rfl⟩,1,Ag _,by omega,rfl,hf⟩ ?_ ?_)
   . rintro x rest2 e s'' ⟨rfl,⟨o5,rfl⟩,j,hj1,hj,hr2,hf2⟩
     obtain⟨m,hm,rfl,hr3⟩:=tW hr2
     refine⟨_,rfl,?_⟩
     show (zY Φ T.gl [some (tpI zs),some (tpI r),some .none,some (.int (k:Nat)),some (.int (hu:Nat)),some (.int (j:Nat))] _ s'').post _
     have hw:=c r k j (zO zs hu) s'' hl hk' (by omega) z3
     rw[hm,List.range'_succ,AJ,F9,List.find?_cons]at hf2
     have hP:frP zs r (k,j)=vf r k j (zO zs hu):=by rw[<-hsz];rfl
     rw[hP]at hf2
     have tt:=yc (Φ:=Φ) (G:=T.gl) (env:=[some (tpI zs),some (tpI r),some .none,some (.int (k:Nat)),some (.int (hu:Nat)),some (.int (j:Nat))]) (x_call (f:="is_whole_round") (v:=0) (zA (zB (i:=1) rfl) (zA (zB (i:=3) rfl) (zA (zB (i:=5) rfl) (zA (vh (zB (i:=0) rfl) (zB (i:=4) rfl) hix) zD)))) hw) zc
     cases hb:vf r k j (zO zs hu) with
     |true=>
      rw[hb]at hf2 tt
      refine qO tt (yW (xA (zA zK (zA (zB rfl) (zA (zB rfl) zD))) (show 3<=zU by decide)) ?_)
      have hf2:some (k,j)=frO zs r:=hf2
      rw[<-hf2]
      exact ye (XI (some (k,j)))
     |false=>
      rw[hb]at hf2 tt
      exact vI tt (wG ⟨rfl,⟨_,rfl⟩,j+1,by omega,by omega,by rw[hr3];congr 1;omega,by rw[show r.length-(j+1)=m by omega];exact hf2⟩)
   . rintro e s'' ⟨rfl,⟨o5,rfl⟩,j,hj1,hj,hr2,hf2⟩
     have:=nE hr2
     rw[this,Gn,DT,DJ]at hf2
     refine wG ⟨rfl,⟨_,_,_,rfl⟩,k+1,by omega,rfl,?_⟩
     rw[hlt];exact hf2
 . rintro e s' ⟨rfl,⟨o3,o4,o5,rfl⟩,k,hk,hr,hf⟩
   have hkl:k=r.length:=by
    refine Nat.le_antisymm hk (F7 fun hc=>?_)
    rw[BS hc]at hr
    cases hr
   rw[hkl,Nat.sub_self,Gn,Gm]at hf
   have hf:none=frO zs r:=hf
   rw[<-hf]
   exact yW zK (ye vv)
end
end M
end
section
namespace F61
open PySem M
noncomputable def yy:Fn:=⟨["_law_sizes","_law_ring","_law_due","_law_kept","_law_turn"],["_law_sizes","_law_ring"],false,(.cons (.asg 2 (.call "_law_wrong" 0 (.cons (.var 0) (.cons (.var 1) .nil)))) (.cons (.asg 3 (.blt .repr false (.cons (.tup (.cons (.var 0) (.cons (.var 1) .nil))) .nil))) (.cons (.forS (.nm 4) (.range1 (.lit (.int 2))) (.cons (.ifS (.val (.cmp .ne (.blt .repr false (.cons (.call "fits_round" 0 (.cons (.var 0) (.cons (.var 1) .nil))) .nil)) (.blt .repr false (.cons (.cmp .is (.var 2) (.lit .none)) .nil)))) (.cons (.ret (.lit (.bool false))) .nil) .nil) (.cons (.ifS (.val (.cmp .ne (.blt .repr false (.cons (.call "first_round_wrong" 0 (.cons (.var 0) (.cons (.var 1) .nil))) .nil)) (.blt .repr false (.cons (.var 2) .nil)))) (.cons (.ret (.lit (.bool false))) .nil) .nil) .nil))) (.cons (.ret (.cmp .eq (.blt .repr false (.cons (.tup (.cons (.var 0) (.cons (.var 1) .nil))) .nil)) (.var 3))) .nil))))⟩
noncomputable def yY:Fn:=⟨["_law_length","_law_size","_law_found","_law_first","_law_step","_law_places"],["_law_length","_law_size"],false,(.cons (.asg 2 (.lst true .nil)) (.cons (.forS (.nm 3) (.range1 (.var 0)) (.cons (.forS (.nm 4) (.range2 (.lit (.int 1)) (.var 0)) (.cons (.asg 5 (.comp false ["_law_k","_law_length","_law_first","_law_step"] [none,some 0,some 3,some 4] (.bin false .mod (.bin false .add (.var 2) (.bin false .mul (.var 0) (.var 3))) (.var 1)) (.nm 0) (.range1 (.var 1)) .nil)) (.cons (.ifS (.val (.cmp .eq (.listRange false (.lit .none) (.var 5) (.lit (.str ""))) (.var 1))) (.cons (.expr (.xF .append false (.var 2) (.cons (.tup (.cons (.var 3) (.cons (.var 4) (.cons (.var 5) .nil)))) .nil))) .nil) .nil) .nil))) .nil)) (.cons (.ret (.var 2)) .nil)))⟩
noncomputable def zk:Fn:=⟨["_law_sizes","_law_ring","_law_other","_law_found","_law_hue","_law_size","_law_first","_law_step","_law_places"],["_law_sizes","_law_ring"],false,(.cons (.asg 2 (.comp false ["_law_place","_law_hue","_law_sizes"] [none,none,some 0] (.var 0) (.nms [0,1]) (.enum (.var 1)) (.cons (.val (.cmp .ge (.var 1) (.blt .len false (.cons (.var 2) .nil)))) .nil))) (.cons (.ifS (.val (.cmp .ne (.var 2) (.lst false .nil))) (.cons (.ret (.tup (.cons (.lit (.str "hue")) (.cons (.ix (.var 2) (.lit (.int 0))) .nil)))) .nil) .nil) (.cons (.asg 3 (.lst true .nil)) (.cons (.forS (.nms [4,5]) (.enum (.var 0)) (.cons (.forS (.nms [6,7,8]) (.val (.call "_law_rounds" 0 (.cons (.blt .len false (.cons (.var 1) .nil)) (.cons (.var 5) .nil)))) (.cons (.ifS (.val (.cmp .eq (.comp false ["_law_place","_law_hue","_law_ring"] [none,some 4,some 1] (.var 0) (.nm 0) (.val (.var 8)) (.cons (.val (.cmp .ne (.ix (.var 2) (.var 0)) (.var 1))) .nil)) (.lst false .nil))) (.cons (.expr (.xF .append false (.var 3) (.cons (.tup (.cons (.lit (.str "round")) (.cons (.var 6) (.cons (.var 7) .nil)))) .nil))) .nil) .nil) .nil)) .nil)) (.cons (.ret (.ife (.val (.cmp .eq (.var 3) (.lst false .nil))) (.lit .none) (.blt .minS false (.cons (.var 3) .nil)))) .nil)))))⟩
end F61
end
section
namespace M
open PySem
section
variable {W:Str->Bool}{Φ:Calls}{Ψ:xu}{G:Str->Option Val}{env:Env}{s s1:Sto}
theorem Wr{c:Sm}{cs:Sms}{e:Env}(h:exS Φ G env c s=.ok (.nx e) s1):zY Φ G env (.cons c cs) s=zY Φ G e cs s1:=bnd h rfl
theorem uC{c:Sm}{cs:Sms}(h:exS Φ G env c s=.stuck):zY Φ G env (.cons c cs) s=.stuck:=by
 show (exS Φ G env c s).bind _=_
 rw[h];rfl
theorem U8{c:Cn}{a b:Sms}(h:evT Φ G env c s=.ok true s1)(k:zY Φ G env a s1=.stuck):exS Φ G env (.ifS c a b) s=.stuck:=bnd h k
theorem se{e:Ex}:exS Φ G env (.raise e) s=.stuck:=rfl
theorem dq{e:Ex}(h:evE Φ G env e s=.stuck):exS Φ G env (.expr e) s=.stuck:=by
 show (evE Φ G env e s).bind _=_
 rw[h];rfl
theorem Zp{e:Ex}{v:Val}(h:evE Φ G env e s=.ok v s1):exS Φ G env (.expr e) s=.ok (.nx env) s1:=bnd h rfl
theorem Vq{c:Sm}{cs:Sms}{e:Env}(h:exS Φ G env c s=.ok (.nx e) s1):xSs W Φ Ψ G env (.cons c cs) s=xSs W Φ Ψ G e cs s1:=by simp only[xSs,h]
theorem uL{c:Sm}{cs:Sms}(h:exS Φ G env c s=.stuck):xSs W Φ Ψ G env (.cons c cs) s=xS W Φ Ψ G env c s:=by simp only[xSs,h]
theorem T7{c:Cn}{a b:Sms}(h:evT Φ G env c s=.ok true s1):xS W Φ Ψ G env (.ifS c a b) s=xSs W Φ Ψ G env a s1:=by simp only[xS,h,if_true]
theorem bU{f:Str}{v:Nat}{es:Exs}{vs:List Val}(h:zo Φ G env es s=.ok vs s1):xS W Φ Ψ G env (.expr (.call f v es)) s=Ψ f v vs s1:=by simp only[xS,xE,h]
theorem j8{c:Str}{v:Nat}{es:Exs}{vs:List Val}(h:zo Φ G env es s=.ok vs s1)(k:(mK vs&&W c)=true):xS W Φ Ψ G env (.raise (.call c v es)) s=some (c,vs,s1):=by
 simp only[xS,h]
 rw[if_pos k]
theorem wm{T:Tbl}{F:Fn}{vs:List Val}(hl:vs.length=F.ps.length)(h:zY Φ T.gl (zZ F.N vs) F.body s=.stuck):run T Φ F vs s=.stuck:=by
 unfold run
 rw[if_pos hl,h];rfl
end
def Rz(Φ:Calls)(Ψ:xu)(f:Str)(vs:List Val)(s:Sto)(c:Str):Prop:=Φ f 0 vs s=.stuck/\∃as,Ψ f 0 vs s=some (c,as,s)
end M
end
section
namespace M
open PySem
theorem xp:∀{tb:List Str} {s:Sto},yM tb s=true↔∃r,s=tb.map Cel.tb++r
 |[],s=>⟨fun _=>⟨s,rfl⟩,fun _=>rfl⟩
 |x::tb,s=>by
  constructor
  . intro h
    cases s with
    |nil=>cases h
    |cons c r=>
     cases c with
     |tb y=>
      have h':(decide (x=y)&&yM tb r)=true:=h
      rw[Aa,decide_eq_true_eq]at h'
      obtain⟨r',e⟩:=xp.mp h'.2
      exact⟨r',by rw[h'.1,e];rfl⟩
     |_=>cases h
  . rintro ⟨r,rfl⟩
    show (decide (x=x)&&yM tb (tb.map Cel.tb++r))=true
    rw[decide_eq_true rfl,xp.mpr ⟨r,rfl⟩];rfl
theorem iG{tb:List Str}{s t:Sto}(h:yM tb s=true):yM tb (s++t)=true:=by
 obtain⟨r,rfl⟩:=xp.mp h
 exact xp.mpr ⟨r++t,Bj ..⟩
theorem YZ{tb:List Str}{s:Sto}{p:Nat}{c:Cel}(h:yM tb s=true)(hp:tb.length<=p):yM tb (s.set p c)=true:=by
 obtain⟨r,rfl⟩:=xp.mp h
 refine xp.mpr ⟨r.set (p-tb.length) c,?_⟩
 rw[List.set_append_right _ _ (by rw[Ai];exact hp),Ai]
theorem kl{tb:List Str}{s s':Sto}{p:Nat}(h:yM tb s=true)(hp:tb.length<=p)(t:vN s p s'):yM tb s'=true:=by
 obtain⟨a,b,c,d,rfl,_⟩:=t
 exact YZ h hp
theorem YY{tb:List Str}{s:Sto}(h:yM tb s=true):tb.length<=s.length:=by
 obtain⟨r,rfl⟩:=xp.mp h
 rw[Ap,Ai];omega
theorem gB{tb:List Str}{s:Sto}{v:Val}(hs:yM tb s=true)(h:v.noRef=true):zp false (tb.map Cel.tb) v s=.ok v (tb.map Cel.tb):=by
 obtain⟨r,rfl⟩:=xp.mp hs
 exact wz h
theorem oN{T:Tbl}{n:Nat}{f c w:Str}{vs:List Val}{s:Sto}(h:Rz (zE T n) (zm T n) f vs s c)(h1:T.fn f 101=none)(h2:T.md true=true)(h3:yM T.tb s=true)(h4:T.xc.lookup c=some w):zE T (n+1) f 101 vs s=.ok (.str w) s:=by
 obtain⟨a,as,b⟩:=h
 simp only[zE,h1,a,b,h2,h3,h4,mz]
 rfl
def RzF(T:Tbl)(Φ:Calls)(Ψ:xu)(F:Fn)(vs:List Val)(s:Sto)(c:Str):Prop:=run T Φ F vs s=.stuck/\∃as,xSs (fun c=>(T.xc.lookup c).isSome) Φ Ψ T.gl (zZ F.N vs) F.body s=some (c,as,s)
theorem RzF.up{T:Tbl}{n:Nat}{F:Fn}{f c:Str}{vs:List Val}{s:Sto}(h:RzF T (zE T n) (zm T n) F vs s c)(hf:T.fn f 0=some F)(hl:vs.length=F.ps.length):Rz (zE T (n+1)) (zm T (n+1)) f vs s c:=by
 obtain⟨a,as,b⟩:=h
 exact⟨by rw[zi hf];exact a,as,by rw[fY hf hl];exact b⟩
section
variable {T:Tbl}{Φ:Calls}{Ψ:xu}{s:Sto}
theorem iK{F:Fn}{f c:Str}{vs ws:List Val}{es:Exs}{cs:Sms}(hb:F.body=.cons (.expr (.call f 0 es)) cs)(hl:vs.length=F.ps.length)(he:zo Φ T.gl (zZ F.N vs) es s=.ok ws s)(h:Rz Φ Ψ f ws s c):RzF T Φ Ψ F vs s c:=by
 obtain⟨a,as,b⟩:=h
 have hs:=dq (x_call he a)
 refine⟨wm hl (by rw[hb];exact uC hs),as,by rw[hb];exact(uL hs).trans ((bU he).trans b)⟩
theorem lO{F:Fn}{f g c:Str}{vs ws ys:List Val}{es es2:Exs}{cs:Sms}{v:Val}(hb:F.body=.cons (.expr (.call f 0 es)) (.cons (.expr (.call g 0 es2)) cs))(hl:vs.length=F.ps.length)(he:zo Φ T.gl (zZ F.N vs) es s=.ok ws s)(h1:Φ f 0 ws s=.ok v s)(he2:zo Φ T.gl (zZ F.N vs) es2 s=.ok ys s)(h:Rz Φ Ψ g ys s c):RzF T Φ Ψ F vs s c:=by
 obtain⟨a,as,b⟩:=h
 have hs:=dq (x_call he2 a)
 have hn:=Zp (x_call he h1)
 refine⟨wm hl (by rw[hb];exact(Wr hn).trans (uC hs)),as,by rw[hb];exact(Vq hn).trans ((uL hs).trans ((bU he2).trans b))⟩
end
end M
end
section
namespace M
open PySem
structure Kds(v:Val):Prop where
 kd:kindOf v≠none
 el:∀vs,v=.tup vs->∀w∈vs,kindOf w≠none
noncomputable def sL(v:Val):Bool:=vd v&&(match v with|.tup []=>false|_=>true)
section
variable {T:Tbl}{Φ:Calls}{Ψ:xu}{s:Sto}
def pk(Φ:Calls):Prop:=∀(v:Val) (s:Sto),Kds v->Φ "is_strip" 0 [v] s=.ok (.bool (vd v)) s
theorem kU(g1:T.gl "MOST_PLACES"=some (.int 40))(g2:T.gl "HUES"=some (.ctup [0,1,2,3]))(c:pq Φ){v:Val}(hv:Kds v):run T Φ F.xJ [v] s=.ok (.bool (vd v)) s:=by
 obtain⟨a,ha⟩:=oX hv.kd
 have i1:=oR (m:=false) (s:=s) ha (show vT "tuple"=some .tup from rfl)
 have end':∀{b:Bool},b=vd v->(zp false s (.bool b) s).post fun x t=>x=.bool (vd v)/\t=s:=fun{b} e=>by
  rw[xP xU,e];exact zC.mpr ⟨rfl,rfl⟩
 rw[post_eq,F.xJ,xX]
 refine⟨rfl,?_⟩
 show (zY Φ T.gl [some v] _ s).post _
 rcases dw ha with⟨vs,rfl⟩|hn
 . have e1:a=.tup:=by cases ha;rfl
   subst e1
   by_cases h4:vs.length<=40
   . exact yW (aV (yX (zA (zB rfl) (zA lG zD)) i1) (yQ (yX (zA (zB rfl) zD) ug) (Yl g1) (by rw[le_int,decide_eq_true (by omega)])) (x_call (zA (zB rfl) (zA (vh (Yl g2) zK rfl) (zA (vh (Yl g2) (aW zK) rfl) zD))) (c vs 0 3 s (hv.el vs rfl)))) (end' (by show _=(decide (vs.length<=40)&&vs.all (ya 0 3));rw[decide_eq_true h4];rfl))
   . exact yW (aU (yX (zA (zB rfl) (zA lG zD)) i1) (yQ (yX (zA (zB rfl) zD) ug) (Yl g1) (by rw[le_int,decide_eq_false (by omega)]))) (end' (by show _=(decide (vs.length<=40)&&vs.all (ya 0 3));rw[decide_eq_false h4];rfl))
 . rw[hn]at i1
   exact yW (k9 (yX (zA (zB rfl) (zA lG zD)) i1)) (end' (aC fun vs e=>by rw[e]at ha;cases ha;cases hn).symm)
theorem rq(ns:List Int):Kds (tpI ns):=⟨nofun,fun vs e=>by cases e;exact i9⟩
theorem gr(c:pk Φ):qj Φ:=fun ns s h=>by rw[c _ s (rq ns),aD h]
def Ys(Φ:Calls)(Ψ:xu):Prop:=∀(v:Val) (s:Sto),Kds v->sL v=false->Rz Φ Ψ "need_ring" [v] s "NoRing"
theorem fQ(c:pk Φ)(hW:(T.xc.lookup ("NoRing":Str)).isSome=true){v:Val}(hv:Kds v)(hr:sL v=false):RzF T Φ Ψ F66.yR [v] s "NoRing":=by
 have cs:=c v s hv
 have ht:evT Φ T.gl [some v] (.or (.not (.val (.call "is_strip" 0 (.cons (.var 0) .nil)))) (.cons (.val (.cmp .eq (.blt .len false (.cons (.var 0) .nil)) (.lit (.int 0)))) .nil)) s=.ok true s:=by
  cases hs:vd v with
  |false=>
   rw[hs]at cs
   exact Su (lB (b:=false) (yc (x_call (zA (zB rfl) zD) cs) zc))
  |true=>
   rw[hs]at cs
   have:v=.tup []:=by
    unfold sL at hr
    rw[hs,Bool.true_and]at hr
    split at hr
    . rfl
    . cases hr
   subst this
   exact Ss (lB (b:=true) (yc (x_call (zA (zB rfl) zD) cs) zc)) (aJ (yc (yQ (yX (zA (zB rfl) zD) ug) zK (show zQ .eq (.int (([]:List Val).length:Nat)) (.int 0) s=.ok (.bool true) s from rfl)) zc))
 have hs:=U8 (b:=.nil) ht (uC (cs:=.nil) (se (e:=.call "NoRing" 0 (.cons (.lit (.str "a strip with one place or more is due")) .nil))))
 refine⟨wm rfl (uC hs),_,(uL hs).trans ((T7 ht).trans ((uL se).trans (j8 (zA zK zD) ?_)))⟩
 rw[hW];rfl
end
end M
end
section
namespace M
open PySem
noncomputable def rdP(n z:Nat)(q:Nat × Nat):Bool:=decide (goN n q.1 q.2 z).Nodup
noncomputable def rdV(n z:Nat)(q:Nat × Nat):Val:=.tup [.int q.1,.int q.2,.lst ((wJ (goN n q.1 q.2 z)).map .int)]
noncomputable def kM(n z:Nat):List (Nat × Nat):=(xl n).filter (rdP n z)
theorem TM(n z:Nat)(q:Nat × Nat):(rdV n z q).noRef=true:=by
 unfold rdV
 rw[tQ,yG,yG,yG,w8,wC,wC,lz,wQ];rfl
theorem cQ(n z:Nat):∀l:List (Nat × Nat),zl (l.map (rdV n z))=true
 |[]=>w8
 |q::l=>by rw[AJ,yG,TM,cQ n z l];rfl
section
variable {T:Tbl}{Φ:Calls}{s:Sto}
def nR(Φ:Calls):Prop:=∀(n z:Nat) (s:Sto),1<=n->n<=40->z<=8->Φ "_law_rounds" 0 [.int n,.int z] s=.ok (.lst ((kM n z).map (rdV n z))) s
theorem mr{n z:Nat}(hn1:1<=n)(hn:n<=40)(hz:z<=8):run T Φ F61.yY [.int n,.int z] s=.ok (.lst ((kM n z).map (rdV n z))) s:=by
 have hL:z<=zU:=Ax hz (by decide)
 rw[post_eq,F61.yY,xX]
 refine⟨rfl,?_⟩
 show (zY Φ T.gl [some (.int n),some (.int z),none,none,none,none] _ s).post _
 refine xm (v:=.ref s.length) (s1:=s++[.lst []]) (bnd zD rfl) ?_
 refine zv.mpr (xk (fun rest e s'=>∃i o3 o4 o5,i<=n/\rest=yK i (n-i)/\e=[some (.int n),some (.int z),some (.ref s.length),o3,o4,o5]/\s'=s++[.lst ((((AE i).flatMap (prs n)).filter (rdP n z)).map (rdV n z))]) (yK 0 n) (s1:=s++[.lst []]) (pG (zB rfl) (by unfold zU;omega)) ⟨0,_,_,_,by omega,rfl,rfl,rfl⟩ ?_ ?_)
 . rintro x rest e s' ⟨i,o3,o4,o5,hi,hr,rfl,rfl⟩
   obtain⟨k,hk,rfl,rfl⟩:=tW hr
   refine⟨_,rfl,?_⟩
   show (zY Φ T.gl [some (.int n),some (.int z),some (.ref s.length),some (.int (i:Nat)),o4,o5] _ _).post _
   generalize hA:(AE i).flatMap (prs n)=A
   have hAl:A.length<=i*n:=by
    rw[<-hA]
    have:∀l:List Nat,(l.flatMap (prs n)).length<=l.length*n:=fun l=>by
     induction l with
     |nil=>rw[Gm,A8];omega
     |cons a l ih=>
      have e:(prs n a).length=n-1:=by unfold prs;rw[Ai,Fw]
      rw[BP,Ap,Ar,DS,e]
      omega
    have h:=this (AE i)
    rwa [BE]at h
   have hin:i*n<=40*40:=D6 (by omega) hn
   refine zv.mpr (xk (fun rest e s'=>∃j o4 o5,j<=n-1/\rest=yK (1+(j:Int)) (n-1-j)/\e=[some (.int n),some (.int z),some (.ref s.length),some (.int i),o4,o5]/\s'=s++[.lst (((A++(Di 1 j).map fun d=>(i,d)).filter (rdP n z)).map (rdV n z))]) (yK ((1:Nat):Int) (n-1)) (s1:=s++[.lst ((A.filter (rdP n z)).map (rdV n z))]) (XB (i:=1) zK (zB rfl) (by omega) (by omega)) ⟨0,_,_,by omega,rfl,rfl,by rw[Gn,DT,AZ]⟩ ?_ ?_)
   . rintro x rest e s' ⟨j,o4,o5,hj,hr,rfl,rfl⟩
     obtain⟨k',hk',rfl,rfl⟩:=tW hr
     refine⟨[some (.int n),some (.int z),some (.ref s.length),some (.int i),some (.int (1+(j:Int))),o5],rfl,?_⟩
     rw[show (1:Int)+(j:Int)=((j+1:Nat):Int) by omega]
     generalize hd:j+1=d
     have eR:(A++(Di 1 d).map fun d=>(i,d))=(A++(Di 1 j).map fun d=>(i,d))++[(i,d)]:=by
      rw[<-hd,List.range'_concat,Co,<-Bj,Nat.one_mul,Nat.add_comm 1 j];rfl
     generalize hB:(A++(Di 1 j).map fun d=>(i,d))=B at *
     have hBl:B.length<=2000:=by
      rw[<-hB,Ap,Ai,Fw]
      omega
     have hFl:((B.filter (rdP n z)).map (rdV n z)).length<=2000:=by
      rw[Ai]
      exact Ax (Ca _ _) hBl
     have hg:(AE z).map (fun(t:Nat)=>((((i:Int)+(t:Int)*(d:Int))%(n:Int))))=wJ (goN n i d z):=by
      unfold goN wJ
      rw[C7]
      refine E8 fun t _=>?_
      show _=(((i+d*t)%n:Nat):Int)
      rw[Int.natCast_emod,GD,Int.natCast_mul,Int.mul_comm]
     have hc:∀S:Sto,evE Φ T.gl [some (.int n),some (.int z),some (.ref s.length),some (.int i),some (.int (d:Nat)),o5] (.comp false ["_law_k","_law_length","_law_first","_law_step"] [none,some 0,some 3,some 4] (.bin false .mod (.bin false .add (.var 2) (.bin false .mul (.var 0) (.var 3))) (.var 1)) (.nm 0) (.range1 (.var 1)) .nil) S=.ok (.lst ((wJ (goN n i d z)).map .int)) S:=fun S=>by
      rw[<-hg]
      exact Xh (n:=z) (f:=fun(t:Nat)=>((((i:Int)+(t:Int)*(d:Int))%(n:Int)))) (pG (zB rfl) hL) rfl (fun k o hk=>zf (zf (zB rfl) (zf (zB rfl) (zB rfl) (Yu (by omega))) rJ) (zB rfl) (bmod (by omega))) hL
     refine xm (hc _) ?_
     show (zY Φ T.gl [some (.int n),some (.int z),some (.ref s.length),some (.int i),some (.int (d:Nat)),some (.lst ((wJ (goN n i d z)).map .int))] _ _).post _
     have hq:∀S:Sto,zQ .eq (.int (L2.dN (wJ (goN n i d z)):Nat)) (.int z) S=.ok (.bool (rdP n z (i,d))) S:=fun S=>by
      rw[eq_int]
      congr 2
      refine decide_eq_decide.mpr (Iff.trans ?_ (cM (ls:=goN n i d z)))
      rw[<-Yw,Ai,lW];omega
     have tt:∀S:Sto,evT Φ T.gl [some (.int n),some (.int z),some (.ref s.length),some (.int i),some (.int (d:Nat)),some (.lst ((wJ (goN n i d z)).map .int))] (.val (.cmp .eq (.listRange false (.lit .none) (.var 5) (.lit (.str ""))) (.var 1))) S=.ok (rdP n z (i,d)) S:=fun S=>yc (yQ (bnd zK (bnd (zB rfl) (bnd zK (W0 (by rw[Ai,lW];omega))))) (zB rfl) (hq S)) zc
     have eF:(B++[(i,d)]).filter (rdP n z)=B.filter (rdP n z)++if rdP n z (i,d) then [(i,d)] else []:=by
      rw[Dd]
      congr 1
      rw[EB,GF]
     cases hp:rdP n z (i,d) with
     |true=>
      have ht:=tt (s++[.lst ((B.filter (rdP n z)).map (rdV n z))])
      rw[hp]at ht
      refine qO ht (xn (bnd (zB rfl) (bnd (zA (xA (zA (zB rfl) (zA (zB rfl) (zA (zB rfl) zD))) (show 3<=zU by decide)) zD) (vm (Nat.lt_of_le_of_lt hFl (by decide))))) (wG (wG ⟨j+1,_,_,by omega,by congr 1<;>omega,rfl,?_⟩)))
      rw[hd,eR,eF,hp,if_pos rfl,Co];rfl
     |false=>
      have ht:=tt (s++[.lst ((B.filter (rdP n z)).map (rdV n z))])
      rw[hp]at ht
      refine vI ht (wG ⟨j+1,_,_,by omega,by congr 1<;>omega,rfl,?_⟩)
      rw[hd,eR,eF,hp,if_neg Aj,AZ]
   . rintro e s' ⟨j,o4,o5,hj,hr,rfl,rfl⟩
     have:=nE hr
     have hj:j=n-1:=by omega
     subst hj
     refine wG ⟨i+1,_,_,_,by omega,by congr 1<;>omega,rfl,?_⟩
     rw[E2,Cw,En,hA];rfl
 . rintro e s' ⟨i,o3,o4,o5,hi,hr,rfl,rfl⟩
   have:=nE hr
   have hi:i=n:=by omega
   subst hi
   refine yW (zB rfl) ?_
   show (zp false s _ _).post _
   rw[hX (cQ _ _ _)]
   exact zC.mpr ⟨rfl,rfl⟩
end
end M
end
section
namespace M
open PySem
noncomputable def key(q:Nat × Nat):Nat:=q.1*100+q.2
noncomputable def v2(q:Nat × Nat):List Int:=[(q.1:Int),(q.2:Int)]
theorem RL{a b:Nat × Nat}(ha:a.2<100)(hb:b.2<100):L2.we (v2 a) (v2 b)=decide (key a<key b):=by
 show (if (a.1:Int)=b.1 then (if (a.2:Int)=b.2 then L2.we [] [] else decide ((a.2:Int)<b.2)) else decide ((a.1:Int)<b.1))=_
 unfold key
 split
 . split
   . rw[decide_eq_false (by omega)];rfl
   . exact decide_eq_decide.mpr (by omega)
 . exact decide_eq_decide.mpr (by omega)
theorem cK:∀(L:List (Nat × Nat)) (m:Nat × Nat),(∀q∈m::L,q.2<100)->∃q∈m::L,(L.map v2).foldl (fun m y=>if L2.we y m then y else m) (v2 m)=v2 q/\∀p∈m::L,key q<=key p
 |[],m,_=>⟨m,.head _,rfl,fun p hp=>by rw[Aq.mp hp];exact Ag _⟩
 |y::L,m,h=>by
  have hm:=h m (.head _)
  have hy:=h y (.tail _ (.head _))
  rw[AJ,Gz,RL hy hm]
  by_cases hk:key y<key m
  . rw[decide_eq_true hk,if_pos rfl]
    obtain⟨q,h1,h2,h3⟩:=cK L y fun p hp=>h p (.tail _ hp)
    refine⟨q,.tail _ h1,h2,fun p hp=>?_⟩
    rcases Al.mp hp with rfl|hp
    . have:=h3 y (.head _);omega
    . exact h3 p hp
  . rw[decide_eq_false hk,if_neg Aj]
    obtain⟨q,h1,h2,h3⟩:=cK L m fun p hp=>h p (by
     rcases Al.mp hp with rfl|hp
     . exact .head _
     . exact .tail _ (.tail _ hp))
    refine⟨q,?_,h2,fun p hp=>?_⟩
    . rcases Al.mp h1 with rfl|h1
      . exact .head _
      . exact .tail _ (.tail _ h1)
    . rcases Al.mp hp with rfl|hp
      . exact h3 p (.head _)
      . rcases Al.mp hp with rfl|hp
        . have:=h3 m (.head _);omega
        . exact h3 p (.tail _ hp)
theorem Vl{n f:Nat}:(prs n f).Pairwise (fun a b=>key a<key b):=by
 unfold prs
 rw[Cq]
 refine Ei ?_ (List.pairwise_lt_range' (s:=1) (n:=n-1) (step:=1))
 intro a b h
 show f*100+a<f*100+b
 omega
theorem bB{n:Nat}(hn:n<=100):(xl n).Pairwise (fun a b=>key a<key b):=by
 unfold xl
 rw[EK]
 refine⟨fun a _=>Vl,Ei (fun{a b} (hab:a<b) x hx y hy=>?_) (Dh (n:=n))⟩
 obtain⟨h1,h2,h3⟩:=si.mp hx
 obtain⟨g1,g2,g3⟩:=si.mp hy
 show x.1*100+x.2<y.1*100+y.2
 omega
theorem eV{n:Nat}(hn:n<=100){P:Nat × Nat->Bool}{L:List (Nat × Nat)}(hL:∀q,q∈L↔q∈xl n/\P q=true):((xl n).find? P=none/\L=[])\/∃q,(xl n).find? P=some q/\L≠[]/\L2.oY (L.map v2)=v2 q:=by
 cases hf:(xl n).find? P with
 |none=>
  refine .inl ⟨rfl,List.eq_nil_iff_forall_not_mem.mpr fun q hq=>?_⟩
  obtain⟨h1,h2⟩:=(hL q).mp hq
  exact List.find?_eq_none.mp hf q h1 h2
 |some q0=>
  obtain⟨h1,as,bs,h2,h3⟩:=List.find?_eq_some_iff_append.mp hf
  have hq0:q0∈L:=(hL q0).mpr ⟨by rw[h2];exact AU _ (.head _),h1⟩
  refine .inr ⟨q0,rfl,List.ne_nil_of_mem hq0,?_⟩
  have hb:∀q∈L,q.2<100:=fun q hq=>by
   obtain⟨_,_,h⟩:=vq.mp ((hL (q.1,q.2)).mp hq).1
   omega
  cases L with
  |nil=>cases hq0
  |cons m L=>
   obtain⟨q,k1,k2,k3⟩:=cK L m hb
   have e:L2.oY ((m::L).map v2)=v2 q:=k2
   rw[e]
   obtain⟨g1,g2⟩:=(hL q).mp k1
   rw[h2]at g1
   rcases AO.mp g1 with g|g
   . have:=h3 q g
     rw[g2]at this;cases this
   . rcases Al.mp g with rfl|g
     . rfl
     . have up:=bB hn
       rw[h2]at up
       have:=(List.pairwise_cons.mp (List.pairwise_append.mp up).2.1).1 q g
       have:=k3 q0 hq0
       omega
noncomputable def wa(r:List Int)(h:Nat)(z:Nat)(q:Nat × Nat):Bool:=(goN r.length q.1 q.2 z).all fun p=>decide (r[p]?=some (h:Int))
noncomputable def eZ(zs r:List Int)(h:Nat):List (Nat × Nat):=(kM r.length (zO zs h)).filter (wa r h (zO zs h))
noncomputable def ij(zs r:List Int):List (Nat × Nat):=(AE zs.length).flatMap (eZ zs r)
theorem Zs{zs r:List Int}(h:RgZ zs r)(q:Nat × Nat):q∈ij zs r↔q∈xl r.length/\frP zs r q=true:=by
 have key:∀(k:Nat),k<zs.length->q.1<r.length->(decide (goN r.length q.1 q.2 (zO zs k)).Nodup=true/\wa r k (zO zs k) q=true↔r[q.1]?=some (k:Int)/\frP zs r q=true):=fun k hk hq=>by
  obtain⟨z1,z2,z3⟩:=xb h.sz hk
  have hmem:q.1∈goN r.length q.1 q.2 (zO zs k):=Bi.mpr ⟨0,AW.mpr (by omega),by rw[Nat.mul_zero,Nat.add_zero,Nat.mod_eq_of_lt hq]⟩
  constructor
  . rintro ⟨a,b⟩
    have b':=AI.mp b
    have hf:r[q.1]?=some (k:Int):=of_decide_eq_true (b' _ hmem)
    refine⟨hf,?_⟩
    unfold frP vf
    rw[aF hf,Aa]
    refine⟨AI.mpr fun p hp=>decide_eq_true ?_,a⟩
    rw[of_decide_eq_true (b' p hp),hf]
  . rintro ⟨hf,hp⟩
    unfold frP vf at hp
    rw[aF hf,Aa]at hp
    refine⟨hp.2,AI.mpr fun p hpm=>decide_eq_true ?_⟩
    rw[of_decide_eq_true (AI.mp hp.1 p hpm),hf]
 unfold ij
 rw[Dx]
 constructor
 . rintro ⟨k,hk,hq⟩
   obtain⟨h1,h2⟩:=B0.mp hq
   obtain⟨h3,h4⟩:=B0.mp h1
   have h5:q.1<r.length:=(vq.mp (show (q.1,q.2)∈_ from h3)).1
   exact⟨h3,((key k (AW.mp hk) h5).mp ⟨h4,h2⟩).2⟩
 . rintro ⟨h1,h2⟩
   have h5:q.1<r.length:=(vq.mp (show (q.1,q.2)∈_ from h1)).1
   obtain⟨g1,g2⟩:=h.hue r[q.1] (B5 h5)
   obtain⟨k,hk⟩:∃k:Nat,r[q.1]=k:=⟨r[q.1].toNat,by omega⟩
   have hf:r[q.1]?=some (k:Int):=by rw[Ae h5,hk]
   obtain⟨a,b⟩:=(key k (by omega) h5).mpr ⟨hf,h2⟩
   exact⟨k,AW.mpr (by omega),B0.mpr ⟨B0.mpr ⟨h1,a⟩,b⟩⟩
theorem pE:∀{vs:List Val} {k n:Nat} {v:Val},vs[k]?=some v->Val.tup [.int ((n+k:Nat):Int),v]∈zt n vs
 |[],_,_,_,h=>by simp at h
 |w::vs,0,n,v,h=>by
  have:w=v:=by simpa using h
  rw[this];exact .head _
 |w::vs,k+1,n,v,h=>by
  have:=pE (vs:=vs) (k:=k) (n:=n+1) (v:=v) (by simpa using h)
  rw[show n+(k+1)=n+1+k by omega]
  exact .tail _ this
noncomputable def wL(zs r:List Int):Val:=match tw zs r with
 |v::_=>.tup [.str "hue",v]
 |[]=>frV (frO zs r)
theorem dC{zs r:List Int}(h:Sz zs)(hr:Rg r)(he:tw zs r=[]):RgZ zs r:=by
 refine⟨h,hr,fun x hx=>⟨(hr.strip.2 x hx).1,?_⟩⟩
 obtain⟨k,hk,e⟩:=Bw hx
 have e2:r[k]?=some x:=by rw[Ae hk,e]
 have hm:Val.tup [.int (k:Nat),.int x]∈zt 0 (r.map .int):=by
  have:=pE (vs:=r.map .int) (k:=k) (n:=0) (v:=.int x) (by rw[AQ,e2];rfl)
  rwa [Dq]at this
 have:=Gv.mp he _ hm
 have this:(if (zs.length:Int)<=x then [Val.int (k:Nat)] else [])=[]:=this
 by_cases hn:(zs.length:Int)<=x
 . rw[if_pos hn]at this;cases this
 . omega
theorem cT{zs r:List Int}:(wL zs r).noRef=true:=by
 unfold wL
 split
 . rename_i v l e
   obtain⟨k,rfl,_⟩:=sx (zs:=zs) (ns:=r) (v:=v) (by rw[e];exact .head _)
   rw[tQ,yG,yG,w8,qF,wC];rfl
 . exact XI _
section
variable {T:Tbl}{Φ:Calls}{Ψ:xu}{G:Str->Option Val}{s:Sto}
theorem fP(c:pj Φ):qi Φ:=fun zs s h=>by
 rw[c _ s (rq zs).kd (rq zs).el]
 show Out.ok (Val.bool (decide (1<=(zs.map Val.int).length)&&decide ((zs.map Val.int).length<=4)&&(zs.map Val.int).all (ya 2 8))) s=_
 rw[Ai,decide_eq_true h.1,decide_eq_true h.2.1,rG h.2.2];rfl
def fM(Φ:Calls)(Ψ:xu):Prop:=∀(v:Val) (s:Sto),Kds v->yt v=false->Rz Φ Ψ "need_sizes" [v] s "NoSizes"
theorem iL(c:pj Φ)(hW:(T.xc.lookup ("NoSizes":Str)).isSome=true){v:Val}(hv:Kds v)(hr:yt v=false):RzF T Φ Ψ F.yD [v] s "NoSizes":=by
 have cs:=c v s hv.kd hv.el
 rw[hr]at cs
 have ht:evT Φ T.gl [some v] (.not (.val (.call "are_sizes" 0 (.cons (.var 0) .nil)))) s=.ok true s:=lB (b:=false) (yc (x_call (zA (zB rfl) zD) cs) zc)
 have hs:=U8 (b:=.nil) ht (uC (cs:=.nil) (se (e:=.call "NoSizes" 0 (.cons (.lit (.str "one to four sizes are due")) .nil))))
 refine⟨wm rfl (uC hs),_,(uL hs).trans ((T7 ht).trans ((uL se).trans (j8 (zA zK zD) ?_)))⟩
 rw[hW];rfl
structure XFR(f:Str)(Φ:Calls)(Ψ:xu):Prop where
 a:∀(v w:Val) (s:Sto),Kds v->yt v=false->Rz Φ Ψ f [v,w] s "NoSizes"
 b:∀(zs:List Int) (w:Val) (s:Sto),Sz zs->Kds w->sL w=false->Rz Φ Ψ f [tpI zs,w] s "NoRing"
theorem ah(cX:fM Φ Ψ){v w:Val}(hv:Kds v)(hr:yt v=false):RzF T Φ Ψ F66.zL [v,w] s "NoSizes":=iK (F:=F66.zL) rfl rfl (zA (zB rfl) zD) (cX v s hv hr)
theorem ai(c1:wq Φ)(cX:Ys Φ Ψ){zs:List Int}{w:Val}(h:Sz zs)(hw:Kds w)(hr:sL w=false):RzF T Φ Ψ F66.zL [tpI zs,w] s "NoRing":=lO (F:=F66.zL) rfl rfl (zA (zB rfl) zD) (c1 zs s h) (zA (zB rfl) zD) (cX w s hw hr)
theorem nV{v w:Val}{c:Str}(h:Rz Φ Ψ "first_round_wrong" [v,w] s c):RzF T Φ Ψ F66.zy [v,w] s c:=by
 obtain⟨a,as,b⟩:=h
 have he:zo Φ T.gl [some v,some w] (.cons (.var 0) (.cons (.var 1) .nil)) s=.ok [v,w] s:=zA (zB rfl) (zA (zB rfl) zD)
 have h1:evE Φ T.gl [some v,some w] (.call "first_round_wrong" 0 (.cons (.var 0) (.cons (.var 1) .nil))) s=.stuck:=x_call he a
 have hs:exS Φ T.gl [some v,some w] (.ret (.cmp .is (.call "first_round_wrong" 0 (.cons (.var 0) (.cons (.var 1) .nil))) (.lit .none))) s=.stuck:=by
  show ((evE Φ T.gl [some v,some w] (.call "first_round_wrong" 0 (.cons (.var 0) (.cons (.var 1) .nil))) s).bind _).bind _=_
  rw[h1];rfl
 refine⟨wm rfl (uC hs),as,(uL hs).trans ?_⟩
 simp only[xS,xE,he]
 exact b
def sy(Φ:Calls):Prop:=∀(zs r:List Int) (s:Sto),Sz zs->Rg r->Φ "first_round_wrong" 0 [tpI zs,tpI r] s=.ok (wL zs r) s
theorem mq(c1:wq Φ)(c2:tE Φ)(c3:lJ Φ)(c:rA Φ){zs r:List Int}(hz:Sz zs)(hr:Rg r):run T Φ F66.zL [tpI zs,tpI r] s=.ok (wL zs r) s:=by
 cases hs:tw zs r with
 |nil=>
  have:wL zs r=frV (frO zs r):=by unfold wL;rw[hs]
  rw[this]
  exact kQ c1 c2 c3 c (dC hz hr hs)
 |cons v l=>
  have hv:wL zs r=.tup [.str "hue",v]:=by unfold wL;rw[hs]
  obtain⟨k,rfl,_⟩:=sx (zs:=zs) (ns:=r) (v:=v) (by rw[hs];exact .head _)
  have ch:=c3 zs r s
  rw[show qZ zs r=.int (k:Nat) by unfold qZ;rw[hs]]at ch
  have hn:=cT (zs:=zs) (r:=r)
  rw[hv]at hn ⊢
  rw[post_eq,F66.zL,xX]
  refine⟨rfl,?_⟩
  show (zY Φ T.gl [some (tpI zs),some (tpI r),none,none,none,none] _ s).post _
  refine xn (x_call (zA (zB rfl) zD) (c1 zs s hz)) (xn (x_call (zA (zB rfl) zD) (c2 r s hr)) (xm (x_call (zA (zB rfl) (zA (zB rfl) zD)) ch) ?_))
  show (zY Φ T.gl [some (tpI zs),some (tpI r),some (.int (k:Nat)),none,none,none] _ s).post _
  exact qO (yc (yQ (zB rfl) zK (show zQ .isNot (.int (k:Nat)) .none s=.ok (.bool true) s from rfl)) zc) (yW (xA (zA zK (zA (zB rfl) zD)) (show 2<=zU by decide)) (ye hn))
def jD(Φ:Calls):Prop:=∀(zs r:List Int) (s:Sto),Sz zs->Rg r->Φ "fits_round" 0 [tpI zs,tpI r] s=.ok (.bool (wL zs r).isN) s
theorem kR(c:sy Φ){zs r:List Int}(hz:Sz zs)(hr:Rg r):run T Φ F66.zy [tpI zs,tpI r] s=.ok (.bool (wL zs r).isN) s:=by
 rw[post_eq,F66.zy,xX]
 refine⟨rfl,?_⟩
 show (zY Φ T.gl [some (tpI zs),some (tpI r)] _ s).post _
 exact yW (yQ (x_call (zA (zB rfl) (zA (zB rfl) zD)) (c zs r s hz hr)) zK rfl) (ye xU)
end
end M
end
section
namespace M
open PySem Hd
noncomputable def ek(h:Heap)(a:Addr):Option Obj:=(h.get? a).bind fun o=>if xH o then none else some o
theorem ZO{h:Heap}{a:Addr}{o:Obj}(e:h.get? a=some o)(n:xH o=false):ek h a=some o:=by unfold ek;rw[e];show (if xH o=true then none else some o)=some o;rw[n];rfl
theorem jf{h:Heap}{a:Addr}{o:Obj}(e:ek h a=some o):h.get? a=some o/\xH o=false:=by
 unfold ek at e
 obtain⟨o',e1,e2⟩:=Ea.mp e
 split at e2
 . cases e2
 . rename_i z
   cases e2
   exact⟨e1,by simpa using z⟩
noncomputable def zu(h:Heap):KF:=(AE h.objs.size).filterMap fun a=>(ek h a).map fun o=>(a,o)
theorem sg{g:Addr->Option Obj}{a:Addr}:∀{l:List Addr},a∈l->(l.filterMap fun b=>(g b).map fun o=>(b,o)).lookup a=g a
 |b::r,hm=>by
  rw[A4]
  by_cases e:a=b
  . subst e
    cases hg:g a with
    |none=>
     show (r.filterMap _).lookup a=none
     by_cases m:a∈r
     . rw[sg m,hg]
     . exact Gu.mpr fun p hp=>by
        obtain⟨c,hc,e⟩:=BW.mp hp
        obtain⟨o,_,rfl⟩:=A6.mp e
        have z:a≠c:=fun z=>m (by rw[z];exact hc)
        simpa using z
    |some o=>show (List.lookup a ((a,o)::_))=_;rw[Au,beq_self_eq_true]
  . have m:a∈r:=(Al.mp hm).resolve_left e
    cases hg:g b with
    |none=>exact sg m
    |some o=>
     show (List.lookup a ((b,o)::_))=_
     rw[Au,beq_false_of_ne e]
     exact sg m
theorem z0{h:Heap}{a:Addr}(o:Obj)(e:h.get? a=some o)(n:xH o=false):(zu h).lookup a=some o:=by
 rw[<-ZO e n]
 exact sg (AW.mpr (An e))
theorem ub{h:Heap}:(zu h).In h:=fun a o e=>by
 obtain⟨c,_,e⟩:=BW.mp (xD e)
 obtain⟨o',e1,e2⟩:=A6.mp e
 cases e2
 exact(jf e1).1
theorem ik{h:Heap}{a:Addr}{o:Obj}(e:(zu h).lookup a=some o):xH o=false:=by
 obtain⟨c,_,e⟩:=BW.mp (xD e)
 obtain⟨o',e1,e2⟩:=A6.mp e
 cases e2
 exact(jf e1).2
theorem tR{h:Heap}{x:Str}{v:Option Value}(e:nsH h x=some v):BF (zu h) AN x=some v:=by
 unfold nsH at e
 split at e
 . rename_i o ho
   have hn:xH o=false:=by
    unfold BF at e
    rw[Au,beq_self_eq_true]at e
    dsimp only at e
    split at e
    . rename_i hd;cases hd;unfold xH;simp
    . cases e
   unfold BF at e ⊢
   rw[z0 o ho hn]
   rw[Au,beq_self_eq_true]at e
   exact e
 . cases e
theorem fz{h:Heap}{cd:Value}{x:Str}(e:fw h cd x=true):BZ (zu h) cd x=true:=by
 unfold fw at e
 split at e
 . split at e
   . rename_i c o ho
     rw[Aa,AX]at e
     obtain⟨hn,e⟩:=e
     unfold BZ at e ⊢
     dsimp only at e ⊢
     rw[Au,beq_self_eq_true]at e
     rw[z0 o ho hn]
     exact e
   . cases e
 . cases e
theorem args_eq(st:Stmt):args st=L2.xR st/\body st=L2.yU st/\scope st=L2.zG st:=by cases st<;>exact⟨rfl,rfl,rfl⟩
theorem X6{h:Heap}{p:Str × Stmt}(e:Zw h p.1=Yk p):sE (zu h) p.1 p.2:=by
 obtain⟨a1,a2,a3⟩:=args_eq p.2
 unfold Yk at e
 rw[a1,a2,a3]at e
 unfold Zw at e
 split at e
 . rename_i f hf
   split at e
   . rename_i oc od fd osl ho
     split at e
     . rename_i hc
       have e':=AG e
       obtain⟨n,q,ps,b,sc,g,cl,df,kw,dc,pm,an,cd,ct,bl⟩:=fd
       injection e' with e1 e2 e3 e4 e5 e6 e7 e8 _ _ _ _ _ _ e9
       subst e1 e2 e3 e4 e5 e6 e7 e8 e9
       exact X5 (tR hf) (z0 _ ho (by unfold xH;simp)) (fz hc) (by unfold B7;dsimp only;rw[z0 _ ho (by unfold xH;simp)])
     . cases e
   . cases e
 . cases e
noncomputable def gv:G->Val
 |.int i=>.int i
 |.str x=>.str x
 |.ctup ns=>.ctup ns
theorem Uo{h:Heap}{x:Str}{v:G}(e:glB h x v=true):iJ (zu h) x (gv v):=by
 cases v with
 |int i=>
  unfold glB at e;dsimp only at e
  split at e
  . rename_i hn;have:=of_decide_eq_true e;subst this;exact int_mk (tR hn)
  . cases e
 |str y=>
  unfold glB at e;dsimp only at e
  split at e
  . rename_i hn;have:=of_decide_eq_true e;subst this;exact str_mk (tR hn)
  . cases e
 |ctup ns=>
  unfold glB at e;dsimp only at e
  split at e
  . rename_i hn
    split at e
    . rename_i n od us k sl ho
      obtain⟨e1,e3⟩:=E3.mp e
      obtain⟨e1,e2⟩:=E3.mp e1
      have:=of_decide_eq_true e1;subst this
      exact av (us:=us.toList) (tR hn) (z0 _ ho rfl) (of_decide_eq_true e2) (of_decide_eq_true e3)
    . cases e
  . cases e
theorem Yt{h:Heap}{x:Str}(e:blB h x=true):BF (zu h) AN x=some none:=by
 unfold blB at e
 split at e
 . rename_i hn;exact tR hn
 . cases e
theorem jT{h:Heap}:∀{D:List (Str × Stmt)},(D.map fun p=>Zw h p.1)=D.map Yk->∀p∈D,sE (zu h) p.1 p.2
 |p::D,e,q,hq=>by
  rw[AJ,AJ]at e
  obtain⟨e1,e2⟩:=DF e
  rcases Al.mp hq with rfl|hq
  . exact X6 e1
  . exact jT e2 q hq
end M
end
section
namespace M
open PySem Hd PySem.W
noncomputable def scB(N ps:List Str)(sc:Scope):Bool:=decide (sc.kind=.function)&&!sc.isCoroutine&&!sc.isGenerator&&decide N.Nodup&&decide (N.take ps.length=ps)&&ps.all (fun x=>decide (sc.names.lookup x=some .local)||decide (sc.names.lookup x=some .cell))&&sc.names.all (fun y=>decide (y.2≠.free))
theorem bz{N ps:List Str}{sc:Scope}(h:scB N ps sc=true):L2.wM N ps sc:=by
 unfold scB at h
 simp only[Aa,decide_eq_true_eq,AX,AI,AL]at h
 obtain⟨⟨⟨⟨⟨⟨h1,h2⟩,h3⟩,h4⟩,h5⟩,h6⟩,h7⟩:=h
 exact⟨h1,h2,h3,h4,h5,h6,h7⟩
noncomputable def lkB(sc:Scope)(l:List (Str × Bn)):Bool:=l.all fun p=>decide (sc.names.lookup p.1=some p.2)
structure lL(st:Stmt)(cs ws:List Str)(pre:Option Str):Prop where
 args:argNames (L2.xR st)=some [("_law_e":Str)]
 scp:scB L2.kN ["_law_e"] (L2.zG st)=true
 sh:L2.fH (L2.zG st) cs ws pre (L2.yU st)
 lk:lkB (L2.zG st) [("_law_e",.local),("_law_marks",.local),("_law_words",.local),("isinstance",.globalImplicit),("ValueError",.globalImplicit)]=true
structure oA(m:Bool)(kx:Str)(st:Stmt):Prop where
 args:argNames (L2.xR st)=some [("_law_call":Str)]
 scp:scB (L2.xZ m) ["_law_call"] (L2.zG st)=true
 sh:L2.fJ m kx (L2.yU st)
 lk:lkB (L2.zG st) ((("_law_call":Str),NameKind.local)::(("_law_e":Str),NameKind.local)::(("HueError":Str),Ee)::(kx,Ee)::if m then [] else [(("_law_word":Str),NameKind.local)])=true
noncomputable def wsB(cs ws:List Str)(pre:Option Str):Bool:=decide cs.Nodup&&decide (cs.length<=100)&&decide (ws.length<=100)&&ws.all (fun w=>decide (w.length<=100))&&(match pre with|none=>true|some x=>decide (x.length<=100))
noncomputable def xcB(rz cs ws:List Str)(pre:Option Str)(xc:List (Str × Str)):Bool:=xc.all fun p=>decide (p.1∈rz)&&(AE cs.length).any fun i=>decide (cs[i]?=some p.1)&&(match ws[i]? with|some x=>decide (p.2=L2.ans pre x)|none=>false)&&decide (p.2≠"great")
noncomputable def cg(q:Program)(c:Str):Bool:=(PyProof.Rows.ownsOf q).any fun o=>decide (o.name=c)&&(o.bm == Hd.veM)&&(o.newId == "ValueError.__new__")
section
variable {h0 h:Heap}{mg:Str->Option Value}
theorem fN{x:Str}{a:Addr}(e:adH h0 x=some a):nsIn (zu h0) AN x=some (some (.ref a)):=by
 unfold adH at e
 split at e
 . rename_i hn;cases e;exact tR hn
 . cases e
theorem ft{x:Str}{p:Addr × Obj}(hm:p∈Xy h0 x):h0.get? p.1=some p.2/\xH p.2=false:=by
 unfold Xy at hm
 split at hm
 . split at hm
   . rename_i a o ho
     split at hm
     . rename_i cd hcd
       rcases Al.mp hm with z|z
       . subst z
         refine⟨ho,?_⟩
         unfold xH
         rw[hcd];simp
       . split at z
         . rename_i n hn
           split at z
           . cases z
           . rename_i hz
             rw[Aq]at z
             subst z
             exact⟨hn,by simpa using hz⟩
         . cases z
     . cases hm
   . cases hm
 . cases hm
theorem jn{p:Addr × Obj}:∀{xs:List Str},p∈kcH h0 xs->h0.get? p.1=some p.2/\xH p.2=false
 |[],hm=>by cases hm
 |x::xs,hm=>by
  rcases AO.mp hm with z|z
  . exact ft z
  . exact jn z
theorem jo{xs:List Str}:L2.qV (kcH h0 xs) (zu h0):=fun a o e=>by
 obtain⟨e1,e2⟩:=jn (xD e)
 exact z0 o e1 e2
theorem Ym{K:KF}{C:Addr}(h:aY K C=true):L2.rB K C:=by
 unfold aY at h
 simp only[Aa,beq_iff_eq]at h
 obtain⟨⟨⟨⟨⟨h1,h2⟩,h3⟩,h4⟩,h5⟩,h6⟩:=h
 exact⟨h1,h2,h3,h4,h5,h6⟩
theorem nj{q:Program}{loose:List Str}{mean:ExcName->Option Value}{mb:Str->Option Value}{c:Str}{C:Addr}{bm:List Value}{base:Heap}(T:Gp q loose mean mg mb h)(KX:(zu h0).In h)(KB:(zu h0).In base)(ho:cg q c=true)(hm:mg c=some (.ref C))(hb:cL h0 C bm=true):L2.ClsAt base C bm:=by
 unfold cg at ho
 rw[BL]at ho
 obtain⟨o,hmem,ho⟩:=ho
 simp only[Aa,decide_eq_true_eq,beq_iff_eq]at ho
 obtain⟨⟨o1,o2⟩,o3⟩:=ho
 obtain⟨C',O,_⟩:=T.own o hmem
 have hb':=O.bound
 rw[o1,hm]at hb'
 cases hb'
 obtain⟨bm',N,nm,qq,bs,hdct,sn,sub,ab,col,dd,k0,k1,k2,k3,k5,mN,hC,hN,hq,_⟩:=O.obj
 rw[o3]at hC
 unfold cL at hb
 split at hb
 . rename_i ob hob
   split at hb
   . rename_i cd hcd
     rw[Aa,beq_iff_eq]at hb
     obtain⟨hb1,hb2⟩:=hb
     have hk:=z0 ob hob (by unfold xH;rw[hcd];simp)
     have e1:=KX _ _ hk
     rw[hC]at e1
     cases e1
     cases hcd
     obtain⟨_,rfl⟩:=DF hb1
     split at hb2
     . rename_i n hn
       have hkN:=z0 n hn (by simpa using hb2)
       obtain⟨on,es,ep,f1,f2,f3⟩:=hN
       rw[KX _ _ hkN]at f1
       cases f1
       exact⟨nm,qq,N,bs,hdct,sn,sub,ab,col,dd,k0,k1,k2,k3,k5,mN,KB _ _ hk,⟨n,es,ep,KB _ _ hkN,f2,f3⟩,hq _ (.head _)⟩
     . cases hb2
   . cases hb
 . cases hb
theorem SW{q:Program}{loose:List Str}{mean:ExcName->Option Value}{mb:Str->Option Value}{X:XT}{T:Tbl}{kx:Str}{ws:List Str}{pre:Option Str}{kst:Stmt}(sst:Bool->Stmt)(TT:Gp q loose mean mg mb h)(KX:(zu h0).In h)(ob:oj X h0=true)
 (hD:sE (zu h0) kx kst) (hS:∀b,T.md b=true->sE (zu h0) (L2.yb b) (sst b)/\oA b kx (sst b)) (hK:lL kst X.cs ws pre) (hb:∀x∈xw,nsIn (zu h0) AN x=some none) (hkd:(kx == ("__debug__":Str))=false)
 (hws:wsB X.cs ws pre=true) (hxc:xcB X.rz X.cs ws pre T.xc=true) (lX:((("HueError":Str))::X.rz).all (fun c=>cg q c)=true):Sc T (zu h0) mg:=by
 unfold oj at ob
 split at ob
 . cases ob
 . rename_i hue hhue
   simp only[Aa,AI,decide_eq_true_eq]at ob
   obtain⟨⟨⟨⟨⟨x1,x2⟩,x3⟩,x4⟩,x5⟩,x6⟩:=ob
   have mghue:=mg_of KX TT.g (fN hhue)
   have adm:∀c a,adH h0 c=some a->mg c=some (.ref a):=fun c a e=>mg_of KX TT.g (fN e)
   simp only[wsB,Aa,decide_eq_true_eq,AI]at hws
   obtain⟨⟨⟨⟨w1,w2⟩,w3⟩,w4⟩,w5⟩:=hws
   have lkk:∀{sc:Scope} {l:List (Str × Bn)} {x:Str} {k:Bn},lkB sc l=true->(x,k)∈l->sc.names.lookup x=some k:=fun{sc l x k} hh hm=>of_decide_eq_true (AI.mp hh _ hm)
   have KFn:L2.pv (zu h0) mg kx X.cs ws pre:=by
    obtain⟨f,fd,a1,a2⟩:=hD
    refine⟨⟨kst,f,fd,mg_of KX TT.g a1,a2,bz hK.scp,a2.binds fun kV doc pm an cdv ct us hl=>uU hK.args (by decide) us hl,hK.sh,lkk hK.lk (by simp),lkk hK.lk (by simp),lkk hK.lk (by simp),lkk hK.lk (by simp),lkk hK.lk (by simp)⟩,fun c hc=>?_,mg_none_of KX TT.g (hb _ (by decide)),mg_none_of KX TT.g (Yt x2),w1,w2,w3,fun w hw=>w4 w hw,fun x hx=>?_⟩
    . obtain⟨a,e⟩:=Cj.mp (x1 c hc)
      exact⟨a,adm c a e⟩
    . subst hx;exact of_decide_eq_true w5
   have raised:∀c∈X.rz,∃C,mg c=some (.ref C)/\(∃Kc,L2.qV Kc (zu h0)/\exmOne Kc (.ref C) (.ref hue)=some true)/\L2.Named (zu h0) mg X.cs C c/\cL h0 C (.ref hue::Hd.veM)=true:=fun c hc=>by
    have z:=x3 c hc
    split at z
    . cases z
    . rename_i C hC
      simp only[Aa,AI,beq_iff_eq]at z
      obtain⟨⟨⟨⟨z1,z2⟩,z3⟩,z4⟩,z5⟩:=z
      refine⟨C,adm c C hC,⟨_,jo,z2⟩,⟨_,jo,Ym z1,fun d hd=>?_,z4⟩,z5⟩
      obtain⟨a,e⟩:=Cj.mp (x1 d hd)
      have:=z3 d hd
      rw[e]at this
      rw[L2.fO (adm d a e)]
      exact this
   have xcf:∀c w,T.xc.lookup c=some w->c∈X.rz/\∃(i:Nat) (x:Str),X.cs[i]?=some c/\ws[i]?=some x/\w=L2.ans pre x/\w≠"great":=fun c w e=>by
    have z:=AI.mp hxc _ (xD e)
    simp only[Aa,decide_eq_true_eq,BL]at z
    obtain⟨z1,i,_,⟨z2,z3⟩,z4⟩:=z
    split at z3
    . rename_i x hx
      exact⟨z1,i,x,z2,hx,of_decide_eq_true z3,z4⟩
    . cases z3
   have hw:=AI.mp lX
   refine⟨⟨kx,X.cs,ws,pre,hue,mghue,KFn,fun b hbm=>?_,fun c w e=>?_,fun c w e base KB=>?_⟩,fun base KB=>?_⟩
   . obtain⟨⟨f,fd,a1,a2⟩,SS⟩:=hS b hbm
     refine⟨f,⟨⟨sst b,fd,mg_of KX TT.g a1,a2,bz SS.scp,a2.binds fun kV doc pm an cdv ct us hl=>uU SS.args (by decide) us hl,SS.sh,lkk SS.lk (by simp),lkk SS.lk (by simp),fun hbf=>lkk SS.lk (by subst hbf;simp),lkk SS.lk (by simp),lkk SS.lk (by simp)⟩,hkd⟩⟩
   . obtain⟨y1,i,x,y2,y3,y4,y5⟩:=xcf c w e
     obtain⟨C,r1,r2,r3,_⟩:=raised c y1
     exact⟨C,i,x,r1,r2,r3,y2,y3,y4,y5⟩
   . obtain⟨y1,_⟩:=xcf c w e
     obtain⟨C,r1,_,_,r4⟩:=raised c y1
     exact⟨C,r1,nj TT KX KB (hw c (Ao _ y1)) r1 r4,nj TT KX KB (hw _ (Av ..)) mghue x4⟩
   . obtain⟨bm,obj,b1,b2,b3,b4,b5,b6⟩:=TT.bmain
     unfold bmB at x5
     split at x5
     . rename_i b hbb
       have:=adm _ _ hbb
       rw[b1]at this;cases this
       split at x5
       . rename_i o hob
         have hk:=z0 o hob (by simpa using x5)
         have e1:=KX _ _ hk
         rw[b3]at e1;cases e1
         exact⟨bm,obj,b1,b2,KB _ _ hk,b4,b5,b6⟩
       . cases x5
     . cases x5
theorem tab_of{q:Program}{loose:List Str}{mean:ExcName->Option Value}{mb:Str->Option Value}{X:XT}{T:Tbl}{D:List (Str × Stmt)}(TT:Gp q loose mean mg mb h)(KX:(zu h0).In h)(ob:oj X h0=true)(htb:T.tb=X.tb)
 (hd:∀p∈D,sE (zu h0) p.1 p.2) (lY:X.tb.all (fun g=>(Fb q).any (fun d=>decide (d.name=g))&&(D.lookup g).isSome)=true):∃tabs,UP T (zu h0) mg h tabs:=by
 have nd:(X.tb.map (ki h0)).Nodup:=by
  unfold oj at ob
  split at ob
  . cases ob
  . simp only[Aa,decide_eq_true_eq]at ob
    exact ob.2
 have one:∀g∈X.tb,∃P,ki h0 g=some P/\h.get? P=some (tabObj #[])/\(zu h0).lookup P=none/\GH h P/\∃(fa c:Addr) (o:Obj) (fd:Bu),mg g=some (.ref fa)/\(zu h0).lookup fa=some o/\o.data=.func fd/\fd.code=.ref c/\∀h':Heap,(zu h0).In h'->CodeHd h' c P:=fun g hg=>by
  have z:=AI.mp lY g hg
  rw[Aa,BL]at z
  obtain⟨⟨d,d1,d2⟩,z2⟩:=z
  have d2:=of_decide_eq_true d2
  obtain⟨st,hst⟩:=Cj.mp z2
  obtain⟨fa,fd,a1,a2⟩:=hd _ (xD hst)
  obtain⟨oc,od,kV,doc,pm,an,cdv,ct,osl,rfl,lk,hcd⟩:=a2.ex
  have hmg:=mg_of KX TT.g a1
  obtain⟨a',o',fd',c,P,t1,t2,t3,t4,t5,t6⟩:=TT.tab d d1
  rw[d2,hmg]at t1;cases t1
  rw[KX _ _ lk]at t2;cases t2
  cases t3
  have hcdv:cdv=.ref c:=t4
  subst hcdv
  have hkc:∃occ,(zu h0).lookup c=some occ:=by
   unfold codeIn at hcd
   dsimp only at hcd
   split at hcd
   . rename_i hh;exact⟨_,hh⟩
   . cases hcd
  obtain⟨occ,hkc⟩:=hkc
  obtain⟨⟨oT,vsT,u1,u2,u3,u4⟩,u5⟩:=id t6
  rw[KX _ _ hkc]at u1;cases u1
  refine⟨P,?_,u5,?_,t6.isCodeTable,fa,c,_,_,hmg,lk,rfl,rfl,fun h' K'=>?_⟩
  . have g1:adH h0 g=some fa:=by
     unfold adH
     have a1':nsIn (zu h0) AN g=some (some (.ref fa)):=a1
     unfold nsH
     unfold nsIn at a1'
     split at a1'
     . rename_i c1 d1 es n1 s1 hmn
       have:=ub _ _ hmn
       rw[this]
       dsimp only
       unfold nsIn
       rw[Au,beq_self_eq_true]
       dsimp only
       rw[a1']
     . cases a1'
    unfold ki
    rw[g1]
    dsimp only
    rw[ub _ _ lk]
    dsimp only
    rw[ub _ _ hkc]
    dsimp only
    rw[u3]
    dsimp only
    rw[u4]
  . cases e:(zu h0).lookup P with
    |none=>rfl
    |some o=>
     have n1:=ik e
     have e2:=KX _ _ e
     rw[u5]at e2;cases e2
     cases n1
  . obtain⟨o2,vs2,file,tf,flags,tg,inF,text,tt,v1,v2,v3⟩:=CodeHd.of t5 t6
    rw[KX _ _ hkc]at v1;cases v1
    exact⟨_,vs2,file,tf,flags,tg,inF,text,tt,K' _ _ hkc,v2,v3⟩
 have hmap:X.tb.map (ki h0)=(X.tb.map fun g=>(ki h0 g).getD 0).map some:=by
  rw[C7]
  refine E8 fun g hg=>?_
  obtain⟨P,e,_⟩:=one g hg
  simp[e]
 refine⟨X.tb.map fun g=>(ki h0 g).getD 0,?_,by rw[htb,Ai],fun i g hi=>?_⟩
 . rw[hmap]at nd
   exact(Cq.mp nd).imp fun hne z=>hne (by rw[z])
 . rw[htb]at hi
   obtain⟨P,e,r⟩:=one g (AS hi)
   refine⟨P,?_,r⟩
   rw[AQ,hi]
   simp[e]
end
def fK(D:List (Str × Stmt))(glL:List (Str × Val))(X:XT)(K:KF)(h:Heap):Prop:=K.In h/\(∀p∈D,sE K p.1 p.2)/\(∀p∈glL,iJ K p.1 p.2)/\(∀x∈xw,nsIn K AN x=some none)/\∃h0,K=zu h0/\oj X h0=true
theorem bx{D:List (Str × Stmt)}{gl:List (Str × G)}{X:XT}{s:Shared}(e:(cU D gl s,oj X s.heap)=(aQ D,true)):∃K,fK D (gl.map fun p=>(p.1,gv p.2)) X K s.heap:=by
 obtain⟨e0,eX⟩:=Prod.mk.inj e
 obtain⟨e1,e2⟩:=Prod.mk.inj e0
 obtain⟨e2,e3⟩:=E3.mp e2
 exact⟨zu s.heap,ub,jT e1,fun p hp=>(by obtain⟨p',h1,rfl⟩:=Bi.mp hp;exact Uo (AI.mp e2 p' h1)),fun x hx=>Yt (AI.mp e3 x hx),s.heap,rfl,eX⟩
theorem Xx{l:PySem.W.OpenLaw}{q:Program}{d:DefRec}{fnL:List ((Str × Nat) × Fn)}{glL:List (Str × Val)}{gl:List (Str × G)}{D:List (Str × Stmt)}{F:Fn}{n N:Nat}{x:Str}{X:XT}{tb:List Str}{xc:List (Str × Str)}{md:Bool->Bool}{kx:Str}{ws:List Str}{pre:Option Str}{kst:Stmt}(sst:Bool->Stmt)
 (Vv:l.wellSaid=true) (left:PySem.W.LeftO l.row.prog q [] (fun s=>Fx l.row.records s) (fun z=>(cU D gl z,oj X z.heap)) (fun _=>(aQ D,true)) N) (hgl:glL=gl.map fun p=>(p.1,gv p.2))
 (eu:PySem.W.defOf q l.row.name=some (d,[])) (hp:l.row.prog.theDef l.row.name=some (d.params,d.body,d.scope)) (hk:PySem.W.kwWritten? d.params.kwonlyargs d.params.kw_defaults=some [])
 (hwr:(!l.row.writes||l.row.records.isEmpty)=true) (ok:(PySem.W.chainsOk q&&PySem.W.opensWell l.row.prog&&(PySem.W.frees l.row.toRowW&&l.row.within.isEmpty))=true) (hb:l.row.prog.bare) (hw:l.row.toRowW.promised)
 (hn:l.most=some 63) (hdf:d.params.defaults=[]) (hr:L2.yu n callerA) (hF:(kj fnL glL tb xc md).fn d.name 0=some F) (hx:F.ps=[x]) (hc:pU fnL D=true)
 (htb:tb=X.tb) (htb2:fnL.all (fun p=>!decide (("!":Str)∈p.2.N)||decide (p.1.1∈tb))=true) (hkx:D.lookup kx=some kst) (hK:lL kst X.cs ws pre) (hS:∀b,md b=true->D.lookup (L2.yb b)=some (sst b)/\oA b kx (sst b)) (hkd:(kx == ("__debug__":Str))=false)
 (hws:wsB X.cs ws pre=true) (hxc:xcB X.rz X.cs ws pre xc=true) (lX:((("HueError":Str))::X.rz).all (fun c=>cg q c)=true) (lY:X.tb.all (fun g=>(Fb q).any (fun d=>decide (d.name=g))&&(D.lookup g).isSome)=true)
 (HL:∀ns:List Int,ns.length<=63->∃s',zE (kj fnL glL tb xc md) n d.name 0 [.scr ns] (tb.map .tb)=.ok (.bool true) s'):l.Holds:=by
 refine PySem.W.holds_law Vv fun said'=>PySem.W.holds_open (q:=q) (loose:=[]) (Xt:=fun s=>Fx l.row.records s) (XP:=fun _ _=>True) (YP:=fun _ h=>∃K,fK D glL X K h) left (fun w s e=>hgl▸bx e)
  (fun w h h' ⟨K,a,b⟩ k=>⟨K,a.keeps k,b⟩) (fun _ _=>trivial) (fun _ _ _ _ _=>trivial) eu hp hk (fun s e=>PySem.W.recFacts_of e) hwr said' ok hb hw ?_
 intro w s₀ s₁ mg mb G ⟨K,Y⟩
 obtain⟨Y1,Y2,Y3,Y4,h0,rfl,ob⟩:=id Y
 refine walk (l:=l) (q:=q) (loose:=[]) (XP:=fun _ _=>True) (YP:=fun _ h=>fK D glL X (zu h0) h) (d:=d) (K:=zu h0) (T:=kj fnL glL tb xc md) hn hdf hr (fun _ _ y=>y.1) hF hx (fun w s₀ mg mb h G KX=>⟨?_,?_⟩) HL w s₀ s₁ mg mb G Y
 . exact UA KX G.T.g Y2 Y3 Y4 hc (fun _=>htb2) fun _=>SW sst G.T KX ob (Y2 _ (xD hkx)) (fun b hbm=>⟨Y2 _ (xD (hS b hbm).1),(hS b hbm).2⟩) hK Y4 hkd hws hxc lX
 . exact tab_of G.T KX ob htb Y2 lY
end M
end
section
namespace P62
open PySem M
noncomputable def z9:Fn:=F.z9
noncomputable def yd:Fn:=F75.yd
noncomputable def yy:Fn:=F61.yy
noncomputable def yS:Fn:=F75.yS
noncomputable def yY:Fn:=F61.yY
noncomputable def zk:Fn:=F61.zk
noncomputable def yC:Fn:=F.yC
noncomputable def yk:Fn:=F66.yk
noncomputable def yl:Fn:=F.yl
noncomputable def zr:Fn:=F.zr
noncomputable def zL:Fn:=F66.zL
noncomputable def zy:Fn:=F66.zy
noncomputable def yZ:Fn:=F66.yZ
noncomputable def xJ:Fn:=F.xJ
noncomputable def xK:Fn:=F.xK
noncomputable def z8:Fn:=F66.z8
noncomputable def qk:Fn:=⟨["_law_script","_law_k","_law_pen_here","_law_many","_law_thin","_law_spot","_law_odd","_law_none","_law_bad","_law_sizes","_law_ring","_law_one","_law_said","!"],["_law_script"],false,(.cons (.forS (.nm 1) (.range1 (.blt .max false (.cons (.lit (.int 1)) (.cons (.blt .min false (.cons (.blt .len false (.cons (.var 0) .nil)) (.cons (.lit (.int 5)) .nil))) .nil)))) (.cons (.asg 2 (.call "_law_pen" 1 (.cons (.call "_law_cell_at" 0 (.cons (.var 0) (.cons (.var 1) .nil))) .nil))) (.cons (.par [3,4] (.cons (.bin false .add (.lit (.int 1)) (.call "_law_draw" 0 (.cons (.var 2) (.cons (.lit (.int 14)) .nil)))) (.cons (.call "_law_draw" 0 (.cons (.var 2) (.cons (.lit (.int 2)) .nil))) .nil))) (.cons (.par [5,6] (.cons (.bin false .mod (.call "_law_draw" 0 (.cons (.var 2) (.cons (.lit (.int 14)) .nil))) (.var 3)) (.cons (.call "_law_draw" 0 (.cons (.var 2) (.cons (.lit (.int 4)) .nil))) .nil))) (.cons (.asg 7 (.ix (.lst false (.cons (.tup .nil) (.cons (.lst false (.cons (.lit (.int 0)) .nil)) (.cons (.tup (.cons (.lit (.int 4)) .nil)) (.cons (.bin false .mul (.tup (.cons (.lit (.int 0)) .nil)) (.lit (.int 41))) (.cons (.lit .none) (.cons (.lit (.str "01")) (.cons (.tup (.cons (.lit (.bool true)) .nil)) (.cons .dct0 (.cons (.tup (.cons (.lit (.int 0)) (.cons (.neg (.lit (.int 1))) .nil))) .nil)))))))))) (.call "_law_draw" 0 (.cons (.var 2) (.cons (.lit (.int 9)) .nil))))) (.cons (.asg 8 (.ix (.lst false (.cons (.tup .nil) (.cons (.lst false (.cons (.lit (.int 3)) .nil)) (.cons (.tup (.cons (.lit (.int 1)) .nil)) (.cons (.tup (.cons (.lit (.int 9)) .nil)) (.cons (.bin false .mul (.tup (.cons (.lit (.int 2)) .nil)) (.lit (.int 5))) (.cons (.lit .none) (.cons (.lit (.str "3")) (.cons (.tup (.cons (.lit (.bool true)) .nil)) (.cons .dct0 (.cons (.tup (.cons (.lit (.int 3)) (.cons (.lit (.int 1)) .nil))) .nil))))))))))) (.call "_law_draw" 0 (.cons (.var 2) (.cons (.lit (.int 10)) .nil))))) (.cons (.asg 9 (.blt .tuple false (.cons (.comp false ["_law_hue","_law_pen_here"] [none,some 2] (.bin false .add (.lit (.int 2)) (.call "_law_draw" 0 (.cons (.var 1) (.cons (.lit (.int 7)) .nil)))) (.nm 0) (.range1 (.bin false .add (.lit (.int 1)) (.call "_law_draw" 0 (.cons (.var 2) (.cons (.lit (.int 4)) .nil))))) .nil) .nil))) (.cons (.asg 10 (.blt .tuple false (.cons (.comp false ["_law_place","_law_pen_here","_law_sizes","_law_thin"] [none,some 2,some 9,some 4] (.bin false .mul (.call "_law_draw" 0 (.cons (.var 1) (.cons (.blt .len false (.cons (.var 2) .nil)) .nil))) (.bin false .sub (.lit (.int 1)) (.bin false .mul (.var 3) (.blt .int false (.cons (.cmp .gt (.call "_law_draw" 0 (.cons (.var 1) (.cons (.lit (.int 3)) .nil))) (.lit (.int 0))) .nil))))) (.nm 0) (.range1 (.var 3)) .nil) .nil))) (.cons (.forS (.nm 11) (.val (.lst false (.cons (.var 10) (.cons (.bin false .add (.bin false .add (.sl false (.var 10) .no (.yes (.var 5)) .no) (.tup (.cons (.var 6) .nil))) (.sl false (.var 10) (.yes (.bin false .add (.var 5) (.lit (.int 1)))) .no .no)) (.cons (.sl false (.var 10) .no .no (.yes (.neg (.lit (.int 1))))) (.cons (.bin false .mul (.tup (.cons (.var 6) .nil)) (.var 3)) (.cons (.sl false (.var 10) .no (.yes (.lit (.int 1))) .no) (.cons (.bin false .add (.var 10) (.sl false (.var 10) .no (.yes (.lit (.int 1))) .no)) .nil)))))))) (.cons (.ifS (.not (.val (.call "_law_fits" 0 (.cons (.var 9) (.cons (.var 11) .nil))))) (.cons (.ret (.lit (.bool false))) .nil) .nil) .nil)) (.cons (.asg 12 (.lst true (.cons (.call "fits_round" 101 (.cons (.var 8) (.cons (.var 7) .nil))) .nil))) (.cons (.expr (.xF .append false (.var 12) (.cons (.call "first_round_wrong" 101 (.cons (.var 8) (.cons (.var 7) .nil))) .nil))) (.cons (.expr (.xF .append false (.var 12) (.cons (.call "fits_round" 101 (.cons (.var 9) (.cons (.var 7) .nil))) .nil))) (.cons (.expr (.xF .append false (.var 12) (.cons (.call "first_round_wrong" 101 (.cons (.var 9) (.cons (.var 7) .nil))) .nil))) (.cons (.ifS (.val (.cmp .ne (.var 12) (.bin false .add (.bin false .mul (.lst false (.cons (.lit (.str "! sizes")) .nil)) (.lit (.int 2))) (.bin false .mul (.lst false (.cons (.lit (.str "! ring")) .nil)) (.lit (.int 2)))))) (.cons (.ret (.lit (.bool false))) .nil) .nil) .nil)))))))))))))) (.cons (.ret (.lit (.bool true))) .nil))⟩
noncomputable def yR:Fn:=F66.yR
noncomputable def yD:Fn:=F.yD
noncomputable def fnL:List ((Str × Nat) × Fn):=((("_law_cell_at":Str),(0:Nat)),z9)::((("_law_draw":Str),(0:Nat)),yd)::((("_law_fits":Str),(0:Nat)),yy)::((("_law_pen":Str),(1:Nat)),yS)::((("_law_rounds":Str),(0:Nat)),yY)::((("_law_wrong":Str),(0:Nat)),zk)::((("are_sizes":Str),(0:Nat)),yC)::((("are_unlike":Str),(0:Nat)),yk)::((("are_wholes":Str),(0:Nat)),yl)::((("first_hue_wrong":Str),(0:Nat)),zr)::((("first_round_wrong":Str),(0:Nat)),zL)::((("fits_round":Str),(0:Nat)),zy)::((("going_round":Str),(0:Nat)),yZ)::((("is_strip":Str),(0:Nat)),xJ)::((("is_whole":Str),(0:Nat)),xK)::((("is_whole_round":Str),(0:Nat)),z8)::((("law":Str),(0:Nat)),qk)::((("need_ring":Str),(0:Nat)),yR)::((("need_sizes":Str),(0:Nat)),yD)::[]
noncomputable def glL:List (Str × Val):=[("MOST_PLACES",.int 40),("LEAST_SIZE",.int 2),("MOST_SIZE",.int 8),("HUES",.ctup [0,1,2,3])]
noncomputable def tb:List Str:=["law"]
noncomputable def xc:List (Str × Str):=[("NoSizes","! sizes"),("NoRing","! ring")]
noncomputable def md:Bool->Bool:=fun b=>b
noncomputable def T:Tbl:=kj fnL glL tb xc md
set_option maxHeartbeats 0 in
theorem V6:pU fnL D=true:=by decide +kernel
end P62
end
section
namespace P62
open PySem M
theorem mM{x:Str}{s:Sto}:zQ .ne (.str x) (.str x) s=.ok (.bool false) s:=by simp[zQ]
theorem eT{x:Str}{s:Sto}:zQ .eq (.str x) (.str x) s=.ok (.bool true) s:=by simp[zQ]
theorem XD{vs:List Val}{k:Nat}(h:k<vs.length):∃v,v∈vs/\∀s,wU (.lst vs) (.int k) s=.ok v s:=⟨vs[k],B5 h,fun s=>WG (Ae h)⟩
noncomputable def rdS(q:Nat × Nat):Val:=tpS "round" (v2 q)
theorem W7(q:Nat × Nat):(rdS q).noRef=true:=by
 show (Val.tup [.str "round",.int (q.1:Nat),.int (q.2:Nat)]).noRef=true
 rw[tQ,yG,yG,yG,w8,qF,wC,wC];rfl
theorem jh:∀l:List (Nat × Nat),xO (l.map rdS)=true
 |[]=>by rw[DT,xO]
 |q::l=>by
  rw[AJ,xO,jh l]
  show ((Val.tup [.str "round",.int (q.1:Nat),.int (q.2:Nat)]).isD&&true)=true
  rw[Val.isD,xO,xO,xO,xO,Val.isD,Val.isD,Val.isD];decide +kernel
theorem lD:∀l:List (Nat × Nat),pY "round" (l.map rdS)=some (l.map v2)
 |[]=>rfl
 |q::l=>by
  show (if ("round":Str)="round" then (match intsOf [Val.int (q.1:Nat),.int (q.2:Nat)],pY "round" (l.map rdS) with|some z,some zs=>some (z::zs)|_,_=>none) else none)=_
  rw[if_pos rfl,lD l];rfl
theorem W5{l:List (Nat × Nat)}{i:Nat}{s:Sto}(hl:l≠[])(hs:s[i]?=some (.lst (l.map rdS))):blt .minS false [.ref i] s=.ok (tpS "round" (L2.oY (l.map v2))) s:=by
 have e:jg (l.map rdS)="round":=by
  cases l with
  |nil=>exact absurd rfl hl
  |cons q l=>rfl
 simp only[blt,yN,hs]
 rw[e,lD]
 show (if l.map v2≠[] then Out.ok (tpS "round" (L2.oY (l.map v2))) s else .stuck)=_
 rw[if_pos (fun h=>hl (E9.mp h))]
theorem ZI{i:Nat}{vs:List Val}{s:Sto}(h:s[i]?=some (.lst vs))(hd:xO vs=true):zQ .eq (.ref i) (.lst []) s=.ok (.bool vs.isEmpty) s:=by
 have e:=eq_nil (s:=s) hd
 rw[<-e]
 simp only[zQ,zj,yI,h]
theorem ZR{zs r:List Int}:xO (tw zs r)=true:=by
 have:∀l:List Val,(∀v∈l,∃k:Nat,v=.int k)->xO l=true:=fun l=>by
  induction l with
  |nil=>intro _;rw[xO]
  |cons v l ih=>
   intro h
   obtain⟨k,rfl⟩:=h v (.head _)
   rw[xO,ih fun w hw=>h w (.tail _ hw),Val.isD];rfl
 exact this _ fun v hv=>by obtain⟨k,e,_⟩:=sx hv;exact⟨k,e⟩
noncomputable def W6(r:List Int)(h:Nat):Val->List Val
 |.int i=>if r[i.toNat]?=some (h:Int) then [] else [.int i]
 |_=>[]
section
variable {Φ:Calls}{s:Sto}
def ph(Φ:Calls):Prop:=∀(zs r:List Int) (s:Sto),Sz zs->Rg r->Φ "_law_wrong" 0 [tpI zs,tpI r] s=.ok (wL zs r) s
theorem qN(c:nR Φ){zs r:List Int}(hz:Sz zs)(hr:Rg r):run T Φ F61.zk [tpI zs,tpI r] s=.ok (wL zs r) s:=by
 have hl:=hr.le
 have hpos:=hr.pos
 have h4:=hz.2.1
 rw[post_eq,F61.zk,xX]
 refine⟨rfl,?_⟩
 show (zY Φ T.gl [some (tpI zs),some (tpI r),none,none,none,none,none,none,none] _ s).post _
 have hc:evE Φ T.gl [some (tpI zs),some (tpI r),none,none,none,none,none,none,none] (.comp false ["_law_place","_law_hue","_law_sizes"] [none,none,some 0] (.var 0) (.nms [0,1]) (.enum (.var 1)) (.cons (.val (.cmp .ge (.var 1) (.blt .len false (.cons (.var 2) .nil)))) .nil)) s=.ok (.lst (tw zs r)) s:=by
  rw[post_eq]
  refine uj (fun e=>∃o1 o2,e=[o1,o2,some (tpI zs)]) (aB zs) (zt 0 (r.map .int)) (s1:=s) (sZ (zB rfl)) ⟨none,none,rfl⟩ ?_ (zC.mpr ⟨rfl,rfl⟩)
  rintro x hx e ⟨o1,o2,rfl⟩
  obtain⟨k,i,hk,rfl⟩:=vp hx
  refine⟨[some (.int (k:Nat)),some (.int i),some (tpI zs)],rfl,⟨_,_,rfl⟩,?_⟩
  rw[aO (yc (yQ (zB rfl) (uN rfl) ge_int) zc)]
  refine zC.mpr ⟨rfl,?_⟩
  rw[show aB zs (.tup [.int (k:Nat),.int i])=if (zs.length:Int)<=i then [Val.int (k:Nat)] else [] from rfl]
  by_cases hn:(zs.length:Int)<=i
  . rw[decide_eq_true hn,if_pos rfl,if_pos hn,zB rfl]
    exact zC.mpr ⟨rfl,rfl⟩
  . rw[decide_eq_false hn,if_neg Aj,if_neg hn]
 refine xm hc ?_
 show (zY Φ T.gl [some (tpI zs),some (tpI r),some (.lst (tw zs r)),none,none,none,none,none,none] _ s).post _
 have tn:evT Φ T.gl [some (tpI zs),some (tpI r),some (.lst (tw zs r)),none,none,none,none,none,none] (.val (.cmp .ne (.var 2) (.lst false .nil))) s=.ok (!(tw zs r).isEmpty) s:=yc (yQ (zB rfl) (vk zD (A9 _)) (ne_nil ZR)) zc
 cases hs:tw zs r with
 |cons v l=>
  have hv:wL zs r=.tup [.str "hue",v]:=by unfold wL;rw[hs]
  have hn:=cT (zs:=zs) (r:=r)
  rw[hv]at hn ⊢
  rw[hs]at tn
  exact qO tn (yW (xA (zA zK (zA (vh (zB rfl) zK ZU) zD)) (show 2<=zU by decide)) (ye hn))
 |nil=>
  have hG:RgZ zs r:=dC hz hr hs
  have hv:wL zs r=frV (frO zs r):=by unfold wL;rw[hs]
  rw[hs]at tn
  refine vI tn ?_
  refine xm (jA zD (A9 _)) ?_
  show (zY Φ T.gl [some (tpI zs),some (tpI r),some (.lst []),some (.ref s.length),none,none,none,none,none] _ (s++[.lst []])).post _
  have hfl:∀k,((AE k).flatMap (eZ zs r)).length<=k*1600:=fun k=>by
   have one:∀h,(eZ zs r h).length<=1600:=fun h=>Ax (Ca _ _) (Ax (Ca _ _) (Ax (pairs_len _) (D6 hl hl)))
   induction k with
   |zero=>simp
   |succ k ih=>rw[E2,Cw,Ap,En];have:=one k;omega
  refine zv.mpr (xk (fun rest e s'=>∃k o4 o5 o6 o7 o8,k<=zs.length/\rest=zt k ((zs.drop k).map .int)/\e=[some (tpI zs),some (tpI r),some (.lst []),some (.ref s.length),o4,o5,o6,o7,o8]/\s'=s++[.lst (((AE k).flatMap (eZ zs r)).map rdS)]) (zt 0 (zs.map .int)) (s1:=s++[.lst []]) (sZ (zB rfl)) ⟨0,_,_,_,_,_,A9 _,by rw[Dn],rfl,rfl⟩ ?_ ?_)
  . rintro x rest e s' ⟨k,o4,o5,o6,o7,o8,hk,hrest,rfl,rfl⟩
    obtain⟨v,ws,hv,rfl,rfl⟩:=rV hrest
    have hk':k<zs.length:=by
     refine Nat.lt_of_not_le fun hc=>?_
     rw[List.drop_eq_nil_of_le hc]at hv
     cases hv
    rw[BS hk',AJ]at hv
    obtain⟨rfl,rfl⟩:=DF hv
    obtain⟨z1,z2,z3⟩:=xb hz hk'
    have hzk:zs[k]=((zO zs k:Nat):Int):=by
     rw[Ae hk']at z1
     exact AG z1
    refine⟨_,rfl,?_⟩
    rw[hzk]
    show (zY Φ T.gl [some (tpI zs),some (tpI r),some (.lst []),some (.ref s.length),some (.int (k:Nat)),some (.int (zO zs k:Nat)),o6,o7,o8] _ _).post _
    generalize hP:(AE k).flatMap (eZ zs r)=P0
    have hPl:P0.length<=4*1600:=by rw[<-hP];exact Ax (hfl k) (Du _ (by omega))
    have hrd:(kM r.length (zO zs k)).length<=1600:=Ax (Ca _ _) (Ax (pairs_len _) (D6 hl hl))
    refine zv.mpr (xk (fun rest e s'=>∃A B o6 o7 o8,A++B=kM r.length (zO zs k)/\rest=B.map (rdV r.length (zO zs k))/\e=[some (tpI zs),some (tpI r),some (.lst []),some (.ref s.length),some (.int (k:Nat)),some (.int (zO zs k:Nat)),o6,o7,o8]/\s'=s++[.lst ((P0++A.filter (wa r k (zO zs k))).map rdS)]) ((kM r.length (zO zs k)).map (rdV r.length (zO zs k))) (s1:=s++[.lst (P0.map rdS)]) (oV (x_call (zA (uN rfl) (zA (zB rfl) zD)) (c r.length (zO zs k) _ (by omega) hl z3)) rfl) ⟨[],_,_,_,_,rfl,rfl,rfl,by rw[GF,AZ]⟩ ?_ ?_)
    . rintro x rest e s' ⟨A,B,o6,o7,o8,hAB,hB,rfl,rfl⟩
      cases B with
      |nil=>cases hB
      |cons q B=>
       obtain⟨rfl,rfl⟩:=DF hB
       obtain⟨f,d⟩:=q
       have hq:(f,d)∈kM r.length (zO zs k):=by rw[<-hAB];exact AU _ (.head _)
       have hAl:A.length<1600:=by
        have:=congrArg CZ hAB
        rw[Ap,Ar]at this
        omega
       refine⟨[some (tpI zs),some (tpI r),some (.lst []),some (.ref s.length),some (.int (k:Nat)),some (.int (zO zs k:Nat)),some (.int (f:Nat)),some (.int (d:Nat)),some (.lst ((wJ (goN r.length f d (zO zs k))).map .int))],rfl,?_⟩
       have hfl2:((P0++A.filter (wa r k (zO zs k))).map rdS).length<zU:=by
        rw[Ai,Ap]
        have:=Ca (wa r k (zO zs k)) A
        unfold zU
        omega
       generalize hgo:goN r.length f d (zO zs k)=ls
       have hlt:∀p∈ls,p<r.length:=fun p hp=>Y8 hpos (by rw[hgo];exact hp)
       have hcp:∀S:Sto,evE Φ T.gl [some (tpI zs),some (tpI r),some (.lst []),some (.ref s.length),some (.int (k:Nat)),some (.int (zO zs k:Nat)),some (.int (f:Nat)),some (.int (d:Nat)),some (.lst ((wJ ls).map .int))] (.comp false ["_law_place","_law_hue","_law_ring"] [none,some 4,some 1] (.var 0) (.nm 0) (.val (.var 8)) (.cons (.val (.cmp .ne (.ix (.var 2) (.var 0)) (.var 1))) .nil)) S=.ok (.lst ((wJ (ls.filter fun p=>!decide (r[p]?=some (k:Int)))).map .int)) S:=fun S=>by
        rw[post_eq]
        refine uj (fun e=>∃o,e=[o,some (.int (k:Nat)),some (tpI r)]) (W6 r k) ((wJ ls).map .int) (s1:=S) (oV (zB rfl) rfl) ⟨none,rfl⟩ ?_ ?_
        . rintro x hx e ⟨o,rfl⟩
          rw[vU]at hx
          obtain⟨p,hp,rfl⟩:=Bi.mp hx
          have hpl:=hlt p hp
          refine⟨[some (.int (p:Nat)),some (.int (k:Nat)),some (tpI r)],rfl,⟨_,rfl⟩,?_⟩
          rw[aO (yc (yQ (vh (zB rfl) (zB rfl) (rn (Ae hpl))) (zB rfl) ne_int) zc)]
          refine zC.mpr ⟨rfl,?_⟩
          rw[show W6 r k (.int (p:Int))=if r[p]?=some (k:Int) then [] else [.int (p:Int)] from rfl,Ae hpl]
          by_cases he:r[p]=(k:Int)
          . rw[decide_eq_true he,if_neg (by decide),if_pos (congrArg some he)]
          . rw[decide_eq_false he,if_pos (by decide),if_neg (fun q=>he (AG q)),zB rfl]
            exact zC.mpr ⟨rfl,rfl⟩
        . have e:((wJ ls).map Val.int).flatMap (W6 r k)=(wJ (ls.filter fun p=>!decide (r[p]?=some (k:Int)))).map .int:=by
           rw[vU,vU]
           clear hlt hgo
           induction ls with
           |nil=>rfl
           |cons p ls ih=>
            rw[AJ,BP,ih,EB]
            show (if r[p]?=some (k:Int) then [] else [Val.int (p:Int)])++_=_
            by_cases he:r[p]?=some (k:Int)
            . rw[if_pos he,decide_eq_true he];rfl
            . rw[if_neg he,decide_eq_false he];rfl
          rw[e]
          exact zC.mpr ⟨rfl,rfl⟩
       have hall:((wJ (ls.filter fun p=>!decide (r[p]?=some (k:Int)))).map Val.int).isEmpty=wa r k (zO zs k) (f,d):=by
        unfold wa
        show _=(goN r.length f d (zO zs k)).all _
        rw[hgo,Gq,Gq]
        clear hcp hlt hgo
        induction ls with
        |nil=>rfl
        |cons p ls ih=>
         rw[EB,DA,<-ih]
         cases decide (r[p]?=some (k:Int))<;>rfl
       have tt:∀S:Sto,evT Φ T.gl [some (tpI zs),some (tpI r),some (.lst []),some (.ref s.length),some (.int (k:Nat)),some (.int (zO zs k:Nat)),some (.int (f:Nat)),some (.int (d:Nat)),some (.lst ((wJ ls).map .int))] (.val (.cmp .eq (.comp false ["_law_place","_law_hue","_law_ring"] [none,some 4,some 1] (.var 0) (.nm 0) (.val (.var 8)) (.cons (.val (.cmp .ne (.ix (.var 2) (.var 0)) (.var 1))) .nil)) (.lst false .nil))) S=.ok (wa r k (zO zs k) (f,d)) S:=fun S=>by
        rw[<-hall]
        exact yc (yQ (hcp S) (vk zD (A9 _)) (eq_nil (tM _))) zc
       have eF:(A++[(f,d)]).filter (wa r k (zO zs k))=A.filter (wa r k (zO zs k))++if wa r k (zO zs k) (f,d) then [(f,d)] else []:=by
        rw[Dd]
        congr 1
        rw[EB,GF]
       have ht:=tt (s++[.lst ((P0++A.filter (wa r k (zO zs k))).map rdS)])
       cases hs:wa r k (zO zs k) (f,d) with
       |true=>
        rw[hs]at ht
        refine qO ht (xn (bnd (zB rfl) (bnd (zA (xA (zA zK (zA (zB rfl) (zA (zB rfl) zD))) (show 3<=zU by decide)) zD) (vm hfl2))) (wG (wG ⟨A++[(f,d)],B,_,_,_,by rw[<-hAB,Bj];rfl,rfl,rfl,?_⟩)))
        rw[eF,hs,if_pos rfl,<-Bj,Co (l₂:=[(f,d)])];rfl
       |false=>
        rw[hs]at ht
        refine vI ht (wG ⟨A++[(f,d)],B,_,_,_,by rw[<-hAB,Bj];rfl,rfl,rfl,?_⟩)
        rw[eF,hs,if_neg Aj,AZ]
    . rintro e s' ⟨A,B,o6,o7,o8,hAB,hB,rfl,rfl⟩
      have hB0:B=[]:=E9.mp hB.symm
      subst hB0
      rw[AZ]at hAB
      subst hAB
      refine wG ⟨k+1,_,_,_,_,_,by omega,rfl,rfl,?_⟩
      rw[E2,Cw,En,hP];rfl
  . rintro e s' ⟨k,o4,o5,o6,o7,o8,hk,hrest,rfl,rfl⟩
    have hkl:k=zs.length:=by
     refine Nat.le_antisymm hk (F7 fun hc=>?_)
     rw[BS hc]at hrest
     cases hrest
    subst hkl
    rw[hv]
    have hs0:(s++[Cel.lst ((ij zs r).map rdS)])[s.length]?=some (.lst ((ij zs r).map rdS)):=by simp
    show (zY Φ T.gl [some (tpI zs),some (tpI r),some (.lst []),some (.ref s.length),o4,o5,o6,o7,o8] _ (s++[Cel.lst ((ij zs r).map rdS)])).post _
    have he:=ZI hs0 (jh _)
    rcases eV (P:=frP zs r) (by omega) (Zs hG) with⟨g1,g2⟩|⟨q,g1,g2,g3⟩
    . have e1:frO zs r=none:=g1
      rw[e1]
      rw[g2]at he ⊢
      refine yW (UJ (yc (yQ (zB rfl) (vk zD (A9 _)) he) zc) zK) ?_
      show (zp false s .none (s++_)).post _
      rw[wz vv]
      exact zC.mpr ⟨rfl,rfl⟩
    . have e1:frO zs r=some q:=g1
      rw[e1]
      rw[show ((ij zs r).map rdS).isEmpty=false from by rw[Gq];exact List.isEmpty_eq_false_iff.mpr g2]at he
      have hm:=W5 g2 hs0
      rw[g3]at hm
      refine yW (UI (yc (yQ (zB rfl) (vk zD (A9 _)) he) zc) (yX (zA (zB rfl) zD) hm)) ?_
      show (zp false s (rdS q) (s++_)).post _
      rw[wz (W7 q)]
      exact zC.mpr ⟨rfl,rfl⟩
theorem u7{v:Val}(h:Th 2 200000 v)(e:∀s,zj s v=v)(s:Sto):blt .repr false [v] s=.ok (.str v.d.shown) s:=by
 simp only[blt]
 rw[e s,h.r,gL h.lf (by decide) (by decide) h.nd]
 rfl
theorem aI{ns:List Int}(hn:ns.length<=40)(hb:∀x∈ns,0<=x/\x<=8):Th 1 4040 (tpI ns):=km (k:=0) (w:=100) (n:=40) (fun v hv=>by
 obtain⟨i,hi,rfl⟩:=Bi.mp hv
 have:=hb i hi
 exact nM (by omega) (by omega)) (by rw[Ai];exact hn)
theorem bY{zs r:List Int}(hz:Sz zs)(hr:Rg r):∃x,∀s,blt .repr false [.tup [tpI zs,tpI r]] s=.ok (.str x) s:=by
 refine⟨_,u7 (Th.mono (km (k:=1) (w:=4040) (n:=2) (vs:=[tpI zs,tpI r]) (fun v hv=>?_) (Ag 2)) (by decide) (by decide)) fun s=>rfl⟩
 rcases Al.mp hv with rfl|hv
 . exact aI (by have:=hz.2.1;omega) fun x hx=>by have:=hz.2.2 x hx;omega
 . rw[Aq.mp hv]
   exact aI hr.le fun x hx=>by have:=hr.strip.2 x hx;omega
theorem Sv{x:Str}(h:(x.cps.toList.all fun c=>decide (c<16 ^ 8))=true)(h2:x.cps.size<=100):Th 0 100 (.str x):=V8 (fun c hc=>of_decide_eq_true (AI.mp h c hc)) h2
theorem bZ{zs r:List Int}(hr:Rg r):∃x,∀s,blt .repr false [wL zs r] s=.ok (.str x) s:=by
 have hl:=hr.le
 have tup:∀{vs:List Val},(∀v∈vs,Th 0 100 v)->vs.length<=4->(∀s,vs.map (yI s)=vs)->∃x,∀s,blt .repr false [.tup vs] s=.ok (.str x) s:=fun{vs} h hn e=>
  ⟨_,u7 (Th.mono (km (k:=0) (w:=100) (n:=4) h hn) (by decide) (by decide)) fun s=>by show Val.tup (vs.map (yI s))=_;rw[e s]⟩
 unfold wL
 split
 . rename_i v l e
   obtain⟨k,rfl,hk⟩:=sx (zs:=zs) (ns:=r) (v:=v) (by rw[e];exact .head _)
   refine tup (fun v hv=>?_) (by show 2<=4;decide) fun s=>rfl
   rcases Al.mp hv with rfl|hv
   . exact Sv (by decide +kernel) (by decide +kernel)
   . rw[Aq.mp hv];exact nM (by omega) (by omega)
 . cases ho:frO zs r with
   |none=>exact⟨_,u7 (Yc.mono (by decide) (by decide)) fun s=>rfl⟩
   |some q=>
    have hq:=List.mem_of_find?_eq_some ho
    obtain⟨g1,g2,g3⟩:=vq.mp (show (q.1,q.2)∈_ from hq)
    refine tup (vs:=[.str "round",.int (q.1:Nat),.int (q.2:Nat)]) (fun v hv=>?_) (by show 3<=4;decide) fun s=>rfl
    rcases Al.mp hv with rfl|hv
    . exact Sv (by decide +kernel) (by decide +kernel)
    . rcases Al.mp hv with rfl|hv
      . exact nM (by omega) (by omega)
      . rw[Aq.mp hv];exact nM (by omega) (by omega)
theorem YK(b:Bool):∃x,∀s,blt .repr false [.bool b] s=.ok (.str x) s:=⟨_,u7 ((Yb b).mono (by decide) (by decide)) fun s=>rfl⟩
def fD(Φ:Calls):Prop:=∀(zs r:List Int) (s:Sto),Sz zs->Rg r->Φ "_law_fits" 0 [tpI zs,tpI r] s=.ok (.bool true) s
theorem gj(cW:ph Φ)(cF:jD Φ)(cR:sy Φ){zs r:List Int}(hz:Sz zs)(hr:Rg r):run T Φ F61.yy [tpI zs,tpI r] s=.ok (.bool true) s:=by
 obtain⟨x1,h1⟩:=bY hz hr
 obtain⟨x2,h2⟩:=bZ (zs:=zs) hr
 obtain⟨x3,h3⟩:=YK (wL zs r).isN
 have L2':2<=zU:=by decide
 rw[post_eq,F61.yy,xX]
 refine⟨rfl,?_⟩
 show (zY Φ T.gl [some (tpI zs),some (tpI r),none,none,none] _ s).post _
 refine xm (x_call (zA (zB rfl) (zA (zB rfl) zD)) (cW zs r s hz hr)) (xm (yX (zA (xA (zA (zB rfl) (zA (zB rfl) zD)) L2') zD) (h1 s)) ?_)
 show (zY Φ T.gl [some (tpI zs),some (tpI r),some (wL zs r),some (.str x1),none] _ s).post _
 refine zv.mpr (xk (fun rest e s'=>s'=s/\∃o4,e=[some (tpI zs),some (tpI r),some (wL zs r),some (.str x1),o4]) (yK 0 2) (s1:=s) (pG (k:=2) zK (by decide)) ⟨rfl,_,rfl⟩ ?_ ?_)
 . rintro w rest e s' ⟨rfl,o4,rfl⟩
   refine⟨[some (tpI zs),some (tpI r),some (wL zs r),some (.str x1),some w],rfl,?_⟩
   exact vI (yc (yQ (yX (zA (x_call (zA (zB rfl) (zA (zB rfl) zD)) (cF zs r s' hz hr)) zD) (h3 s')) (yX (zA (yQ (zB rfl) zK rfl) zD) (h3 s')) mM) zc) (vI (yc (yQ (yX (zA (x_call (zA (zB rfl) (zA (zB rfl) zD)) (cR zs r s' hz hr)) zD) (h2 s')) (yX (zA (zB rfl) zD) (h2 s')) mM) zc) (wG ⟨rfl,_,rfl⟩))
 . rintro e s' ⟨rfl,o4,rfl⟩
   exact yW (yQ (yX (zA (xA (zA (zB rfl) (zA (zB rfl) zD)) L2') zD) (h1 s')) (zB rfl) eT) (ye xU)
structure UK(Φ:Calls):Prop where
 fa:∀(v w:Val) (s:Sto),yM tb s=true->Kds v->yt v=false->Φ "fits_round" 101 [v,w] s=.ok (.str "! sizes") s
 fb:∀(zs:List Int) (w:Val) (s:Sto),yM tb s=true->Sz zs->Kds w->sL w=false->Φ "fits_round" 101 [tpI zs,w] s=.ok (.str "! ring") s
 ga:∀(v w:Val) (s:Sto),yM tb s=true->Kds v->yt v=false->Φ "first_round_wrong" 101 [v,w] s=.ok (.str "! sizes") s
 gb:∀(zs:List Int) (w:Val) (s:Sto),yM tb s=true->Sz zs->Kds w->sL w=false->Φ "first_round_wrong" 101 [tpI zs,w] s=.ok (.str "! ring") s
structure Cs(Φ:Calls):Prop where
 cell:Yo Φ
 pen:Yp Φ
 draw:pf Φ
 fits:fD Φ
 got:UK Φ
noncomputable def jt:List Val:=[.tup [],.lst [.int 0],.tup [.int 4],.tup (Az 41 (.int 0)),.none,.str "01",.tup [.bool true],.dct0,.tup [.int 0,.int (-1)]]
noncomputable def ag:List Val:=[.tup [],.lst [.int 3],.tup [.int 1],.tup [.int 9],.tup (Az 5 (.int 2)),.none,.str "3",.tup [.bool true],.dct0,.tup [.int 3,.int 1]]
theorem wB{vs:List Val}(h:∀w∈vs,kindOf w≠none):Kds (.tup vs):=⟨nofun,fun ws e=>by cases e;exact h⟩
theorem Zv:∀v∈jt,Kds v/\sL v=false:=fun v hv=>by
 simp only[jt,Al,BC,or_false]at hv
 rcases hv with rfl|rfl|rfl|rfl|rfl|rfl|rfl|rfl|rfl
 . exact⟨wB fun w hw=>(nomatch hw),rfl⟩
 . exact⟨⟨nofun,nofun⟩,rfl⟩
 . exact⟨wB fun w hw=>by rw[Aq.mp hw];nofun,rfl⟩
 . exact⟨wB fun w hw=>by rw[D1 hw];nofun,rfl⟩
 . exact⟨⟨nofun,nofun⟩,rfl⟩
 . exact⟨⟨nofun,nofun⟩,rfl⟩
 . exact⟨wB fun w hw=>by rw[Aq.mp hw];nofun,rfl⟩
 . exact⟨⟨nofun,nofun⟩,rfl⟩
 . refine⟨wB fun w hw=>?_,rfl⟩
   rcases Al.mp hw with rfl|hw
   . nofun
   . rw[Aq.mp hw];nofun
theorem Xp:∀v∈ag,Kds v/\yt v=false:=fun v hv=>by
 simp only[ag,Al,BC,or_false]at hv
 rcases hv with rfl|rfl|rfl|rfl|rfl|rfl|rfl|rfl|rfl|rfl
 . exact⟨wB fun w hw=>(nomatch hw),rfl⟩
 . exact⟨⟨nofun,nofun⟩,rfl⟩
 . exact⟨wB fun w hw=>by rw[Aq.mp hw];nofun,rfl⟩
 . exact⟨wB fun w hw=>by rw[Aq.mp hw];nofun,rfl⟩
 . exact⟨wB fun w hw=>by rw[D1 hw];nofun,rfl⟩
 . exact⟨⟨nofun,nofun⟩,rfl⟩
 . exact⟨⟨nofun,nofun⟩,rfl⟩
 . exact⟨wB fun w hw=>by rw[Aq.mp hw];nofun,rfl⟩
 . exact⟨⟨nofun,nofun⟩,rfl⟩
 . refine⟨wB fun w hw=>?_,rfl⟩
   rcases Al.mp hw with rfl|hw
   . nofun
   . rw[Aq.mp hw];nofun
theorem sX{α:Type}{xs:List α}{lo hi:Option Int}:(xM xs lo hi).length<=xs.length:=by
 unfold xM
 rw[Cy,Ey]
 omega
theorem uW{α:Type}{xs:List α}{lo hi:Option Int}{x:α}(h:x∈xM xs lo hi):x∈xs:=by
 unfold xM at h
 exact List.mem_of_mem_drop (E1 h)
theorem ax{x:Int}{xs:List Int}:xM (x::xs) none (some 1)≠[]:=by
 unfold xM
 simp[HT.sIx]
theorem Z7(c:pf Φ){G:Str->Option Val}{env:M.Env}{N:List Str}{p:Nat}(h2:env[2]?=some (some (.ref p)))(h0:zT [none,some 2] env=[none,some (.ref p)])(hp:qU s p){P:Val->Sto->Prop}(h:∀(zs:List Int) (s':Sto),Sz zs->vN s p s'->P (tpI zs) s') :
 (evE Φ G env (.blt .tuple false (.cons (.comp false N [none,some 2] (.bin false .add (.lit (.int 2)) (.call "_law_draw" 0 (.cons (.var 1) (.cons (.lit (.int 7)) .nil)))) (.nm 0) (.range1 (.bin false .add (.lit (.int 1)) (.call "_law_draw" 0 (.cons (.var 2) (.cons (.lit (.int 4)) .nil))))) .nil) .nil)) s).post P:=by
 obtain⟨_,s1,hd1,a,rfl,ha,t1⟩:=c p 4 s hp (by omega) (by omega)
 refine cn.mpr (oo.mpr ?_)
 refine ju (fun rest e s' acc=>(∃o,e=[o,some (.ref p)])/\vN s p s'/\∃os:List Int,acc=os.map .int/\os.length+rest.length=1+a/\∀x∈os,2<=x/\x<=8) ?_
 refine⟨⟨yK 0 (1+a),none⟩,s1,pG (k:=1+a) (by
  have:=zf (m:=false) (op:=.add) (zK (Φ:=Φ) (G:=G) (env:=env) (s:=s) (v:=.int 1)) (x_call (f:="_law_draw") (v:=0) (zA (zB h2) (zA (zK (v:=.int 4)) zD)) hd1) rJ
  rw[this,GD];rfl) (by unfold zU;omega),⟨⟨none,h0⟩,t1,[],rfl,by rw[ux,A8,Dq],fun _ h=>nomatch h⟩,fun _ _ _ _ _=>rfl,?_,?_⟩
 . rintro x rest e s' acc ⟨⟨o,rfl⟩,hp',os,rfl,hl,ho⟩
   refine⟨_,rfl,uk.mpr ?_⟩
   rw[if_pos rfl]
   show (evE Φ G [some x,some (.ref p)] _ s').post _
   obtain⟨_,s2,hd2,w,rfl,hw,t2⟩:=c p 7 s' (hp'.at_ hp.lt) (by omega) (by omega)
   rw[zf zK (x_call (zA (zB rfl) (zA zK zD)) hd2) rJ]
   refine zC.mpr ⟨⟨_,rfl⟩,hp'.trans t2,os++[2+(w:Int)],by rw[Co];rfl,by rw[Ap,BU];rw[Ar]at hl;omega,fun y hy=>?_⟩
   rcases AO.mp hy with hy|hy
   . exact ho y hy
   . rw[Aq.mp hy];omega
 . rintro e s' acc ⟨⟨o,rfl⟩,hp',os,rfl,hl,ho⟩
   refine zC.mpr (mS.mpr (zC.mpr ?_))
   rw[A8]at hl
   exact h os s' ⟨by omega,by omega,ho⟩ hp'
theorem VU(c:pf Φ){G:Str->Option Val}{env:M.Env}{N:List Str}{zs:List Int}{n t p:Nat}(hz:Sz zs)(ht:t<=1)(hn:n<=40)(h3:env[3]?=some (some (.int (n:Nat))))(h0:zT [none,some 2,some 9,some 4] env=[none,some (.ref p),some (tpI zs),some (.int (t:Nat))])(hp:qU s p){P:Val->Sto->Prop}(h:∀(os:List Int) (s':Sto),os.length=n->(∀x∈os,0<=x/\x<=3)->vN s p s'->P (tpI os) s') :
 (evE Φ G env (.blt .tuple false (.cons (.comp false N [none,some 2,some 9,some 4] (.bin false .mul (.call "_law_draw" 0 (.cons (.var 1) (.cons (.blt .len false (.cons (.var 2) .nil)) .nil))) (.bin false .sub (.lit (.int 1)) (.bin false .mul (.var 3) (.blt .int false (.cons (.cmp .gt (.call "_law_draw" 0 (.cons (.var 1) (.cons (.lit (.int 3)) .nil))) (.lit (.int 0))) .nil))))) (.nm 0) (.range1 (.var 3)) .nil) .nil)) s).post P:=by
 have hz1:=hz.1
 have hz4:=hz.2.1
 refine cn.mpr (oo.mpr ?_)
 refine ju (fun rest e s' acc=>(∃o,e=[o,some (.ref p),some (tpI zs),some (.int (t:Nat))])/\vN s p s'/\∃os:List Int,acc=os.map .int/\os.length+rest.length=n/\∀x∈os,0<=x/\x<=3) ?_
 refine⟨⟨yK 0 n,none⟩,_,pG (zB h3) (by unfold zU;omega),⟨⟨none,h0⟩,hp.refl,[],rfl,by rw[ux,A8,Dq],fun _ h=>nomatch h⟩,fun _ _ _ _ _=>rfl,?_,?_⟩
 . rintro x rest e s' acc ⟨⟨o,rfl⟩,hp',os,rfl,hl,ho⟩
   refine⟨_,rfl,uk.mpr ?_⟩
   rw[if_pos rfl]
   show (evE Φ G [some x,some (.ref p),some (tpI zs),some (.int (t:Nat))] _ s').post _
   have hP':=hp'.at_ hp.lt
   obtain⟨_,s2,hd2,a,rfl,ha,t2⟩:=c p (zs.length:Nat) s' hP' (by omega) (by omega)
   obtain⟨_,s3,hd3,b,rfl,hb,t3⟩:=c p 3 s2 (t2.at_ hP'.lt) (by omega) (by omega)
   have hi:∀(b:Bool) s,blt .int false [.bool b] s=.ok (.int (if b then 1 else 0)) s:=fun _ _=>rfl
   rw[zf (x_call (zA (zB rfl) (zA (uN rfl) zD)) hd2) (zf zK (zf (zB rfl) (yX (zA (yQ (x_call (zA (zB rfl) (zA zK zD)) hd3) zK gt_int) zD) (hi _ _)) (nW (by omega))) RE) (nW (by omega))]
   obtain⟨w,hw,hw0,hw3⟩:∃w:Int,(a:Int)*(1-(t:Int)*(if decide ((0:Int)<(b:Int))=true then 1 else 0))=w/\0<=w/\w<=3:=by
    refine⟨_,rfl,?_⟩
    have ht':t=0\/t=1:=by omega
    rcases ht' with rfl|rfl<;>by_cases h0:(0:Int)<(b:Int)
    . rw[decide_eq_true h0,if_pos rfl];simp;omega
    . rw[decide_eq_false h0,if_neg Aj];simp;omega
    . rw[decide_eq_true h0,if_pos rfl];simp
    . rw[decide_eq_false h0,if_neg Aj];simp;omega
   rw[hw]
   refine zC.mpr ⟨⟨_,rfl⟩,(hp'.trans t2).trans t3,os++[w],by rw[Co];rfl,by rw[Ap,BU];rw[Ar]at hl;omega,fun y hy=>?_⟩
   rcases AO.mp hy with hy|hy
   . exact ho y hy
   . rw[Aq.mp hy];exact⟨hw0,hw3⟩
 . rintro e s' acc ⟨⟨o,rfl⟩,hp',os,rfl,hl,ho⟩
   refine zC.mpr (mS.mpr (zC.mpr ?_))
   exact h os s' (by rw[A8]at hl;omega) ho hp'
noncomputable abbrev en(ns:List Int)(o1 o2 o3 o4 o5 o6 o7 o8 o9 o10 o11 o12:Option Val):M.Env:=[some (.scr ns),o1,o2,o3,o4,o5,o6,o7,o8,o9,o10,o11,o12,none]
noncomputable def x8:List Val:=[.str "! sizes",.str "! sizes",.str "! ring",.str "! ring"]
theorem Zu{s:Sto}:zQ .ne (.ref s.length) (.lst x8) (s++[Cel.lst x8])=.ok (.bool false) (s++[Cel.lst x8]):=by
 have h1:zj (s++[Cel.lst x8]) (.ref s.length)=.lst x8:=by simp[zj,yI,x8]
 show (match rW (zj (s++[Cel.lst x8]) (.ref s.length)) (zj (s++[Cel.lst x8]) (.lst x8)) with|some b=>Out.ok (Val.bool !b) (s++[Cel.lst x8])|none=>.stuck)=_
 rw[h1,show zj (s++[Cel.lst x8]) (.lst x8)=.lst x8 from rfl,show rW (.lst x8) (.lst x8)=some true from by decide +kernel]
 rfl
theorem cB(c:Cs Φ)(ns:List Int):(run T Φ qk [.scr ns] (tb.map .tb)).post fun v _=>v=.bool true:=by
 have L9:9<=zU:=by decide
 have L10:10<=zU:=by decide
 have L6:6<=zU:=by decide
 have L2':2<=zU:=by decide
 have L1:1<=zU:=by decide
 rw[qk,xX]
 refine⟨rfl,?_⟩
 show (zY Φ T.gl (en ns none none none none none none none none none none none none) _ (tb.map .tb)).post _
 refine zv.mpr (xk (fun rest e s'=>(∃o1 o2 o3 o4 o5 o6 o7 o8 o9 o10 o11 o12,e=en ns o1 o2 o3 o4 o5 o6 o7 o8 o9 o10 o11 o12)/\yM tb s'=true/\∀x∈rest,∃k:Nat,x=.int k) (yK 0 (max 1 (min ns.length 5))) (s1:=tb.map .tb) (eU (K:=5) rfl (by omega)) ⟨⟨_,_,_,_,_,_,_,_,_,_,_,_,rfl⟩,xp.mpr ⟨[],by rw[AZ]⟩,?_⟩ ?_ ?_)
 . intro x hx
   obtain⟨k,_,rfl⟩:=jq hx
   exact⟨k,by congr 1;omega⟩
 . rintro x rest e s' ⟨⟨o1,o2,o3,o4,o5,o6,o7,o8,o9,o10,o11,o12,rfl⟩,hZ,hr⟩
   obtain⟨k,rfl⟩:=hr x (.head _)
   have hr':∀x∈rest,∃k:Nat,x=.int k:=fun x hx=>hr x (.tail _ hx)
   refine⟨_,rfl,?_⟩
   obtain⟨cv,hcell⟩:=c.cell ns k s'
   obtain⟨pa,pb,pc,pd,hpen,hb⟩:=c.pen cv s'
   show (zY Φ T.gl (en ns (some (.int k)) o2 o3 o4 o5 o6 o7 o8 o9 o10 o11 o12) _ s').post _
   refine xm (x_call (zA (x_call (zA (zB rfl) (zA (zB rfl) zD)) hcell) zD) hpen) ?_
   have hP:qU (s'++[sU pa pb pc pd]) s'.length:=⟨pa,pb,pc,pd,by simp,hb⟩
   have hZ1:yM tb (s'++[sU pa pb pc pd])=true:=iG hZ
   have hpl:tb.length<=s'.length:=YY hZ
   show (zY Φ T.gl (en ns (some (.int k)) (some (.ref s'.length)) o3 o4 o5 o6 o7 o8 o9 o10 o11 o12) _ (s'++[sU pa pb pc pd])).post _
   generalize s'++[sU pa pb pc pd]=s1 at hP hZ1
   generalize s'.length=p at hP hpl
   obtain⟨_,s2,hd2,a2,rfl,ha2,t2⟩:=c.draw p 14 s1 hP (by omega) (by omega)
   have hP2:=t2.at_ hP.lt
   obtain⟨_,s3,hd3,th,rfl,ha3,t3⟩:=c.draw p 2 s2 hP2 (by omega) (by omega)
   have hP3:=t3.at_ hP2.lt
   obtain⟨n,hn,hn1,hn14⟩:∃n:Nat,(1:Int)+(a2:Int)=(n:Int)/\1<=n/\n<=14:=⟨1+a2,by omega,by omega,by omega⟩
   refine zv.mpr (cz.mpr (sk (zf zK (x_call (zA (zB rfl) (zA zK zD)) hd2) rJ) (sk (x_call (zA (zB rfl) (zA zK zD)) hd3) (mS.mpr (jv rfl ?_)))))
   rw[hn]
   show (zY Φ T.gl (en ns (some (.int k)) (some (.ref p)) (some (.int n)) (some (.int th)) o5 o6 o7 o8 o9 o10 o11 o12) _ s3).post _
   obtain⟨_,s4,hd4,a4,rfl,ha4,t4⟩:=c.draw p 14 s3 hP3 (by omega) (by omega)
   have hP4:=t4.at_ hP3.lt
   obtain⟨_,s5,hd5,od,rfl,ha5,t5⟩:=c.draw p 4 s4 hP4 (by omega) (by omega)
   have hP5:=t5.at_ hP4.lt
   refine zv.mpr (cz.mpr (sk (zf (x_call (zA (zB rfl) (zA zK zD)) hd4) (zB rfl) (bmod (by omega))) (sk (x_call (zA (zB rfl) (zA zK zD)) hd5) (mS.mpr (jv rfl ?_)))))
   generalize hsp:(a4:Int)%(n:Int)=sp
   show (zY Φ T.gl (en ns (some (.int k)) (some (.ref p)) (some (.int n)) (some (.int th)) (some (.int sp)) (some (.int od)) o7 o8 o9 o10 o11 o12) _ s5).post _
   obtain⟨_,s6,hd6,a6,rfl,ha6,t6⟩:=c.draw p 9 s5 hP5 (by omega) (by omega)
   have hP6:=t6.at_ hP5.lt
   obtain⟨non,hnm,hnon⟩:=XD (vs:=jt) (k:=a6) (show a6<9 by omega)
   obtain⟨hn2,hn3⟩:=Zv non hnm
   refine xm (vh (vk (vs:=jt) (zA (xA zD (A9 _)) (zA (vk (zA zK zD) L1) (zA (xA (zA zK zD) L1) (zA (zf (xA (zA zK zD) L1) zK rfl) (zA zK (zA zK (zA (xA (zA zK zD) L1) (zA rfl (zA (xA (zA zK (zA (aW zK) zD)) L2') zD))))))))) L9) (x_call (zA (zB rfl) (zA zK zD)) hd6) (hnon s6)) ?_
   show (zY Φ T.gl (en ns (some (.int k)) (some (.ref p)) (some (.int n)) (some (.int th)) (some (.int sp)) (some (.int od)) (some non) o8 o9 o10 o11 o12) _ s6).post _
   obtain⟨_,s7,hd7,a7,rfl,ha7,t7⟩:=c.draw p 10 s6 hP6 (by omega) (by omega)
   have hP7:=t7.at_ hP6.lt
   obtain⟨bad,hbm,hbad⟩:=XD (vs:=ag) (k:=a7) (show a7<10 by omega)
   obtain⟨hb2,hb3⟩:=Xp bad hbm
   refine xm (vh (vk (vs:=ag) (zA (xA zD (A9 _)) (zA (vk (zA zK zD) L1) (zA (xA (zA zK zD) L1) (zA (xA (zA zK zD) L1) (zA (zf (xA (zA zK zD) L1) zK rfl) (zA zK (zA zK (zA (xA (zA zK zD) L1) (zA rfl (zA (xA (zA zK (zA zK zD)) L2') zD)))))))))) L10) (x_call (zA (zB rfl) (zA zK zD)) hd7) (hbad s7)) ?_
   show (zY Φ T.gl (en ns (some (.int k)) (some (.ref p)) (some (.int n)) (some (.int th)) (some (.int sp)) (some (.int od)) (some non) (some bad) o9 o10 o11 o12) _ s7).post _
   have t17:=((((t2.trans t3).trans t4).trans t5).trans t6).trans t7
   have hZ7:=kl hZ1 hpl t17
   refine br (Z7 c.draw rfl rfl hP7 ?_)
   intro zs s8 hz t8
   have hP8:=t8.at_ hP7.lt
   have hZ8:=kl hZ7 hpl t8
   show (zY Φ T.gl (en ns (some (.int k)) (some (.ref p)) (some (.int n)) (some (.int th)) (some (.int sp)) (some (.int od)) (some non) (some bad) (some (tpI zs)) o10 o11 o12) _ s8).post _
   refine br (VU c.draw hz (by omega) (by omega) rfl rfl hP8 ?_)
   intro r s9 hrl hrx t9
   have hZ9:=kl hZ8 hpl t9
   have hR:Rg r:=⟨⟨by omega,hrx⟩,fun e=>by rw[e,A8]at hrl;omega⟩
   subst hrl
   show (zY Φ T.gl (en ns (some (.int k)) (some (.ref p)) (some (.int (r.length:Nat))) (some (.int th)) (some (.int sp)) (some (.int od)) (some non) (some bad) (some (tpI zs)) (some (tpI r)) o11 o12) _ s9).post _
   -- the rings that are tried
   have mk:∀{l:List Int},l≠[]->l.length<=40->(∀x∈l,x∈r\/x=(od:Int))->Rg l:=fun{l} h1 h2 h3=>⟨⟨h2,fun x hx=>by
    rcases h3 x hx with h|h
    . exact hrx x h
    . rw[h];omega⟩,h1⟩
   have addI:∀(a b:List Int) (S:Sto),a.length+b.length<=1000->binOp false .add (tpI a) (tpI b) S=.ok (tpI (a++b)) S:=fun a b S h=>by
    show (if (a.map Val.int).length+(b.map Val.int).length<=zU then Out.ok (Val.tup (a.map Val.int++b.map Val.int)) S else .stuck)=_
    rw[if_pos (by rw[Ai,Ai];unfold zU;omega),<-Co]
   have hl1:=sX (xs:=r) (lo:=none) (hi:=some sp)
   have hl2:=sX (xs:=r) (lo:=some (sp+1)) (hi:=none)
   have hl3:=sX (xs:=r) (lo:=none) (hi:=some 1)
   have m1:=addI (xM r none (some sp)) [(od:Int)] s9 (by rw[BU];omega)
   have m2:=addI (xM r none (some sp)++[(od:Int)]) (xM r (some (sp+1)) none) s9 (by rw[Ap,BU];omega)
   have m3:binOp false .mul (tpI [(od:Int)]) (.int (r.length:Nat)) s9=.ok (tpI (Az r.length (od:Int))) s9:=by
    show (if -1000<=((r.length:Nat):Int)/\((r.length:Nat):Int)<=1000/\[Val.int (od:Int)]≠[]/\([Val.int (od:Int)]:List Val).length<=1000 then Out.ok (Val.tup (Az ((r.length:Nat):Int).toNat [Val.int (od:Int)]).flatten) s9 else .stuck)=_
    rw[if_pos ⟨by omega,by omega,by simp,by simp⟩,Bk]
    have:∀m:Nat,(Az m [Val.int (od:Int)]).flatten=(Az m (od:Int)).map Val.int:=fun m=>by
     induction m with
     |zero=>rfl
     |succ m ih=>rw[BQ,Cp,ih];rfl
    rw[this]
   have m4:=addI r (xM r none (some 1)) s9 (by omega)
   refine zv.mpr (xk (fun rest2 e s'=>s'=s9/\(∃o11,e=en ns (some (.int k)) (some (.ref p)) (some (.int (r.length:Nat))) (some (.int th)) (some (.int sp)) (some (.int od)) (some non) (some bad) (some (tpI zs)) (some (tpI r)) o11 o12)/\∀x∈rest2,∃l,x=tpI l/\Rg l) [tpI r,tpI (xM r none (some sp)++[(od:Int)]++xM r (some (sp+1)) none),tpI r.reverse,tpI (Az r.length (od:Int)),tpI (xM r none (some 1)),tpI (r++xM r none (some 1))] (s1:=s9) (oV (vk (zA (zB rfl) (zA (zf (zf (aX (zB rfl) qa (mP (zB rfl)) qa nG) (xA (zA (zB rfl) zD) L1) m1) (aX (zB rfl) (mP (zf (zB rfl) zK rJ)) qa qa nG) m2) (zA (aX (zB rfl) qa qa (mP (aW zK)) (b8 (by omega))) (zA (zf (xA (zA (zB rfl) zD) L1) (zB rfl) m3) (zA (aX (zB rfl) qa (mP zK) qa nG) (zA (zf (zB rfl) (aX (zB rfl) qa (mP zK) qa nG) m4) zD)))))) L6) rfl) ⟨rfl,⟨_,rfl⟩,?_⟩ ?_ ?_)
   . intro x hx
     simp only[Al,BC,or_false]at hx
     rcases hx with rfl|rfl|rfl|rfl|rfl|rfl
     . exact⟨_,rfl,hR⟩
     . refine⟨_,rfl,mk (by simp) (by rw[Ap,Ap,BU];omega) fun x hx=>?_⟩
       rcases AO.mp hx with hx|hx
       . rcases AO.mp hx with hx|hx
         . exact .inl (uW hx)
         . exact .inr (Aq.mp hx)
       . exact .inl (uW hx)
     . exact⟨_,rfl,mk (fun e=>hR.ne (List.reverse_eq_nil_iff.mp e)) (by rw[List.length_reverse];omega) fun x hx=>.inl (List.mem_reverse.mp hx)⟩
     . exact⟨_,rfl,mk (fun e=>by have:=congrArg CZ e;rw[CK,A8]at this;omega) (by rw[CK];omega) fun x hx=>.inr (D1 hx)⟩
     . refine⟨_,rfl,mk ?_ (by omega) fun x hx=>.inl (uW hx)⟩
       cases r with
       |nil=>exact absurd rfl hR.ne
       |cons y r=>exact ax
     . refine⟨_,rfl,mk (fun e=>hR.ne (List.append_eq_nil_iff.mp e).1) (by rw[Ap];omega) fun x hx=>?_⟩
       rcases AO.mp hx with hx|hx
       . exact .inl hx
       . exact .inl (uW hx)
   . rintro x rest2 e s10 ⟨rfl,⟨o11,rfl⟩,hr2⟩
     obtain⟨l,rfl,hl⟩:=hr2 x (.head _)
     refine⟨_,rfl,?_⟩
     show (zY Φ T.gl (en ns (some (.int k)) (some (.ref p)) (some (.int (r.length:Nat))) (some (.int th)) (some (.int sp)) (some (.int od)) (some non) (some bad) (some (tpI zs)) (some (tpI r)) (some (tpI l)) o12) _ s10).post _
     exact vI (lB (b:=true) (yc (x_call (zA (zB rfl) (zA (zB rfl) zD)) (c.fits zs l s10 hz hl)) zc)) (wG ⟨rfl,⟨_,rfl⟩,fun x hx=>hr2 x (.tail _ hx)⟩)
   . rintro e s11 ⟨rfl,⟨o11,rfl⟩,_⟩
     show (zY Φ T.gl (en ns (some (.int k)) (some (.ref p)) (some (.int (r.length:Nat))) (some (.int th)) (some (.int sp)) (some (.int od)) (some non) (some bad) (some (tpI zs)) (some (tpI r)) o11 o12) _ s11).post _
     have Z:∀vs:List Val,yM tb (s11++[.lst vs])=true:=fun vs=>iG hZ9
     refine xm (jA (zA (x_call (zA (zB rfl) (zA (zB rfl) zD)) (c.got.fa _ _ s11 hZ9 hb2 hb3)) zD) L1) ?_
     show (zY Φ T.gl (en ns (some (.int k)) (some (.ref p)) (some (.int (r.length:Nat))) (some (.int th)) (some (.int sp)) (some (.int od)) (some non) (some bad) (some (tpI zs)) (some (tpI r)) o11 (some (.ref s11.length))) _ (s11++[.lst [.str "! sizes"]])).post _
     refine xn (bnd (zB rfl) (bnd (zA (x_call (zA (zB rfl) (zA (zB rfl) zD)) (c.got.ga _ _ _ (Z _) hb2 hb3)) zD) (vm (show 1<zU by decide)))) ?_
     refine xn (bnd (zB rfl) (bnd (zA (x_call (zA (zB rfl) (zA (zB rfl) zD)) (c.got.fb zs _ _ (Z _) hz hn2 hn3)) zD) (vm (show 2<zU by decide)))) ?_
     refine xn (bnd (zB rfl) (bnd (zA (x_call (zA (zB rfl) (zA (zB rfl) zD)) (c.got.gb zs _ _ (Z _) hz hn2 hn3)) zD) (vm (show 3<zU by decide)))) ?_
     exact vI (yc (yQ (zB rfl) (zf (zf (vk (zA zK zD) L1) zK rfl) (zf (vk (zA zK zD) L1) zK rfl) rfl) Zu) zc) (wG ⟨⟨_,_,_,_,_,_,_,_,_,_,_,_,rfl⟩,Z _,hr'⟩)
 . rintro e s' ⟨⟨o1,o2,o3,o4,o5,o6,o7,o8,o9,o10,o11,o12,rfl⟩,hZ,_⟩
   refine yW zK ?_
   show (zp false (tb.map .tb) (.bool true) s').post _
   rw[gB hZ xU]
   exact zC.mpr rfl
end
theorem cs:At T 8 Cs:=fun n hn=>by
 obtain⟨n,rfl⟩:∃m,n=m+8:=⟨n-8,by omega⟩
 have g4:Gl4 T:=⟨rfl,rfl,rfl,rfl⟩
 have whole:∀m,fE (zE T (m+1)):=fun m v l k s h=>by rw[zi (F:=F.xK) rfl];exact gk h
 have wholes:∀m,pq (zE T (m+2)):=fun m vs l k s h=>by rw[zi (F:=F.yl) rfl];exact kX (whole m) h
 have stripW:∀m,pk (zE T (m+3)):=fun m v s h=>by rw[zi (F:=F.xJ) rfl];exact kU rfl rfl (wholes m) h
 have needRing:∀m,tE (zE T (m+4)):=fun m r s h=>by rw[zi (F:=F66.yR) rfl];exact nF (gr (stripW m)) h
 have yt:∀m,pj (zE T (m+3)):=fun m v s h h'=>by rw[zi (F:=F.yC) rfl];exact kT g4 (wholes m) h h'
 have needSizes:∀m,wq (zE T (m+4)):=fun m zs s h=>by rw[zi (F:=F.yD) rfl];exact qc (fP (yt m)) h
 have going:∀m,fC (zE T (m+1)):=fun m a f d z s h1 h2 h3 h4=>by rw[zi (F:=F66.yZ) rfl];exact gh h1 h2 h3 h4
 have unlike:∀m,jF (zE T (m+1)):=fun m ls s h=>by rw[zi (F:=F66.yk) rfl];exact kW h
 have wholeRd:∀m,rA (zE T (m+2)):=fun m r f d z s h1 h2 h3 h4=>by rw[zi (F:=F66.z8) rfl];exact mw (going m) (unlike m) h1 h2 h3 h4
 have fHueG:∀m,lJ (zE T (m+1)):=fun m zs ns s=>by rw[zi (F:=F.zr) rfl];exact gg
 have fRound:∀m,sy (zE T (m+5)):=fun m zs r s h1 h2=>by rw[zi (F:=F66.zL) rfl];exact mq (needSizes m) (needRing m) (fHueG (m+3)) (wholeRd (m+2)) h1 h2
 have fitsR:∀m,jD (zE T (m+6)):=fun m zs r s h1 h2=>by rw[zi (F:=F66.zy) rfl];exact kR (fRound m) h1 h2
 have rounds:∀m,nR (zE T (m+1)):=fun m a z s h1 h2 h3=>by rw[zi (F:=F61.yY) rfl];exact mr h1 h2 h3
 have lwrong:∀m,ph (zE T (m+2)):=fun m zs r s h1 h2=>by rw[zi (F:=F61.zk) rfl];exact qN (rounds m) h1 h2
 have lfits:∀m,fD (zE T (m+7)):=fun m zs r s h1 h2=>by rw[zi (F:=F61.yy) rfl];exact gj (lwrong (m+4)) (fitsR m) (fRound (m+1)) h1 h2
 have xRing:∀m,Ys (zE T (m+4)) (zm T (m+4)):=fun m v s h1 h2=>RzF.up (F:=F66.yR) (fQ (stripW m) rfl h1 h2) rfl rfl
 have xSizes:∀m,fM (zE T (m+4)) (zm T (m+4)):=fun m v s h1 h2=>RzF.up (F:=F.yD) (iL (yt m) rfl h1 h2) rfl rfl
 have xFR:∀m,XFR "first_round_wrong" (zE T (m+5)) (zm T (m+5)):=fun m=>
  ⟨fun v w s h1 h2=>RzF.up (F:=F66.zL) (ah (xSizes m) h1 h2) rfl rfl,
   fun zs w s h h1 h2=>RzF.up (F:=F66.zL) (ai (needSizes m) (xRing m) h h1 h2) rfl rfl⟩
 have xFits:∀m,XFR "fits_round" (zE T (m+6)) (zm T (m+6)):=fun m=>
  ⟨fun v w s h1 h2=>RzF.up (F:=F66.zy) (nV ((xFR m).a v w s h1 h2)) rfl rfl,
   fun zs w s h h1 h2=>RzF.up (F:=F66.zy) (nV ((xFR m).b zs w s h h1 h2)) rfl rfl⟩
 have got:∀m,UK (zE T (m+7)):=fun m=>
  ⟨fun v w s hz h1 h2=>oN ((xFits m).a v w s h1 h2) rfl rfl hz rfl,
   fun zs w s hz h h1 h2=>oN ((xFits m).b zs w s h h1 h2) rfl rfl hz rfl,
   fun v w s hz h1 h2=>oN ((xFR (m+1)).a v w s h1 h2) rfl rfl hz rfl,
   fun zs w s hz h h1 h2=>oN ((xFR (m+1)).b zs w s h h1 h2) rfl rfl hz rfl⟩
 have cell:∀m,Yo (zE T (m+1)):=fun m ns k s=>by
  obtain⟨c,h⟩:=bj (T:=T) (Φ:=zE T m) (s:=s) ns k
  exact⟨c,by rw[zi (F:=F.z9) rfl];exact h⟩
 have pen:∀m,Yp (zE T (m+1)):=fun m c s=>by
  obtain⟨a,b,e,d,h,h2⟩:=bp (T:=T) (Φ:=zE T m) (s:=s) c
  exact⟨a,b,e,d,by rw[zi (F:=F75.yS) rfl];exact h,h2⟩
 have draw:∀m,pf (zE T (m+1)):=fun m p k s h1 h2 h3=>by rw[zi (F:=F75.yd) rfl];exact gf h1 h2 h3
 exact⟨cell (n+7),pen (n+7),draw (n+7),lfits (n+1),got (n+1)⟩
theorem Wz(ns:List Int):∃s',zE T 9 "law" 0 [.scr ns] (tb.map .tb)=.ok (.bool true) s':=by
 obtain⟨v,s',h,rfl⟩:=cB (cs 8 (by omega)) ns
 exact⟨s',by rw[zi (F:=qk) rfl];exact h⟩
end P62
end
section
open PySem PySem.W PyProof.Rows
theorem P62.hx:P62.qk.ps=[("_law_script":Str)]:=by kernel_rfl
theorem P62.hF:(M.kj P62.fnL P62.glL P62.tb P62.xc P62.md).fn P62.dd.name 0=some P62.qk:=by kernel_rfl
theorem P62.hgl:P62.glL=P62.gl.map fun p=>(p.1,M.gv p.2):=by kernel_rfl
noncomputable def P62.ws1:List Str:=["strip","sizes","number","place","hue","draft","paper","fit","great","lot","ring","round"]
noncomputable def P62.ws2:List Str:=["stand","text","deed","line"]
theorem P62.kst:M.lL (P62.top 42) P62.X.cs (P62.ws1++P62.ws2) (some "! "):=by
 refine⟨by kernel_rfl,by decide +kernel,?_,by decide +kernel⟩
 exact⟨P62.X.cs.take 4,(P62.X.cs.drop 4).take 4,(P62.X.cs.drop 8).take 4,P62.X.cs.drop 12,P62.ws1,P62.ws2,_,_,_,_,_,_,_,_,_,_,_,_,_,_,_,_,_,_,_,_,_,_,_,_,_,_,_,_,_,_,_,_,_,_,_,_,_,_,_,_,_,_,_,_,_,_,_,_,_,_,_,_,_,_,_,_,_,_,_,_,_,rfl,rfl,rfl,by decide +kernel,rfl,rfl⟩
theorem P62.Rf:M.oA true "_law_kind" (P62.top 43):=⟨by kernel_rfl,by decide +kernel,⟨.Name "" default,_,_,_,_,default,_,_,_,_,_,_,default,default,default,default,default,default,default,default,0,0,rfl⟩,by decide +kernel⟩
theorem P62.hS:∀b,P62.md b=true->P62.D.lookup (L2.yb b)=some ((fun b=>match b with|true=>P62.top 43|false=>P62.top 0) b)/\M.oA b "_law_kind" ((fun b=>match b with|true=>P62.top 43|false=>P62.top 0) b)
 |true,_=>⟨rfl,P62.Rf⟩|false,h=>by cases h
theorem P62.lX:((("HueError":Str))::P62.X.rz).all (fun c=>M.cg P62.q c)=true:=by decide +kernel
theorem P62.lY:P62.X.tb.all (fun g=>(Fb P62.q).any (fun d=>decide (d.name=g))&&(P62.D.lookup g).isSome)=true:=by decide +kernel
theorem PySem.Challenge.cw_evenhues_k62_rings_that_fit_holds : PySem.Challenge.rw_evenhues_k62_rings_that_fit.Holds := by
 exact M.Xx (n:=9) _ P62.Vv P62.left P62.hgl P62.eu P62.hp P62.hk P62.hwr P62.ok P62.bare P62.hw (by kernel_rfl) P62.hdf ⟨rfl,by decide,by decide,rfl⟩ P62.hF P62.hx P62.V6 rfl (by decide +kernel) rfl P62.kst P62.hS rfl (by decide +kernel) (by decide +kernel) P62.lX P62.lY (fun ns _=>P62.Wz ns)
end
