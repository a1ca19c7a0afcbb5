import PyProof.Rows.All
import KE.KItem
import KE.KLam
import KE.KTryMore
import PySem.Challenge.RW_evenhues_k13_sizes_refused
set_option backward.eqns.nonrecursive false
set_option genSizeOf false
set_option genSizeOfSpec false
set_option bootstrap.genMatcherCode false
set_option Elab.async false
set_option linter.all false
set_option maxRecDepth 100000
local macro_rules|`(tactic|omega)=>`(tactic|lia)
local macro_rules|`(⋯)=>`(by omega)
set_option maxHeartbeats 4000000
set_option autoImplicit true
set_option relaxedAutoImplicit true
noncomputable section
def byG{G:Prop}(h:∀p:Prop,(G->p)->p):G:=h G id
open And renaming intro->Ad
open Array renaming getElem?_eq_some_iff->BU,length_toList->C6
open Bool renaming and_eq_true->cf,false_ne_true->Ac,not_eq_true'->As,or_eq_true->Aw,false_eq_true->A2,eq_iff_iff->CB,false_and->CU,or_true->C1,or_eq_false_iff->DB,and_eq_true_iff->EU,and_self->Fm,false_or->Fo,and_true->Fp
open False renaming elim->Av
open ForInStep renaming yield->Ck
open Iff renaming rfl->CW
open Int renaming toNat_natCast->Dk,fdiv_eq_ediv_of_nonneg->DE,fmod_eq_emod_of_nonneg->DF,natCast_mul->ET,emod_lt_of_pos->E9,le_trans->FZ,emod_nonneg->Gf
open LawfulBEq renaming eq_of_beq->Cf
open LawfulMonad renaming pure_bind->DU
open List renaming mem_cons_of_mem->Ag,size_toArray->Ah,getElem?_eq_getElem->Ai,replicate->Aj,length_map->Ak,lookup_cons->Am,length_append->An,mem_cons->Ao,mem_cons_self->Ar,getElem?_eq_some_iff->Au,all_eq_true->Ay,length_cons->AB,getElem?_set_self->AJ,isEmpty_iff->AN,getD_eq_getElem?_getD->AQ,range->AR,mem_singleton->AW,map_cons->AZ,getElem?_map->A1,mem_append->A3,append_nil->A4,mem_of_getElem?->A5,getElem?_append_left->A7,filterMap_cons->Ba,mem_append_right->Bb,contains_cons->Bh,getElem?_set_ne->Bk,any_eq_true->Bo,not_mem_nil->Bp,append_assoc->Br,length_eq_zero_iff->Bt,mem_range->Bu,mem_append_left->Bx,mem_map->Bz,replicate_succ->BF,getElem_of_mem->BG,length_singleton->BL,length_set->BN,length_take->BQ,getElem?_append_right->BR,length_nil->B5,nodup_cons->B6,filterMap_map->Ce,length_drop->Cp,cons_append->Cq,getElem_mem->Cr,lookup->Cu,mem_filterMap->Cw,length_replicate->CC,all_cons->CG,flatten_cons->CI,getElem?_eq_none_iff->CL,nil_append->De,map_append->Dg,length_eq_one_iff->Dj,length_range->Dl,drop_zero->Dq,countP_cons->Dz,length_pos_iff->DJ,drop_eq_getElem_cons->DO,eq_of_mem_replicate->D3,foldl->D6,getElem?_replicate->D8,findIdx?_eq_some_iff_getElem->Ei,map->Et,mem_filter->EG,of_mem_zip->EI,forIn_cons->EM,mem_of_mem_take->ES,set_comm->Fd,take_sublist->Ft,nodup_append->FC,flatMap_cons->FD,getElem?_take_of_lt->FN,length_filterMap_le->FY,drop_length->F3,lookup_eq_none_iff->F6,length->Gg,forIn_nil->Gs
open List.Pairwise renaming nil->Fw
open List.cons renaming inj->GI
open Nat renaming le_refl->Aa,lt_of_lt_of_le->Aq,le_trans->Az,ne_of_lt->AI,lt_irrefl->Bc,zero_le->Bs,lt_succ_of_lt->CJ,le_succ->CT,lt_succ_self->CZ,le_of_lt->Dm,ne_of_gt->Dn,mul_comm->DT,min_le_right->Ep,lt_of_sub_eq_succ->EC,le_of_eq->EO,sub_zero->FU,mul_le_mul->Gu
open Ne renaming symm->A9
open Option renaming none->dr,map_eq_some_iff->BC,isNone_iff_eq_none->BW,isSome_iff_exists->Ci,map_some->DL,bind_eq_some_iff->D7,bind_some->FL,getD_none->FQ
open Option.some renaming inj->AX,injEq->Ec
open Prod renaming ext->FO
open Prod.mk renaming inj->Gi,injEq->GD
open PyProof renaming noPylong_small->Ef
open PyProof.Rows renaming slot_tuple_getitem->A6,joinParts_cons->Ct,assignInOrder_cons->Cv,Top->C4,formatField_int_small->Dt,callWith_type1->Du,FormattedValue_plain->DA,boot_sorted->D2,tupleItemsOf_->El,boot_min->ED,entry_tuple_getitem->EV,recsOf->EX,args_tuple_getitem->E4,subscriptTail->Fg,assignInOrder_nil->Fs,boot_tuple->F5,Subscript_->Gy
open PySem renaming wpAny_bind->dS,wpAny_pure->Ae,sizeLine->Ap,Spec->Ax,starEach->AA,wpAny_mono->AF,wpAny_loadPart_at->AG,sizeLine_eq->AK,strLen_append->AL,mainGlobals->AM,mem_of_lookup->AO,excClassObj->AV,wpAny_standAt->AY,foldedSetIterable->A0,wpAny_newObj_type->Bg,compareOp->Bl,sliceBounds->Bq,wpAny_holding->Bv,letOwnedTupleGo->By,FuncData->BA,binaryOp->BD,wpAny_truthy_bool->BH,treeTable->BO,wpAny_Call_Name_kw->BP,call_meets->BV,swappedStores->BY,attributeBase->BZ,wpAny_field->B0,wpAny_isSubtype_exc->B7,sysModules->B9,checkBuiltinCall->Cc,bootBuiltins->Cg,codeAny_call_builtin->Cm,recursionLimit->Co,cellsFrom->Cy,wpAny_passesOwn->CA,wpAny_Call_ofName->CK,assignEach->CN,wpAny_binaryOp_repeat_ref->CP,codeAny_mono->CY,wpAny_call->C9,typeIs_int->Dd,bindName->Di,wpAny_setField->Dr,NameKind->Dw,compTurn->Dx,behindInMarks->DC,wpAny_execs_nil->DM,wpAny_loadPart'->DN,swapsWith->DP,inplaceOp->DQ,wpAny_typeOf->DR,wpAny_comprehension_free->DV,wpAny_raiseStmt_made_sub->DW,codeAmong->DY,TriplesOk->DZ,wpAny_bindName->D4,typeLookup->D5,wpAny_callSpecial?_slot->D9,wpAny_pyIter_list->Ed,assignInOrder->Ej,swapsWithSole->Ek,comprehension->Em,wpAny_execs_cons->En,noFill_tuple_add->Eo,Arguments->Eu,noteFrame->EA,setFlight->EB,Within->EF,wpAny_rule->EH,constantsAlone->EZ,keywordEach->E1,PassesOwn->E2,wpAny_pyIter_tuple->E3,wpAny_classOwn_exc->E8,wpAny_newFunctionEnv_cells->Fe,seq_tuple_add->Ff,Comprehension->Fh,foldedForSure->Fj,wpAny_sequenceKey->Fu,slot_list_getitem->Fv,builtinsNs->FF,cameBackBy->FI,codeAny_call_builtin_code->FJ,wpAny_check_type_call_sub->FK,wpAny_call_entry->FP,wpAny_getItem_list_slice->FR,wpAny_Dict_empty->FW,lookupAlong_cons->F0,wpAny_madeBy_exc->F1,codeAny_call_builtin_at->F4,DictEntry->F7,importedModules->F8,codeAny_of_tree->Gd,wpAny_mroOf_exc->Ge,isCodeTable->Gh,newFunctionEnv->Gr,bindArgs->Gx,backToKw->Gz,closureFor->GA,isInstance->GB,typeLookup_eq->GH,storeName->GJ,lastMarks->GL,slicePick->GN,onTheHeap->GO
open PySem.Around renaming frames_deeper->EJ
open PySem.AutoSeq1 renaming idx_int->FV
open PySem.Builtin.List renaming listTooLong->DS
open PySem.Builtin.Range renaming rangeSize->B3
open PySem.Builtin.Slice renaming sliceAdjust->A8,slicePlaces->BE,sliceApplied->CD,sliceFields->FG
open PySem.Builtin.Tuple renaming tupleExact->Bn,tupleItemsOf->DG,tupleTooMany->DH,tupleIsExact->Fi
open PySem.Calls renaming evalArgs_plain->CO,Constant_str->C8,callWith_builtin->Eh,Name_function_global->Fc
open PySem.Code renaming quiet_builtin->Df
open PySem.EntryCells renaming newEntry->DK
open PySem.Expr renaming Name->Ez,JoinedStr->Gm,Attribute->Gn,Subscript->Gp,Constant->GG
open PySem.Expr.Compare renaming elim->Fx
open PySem.Expr.FormattedValue renaming elim->FT
open PySem.Expr.ListComp renaming elim->E6
open PySem.F renaming args_tuple_add_2->BX,entry_tuple_add->B4,slot_tuple_add->B8,excBase_ValueError->Ca,slot_int_rmul->Cj,excAttr_ValueError->CH,typeOf_object_class->Dv,slot_tuple_mul->Dy,plainAttrs_list->Ea,args_int_rmul_2->Ee,slot_int_index->Er,entry_int_rmul->Es,fills_int_mul->EL,slot_gs_get->EW,args_tuple_mul_2->E7,entry_tuple_mul->Fy,store_ValueError->F2
open PySem.Flow renaming next->GK
open PySem.Heap renaming get?_push_of_some->xd,lt_size->Al,get?_push_size->AD,get?_update_other->AU,size_push->Bw,get?_update_self->BK,get?_none_of_le->CM,MadeExcOf->CV,get?_push_at->FA
open PySem.Heap.IsSliceOf renaming new->E5
open PySem.NameKind renaming free->AE,cell->Bi,globalImplicit->Eb
open PySem.Obj renaming mapFields->BS,data_mapFields->Cz,isFreed_of_fields->Ds,mapSeq->FH
open PySem.Paired renaming length->GF
open PySem.PyData renaming eqv->EN,weightAll->FX,canLay0->Gv
open PySem.SeqAt renaming EqAt->Bj
open PySem.Stmt renaming AugAssign->Gq
open PySem.Str renaming empty->CQ,ofString->EK
open PySem.Value renaming ref->AH,none->Be,builtin->Cb,bool->C7,type->FE,int->F9,str->Ga
open PySem.W renaming Frag->Ab,behindTheImports->BB,nsIn->BI,fnOf->BJ,kia_one->BM,codeIn->B1,keepIn->B2,callWith_K->Dc,topFrame->Dh,findIn->Dp,mg_of->DI,looks_findIn->D1,cellsFrom_some->Eg,tabObj->EY,recOk->Fb,methodObj->Fq,instObj->Gb,lookIn->Gj,kitOne->Gk,piecesOf->Gw,fencedOpening->GC
open Sum renaming inl->Ew,inr->Ey
open True renaming intro->AS
section
namespace Hd
open PySem
inductive G where
 |a (i:Int)|c (x:Str)|b (ns:List Int)
noncomputable def args(s:Stmt):Eu:=match s with
 |.FunctionDef _ a _ _ _ _ _ _ _ _=>a
 |_=>{posonlyargs:=[],args:=[],vararg:=none,kwonlyargs:=[],kw_defaults:=[],kwarg:=none,defaults:=[]}
noncomputable def body(s:Stmt):List Stmt:=match s with
 |.FunctionDef _ _ b _ _ _ _ _ _ _=>b
 |_=>[]
noncomputable def scope(s:Stmt):Scope:=match s with
 |.FunctionDef _ _ _ _ _ _ sc _ _ _=>sc
 |_=>{kind:=.function,names:=[],isGenerator:=false,isCoroutine:=false}
noncomputable def posOf(s:Stmt):Pos:=match s with
 |.FunctionDef _ _ _ _ _ _ _ _ _ p=>p
 |_=>⟨0,0,0,0⟩
def V5(x:Str)(st:Stmt):DefRec:=⟨x,args st,body st,scope st,posOf st⟩
noncomputable def PU:List Str:=["len","all","any","tuple","list","sorted","repr","max","min","sum","int","isinstance","divmod","str","bool","dict","set","range","enumerate","zip"]
noncomputable def lM:List Value->Option (List Int)
 |[]=>some []
 |.int i _::r=>(lM r).map (i::·)
 |_=>none
noncomputable def nsH(h:Heap)(x:Str):Option (Option Value):=match h.get? AM with
 |some o=>BI [(AM,o)] AM x
 |none=>none
noncomputable def W4(fd:BA):BA:={fd with kwdefaults:=.none,doc:=.none,pyModule:=.none,annotations:=none,code:=.none,closureTuple:=.none}
noncomputable def yW(o:Obj):Bool:=(match o.cls with|.none=>true|_=>false)&&(match o.data with|.fields _=>true|_=>false)
def hU(h:Heap)(cd:Value)(x:Str):Bool:=match cd with
 |.ref c=>(match h.get? c with
  |some o=>!yW o&&B1 [(c,o)] (.ref c) x
  |none=>false)
 |_=>false
def Xs(h:Heap)(x:Str):Option BA:=match nsH h x with
 |some (some (.ref f))=>(match h.get? f with
  |some ⟨_,_,.func fd,_⟩=>if hU h fd.code x then some (W4 fd) else none
  |_=>none)
 |_=>none
def Wt(p:Str × Stmt):Option BA:=some (BJ p.1 p.1 (args p.2) (body p.2) (scope p.2) .none .none .none .none none .none .none)
def glB(h:Heap)(x:Str):G->Bool
 |.a i=>(match nsH h x with|some (some (.int j _))=>decide (i=j)|_=>false)
 |.c y=>(match nsH h x with|some (some (.str z _))=>decide (y=z)|_=>false)
 |.b ns=>(match nsH h x with
  |some (some (.ref a))=>(match h.get? a with
   |some ⟨.type n,_,.seq us _,_⟩=>decide (n="tuple")&&decide (us.toList.length<=1000)&&decide (lM us.toList=some ns)
   |_=>false)
  |_=>false)
def blB(h:Heap)(x:Str):Bool:=match nsH h x with|some none=>true|_=>false
def aq(D:List (Str × Stmt))(gl:List (Str × G))(s:Shared):List (Option BA) × Bool:=(D.map λp=>Xs s.heap p.1,gl.all (λp=>glB s.heap p.1 p.2)&&PU.all λx=>blB s.heap x)
def YK(D:List (Str × Stmt)):List (Option BA) × Bool:=(D.map Wt,true)
end Hd
end
section
namespace Hd
open PySem PySem.W
noncomputable def hsh(w:World)(x:Str):Int:=reduceHash (w.params.strHash x.cps)
def ent(w:World)(x:Str)(t:Tok)(v:Value):F7:=⟨hsh w x,.str x t,v⟩
def Yq(w:World)(n:Nat)(t:Tok)(b:Addr)(md:Value)(x:Str)(l:Int):List Obj:=
 [{cls:=.type "tuple",data:=.seq #[.ref b]},
  {cls:=.type "builtin_function_or_method",data:=.fields #[.builtin "type.__prepare__",.type "type"]},
  {cls:=.type "dict",data:=.dict #[ent w "__module__" (t+7) md,ent w "__qualname__" (t+9) (.str x (t+8)),ent w "__firstlineno__" (t+11) (.int l (t+10)),ent w "__static_attributes__" (t+12) (.ref (n+7))] 4},
  {cls:=.type "tuple",data:=.seq #[]},
  {cls:=.none,data:=.fields #[]},
  {cls:=.type "code",data:=.fields #[.str x (t+2),.str x (t+3),.str "/claim/cut.py" (t+4),.int l 0,.int 0 0,.int 0 0,.int 0 0,.int 0 0,.ref (n+3),.bool false,.int 181 0,.ref (n+4),.none,.none,.none,.none,.int (t+5) 0,.int l 0,.str "/claim/cut.py" (t+6)]},
  {cls:=.type "frame",data:=.plain,slots:=#[some (.ref (n+5)),some (.ref 3),some (.ref (n+2)),none,some md,none,some (.ref 0)]},
  {cls:=.type "tuple",data:=.seq #[]},
  {cls:=.type "dict",data:=.dict #[ent w "__module__" (t+7) md,ent w "__firstlineno__" (t+11) (.int l (t+10)),ent w "__static_attributes__" (t+12) (.ref (n+7)),ent w "__doc__" (t+13) .none] 2},
  {cls:=.type "type",data:=.cls {name:=x,bases:=[.ref b],mro:=[.ref (n+9),.ref b,.type "ValueError",.type "Exception",.type "BaseException",.type "object"],ns:=n+8,qualname:=x},slots:=#[some (.ref n),none,some (.str x t),some (.str x (t+8)),some (.builtin "ValueError.__new__"),some (.bool true)]},
  {cls:=.type "super",data:=.fields #[.ref (n+9),.ref (n+9),.ref (n+9)]},
  {cls:=.type "builtin_function_or_method",data:=.fields #[.builtin "object.__init_subclass__",.ref (n+9)]}]
def cZ(w:World)(b:Addr)(md:Value):Nat->Nat->List (Str × Int)->List Obj
 |_,_,[]=>[]
 |n,t,c::cs=>Yq w n t b md c.1 c.2++cZ w b md (n+12) (t+16) cs
def bM(w:World):Nat->Nat->List (Str × Int)->List F7
 |_,_,[]=>[]
 |n,t,c::cs=>ent w c.1 (t+15) (.ref (n+9))::bM w (n+12) (t+16) cs
noncomputable def cn:Nat->List (Str × Int)->List Value
 |_,[]=>[]
 |n,c::cs=>.int c.2 0::.int 0 0::.ref (n+5)::cn (n+12) cs
noncomputable def Z7:Nat->List (Str × Int)->List Value
 |_,[]=>[]
 |n,_::cs=>.ref (n+9)::Z7 (n+12) cs
noncomputable def Py(x:List F7):Obj->Obj
 |⟨c,d,.dict es n,s⟩=>⟨c,d,.dict ⟨es.toList++x⟩ (n+x.length),s⟩
 |o=>o
noncomputable def P0(x:List Value):Obj->Obj
 |⟨c,d,.fields vs,s⟩=>⟨c,d,.fields ⟨vs.toList++x⟩,s⟩
 |o=>o
noncomputable def Pz(x:List Value):Obj->Obj
 |⟨c,d,.cls k,s⟩=>⟨c,d,.cls {k with subclasses:=k.subclasses++x},s⟩
 |o=>o
noncomputable def atL(f:Obj->Obj):Nat->List Obj->List Obj
 |_,[]=>[]
 |0,o::os=>f o::os
 |n+1,o::os=>o::atL f n os
noncomputable def bA(st:Stmt):Stmt:=match st with
 |.ClassDef _ _ _ b _ _ _ _ _ _ _=>b.getD 0 st
 |_=>st
def Si(w:World)(n:Nat)(t:Tok)(b:Addr)(md:Value)(st:Stmt)(l:Int):List Obj:=
 let x:Str:="TooGreat";let f:BA:={name:="__init__",qualname:="TooGreat.__init__",params:=args (bA st),body:=.stmts (body (bA st)),scope:=scope (bA st),globals:=0,closure:=[],defaults:=.none,kwdefaults:=.none}
 [{cls:=.type "tuple",data:=.seq #[.ref b]},
  {cls:=.type "builtin_function_or_method",data:=.fields #[.builtin "type.__prepare__",.type "type"]},
  {cls:=.type "dict",data:=.dict #[ent w "__module__" (t+7) md,ent w "__qualname__" (t+9) (.str x (t+8)),ent w "__firstlineno__" (t+11) (.int l (t+10)),ent w "__init__" (t+20) (.ref (n+13)),ent w "__static_attributes__" (t+23) (.ref (n+14))] 5},
  {cls:=.type "tuple",data:=.seq #[]},
  {cls:=.none,data:=.fields #[.int (l+2) 0,.int 4 0,.ref (n+12)]},
  {cls:=.type "code",data:=.fields #[.str x (t+2),.str x (t+3),.str "/claim/cut.py" (t+4),.int l 0,.int 0 0,.int 0 0,.int 0 0,.int 0 0,.ref (n+3),.bool false,.int 181 0,.ref (n+4),.none,.none,.none,.none,.int (t+5) 0,.int l 0,.str "/claim/cut.py" (t+6)]},
  {cls:=.type "frame",data:=.plain,slots:=#[some (.ref (n+5)),some (.ref 3),some (.ref (n+2)),none,some md,none,some (.ref 0)]},
  {cls:=.type "tuple",data:=.seq #[]},
  {cls:=.none,data:=.fields #[]},
  {cls:=.type "tuple",data:=.seq #[.str "self" (t+15),.str "many" (t+16),.str "most" (t+17)]},
  {cls:=.type "tuple",data:=.seq #[]},
  {cls:=.none,data:=.func f},
  {cls:=.type "code",data:=.fields #[.str "__init__" (t+12),.str "TooGreat.__init__" (t+13),.str "/claim/cut.py" (t+14),.int (l+2) 0,.int 3 0,.int 0 0,.int 0 0,.int 3 0,.ref (n+7),.bool true,.int 181 0,.ref (n+8),.none,.ref (n+9),.ref (n+10),.ref (n+11),.int (t+18) 0,.int (l+2) 0,.str "/claim/cut.py" (t+19)]},
  {cls:=.type "function",data:=.func {f with globals:=3,pyModule:=md,code:=.ref (n+12)}},
  {cls:=.type "tuple",data:=.seq #[.str "many" (t+21),.str "most" (t+22)]},
  {cls:=.type "dict",data:=.dict #[ent w "__module__" (t+7) md,ent w "__firstlineno__" (t+11) (.int l (t+10)),ent w "__init__" (t+20) (.ref (n+13)),ent w "__static_attributes__" (t+23) (.ref (n+14)),ent w "__doc__" (t+24) .none] 2},
  {cls:=.type "type",data:=.cls {name:=x,bases:=[.ref b],mro:=[.ref (n+16),.ref b,.type "ValueError",.type "Exception",.type "BaseException",.type "object"],ns:=n+15,qualname:=x},slots:=#[some (.ref n),none,some (.str x t),some (.str x (t+8)),some (.builtin "ValueError.__new__"),some (.bool true)]},
  {cls:=.type "super",data:=.fields #[.ref (n+16),.ref (n+16),.ref (n+16)]},
  {cls:=.type "builtin_function_or_method",data:=.fields #[.builtin "object.__init_subclass__",.ref (n+16)]}]
def tgF(w:World)(n t:Nat)(b:Addr)(md:Value)(cs:List (Str × Int))(st:Stmt)(l:Int)(s:Shared):Shared:=
 let m:=n+12*cs.length;let u:=t+16*cs.length
 {s with toks:=u+27,heap:={s.heap with objs:=⟨atL (Py (bM w n t cs++[ent w "TooGreat" (u+26) (.ref (m+16))])) 3 (atL (P0 (cn n cs++[.int l 0,.int 0 0,.ref (m+5)])) 12 (atL (Pz (Z7 n cs++[.ref (m+16)])) b s.heap.objs.toList))++(cZ w b md n t cs++Si w m u b md st l)⟩}}
noncomputable def v7(p:Program):Env:={scope:=p.main.scope,locals:=mainNs,globals:=mainNs,cells:=[],code:=.ref 13,frame:=some 14}
noncomputable def nV:Option Value:=some (.ref 6)
noncomputable def S0(p:Program)(w:World):Shared:=(GC BO p w 100000).getD (start (opening p)).1
def SA(p:Program)(w:World):Shared:=((topGo BO p w 11 nV 12 (S0 p w) (topStub p)).map Prod.fst).getD (S0 p w)
noncomputable def Bd(p:Program)(k:Nat):List Stmt:=(BB p).take 2++(((BB p).drop 2).take k++(BB p).drop (2+k))
def Cd(p:Program)(k:Nat):Code:=.body (Bd p k) (v7 p)
def S1(p:Program)(k:Nat)(w:World):Shared:=((segRun BO p w 11 nV 1 1000 (SA p w) (Gw ((BB p).take 2) (v7 p) (Cd p k) default [Dh default])).map λr=>r.2.1).getD (SA p w)
noncomputable def T9(l:Nat):Pos:=⟨l,0,l+1,8⟩
noncomputable def SD(l:Nat):Pos:=⟨l,0,l+5,24⟩
def S3(p:Program)(cs:List (Str × Int))(l:Nat)(w:World):Shared:=tgF w 28 207 24 (.str "evenhues.errors" 187) cs ((BB p).getD (2+cs.length) (.Pass ⟨0,0,0,0⟩)) l (S1 p (cs.length+1) w)
noncomputable def Yn(p:Program)(h:Heap)(z:Shared):Bool:=staticsOk (F8 p.main.body) h z.heap&&namesBound p z.heap&&gensDone z&&laidKept h z.heap
def chk(p:Program)(h:Heap)(z:Shared):Option Shared:=match Yn p h z with
 |true=>some z
 |false=>none
def eK{Yf}{Y:World->α}{T0 TA T1 T2:World->Shared}
 (S:cd=.body (l1++(l2++l3)) env)
 (h0:∀w,GC BO p w N=some (T0 w))
 (h1:∀w,((T0 w).heap.isNs AM&&(T0 w).gens.size == 0,(T0 w).heap.objs.size,(T0 w).heap.nsMap AM "__annotations__")=(true,m,ann))
 (hA:∀w,topGo BO p w m ann k0 (T0 w) (topStub p)=some (TA w,⟨denote BO (.body (l1++(l2++l3)) env),cd,b0,[Dh qq]⟩))
 (hB:∀w,segRun BO p w m ann 1 1 (TA w) (blockOf (l1++(l2++l3)) env cd b0 [Dh qq])=some (.next,TA w,cd,b0))
 (hC:∀w,segRun BO p w m ann 1 n1 (TA w) (Gw l1 env cd b0 [Dh qq])=some (.next,T1 w,cd,b1))
 (hD:∀w,segRun BO p w m ann 1 n2 (T1 w) (Gw l2 env cd b1 [Dh qq])=some (.next,T2 w,cd,b2))
 (hE:∀w,((topRun BO p w m ann n3 (T2 w) (restOf l3 env cd b2 [Dh qq])).bind (chk p (T0 w).heap)).map (λz=>(openSeen q loose (F8 p.main.body) Xt true z,Yf z))=some (openGood q loose,Y w))
 (le:Nat.ble (k0+(1+(n1+(n2+n3)))) N=true):LeftO p q loose Xt Yf Y N:=λw=>by
 have x:=h1 w;simp only[GD]at x;obtain⟨r,k1,k2⟩:=BC.mp (hE w);obtain⟨R,k3,O⟩:=D7.mp k1;have P:=topRun_mono (N-(k0+(1+(n1+(n2+n3))))) _ _ _ _ (go_top (hA w) (piece_block (hB w) (piece_app (hC w) (piece_app (hD w) k3))));rw[Nat.add_sub_cancel' (Nat.le_of_ble_eq_true le)]at P;have Q:topFrom BO p w N (T0 w)=some r:=by unfold topFrom;rw[x.1,x.2.1,x.2.2];dsimp only;rw[P];unfold chk Yn at O;exact O
 unfold openEnds;rw[h0 w,FL,Q];exact congrArg some k2
def RT{Z Y W U S R Q κ:Type}{o:Option Shared}{f:Shared->Z × Y × W × U × S × R × Q}{g:Shared->κ}{a}{b}{c}{d}{e}{i}{j}{u}(h0:o.map (λz=>(f z).1)=some a)(h1:o.map (λz=>((f z).2.1,(f z).2.2.1))=some (b,c))(P:o.map (λz=>(f z).2.2.2.1)=some d)(N:o.map (λz=>((f z).2.2.2.2.1,(f z).2.2.2.2.2.1))=some (e,i))(O:o.map (λz=>(f z).2.2.2.2.2.2)=some j)(x:o.map (λz=>(g z,Yn p h z))=some (u,true)):(o.bind (chk p h)).map (λz=>(f z,g z))=some ((a,b,c,d,e,i,j),u):=by
 cases o with
 |none=>cases x
 |some z=>
  simp only[DL,Ec,GD]at h0 h1 P O x N;have e1:chk p h z=some z:=by unfold chk;rw[x.2]
  rw[FL,e1,<-h0,<-h1.1,<-h1.2,<-P,<-N.1,<-N.2,<-O,<-x.1];rfl
structure XT where
 a:List Str
 c:List Str
 b:List Str
def adH(h:Heap)(x:Str):Option Addr:=match nsH h x with
 |some (some (.ref a))=>some a
 |_=>none
def V3(h:Heap)(x:Str):List (Addr × Obj):=match adH h x with
 |some a=>(match h.get? a with
  |some o=>(match o.data with
   |.cls cd=>(a,o)::(match h.get? cd.ns with
    |some n=>if yW n then [] else [(cd.ns,n)]
    |none=>[])
   |_=>[])
  |none=>[])
 |none=>[]
def kcH(h:Heap):List Str->Frag
 |[]=>[]
 |x::xs=>V3 h x++kcH h xs
noncomputable def veM:List Value:=[.type "ValueError",.type "Exception",.type "BaseException",.type "object"]
noncomputable def fA(K:Frag)(C:Addr):Bool:=(findIn K (.ref C) "__getattribute__" == some (some (.builtin "BaseException.__getattribute__")))&&(findIn K (.ref C) "__getattr__" == some none)&&(findIn K (.ref C) "__class__" == some (some (.builtin "object.__class__"))) &&
 (subIn K (.ref C) (.type "BaseException") == some true)&&(subIn K (.ref C) (.type "object") == some true)&&(clsIn K C).isSome
def ah(h:Heap)(C:Addr)(bm:List Value):Bool:=match h.get? C with
 |some o=>(match o.data with
  |.cls cd=>(cd.mro == .ref C::bm)&&(match h.get? cd.ns with
   |some n=>!yW n
   |none=>false)
  |_=>false)
 |none=>false
def bmB(h:Heap):Bool:=match adH h "__builtins__" with
 |some b=>(match h.get? b with
  |some o=>!yW o
  |none=>false)
 |none=>false
def iQ(h:Heap)(x:Str):Option Addr:=match adH h x with
 |some f=>(match h.get? f with
  |some o=>(match o.data with
   |.func fd=>(match fd.code with
    |.ref c=>(match h.get? c with
     |some oc=>(match oc.data with
      |.fields vs=>(match (vs[11]?:Option Value) with
       |some (.ref P)=>some P
       |_=>none)
      |_=>none)
     |none=>none)
    |_=>none)
   |_=>none)
  |none=>none)
 |none=>none
def mK(X:XT)(h:Heap):Bool:=match adH h "HueError" with
 |none=>false
 |some hue=>X.a.all (λc=>(adH h c).isSome)&&blB h "ValueError"&&X.c.all (λc=>match adH h c with
  |none=>false
  |some C=>fA (kcH h ("HueError"::X.a)) C&&(exmOne (kcH h ("HueError"::X.a)) (.ref C) (.ref hue) == some true)&&X.a.all (λd=>kitOne (kcH h ("HueError"::X.a)) (.ref C) (.ref ((adH h d).getD 0)) == some (decide (d=c))) &&
   (kitOne (kcH h ("HueError"::X.a)) (.ref C) (.type "ValueError") == some true)&&ah h C (.ref hue::veM)) &&
  ah h hue veM&&bmB h&&decide ((X.b.map (iQ h)).Nodup)
noncomputable def slB(x:Array (Option Value)):Bool:=match x.toList with
 |[_,_,_,_,some (.builtin m),_]=>decide (m="ValueError.__new__")
 |_=>false
def cb(h:Heap)(C hue:Addr):Bool:=match h.get? C with
 |some ⟨.type n,_,.cls cd,sl⟩=>decide (n="type")&&(cd.mro == .ref C::.ref hue::veM)&&cd.hasDict&&!cd.hasDel&&slB sl&&h.isNs cd.ns
 |_=>false
noncomputable def gN(h:Heap)(C:Addr):Option Addr:=match h.get? C with
 |some ⟨_,_,.cls cd,_⟩=>(match h.nsMap cd.ns "__init__" with
  |some (.ref f)=>some f
  |_=>none)
 |_=>none
def bg(h:Heap)(C:Addr):Option BA:=match gN h C with
 |some f=>(match h.get? f with
  |some ⟨.type n,_,.func fd,_⟩=>if decide (n="function")&&hU h fd.code "TooGreat.__init__" then some (W4 fd) else none
  |_=>none)
 |none=>none
noncomputable def UO(K:Frag)(C D:Addr):Bool:=(findIn K (.ref C) "__setattr__" == some (some (.builtin "object.__setattr__")))&&(findIn K (.ref C) "many" == some none)&&(findIn K (.ref C) "most" == some none) &&
 (specialIn K (.ref D) "__getattribute__" == some (some (.builtin "type.__getattribute__")))&&readsIn K D (.type "type")&&(match findCls K (.ref D) (.type "type") "__init__" with
  |some (.val (.builtin m))=>decide (m="ValueError.__init__")
  |_=>false)
def kcG(h:Heap)(x:List Str):Frag:=(match h.get? cStatics with
 |some o=>if yW o then [] else [(cStatics,o)]
 |none=>[])++kcH h x
def Xu(X:XT)(h:Heap):Bool × Option BA:=match adH h "TooGreat" with
 |some C=>(match adH h "HueError" with
  |some D=>(cb h C D&&UO (kcG h ("HueError"::X.a)) C D&&(exmOne (kcG h ("HueError"::X.a)) (.ref C) (.ref C) == some true)&&fA (kcG h ("HueError"::X.a)) C,bg h C)
  |none=>(false,none))
 |none=>(false,none)
noncomputable def jH(s:Stmt):Stmt:=match s with
 |.ClassDef _ _ _ (st::_) _ _ _ _ _ _ _=>st
 |_=>.Pass ⟨0,0,0,0⟩
def YJ(st:Stmt):Bool × Option BA:=(true,some (BJ "__init__" "TooGreat.__init__" (args st) (body st) (scope st) .none .none .none .none none .none .none))
def RU{Q P O:Type}{o:Option Shared}{f:Shared->Q}{g:Shared->P}{r}{a}{b}{d:O}(h1:(o.bind (chk p h)).map (λz=>(f z,g z))=some (a,b))(x:o.map q=some true)(N:o.map r=some d):(o.bind (chk p h)).map (λz=>(f z,(g z,(q z,r z))))=some (a,(b,(true,d))):=by
 cases o with
 |none=>cases x
 |some z=>
  rw[FL]at h1 ⊢;unfold chk at h1 ⊢;split
  . rename_i e
    rw[e]at h1;simp only[DL,Ec,GD]at h1 x N ⊢;exact⟨h1.1,h1.2,x,N⟩
  . rename_i e;rw[e]at h1;cases h1
end Hd
end
section
set_option maxHeartbeats 0
open PySem PySem.W PyProof.Rows
namespace P13
noncomputable def top(i:Nat):Stmt:=PySem.Challenge.pw_evenhues_k13_sizes_refused.main.body.getD i (.Pass ⟨0,0,0,0⟩)
def D:List (Str × Stmt):=(("is_whole":Str),top 22)::(("are_wholes":Str),top 23)::(("need_whole":Str),top 24)::(("need_length":Str),top 25)::(("are_sizes":Str),top 35)::(("need_sizes":Str),top 36)::(("fits":Str),top 37)::(("first_wrong":Str),top 38)::(("product_of":Str),top 43)::(("need_small_sizes":Str),top 44)::(("may_follow":Str),top 45)::(("grown":Str),top 46)::(("tally":Str),top 47)::(("farthest":Str),top 48)::(("all_strips":Str),top 49)::(("strips_many":Str),top 50)::(("first_strip":Str),top 51)::(("led_on":Str),top 56)::(("led_more":Str),top 57)::(("ends":Str),top 58)::(("shut_ends":Str),top 59)::(("kinds":Str),top 63)::(("_law_cell_at":Str),top 65)::(("_law_pen":Str),top 66)::(("_law_draw":Str),top 67)::(("_law_sizes":Str),top 68)::(("_law_class":Str),top 69)::(("_law_said":Str),top 70)::(("_law_no_sizes":Str),top 71)::(("_law_all":Str),top 72)::(("law":Str),top 73)::[]
noncomputable def gl:List (Str × Hd.G):=[("MOST_PLACES",.a 40),("LEAST_SIZE",.a 2),("MOST_SIZE",.a 8),("HUES",.b [0,1,2,3]),("MOST_PRODUCT",.a 12)]
def q:Program:={PySem.Challenge.pw_evenhues_k13_sizes_refused with main:={PySem.Challenge.pw_evenhues_k13_sizes_refused.main with body:=[1,2,3,4,5,6,7,8,9,10,11,12,13,14,15,16,17,19,20,21,22,23,24,25,27,29,30,31,33,35,36,37,38,39,40,42,43,44,45,46,47,48,49,50,51,53,54,55,56,57,58,59,61,62,63,65,66,67,68,69,70,71,72,73].map top}}
def dd:DefRec:=Hd.V5 "law" (top 73)
noncomputable def X:Hd.XT:=⟨["NoStrip","NoSizes","NoNumber","NoPlace","NoHue","NoDraft","NoPaper","NoFit","NoLot","NoRing","NoRound","NoStand","NoText","NoDeed","NoLine","TooGreat"],["NoSizes","NoNumber","TooGreat"],["_law_all","law"]⟩
noncomputable abbrev pr:Program:=PySem.Challenge.rw_evenhues_k13_sizes_refused.row.prog
noncomputable def V4:List (Str × Int):=[("NoStrip",4),("NoSizes",6),("NoNumber",8),("NoPlace",10),("NoHue",12),("NoDraft",14),("NoPaper",16),("NoFit",18),("NoLot",20),("NoRing",22),("NoRound",24),("NoStand",26),("NoText",28),("NoDeed",30),("NoLine",32)]
def Fz(w:World):Option Shared:=topRun BO pr w 11 Hd.nV 50000 (Hd.S3 pr V4 34 w) (restOf ((BB pr).drop 18) (Hd.v7 pr) (Hd.Cd pr 16) (Hd.SD 34) [Dh default])
def Sn(z:Shared):=openSeen q [] (F8 pr.main.body) (λs=>Fb PySem.Challenge.rw_evenhues_k13_sizes_refused.row.records s) true z
def e0:∀w,(Fz w).map (λz=>(Sn z).1)=some (expectedOf q):=by
 intro w
 kernel_rfl
def e1:∀w,(Fz w).map (λz=>((Sn z).2.1,(Sn z).2.2.1))=some (bltViewBooted,true):=by
 intro w
 kernel_rfl
def e2:∀w,(Fz w).map (λz=>(Sn z).2.2.2.1)=some true:=by
 intro w
 kernel_rfl
def e6:∀w,(Fz w).map (λz=>((Sn z).2.2.2.2.1,(Sn z).2.2.2.2.2.1))=some (pinGoodD (drecsOf q),plainGoodE q (looseW q [])):=by
 intro w
 kernel_rfl
def e3:∀w,(Fz w).map (λz=>(Sn z).2.2.2.2.2.2)=some (plainGoodD q [],wideGood q,clsGoodW q []):=by
 intro w
 kernel_rfl
def e4:∀w,(Fz w).map (λz=>(Hd.aq D gl z,Hd.Yn pr (Hd.S0 pr w).heap z))=some (Hd.YK D,true):=by
 intro w
 kernel_rfl
def e5:∀w,(Fz w).map (λz=>Hd.mK X z.heap)=some true:=by
 intro w
 kernel_rfl
def e7:∀w,(Fz w).map (λz=>Hd.Xu X z.heap)=some (Hd.YJ (Hd.jH (top 17))):=by
 intro w
 kernel_rfl
def h0:∀w,GC BO pr w 100000=some (Hd.S0 pr w):=by
 intro w
 kernel_rfl
def h1:∀w,((Hd.S0 pr w).heap.isNs AM&&(Hd.S0 pr w).gens.size == 0,(Hd.S0 pr w).heap.objs.size,(Hd.S0 pr w).heap.nsMap AM "__annotations__")=(true,11,Hd.nV):=by
 intro w
 kernel_rfl
def hA:∀w,topGo BO pr w 11 Hd.nV 12 (Hd.S0 pr w) (topStub pr)=some (Hd.SA pr w,⟨denote BO (.body (Hd.Bd pr 16) (Hd.v7 pr)),Hd.Cd pr 16,default,[Dh default]⟩):=by
 intro w
 kernel_rfl
def hB:∀w,segRun BO pr w 11 Hd.nV 1 1 (Hd.SA pr w) (blockOf (Hd.Bd pr 16) (Hd.v7 pr) (Hd.Cd pr 16) default [Dh default])=some (.next,Hd.SA pr w,Hd.Cd pr 16,default):=by
 intro w
 kernel_rfl
def hC:∀w,segRun BO pr w 11 Hd.nV 1 1000 (Hd.SA pr w) (Gw ((BB pr).take 2) (Hd.v7 pr) (Hd.Cd pr 16) default [Dh default])=some (.next,Hd.S1 pr 16 w,Hd.Cd pr 16,Hd.T9 2):=by
 intro w
 kernel_rfl
def hD:∀w,segRun BO pr w 11 Hd.nV 1 20000 (Hd.S1 pr 16 w) (Gw (((BB pr).drop 2).take 16) (Hd.v7 pr) (Hd.Cd pr 16) (Hd.T9 2) [Dh default])=some (.next,Hd.S3 pr V4 34 w,Hd.Cd pr 16,(Hd.SD 34)):=by
 intro w
 kernel_rfl
def hE:∀w,((Fz w).bind (Hd.chk pr (Hd.S0 pr w).heap)).map (λz=>(Sn z,Hd.aq D gl z))=some (openGood q [],Hd.YK D):=λw=>Hd.RT (e0 w) (e1 w) (e2 w) (e6 w) (e3 w) (e4 w)
def left:PySem.W.LeftO pr q [] (λs=>Fb PySem.Challenge.rw_evenhues_k13_sizes_refused.row.records s) (λz=>(Hd.aq D gl z,(Hd.mK X z.heap,Hd.Xu X z.heap))) (λ_=>(Hd.YK D,(true,Hd.YJ (Hd.jH (top 17))))) 100000:=
 Hd.eK (p:=pr) (T0:=Hd.S0 pr) (TA:=Hd.SA pr) (T1:=Hd.S1 pr 16) (T2:=Hd.S3 pr V4 34) (N:=100000) (m:=11) (k0:=12) (n1:=1000) (n2:=20000) (n3:=50000) (ann:=Hd.nV) (env:=Hd.v7 pr) (l1:=(BB pr).take 2) (l2:=((BB pr).drop 2).take 16) (l3:=(BB pr).drop 18) (cd:=Hd.Cd pr 16) (b0:=default) (b1:=Hd.T9 2) (b2:=(Hd.SD 34)) (qq:=default) rfl h0 h1 hA hB hC hD (λw=>Hd.RU (hE w) (e5 w) (e7 w)) (by decide +kernel)
def sW:PySem.Challenge.rw_evenhues_k13_sizes_refused.wellSaid=true:=by kernel_rfl
def bc:PySem.W.defOf q PySem.Challenge.rw_evenhues_k13_sizes_refused.row.name=some (dd,[]):=by kernel_rfl
def hp:PySem.Challenge.rw_evenhues_k13_sizes_refused.row.prog.theDef PySem.Challenge.rw_evenhues_k13_sizes_refused.row.name=some (dd.params,dd.body,dd.scope):=by kernel_rfl
def hk:PySem.W.kwWritten? dd.params.kwonlyargs dd.params.kw_defaults=some []:=by kernel_rfl
def hwr:(!PySem.Challenge.rw_evenhues_k13_sizes_refused.row.writes||PySem.Challenge.rw_evenhues_k13_sizes_refused.row.records.isEmpty)=true:=by kernel_rfl
def ok:(PySem.W.chainsOk q&&PySem.W.opensWell PySem.Challenge.rw_evenhues_k13_sizes_refused.row.prog&&(PySem.W.frees PySem.Challenge.rw_evenhues_k13_sizes_refused.row.toRowW&&PySem.Challenge.rw_evenhues_k13_sizes_refused.row.within.isEmpty))=true:=by kernel_rfl
def hdf:dd.params.defaults=[]:=by kernel_rfl
theorem bare:PySem.Challenge.rw_evenhues_k13_sizes_refused.row.prog.bare:=⟨rfl,rfl,rfl,rfl,rfl,by decide +kernel⟩
def hw:PySem.Challenge.rw_evenhues_k13_sizes_refused.row.toRowW.promised:=by w_witness2
end P13
end
section
namespace L2
open PySem PySem.Spec PyProof.Rows
abbrev Key:=Sum Int Str
noncomputable def VL:Key->Value->Bool
 |.inl k,v=>Value.isInt k v
 |.inr x,v=>Value.isStrOf x v
noncomputable def PZ(w:World):Key->Int
 |.inl k=>hashInt k
 |.inr x=>hashStr w x
def yN:∀{k} {v},VL k v=true->(∃i t,k=Ew i/\v=F9 i t)\/(∃x t,k=Ey x/\v=Ga x t)
 |.inl i,v,h=>by
  obtain⟨t,e⟩:=Value.isInt_shape (k:=i) (v:=v) h;exact .inl ⟨i,t,rfl,e⟩
 |.inr x,v,h=>by obtain⟨t,e⟩:=Value.isStrOf_shape (x:=x) (v:=v) h;exact .inr ⟨x,t,rfl,e⟩
def U8 a b:decide ((Ew a:Key)=Ew b)=(a == b):=by
 by_cases e:a=b
 . subst e;simp
 . have h:¬(Ew a:Key)=Ew b:=λq=>e (Ew.inj q)
   rw[decide_eq_false h];exact(beq_eq_false_iff_ne.mpr e).symm
def TF a b:decide ((Ey a:Key)=Ey b)=decide (a=b):=by
 by_cases e:a=b
 . subst e;simp
 . have h:¬(Ey a:Key)=Ey b:=λq=>e (Ey.inj q)
   rw[decide_eq_false h,decide_eq_false e]
def U9 a b:decide ((Ew a:Key)=Ey b)=false:=decide_eq_false (λq=>nomatch q)
def TC a b:decide ((Ey a:Key)=Ew b)=false:=decide_eq_false (λq=>nomatch q)
def mC(prog:Program)(w:World):PySem.KeyKind prog w Key where
 is:=VL
 hash:=PZ w
 inj:=λv a b P O=>by
  rcases yN P with⟨i,t,rfl,rfl⟩|⟨x,t,rfl,rfl⟩
  . rcases yN O with⟨j,u,rfl,e⟩|⟨y,u,rfl,e⟩
    . injection e with e1 _;rw[e1]
    . exact nomatch e
  . rcases yN O with⟨j,u,rfl,e⟩|⟨y,u,rfl,e⟩
    . exact nomatch e
    . injection e with e1 _;rw[e1]
 byValue:=λk v h=>by
  rcases yN h with⟨i,t,rfl,rfl⟩|⟨x,t,rfl,rfl⟩<;>rfl
 pyHash:=λN h=>by
  rcases yN N with⟨i,t,rfl,rfl⟩|⟨x,t,rfl,rfl⟩
  . exact wpAny_pyHash_int h
  . exact wpAny_pyHash_str h
 eqBool:=λhu N h=>by
  rcases yN hu with⟨i,t,rfl,rfl⟩|⟨x,t,rfl,rfl⟩
  . rcases yN N with⟨j,u,rfl,rfl⟩|⟨y,u,rfl,rfl⟩
    . rw[U8]at h;exact wpAny_eqBool_int h
    . rw[U9]at h;exact Bj.int_str i t y u _ _ _ _ h
  . rcases yN N with⟨j,u,rfl,rfl⟩|⟨y,u,rfl,rfl⟩
    . rw[TC]at h;exact Bj.str_int x t j u _ _ _ _ h
    . rw[TF]at h;exact wpAny_eqBool_str h
 «strs»:=λk x t v h=>by
  rcases yN h with⟨i,u,rfl,e⟩|⟨y,u,rfl,e⟩
  . exact nomatch e
  . injection e with e1 _
    subst e1;cases v<;>rfl
inductive V where
 |g|f (b:Bool)|d (i:Int)|e (x:Str)|h (b:Array UInt8)|j (b:UInt64)|c (a:Addr)|k (n:String)
 deriving DecidableEq
def RelV:V->Value->Prop
 |.g,u=>u=Be
 |.f b,u=>u=C7 b
 |.d i,u=>∃t,u=F9 i t
 |.e x,u=>∃t,u=Ga x t
 |.h b,u=>∃t,u=Value.bytes b t
 |.j b,u=>∃t,u=Value.float b t
 |.c a,u=>u=AH a
 |.k n,u=>u=FE n
abbrev Vals:List V->List Value->Prop:=Paired RelV
theorem Vals.length(r:Vals xs us):xs.length=us.length:=GF r
theorem Vals.get:∀{xs} {us} {i:Nat} {x},Vals xs us->xs[i]?=some x->∃u,us[i]?=some u/\RelV x u
 |_,_,_,_,.nil,e=>by simp at e
 |_,_,0,_,.cons r _,e=>by simp at e;subst e;exact⟨_,rfl,r⟩
 |_,_,i+1,x,.cons _ t,e=>by
  obtain⟨u,h1,N⟩:=Vals.get (i:=i) (x:=x) t (by simpa using e)
  exact⟨u,by simpa using h1,N⟩
theorem Vals.set(r:RelV x u):∀{xs} {us} i,Vals xs us->Vals (xs.set i x) (us.set i u)
 |_,_,_,.nil=>.nil
 |_,_,0,.cons _ t=>.cons r t
 |_,_,i+1,.cons q t=>.cons q (Vals.set r i t)
theorem Vals.append:∀{xs ys} {us ws},Vals xs us->Vals ys ws->Vals (xs++ys) (us++ws)
 |_,_,_,_,.nil,s=>s
 |_,_,_,_,.cons r t,s=>.cons r (Vals.append t s)
theorem Vals.take:∀{xs} {us} n,Vals xs us->Vals (xs.take n) (us.take n)
 |_,_,0,_=>.nil
 |_,_,_+1,.nil=>.nil
 |_,_,n+1,.cons r t=>.cons r (Vals.take n t)
theorem Vals.drop:∀{xs} {us} n,Vals xs us->Vals (xs.drop n) (us.drop n)
 |_,_,0,r=>r
 |_,_,_+1,.nil=>.nil
 |_,_,n+1,.cons _ t=>Vals.drop n t
def Vals.none_of:∀{xs} {us} {i:Nat},Vals xs us->xs[i]?=none->us[i]?=none:=λ{xs us i} r e=>by have h1:=r.length;have x:xs.length<=i:=CL.mp e;exact CL.mpr ⋯
def my:Option V->Option Value->Prop
 |some v,some u=>RelV v u
 |none,none=>True
 |_,_=>False
def KV{κ:Type}:List (κ × V)->List (κ × Value)->Prop:=Paired λ(p:κ × V) (q:κ × Value)=>p.1=q.1/\RelV p.2 q.2
noncomputable def kV:Key->V
 |.inl i=>.d i
 |.inr x=>.e x
inductive HO where
 /-- a list -/
 |b (xs:List V)
 /-- a tuple (never changes) -/
 |c (xs:List V)
 /-- a dict whose keys are ints and texts;one whose keys are tuples of ints and texts (the empty one is both) -/
 |i (kvs:List (Key × V))|k (kvs:List (List Key × V))
 /-- a set of ints: its members,its size -/
 |p (S:Int->Bool) (n:Nat)
 /-- an instance of the class at C,its dict at dx,its attributes -/
 |l (C dx:Addr) (fs:List (Str × V))
 /-- the dict of the instance at x -/
 |e (x:Addr)
 /-- the dict of an exception -/
 |m (fs:List (Str × V))
 /-- a bound method,f of x -/
 |q (f x:Addr)
 /-- a range object lo,lo+1,.. below hi -/
 |r (lo hi:Int)
 /-- a thing that is known to the object (the script;a dict while a loop walks it): read,never written while it is so -/
 |d (o:Obj) (u:HO)
 /-- a code object's table -/
 |g (ps:Array Value)
 /-- any other thing,by what is true of its one object (a def of one's own: SetO a S n:=HO.ext λh=>..) -/
 |j (φ:Heap->Prop)
abbrev Hp:=Addr->Option HO
def tu(h:Heap)(a:Addr)(items:Array Value):Prop:=∃o,h.get? a=some o/\o.cls=.type "tuple"/\∃n,o.data=.seq items n/\o.dict=none
def tu.tup{h:Heap}{a:Addr}{items:Array Value}(x:tu h a items):IsTup h a items:=let ⟨o,e,c,n,d,_⟩:=x;⟨o,e,c,n,d⟩
def tu.lt(x:tu h a items):a<h.objs.size:=let ⟨_,e,_⟩:=x;Al e
def tu.new(h:Heap)items:tu (h.push {cls:=.type "tuple",data:=.seq items}) h.objs.size items:=⟨_,AD _ rfl,rfl,_,rfl,rfl⟩
noncomputable def upd(H:Hp)(a:Addr)(o:HO):Hp:=λb=>if b=a then some o else H b
def zJ:upd H a o a=some o:=by unfold upd;rw[if_pos rfl]
def zG(h:b≠a):upd H a o b=H b:=by unfold upd;rw[if_neg h]
def zR{H:Hp}(h:H a=some o)(h':H b=none):a≠b:=by intro e;subst e;rw[h]at h';cases h'
section
variable (P:Program)(w:World)
def z6(H:Hp)(h:Heap)(a:Addr):HO->Prop
 |.b O=>O.length<=Ap/\∃(N:List Value) (n:Nat),Vals O N/\h.get? a=some {cls:=.type "list",data:=.seq N.toArray n}
 |.c O=>O.length<=Ap/\∃N:List Value,Vals O N/\tu h a N.toArray
 |.i kvs=>kvs.length<=Ap/\(a == B9)=false/\∃vs,KV kvs vs/\h.DictOf (mC P w) a vs
 |.k kvs=>kvs.length<=Ap/\(a == B9)=false/\∃O:List (List Key × Addr × Value),
  Paired (λ(p:List Key × V) (q:List Key × Addr × Value)=>p.1=q.1/\H q.2.1=some (.c (p.1.map kV))/\RelV p.2 q.2.2) kvs O /\
  ∃o es R,h.get? a=some o/\o.ExactDict/\o.data=.dict es R/\es.toList=O.map (entryOfKey (tupleKind (mC P w)))/\(O.map (·.1)).Nodup
 |.p S n=>h.SetOf (intKind P w) a S n
 |.l C dx fs=>H dx=some (.e a)/\fs.length<=1000/\dx≠a/\h.get? a=some (Gb C dx) /\
  ∃mA,h.Ns1 dx mA/\(∀f,my (fs.lookup f) (mA f))/\EF mA (fs.map (·.1))
 |.e _=>∃o,h.get? a=some o
 |.m fs=>∃mA,h.Ns1 a mA/\∀f,my (fs.lookup f) (mA f)
 |.r lo hi=>∃t u v,h.get? a=some {cls:=.type "range",data:=.fields #[.int lo t,.int hi u,.int 1 v]}
 |.d o u=>h.get? a=some o/\z6 H h a u
 |.g ps=>h.get? a=some {cls:=.none,data:=.fields ps}
 |.q f x=>h.get? a=some (Fq (.ref f) (.ref x))
 |.j φ=>φ h/\(∃o,h.get? a=some o)/\∀h1 Q:Heap,φ h1->(∀o,h1.get? a=some o->Q.get? a=some o)->φ Q
def HOk(H:Hp)(h:Heap):Prop:=∀a o,H a=some o->z6 P w H h a o
end
theorem z6.lt(x:z6 P w H h a o):a<h.objs.size:=by
 cases o with
 |b O=>obtain⟨_,_,_,_,e⟩:=x;exact Al e
 |c O=>obtain⟨_,_,_,p⟩:=x;exact p.lt
 |i N=>obtain⟨_,_,_,_,o,_,_,e,_⟩:=x;exact Al e
 |k N=>obtain⟨_,_,_,_,o,_,_,e,_⟩:=x;exact Al e
 |p S n=>obtain⟨o,_,_,_,e,_⟩:=x;exact Al e
 |l C dx fs=>obtain⟨_,_,_,e,_⟩:=x;exact Al e
 |e y=>obtain⟨_,e⟩:=x;exact Al e
 |m fs=>obtain⟨_,⟨_,_,_,e,_⟩,_⟩:=x;exact Al e
 |r lo hi=>obtain⟨_,_,_,e⟩:=x;exact Al e
 |d ob u=>obtain⟨e,_⟩:=x;exact Al e
 |g ps=>exact Al (show h.get? a=some _ from x)
 |q f y=>exact Al (show h.get? a=some _ from x)
 |j Q=>obtain⟨_,⟨_,e⟩,_⟩:=x;exact Al e
theorem Paired.Rx:∀{l₁} {l₂},Paired F l₁ l₂->(∀a b,F a b->G a b)->Paired G l₁ l₂
 |_,_,.nil,_=>.nil
 |_,_,.cons r t,f=>.cons (f _ _ r) (Paired.Rx t f)
def z6.pX(x:z6 P w H h a o)(k:∀b u,(b=a\/H b=some (.e a))->h.get? b=some u->h'.get? b=some u)
 (Y:∀b,H b=some (.e a)->H' b=some (.e a)) (W:∀b Q,H b=some (.c Q)->H' b=some (.c Q)):z6 P w H' h' a o:=by
 induction o with
 |b Q=>obtain⟨z,O,n,r,e⟩:=x;exact⟨z,O,n,r,k _ _ (.inl rfl) e⟩
 |c Q=>obtain⟨z,O,r,ob,e,c⟩:=x;exact⟨z,O,r,ob,k _ _ (.inl rfl) e,c⟩
 |i R=>obtain⟨z,y,vs,r,ob,es,N,e,c⟩:=x;exact⟨z,y,vs,r,ob,es,N,k _ _ (.inl rfl) e,c⟩
 |k R=>
  obtain⟨z,y,Q,r,ob,es,N,e,c⟩:=x;exact⟨z,y,Q,Paired.Rx r λp q z=>⟨z.1,W _ _ z.2.1,z.2.2⟩,ob,es,N,k _ _ (.inl rfl) e,c⟩
 |p S n=>obtain⟨ob,es,N,t,e,c⟩:=x;exact⟨ob,es,N,t,k _ _ (.inl rfl) e,c⟩
 |l C dx fs=>
  obtain⟨d,z,ne,e,mA,⟨od,es,N,e2,c⟩,r⟩:=x;exact⟨Y _ d,z,ne,k _ _ (.inl rfl) e,mA,⟨od,es,N,k _ _ (.inr d) e2,c⟩,r⟩
 |e y=>obtain⟨ob,e⟩:=x;exact⟨ob,k _ _ (.inl rfl) e⟩
 |m fs=>obtain⟨mA,⟨od,es,N,e,c⟩,r⟩:=x;exact⟨mA,⟨od,es,N,k _ _ (.inl rfl) e,c⟩,r⟩
 |r lo hi=>obtain⟨t,u,v,e⟩:=x;exact⟨t,u,v,k _ _ (.inl rfl) e⟩
 |d ob u U=>obtain⟨e,q⟩:=x;exact⟨k _ _ (.inl rfl) e,U q⟩
 |g ps=>
  have e:h.get? a=some {cls:=.none,data:=.fields ps}:=x;show h'.get? a=some {cls:=.none,data:=.fields ps};exact k a _ (.inl rfl) e
 |q f y=>
  have e:h.get? a=some (Fq (.ref f) (.ref y)):=x;show h'.get? a=some (Fq (.ref f) (.ref y));exact k a _ (.inl rfl) e
 |j Z=>obtain⟨p,⟨o,e⟩,st⟩:=x;exact⟨st _ _ p λo q=>k _ _ (.inl rfl) q,⟨o,k _ _ (.inl rfl) e⟩,st⟩
theorem HOk.lt(x:HOk P w H h)(e:H a=some o):a<h.objs.size:=(x a o e).lt
def HOk.fresh(x:HOk P w H h)(e:h.objs.size<=a):H a=none:=by
 cases q:H a with
 |none=>rfl
 |some u=>exact absurd (Aq (x.lt q) e) (Bc _)
def HOk.kept(x:HOk P w H h)(k:∀b u,h.get? b=some u->h'.get? b=some u):HOk P w H h':=λa o e=>
 (x a o e).pX (λb u _ q=>k b u q) (λ_ q=>q) λ_ _ q=>q
def HOk.laid(x:HOk P w H h)(k:∀b u,h.get? b=some u->h'.get? b=some u)(hp:h.objs.size<=a)(new:z6 P w (upd H a o) h' a o):HOk P w (upd H a o) h':=λb u e=>by
 have N:=x.fresh hp;by_cases hb:b=a
 . subst hb;rw[zJ]at e;cases e;exact new
 . rw[zG hb]at e
   exact(x b u e).pX (λc v _ q=>k c v q) (λc q=>by rw[zG (zR q N)];exact q) λc O q=>by rw[zG (zR q N)];exact q
def Rd(H:Hp)(a:Addr)(u:HO):Prop:=H a=some u\/∃o,H a=some (.d o u)
def Rd.ok(r:Rd H a u)(x:HOk P w H h):z6 P w H h a u:=by
 rcases r with r|⟨o,r⟩
 . exact x a u r
 . obtain⟨_,q⟩:=x a _ r
   exact q
def Mut:Option HO->Prop
 |some (.b _)=>True
 |some (.i _)=>True
 |some (.k _)=>True
 |some (.p _ _)=>True
 |some (.l _ _ _)=>True
 |some (.j _)=>True
 |_=>False
def HOk.write(ok:HOk P w H h)(R:Mut (H x))(Y:e=x\/H e=some (.e x))(k:∀b u,b≠e->h.get? b=some u->h'.get? b=some u)(U:∃u,h'.get? e=some u)
 (new:z6 P w (upd H x o') h' x o'):HOk P w (upd H x o') h':=λb u q=>by
 have N:∀c y,H c=some (.e y)->c≠x:=λc y r z=>by subst z;rw[r]at R;exact R
 have O:∀c Q,H c=some (.c Q)->c≠x:=λc Q r z=>by subst z;rw[r]at R;exact R
 by_cases hb:b=x
 . subst hb;rw[zJ]at q;cases q;exact new
 . rw[zG hb]at q
   by_cases hbe:b=e
   . have W:H b=some (.e x):=by
      rcases Y with z|z
      . exact absurd (hbe.trans z) hb
      . rw[hbe];exact z
     rw[q]at W;cases W;obtain⟨v,Z⟩:=U;exact⟨v,by rw[hbe];exact Z⟩
   . refine(ok b u q).pX (λc v S r=>k c v ?_ r) (λc r=>by rw[zG (N c b r)];exact r) λc Q r=>by rw[zG (O c Q r)];exact r
     rcases S with rfl|S
     . exact hbe
     . rintro rfl
       rcases Y with z|z
       . exact N c b S z
       . rw[S]at z;cases z;exact hb rfl
structure Un(fs ex:List Addr)(H H':Hp)(h h':Heap):Prop where
 f:∀b o,h.get? b=some o->H b=none->b ∉ fs->b ∉ ex->h'.get? b=some o
 i:∀b o,h.get? b=some o->H b=none->b∈fs->b ∉ ex->∃sl,h'.get? b=some {o with slots:=sl}
 d:∀b o,h.get? b=some o->H b=none->b ∉ ex->H' b=none
 c:∀b o,h.get? b=some o->b ∉ ex->∃o',h'.get? b=some o'
 l:∀b xs,H b=some (.c xs)->H' b=some (.c xs)
 g:∀b o u,H b=some (.d o u)->H' b=some (.d o u)
 j:∀b ps,H b=some (.g ps)->∃more,H' b=some (.g (ps++more))
def Un.any(u:Un fs ex H H1 h h1)(q:h.get? b=some ob)(n:H b=none)(hx:b ∉ ex):∃x,h1.get? b=some {ob with slots:=x}:=by
 by_cases hb:b∈fs
 . exact u.i b ob q n hb hx
 . exact⟨ob.slots,u.f b ob q n hb hx⟩
def Un.kept(k:∀b u,h.get? b=some u->h'.get? b=some u):Un fs ex H H h h':=
 ⟨λb ob q _ _ _=>k b ob q,λb ob q _ _ _=>⟨ob.slots,k b ob q⟩,λ_ _ _ n _=>n,λb ob q _=>⟨ob,k b ob q⟩,λ_ _ q=>q,λ_ _ _ q=>q,λ_ ps q=>⟨#[],by rw[q];simp⟩⟩
def Un.refl:Un fs ex H H h h:=Un.kept λ_ _ q=>q
def Un.laid(k:∀b u,h.get? b=some u->h'.get? b=some u)(hp:h.objs.size<=a)(x:H a=none):Un fs ex H (upd H a o) h h' where
 f:=λb u q _ _ _=>k b u q
 i:=λb u q _ _ _=>⟨u.slots,k b u q⟩
 d:=λb u q n _=>by rw[zG (AI (Aq (Al q) hp))];exact n
 c:=λb u q _=>⟨u,k b u q⟩
 l:=λb N q=>by rw[zG (zR q x)];exact q
 g:=λb u N q=>by rw[zG (zR q x)];exact q
 j:=λb ps q=>⟨#[],by rw[zG (zR q x),q];simp⟩
def Un.write(N:Mut (H x))(S:e=x\/H e=some (.e x))(k:∀b u,b≠e->h.get? b=some u->h'.get? b=some u)(P:∃u,h'.get? e=some u):Un fs ex H (upd H x o) h h':=by
 have hx:∀b,H b=none->b≠x:=λb n z=>by subst z;rw[n]at N;exact N
 have Q:∀b,H b=none->b≠e:=λb n z=>by
  subst z;rcases S with r|r
  . exact hx b n r
  . rw[n]at r;cases r
 have O:∀b u,H b=some u->¬Mut (some u)->b≠x:=λb u q nm z=>by subst z;rw[q]at N;exact nm N
 refine⟨λb u q n _ _=>k b u (Q b n) q,λb u q n _ _=>⟨u.slots,k b u (Q b n) q⟩,λb u q n _=>by rw[zG (hx b n)];exact n,λb u q _=>?_,
  λb R q=>by rw[zG (O b _ q λz=>z)];exact q,λb u R q=>by rw[zG (O b _ q λz=>z)];exact q,λb ps q=>⟨#[],by rw[zG (O b _ q λz=>z),q];simp⟩⟩
 by_cases hbe:b=e
 . subst hbe;exact P
 . exact⟨u,k b u hbe q⟩
noncomputable def trk(h:Heap)(H:Hp):List Addr:=(AR h.objs.size).filter λa=>(H a).isSome
def ny(h:Heap)(H:Hp):Heap:=PySem.W.hideAll h (trk h H)
def fh h H:(ny h H).objs.size=h.objs.size:=PySem.W.hideAll_size _ _
def bf(e:h.get? b=some o)(n:H b=none):(ny h H).get? b=some o:=
 PySem.W.hideAll_get _ e λx=>by have q:(H b).isSome=true:=(EG.mp x).2;rw[n]at q;simp at q
def Xw(e:(ny h H).get? b=some o):h.get? b=some o/\H b=none:=by
 have N:h.get? b=some o:=PySem.W.of_hideAll (trk h H) e;refine⟨N,?_⟩;cases q:H b with
 |none=>rfl
 |some x=>
  have O:b∈trk h H:=EG.mpr ⟨Bu.mpr (Al N),by simp[q]⟩
  have z:(ny h H).get? b=none:=PySem.W.hideAll_none (trk h H) O;rw[z]at e;cases e
structure Mod(K:Ab)(mg:Str->Option Value)(base:Heap):Prop where
 a:K.In base
 c:base.Ns AM mg
 d:∃mb,base.Ns FF mb/\∀x:Str,x≠"__name__"->mb x=Cg x
 b:base.NoLimit
structure Cx where
 f:Program
 w:World
 K:Ab
 d:Str->Option Value
 h:Heap
 A:Around
 N:List Str
 l:Shared
 r:Hp
 a:Env
 k:List Env
 g:List Env
 m:List Addr
 n:Str->Bool
 j:Bool
 q:List (Addr × Obj)
 i:Value->Shared->Prop
noncomputable def frs(l:List Env):List Addr:=l.filterMap (·.frame)
abbrev Cx.fs(X:Cx):List Addr:=frs X.k
def Vis(sc:Scope)(x:Str):Prop:=sc.names.lookup x=some .local\/sc.names.lookup x=some .cell\/sc.names.lookup x=some .free
def Loc(sc:Scope)(x:Str):Prop:=sc.names.lookup x=some .local\/sc.names.lookup x=some .cell
def Look(env:Env)(h:Heap)(m:Str->Option Value)(x:Str)(u:Value):Prop:=
 (env.kindOf x=some .local/\m x=some u)\/((env.kindOf x=some .cell\/env.kindOf x=some .free)/\∃c,env.cells.lookup x=some c/\h.IsCell c (some u))
structure Cx.Ok(X:Cx):Prop where
 i:Mod X.K X.d X.h
 a:X.a.scope.kind=.function
 j:X.a.globals=AM
 t:X.a.builtins=FF
 d:X.l.heap.objs.size<=X.a.locals
 r:∀x y c,X.a.cells.lookup x=some c->X.a.cells.lookup y=some c->x=y
 p:∀x,(X.a.kindOf x=some .cell\/X.a.kindOf x=some .free)->∃c,X.a.cells.lookup x=some c
 s:∀x c,X.n x=true->X.a.cells.lookup x=some c->X.l.heap.objs.size<=c
 k:X.j=true->X.A.handled=none
 g:X.A.frames=some X.g
 w:X.g=X.k\/(X.g=X.a::X.k/\X.a.frame=some X.a.locals)
 G:∀b∈X.m,b≠X.a.locals/\∀x c,X.a.cells.lookup x=some c->c≠b
 B:∀b o,X.h.get? b=some o->X.l.heap.get? b=some o/\X.r b=none
 q:X.h.objs.size<=X.l.heap.objs.size
 m:∀b o,X.h.get? b=some o->b ∉ X.m
 l:∀b∈X.m,b ∉ X.fs
 D:X.l.heap.FunFrames X.h X.k
 u:∀b∈X.fs,X.r b=none
structure Inv(X:Cx)(pins:List (Addr × Obj))(σ:List (Option V))(H:Hp)(s:Shared):Prop where
 C:X.Ok
 R:s.os=X.l.os
 F:AllBare s.gens
 j:Un X.fs X.m X.r H X.l.heap s.heap
 M:∃m,s.heap.Ns X.a.locals m/\∀(i:Nat) (x:Str) (v:V),X.N[i]?=some x->σ[i]?=some (some v)->Vis X.a.scope x->∃u,RelV v u/\Look X.a s.heap m x u
 G:∀x c,X.a.cells.lookup x=some c->∃v,s.heap.IsCell c v
 J:H X.a.locals=none
 D:∀x c,X.a.cells.lookup x=some c->H c=none
 O:∀p∈X.q++pins,s.heap.get? p.1=some p.2/\H p.1=none/\p.1≠X.a.locals/\p.1 ∉ X.fs/\∀v,p.2.data≠.cell v
 B:HOk X.f X.w H s.heap
 P:σ.length=X.N.length
def Cx.Ok.Pb{X:Cx}(ok:X.Ok)(e:X.h.get? b=some o):b ∉ X.fs:=λx=>by have:=(ok.D.mem x).1;rw[e]at this;cases this
def Inv.bs(I:Inv X pins σ H s):∀b o,X.h.get? b=some o->s.heap.get? b=some o/\H b=none:=λb o e=>
 ⟨I.j.f b o (I.C.B b o e).1 (I.C.B b o e).2 (I.C.Pb e) (I.C.m b o e),I.j.d b o (I.C.B b o e).1 (I.C.B b o e).2 (I.C.m b o e)⟩
def Inv.bk(I:Inv X pins σ H s):∀b o,X.h.get? b=some o->s.heap.get? b=some o:=λb o e=>(I.bs b o e).1
def Inv.mod(I:Inv X pins σ H s):Mod X.K X.d X.h:=I.C.i
def Inv.kIn(I:Inv X pins σ H s):X.K.In s.heap:=I.C.i.a.keeps I.bk
theorem Inv.lt(I:Inv X pins σ H s):X.a.locals<s.heap.objs.size:=let ⟨_,x,_⟩:=I.M;x.lt
def Inv.sz(I:Inv X pins σ H s):X.l.heap.objs.size<=s.heap.objs.size:=Az I.C.d (Dm I.lt)
def Inv.Pc(I:Inv X pins σ H s)(h:s.heap.objs.size<=a):a ∉ X.fs:=λN=>by obtain⟨_,o,x,_⟩:=I.C.D.mem N;exact absurd (Aq (Al x) (Az I.sz h)) (Bc _)
def Inv.cne(I:Inv X pins σ H s):∀x c,X.a.cells.lookup x=some c->c≠X.a.locals:=λx c e z=>by obtain⟨v,o,P,hd⟩:=I.G x c e;obtain⟨m,⟨Q,es,R,N,O,_⟩,_⟩:=I.M;rw[z,N]at P;cases P;rw[O]at hd;cases hd
def Inv.tK(I:Inv X pins σ H s):s.heap.FunFrames X.h X.k:=by
 have all:∀(l:List Env),(∀b∈frs l,b∈X.fs)->X.l.heap.FunFrames X.h l->s.heap.FunFrames X.h l:=by
  intro l;induction l with
  |nil=>intro _ _;trivial
  |cons env r P=>
   intro O U;obtain⟨hk,⟨L,o,hf,S,R,hd⟩,Q⟩:=U;have N:L∈X.fs:=O L (by unfold frs;rw[Ba,hf];exact Ar)
   obtain⟨W,e⟩:=I.j.i L o R (I.C.u L N) N λz=>I.C.l L z N;exact⟨hk,⟨L,_,hf,S,e,hd⟩,P (λb x=>O b (by unfold frs;rw[Ba,hf];exact Ag _ x)) Q⟩
 exact all X.k (λ_ x=>x) I.C.D
def Inv.stack(I:Inv X pins σ H s):s.heap.FunFrames X.h X.g:=by
 rcases I.C.w with e|⟨e,hf⟩
 . rw[e];exact I.tK
 . rw[e]
   obtain⟨m,x,_⟩:=I.M;refine .cons (by rw[I.C.a];decide) hf x ?_ I.tK
   exact CM (Az I.C.q I.C.d)
def Inv.iK(I:Inv X pins σ H s):∀b∈frs X.g,b∈X.a.locals::X.fs:=λb x=>by
 rcases I.C.w with e|⟨e,hf⟩
 . rw[e]at x;exact Ag _ x
 . rw[e]at x
   unfold frs at x;rw[Ba,hf]at x;exact x
def Inv.me(I:Inv X pins σ H s):∀b∈frs X.g,H b=none:=λb x=>by
 rcases Ao.mp (I.iK b x) with e|x
 . rw[e];exact I.J
 . obtain⟨_,o,N,_⟩:=I.C.D.mem x
   exact I.j.d b o N (I.C.u b x) λz=>I.C.l b z x
def Inv.step{ch:List Addr}(I:Inv X pins σ H s)
 (S:∀b∈ch,(b∈X.m\/X.l.heap.objs.size<=b)/\b≠X.a.locals/\(∀x c,X.a.cells.lookup x=some c->c≠b)/\∀p∈X.q++pins,p.1≠b)
 (keep:∀b o,b≠X.a.locals->b ∉ X.fs->b ∉ ch->s.heap.get? b=some o->H b=none->h'.get? b=some o)
 (Z:∀b o,b≠X.a.locals->b∈X.fs->b ∉ ch->s.heap.get? b=some o->H b=none->∃sl,h'.get? b=some {o with slots:=sl}) (N:∀b o,b ∉ ch->s.heap.get? b=some o->H b=none->H' b=none)
 (there:∀b o,b ∉ ch->s.heap.get? b=some o->∃o',h'.get? b=some o')
 (tups:∀b Y,H b=some (.c Y)->H' b=some (.c Y)) (frzs:∀b o u,H b=some (.d o u)->H' b=some (.d o u)) (tbls:∀b ps,H b=some (.g ps)->∃more,H' b=some (.g (ps++more)))
 (ns:∀m,s.heap.Ns X.a.locals m->h'.Ns X.a.locals m) (hok:HOk X.f X.w H' h') (hg:AllBare g') :
 Inv X pins σ H' {s with heap:=h',gens:=g',drawn:=d',toks:=t'}:=by
 have neL:∀b o,X.l.heap.get? b=some o->b≠X.a.locals:=λb o e=>AI (Aq (Al e) I.C.d);have W:∀b o,X.l.heap.get? b=some o->b ∉ X.m->b ∉ ch:=λb o e hx hb=>by
  rcases (S b hb).1 with z|z
  . exact hx z
  . exact absurd (Aq (Al e) z) (Bc _)
 have U:∀x c,X.a.cells.lookup x=some c->∀v,s.heap.IsCell c v->h'.IsCell c v:=λx c e v ⟨o,ho,hd⟩=>by
  have Q:c ∉ ch:=λz=>(S c z).2.2.1 x c e rfl;by_cases hc:c∈X.fs
  . obtain⟨sl,q⟩:=Z c o (I.cne x c e) hc Q ho (I.D x c e)
    exact⟨_,q,hd⟩
  . exact⟨o,keep c o (I.cne x c e) hc Q ho (I.D x c e),hd⟩
 refine⟨I.C,I.R,hg,⟨λb o e n hb hx=>?_,λb o e n hb hx=>?_,λb o e n hx=>?_,λb o e hx=>?_,λb Y e=>tups b Y (I.j.l b Y e),λb o Y e=>frzs b o Y (I.j.g b o Y e),λb ps e=>?_⟩,?_,λx c e=>?_,?_,λx c e=>?_,λp hp=>?_,hok,I.P⟩
 . exact keep b o (neL b o e) hb (W b o e hx) (I.j.f b o e n hb hx) (I.j.d b o e n hx)
 . obtain⟨sl,e1⟩:=I.j.i b o e n hb hx
   obtain⟨sl',e2⟩:=Z b _ (neL b o e) hb (W b o e hx) e1 (I.j.d b o e n hx);exact⟨sl',e2⟩
 . obtain⟨o',e1⟩:=I.j.c b o e hx
   exact N b o' (W b o e hx) e1 (I.j.d b o e n hx)
 . obtain⟨o',e1⟩:=I.j.c b o e hx
   exact there b o' (W b o e hx) e1
 . obtain⟨m1,e1⟩:=I.j.j b ps e
   obtain⟨m2,e2⟩:=tbls b _ e1;exact⟨m1++m2,by rw[e2,Array.append_assoc]⟩
 . obtain⟨m,hn,hl⟩:=I.M
   refine⟨m,ns m hn,λi x v e1 e2 e3=>?_⟩;obtain⟨u,r,l⟩:=hl i x v e1 e2 e3;refine⟨u,r,?_⟩;rcases l with l|⟨k,c,e,z⟩
   . exact .inl l
   . exact .inr ⟨k,c,e,U x c e _ z⟩
 . obtain⟨v,z⟩:=I.G x c e
   exact⟨v,U x c e v z⟩
 . obtain⟨m,⟨o,_,_,ho,_⟩,_⟩:=I.M
   exact N _ o (λz=>(S _ z).2.1 rfl) ho I.J
 . obtain⟨v,o,ho,hd⟩:=I.G x c e
   exact N c o (λz=>(S c z).2.2.1 x c e rfl) ho (I.D x c e)
 . obtain⟨e,n,ne,nf,d⟩:=I.O p hp
   have Q:p.1 ∉ ch:=λz=>(S p.1 z).2.2.2 p hp rfl;exact⟨keep p.1 p.2 ne nf Q e n,N p.1 p.2 Q e n,ne,nf,d⟩
def Inv.un(I:Inv X pins σ H s)(u:Un X.fs [] H H' s.heap h')(N:HOk X.f X.w H' h'):Inv X pins σ H' {s with heap:=h',toks:=t'}:=by
 obtain⟨m,⟨o,es,ep,R,r⟩,_⟩:=id I.M;obtain⟨Y,W⟩:=u.any R I.J (by simp)
 exact I.step (g':=s.gens) (d':=s.drawn) (ch:=[]) (λ_ z=>nomatch z) (λb o _ O _ e n=>u.f b o e n O (by simp)) (λb o _ O _ e n=>u.i b o e n O (by simp)) (λb o _ e n=>u.d b o e n (by simp)) (λb o _ e=>u.c b o e (by simp)) u.l u.g u.j (λm' U=>by obtain⟨Z,P,Q,x,S⟩:=U;rw[R]at x;cases x;exact⟨_,P,Q,W,S⟩) N I.F
def Inv.call(I:Inv X pins σ H s)(u:Un (frs X.g) ch H H' s.heap h')(Q:HOk X.f X.w H' h')(hg:AllBare g')
 (P:∀b∈ch,(b∈X.m\/X.l.heap.objs.size<=b)/\b≠X.a.locals/\(∀x c,X.a.cells.lookup x=some c->c≠b)/\∀p∈X.q++pins,p.1≠b) :
 Inv X pins σ H' {s with heap:=h',gens:=g',drawn:=d',toks:=t'}:=by
 obtain⟨m,⟨o,es,ep,W,r⟩,_⟩:=id I.M;obtain⟨sl,R⟩:=u.any W I.J λz=>(P _ z).2.1 rfl;exact I.step (ch:=ch) P (λb o R hb N e n=>u.f b o e n (λz=>(Ao.mp (I.iK b z)).elim R hb) N) (λb o _ _ N e n=>u.any e n N) (λb o N e n=>u.d b o e n N) (λb o N e=>u.c b o e N) u.l u.g u.j (λm' Z=>by obtain⟨o',S,U,O,Y⟩:=Z;rw[W]at O;cases O;exact⟨_,S,U,R,Y⟩) Q hg
def Inv.turned(I:Inv X pins σ H s)(k:∀b o,b≠it->s.heap.get? b=some o->h'.get? b=some o)(R:H it=none)(P:it≠X.a.locals)
 (h1:it∈X.m\/X.l.heap.objs.size<=it) (Y:∀x c,X.a.cells.lookup x=some c->c≠it) (W:∀p∈X.q++pins,p.1≠it):Inv X pins σ H {s with heap:=h',toks:=t'}:=by
 have O:∀b u,H b=some u->b≠it:=λb u e z=>by rw[z,R]at e;cases e
 refine I.step (g':=s.gens) (d':=s.drawn) (ch:=[it]) (λb U=>?_) (λb o _ _ N e _=>k b o (λz=>N (by simp[z])) e) (λb o _ _ N e _=>⟨o.slots,k b o (λz=>N (by simp[z])) e⟩) (λ_ _ _ _ n=>n)
  (λb o N e=>⟨o,k b o (λz=>N (by simp[z])) e⟩) (λ_ _ e=>e) (λ_ _ _ e=>e) (λb ps e=>⟨#[],by rw[e];simp⟩) (λm S=>?_) (λb u e=>?_) I.F
 . have e:b=it:=by simpa using U
   subst e;exact⟨h1,P,Y,W⟩
 . obtain⟨o,es,Z,Q,r⟩:=S
   exact⟨o,es,Z,k _ o (A9 P) Q,r⟩
 . refine(I.B b u e).pX (λc v N q=>k c v ?_ q) (λ_ q=>q) λ_ _ q=>q
   rcases N with z|z
   . rw[z];exact O b u e
   . exact O c _ z
def Inv.tok(I:Inv X pins σ H s)t:Inv X pins σ H {s with toks:=t}:=I.un (h':=s.heap) (t':=t) Un.refl I.B
theorem Inv.kept(I:Inv X pins σ H s)(k:∀b u,s.heap.get? b=some u->h'.get? b=some u):Inv X pins σ H {s with heap:=h',toks:=t'}:=I.un (Un.kept k) (I.B.kept k)
theorem Inv.laid(I:Inv X pins σ H s)(k:∀b u,s.heap.get? b=some u->h'.get? b=some u)(hp:s.heap.objs.size<=a)(new:z6 X.f X.w (upd H a o) h' a o) :
 Inv X pins σ (upd H a o) {s with heap:=h',toks:=t'}:=I.un (Un.laid k hp (I.B.fresh hp)) (I.B.laid k hp new)
theorem Inv.write(I:Inv X pins σ H s)(O:Mut (H x))(P:e=x\/H e=some (.e x))(k:∀b u,b≠e->s.heap.get? b=some u->h'.get? b=some u)(N:∃u,h'.get? e=some u)
 (new:z6 X.f X.w (upd H x o) h' x o):Inv X pins σ (upd H x o) {s with heap:=h',toks:=t'}:=I.un (Un.write O P k N) (I.B.write O P k N new)
def Inv.mT{x:List (Addr × Obj)}(I:Inv X pins σ H s)(h:∀p∈x,s.heap.get? p.1=some p.2/\H p.1=none/\p.1≠X.a.locals/\p.1 ∉ X.fs/\∀v,p.2.data≠.cell v):Inv X x σ H s:=
 ⟨I.C,I.R,I.F,I.j,I.M,I.G,I.J,I.D,λp hp=>(A3.mp hp).elim (λz=>I.O p (Bx _ z)) (h p),I.B,I.P⟩
def lb{N:List Str}(O:N.Nodup){i j:Nat}(a:N[i]?=some x)(b:N[j]?=some x):i=j:=by obtain⟨h1,e1⟩:=Au.mp a;obtain⟨P,e2⟩:=Au.mp b;exact(List.getElem_inj O).mp (e1.trans e2.symm)
def nI{Q:Unit->Shared->Prop}(I:Inv X pins σ H s)(hN:X.N.Nodup)(hi:X.N[i]?=some x)(hx:Loc X.a.scope x)(r:RelV v u)
 (h:∀s',Inv X pins (σ.set i (some v)) H s'->(∃a,Heap.SameBut a s.heap s'.heap/\(a=X.a.locals\/X.a.cells.lookup x=some a))->Q () s') (hf:X.n x=true\/X.a.scope.names.lookup x=some .local:=by first|exact .inl rfl|exact .inr rfl|assumption):wpAny M A (GJ X.a x u) Q E s:=by
 obtain⟨m,hn,hl⟩:=id I.M;have hcls:(X.a.scope.kind == .class||(X.a.scope.kind == .module&&X.a.locals != X.a.globals))=false:=by rw[I.C.a];rfl
 have Z:i<σ.length:=by rw[I.P];exact(Au.mp hi).1
 have cne:=I.cne;have U:∀{a:Addr} {h':Heap},(∃o,s.heap.get? a=some o/\H a=none)->Heap.SameBut a s.heap h'->HOk X.f X.w H h':=λ{a h'} ha S b ob e=>by
  obtain⟨_,_,Y⟩:=ha;refine(I.B b ob e).pX (λc w' W q=>(S.2 c ?_).trans q) (λ_ q=>q) λ_ _ q=>q;rintro rfl;rcases W with rfl|W
  . rw[Y]at e;cases e
  . rw[Y]at W;cases W
 rcases hx with hk|hk
 . refine wpAny_storeName_local hk hn (λh' hn' S=>?_) hcls
   obtain⟨oL,_,_,hoL,_⟩:=id hn;refine h _ ⟨I.C,I.R,I.F,⟨λb o e n hb hx=>?_,λb o e n hb hx=>?_,I.j.d,λb o e hx=>?_,I.j.l,I.j.g,I.j.j⟩,⟨_,hn',λj y v' e1 e2 e3=>?_⟩,λy c e=>?_,I.J,I.D,λp hp=>?_,U ⟨oL,hoL,I.J⟩ S,by simpa using I.P⟩ ⟨_,S,.inl rfl⟩
   . exact(S.2 b (AI (Aq (Al e) I.C.d))).trans (I.j.f b o e n hb hx)
   . obtain⟨sl,e1⟩:=I.j.i b o e n hb hx
     exact⟨sl,(S.2 b (AI (Aq (Al e) I.C.d))).trans e1⟩
   . obtain⟨o',e1⟩:=I.j.c b o e hx
     exact⟨o',(S.2 b (AI (Aq (Al e) I.C.d))).trans e1⟩
   . by_cases hj:j=i
     . subst hj
       rw[hi]at e1;cases e1;rw[AJ Z]at e2;cases e2;exact⟨u,r,.inl ⟨hk,by simp⟩⟩
     . rw[Bk (A9 hj)]at e2
       obtain⟨u',r',q⟩:=hl j y v' e1 e2 e3;refine⟨u',r',?_⟩;rcases q with⟨k,e⟩|⟨k,c,e,z⟩
       . refine .inl ⟨k,?_⟩
         have:y≠x:=λe=>hj (lb hN e1 (e▸hi));simp[this,e]
       . exact .inr ⟨k,c,e,z.sameBut S (cne y c e)⟩
   . obtain⟨w',z⟩:=I.G y c e
     exact⟨w',z.sameBut S (cne y c e)⟩
   . obtain⟨e,n,ne,nf,d⟩:=I.O p hp
     exact⟨(S.2 p.1 ne).trans e,n,ne,nf,d⟩
 . have hfn:X.n x=true:=by
    rcases hf with z|z
    . exact z
    . rw[z]at hk;cases hk
   obtain⟨c,W⟩:=I.C.p x (.inl hk);obtain⟨w',z⟩:=I.G x c W;refine wpAny_storeName_cell I.C.a hk W z (λh' hc' S=>?_);obtain⟨oc,hoc,hocd⟩:=id z;refine h {s with heap:=h'} ⟨I.C,I.R,I.F,⟨λb o e n hb hx=>?_,λb o e n hb hx=>?_,I.j.d,λb o e hx=>?_,I.j.l,I.j.g,I.j.j⟩,⟨m,hn.sameBut S (A9 (cne x c W)),λj y v' e1 e2 e3=>?_⟩,λy c' e=>?_,I.J,I.D,λp hp=>?_,U ⟨oc,hoc,I.D x c W⟩ S,by simpa using I.P⟩ ⟨c,S,.inr W⟩
   . exact(S.2 b (AI (Aq (Al e) (I.C.s x c hfn W)))).trans (I.j.f b o e n hb hx)
   . obtain⟨sl,e1⟩:=I.j.i b o e n hb hx
     exact⟨sl,(S.2 b (AI (Aq (Al e) (I.C.s x c hfn W)))).trans e1⟩
   . obtain⟨o',e1⟩:=I.j.c b o e hx
     exact⟨o',(S.2 b (AI (Aq (Al e) (I.C.s x c hfn W)))).trans e1⟩
   . by_cases hj:j=i
     . subst hj
       rw[hi]at e1;cases e1;rw[AJ Z]at e2;cases e2;exact⟨u,r,.inr ⟨.inl hk,c,W,hc'⟩⟩
     . rw[Bk (A9 hj)]at e2
       obtain⟨u',r',q⟩:=hl j y v' e1 e2 e3;refine⟨u',r',?_⟩;rcases q with q|⟨k,c',e,z'⟩
       . exact .inl q
       . refine .inr ⟨k,c',e,z'.sameBut S ?_⟩
         rintro rfl;exact hj (lb hN e1 (I.C.r _ _ _ e W▸hi))
   . by_cases hcc:c'=c
     . subst hcc;exact⟨_,hc'⟩
     . obtain⟨w2,z2⟩:=I.G y c' e
       exact⟨w2,z2.sameBut S hcc⟩
   . obtain⟨e,n,ne,nf,d⟩:=I.O p hp
     refine⟨(S.2 p.1 ?_).trans e,n,ne,nf,d⟩;intro q;rw[q,hoc]at e;have q':oc=p.2:=AX e;exact d w' (by rw[<-q'];exact hocd)
def xZ{Q:Unit->Shared->Prop}(I:Inv X pins σ H s)(O:X.N.Nodup)(hi:X.N[i]?=some x)(hx:Loc X.a.scope x)(r:RelV v u)
 (h:∀s',Inv X pins (σ.set i (some v)) H s'->Q () s') (hf:X.n x=true\/X.a.scope.names.lookup x=some .local:=by first|exact .inl rfl|exact .inr rfl|assumption):wpAny M A (GJ X.a x u) Q E s:=
 nI I O hi hx r (λs' P _=>h s' P) hf
def Inv.RE(I:Inv X pins σ H s)(Q:s'.os=s.os)(u:Un (frs X.g) ch H H' s.heap s'.heap)(N:HOk X.f X.w H' s'.heap)(R:AllBare s'.gens)
 (O:∀b∈ch,(b∈X.m\/X.l.heap.objs.size<=b)/\b≠X.a.locals/\(∀x c,X.a.cells.lookup x=some c->c≠b)/\∀p∈X.q++pins,p.1≠b):Inv X pins σ H' s':=by
 obtain⟨h',g',d',t',P⟩:=s';have e:P=s.os:=Q;subst e;exact I.call (g':=g') (t':=t') (d':=d') u N R O
abbrev XK:=Value->Option Addr->Hp->Prop
abbrev St:=List (Option V)
abbrev VK:=V->Hp->Prop
abbrev TE:=St->Hp->VK->Prop
abbrev TT:=St->Hp->(Bool->Hp->Prop)->Prop
abbrev TA:=St->Hp->(List V->Hp->Prop)->Prop
structure Ends where
 a:St->Hp->Prop
 b:VK
 c:St->Hp->Prop:=λ_ _=>False
 d:St->Hp->Prop:=λ_ _=>False
abbrev TS:=Ends->St->Hp->Prop
def EP(X:Cx)(pins:List (Addr × Obj))(σ:St)(Q:VK)(u:Value)(s':Shared):Prop:=∃v H',Inv X pins σ H' s'/\RelV v u/\Q v H'
def TP(X:Cx)(pins:List (Addr × Obj))(σ:St)(Q:Bool->Hp->Prop)(b:Bool)(s':Shared):Prop:=∃H',Inv X pins σ H' s'/\Q b H'
def AP(X:Cx)(pins:List (Addr × Obj))(σ:St)(Q:List V->Hp->Prop)(us:List Value)(s':Shared):Prop:=∃vs H',Inv X pins σ H' s'/\Vals vs us/\Q vs H'
def SP(X:Cx)(pins:List (Addr × Obj))(D:Ends)(f:Flow)(s':Shared):Prop:=
 match f with
 |.next=>∃x H',Inv X pins x H' s'/\D.a x H'
 |.brk=>∃x H',Inv X pins x H' s'/\D.c x H'
 |.cont=>∃x H',Inv X pins x H' s'/\D.d x H'
 |.ret u=>∃v x H',Inv X pins x H' s'/\RelV v u/\D.b v H'
def PE(X:Cx)(e:Expr)(t:TE):Prop:=
 ∀(pins:List (Addr × Obj)) (s:Shared) (σ:St) (H:Hp) (Q:VK),Inv X pins σ H s->t σ H Q->wpAny (model X.f X.w) X.A (eval e X.a) (EP X pins σ Q) X.i s
def PT(X:Cx)(e:Expr)(t:TT):Prop:=
 ∀(pins:List (Addr × Obj)) (s:Shared) (σ:St) (H:Hp) (Q:Bool->Hp->Prop),Inv X pins σ H s->t σ H Q->wpAny (model X.f X.w) X.A (isTrue e X.a (eval e X.a)) (TP X pins σ Q) X.i s
def PW(X:Cx)(e:Expr)(t:TT):Prop:=
 ∀(x:Sem Value) (pins:List (Addr × Obj)) (s:Shared) (σ:St) (H:Hp) (Q:Bool->Hp->Prop),Inv X pins σ H s->t σ H Q->wpAny (model X.f X.w) X.A (isTrue e X.a x) (TP X pins σ Q) X.i s
def PW.pt(h:PW X e t):PT X e t:=h _
def PA(X:Cx)(es:List Expr)(t:TA):Prop:=
 ∀(pos:Pos) (pins:List (Addr × Obj)) (s:Shared) (σ:St) (H:Hp) (Q:List V->Hp->Prop),Inv X pins σ H s->t σ H Q->wpAny (model X.f X.w) X.A (spliced (backTo pos (AA es X.a))) (AP X pins σ Q) X.i s
def PS(X:Cx)(st:Stmt)(t:TS):Prop:=
 ∀(pins:List (Addr × Obj)) (s:Shared) (σ:St) (H:Hp) (D:Ends),Inv X pins σ H s->t D σ H->wpAny (model X.f X.w) X.A (exec st X.a) (SP X pins D) X.i s
def PSs(X:Cx)(st:List Stmt)(t:TS):Prop:=
 ∀(pins:List (Addr × Obj)) (s:Shared) (σ:St) (H:Hp) (D:Ends),Inv X pins σ H s->t D σ H->wpAny (model X.f X.w) X.A (execs st X.a) (SP X pins D) X.i s
def thn(h:wpAny M A t Q E s)(N:∀a s,Q a s->Q' a s):wpAny M A t Q' E s:=AF h N λ_ _ x=>x
section
variable {X:Cx}
def bin(Y:PE X a ta)(W:PE X b tb){R:V->V->Hp->Prop}(I:Inv X pins σ H s)(h:ta σ H λx H1=>tb σ H1 λy H2=>R x y H2)
  {Q} {f:Value->Value->Sem α}
 (hf:∀v u s2 x y H2,Inv X pins σ H2 s2->RelV x v->RelV y u->R x y H2->wpAny (model X.f X.w) X.A (f v u) Q X.i s2) :
 wpAny (model X.f X.w) X.A (eval a X.a) (λv O=>wpAny (model X.f X.w) X.A (eval b X.a) (λu N=>wpAny (model X.f X.w) X.A (f v u) Q X.i N) X.i O) X.i s:=by
 refine thn (Y pins s σ H _ I h) λv s1 P=>?_;obtain⟨x,H1,I1,r1,q1⟩:=P;refine thn (W pins s1 σ H1 _ I1 q1) λu s2 P=>?_;obtain⟨y,H2,Z,S,U⟩:=P;exact hf v u s2 x y H2 Z r1 S U
def xf(i:Nat):TE:=λσ H Q=>∃v,σ[i]?=some (some v)/\Q v H
def tC(v:V):TE:=λ_ H Q=>Q v H
def xV(Z:X.N[i]?=some x)(S:Vis X.a.scope x)(hd:(x == ("__debug__":Str))=false:=by decide)(P:(x == ("__classdict__":Str))=false:=by decide):PE X (.Name x pos) (xf i):=by
 intro pins s σ H Q I h;obtain⟨v,e,h⟩:=h;obtain⟨m,U,Y⟩:=I.M;obtain⟨u,r,l⟩:=Y i x v Z e S;have fin:EP X pins σ Q u s:=⟨v,H,I,r,h⟩;rcases l with⟨hk,W⟩|⟨hk,c,R,O⟩
 . exact wpAny_Name (wpAny_loadName_local I.C.a hk U W fin) hd
 . rcases hk with hk|hk
   . exact wpAny_Name (wpAny_loadName_cell I.C.a hk R O fin) hd
   . exact wpAny_Name (wpAny_loadName_free I.C.a hk R O fin P) hd
def ZW{i j pos}:PE X (.Constant (.int i) j pos) (tC (.d i)):=λ_ _ _ H _ I h=>wpAny_Constant_int ⟨.d i,H,I.tok _,⟨_,rfl⟩,h⟩
def ZL{b j pos}:PE X (.Constant (.bool b) j pos) (tC (.f b)):=λ_ _ _ H _ I h=>Constant_bool ⟨.f b,H,I,rfl,h⟩
def Tz{j pos}:PE X (.Constant .none j pos) (tC .g):=λ_ _ _ H _ I h=>Constant_none ⟨.g,H,I,rfl,h⟩
def rO{x j pos}:PE X (.Constant (.str x) j pos) (tC (.e x)):=λ_ _ _ H _ I h=>C8 ⟨.e x,H,I.tok _,⟨_,rfl⟩,h⟩
def Gl(X:Cx)(x:Str):Prop:=X.a.kindOf x=some .globalImplicit
def xU(I:Inv X pins σ H s)(O:Gl X x)(N:X.d x=some u)(h:Q u s)
 (hd:(x == ("__debug__":Str))=false:=by decide):wpAny (model X.f X.w) X.A (eval (.Name x pos) X.a) Q E s:=
 Fc I.C.a O (Calls.loadGlobal_global (by rw[I.C.j];exact I.mod.c.keeps I.bk) N h) hd
def rJ(I:Inv X pins σ H s)(R:Gl X x)(P:X.d x=none)(N:Cg x=some u)(h:Q u s)
 (O:x≠"__name__":=by decide) (hd:(x == ("__debug__":Str))=false:=by decide):wpAny (model X.f X.w) X.A (eval (.Name x pos) X.a) Q E s:=by
 obtain⟨U,h1,S⟩:=I.mod.d;exact Fc I.C.a R (Calls.loadGlobal_builtin (by rw[I.C.j];exact I.mod.c.keeps I.bk) P (by rw[I.C.t];exact h1.keeps I.bk) ((S x O).trans N) h) hd
def WI(O:Gl X x)(N:X.d x=some u)(r:RelV v u)(hd:(x == ("__debug__":Str))=false:=by decide):PE X (.Name x pos) (tC v):=
 λ_ _ _ H _ I h=>xU I O N ⟨v,H,I,r,h⟩ hd
def WG(Q:Gl X x)(P:X.d x=none)(N:Cg x=some u)(r:RelV v u)(O:x≠"__name__":=by decide)(hd:(x == ("__debug__":Str))=false:=by decide):PE X (.Name x pos) (tC v):=
 λ_ _ _ H _ I h=>rJ I Q P N ⟨v,H,I,r,h⟩ O hd
variable {a b:Expr}{ta tb:TE}{pos:Pos}
def PC(X:Cx)(op:CmpOp)(a b:Expr)(t:TE):Prop:=
 ∀(pins:List (Addr × Obj)) (s:Shared) (σ:St) (H:Hp) (Q:VK),Inv X pins σ H s->t σ H Q ->
  wpAny (model X.f X.w) X.A (eval a X.a) (λv N=>wpAny (model X.f X.w) X.A (eval b X.a) (λu x=>wpAny (model X.f X.w) X.A (Bl op v u) (EP X pins σ Q) X.i x) X.i N) X.i s
def pF b(h:op≠.In)(x:op≠.NotIn):DC op b=false:=by
 have e1:(op == CmpOp.In)=false:=by cases op<;>first|rfl|exact absurd rfl h
 have e2:(op == CmpOp.NotIn)=false:=by cases op<;>first|rfl|exact absurd rfl x
 cases b<;>simp[DC,e1,e2]
def tB(t:TE):TT:=λσ H Q=>t σ H λx H1=>∃c,x=.f c/\Q c H1
def Pj(h:PC X op a b t)(h1:DC op b=false:=by first|exact pF _ (by decide) (by decide)|rfl):PT X (.Compare a [op] [b] pos) (tB t):=by intro pins s σ H Q I hw;refine wpAny_isTrue_Compare1 (thn (h pins s σ H _ I hw) λv s1 h1=>thn h1 λu s2 O=>thn O λc R N=>?_) h1;obtain⟨x,H1,P,r1,q1⟩:=N;obtain⟨d,rfl,q⟩:=q1;cases r1;exact BH ⟨H1,P,q⟩
def SH(h:PE X e t)(P:∀N,isTrue e X.a N=(do let v <-N;standAt e.pos;holding [v] (truthy v)):=by intro _;rfl):PT X e (tB t):=by intro pins s σ H Q I hw;refine isTrue_plain (thn (h pins s σ H _ I hw) λv s1 O=>?_) (P _);obtain⟨x,H1,R,r1,q1⟩:=O;obtain⟨d,rfl,q⟩:=q1;cases r1;exact BH ⟨H1,R,q⟩
variable {tA tB':TT}{rest:List Expr}
def tOr(t u:TT):TT:=λσ H Q=>t σ H λc H1=>if c=true then Q true H1 else u σ H1 Q
def Q4(t:TT):TT:=λσ H Q=>t σ H λc H1=>Q (!c) H1
def SI(x:PT X a tA):PW X (.BoolOp .Or [a] pos) tA:=by
 intro N pins s σ H Q I h;refine isTrue_or (thn (x pins s σ H Q I h) λc s1 e=>?_);cases c with
 |false=>exact isTrue_or_nil e
 |true=>exact e
def Qf(R:PT X a tA)(P:PW X (.BoolOp .Or (b::rest) pos) tB'):PW X (.BoolOp .Or (a::b::rest) pos) (tOr tA tB'):=by
 intro O pins s σ H Q I h;refine isTrue_or (thn (R pins s σ H _ I h) λc s1 x=>?_);obtain⟨H1,N,q1⟩:=x;cases c with
 |true=>exact⟨H1,N,q1⟩
 |false=>exact P O pins s1 σ H1 Q N q1
def j6(x:PT X a tA):PT X (.UnaryOp .Not a pos) (Q4 tA):=by intro pins s σ H Q I h;exact isTrue_not (x pins s σ H (λc H1=>Q (!c) H1) I h)
def Q2(ta tb:TE):TE:=λσ H Q=>ta σ H λx H1=>∃c,x=.f c/\if c=true then tb σ H1 Q else Q (.f false) H1
def Q5(ta:TE):TE:=λσ H Q=>ta σ H λx H1=>∃c,x=.f c/\Q (.f (!c)) H1
def jv{op}(h:PE X a t):PE X (.BoolOp op [a] pos) t:=λpins s σ H Q I hw=>BoolOp_one (h pins s σ H Q I hw)
def Tt(R:PE X a ta)(P:PE X (.BoolOp .And (b::rest) pos) tb):PE X (.BoolOp .And (a::b::rest) pos) (Q2 ta tb):=by
 intro pins s σ H Q I h;refine BoolOp_and (thn (R pins s σ H _ I h) λv s1 O=>?_);obtain⟨x,H1,N,r1,q1⟩:=O;obtain⟨c,rfl,q1⟩:=q1;cases r1;refine BH ?_;cases c with
 |true=>exact P pins s1 σ H1 Q N q1
 |false=>exact⟨.f false,H1,N,rfl,q1⟩
def T3(O:PE X a ta):PE X (.UnaryOp .Not a pos) (Q5 ta):=by intro pins s σ H Q I h;refine UnaryOp_ (thn (O pins s σ H _ I h) λv s1 N=>?_);obtain⟨x,H1,P,r1,q1⟩:=N;obtain⟨c,rfl,q1⟩:=q1;cases r1;exact not_of (BH ⟨.f (!c),H1,P,rfl,q1⟩)
def tIf(t:TT)(ta tb:TE):TE:=λσ H Q=>t σ H λc H1=>if c=true then ta σ H1 Q else tb σ H1 Q
def ZU(O:PT X c tA)(R:PE X a ta)(P:PE X b tb):PE X (.IfExp c a b pos) (tIf tA ta tb):=by
 intro pins s σ H Q I h;refine wpAny_IfExp (thn (O pins s σ H _ I h) λd s1 x=>?_);obtain⟨H1,N,q1⟩:=x;cases d with
 |true=>exact R pins s1 σ H1 Q N q1
 |false=>exact P pins s1 σ H1 Q N q1
end
def SqL(K:Ab)(H:Hp)(a:Addr)(N:List V):Prop:=
 Rd H a (.b N) \/
  ∃(o:Obj) (x:Array Value) (n:Nat),K.lookup a=some o/\o.cls=.type "list"/\o.dict=none/\o.data=.seq x n/\x.size<=Ap/\Vals N x.toList
def SqT(K:Ab)(H:Hp)(a:Addr)(N:List V):Prop:=
 Rd H a (.c N) \/
  ∃(o:Obj) (x:Array Value) (n:Nat),K.lookup a=some o/\o.cls=.type "tuple"/\o.data=.seq x n/\x.size<=Ap/\Vals N x.toList
noncomputable def PR:Value->Option V
 |.none=>some .g
 |.bool b=>some (.f b)
 |.int i _=>some (.d i)
 |.str x _=>some (.e x)
 |.bytes b _=>some (.h b)
 |.float b _=>some (.j b)
 |.ref a=>some (.c a)
 |.type n=>some (.k n)
 |_=>none
def RelV.abs(r:RelV x u):PR u=some x:=by
 cases x with
 |g=>cases r;rfl
 |f _=>cases r;rfl
 |d _=>obtain⟨t,rfl⟩:=r;rfl
 |e _=>obtain⟨t,rfl⟩:=r;rfl
 |h _=>obtain⟨t,rfl⟩:=r;rfl
 |j _=>obtain⟨t,rfl⟩:=r;rfl
 |c _=>cases r;rfl
 |k _=>cases r;rfl
def RelV.inj(r:RelV x u)(q:RelV y u):x=y:=AX (r.abs.symm.trans q.abs)
theorem Vals.inj:∀{xs ys} {us},Vals xs us->Vals ys us->xs=ys
 |_,_,_,.nil,.nil=>rfl
 |_,_,_,.cons r t,.cons r' t'=>by rw[r.inj r',Vals.inj t t']
def SqL.of{K}(h:H a=some (.b xs)):SqL K H a xs:=.inl (.inl h)
def SqT.of{K}(h:H a=some (.c xs)):SqT K H a xs:=.inl (.inl h)
def Inv.list(I:Inv X pins σ H s)(h:SqL X.K H a xs):∃x:List Value,Vals xs x/\PlainL s.heap a x.toArray/\xs.length<=Ap:=by
 rcases h with h|⟨o,x,n,hk,O,hd,N,hz,r⟩
 . obtain⟨z,x,n,r,e⟩:=h.ok I.B
   exact⟨x,r,⟨_,n,e,rfl,rfl,rfl⟩,z⟩
 . refine⟨x.toList,r,⟨o,n,I.kIn a o hk,O,hd,by simpa using N⟩,?_⟩
   have e:=r.length;simp only[C6]at e;omega
def Inv.tuple(I:Inv X pins σ H s)(h:SqT X.K H a xs):∃x:List Value,Vals xs x/\IsTup s.heap a x.toArray/\xs.length<=Ap:=by
 rcases h with h|⟨o,x,n,hk,O,N,hz,r⟩
 . obtain⟨z,x,r,p⟩:=h.ok I.B
   exact⟨x,r,p.tup,z⟩
 . refine⟨x.toList,r,⟨o,I.kIn a o hk,O,n,by simpa using N⟩,?_⟩
   have e:=r.length;simp only[C6]at e;omega
def Inv.ae(I:Inv X pins σ H s)(h:SqL X.K H a xs)(h':SqL X.K H a ys):xs=ys:=by
 obtain⟨x,r,⟨o,n,e,_,_,d⟩,_⟩:=I.list h;obtain⟨its',O,⟨P,Q,N,_,_,d'⟩,_⟩:=I.list h';rw[e]at N;cases N;rw[d]at d';injection d' with d1 _
 have:x=its':=by simpa using congrArg Array.toList d1
 subst this;exact r.inj O
def Inv.dX(I:Inv X pins σ H s)(h:SqT X.K H a xs)(h':SqT X.K H a ys):xs=ys:=by
 obtain⟨x,r,⟨o,e,_,n,d⟩,_⟩:=I.tuple h;obtain⟨its',O,⟨P,N,_,Q,d'⟩,_⟩:=I.tuple h';rw[e]at N;cases N;rw[d]at d';injection d' with d1 _
 have:x=its':=by simpa using congrArg Array.toList d1
 subst this;exact r.inj O
noncomputable abbrev Cx.wZ(X:Cx)(E:Value->Shared->Prop):Cx:={X with i:=E}
abbrev Cx.nox(X:Cx):Cx:=X.wZ λ_ _=>False
theorem Cx.Ok.wZ{X:Cx}(ok:X.Ok)E:(X.wZ E).Ok:=
 ⟨ok.i,ok.a,ok.j,ok.t,ok.d,ok.r,ok.p,ok.s,ok.k,ok.g,ok.w,ok.G,ok.B,ok.q,ok.m,ok.l,ok.D,ok.u⟩
def Cx.Ok.xF{X:Cx}(ok:(X.wZ E).Ok):X.Ok:=
 ⟨ok.i,ok.a,ok.j,ok.t,ok.d,ok.r,ok.p,ok.s,ok.k,ok.g,ok.w,ok.G,ok.B,ok.q,ok.m,ok.l,ok.D,ok.u⟩
theorem Inv.wZ(I:Inv X pins σ H s)E:Inv (X.wZ E) pins σ H s:=⟨I.C.wZ E,I.R,I.F,I.j,I.M,I.G,I.J,I.D,I.O,I.B,I.P⟩
theorem Inv.xF(I:Inv (X.wZ E) pins σ H s):Inv X pins σ H s:=⟨I.C.xF,I.R,I.F,I.j,I.M,I.G,I.J,I.D,I.O,I.B,I.P⟩
theorem SP.xF(h:SP (X.wZ E) pins D f s'):SP X pins D f s':=by
 cases f with
 |next=>obtain⟨x,H',I,q⟩:=h;exact⟨x,H',I.xF,q⟩
 |brk=>obtain⟨x,H',I,q⟩:=h;exact⟨x,H',I.xF,q⟩
 |cont=>obtain⟨x,H',I,q⟩:=h;exact⟨x,H',I.xF,q⟩
 |ret u=>obtain⟨v,x,H',I,r,q⟩:=h;exact⟨v,x,H',I.xF,r,q⟩
theorem PE.nox(h:PE X.nox e t):PE X e t:=λpins s σ H Q I hw=>
 AF (h pins s σ H Q (I.wZ _) hw) (λ_ _ ⟨v,H',I',r,q⟩=>⟨v,H',I'.xF,r,q⟩) λ_ _ z=>Av z
theorem PT.nox(h:PT X.nox e t):PT X e t:=λpins s σ H Q I hw=>
 AF (h pins s σ H Q (I.wZ _) hw) (λ_ _ ⟨H',I',q⟩=>⟨H',I'.xF,q⟩) λ_ _ z=>Av z
theorem PSs.nox{st}(h:PSs X.nox st t):PSs X st t:=λpins s σ H D I hw=>
 AF (h pins s σ H D (I.wZ _) hw) (λ_ _ q=>q.xF) λ_ _ z=>Av z
section
variable {X:Cx}{st:Stmt}{rest:List Stmt}{t u:TS}{e:Expr}{te:TE}{pos:Pos}
def Ve:TS:=λD σ H=>D.a σ H
def oN(t u:TS):TS:=λD σ H=>t {D with a:=u D} σ H
def qR:PSs X [] Ve:=λ_ _ σ H _ I h=>DM ⟨σ,H,I,h⟩
def zr(h1:PS X st t)(N:PSs X rest u):PSs X (st::rest) (oN t u):=by
 intro pins s σ H D I h;refine En (thn (h1 pins s σ H {D with a:=u D} I h) λf s1 q=>?_)
 cases f with
 |next=>
  obtain⟨x,H',O,q⟩:=q;exact N pins s1 x H' D O q
 |ret v=>exact q
 |brk=>exact q
 |cont=>exact q
def we(h1:PS X st t):PSs X [st] t:=by
 intro pins s σ H D I h;refine En (thn (h1 pins s σ H D I h) λf s1 q=>?_);cases f with
 |next=>exact DM q
 |ret v=>exact q
 |brk=>exact q
 |cont=>exact q
def Inv.quiet(I:Inv X pins σ H s):interactive X.a=false:=by simp[interactive,I.C.a]
def Vc(te:TE):TS:=λD σ H=>te σ H λ_ H1=>D.a σ H1
def sQ(O:PE X e te)(N:DP e none pos.line X.a=pure false:=by rfl):PS X (.Expr e pos) (Vc te):=by intro pins s σ H D I h;exact wpAny_Expr_any (thn (O pins s σ H _ I h) λv s1 ⟨x,H1,I1,r1,q1⟩=>⟨σ,H1,I1,q1⟩) I.quiet N
def dU(te:TE):TS:=λD σ H=>te σ H D.b
def wq(N:PE X e te):PS X (.Return (some e) pos) (dU te):=by intro pins s σ H D I h;exact wpAny_Return_some (thn (N pins s σ H _ I h) λv s1 ⟨x,H1,I1,r1,q1⟩=>⟨x,σ,H1,I1,r1,q1⟩)
def Q3(c:TT)(t u:TS):TS:=λD σ H=>c σ H λb H1=>if b=true then t D σ H1 else u D σ H1
def nD(O:PT X c tc)(Q:PSs X a t)(P:PSs X b u):PS X (.If c a b pos) (Q3 tc t u):=by
 intro pins s σ H D I h;refine wpAny_If (thn (O pins s σ H _ I h) λd s1 x=>?_);obtain⟨H1,N,q1⟩:=x;cases d with
 |true=>exact Q pins s1 σ H1 D N q1
 |false=>exact P pins s1 σ H1 D N q1
end
abbrev TG:=V->St->Hp->(St->Hp->Prop)->Prop
abbrev TGs:=List V->St->Hp->(St->Hp->Prop)->Prop
def PG(X:Cx)(x:Expr)(t:TG):Prop:=
 ∀(pins:List (Addr × Obj)) (s:Shared) (σ:St) (H:Hp) (v:V) (u:Value) (Q:St->Hp->Prop),Inv X pins σ H s->RelV v u->t v σ H Q ->
  wpAny (model X.f X.w) X.A (assign x X.a u) (λ_ s'=>∃N H',Inv X pins N H' s'/\Q N H') X.i s
def PGs(X:Cx)(ts:List Expr)(t:TGs):Prop:=
 ∀(pins:List (Addr × Obj)) (s:Shared) (σ:St) (H:Hp) (vs:List V) (us:List Value) (Q:St->Hp->Prop),Inv X pins σ H s->Vals vs us->t vs σ H Q ->
  wpAny (model X.f X.w) X.A (Ej ((CN ts X.a).map (·.2)) us) (λ_ s'=>∃x H',Inv X pins x H' s'/\Q x H') X.i s
abbrev Vr:=V->V->V->Hp->(Hp->Prop)->Prop
def S8(X:Cx)(t:Vr):Prop:=
 ∀(pins:List (Addr × Obj)) (s:Shared) (σ:St) (H:Hp) (o i v:V) (x N u:Value) (Q:Hp->Prop),Inv X pins σ H s->RelV o x->RelV i N->RelV v u->t o i v H Q ->
  wpAny (model X.f X.w) X.A (setItem x N u) (λ_ s'=>∃H',Inv X pins σ H' s'/\Q H') X.i s
abbrev TIp:=V->V->Hp->VK->Prop
def PIp(X:Cx)(op:Operator)(t:TIp):Prop:=
 ∀(pins:List (Addr × Obj)) (s:Shared) (σ:St) (H:Hp) (x y:V) (v u:Value) (Q:VK),Inv X pins σ H s->RelV x v->RelV y u->t x y H Q ->
  wpAny (model X.f X.w) X.A (DQ op v u) (EP X pins σ Q) X.i s
section
variable {X:Cx}{pos:Pos}
def xh(i:Nat):TG:=λv σ H Q=>Q (σ.set i (some v)) H
def WK(O:X.N.Nodup)(hi:X.N[i]?=some x)(hx:Loc X.a.scope x)(hf:X.n x=true\/X.a.scope.names.lookup x=some .local:=by first|exact .inl rfl|exact .inr rfl|assumption):PG X (.Name x pos) (xh i):=by intro pins s σ H v u Q I r h;exact wpAny_assign_Name (xZ I O hi hx r (λs' P=>⟨_,H,P,h⟩) hf)
def RQ:TGs:=λvs σ H Q=>vs=[]/\Q σ H
def VD(t:TG)(u:TGs):TGs:=λvs σ H Q=>∃v r,vs=v::r/\t v σ H λx H'=>u r x H' Q
def WL:PGs X [] RQ:=by intro pins s σ H vs us Q I r h;obtain⟨e,h⟩:=h;subst e;cases r;exact Fs ⟨σ,H,I,h⟩
def Zb{e:Expr}{es:List Expr}{t:TG}{u:TGs}(h1:PG X e t)(R:PGs X es u)
 (P:(CN (e::es) X.a).map (·.2)=assign e X.a::(CN es X.a).map (·.2):=by rfl):PGs X (e::es) (VD t u):=by
 intro pins s σ H vs us Q I r h;obtain⟨v,U,e1,h⟩:=h;subst e1;cases r with
 |cons r O=>
  rw[P];refine Cv (thn (h1 pins s σ H _ _ _ I r h) λ_ s1 N=>?_);obtain⟨x,H1,S,q1⟩:=N;exact R pins s1 x H1 _ _ Q S O q1
def UL(K:Ab)(n:Nat)(t:TGs):TG:=λv σ H Q=>∃a x,v=.c a/\SqT K H a x/\x.length=n/\t x σ H Q
def pM(Y:X.j=true)(h:PGs X es t)
 (U:(CN es X.a).length=n:=by rfl) (x:(CN es X.a).findIdx? (·.1)=none:=by rfl):PG X (.Tuple es k pos) (UL X.K n t):=by
 intro pins s σ H v u Q I r hw;obtain⟨a,O,e1,S,W,hw⟩:=hw;subst e1;cases r;obtain⟨P,N,R,hz⟩:=I.tuple S;refine assign_Tuple_tuple (I.C.k Y) R (by simp[U,<-W,N.length]) x λh' hx=>?_
 have Z:Inv X pins σ H {s with heap:=h'}:=I.kept (t':=s.toks) λb o e=>hx b o (AI (Al e)) e
 exact h pins _ σ H O _ Q Z (by simpa using N) hw
def RR(to x:TE)(t:Vr):TG:=λv σ H Q=>to σ H λo H1=>x σ H1 λi H2=>t o i v H2 λN=>Q σ N
def T7(Y:PE X o to)(hi:PE X i ti)(W:S8 X t)
 (Z:∀v,assign (.Subscript o i pos) X.a v=(do
  let N <-holding [v] (eval o X.a);let P <-holding [v,N] (eval i X.a)
  standAt pos
  holding [v,N,P] (setItem N P v)
  release [v,N,P] []):=by intro _;rfl):PG X (.Subscript o i pos) (RR to ti t):=by
 intro pins s σ H v u Q I r h;rw[Z];refine dS (Bv (thn (Y pins s σ H _ I h) λN s1 O=>?_));obtain⟨x,H1,I1,r1,q1⟩:=O;refine dS (Bv (thn (hi pins s1 σ H1 _ I1 q1) λP s2 O=>?_));obtain⟨y,H2,I2,R,U⟩:=O;refine dS (AY (dS (Bv (thn (W pins s2 σ H2 x y v N P u _ I2 r1 R r U) λ_ s3 O=>?_))));obtain⟨H3,I3,S⟩:=O;exact wpAny_release ⟨σ,H3,I3,S⟩
def uv(te:TE)(g:TG):TS:=λD σ H=>te σ H λx H1=>g x σ H1 D.a
def j4(Q:PE X e te)(P:PG X tg g)(O:Ek [tg] e pos.line X.a=pure false:=by rfl)(hw:BY [tg] e X.a=pure none:=by rfl)
 (h1:(CN [tg] X.a).map (·.2)=[assign tg X.a]:=by rfl):PS X (.Assign [tg] e pos) (uv te g):=by
 intro pins s σ H D I h;refine wpAny_Assign_stores (thn (Q pins s σ H _ I h) λv s1 N=>?_) O hw;obtain⟨x,H1,R,r1,q1⟩:=N;rw[h1];exact thn (P pins s1 σ H1 x v _ R r1 q1) λ_ s2 q=>q
def wu(R:X.N.Nodup)(hi:X.N[i]?=some x)(hx:Loc X.a.scope x)(Q:PE X e te)(P:DP e (some (.Name x pos')) pos.line X.a=pure false:=by rfl)(hf:X.n x=true\/X.a.scope.names.lookup x=some .local:=by first|exact .inl rfl|exact .inr rfl|assumption) :
 PS X (.Assign [.Name x pos'] e pos) (uv te (xh i)):=by
 intro pins s σ H D I h;refine wpAny_Assign_Name (thn (Q pins s σ H _ I h) λv s1 O=>?_) P;obtain⟨y,H1,U,r1,q1⟩:=O;exact xZ U R hi hx r1 (λs2 S=>⟨_,H1,S,q1⟩) hf
def Q7(i j:Nat)(ta:TA):TS:=λD σ H=>ta σ H λvs H1=>∃v w,vs=[v,w]/\D.a ((σ.set i (some v)).set j (some w)) H1
def SG{kt k2 pt2}(hc:X.j=true)(W:X.N.Nodup)(hi:X.N[i]?=some x)(hj:X.N[j]?=some y)(S:i≠j)
 (hx:X.a.scope.names.lookup x=some .local) (U:X.a.scope.names.lookup y=some .local) (ha:PA X [a,b] ta)
 (hw:BY [.Tuple [.Name x px,.Name y py] kt pt] (.Tuple [a,b] k2 pt2) X.a=pure (some [x,y]))
 (hs:Ek [.Tuple [.Name x px,.Name y py] kt pt] (.Tuple [a,b] k2 pt2) pos.line X.a=pure false:=by rfl) :
 PS X (.Assign [.Tuple [.Name x px,.Name y py] kt pt] (.Tuple [a,b] k2 pt2) pos) (Q7 i j ta):=by
 intro pins s σ H D I h;rw[exec_Assign_arm];refine dS (AY ?_);rw[hs];refine dS (Ae ?_);rw[if_neg (by decide)]
 refine dS (Tuple_ (thn (ha _ pins s σ H _ I h) λus s1 Z=>?_));obtain⟨vs,H1,I1,r1,q1⟩:=Z;obtain⟨v,w,e1,q1⟩:=q1;subst e1;obtain⟨P,O,rfl,rv,Q⟩:∃P O,us=[P,O]/\RelV v P/\RelV w O:=by
  cases r1 with
  |cons p q=>
   cases q with
   |cons p' q'=>
    cases q';exact⟨_,_,rfl,p,p'⟩
 refine Bg ?_ (by show 2<=Ap;decide)
 have I2:Inv X pins σ H1 {s1 with heap:=s1.heap.push {cls:=.type "tuple",data:=.seq [P,O].toArray}}:=I1.kept (t':=s1.toks) λb o e=>xd _ e
 rw[hw];refine dS (Ae ?_);show wpAny (model X.f X.w) X.A (do rule "assign.swapped-stores";let items <-unpackItems (.ref s1.heap.objs.size) 2 none;Ej [λv=>Di X.a y v,λv=>Di X.a x v] items.reverse;pure GK) _ _ _
 refine dS (EH (dS (unpackItems_tuple (items:=#[P,O]) (I.C.k hc) (IsTup.new s1.heap _) λh' R=>?_)));have I3:=I2.kept (h':=h') (t':=s1.toks) λb o e=>R b o (AI (Al e)) e;show wpAny _ _ (Ej [λv=>Di X.a y v,λv=>Di X.a x v] [O,P] >>= λ_=>pure GK) _ _ _;refine dS (Cv (D4 (xZ I3 W hj (.inl U) Q (λs2 I4=>?_) (.inr U))));refine Cv (D4 (xZ I4 W hi (.inl hx) rv (λs3 Y=>Fs (Ae ?_)) (.inr hx)));rw[Fd _ _ (A9 S)]at Y;exact⟨_,H1,Y,q1⟩
def Pt(i:Nat)(te:TE)(N:TIp):TS:=λD σ H=>∃x,σ[i]?=some (some x)/\te σ H λy H1=>N x y H1 λz H2=>D.a (σ.set i (some z)) H2
def Zh(hN:X.N.Nodup)(hi:X.N[i]?=some x)(hx:Loc X.a.scope x)(he:PE X e te)(Y:PIp X op ti)(hf:X.n x=true\/X.a.scope.names.lookup x=some .local:=by first|exact .inl rfl|exact .inr rfl|assumption) :
 PS X (.AugAssign (.Name x pos') op e pos) (Pt i te ti):=by
 intro pins s σ H D I h;obtain⟨v,e1,h⟩:=h;obtain⟨m,Z,hl⟩:=I.M;have vis:Vis X.a.scope x:=by rcases hx with k|k;exact .inl k;exact .inr (.inl k)
 obtain⟨u,r,l⟩:=hl i x v hi e1 vis;refine wpAny_AugAssign_Name ?_;have S:wpAny (model X.f X.w) X.A (eval e X.a) (λw Q=>wpAny (model X.f X.w) X.A (DQ op u w) (λr P=>wpAny (model X.f X.w) X.A (GJ X.a x r) (λ_=>SP X pins D .next) X.i P) X.i Q) X.i s:=by refine thn (he pins s σ H _ I h) λw s1 R=>?_;obtain⟨y,H1,I1,r1,q1⟩:=R;refine thn (Y pins s1 σ H1 v y u w _ I1 r r1 q1) λz s2 R=>?_;obtain⟨zv,H2,I2,U,W⟩:=R;exact xZ I2 hN hi hx U (λs3 I3=>⟨_,H2,I3,W⟩) hf
 rcases l with⟨hk,hm⟩|⟨hk,c,hc,O⟩
 . exact wpAny_loadName_local I.C.a hk Z hm S
 . rcases hk with hk|hk
   . exact wpAny_loadName_cell I.C.a hk hc O S
   . rcases hx with k|k
     . have:X.a.scope.names.lookup x=some .free:=hk
       rw[k]at this;cases this
     . have:X.a.scope.names.lookup x=some .free:=hk
       rw[k]at this;cases this
end
section
variable {X:Cx}{pos:Pos}
def YB(c:TT)(tb:TS):TS:=λD σ H=>∃W:Nat->St->Hp->Prop,(∃m,W m σ H)/\∀m σ H,W m σ H ->
 c σ H λb H1=>if b=true then ∃N:St->Hp->Prop,(∀x H',N x H'->∃O,O<m/\W O x H')/\tb {D with a:=N,d:=N,c:=D.a} σ H1 else D.a σ H1
def Zk(hp:E2 (model X.f X.w) X.A X.a X.i)(hc:PT X c tc)(hb:PSs X body tb):PS X (.While c body [] pos) (YB tc tb):=by
 intro pins s σ H D I h;obtain⟨W,⟨m0,w0⟩,Q⟩:=h;refine wpAny_While (codeAny_whileLoop (λn s'=>∃P H',Inv X pins P H' s'/\W n P H') ?_ m0 ⟨σ,H,I,w0⟩);rintro n s1 ⟨O,H1,I1,w1⟩;refine CA hp (thn (hc pins s1 O H1 _ I1 (Q n O H1 w1)) λb s2 zn=>?_);obtain⟨H2,I2,U⟩:=zn;cases b with
 |true=>
  obtain⟨N,hN,U⟩:=U;rw[if_pos rfl];refine CA hp (thn (hb pins s2 O H2 _ I2 U) λf s3 S=>?_);cases f with
  |next=>
   obtain⟨x,R,I3,n3⟩:=S;obtain⟨Z,hm,Y⟩:=hN x R n3;exact⟨Z,hm,x,R,I3,Y⟩
  |cont=>
   obtain⟨x,R,I3,n3⟩:=S;obtain⟨Z,hm,Y⟩:=hN x R n3;exact⟨Z,hm,x,R,I3,Y⟩
  |brk=>exact S
  |ret v=>exact S
 |false=>
  rw[if_neg Ac];exact DM ⟨O,H2,I2,U⟩
end
structure It where
 c:Nat->Hp->Prop
 b:Nat->Hp->V->Hp->Prop
 a:Nat->Hp->Prop
def uq(X:Cx)(pins:List (Addr × Obj))(H:Hp)(b:Addr):Prop:=
 H b=none/\b≠X.a.locals/\b ∉ X.fs/\(b∈X.m\/X.l.heap.objs.size<=b)/\(∀x c,X.a.cells.lookup x=some c->c≠b)/\∀p∈X.q++pins,p.1≠b
def Inv.UK(I:Inv X pins σ H s)(N:s.heap.objs.size<=b)(P:H' b=none):uq X pins H' b:=by
 refine⟨P,Dn (Aq I.lt N),I.Pc N,.inr (Az I.sz N),λx c e z=>?_,λp hp z=>?_⟩
 . obtain⟨v,q⟩:=I.G x c e
   exact absurd (Aq q.lt (by rw[z];exact N)) (Bc _)
 . exact absurd (Aq (Al (I.O p hp).1) (by rw[z];exact N)) (Bc _)
structure Turn(P:Program)(w:World)(K:Ab)(tg:Expr)(J:It)(fp:List Addr)(it:Addr)(tn:Nat->Heap->Prop):Prop where
 g:it∈fp
 c:∀i h,tn i h->∀b∈fp,∃o,h.get? b=some o/\∀v,o.data≠.cell v
 a:∀i h h',tn i h->(∀b∈fp,∀o,h.get? b=some o->h'.get? b=some o)->tn i h'
 e:∀(X:Cx),X.f=P->X.w=w->X.K=K->X.j=true->∀(i:Nat) (pins:List (Addr × Obj)) (s:Shared) (σ:St) (H:Hp) (E:Value->Shared->Prop),Inv X pins σ H s->(∀b∈fp,uq X pins H b)->tn i s.heap->J.c i H ->
  wpAny (model P w) X.A (pyNext (.ref it)) (λr s1=>∃u,r=some u /\
   wpAny (model P w) X.A (By tg (.ref it) u) (λ_ s2=>∃x H',Inv X pins σ H' s2/\RelV x u/\J.b i H x H'/\tn (i+1) s2.heap/\∀b∈fp,H' b=none) E s1) E s
 d:∀(X:Cx),X.f=P->X.w=w->X.K=K->X.j=true->∀(i:Nat) (pins:List (Addr × Obj)) (s:Shared) (σ:St) (H:Hp) (E:Value->Shared->Prop),Inv X pins σ H s->(∀b∈fp,uq X pins H b)->tn i s.heap->J.a i H ->
  wpAny (model P w) X.A (pyNext (.ref it)) (λr s1=>r=none/\Inv X pins σ H s1) E s
 f:∀(A:Around) (i:Nat) (s:Shared) (Q:Value->Shared->Prop) (E:Value->Shared->Prop),tn i s.heap->Q (.ref it) s->wpAny (model P w) A (pyIter (.ref it)) Q E s
abbrev TI:=St->Hp->(It->Hp->Prop)->Prop
def PIE(X:Cx)(pins:List (Addr × Obj))(σ:St)(tg:Expr)(R:It->Hp->Prop)(x:Value)(s2:Shared):Prop:=
 ∃(it:Addr) (fp:List Addr) (tn:Nat->Heap->Prop) (J:It) (H':Hp),x=.ref it/\Inv X pins σ H' s2/\Turn X.f X.w X.K tg J fp it tn/\tn 0 s2.heap/\(∀b∈fp,uq X pins H' b)/\R J H'
def PI(X:Cx)(tg iter:Expr)(wi:TI):Prop:=
 ∀(pins:List (Addr × Obj)) (s:Shared) (σ:St) (H:Hp) (R:It->Hp->Prop),Inv X pins σ H s->wi σ H R ->
  wpAny (model X.f X.w) X.A (eval iter X.a) (λv s1=>wpAny (model X.f X.w) X.A (pyIter v) (PIE X pins σ tg R) X.i s1) X.i s
def bY(N:s.heap.get? it=some o)(P:o.cls=.type n)(hd:o.data=.fields vs)
 (O:["enumerate","zip","dict_itemiterator","dict_reverseitemiterator","odict_iterator","itertools.zip_longest","itertools.pairwise"].contains n=false) (x:Q () s):wpAny M A (By tg (.ref it) u) Q E s:=by
 unfold By;cases tg<;>first
  |exact Ae x
  |(cases u<;>first
   |exact Ae x
   |(refine dS (wpAny_load N ?_)
     rw[P,hd];show wpAny M A (if (["enumerate","zip","dict_itemiterator","dict_reverseitemiterator","odict_iterator","itertools.zip_longest","itertools.pairwise"].contains n&&vs[0]? == some (rawInt _))=true then _ else _) Q E s
     rw[if_neg (by intro h;rw[O,CU]at h;cases h)]
     exact Ae x))
noncomputable def Itl(K:Ab)(a:Addr):It:=
 ⟨λi H=>∃N x,SqL K H a N/\N[i]?=some x,λi H x H'=>H'=H/\∀N,SqL K H a N->N[i]?=some x,λi H=>∃N,SqL K H a N/\N.length<=i⟩
noncomputable def Itt(K:Ab)(a:Addr):It:=
 ⟨λi H=>∃N x,SqT K H a N/\N[i]?=some x,λi H x H'=>H'=H/\∀N,SqT K H a N->N[i]?=some x,λi H=>∃N,SqT K H a N/\N.length<=i⟩
noncomputable def Itr(lo:Int)(n:Nat):It:=⟨λi _=>i<n,λi H x H'=>H'=H/\x=.d (lo+i),λi _=>n<=i⟩
def dY{K}a it:Turn P w K tg (Itl K a) [it] it (λi h=>h.IsListIter it a i) where
 g:=by simp
 c:=λi h st b N=>by
  have e:b=it:=by simpa using N
  subst e;obtain⟨o,e,c,d⟩:=st;exact⟨o,e,λv z=>by rw[d]at z;cases z⟩
 a:=λi h h' st k=>st.at λo e=>k it (by simp) o e
 e:=by
  intro X W hw Y hc i pins s σ H E I hf st U;subst W hw Y;obtain⟨xs,x,Q,hx⟩:=U;obtain⟨S,R,p,hz⟩:=I.list Q;obtain⟨u,hu,ru⟩:=R.get hx;obtain⟨Z,f1,f2,f3,f4,f5⟩:=hf it (by simp)
  refine wpAny_pyNext_list_item st p.isList (x:=u) (by simpa using hu) λh' O sb=>?_
  have I1:Inv X pins σ H {s with heap:=h'}:=I.turned (t':=s.toks) (λb o N e=>(sb.2 b N).trans e) Z f1 f3 f4 f5
  obtain⟨o,e,c,d⟩:=id O;exact⟨u,rfl,bY (s:={s with heap:=h'}) e c d (by decide) ⟨x,H,I1,ru,⟨rfl,λys hy=>by rw[I.ae hy Q];exact hx⟩,O,λb N=>(hf b N).1⟩⟩
 d:=by
  intro X W hw Y hc i pins s σ H E I hf st U;subst W hw Y;obtain⟨xs,Q,hx⟩:=U;obtain⟨S,R,p,hz⟩:=I.list Q;obtain⟨Z,f1,f2,f3,f4,f5⟩:=hf it (by simp)
  have hl:=R.length;exact wpAny_pyNext_list_end (I.C.k hc) st p.isList (by simp;omega) λh' eb=>⟨rfl,I.turned (t':=s.toks) (λb o N e=>eb b o N e) Z f1 f3 f4 f5⟩
 f:=λ_ _ _ _ _ st h=>wpAny_pyIter_listiter st h
def iW{K}a it:Turn P w K tg (Itt K a) [it] it (λi h=>h.IsTupleIter it a i) where
 g:=by simp
 c:=λi h st b Q=>by
  have e:b=it:=by simpa using Q
  subst e;refine byG λR N=>?_;obtain⟨o,e,c,d⟩:=st;refine N ?_;exact⟨o,e,λv z=>by rw[d]at z;cases z⟩
 a:=λi h h' st k=>st.at λo e=>k it (by simp) o e
 e:=by
  intro X Z hw hK hc i pins s σ H E I hf st Y;subst Z hw hK;refine byG λR N=>?_;obtain⟨xs,x,U,hx⟩:=Y;refine N ?_;refine byG λR N=>?_;obtain⟨O,W,p,hz⟩:=I.tuple U;refine N ?_;obtain⟨u,hu,ru⟩:=W.get hx;refine byG λR N=>?_;obtain⟨f0,f1,f2,f3,f4,f5⟩:=hf it (by simp)
  refine N ?_;refine wpAny_pyNext_tuple_item st (show s.heap.IsTuple a O.toArray from p) (x:=u) (by simpa using hu) λh' S sb=>?_
  have I1:Inv X pins σ H {s with heap:=h'}:=I.turned (t':=s.toks) (λb o Q e=>(sb.2 b Q).trans e) f0 f1 f3 f4 f5
  refine byG λR N=>?_;obtain⟨o,e,c,d⟩:=id S;refine N ?_;exact⟨u,rfl,bY (s:={s with heap:=h'}) e c d (by decide) ⟨x,H,I1,ru,⟨rfl,λys hy=>by rw[I.dX hy U];exact hx⟩,S,λb Q=>(hf b Q).1⟩⟩
 d:=by
  intro X Z hw hK hc i pins s σ H E I hf st Y;subst Z hw hK;obtain⟨xs,U,hx⟩:=Y;refine byG λR N=>?_;obtain⟨O,W,p,hz⟩:=I.tuple U;refine N ?_;refine byG λR N=>?_;obtain⟨f0,f1,f2,f3,f4,f5⟩:=hf it (by simp)
  refine N ?_;have hl:=W.length;exact wpAny_pyNext_tuple_end (I.C.k hc) st (show s.heap.IsTuple a O.toArray from p) (by simp;omega) λh' eb=>⟨rfl,I.turned (t':=s.toks) (λb o Q e=>eb b o Q e) f0 f1 f3 f4 f5⟩
 f:=λ_ _ _ _ _ st h=>wpAny_pyIter_tupleiter st h
def iV{K}it lo n:Turn P w K tg (Itr lo n) [it] it (λi h=>IsRangeIter h it (lo+(i:Nat)*1) ((n:Int)-(i:Nat)) 1) where
 g:=by simp
 c:=λi h st b x=>by
  have e:b=it:=by simpa using x
  subst e;exact⟨_,st,λv z=>by have Z:Data.fields _=Data.cell v:=z;cases Z⟩
 a:=λi h h' st k=>k it (by simp) _ st
 e:=by
  intro X S hw U R i pins s σ H E I hf st Q;subst S hw U;refine byG λpi N=>?_;obtain⟨Y,f1,f2,f3,f4,f5⟩:=hf it (by simp)
  refine N ?_;have W:=Walks.range (prog:=X.f) (w:=X.w) (I.C.k R) it lo 1 n;refine W.item i s _ _ Q st λv h' tk hv O kk=>?_;obtain⟨t,rfl⟩:=hv;have I1:Inv X pins σ H {s with heap:=h',toks:=tk}:=I.turned (λb o x e=>kk b o (by simpa using x) e) Y f1 f3 f4 f5
  refine⟨_,rfl,bY (s:={s with heap:=h',toks:=tk}) (n:="range_iterator") O rfl rfl (by decide) ⟨.d (lo+i),H,I1,⟨t,?_⟩,⟨rfl,rfl⟩,O,λb x=>(hf b x).1⟩⟩
  rw[Int.mul_one]
 d:=by
  intro X S hw U R i pins s σ H E I hf st Q;subst S hw U;refine byG λpi N=>?_;obtain⟨Y,f1,f2,f3,f4,f5⟩:=hf it (by simp)
  refine N ?_;exact wpAny_pyNext_range_end (I.C.k R) st (by have:n<=i:=Q;omega) λh' eb=>⟨rfl,I.turned (t':=s.toks) (λb o x e=>eb b o x e) Y f1 f3 f4 f5⟩
 f:=λ_ _ _ _ _ st h=>wpAny_pyIter_rangeiter st h
section
variable {X:Cx}{tg:Expr}
def VF(K:Ab)(tl:TE):TI:=λσ H R=>tl σ H λx H1=>∃a,x=.c a/\(∃N,SqL K H1 a N)/\R (Itl K a) H1
def PY(K:Ab)(tl:TE):TI:=λσ H R=>tl σ H λx H1=>∃a,x=.c a/\(∃N,SqT K H1 a N)/\R (Itt K a) H1
def mS(S:PE X l tl):PI X tg l (VF X.K tl):=by
 intro pins s σ H R I h;refine thn (S pins s σ H _ I h) λv s1 O=>?_;obtain⟨x,H1,N,r1,q1⟩:=O;obtain⟨a,e,⟨W,Q⟩,q⟩:=q1;subst e;cases r1;obtain⟨P,Y,p,hz⟩:=N.list Q;refine Ed p.isList ?_;refine⟨s1.heap.objs.size,[s1.heap.objs.size],_,_,H1,rfl,N.kept (t':=s1.toks) λb o e=>xd _ e,dY a _,⟨_,AD _ rfl,rfl,rfl⟩,λb U=>?_,q⟩;have e:b=s1.heap.objs.size:=by simpa using U
 subst e;exact N.UK (Aa _) (N.B.fresh (Aa _))
def Zc(S:PE X l tl):PI X tg l (PY X.K tl):=by
 intro pins s σ H R I h;refine thn (S pins s σ H _ I h) λv s1 P=>?_;obtain⟨x,H1,N,r1,q1⟩:=P;obtain⟨a,e,⟨W,Q⟩,q⟩:=q1;subst e;cases r1;obtain⟨O,Y,p,hz⟩:=N.tuple Q;refine E3 (show s1.heap.IsTuple a O.toArray from p) ?_;refine⟨s1.heap.objs.size,[s1.heap.objs.size],_,_,H1,rfl,N.kept (t':=s1.toks) λb o e=>xd _ e,iW a _,⟨_,AD _ rfl,rfl,rfl⟩,λb U=>?_,q⟩;have e:b=s1.heap.objs.size:=by simpa using U
 subst e;exact N.UK (Aa _) (N.B.fresh (Aa _))
def kE{lo hi}(I:Inv X pins σ H s)(h1:-(2 ^ 62)<=lo)(Q:lo<2 ^ 62)(P:-(2 ^ 62)<=hi)(O:hi<2 ^ 62)
 (q:R (Itr lo (hi-lo).toNat) H):wpAny (model X.f X.w) X.A (pyIter (.ref s.heap.objs.size)) (PIE X pins σ tg R) E {s with heap:=s.heap.push {cls:=.type "range",data:=.fields #[.int lo t,.int hi u,.int 1 v]},toks:=tk}:=by
 refine wpAny_pyIter_range (IsRange.new ..) (small_one h1 Q P O) ?_;have N:Inv X pins σ H {s with heap:=s.heap.push {cls:=.type "range",data:=.fields #[.int lo t,.int hi u,.int 1 v]},toks:=tk}:=I.kept λb o e=>xd _ e
 refine⟨(s.heap.push {cls:=.type "range",data:=.fields #[.int lo t,.int hi u,.int 1 v]}).objs.size,[(s.heap.push {cls:=.type "range",data:=.fields #[.int lo t,.int hi u,.int 1 v]}).objs.size],_,_,H,rfl,
  N.kept (t':=tk) λb o e=>xd _ e,iV _ lo (hi-lo).toNat,?_,λb x=>?_,q⟩
 . have e1:lo+((0:Nat):Int)*1=lo:=by simp
   have e2:(((hi-lo).toNat:Nat):Int)-((0:Nat):Int)=B3 lo hi 1:=by rw[rangeSize_one];split<;>omega
   show IsRangeIter _ _ (lo+((0:Nat):Int)*1) ((((hi-lo).toNat:Nat):Int)-((0:Nat):Int)) 1;rw[e1,e2];exact AD _ rfl
 . have e:b=(s.heap.push {cls:=.type "range",data:=.fields #[.int lo t,.int hi u,.int 1 v]}).objs.size:=by simpa using x
   subst e;exact N.UK (Aa _) (N.B.fresh (Aa _))
def RW(ta:TA):TI:=λσ H R=>ta σ H λvs H1=>∃j:Int,vs=[.d j]∧-(2 ^ 62)<=j/\j<2 ^ 62/\R (Itr 0 j.toNat) H1
def RX(ta:TA):TI:=λσ H R=>ta σ H λvs H1=>∃i j:Int,vs=[.d i,.d j]/\(-(2 ^ 62)<=i/\i<2 ^ 62∧-(2 ^ 62)<=j/\j<2 ^ 62)/\R (Itr i (j-i).toNat) H1
def dB(S:Gl X "range")(Q:X.d "range"=none)(U:PA X [a] ta)(P:AA [a] X.a=[(false,eval a X.a)]:=by rfl):PI X tg (.Call (.Name "range" p) [a] [] pos) (RW ta):=by
 intro pins s σ H R I h;refine Call_ (rJ I S Q boot_range (Du (thn (U pos pins s σ H _ I h) λus s1 x=>?_) P rfl));obtain⟨vs,H1,W,r1,q1⟩:=x;obtain⟨j,e,q1,O,q⟩:=q1;subst e;cases r1 with
 |cons r N=>
  cases N;obtain⟨t,rfl⟩:=r;exact call_range_1 (kE W ⋯ ⋯ q1 O (by simpa using q))
def dC(Y:Gl X "range")(W:X.d "range"=none)(Z:PA X [a,b] ta)(U:AA [a,b] X.a=[(false,eval a X.a),(false,eval b X.a)]:=by rfl)(x:AA [b] X.a=[(false,eval b X.a)]:=by rfl) :
 PI X tg (.Call (.Name "range" p) [a,b] [] pos) (RX ta):=by
 intro pins s σ H R I h;refine Call_ (rJ I Y W boot_range (Du (thn (Z pos pins s σ H _ I h) λus s1 ⟨vs,H1,I1,r1,q1⟩=>?_) (by rw[U,x]) (by rw[x];rfl)))
 obtain⟨i,j,e,⟨q1,S,Q,P⟩,q⟩:=q1;subst e;cases r1 with
 |cons r N=>
  cases N with
  |cons O N=>
   cases N;obtain⟨t,rfl⟩:=r;obtain⟨t',rfl⟩:=O;exact call_range_2 (kE I1 q1 S Q P q)
def Pw(wi:TI)(g:TG)(tb:TS):TS:=λD σ H=>wi σ H λJ H1=>∃W:Nat->Nat->St->Hp->Prop,(∃m,W 0 m σ H1)/\∀i m σ H,W i m σ H ->
 (J.a i H/\D.a σ H)\/(J.c i H/\∃N:St->Hp->Prop,(∀O H',N O H'->∃Q,Q<m/\W (i+1) Q O H')/\∀x H',J.b i H x H'->g x σ H' λP H2=>tb {D with a:=N,d:=N,c:=D.a} P H2)
noncomputable def pO(fp:List Addr)(h:Heap):List (Addr × Obj):=fp.filterMap λb=>(h.get? b).map λo=>(b,o)
def vh(x:b∈fp)(e:h.get? b=some o):(b,o)∈pO fp h:=Cw.mpr ⟨b,x,by rw[e];rfl⟩
def eR(hp:p∈pO fp h):p.1∈fp/\h.get? p.1=some p.2:=by
 obtain⟨b,x,e⟩:=Cw.mp hp;cases q:h.get? b with
 |none=>rw[q]at e;cases e
 |some o=>
  rw[q]at e;have N:(b,o)=p:=AX e;subst N;exact⟨x,q⟩
def Inv.pinned(I:Inv X pins σ H s)(hf:∀b∈fp,uq X pins H b)(P:∀b∈fp,∃o,s.heap.get? b=some o/\∀v,o.data≠.cell v):Inv X (pins++pO fp s.heap) σ H s:=
 I.mT λp hp=>(A3.mp hp).elim (λz=>I.O p (Bb _ z)) λz=>by obtain⟨x,e⟩:=eR z;obtain⟨Q,f1,f2,_⟩:=hf p.1 x;obtain⟨o,N,d⟩:=P p.1 x;rw[e]at N;cases N;exact⟨e,Q,f1,f2,d⟩
def Inv.sZ(I:Inv X (pins++pl) σ H s):Inv X pins σ H s:=I.mT λp hp=>I.O p (Bb _ (Bx _ hp))
def SE(hp:E2 (model X.f X.w) X.A X.a X.i)(hc:X.j=true)(hi:PI X tg iter wi)(hg:PG X tg g)(U:PSs X body tb)
 (hs:∀x,A0 iter X.a x=pure x:=by intro _;rfl):PS X (.For tg iter body [] pos) (Pw wi g tb):=by
 intro pins s σ H D I h;refine wpAny_For (thn (hi pins s σ H _ I h) λv s1 h1=>thn h1 λitv s2 h2=>?_) hs;refine byG λpi Y=>?_;obtain⟨it,fp,tn,J,H2,e,I2,T,st2,f2,W,⟨m0,w0⟩,turn⟩:=h2;refine Y ?_;subst e
 -- what stays true of the iterator's objects through the loop
 have S:∀{H':Hp},(∀b∈fp,H' b=none)->∀b∈fp,uq X pins H' b:=λhn b U=>⟨hn b U,(f2 b U).2⟩;refine codeAny_forLoop_any (λn s'=>∃i R H',Inv X pins R H' s'/\tn i s'.heap/\(∀b∈fp,H' b=none)/\W i n R H') ?_ m0 ⟨0,σ,H2,I2,st2,λb U=>(f2 b U).1,w0⟩;rintro n s3 ⟨i,Q,H3,I3,st3,fr3,w3⟩;rcases turn i n Q H3 w3 with⟨stop,qn⟩|⟨go,N,hN,step⟩
 . refine CA hp (thn (T.d X rfl rfl rfl hc i pins s3 Q H3 X.i I3 (S fr3) st3 stop) λr s4 zn=>?_)
   obtain⟨hr,I4⟩:=zn;subst hr;exact DM ⟨Q,H3,I4,qn⟩
 . refine CA hp (thn (T.e X rfl rfl rfl hc i pins s3 Q H3 X.i I3 (S fr3) st3 go) λr s4 zn=>?_)
   obtain⟨u,hr,h4⟩:=zn;subst hr;refine CA hp (thn h4 λ_ s5 zn=>?_);refine byG λpi Y=>?_;obtain⟨x,H5,I5,r5,y5,st5,fr5⟩:=zn;refine Y ?_;have I5':=I5.pinned (S fr5) (T.c _ _ st5);refine CA hp (thn (hg _ s5 Q H5 x u _ I5' r5 (step x H5 y5)) λ_ s6 zn=>?_);refine byG λpi Y=>?_;obtain⟨σ6,H6,I6,q6⟩:=zn;refine Y ?_;refine CA hp (thn (U _ s6 σ6 H6 _ I6 q6) λf s7 q7=>?_);have Z:∀{P:St} {H7:Hp},Inv X (pins++pO fp s5.heap) P H7 s7->N P H7->∃m,m<n/\∃i R H',Inv X pins R H' s7/\tn i s7.heap/\(∀b∈fp,H' b=none)/\W i m R H':=λ{P H7} I7 n7=>by obtain⟨m',hm,w7⟩:=hN P H7 n7;refine⟨m',hm,i+1,P,H7,I7.sZ,T.a _ _ _ st5 λb U o e=>(I7.O (b,o) (Bb _ (Bb _ (vh U e)))).1,λb U=>?_,w7⟩;obtain⟨o,e,d⟩:=T.c _ _ st5 b U;exact(I7.O (b,o) (Bb _ (Bb _ (vh U e)))).2.1
   cases f with
   |next=>obtain⟨P,H7,I7,n7⟩:=q7;exact Z I7 n7
   |cont=>obtain⟨P,H7,I7,n7⟩:=q7;exact Z I7 n7
   |brk=>obtain⟨P,H7,I7,q7⟩:=q7;exact⟨P,H7,I7.sZ,q7⟩
   |ret v=>obtain⟨x7,P,H7,I7,r7,q7⟩:=q7;exact⟨x7,P,H7,I7.sZ,r7,q7⟩
end
abbrev R2:=V->V->Hp->VK->Prop
def OpR(X:Cx)(f:Value->Value->Sem Value)(r:R2):Prop:=
 ∀(pins:List (Addr × Obj)) (s:Shared) (σ:St) (H:Hp) (x y:V) (v u:Value) (Q:VK),Inv X pins σ H s->RelV x v->RelV y u->r x y H Q ->
  wpAny (model X.f X.w) X.A (f v u) (EP X pins σ Q) X.i s
def UnR(X:Cx)(f:Value->Sem Value)(r:V->Hp->VK->Prop):Prop:=
 ∀(pins:List (Addr × Obj)) (s:Shared) (σ:St) (H:Hp) (x:V) (v:Value) (Q:VK),Inv X pins σ H s->RelV x v->r x H Q ->
  wpAny (model X.f X.w) X.A (f v) (EP X pins σ Q) X.i s
def yT(X:Cx)(f:Value)(r:List V->Hp->VK->Prop):Prop:=
 ∀(pins:List (Addr × Obj)) (s:Shared) (σ:St) (H:Hp) (x:List V) (us:List Value) (Q:VK),Inv X pins σ H s->Vals x us->r x H Q ->
  wpAny (model X.f X.w) X.A (call f us) (EP X pins σ Q) X.i s
def PN(X:Cx)(r:V->Hp->(Bool->Hp->Prop)->Prop):Prop:=
 ∀(pins:List (Addr × Obj)) (s:Shared) (σ:St) (H:Hp) (x:V) (v:Value) (Q:Bool->Hp->Prop),Inv X pins σ H s->RelV x v->r x H Q ->
  wpAny (model X.f X.w) X.A (truthy v) (TP X pins σ Q) X.i s
def tOp(r:R2)(ta tb:TE):TE:=λσ H Q=>ta σ H λx H1=>tb σ H1 λy H2=>r x y H2 Q
def tUn(r:V->Hp->VK->Prop)(ta:TE):TE:=λσ H Q=>ta σ H λx H1=>r x H1 Q
def rI(C:Int->Int->Prop)(g:Int->Int->V):R2:=λx y H Q=>∃i j,x=.d i/\y=.d j/\C i j/\Q (g i j) H
def rI0(g:Int->Int->V):R2:=λx y H Q=>∃i j,x=.d i/\y=.d j/\Q (g i j) H
def rU(g:Int->V):V->Hp->VK->Prop:=λx H Q=>∃i,x=.d i/\Q (g i) H
section
variable {X:Cx}{a b c:Expr}{ta tb tc:TE}{pos:Pos}
def Vu(Y:PE X a ta)(W:PE X b tb){R:V->V->Hp->Prop}(I:Inv X pins σ H s)
 (h:ta σ H λx H1=>tb σ H1 λy H2=>R x y H2)  {f:Value->Value->Sem Value}
 (hf:∀v u s2 x y H2,Inv X pins σ H2 s2->RelV x v->RelV y u->R x y H2->wpAny (model X.f X.w) X.A (f v u) Q X.i s2) :
 wpAny (model X.f X.w) X.A (eval a X.a) (λv O=>wpAny (model X.f X.w) X.A (eval b X.a) (λu N=>wpAny (model X.f X.w) X.A (f v u) Q X.i N) X.i O) X.i s:=by
 refine thn (Y pins s σ H _ I h) λv s1 P=>?_;obtain⟨x,H1,I1,r1,q1⟩:=P;refine thn (W pins s1 σ H1 _ I1 q1) λu s2 P=>?_;obtain⟨y,H2,Z,S,U⟩:=P;exact hf v u s2 x y H2 Z r1 S U
def l5(P:OpR X (BD op) r)(S:PE X a ta)(R:PE X b tb):PE X (.BinOp a op b pos) (tOp r ta tb):=by intro pins s σ H Q I h;exact wpAny_BinOp (Vu S R I h λv u s2 x y H2 U O N q=>P pins s2 σ H2 x y v u Q U O N q)
def QU(N:UnR X (unaryOp op) r)(O:PE X a ta):PE X (.UnaryOp op a pos) (tUn r ta):=by intro pins s σ H Q I h;exact UnaryOp_ (thn (O pins s σ H _ I h) λv s1 ⟨x,H1,I1,r1,q1⟩=>N pins s1 σ H1 x v Q I1 r1 q1)
def opI{f:Value->Value->Sem Value}{C:Int->Int->Prop}{g:Int->Int->Int}
 (N:∀i j t u (s:Shared) (Q:Value->Shared->Prop) E,C i j->Q (.int (g i j) s.toks) {s with toks:=s.toks+1}->wpAny (model X.f X.w) X.A (f (.int i t) (.int j u)) Q E s) :
 OpR X f (rI C λi j=>.d (g i j)):=by
 intro pins s σ H x y v u Q I P O h;obtain⟨i,j,rfl,rfl,R,q⟩:=h;obtain⟨t,rfl⟩:=P;obtain⟨t',rfl⟩:=O;exact N i j t t' s _ _ R ⟨.d (g i j),H,I.tok _,⟨_,rfl⟩,q⟩
def Xy{f:Value->Value->Sem Value}{g:Int->Int->Int}
 (N:∀i j t u (s:Shared) (Q:Value->Shared->Prop) E,Q (.int (g i j) s.toks) {s with toks:=s.toks+1}->wpAny (model X.f X.w) X.A (f (.int i t) (.int j u)) Q E s) :
 OpR X f (rI0 λi j=>.d (g i j)):=by
 intro pins s σ H x y v u Q I P O h;obtain⟨i,j,rfl,rfl,q⟩:=h;obtain⟨t,rfl⟩:=P;obtain⟨t',rfl⟩:=O;exact N i j t t' s _ _ ⟨.d (g i j),H,I.tok _,⟨_,rfl⟩,q⟩
def Xx{f:Value->Value->Sem Value}{g:Int->Int->Bool}
 (N:∀i j t u s (Q:Value->Shared->Prop) E,Q (.bool (g i j)) s->wpAny (model X.f X.w) X.A (f (.int i t) (.int j u)) Q E s) :
 OpR X f (rI0 λi j=>.f (g i j)):=by
 intro pins s σ H x y v u Q I P O h;obtain⟨i,j,rfl,rfl,q⟩:=h;obtain⟨t,rfl⟩:=P;obtain⟨t',rfl⟩:=O;exact N i j t t' s _ _ ⟨.f (g i j),H,I,rfl,q⟩
def Vm(i j:Int):Prop:=0<j/\j<1073741824
def PL(i j:Int):Prop:=0<=j/\j<=1000000/\i.natAbs<2 ^ 64
def YY(i j:Int):Prop:=(-(2 ^ 64)<i/\i<2 ^ 64)\/(-(2 ^ 64)<j/\j<2 ^ 64)
def YY.ok(h:YY i j):IntMulOk i j:=by
 rcases h with⟨h1,x⟩|⟨h1,x⟩
 . exact .of_left (intBits_le_64 h1 x)
 . exact .of_right (intBits_le_64 h1 x)
def TU:OpR X (BD .Add) (rI0 λi j=>.d (i+j)):=Xy λ_ _ _ _ _ _ _ q=>add_int q
def Tb:OpR X (BD .Sub) (rI0 λi j=>.d (i-j)):=Xy λ_ _ _ _ _ _ _ q=>sub_int q
def TY:OpR X (BD .Mult) (rI YY λi j=>.d (i*j)):=opI λ_ _ _ _ _ _ _ x q=>mul_int q x.ok
def X3:OpR X (BD .FloorDiv) (rI Vm λi j=>.d (i/j)):=opI λi j _ _ _ _ _ x q=>by have h1:(0:Int)<j:=x.1;have N:j<1073741824:=x.2;exact floordiv_int ⋯ (by rw[DE i ⋯];exact q) (.inl (Ef ⋯))
def TX:OpR X (BD .Mod) (rI (λ_ j=>0<j) λi j=>.d (i%j)):=opI λi j _ _ _ _ _ x q=>by have h1:(0:Int)<j:=x;exact mod_int' ⋯ (by rw[DF i ⋯];exact q)
def TZ:OpR X (BD .Pow) (rI PL λi j=>.d (i ^ j.toNat)):=opI λ_ _ _ _ _ _ _ x q=>pow_int_small x.1 x.2.1 x.2.2 q
def XG:OpR X (DQ .Add) (rI0 λi j=>.d (i+j)):=Xy λ_ _ _ _ _ _ _ q=>iadd_int q
def XJ:OpR X (DQ .Sub) (rI0 λi j=>.d (i-j)):=Xy λ_ _ _ _ _ _ _ q=>isub_int q
def XI:OpR X (DQ .Mult) (rI YY λi j=>.d (i*j)):=opI λ_ _ _ _ _ _ _ x q=>imul_int q x.ok
def bj:OpR X (DQ .FloorDiv) (rI Vm λi j=>.d (i/j)):=opI λi j _ _ _ _ _ x q=>by have h1:(0:Int)<j:=x.1;have N:j<1073741824:=x.2;exact ifloordiv_int ⋯ (by rw[DE i ⋯];exact q) (.inl (Ef ⋯))
def XH:OpR X (DQ .Mod) (rI (λ_ j=>0<j) λi j=>.d (i%j)):=opI λi j _ _ _ _ _ x q=>by have h1:(0:Int)<j:=x;exact imod_int ⋯ (by rw[DF i ⋯];exact q)
def unI{f:Value->Sem Value}{g:Int->Int}
 (N:∀i t (s:Shared) (Q:Value->Shared->Prop) E,Q (.int (g i) s.toks) {s with toks:=s.toks+1}->wpAny (model X.f X.w) X.A (f (.int i t)) Q E s) :
 UnR X f (rU λi=>.d (g i)):=by
 intro pins s σ H x v Q I O h;obtain⟨i,rfl,q⟩:=h;obtain⟨t,rfl⟩:=O;exact N i t s _ _ ⟨.d (g i),H,I.tok _,⟨_,rfl⟩,q⟩
def Su:UnR X (unaryOp .USub) (rU λi=>.d (-i)):=unI λ_ _ _ _ _ q=>neg_int q
end
noncomputable def Qu:V->V->Bool
 |.g,.g=>true|.g,.d _=>true|.d _,.g=>true|.g,.f _=>true|.f _,.g=>true|.g,.e _=>true|.e _,.g=>true
 |.d _,.d _=>true|.f _,.f _=>true|.e _,.e _=>true|.h _,.h _=>true
 |.d _,.e _=>true|.e _,.d _=>true|.f _,.e _=>true|.e _,.f _=>true
 |_,_=>false
def rEq:R2:=λx y H Q=>Qu x y=true/\Q (.f (decide (x=y))) H
def rNe:R2:=λx y H Q=>Qu x y=true/\Q (.f (!decide (x=y))) H
def gA:decide (V.d i=V.d j)=(i == j):=by rw[CB];simp
def cz:decide (V.f i=V.f j)=(i == j):=by rw[CB];simp
def gB:decide (V.e i=V.e j)=(i == j):=by rw[CB];simp
def hX:decide (V.h i=V.h j)=(i.toList == j.toList):=by rw[CB];cases i;cases j;simp
section
variable {X:Cx}{a b c:Expr}{ta tb tc:TE}{pos:Pos}
def zl(I:Inv X pins σ H s)(q:Q (.f k) H)(e:k=k'):EP X pins σ Q (.bool k') s:=by subst e;exact⟨.f k,H,I,rfl,q⟩
def VN:OpR X (Bl .Eq) rEq:=by
 intro pins s σ H x y v u Q I P N h;obtain⟨O,q⟩:=h;cases x with
 |g=>
  cases P;cases y with
  |g=>cases N;exact PySem.EqNone.eq_none_none (zl I q (by simp))
  |f j=>cases N;exact PySem.EqNone.eq_none_bool (zl I q (by simp))
  |d j=>obtain⟨t',rfl⟩:=N;exact PySem.EqNone.eq_none_int (zl I q (by simp))
  |e j=>obtain⟨t',rfl⟩:=N;exact PySem.EqNone.eq_none_str (zl I q (by simp))
  |_=>exact absurd (show false=true from O) Ac
 |f i=>
  cases P;cases y with
  |g=>cases N;exact PySem.EqNone.eq_bool_none (zl I q (by simp))
  |f j=>cases N;exact eq_bool (zl I q cz)
  |e j=>obtain⟨t',rfl⟩:=N;exact PySem.EqMixed.eq_bool_str (zl I q (by simp))
  |_=>exact absurd (show false=true from O) Ac
 |d i=>
  obtain⟨t,rfl⟩:=P;cases y with
  |g=>cases N;exact PySem.EqNone.eq_int_none (zl I q (by simp))
  |d j=>obtain⟨t',rfl⟩:=N;exact eq_int (zl I q gA)
  |e j=>obtain⟨t',rfl⟩:=N;exact PySem.EqMixed.eq_int_str (zl I q (by simp))
  |_=>exact absurd (show false=true from O) Ac
 |e i=>
  obtain⟨t,rfl⟩:=P;cases y with
  |g=>cases N;exact PySem.EqNone.eq_str_none (zl I q (by simp))
  |f j=>cases N;exact PySem.EqMixed.eq_str_bool (zl I q (by simp))
  |d j=>obtain⟨t',rfl⟩:=N;exact PySem.EqMixed.eq_str_int (zl I q (by simp))
  |e j=>obtain⟨t',rfl⟩:=N;exact eq_str (zl I q gB)
  |_=>exact absurd (show false=true from O) Ac
 |h i=>
  obtain⟨t,rfl⟩:=P;cases y with
  |h j=>obtain⟨t',rfl⟩:=N;exact PySem.W.eq_bytes (zl I q hX)
  |_=>exact absurd (show false=true from O) Ac
 |_=>cases y<;>exact absurd (show false=true from O) Ac
def VO:OpR X (Bl .NotEq) rNe:=by
 intro pins s σ H x y v u Q I P N h;obtain⟨O,q⟩:=h;cases x with
 |g=>
  cases P;cases y with
  |g=>cases N;exact PySem.EqNone.ne_none_none (zl I q (by simp))
  |f j=>cases N;exact PySem.EqNone.ne_none_bool (zl I q (by simp))
  |d j=>obtain⟨t',rfl⟩:=N;exact PySem.EqNone.ne_none_int (zl I q (by simp))
  |e j=>obtain⟨t',rfl⟩:=N;exact PySem.EqNone.ne_none_str (zl I q (by simp))
  |_=>exact absurd (show false=true from O) Ac
 |f i=>
  cases P;cases y with
  |g=>cases N;exact PySem.EqNone.ne_bool_none (zl I q (by simp))
  |f j=>cases N;exact ne_bool (zl I q (congrArg not cz))
  |e j=>obtain⟨t',rfl⟩:=N;exact PySem.EqMixed.ne_bool_str (zl I q (by simp))
  |_=>exact absurd (show false=true from O) Ac
 |d i=>
  obtain⟨t,rfl⟩:=P;cases y with
  |g=>cases N;exact PySem.EqNone.ne_int_none (zl I q (by simp))
  |d j=>obtain⟨t',rfl⟩:=N;exact ne_int (zl I q (congrArg not gA))
  |e j=>obtain⟨t',rfl⟩:=N;exact PySem.EqMixed.ne_int_str (zl I q (by simp))
  |_=>exact absurd (show false=true from O) Ac
 |e i=>
  obtain⟨t,rfl⟩:=P;cases y with
  |g=>cases N;exact PySem.EqNone.ne_str_none (zl I q (by simp))
  |f j=>cases N;exact PySem.EqMixed.ne_str_bool (zl I q (by simp))
  |d j=>obtain⟨t',rfl⟩:=N;exact PySem.EqMixed.ne_str_int (zl I q (by simp))
  |e j=>obtain⟨t',rfl⟩:=N;exact ne_str (zl I q (congrArg not gB))
  |_=>exact absurd (show false=true from O) Ac
 |h i=>
  obtain⟨t,rfl⟩:=P;cases y with
  |h j=>obtain⟨t',rfl⟩:=N;exact PySem.W.ne_bytes (zl I q (congrArg not hX))
  |_=>exact absurd (show false=true from O) Ac
 |_=>cases y<;>exact absurd (show false=true from O) Ac
def R7:OpR X (Bl .Lt) (rI0 λi j=>.f (decide (i<j))):=Xx λ_ _ _ _ _ _ _ q=>lt_int q
def R6:OpR X (Bl .LtE) (rI0 λi j=>.f (decide (i<=j))):=Xx λ_ _ _ _ _ _ _ q=>le_int q
def R5:OpR X (Bl .Gt) (rI0 λi j=>.f (decide (j<i))):=Xx λ_ _ _ _ _ _ _ q=>gt_int q
def R4:OpR X (Bl .GtE) (rI0 λi j=>.f (decide (j<=i))):=Xx λ_ _ _ _ _ _ _ q=>ge_int q
def TV:OpR X (Bl .Is) (λx y H Q=>y=.g/\Q (.f (decide (x=.g))) H):=by
 intro pins s σ H x y v u Q I N O h;obtain⟨rfl,q⟩:=h;cases O;refine is_none_gen (zl I q ?_);cases x<;>first
  |(cases N;rfl)
  |(obtain⟨t,rfl⟩:=N;rfl)
def mR(P:OpR X (Bl op) r)(U:PE X a ta)(S:PE X b tb)(R:DC op b=false):PE X (.Compare a [op] [b] pos) (tOp r ta tb):=by intro pins s σ H Q I h;exact wpAny_Compare1 (Vu U S I h λv u s2 x y H2 W O N q=>P pins s2 σ H2 x y v u Q W O N q) R
def gz(t:TE):TT:=λσ H Q=>t σ H λx H'=>∃k,x=.f k/\Q k H'
def qS(N:OpR X (Bl op) r)(R:PE X a ta)(P:PE X b tb)(O:DC op b=false):PT X (.Compare a [op] [b] pos) (gz (tOp r ta tb)):=by
 intro pins s σ H Q I h;refine wpAny_isTrue_Compare1 (thn (R pins s σ H _ I h) λv s1 ⟨x,H1,I1,r1,q1⟩=>thn (P pins s1 σ H1 _ I1 q1) λu s2 ⟨y,H2,I2,r2,q2⟩=>
  thn (N pins s2 σ H2 x y v u _ I2 r1 r2 q2) λc S ⟨z,H3,I3,r3,k,e,q3⟩=>?_) O
 subst e;cases r3;exact BH ⟨H3,I3,q3⟩
def Z8(r P:R2)(ta tb tc:TE):TE:=λσ H Q=>ta σ H λx H1=>tb σ H1 λy H2=>r x y H2 λz N=>∃k,z=.f k /\
 (if k=true then tc σ N λO R=>P y O R Q else Q (.f false) N)
def ZP(S:OpR X (Bl op) r)(N:OpR X (Bl op') r')(Z:PE X a ta)(Y:PE X b tb)(W:PE X c tc)
 (U:GL [op,op'] [b,c]=false:=by with_unfolding_all rfl):PE X (.Compare a [op,op'] [b,c] pos) (Z8 r r' ta tb tc):=by
 intro pins s σ H Q I h;refine Compare_chain (thn (Z pins s σ H _ I h) λv s1 ⟨x,H1,I1,r1,q1⟩=>chain_link (thn (Y pins s1 σ H1 _ I1 q1) λu s2 ⟨y,H2,I2,r2,q2⟩=>
  thn (S pins s2 σ H2 x y v u _ I2 r1 r2 q2) λd R ⟨z,H3,I3,r3,k,e,q3⟩=>?_)) U
 subst e;cases r3;refine BH ?_;cases k with
 |false=>exact ite_ff ⟨.f false,H3,I3,rfl,q3⟩
 |true=>exact ite_tt (chain_last (thn (W pins R σ H3 _ I3 q3) λO P ⟨z',H4,I4,r4,q4⟩=>N pins P σ H4 y z' u O Q I4 r2 r4 q4))
def Zl(Z:OpR X (Bl op) r)(N:OpR X (Bl op') r')(ha:PE X a ta)(hb:PE X b tb)(hc:PE X c tc)
 (hm:GL [op,op'] [b,c]=false:=by with_unfolding_all rfl):PT X (.Compare a [op,op'] [b,c] pos) (gz (Z8 r r' ta tb tc)):=by
 intro pins s σ H Q I h;refine isTrue_chain (thn (ha pins s σ H _ I h) λv s1 ⟨x,H1,I1,r1,q1⟩=>test_link (thn (hb pins s1 σ H1 _ I1 q1) λu s2 ⟨y,H2,I2,r2,q2⟩=>
  thn (Z pins s2 σ H2 x y v u _ I2 r1 r2 q2) λd S ⟨z,H3,I3,r3,k,e,q3⟩=>?_)) hm
 subst e;cases r3;refine BH ?_;cases k with
 |false=>
  obtain⟨k',e',Y⟩:=q3;cases e';exact ite_ff ⟨H3,I3,Y⟩
 |true=>
  refine ite_tt (test_last (thn (hc pins S σ H3 _ I3 q3) λP R ⟨z',H4,I4,r4,q4⟩=>thn (N pins R σ H4 y z' u P _ I4 r2 r4 q4) λd' s5 O=>?_));obtain⟨z2,H5,I5,U,k2,e2,W⟩:=O;subst e2;cases U;exact BH ⟨H5,I5,W⟩
def Yb(K:Ab)(x:V)(H:Hp)(k:Bool):Prop:=
 match x with
 |.g=>k=false
 |.f b=>k=b
 |.d i=>k=(i != 0)
 |.e y=>y.length<=Ap/\k=((y.length:Int) != 0)
 |.h y=>y.size<=Ap/\k=((y.size:Int) != 0)
 |.c p=>(∃N,SqL K H p N/\k=!N.isEmpty)\/(∃N,SqT K H p N/\k=!N.isEmpty)\/∃O,H p=some (.i O)/\k=!O.isEmpty
 |_=>False
def jJ(r:KV kvs vs):(!vs.isEmpty)=!kvs.isEmpty:=by
 cases r<;>rfl
def qy(r:Vals xs its):(!its.toArray.isEmpty)=!xs.isEmpty:=by
 cases r<;>simp
def tQ:(Ap:Nat)<2 ^ 63:=by rw[AK];decide
def YF:PN X (λx H Q=>∃k,Yb X.K x H k/\Q k H):=by
 intro pins s σ H x v Q I U h;obtain⟨k,e,q⟩:=h;have hl:=tQ;have hs:Ap=16777216:=AK;cases x with
 |g=>
  cases U;have N:k=false:=e;subst N;exact truthy_none ⟨H,I,q⟩
 |f b=>
  cases U;have N:k=b:=e;subst N;exact BH ⟨H,I,q⟩
 |d i=>
  obtain⟨t,rfl⟩:=U;have N:k=(i != 0):=e;subst N;exact PySem.P.truthy_int ⟨H,I,q⟩
 |e y=>
  obtain⟨t,rfl⟩:=U;obtain⟨hy,N⟩:y.length<=Ap/\k=((y.length:Int) != 0):=e;subst N;exact PySem.P.truthy_str ⋯ ⟨H,I.tok _,q⟩
 |h y=>
  obtain⟨t,rfl⟩:=U;obtain⟨hy,N⟩:y.size<=Ap/\k=((y.size:Int) != 0):=e;subst N;exact PySem.W.truthy_bytes ⋯ ⟨H,I.tok _,q⟩
 |c p=>
  cases U;have N:(∃S,SqL X.K H p S/\k=!S.isEmpty)\/(∃S,SqT X.K H p S/\k=!S.isEmpty)\/∃O,H p=some (.i O)/\k=!O.isEmpty:=e;rcases N with⟨S,hx,N⟩|⟨S,hx,N⟩|⟨O,hx,N⟩
  . subst N
    obtain⟨Z,r,Y,hz⟩:=I.list hx;have R:=r.length;exact wpAny_truthy_list Y.isList (by simp only[Ah];omega) ⟨H,I.tok _,by rw[qy r];exact q⟩
  . subst N
    obtain⟨Z,r,Y,hz⟩:=I.tuple hx;have R:=r.length;exact truthy_tuple Y (by simp only[Ah];omega) ⟨H,I.tok _,by rw[qy r];exact q⟩
  . subst N
    obtain⟨hz,hS,vs,r,m⟩:O.length<=Ap/\(p == B9)=false/\∃vs,KV O vs/\s.heap.DictOf (mC X.f X.w) p vs:=I.B p _ hx;have R:O.length=vs.length:=GF r;exact wpAny_truthy_dict hS m ⋯ ⟨H,I.tok _,by rw[jJ r];exact q⟩
 |_=>exact(show False from e).elim
def kC(P:PE X a ta)(O:∀N,isTrue a X.a N=(do let v <-N;standAt a.pos;holding [v] (truthy v))) :
 PT X a (λσ H Q=>ta σ H λx H'=>∃k,Yb X.K x H' k/\Q k H'):=by
 intro pins s σ H Q I h;exact isTrue_plain (thn (P pins s σ H _ I h) λv s1 ⟨x,H1,I1,r1,q1⟩=>YF pins s1 σ H1 x v Q I1 r1 q1) (O _)
def pJ:OpR X (BD .Add) (λx y H Q=>∃i j,x=.e i/\y=.e j/\i.length+j.length<=Ap/\Q (.e (i++j)) H):=by intro pins s σ H x y v u Q I O N h;obtain⟨i,j,rfl,rfl,hz,q⟩:=h;obtain⟨t,rfl⟩:=O;obtain⟨t',rfl⟩:=N;exact add_str (λt' tk=>⟨.e (i++j),H,I.tok _,⟨_,rfl⟩,q⟩) hz
def vals1(r:Vals [x] us):∃u,us=[u]/\RelV x u:=by
 cases r with
 |cons r1 N=>cases N;exact⟨_,rfl,r1⟩
def vals2(r:Vals [x,y] us):∃u N,us=[u,N]/\RelV x u/\RelV y N:=by
 cases r with
 |cons r1 Q=>
  cases Q with
  |cons P O=>cases O;exact⟨_,_,rfl,r1,P⟩
def fK(N:X.j=true):yT X (.builtin "max") (λx H Q=>∃i j,x=[.d i,.d j]/\Q (.d (if j > i then j else i)) H):=by
 intro pins s σ H x us Q I r h;obtain⟨i,j,rfl,q⟩:=h;obtain⟨u,O,rfl,⟨t,rfl⟩,⟨t',rfl⟩⟩:=vals2 r;refine max_two_ints (I.C.k N) λh' tk k=>⟨_,H,I.kept k,?_,q⟩;by_cases hj:j > i
 . rw[if_pos hj,if_pos hj];exact⟨_,rfl⟩
 . rw[if_neg hj,if_neg hj];exact⟨_,rfl⟩
def fN(N:X.j=true):yT X (.builtin "min") (λx H Q=>∃i j,x=[.d i,.d j]/\Q (.d (if j<i then j else i)) H):=by
 intro pins s σ H x us Q I r h;obtain⟨i,j,rfl,q⟩:=h;obtain⟨u,O,rfl,⟨t,rfl⟩,⟨t',rfl⟩⟩:=vals2 r;refine min_two_ints (I.C.k N) λh' tk k=>⟨_,H,I.kept k,?_,q⟩;by_cases hj:j<i
 . rw[if_pos hj,if_pos hj];exact⟨_,rfl⟩
 . rw[if_neg hj,if_neg hj];exact⟨_,rfl⟩
def oY:yT X (.type "int") (λx H Q=>(∃i,x=[.d i]/\Q (.d i) H)\/∃k,x=[.f k]/\Q (.d (if k then 1 else 0)) H):=by
 intro pins s σ H x us Q I r h;rcases h with⟨i,rfl,q⟩|⟨k,rfl,q⟩
 . obtain⟨u,rfl,t,rfl⟩:=vals1 r
   exact call_int_int ⟨.d i,H,I,⟨_,rfl⟩,q⟩
 . obtain⟨u,rfl,r1⟩:=vals1 r
   cases r1;exact call_int_bool ⟨.d (if k then 1 else 0),H,I.tok _,⟨_,rfl⟩,q⟩
def uG:yT X (.builtin "divmod") (λx H Q=>∃i j,x=[.d i,.d j]/\Vm i j/\∀p,H p=none->Q (.c p) (upd H p (.c [.d (i/j),.d (i%j)]))):=by
 intro pins s σ H x us Q I r h;obtain⟨i,j,rfl,⟨h1,P⟩,q⟩:=h;obtain⟨u,O,rfl,⟨t,rfl⟩,⟨t',rfl⟩⟩:=vals2 r;refine divmod_int ⋯ ?_ (.inl (Ef ⋯))
 rw[DE i ⋯,DF i ⋯]
 have N:H s.heap.objs.size=none:=I.B.fresh (Aa _);refine⟨.c s.heap.objs.size,_,?_,rfl,q _ N⟩;refine I.laid (λb o e=>xd _ e) (Aa _) ⟨by simp only[AB,B5];rw[AK];decide,[.int (i/j) s.toks,.int (i%j) (s.toks+1)],.cons ⟨_,rfl⟩ (.cons ⟨_,rfl⟩ .nil),?_⟩
 exact⟨_,AD s.heap rfl,rfl,0,rfl,rfl⟩
end
structure Vq(h:Heap)(x dx C:Addr)(mA:Str->Option Value):Prop where
 a:h.get? x=some (Gb C dx)
 ns:h.Ns1 dx mA
 ne:dx≠x
def eM{h:Heap}(n:h.Ns1 dx mA):∃od,h.get? dx=some od/\∀name,Gj name od=some (mA name):=by
 obtain⟨o,es,R,O,hd,hk,_,P⟩:=n;refine⟨o,O,λname=>?_⟩;have e:=P name;unfold nsFind findBy at e;rw[<-Array.find?_toList]at e;unfold Gj;rw[hd];dsimp only;split
 . rename_i y q
   rw[q]at e;exact congrArg some e
 . rename_i q
   rw[q]at e;have a:es.toList.any (·.refKey)=false:=by rw[List.any_eq_false];intro y N;obtain⟨z,t,x⟩:=hk y (Array.mem_toList_iff.mp N);simp[F7.refKey,x]
   have Q:¬es.toList.any (·.refKey)=true:=by rw[a];exact Ac
   rw[if_neg Q];exact congrArg some e
def Vq.look(I:Vq h x dx C mA):∃od,PySem.W.InstAt h x (Gb C dx) C (some od)/\∀name,Gj name od=some (mA name):=
 let ⟨od,N,O⟩:=eM I.ns
 ⟨od,⟨I.a,rfl,rfl,N⟩,O⟩
noncomputable def rQ(f:Str)(v:V):List (Str × V)->List (Str × V)
 |[]=>[(f,v)]
 |(g,x)::r=>if g=f then (g,v)::r else (g,x)::rQ f v r
theorem rn f g v:∀fs:List (Str × V),(rQ f v fs).lookup g=if g=f then some v else fs.lookup g
 |[]=>by
  show Cu g [(f,v)]=_;by_cases h:g=f
  . have N:(g == f)=true:=beq_iff_eq.mpr h
    simp only[Cu,N,if_pos h]
  . have N:(g == f)=false:=beq_eq_false_iff_ne.mpr h
    simp only[Cu,N,if_neg h]
 |(k,x)::r=>by
  have O:=rn f g v r;rw[show rQ f v ((k,x)::r)=(if k=f then (k,v)::r else (k,x)::rQ f v r) from rfl]
  by_cases hk:k=f
  . rw[if_pos hk]
    by_cases h:g=k
    . have N:(g == k)=true:=beq_iff_eq.mpr h
      simp only[Cu,N,if_pos (h.trans hk)]
    . have N:(g == k)=false:=beq_eq_false_iff_ne.mpr h
      simp only[Cu,N,if_neg (λe:g=f=>h (e.trans hk.symm))]
  . rw[if_neg hk]
    by_cases h:g=k
    . have N:(g == k)=true:=beq_iff_eq.mpr h
      simp only[Cu,N,if_neg (λe:g=f=>hk (h.symm.trans e))]
    . have N:(g == k)=false:=beq_eq_false_iff_ne.mpr h
      simp only[Cu,N];exact O
theorem rH f v:∀fs:List (Str × V),f∈(rQ f v fs).map (·.1)/\∀g,g∈fs.map (·.1)->g∈(rQ f v fs).map (·.1)
 |[]=>⟨by simp[rQ],λg h=>by simp at h⟩
 |(k,x)::r=>by
  obtain⟨O,N⟩:=rH f v r;rw[show rQ f v ((k,x)::r)=(if k=f then (k,v)::r else (k,x)::rQ f v r) from rfl]
  by_cases hk:k=f
  . rw[if_pos hk]
    subst hk;exact⟨by simp,λg h=>by simpa using h⟩
  . rw[if_neg hk]
    refine⟨?_,λg h=>?_⟩
    . rw[AZ]
      exact Ag _ O
    . rw[AZ]at h ⊢
      rcases Ao.mp h with e|e
      . exact Ao.mpr (.inl e)
      . exact Ag _ (N g e)
def XF(x:HOk P w H h)(e:H a=some (.l C dx fs)):∃mA,Vq h a dx C mA/\(∀f,my (fs.lookup f) (mA f))/\EF mA (fs.map (·.1))/\fs.length<=1000/\H dx=some (.e a):=by obtain⟨d,z,ne,ob,mA,n,r,q⟩:=(show z6 P w H h a (.l C dx fs) from x a _ e);exact⟨mA,⟨ob,n,ne⟩,r,q,z,d⟩
structure Cls(K:Ab)(C:Addr):Prop where
 pg:PySem.W.plainGet K C CQ=true
 hd:PySem.W.hasDictIn K C=true
 po:PySem.W.plainOver K C=true
 sa:Dp K (.ref C) "__setattr__"=some (some (.builtin "object.__setattr__"))
def Cls.get{K}(c:Cls K C)f:PySem.W.plainGet K C f=true:=c.pg
def Yi(N:BZ e f env (eval e env)=eval e env)
 (h:wpAny (model prog w) A (eval e env) (λo x=>wpAny (model prog w) A (getAttr o f true) Q E x) E s):wpAny (model prog w) A (eval (.Attribute e f pos) env) Q E s:=
 Attribute_any_ h (by rw[arm_eval_Attribute,N])
section
variable {X:Cx}{pins:List (Addr × Obj)}{σ:St}{H:Hp}{s:Shared}{A:Around}{E:Value->Shared->Prop}{Q:Value->Shared->Prop}{c:Value}{b:Bool}
inductive tx(K:Ab)(H:Hp):V->Value->Prop where
 |d:tx K H .g (.type "NoneType")
 |bl (x:Bool):tx K H (.f x) (.type "bool")
 |c (i:Int):tx K H (.d i) (.type "int")
 |f (x:Str):tx K H (.e x) (.type "str")
 |h (x:UInt64):tx K H (.j x) (.type "float")
 |b {a:Addr} {xs:List V} (e:H a=some (.b xs)):tx K H (.c a) (.type "list")
 |j {a:Addr} {o:Obj} {xs:List V} (e:H a=some (.d o (.b xs))):tx K H (.c a) (.type "list")
 |g {a:Addr} {xs:List V} (e:H a=some (.c xs)):tx K H (.c a) (.type "tuple")
 |dK {a:Addr} {kvs:List (Key × V)} (e:H a=some (.i kvs)):tx K H (.c a) (.type "dict")
 |dT {a:Addr} {kvs:List (List Key × V)} (e:H a=some (.k kvs)):tx K H (.c a) (.type "dict")
 |k {a C dx:Addr} {fs:List (Str × V)} (e:H a=some (.l C dx fs)) (cl:Cls K C) (ha:Dp K (.ref C) "__class__"=some (some (.builtin "object.__class__")))
  (hn:PySem.W.specialIn K (.builtin "object.__class__") "__get__"=some (some (.builtin "getset_descriptor.__get__"))) (htk:PySem.W.takesIn K (.builtin "object.__class__")=some true)
  (hm:PySem.W.mroIn K C (.type "object")=some true):tx K H (.c a) (.ref C)
def fj(I:Inv X pins σ H s)(N:RelV x u)(Z:tx X.K H x t)(e:Gk X.K t c=some b)(h:∀tk,Q (.bool b) {s with toks:=tk}) :
 wpAny (model X.f X.w) A (call (.builtin "isinstance") [u,c]) Q E s:=by
 cases Z with
 |d=>cases (show u=Be from N);exact BM PySem.W.kitx_none I.kIn AS e (λz=>nomatch z) h
 |bl y=>cases (show u=C7 y from N);exact BM PySem.W.kitx_bool I.kIn AS e (λz=>nomatch z) h
 |c i=>obtain⟨t,q⟩:=(show ∃t,u=F9 i t from N);cases q;exact BM PySem.W.kitx_int I.kIn AS e (λz=>nomatch z) h
 |f y=>obtain⟨t,q⟩:=(show ∃t,u=Ga y t from N);cases q;exact BM PySem.W.kitx_str I.kIn AS e (λz=>nomatch z) h
 |h y=>obtain⟨t,q⟩:=(show ∃t,u=Value.float y t from N);cases q;exact BM PySem.W.kitx_float I.kIn AS e (λz=>nomatch z) h
 |@b a S P=>
  cases (show u=AH a from N);obtain⟨_,_,n,_,h1⟩:=(show z6 X.f X.w H s.heap a (.b S) from I.B a _ P);exact BM PySem.W.kitx_list I.kIn ⟨_,h1,rfl⟩ e (λz=>nomatch z) h
 |@j a ob S P=>
  cases (show u=AH a from N);obtain⟨_,_,_,n,_,h1⟩:=(show z6 X.f X.w H s.heap a (.d ob (.b S)) from I.B a _ P);exact BM PySem.W.kitx_list I.kIn ⟨_,h1,rfl⟩ e (λz=>nomatch z) h
 |@g a S P=>
  cases (show u=AH a from N);obtain⟨_,_,_,p⟩:=(show z6 X.f X.w H s.heap a (.c S) from I.B a _ P);obtain⟨o,h1,U,_⟩:=p;exact BM PySem.W.kitx_tuple I.kIn ⟨o,h1,U⟩ e (λz=>nomatch z) h
 |@dK a R P=>
  cases (show u=AH a from N);obtain⟨_,_,vs,_,p⟩:=(show z6 X.f X.w H s.heap a (.i R) from I.B a _ P);obtain⟨o,es,ep,h1,U,_⟩:=p;exact BM PySem.W.kitx_dict I.kIn ⟨o,h1,U.1⟩ e (λz=>nomatch z) h
 |@dT a R P=>
  cases (show u=AH a from N);obtain⟨_,_,S,_,o,es,ep,h1,U,_⟩:=(show z6 X.f X.w H s.heap a (.k R) from I.B a _ P);exact BM PySem.W.kitx_dict I.kIn ⟨o,h1,U.1⟩ e (λz=>nomatch z) h
 |@k a C dx fs P cl ha hn Y hm=>
  cases (show u=AH a from N);obtain⟨mA,O,_⟩:=XF I.B P;obtain⟨od,J,_⟩:=O.look;exact BM (PySem.W.kitx_own (cl.get _) cl.hd ha hn Y hm) I.kIn J e (λz=>nomatch z) h
end
structure xN(k:Nat)(A:Around):Prop where
 a:A.handled=none
 c:A.depth+3*k+5<Co
 b:A.units+16*k+200<cLine
 d:A.guards=some []
theorem xN.deeper(r:xN (k+1) A)env:xN k (A.deeper env):=
 ⟨r.a,by have:=r.c;show A.depth+1+3*k+5<_;omega,by have:=r.b;show A.units+3+16*k+200<_;omega,r.d⟩
def jZ{A:Around}:(A.under (.builtin "type.__call__" ⟨.ref C::us,kw⟩)).depth=A.depth+1:=by first|rfl|simp[Around.under,Code.weight,Code.isCreation,Code.isGuard,Code.isCaller,Code.frames,Code.isFrame,guardIds]
theorem xN.depth(r:xN k A):A.depth<Co:=by have:=r.c;omega
def tY:TA:=λ_ H Q=>Q [] H
def xa(ta:TE)(O:TA):TA:=λσ H Q=>ta σ H λx H1=>O σ H1 λN H2=>Q (x::N) H2
section
variable {X:Cx}{e:Expr}{es:List Expr}{te:TE}{t:TA}{pos:Pos}
def yh:PA X [] tY:=λ_ _ _ _ H Q I h=>Calls.spliced_nil ⟨[],H,I,.nil,h⟩
def yO(R:PE X e te)(P:PA X es t)(O:AA (e::es) X.a=(false,eval e X.a)::AA es X.a:=by rfl):PA X (e::es) (xa te t):=by intro pos pins s σ H Q I h;rw[O];show wpAny _ _ (spliced ((false,eval e X.a)::backTo pos (AA es X.a))) _ _ s;refine Calls.spliced_cons (thn (R pins s σ H _ I h) λu s1 N=>?_);obtain⟨x,H1,S,r1,q1⟩:=N;exact thn (P pos pins s1 σ H1 _ S q1) λus s2 ⟨xs,H2,I2,r2,q2⟩=>⟨x::xs,H2,I2,.cons r1 r2,q2⟩
def PD(t:TA):TE:=λσ H Q=>t σ H λx H1=>x.length<=Ap/\∀p,H1 p=none->Q (.c p) (upd H1 p (.c x))
def iO(t:TA):TE:=λσ H Q=>t σ H λx H1=>x.length<=Ap/\∀p,H1 p=none->Q (.c p) (upd H1 p (.b x))
def Za{x1}(h:PA X es t):PE X (.Tuple es x1 pos) (PD t):=by
 intro pins s σ H Q I x;refine wpAny_Tuple_spliced (thn (h pos pins s σ H _ I x) λus s1 ⟨xs,H1,I1,r,z,q⟩=>⟨by rw[<-r.length];exact z,?_⟩)
 have hf:H1 s1.heap.objs.size=none:=I1.B.fresh (Aa _);refine⟨.c s1.heap.objs.size,upd H1 s1.heap.objs.size (.c xs),I1.laid (t':=s1.toks) (λb u e=>xd _ e) (Aa _) ?_,rfl,q _ hf⟩;exact⟨z,us,r,⟨_,AD _ rfl,rfl,_,rfl,rfl⟩⟩
def rN(h:PA X es t):PE X (.List es pos) (iO t):=by
 intro pins s σ H Q I x;refine wpAny_List_spliced (thn (h pos pins s σ H _ I x) λus s1 ⟨xs,H1,I1,r,z,q⟩=>⟨by rw[<-r.length];exact z,?_⟩)
 have hf:H1 s1.heap.objs.size=none:=I1.B.fresh (Aa _);refine⟨.c s1.heap.objs.size,upd H1 s1.heap.objs.size (.b xs),I1.laid (t':=s1.toks) (λb u e=>xd _ e) (Aa _) ?_,rfl,q _ hf⟩;exact⟨z,us,0,r,AD _ rfl⟩
end
abbrev Sp:=List V->Hp->VK->XK->Prop
abbrev CXT:=List Env->Hp->Shared->XK->Value->Shared->Prop
structure qU(P:Program)(w:World)(K:Ab)(mg:Str->Option Value)(base:Heap)(A:Around)(outer:List Env)(s:Shared)(H:Hp):Prop where
 a:A.frames=some outer
 c:Mod K mg base
 f:∀b o,base.get? b=some o->s.heap.get? b=some o/\H b=none
 h:base.objs.size<=s.heap.objs.size
 j:s.heap.FunFrames base outer
 i:∀b∈frs outer,H b=none
 d:HOk P w H s.heap
 g:AllBare s.gens
def CE(outer:List Env)(P:Program)(w:World)(H:Hp)(s:Shared)(Q:VK)(u:Value)(s':Shared):Prop:=
 ∃v H',s'.os=s.os/\AllBare s'.gens/\Un (frs outer) [] H H' s.heap s'.heap/\HOk P w H' s'.heap/\RelV v u/\Q v H'
def CR(CX:CXT)(outer:List Env)(P:Program)(w:World)(H:Hp)(s:Shared)(Q:VK)(E:XK)(r:Result)(s':Shared):Prop:=
 match r with
 |.ok (.ret u)=>CE outer P w H s Q u s'
 |.ok _=>False
 |.error e=>CX outer H s E e s'
structure tm(P:Program)(w:World)(K:Ab)(mg:Str->Option Value)(base:Heap)(CX:CXT)(k:Nat)(f:Addr)(fd:BA)(ps:List Str)(sp:Sp):Prop where
 b:∀vs H Q E,sp vs H Q E->vs.length=ps.length
 a:∀(A:Around) (outer:List Env) (s:Shared) (H:Hp) (args:Args) (us:List Value) (vs:List V) (Q:VK) (E:XK),xN k A->qU P w K mg base A outer s H->BindsTo s fd args (ps.zip us)->Vals vs us->sp vs H Q E ->
  codeAny (model P w) A (.call (.ref f) args) (CR CX outer P w H s Q E) s
def tm.imp{K}(F:tm P w K mg base CX k f fd ps sp)
 (h:∀vs H Q E,sp' vs H Q E->sp vs H Q E):tm P w K mg base CX k f fd ps sp':=
 ⟨λvs H Q E q=>F.b vs H Q E (h _ _ _ _ q),λA outer s H args us vs Q E O R S x N=>F.a A outer s H args us vs Q E O R S x (h _ _ _ _ N)⟩
def qU.make{K}(e:qU P w K mg base A outer s H)C us kw :
 qU P w K mg base (A.under (.builtin "type.__call__" ⟨.ref C::us,kw⟩)) outer s H:=⟨by first|exact e.a|(simpa [Around.under,Code.envs,Code.isFrame,pushEnvs] using e.frames),e.c,e.f,e.h,e.j,e.i,e.d,e.g⟩
def Inv.v7(I:Inv X pins σ H s):qU X.f X.w X.K X.d X.h X.A X.g s H:=
 ⟨I.C.g,I.C.i,I.bs,Az I.C.q I.sz,I.stack,I.me,I.B,I.F⟩
def Inv.after(I:Inv X pins σ H s)(h:CE X.g X.f X.w H s Q u s'):EP X pins σ Q u s':=by obtain⟨v,H',os,bare,un,N,r,q⟩:=h;obtain⟨O,g,d,t,x⟩:=s';obtain rfl:x=s.os:=os;exact⟨v,H',I.call (h':=O) (g':=g) (d':=d) (t':=t) (ch:=[]) un N bare (λb z=>absurd z (by simp)),r,q⟩
def gx(sp:Sp)(x:List V)(E:XK)(t:TA):TE:=λσ H Q=>t σ H λvs H1=>sp (vs++x) H1 Q E
def Binds(K:Ab)(fd:BA)(ps:List Str)(ds:List Value):Prop:=
 ∀(s:Shared) (us:List Value),K.In s.heap->(us++ds).length=ps.length->BindsTo s fd ⟨us,[]⟩ (ps.zip (us++ds))
def Binds.all{K}(h:∀us:List Value,us.length=ps.length->Gx fd ⟨us,[]⟩=pure (ps.zip us)):Binds K fd ps []:=λs us _ x=>by rw[A4]at x ⊢;exact .of_eq (h us x)
def Passes(CX:CXT)(X:Cx)(E:XK):Prop:=∀(pins:List (Addr × Obj)) (σ:St) (H:Hp) (s:Shared) (e:Value) (s':Shared),Inv X pins σ H s->CX X.g H s E e s'->X.i e s'
def iA(F:tm X.f X.w X.K X.d X.h CX k f fd ps sp)(O:xN k X.A)(R:Binds X.K fd ps ds)(hd:Vals dvs ds)(hx:Passes CX X E)
 (I:Inv X pins σ H s) (r:Vals vs us) (h:sp (vs++dvs) H Q E):wpAny (model X.f X.w) X.A (call (.ref f) us) (EP X pins σ Q) X.i s:=by
 have N:Vals (vs++dvs) (us++ds):=r.append hd;have P:(us++ds).length=ps.length:=by rw[<-N.length];exact F.b _ _ _ _ h
 refine C9 (CY (F.a X.A X.g s H ⟨us,[]⟩ (us++ds) (vs++dvs) Q E O I.v7 (R s us I.kIn P) N h) λr s' x=>?_);cases r with
 |error e=>exact hx pins σ H s e s' I x
 |ok fl=>
  cases fl with
  |ret u=>exact I.after x
  |next=>exact Av x
  |brk=>exact Av x
  |cont=>exact Av x
def mQ(F:tm X.f X.w X.K X.d X.h CX k f fd ps sp)(P:xN k X.A)(S:Gl X x)(R:X.d x=some (.ref f))(hk:B2 X.K (.ref f)=true)(W:Binds X.K fd ps ds)(hd:Vals dvs ds)(hx:Passes CX X E)
 (Y:PA X (e::es) t) (O:(x == ("__debug__":Str))=false:=by decide) (U:AA (e::es) X.a=(false,eval e X.a)::AA es X.a:=by rfl) (N:(backTo pos (AA es X.a)).any (·.1)=false:=by rfl) :
 PE X (.Call (.Name x p) (e::es) [] pos) (gx sp dvs E t):=by
 intro pins s σ H Q I h;refine BP (xU I S R ?_ O);refine Dc (h₀:=X.h) I.C.i.a hk (thn (Y pos pins s σ H _ I h) λus s1 ⟨vs,H1,I1,r,q⟩=>⟨I1.kIn,?_⟩) U N;exact iA F P W hd hx I1 r q
def lx(F:tm X.f X.w X.K X.d X.h CX k f fd ps sp)(O:xN k X.A)(R:Gl X x)(P:X.d x=some (.ref f))(hk:B2 X.K (.ref f)=true)(S:Binds X.K fd ps ds)(hd:Vals dvs ds)(hx:Passes CX X E)
 (N:(x == ("__debug__":Str))=false:=by decide):PE X (.Call (.Name x p) [] [] pos) (gx sp dvs E tY):=by
 intro pins s σ H Q I h;refine BP (xU I R P ?_ N);exact PySem.W.callWith_K0 I.kIn hk (iA (us:=[]) F O S hd hx I .nil h)
structure x9(N P:List Str)(sc:Scope):Prop where
 a:sc.kind=.function
 co:sc.isCoroutine=false
 f:sc.isGenerator=false
 b:N.Nodup
 c:N.take P.length=P
 e:∀x∈P,sc.names.lookup x=some .local\/sc.names.lookup x=some .cell
 d:∀y∈sc.names,y.2≠.free
theorem oW{kindOf}:∀{binds} {m},(∀v,(x,v) ∉ binds)->bindL kindOf binds m x=m x
 |[],_,_=>rfl
 |(n,v)::r,m,h=>by
  unfold bindL;rw[oW λw hw=>h w (Ag _ hw)];split
  . have:x≠n:=by rintro rfl;exact h v Ar
    simp[this]
  . rfl
theorem oU{kindOf}:∀{binds} {m},(∀v,(x,v) ∉ binds)->bindC kindOf binds m x=m x
 |[],_,_=>rfl
 |(n,v)::r,m,h=>by
  unfold bindC;rw[oU λw hw=>h w (Ag _ hw)];split
  . rfl
  . have:x≠n:=by rintro rfl;exact h v Ar
    simp[this]
theorem oV{kindOf}:∀{P:List Str} {vs} {i:Nat} {m},P.Nodup->P[i]?=some x->vs[i]?=some v->kindOf x=some .local ->
 bindL kindOf (P.zip vs) m x=some v
 |[],_,_,_,_,h,_,_=>by simp at h
 |_::_,[],_,_,_,_,h,_=>by simp at h
 |p::P,w::vs,0,m,nd,h1,h2,hk=>by
  simp at h1 h2;subst h1;subst h2;show bindL kindOf ((p,w)::P.zip vs) m p=_;unfold bindL;rw[oW λv N=>(B6.mp nd).1 (EI N).1,if_pos hk];simp
 |p::P,w::vs,i+1,m,nd,h1,h2,hk=>by show bindL kindOf ((p,w)::P.zip vs) m x=_;unfold bindL;exact oV (i:=i) (B6.mp nd).2 (by simpa using h1) (by simpa using h2) hk
theorem oS{kindOf}:∀{P:List Str} {vs} {i:Nat} {m},P.Nodup->P[i]?=some x->vs[i]?=some v->kindOf x≠some .local ->
 bindC kindOf (P.zip vs) m x=some v
 |[],_,_,_,_,h,_,_=>by simp at h
 |_::_,[],_,_,_,_,h,_=>by simp at h
 |p::P,w::vs,0,m,nd,h1,h2,hk=>by
  simp at h1 h2;subst h1;subst h2;show bindC kindOf ((p,w)::P.zip vs) m p=_;unfold bindC;rw[oU λv N=>(B6.mp nd).1 (EI N).1,if_neg hk];simp
 |p::P,w::vs,i+1,m,nd,h1,h2,hk=>by show bindC kindOf ((p,w)::P.zip vs) m x=_;unfold bindC;exact oS (i:=i) (B6.mp nd).2 (by simpa using h1) (by simpa using h2) hk
noncomputable def start(N:List Str)(vs:List V):St:=vs.map some++Aj (N.length-vs.length) none
noncomputable def yo(CX:CXT)(P:Program)(w:World)(K:Ab)(mg:Str->Option Value)(base:Heap)(N:List Str)(qual:Str)(scope:Scope)(f:Addr)(cd:Value)(A:Around)(outer:List Env)(s:Shared)(H:Hp)(E:XK):Cx where
 f:=P
 w:=w
 K:=K
 d:=mg
 h:=base
 A:=A.deeper (envOfC qual scope s.heap.objs.size f cd)
 N:=N
 l:=s
 r:=H
 a:=envOfC qual scope s.heap.objs.size f cd
 k:=outer
 g:=envOfC qual scope s.heap.objs.size f cd::outer
 m:=[]
 j:=true
 n:=λ_=>true
 q:=[]
 i:=λe s'=>wpAny (model P w) (A.deeper (envOfC qual scope s.heap.objs.size f cd)) (leaving (envOfC qual scope s.heap.objs.size f cd) e) (λ_ x=>CX outer H s E e x) (λO x=>CX outer H s E O x) s'
def lE{sc:Scope}(h:sc.names.lookup x=some .cell):∃c,(Cy n sc.names []).lookup x=some c:=by have q:=Eg sc.names n [] (.inl h);exact Ci.mp q
def oq{K}
 (S:x9 N ps scope) (hd:A.handled=none) (e0:qU P w K mg base A outer s H) (hl:vs.length=ps.length) (r:Vals vs us)
 (x:InCallC s s.heap.objs.size (bindL (envOfC qual scope s.heap.objs.size f cd).kindOf (ps.zip us) λ_=>none) (Cy (s.heap.objs.size+1) scope.names []) (bindC (envOfC qual scope s.heap.objs.size f cd).kindOf (ps.zip us) λ_=>none) s1) :
 Inv (yo CX P w K mg base N qual scope f cd A outer s H E) [] (start N vs) H s1:=by
 have Y:ps.length<=N.length:=by have:=congrArg Gg S.c;rw[BQ]at this;omega
 obtain⟨h1,tk,rfl,hk⟩:=x.done;have Q:∀b:Addr,b ∉ (yo CX P w K mg base N qual scope f cd A outer s H E).m:=λb z=>absurd (show b∈([]:List Addr) from z) (by simp)
 refine⟨⟨e0.c,S.a,rfl,rfl,Aa _,λy z c h1 O=>?_,λy R=>?_,λy c _ h=>?_,λ_=>hd,EJ e0.a,.inr ⟨rfl,rfl⟩,λb z=>absurd z (Q b),e0.f,e0.h,λb _ _=>Q b,λb z=>absurd z (Q b),e0.j,e0.i⟩,
  rfl,e0.g,Un.kept hk,⟨_,x.toInCall.ns,λi y v h1 O h3=>?_⟩,λy c h=>⟨_,x.cell y c h⟩,e0.d.fresh (Aa _),λy c h=>?_,λp hp=>absurd (show p∈([]:List (Addr × Obj)) from hp) (by simp),e0.d.kept hk,?_⟩
 . exact name_of_addr x.apart (AO h1) (AO O)
 . have R:scope.names.lookup y=some .cell\/scope.names.lookup y=some .free:=R
   rcases R with R|R
   . exact lE R
   . exact absurd rfl (S.d _ (AO R))
 . exact Dm (x.above y c (AO h))
 . have hi:i<vs.length:=by
    unfold start at O;by_cases hi:i<vs.length
    . exact hi
    . rw[BR (by simpa using hi)]at O
      rw[D8]at O;split at O<;>cases O
   have Z:vs[i]?=some v:=by
    unfold start at O;rw[A7 (by simpa using hi),A1]at O
    cases e:vs[i]? with
    |none=>rw[e]at O;cases O
    |some a=>rw[e]at O;cases O;rfl
   obtain⟨u,hu,W⟩:=r.get Z;have hp:ps[i]?=some y:=by rw[<-S.c,FN ⋯];exact h1
   have U:ps.Nodup:=by rw[<-S.c];exact S.b.sublist (Ft _ _)
   refine⟨u,W,?_⟩;rcases S.e y (A5 hp) with k|k
   . exact .inl ⟨k,oV U hp hu k⟩
   . obtain⟨c,e⟩:=lE (n:=s.heap.objs.size+1) k
     refine .inr ⟨.inl k,c,e,?_⟩;have q:=x.cell y c e;rw[oS U hp hu (by show scope.names.lookup y≠_;rw[k];decide)]at q
     exact q
 . exact e0.d.fresh (Dm (x.above y c (AO h)))
 . unfold start
   show _=N.length;rw[An,Ak,CC];omega
def VB{K}{dV kV doc pm cdv ct oc}
    (lk:K.lookup f=some ⟨oc,od,.func (BJ name qual params body scope dV kV doc pm an cdv ct),osl⟩) (hcd:B1 K cdv qual=true) (S:x9 N ps scope)
 (len:∀vs H Q E,sp vs H Q E->vs.length=ps.length)
 (Y:∀A outer s H vs Q E,xN k (A.deeper (envOfC qual scope s.heap.objs.size f cdv))->sp vs H Q E ->
  ∃t,PSs (yo CX P w K mg base N qual scope f cdv A outer s H E) body t/\t {a:=λ_ H'=>Q .g H',b:=Q} (start N vs) H) :
 tm P w K mg base CX (k+1) f (BJ name qual params body scope dV kV doc pm an cdv ct) ps sp:=by
 refine⟨len,λA outer s H args us vs Q E hr e0 hb r hsp=>?_⟩;have hl:=len _ _ _ _ hsp;have KX:K.In s.heap:=e0.c.a.keeps λb o e=>(e0.f b o e).1;have lim:s.heap.NoLimit:=e0.c.b.keeps λb o e=>(e0.f b o e).1;have U:∀y∈ps.zip us,scope.names.lookup y.1=some .local\/(scope.names.lookup y.1=some .cell/\((Cy (s.heap.objs.size+1) scope.names []).lookup y.1).isSome=true):=λ⟨n,v⟩ hy=>by
  rcases S.e n (EI hy).1 with q|q
  . exact .inl q
  . exact .inr ⟨q,Eg _ _ _ (.inl q)⟩
 refine codeAny_call_function hr.depth (KX _ _ lk) rfl S.co S.f rfl (PySem.W.codeRec_of KX hcd) (hb _ _ _ _ ?_);refine Fe S.a U λenv he s1 x=>?_;subst he;refine⟨lim.keeps x.toInCall.keep,codeAny_func ?_⟩;obtain⟨t,ht,hq⟩:=Y A outer s H vs Q E (hr.deeper _) hsp;have I:Inv (yo CX P w K mg base N qual scope f cdv A outer s H E) [] (start N vs) H s1:=oq S hr.a e0 hl r x;refine AF (ht [] s1 (start N vs) H _ I hq) (λfl s' Z=>?_) λe s' Z=>Z;have fin:∀{O:St} {H':Hp} {v:V} {u:Value},Inv (yo CX P w K mg base N qual scope f cdv A outer s H E) [] O H' s'->RelV v u->Q v H'->CE outer P w H s Q u s':=
  λ{O H' v u} J rv q=>⟨v,H',J.R,J.F,J.j,J.B,rv,q⟩
 cases fl with
 |ret u=>
  obtain⟨v,O,H',J,rv,q⟩:=Z;exact fin J rv q
 |next=>
  obtain⟨O,H',J,q⟩:=Z;exact fin (v:=V.g) (u:=Be) J rfl q
 |brk=>
  obtain⟨_,_,_,q⟩:=Z;exact Av q
 |cont=>
  obtain⟨_,_,_,q⟩:=Z;exact Av q
section
variable {X:Cx}{x:Str}{p pos:Pos}{e:Expr}{es:List Expr}{t:TA}{id T:String}{r:List V->Hp->VK->Prop}
def tCB(r:List V->Hp->VK->Prop)(t:TA):TE:=λσ H Q=>t σ H λvs H1=>r vs H1 Q
def sO(Y:yT X (.builtin id) r)(U:Gl X x)(S:X.d x=none)(P:Cg x=some (.builtin id))(Z:PA X (e::es) t)(R:x≠"__name__":=by decide)(O:(x == ("__debug__":Str))=false:=by decide)
 (W:AA (e::es) X.a=(false,eval e X.a)::AA es X.a:=by rfl) (N:(backTo pos (AA es X.a)).any (·.1)=false:=by rfl):PE X (.Call (.Name x p) (e::es) [] pos) (tCB r t):=by
 intro pins s σ H Q I h;refine BP (rJ I U S P ?_ R O);exact PyProof.Rows.callWith_builtin1 (thn (Z pos pins s σ H _ I h) λus s1 ⟨vs,H1,I1,r1,q1⟩=>Y pins s1 σ H1 vs us Q I1 r1 q1) W N
def xK(Y:yT X (.type T) r)(U:Gl X x)(S:X.d x=none)(P:Cg x=some (.type T))(Z:PA X (e::es) t)(R:x≠"__name__":=by decide)(O:(x == ("__debug__":Str))=false:=by decide)
 (W:AA (e::es) X.a=(false,eval e X.a)::AA es X.a:=by rfl) (N:(backTo pos (AA es X.a)).any (·.1)=false:=by rfl):PE X (.Call (.Name x p) (e::es) [] pos) (tCB r t):=by
 intro pins s σ H Q I h;refine BP (rJ I U S P ?_ R O);exact Du (thn (Z pos pins s σ H _ I h) λus s1 ⟨vs,H1,I1,r1,q1⟩=>Y pins s1 σ H1 vs us Q I1 r1 q1) W N
end
end L2
namespace HT
open PySem PyProof.Rows
section
variable {prog:Program}{w:World}{A:Around}{E:Value->Shared->Prop}{s:Shared}
def Ym(ht:IsTup s.heap t vs.toArray)(hb:IsTup s.heap b ws.toArray)(Z:vs≠[])
 (h1:ws=[]->Q (.ref t) s) (h2:ws≠[]->Q (.ref s.heap.objs.size) {s with heap:=s.heap.push {cls:=.type "tuple",data:=.seq (vs++ws).toArray}})
 (U:vs.length+ws.length<=Ap):wpAny (model prog w) A (BD .Add (.ref t) (.ref b)) Q E s:=by
 obtain⟨⟨cls,dd,data,Y⟩,S,hc,n,hd⟩:=id ht;obtain⟨⟨cls2,R,W,N⟩,x,P,n2,O⟩:=id hb;simp only at hc hd P O;subst hc hd P O;have e:vs.toArray++ws.toArray=(vs++ws).toArray:=by simp
 by_cases hw:ws=[]
 . exact concat_meets ⟨_,S,rfl⟩ ⟨_,x,rfl⟩ Eo Ff B8 B4 (BX _ _)
    (tuple_addW1 t b vs.toArray ws.toArray n n2 dd R Y N (by simpa using Z) (by simp[hw])) ⟨S,x,h1 hw⟩
 . refine concat_meets ⟨_,S,rfl⟩ ⟨_,x,rfl⟩ Eo Ff B8 B4 (BX _ _)
    (tuple_addW2 t b vs.toArray ws.toArray n n2 dd R Y N (by simpa using Z) (by simpa using hw) (by rw[Ah,Ah];exact U)) ⟨S,x,?_⟩
   rw[e];exact h2 hw
noncomputable def sIx(n d:Nat):Option Int->Nat
 |none=>d
 |some v=>if v<0 then (v+(n:Int)).toNat else min v.toNat n
def gj(n d k:Nat):sIx n d (some (k:Int))=min k n:=by
 show (if (k:Int)<0 then ((k:Int)+(n:Int)).toNat else min (k:Int).toNat n)=min k n
 rw[if_neg ⋯,Dk]
def SQ n d(hd:d<=n)o:sIx n d o<=n:=by
 cases o with
 |none=>exact hd
 |some v=>
  show (if v<0 then (v+(n:Int)).toNat else min v.toNat n)<=n
  by_cases hv:v<0
  . rw[if_pos hv];omega
  . rw[if_neg hv];exact Ep _ _
def i8 v(n d:Nat):(if v<0 then max (v+(n:Int)) 0 else min v (n:Int))=((sIx n d (some v):Nat):Int):=by
 show (if v<0 then max (v+(n:Int)) 0 else min v (n:Int))=(((if v<0 then (v+(n:Int)).toNat else min v.toNat n):Nat):Int)
 by_cases hv:v<0
 . simp only[if_pos hv];omega
 . simp only[if_neg hv];omega
def kZ lo hi(n:Nat):A8 lo hi 1 (n:Int)=(((sIx n 0 lo:Nat):Int),((sIx n n hi:Nat):Int)):=by
 have h1:¬((1:Int)<0):=by omega
 unfold A8;simp only[h1,if_false];refine FO ?_ ?_
 . cases lo with
   |none=>rfl
   |some v=>exact i8 v n 0
 . cases hi with
   |none=>rfl
   |some v=>exact i8 v n n
def jz(i j:Nat):BE (i:Int) (j:Int) 1=j-i:=by
 unfold BE;have h1:(1:Int) > 0:=by omega
 simp only[h1,if_true,Int.ediv_one];split<;>omega
def wW(p:IsPart v o)(h:Q o s):wpAny (model prog w) A (Builtin.Slice.slicePartIndex v) Q E s:=by
 cases p with
 |none=>exact slicePart_none h
 |int i t=>exact slicePart_int h
def vP{lo hi}{n:Nat}(S:s.heap.IsSliceOf sl vl vu .none)(R:IsPart vl lo)(P:IsPart vu hi)
 (h:Q (((sIx n 0 lo:Nat):Int),1,sIx n n hi-sIx n 0 lo) s):wpAny (model prog w) A (CD (.ref sl) (pure (n:Int))) Q E s:=by
 obtain⟨os,N,U,O⟩:=id S;unfold CD FG;refine dS (dS (B0 N O (x:=vl) rfl (dS (B0 N O (x:=vu) rfl (dS (B0 N O (x:=.none) rfl (Ae ?_)))))));refine dS (slicePart_none ?_);show wpAny _ _ (if ((1:Int) == 0)=true then _ else _) _ _ s
 rw[if_neg (by decide)]
 refine dS (wW R (dS (wW P (dS (Ae ?_)))));show wpAny _ _ (match A8 lo hi 1 (n:Int) with|(lo,hi)=>pure (lo,(1:Int),BE lo hi 1)) _ _ s
 rw[kZ lo hi n];show wpAny _ _ (pure (((sIx n 0 lo:Nat):Int),(1:Int),BE ((sIx n 0 lo:Nat):Int) ((sIx n n hi:Nat):Int) 1)) _ _ s;rw[jz];exact Ae h
def Zd(N:Array Value)(i k:Nat):((AR k).filterMap λ(m:Nat)=>N[((i:Int)+(m:Int)*1).toNat]?).toArray=((N.toList.drop i).take k).toArray:=by
 have e:(λ(m:Nat)=>N[((i:Int)+(m:Int)*1).toNat]?)=λm=>N[i+m]?:=by
  funext m;have:((i:Int)+(m:Int)*1).toNat=i+m:=by omega
  rw[this]
 rw[e];have:=pick_run N i k;rw[Ce]at this;have e2:((λx=>N[x]?)∘λx=>i+x)=λm=>N[i+m]?:=rfl;rw[e2]at this;rw[this]
def sH{lo hi}(N:IsTup s.heap t items)(U:s.heap.IsSliceOf sl vl vu .none)(Y:IsPart vl lo)(W:IsPart vu hi)
 (hw:¬(sIx items.size 0 lo=0/\sIx items.size items.size hi=items.size))
 (h:Q (.ref s.heap.objs.size) {s with heap:=s.heap.push {cls:=.type "tuple",data:=.seq ((items.toList.drop (sIx items.size 0 lo)).take (sIx items.size items.size hi-sIx items.size 0 lo)).toArray}})
 (Z:items.size<=Ap):wpAny (model prog w) A (getItem (.ref t) (.ref sl)) Q E s:=by
 have x:sizeOk (.seq ((items.toList.drop (sIx items.size 0 lo)).take (sIx items.size items.size hi-sIx items.size 0 lo)).toArray):=by show ((items.toList.drop (sIx items.size 0 lo)).take (sIx items.size items.size hi-sIx items.size 0 lo)).toArray.size<=Ap;rw[Ah,BQ,Cp,C6];omega
 have hj:sIx items.size items.size hi<=items.size:=SQ _ _ (Aa _) hi;obtain⟨os,O,R,hds⟩:=id U;have S:s.TypeIs (.ref sl) "slice":=⟨os,O,R⟩;unfold getItem
 try with_reducible refine Bv ?_
 first|refine dS (Ae ?_)|skip
 refine dS (Fu N.typeIs (by decide) ?_)
 refine dS (D9 (name:=EK "__getitem__") N.typeIs A6
  (FP A6 N.typeIs EV ?_ (E4 _ _)))
 show wpAny _ _ (DG (.ref t) >>= _) _ _ s;refine dS (El N ?_);refine dS (DR S ?_);rw[if_pos (by decide)]
 refine dS (vP U Y W ?_);have P:¬((((sIx items.size 0 lo:Nat):Int) == 0&&(1:Int) == 1&&(sIx items.size items.size hi-sIx items.size 0 lo) == items.size)=true):=by intro q;rw[cf,cf]at q;have q1:((sIx items.size 0 lo:Nat):Int)=0:=Cf q.1.1;have q2:sIx items.size items.size hi-sIx items.size 0 lo=items.size:=Cf q.2;exact hw ⟨⋯,⋯⟩
 show wpAny _ _ (if (((sIx items.size 0 lo:Nat):Int) == 0&&(1:Int) == 1&&(sIx items.size items.size hi-sIx items.size 0 lo) == items.size)=true then _ else _) _ _ s
 rw[if_neg P,Zd]
 first
  |exact dS (m:=Bn _) (Bg (Ae ⟨_,rfl,Ae h⟩) x)
  |exact dS (m:=Bn _) (Bg (dS (Ae (Ae ⟨_,rfl,Ae h⟩))) x)
  |exact dS (dS (m:=Bn _) (Bg (Ae (Ae ⟨_,rfl,Ae h⟩)) x))
  |exact dS (dS (m:=Bn _) (Bg (Ae ⟨_,rfl,Ae h⟩) x))
end
end HT
namespace L2
open PySem PySem.Spec PyProof.Rows
abbrev TO:=St->Hp->(Option Int->Hp->Prop)->Prop
def PO(X:Cx)(e:Option Expr)(t:TO):Prop:=
 ∀(pins:List (Addr × Obj)) (s:Shared) (σ:St) (H:Hp) (Q:Option Int->Hp->Prop),Inv X pins σ H s->t σ H Q ->
  wpAny (model X.f X.w) X.A (evalPart e X.a) (λu s'=>∃o H',Inv X pins σ H' s'/\IsPart u o/\Q o H') X.i s
def Wg:TO:=λ_ H Q=>Q none H
def Q8(t:TE):TO:=λσ H Q=>t σ H λx H1=>∃i,x=.d i/\Q (some i) H1
section
variable {X:Cx}{e:Expr}{te:TE}{lo hi:Option Expr}{tl th:TO}{pos p2:Pos}
def WM:PO X none Wg:=by intro pins s σ H Q I h;rw[evalPart_none];exact Ae ⟨none,H,I,.none,h⟩
def WN(h:PE X e te):PO X (some e) (Q8 te):=by intro pins s σ H Q I hw;rw[evalPart_some];refine thn (h pins s σ H _ I hw) λu s1 N=>?_;obtain⟨x,H1,O,r1,q1⟩:=N;obtain⟨i,rfl,q⟩:=q1;obtain⟨t,rfl⟩:=r1;exact⟨some i,H1,O,.int i t,q⟩
def SlR(X:Cx)(r:V->Option Int->Option Int->Hp->VK->Prop):Prop:=
 ∀(pins:List (Addr × Obj)) (s:Shared) (σ:St) (H:Hp) (x:V) (v O N:Value) (lo hi:Option Int) (P:Addr) (Q:VK),Inv X pins σ H s->RelV x v->s.heap.IsSliceOf P O N .none->IsPart O lo->IsPart N hi->r x lo hi H Q ->
  ∃T id,D5 (.type T) "__getitem__"=pure (some (.builtin id))/\s.TypeIs v T/\wpAny (model X.f X.w) X.A (getItem v (.ref P)) (EP X pins σ Q) X.i s
def tSl(r:V->Option Int->Option Int->Hp->VK->Prop)(te:TE)(tl th:TO):TE:=λσ H Q=>te σ H λx H1=>tl σ H1 λl H2=>th σ H2 λu N=>r x l u N Q
def ZZ(Z:SlR X r)(he:PE X e te)(hl:PO X lo tl)(hu:PO X hi th):PE X (.Subscript e (.Slice lo hi none p2) pos) (tSl r te tl th):=by
 intro pins s σ H Q I h;refine Gy (thn (he pins s σ H _ I h) λv s1 R=>?_);obtain⟨x,H1,I1,r1,q1⟩:=R;refine wpAny_Slice (thn (hl pins s1 σ H1 _ I1 q1) λP s2 ⟨l,H2,I2,pl,q2⟩=>thn (hu pins s2 σ H2 _ I2 q2) λO N R=>?_);obtain⟨u,S,I3,W,U⟩:=R;rw[evalPart_none];refine Ae ?_;have I4:Inv X pins σ S {N with heap:=N.heap.push {cls:=.type "slice",data:=.fields #[P,O,.none]}}:=I3.kept (t':=N.toks) λb ob q=>xd _ q
 obtain⟨T,id,hT,Y,hg⟩:=Z pins {N with heap:=N.heap.push {cls:=.type "slice",data:=.fields #[P,O,.none]}} σ S x v P O l u N.heap.objs.size Q I4 r1 (E5 ..) pl W U
 show wpAny (model X.f X.w) X.A (Fg e (.Slice lo hi none p2) v (.ref N.heap.objs.size)) (EP X pins σ Q) X.i {N with heap:=N.heap.push {cls:=.type "slice",data:=.fields #[P,O,.none]}}
 exact tail_any (ops:=[.ref N.heap.objs.size,v]) Y hT hg (by with_unfolding_all rfl)
def oE(x:List V)(lo hi:Option Int):List V:=(x.drop (HT.sIx x.length 0 lo)).take (HT.sIx x.length x.length hi-HT.sIx x.length 0 lo)
def rk xs lo hi:(oE xs lo hi).length<=xs.length:=by unfold oE;rw[BQ,Cp];omega
def Pp(K:Ab):V->Option Int->Option Int->Hp->VK->Prop:=λx lo hi H Q=>∃a N,x=.c a/\SqT K H a N /\
 ¬(HT.sIx N.length 0 lo=0/\HT.sIx N.length N.length hi=N.length)/\∀p,H p=none->Q (.c p) (upd H p (.c (oE N lo hi)))
def pV:SlR X (Pp X.K):=by
 intro pins s σ H x v vl Z lo hi sl Q I S Y W U h;obtain⟨a,O,rfl,hx,hw,q⟩:=h;cases S;obtain⟨P,r,R,hz⟩:=I.tuple hx;have N:P.toArray.size=O.length:=by rw[Ah];exact r.length.symm
 refine⟨"tuple",_,A6.lookup,R.typeIs,?_⟩;refine HT.sH R Y W U (by rw[N];exact hw) ?_ (by rw[N];exact hz)
 rw[N];refine⟨.c s.heap.objs.size,_,I.laid (t':=s.toks) (o:=.c (oE O lo hi)) (λb ob q=>xd _ q) (Aa _) ?_,rfl,q _ (I.B.fresh (Aa _))⟩;exact⟨Az (rk O lo hi) hz,_,(r.drop (HT.sIx O.length 0 lo)).take (HT.sIx O.length O.length hi-HT.sIx O.length 0 lo),tu.new _ _⟩
def Qh(K:Ab):R2:=λx y H Q=>∃a b O N,x=.c a/\y=.c b/\SqT K H a O/\SqT K H b N/\O≠[]/\O.length+N.length<=Ap /\
 (N=[]->Q (.c a) H)/\(N≠[]->∀p,H p=none->Q (.c p) (upd H p (.c (O++N))))
def Vals.wd(r:Vals xs us):us=[]↔xs=[]:=by
 cases r with
 |nil=>simp
 |cons _ _=>simp
def Xz:OpR X (BD .Add) (Qh X.K):=by
 intro pins s σ H x y v u Q I U S h;obtain⟨a,b,R,P,rfl,rfl,ha,Z,hx,hz,q1,W⟩:=h;cases U;cases S;obtain⟨Y,r1,p1,_⟩:=I.tuple ha;obtain⟨O,N,p2,_⟩:=I.tuple Z;refine HT.Ym p1 p2 (λz=>hx (r1.wd.mp z)) (λz=>⟨.c a,H,I,rfl,q1 (N.wd.mp z)⟩) (λz=>?_) (by rw[<-r1.length,<-N.length];exact hz)
 refine⟨.c s.heap.objs.size,_,I.laid (t':=s.toks) (o:=.c (R++P)) (λb ob q=>xd _ q) (Aa _) ?_,rfl,W (λw=>z (N.wd.mpr w)) _ (I.B.fresh (Aa _))⟩;exact⟨by rw[An];exact hz,_,r1.append N,tu.new _ _⟩
end
noncomputable def ixN(n:Nat)(i:Int):Option Nat:=if 0<=i then (if i<n then some i.toNat else none) else if -(n:Int)<=i then some (i+n).toNat else none
def atI{x:Type}(N:List x)(i:Int):Option x:=(ixN N.length i).bind λj=>N[j]?
def gO(h:ixN n i=some j):seqIndex? i n=some j/\j<n∧-(n:Int)<=i/\i<n:=by
 unfold ixN at h;by_cases h0:0<=i
 . rw[if_pos h0]at h
   by_cases h1:i<n
   . rw[if_pos h1]at h
     have e:i.toNat=j:=AX h;exact⟨by rw[seqIndex_of h0 h1,e],⋯,⋯,h1⟩
   . rw[if_neg h1]at h;cases h
 . rw[if_neg h0]at h
   by_cases h1:-(n:Int)<=i
   . rw[if_pos h1]at h
     have e:(i+n).toNat=j:=AX h;exact⟨by rw[seqIndex_neg ⋯ h1,e],⋯,h1,⋯⟩
   . rw[if_neg h1]at h;cases h
def nW(h:atI xs i=some v):∃j,seqIndex? i xs.length=some j/\xs[j]?=some v/\j<xs.length∧-(xs.length:Int)<=i/\i<xs.length:=by
 unfold atI at h;cases e:ixN xs.length i with
 |none=>rw[e]at h;cases h
 |some j=>
  rw[e]at h;obtain⟨h1,O,N,x⟩:=gO e;exact⟨j,h1,h,O,N,x⟩
def qF{xs}{j:Nat}{v:α}(h:xs[j]?=some v):atI xs (j:Int)=some v:=by
 have x:j<xs.length:=(Au.mp h).1;have e:ixN xs.length (j:Int)=some j:=by unfold ixN;rw[if_pos ⋯,if_pos ⋯];simp
 unfold atI;rw[e];exact h
def iw(b:Expr):Prop:=∀o i,subscripted b false o i=operate [o,i] (getItem o i)
def IxR(X:Cx)(r:R2):Prop:=
 ∀(O N:Expr) (pins:List (Addr × Obj)) (s:Shared) (σ:St) (H:Hp) (x y:V) (v u:Value) (Q:VK),Inv X pins σ H s->RelV x v->RelV y u->r x y H Q ->
  subscripted N false v u=operate [v,u] (getItem v u)->wpAny (model X.f X.w) X.A (Fg O N v u) (EP X pins σ Q) X.i s
def MtR(X:Cx)(id:String)(r:V->List V->Hp->VK->Prop):Prop:=
 ∀(pins:List (Addr × Obj)) (s:Shared) (σ:St) (H:Hp) (x:V) (N:List V) (v:Value) (us:List Value) (Q:VK),Inv X pins σ H s->RelV x v->Vals N us->r x N H Q ->
  wpAny (model X.f X.w) X.A (call (.builtin id) (v::us)) (EP X pins σ Q) X.i s
section
variable {X:Cx}{a b:Expr}{ta tb:TE}{pos:Pos}
def IxR.or(h:IxR X r)(h':IxR X r'):IxR X (λx y H Q=>r x y H Q\/r' x y H Q):=by
 intro N O pins s σ H x y v u Q I R P q S;rcases q with q|q
 . exact h N O pins s σ H x y v u Q I R P q S
 . exact h' N O pins s σ H x y v u Q I R P q S
def VT(R:IxR X r)(U:PE X a ta)(S:PE X b tb)(P:iw b):PE X (.Subscript a b pos) (tOp r ta tb):=by intro pins s σ H Q I h;exact Gy (Vu U S I h λv u s2 x y H2 W O N q=>R a b pins s2 σ H2 x y v u Q W O N q (P _ _))
def SK(K:Ab):R2:=λx y H Q=>∃p N i v,x=.c p/\y=.d i/\SqL K H p N/\atI N i=some v/\Q v H
def Qk(K:Ab):R2:=λx y H Q=>∃p N i v,x=.c p/\y=.d i/\SqT K H p N/\atI N i=some v/\Q v H
def Qj:R2:=λx y H Q=>∃z i c,x=.e z/\y=.d i/\z.length<=Ap/\atI z.cps.toList i=some c/\Q (.e ⟨#[c]⟩) H
def gP:IxR X (SK X.K):=by
 intro N O pins s σ H x y v u Q I rx Z h W;obtain⟨p,xs,i,z,rfl,rfl,hq,he,q⟩:=h;cases rx;obtain⟨t,rfl⟩:=Z;obtain⟨S,r,R,hz⟩:=I.list hq;obtain⟨j,h1,h2,h3,h4,h5⟩:=nW he;obtain⟨w,Y,P⟩:=r.get h2;have hl:=r.length;have hn:=tQ;have fin:EP X pins σ Q w s:=⟨z,H,I,P,q⟩;by_cases h0:0<=i
 . have U:i.toNat=j:=by rw[seqIndex_of h0 h5]at h1;exact AX h1
   exact item_listR R.isList h0 ⋯ (by rw[U];simpa using Y) fin W
 . have U:(i+(S.toArray.size:Int)).toNat=j:=by
    rw[seqIndex_neg ⋯ h4]at h1
    rw[Ah,<-hl];exact AX h1
   exact subscriptTail_builtinR (x:=w) R.isList.typeIs Fv.lookup
    (wpAny_getItem_list_neg (Q:=λr s'=>r=w/\EP X pins σ Q r s') R.isList ⋯ (by rw[Ah]<;>omega) ⋯ (by rw[U];simpa using Y) ⟨rfl,fin⟩) W
def UY:IxR X (Qk X.K):=by
 intro N O pins s σ H x y v u Q I U S h Y;obtain⟨p,xs,i,z,rfl,rfl,Z,he,q⟩:=h;cases U;obtain⟨t,rfl⟩:=S;obtain⟨W,r,R,hz⟩:=I.tuple Z;obtain⟨j,h1,h2,h3,h4,h5⟩:=nW he;obtain⟨w,ew,P⟩:=r.get h2;have hl:=r.length;have hn:=tQ;have fin:EP X pins σ Q w s:=⟨z,H,I,P,q⟩;exact subscriptTail_builtinR (x:=w) R.typeIs slot_tuple_getitem.lookup
  (getItem_tuple (j:=j) (Q:=λr s'=>r=w/\EP X pins σ Q r s') R ⋯ ⋯ (by rw[Ah,<-hl];exact h1) (by simpa using ew) ⟨rfl,fin⟩) Y
def UX:IxR X Qj:=by
 intro N O pins s σ H x y v u Q I R P h S;obtain⟨z,i,c,rfl,rfl,hz,W,q⟩:=h;obtain⟨t,rfl⟩:=R;obtain⟨t',rfl⟩:=P;obtain⟨j,h1,h2,h3,Z,Y⟩:=nW W;have U:z.cps.toList.length=z.length:=by simp[Str.length]
 rw[U]at h1 Z Y;have hn:=tQ;exact tail_any (typeIs_str s z t) slot_str_getitem.lookup (getItem_str (c:=c) (by
  have e1:decide (i < -(2 ^ 63:Int))=false:=decide_eq_false ⋯
  have e2:decide (i ≥ 2 ^ 63)=false:=decide_eq_false ⋯
  rw[e1,e2,Bool.or_false]) (by rw[h1];simpa using h2) ⟨.e ⟨#[c]⟩,H,I.tok _,⟨_,rfl⟩,q⟩) S
def rIx(K:Ab):R2:=λx y H Q=>SK K x y H Q\/Qk K x y H Q\/Qj x y H Q
def UW:IxR X (rIx X.K):=gP.or (UY.or UX)
def jd(x:List Value)n j u:FH (·.setIfInBounds j u) {cls:=.type "list",data:=.seq x.toArray n}={cls:=.type "list",data:=.seq (x.set j u).toArray n}:=by simp[FH]
def Inv.lst{pins:List (Addr × Obj)}{σ:St}{H:Hp}{s:Shared}{p:Addr}{N:List V}(I:Inv X pins σ H s)(h:H p=some (.b N)) :
 ∃(x:List Value) (n:Nat),Vals N x/\s.heap.get? p=some {cls:=.type "list",data:=.seq x.toArray n}/\N.length<=Ap:=by
 obtain⟨z,x,n,r,e⟩:=I.B p _ h;exact⟨x,n,r,e,z⟩
def Inv.TL{N its':List Value}(I:Inv X pins σ H s)(h:H p=some (.b xs))
 (O:s.heap.get? p=some {cls:=.type "list",data:=.seq N.toArray n}) (hf:f {cls:=.type "list",data:=.seq N.toArray n}={cls:=.type "list",data:=.seq its'.toArray n'}) (r:Vals ys its') (hz:ys.length<=Ap) t :
 Inv X pins σ (upd H p (.b ys)) {s with heap:=s.heap.update p f,toks:=t}:=by
 have e:(s.heap.update p f).get? p=some {cls:=.type "list",data:=.seq its'.toArray n'}:=by rw[BK f O (by rw[hf]<;>rfl),hf]
 refine I.write (x:=p) (e:=p) (by rw[h];trivial) (.inl rfl) (λb u P q=>(AU _ _ (A9 P)).trans q) ⟨_,e⟩ ?_
 exact⟨hz,its',n',r,e⟩
def VX:V->V->V->Hp->(Hp->Prop)->Prop:=λo i v H Q=>∃p x k j,o=.c p/\i=.d k/\H p=some (.b x)/\ixN x.length k=some j/\Q (upd H p (.b (x.set j v)))
def set_list:S8 X VX:=by
 intro pins s σ H o i v ov iv u Q I Z ri Y h;obtain⟨p,U,k,j,rfl,rfl,hp,hj,q⟩:=h;cases Z;obtain⟨t,rfl⟩:=ri;obtain⟨x,n,r,N,hz⟩:=I.lst hp;obtain⟨h1,h2,R,P⟩:=gO hj;have O:=r.length;have hn:=tQ;have S:Inv X pins σ (upd H p (.b (U.set j v))) {s with heap:=s.heap.update p (FH (·.setIfInBounds j u))}:=
  I.TL hp N (jd x n j u) (r.set Y j) (by rw[BN];exact hz) s.toks
 by_cases h0:0<=k
 . have hk:k.toNat=j:=by rw[seqIndex_of h0 P]at h1;exact AX h1
   exact PySem.W.ki_setAt N h0 ⋯ (by rw[Ah,<-O];exact P) (by rw[hk];exact⟨_,S,q⟩)
 . have hk:(k+(x.toArray.size:Int)).toNat=j:=by
    rw[seqIndex_neg ⋯ R]at h1
    rw[Ah,<-O];exact AX h1
   exact PySem.W.ki_setBack N ⋯ (by rw[Ah,<-O];exact R) ⋯ (by rw[hk];exact⟨_,S,q⟩)
def ma lo hi n:(Bq lo hi none n).1=((HT.sIx n 0 lo:Nat):Int)/\(Bq lo hi none n).2.1=((HT.sIx n n hi:Nat):Int)/\(Bq lo hi none n).2.2=1:=by
 refine⟨?_,?_,rfl⟩
 . cases lo with
   |none=>simp[Bq,HT.sIx]
   |some i=>
    simp only[Bq,HT.sIx,FQ,show (1:Int) > 0 by decide,if_true]
    by_cases h:i<0
    . simp only[h,if_true]<;>omega
    . simp only[h,if_false]<;>omega
 . cases hi with
   |none=>simp[Bq,HT.sIx]
   |some i=>
    simp only[Bq,HT.sIx,FQ,show (1:Int) > 0 by decide,if_true]
    by_cases h:i<0
    . simp only[h,if_true]<;>omega
    . simp only[h,if_false]<;>omega
def oK(x:List Value)lo hi:GN x.toArray lo hi none=((x.drop (HT.sIx x.length 0 lo)).take (HT.sIx x.length x.length hi-HT.sIx x.length 0 lo)).toArray:=by obtain⟨h1,O,N⟩:=ma lo hi x.toArray.size;unfold GN;rw[h1,O,N];simp only[sliceRange_one,pick_run,Ah]<;>rfl
def Po(K:Ab):V->Option Int->Option Int->Hp->VK->Prop:=λx lo hi H Q=>∃a N,x=.c a/\SqL K H a N/\∀p,H p=none->Q (.c p) (upd H p (.b (oE N lo hi)))
def WZ:SlR X (Po X.K):=by
 intro pins s σ H x v vl Z lo hi sl Q I R Y U S h;obtain⟨a,N,rfl,hx,q⟩:=h;cases R;obtain⟨W,r,P,hz⟩:=I.list hx;have O:=r.length;refine⟨"list",_,Fv.lookup,P.isList.typeIs,?_⟩;refine FR P.isList Y U S .none (by simp) ?_ (by rw[Ah]<;>omega)
 rw[oK,<-O];refine⟨.c s.heap.objs.size,_,I.laid (t':=s.toks) (o:=.b (oE N lo hi)) (λb ob q=>xd _ q) (Aa _) ?_,rfl,q _ (I.B.fresh (Aa _))⟩;exact⟨Az (rk N lo hi) hz,_,0,(r.drop (HT.sIx N.length 0 lo)).take (HT.sIx N.length N.length hi-HT.sIx N.length 0 lo),AD _ rfl⟩
noncomputable def wb:V->Bool
 |.g=>true
 |.f _=>true
 |.d _=>true
 |.e _=>true
 |_=>false
noncomputable def eqV:V->V->Bool
 |.g,.g=>true
 |.f a,.f b=>a == b
 |.f a,.d b=>(if a then 1 else 0) == b
 |.d a,.f b=>a == (if b then 1 else 0)
 |.d a,.d b=>a == b
 |.e a,.e b=>a == b
 |_,_=>false
def UD(O:RelV y u)(N:RelV x v)(Q:wb y=true)(P:wb x=true):Bj A s u v (eqV y x):=by
 cases y with
 |g=>
  cases O;cases x with
  |g=>cases N;exact Bj.same _
  |f b=>cases N;exact Bj.none_bool b
  |d b=>obtain⟨t,rfl⟩:=N;exact Bj.none_int b t
  |e b=>obtain⟨t,rfl⟩:=N;exact Bj.none_str b t
  |_=>exact absurd (show false=true from P) Ac
 |f a=>
  cases O;cases x with
  |g=>cases N;exact Bj.bool_none a
  |f b=>cases N;exact Bj.bool_bool a b
  |d b=>obtain⟨t,rfl⟩:=N;exact Bj.bool_int a b t
  |e b=>obtain⟨t,rfl⟩:=N;exact Bj.bool_str a b t
  |_=>exact absurd (show false=true from P) Ac
 |d a=>
  obtain⟨t',rfl⟩:=O;cases x with
  |g=>cases N;exact Bj.int_none a t'
  |f b=>cases N;exact Bj.int_bool a t' b
  |d b=>obtain⟨t,rfl⟩:=N;exact Bj.int_int a t' b t
  |e b=>obtain⟨t,rfl⟩:=N;exact Bj.int_str a t' b t
  |_=>exact absurd (show false=true from P) Ac
 |e a=>
  obtain⟨t',rfl⟩:=O;cases x with
  |g=>cases N;exact Bj.str_none a t'
  |f b=>cases N;exact Bj.str_bool a t' b
  |d b=>obtain⟨t,rfl⟩:=N;exact Bj.str_int a t' b t
  |e b=>obtain⟨t,rfl⟩:=N;exact Bj.str_str a t' b t
  |_=>exact absurd (show false=true from P) Ac
 |_=>exact absurd (show false=true from Q) Ac
def eqU(x:V)(u:Value):Bool:=match u with
 |.none=>eqV .g x
 |.bool b=>eqV (.f b) x
 |.int i _=>eqV (.d i) x
 |.str z _=>eqV (.e z) x
 |_=>false
def ku(r:RelV y u)(f:wb y=true):eqU x u=eqV y x:=by
 cases y with
 |g=>cases r;rfl
 |f b=>cases r;rfl
 |d i=>obtain⟨t,rfl⟩:=r;rfl
 |e z=>obtain⟨t,rfl⟩:=r;rfl
 |_=>exact absurd (show false=true from f) Ac
theorem sJ(N:RelV x v)(O:wb x=true):∀{xs} {us},Vals xs us->xs.all wb=true->∀u∈us,Bj A s u v (eqU x u)
 |_,_,.nil,_=>λu hu=>by cases hu
 |y::xs,u::us,.cons r t,f=>λP hu=>by
  rw[CG,cf]at f;rcases Ao.mp hu with rfl|hu
  . rw[ku r f.1];exact UD r N f.1 O
  . exact sJ N O t f.2 P hu
def nZ:yT X (.builtin "len") (λU H Q=>∃p N,U=[.c p]/\(SqL X.K H p N\/SqT X.K H p N)/\Q (.d N.length) H):=by
 intro pins s σ H U us Q I r h;obtain⟨p,N,rfl,O,q⟩:=h;obtain⟨u,rfl,W⟩:=vals1 r;cases W;have Y:=tQ;rcases O with O|O
 . obtain⟨S,P,R,hz⟩:=I.list O
   have x:=P.length;exact Calls.call_len_list R.isList (by simp only[Ah]<;>omega) ⟨.d N.length,H,I.tok _,⟨s.toks+1,by rw[Ah,x]⟩,q⟩
 . obtain⟨S,P,R,hz⟩:=I.tuple O
   have x:=P.length;exact len_tuple R (by simp only[Ah]<;>omega) ⟨.d N.length,H,I.tok _,⟨s.toks+1,by rw[Ah,x]⟩,q⟩
def nh:yT X (.builtin "len") (λx H Q=>∃z,x=[.e z]/\z.length<=Ap/\Q (.d z.length) H):=by intro pins s σ H x us Q I r h;obtain⟨z,rfl,hz,q⟩:=h;obtain⟨u,rfl,t,rfl⟩:=vals1 r;have N:=tQ;exact len_str ⋯ ⟨.d z.length,H,I.tok _,⟨_,rfl⟩,q⟩
def ni:yT X (.type "list") (λxs H Q=>∃p N,xs=[.c p]/\(SqL X.K H p N\/SqT X.K H p N)/\∀l,H l=none->Q (.c l) (upd H l (.b N))):=by
 intro pins s σ H xs us Q I r h;obtain⟨p,N,rfl,S,q⟩:=h;obtain⟨u,rfl,rx⟩:=vals1 r;cases rx;have fin:∀(x:List Value),Vals N x->N.length<=Ap->∀(h':Heap) (P:Nat),(∀b o',s.heap.get? b=some o'->h'.get? b=some o') ->
  h'.get? s.heap.objs.size=some {cls:=.type "list",dict:=none,data:=.seq x.toArray P,slots:=#[]}->EP X pins σ Q (.ref s.heap.objs.size) {s with heap:=h'}:=λx O hz h' P R e=>
  ⟨.c s.heap.objs.size,_,I.laid (t':=s.toks) R (Aa _) (show z6 X.f X.w _ h' _ (.b N) from ⟨hz,x,P,O,e⟩),rfl,q _ (I.B.fresh (Aa _))⟩
 rcases S with S|S
 . obtain⟨x,O,W,hz⟩:=I.list S
   have U:=O.length;obtain⟨o,Y,Z,n,hd⟩:=W.isList;exact call_list_seq p (.inl rfl) Y Z hd (λh' P R e=>fin x O hz h' P R e) (by simp only[Ah]<;>omega)
 . obtain⟨x,O,W,hz⟩:=I.tuple S
   have U:=O.length;obtain⟨o,Y,Z,n,hd⟩:=W;exact call_list_seq p (.inr rfl) Y Z hd (λh' P R e=>fin x O hz h' P R e) (by simp only[Ah]<;>omega)
def uz:yT X (.type "tuple") (λS H Q=>∃p N,S=[.c p]/\((SqL X.K H p N/\∀l,H l=none->Q (.c l) (upd H l (.c N)))\/(SqT X.K H p N/\Q (.c p) H))):=by
 intro pins s σ H S us Q I r h;obtain⟨p,N,rfl,h⟩:=h;obtain⟨u,rfl,Y⟩:=vals1 r;cases Y;rcases h with⟨R,q⟩|⟨R,q⟩
 . obtain⟨x,O,P,hz⟩:=I.list R
   have U:=O.length;refine call_tuple_list P.isList (λh' Z=>?_) (by simp only[Ah]<;>omega)
   have W:Inv X pins σ H {s with heap:=h'}:=I.kept (t':=s.toks) Z
   have I2:Inv X pins σ (upd H h'.objs.size (.c N)) {s with heap:=h'.push {cls:=.type "tuple",data:=.seq x.toArray}}:=
    W.laid (t':=s.toks) (λb o e=>xd _ e) (Aa _) (show z6 X.f X.w _ _ _ (.c N) from ⟨hz,x,O,tu.new _ _⟩)
   exact⟨.c h'.objs.size,_,I2,rfl,q _ (W.B.fresh (Aa _))⟩
 . obtain⟨x,O,P,hz⟩:=I.tuple R
   exact call_tuple_same P ⟨.c p,H,I,rfl,q⟩
def tyV(K:Ab)(T:String)(x:V)(H:Hp):Prop:=match x with
 |.e _=>T="str"
 |.d _=>T="int"
 |.c p=>(T="list"/\∃O,SqL K H p O)\/(T="tuple"/\∃o,K.lookup p=some o/\o.cls=.type "tuple"/\o.dict=none) \/
  (T="dict"/\((∃N,H p=some (.i N))\/∃N,H p=some (.k N)))\/(T="set"/\∃S n,H p=some (.p S n))
 |_=>False
def Ss(I:Inv X pins σ H s)(r:RelV x v)(N:tyV X.K T x H) :
 s.TypeIs v T/\∀a,v=.ref a->∃ob,s.heap.get? a=some ob/\ob.dict=none:=by
 cases x with
 |e z=>
  obtain⟨t,rfl⟩:=r;cases (show T="str" from N);exact⟨typeIs_str s z t,λ_ e=>nomatch e⟩
 |d i=>
  obtain⟨t,rfl⟩:=r;cases (show T="int" from N);exact⟨Dd s i t,λ_ e=>nomatch e⟩
 |c p=>
  cases r;rcases N with⟨rfl,W,R⟩|⟨rfl,o,hk,U,hd⟩|⟨rfl,hk⟩|⟨rfl,S,n,hk⟩
  . obtain⟨Q,_,P,_⟩:=I.list R
    refine⟨P.isList.typeIs,λa e=>?_⟩;cases e;obtain⟨o,n,e,c,hd,_⟩:=P;exact⟨o,e,hd⟩
  . refine⟨⟨o,I.kIn p o hk,U⟩,λa e=>?_⟩
    cases e;exact⟨o,I.kIn _ o hk,hd⟩
  . have z:∃o,s.heap.get? p=some o/\o.ExactDict:=by
     rcases hk with⟨O,hk⟩|⟨O,hk⟩
     . obtain⟨_,_,_,_,o,_,_,e,ex,_⟩:=I.B p _ hk
       exact⟨o,e,ex⟩
     . obtain⟨_,_,_,_,o,_,_,e,ex,_⟩:=I.B p _ hk
       exact⟨o,e,ex⟩
    obtain⟨o,e,ex⟩:=z;refine⟨⟨o,e,ex.1⟩,λa e2=>?_⟩;cases e2;exact⟨o,e,ex.2.1⟩
  . obtain⟨o,_,_,_,e,ex,_⟩:=I.B p _ hk
    refine⟨⟨o,e,ex.1⟩,λa e2=>?_⟩;cases e2;exact⟨o,e,ex.2.1⟩
 |_=>exact Av N
def tBM(K:Ab)(T:String)(r:V->List V->Hp->VK->Prop)(to:TE)(t:TA):TE:=λσ H Q=>to σ H λx H1=>tyV K T x H1/\t σ H1 λN H2=>r x N H2 Q
variable {o e:Expr}{es:List Expr}{to:TE}{t:TA}{name:Str}{apos cpos:Pos}{T id:String}{r:V->List V->Hp->VK->Prop}
def ZM(Z:PlainAttrs T)(P:Slot T name id)(S:typeOf (.builtin id)=pure (.type "method_descriptor"))(hm:MtR X id r)(ho:PE X o to)(ha:PA X (e::es) t)
 (O:BZ o name X.a (eval o X.a)=eval o X.a:=by rfl)
 (R:((backTo cpos (AA (e::es) X.a)).all (λx=>!x.1)&&(Gz cpos (E1 [] X.a)).all (λx=>x.1.isSome)
  && decide ((e::es).length+([]:List Keyword).length+(if ([]:List Keyword).isEmpty then 0 else 1)<30))=true:=by rfl)
 (hline:(apos.endLine == cpos.line)=true:=by rfl) (hs:AA (e::es) X.a=(false,eval e X.a)::AA es X.a:=by rfl) (N:(backTo cpos (AA es X.a)).any (·.1)=false:=by rfl) :
 PE X (.Call (.Attribute o name apos) (e::es) [] cpos) (tBM X.K T r to t):=by
 intro pins s σ H Q I h;refine wpAny_Call_method_late O R hline rfl (thn (ho pins s σ H _ I h) λv s1 W=>?_);obtain⟨x,H1,U,r1,Y,q1⟩:=W;obtain⟨h1,h2⟩:=Ss U r1 Y;refine⟨T,id,Z,P,S,h1,h2,?_⟩;have hA:=ha cpos pins s1 σ H1 _ U q1;rw[hs]at hA ⊢;refine Eh (by show (false||(backTo cpos (AA es X.a)).any (·.1))=false;rw[N]<;>rfl) (CO ?_)
 exact thn hA λus s2 ⟨vs,H2,I2,r2,q2⟩=>hm pins s2 σ H2 x vs v us Q I2 r1 r2 q2
/- xs.append(e),list.index on a module's tuple .. are MtR facts of 06m -/
end
def MtM(X:Cx)(id:String)(r:V->List V->Hp->VK->Prop):Prop:=
 ∀(pins:List (Addr × Obj)) (s:Shared) (σ:St) (H:Hp) (x:V) (N:List V) (v:Value) (us:List Value) (Q:VK),Inv X pins σ H s->RelV x v->Vals N us->r x N H Q ->
  wpAny (model X.f X.w) X.A (call (.builtin id) (v::us)) (EP X pins σ Q) X.i s
def Vals.one:∀{x} {us},Vals [x] us->∃u,us=[u]/\RelV x u
 |_,_,.cons r .nil=>⟨_,rfl,r⟩
theorem Vals.rep(h:Vals xs us):∀k:Nat,Vals (Aj k xs).flatten (Aj k us).flatten
 |0=>.nil
 |k+1=>by rw[BF,BF,CI,CI];exact Vals.append h (Vals.rep h k)
theorem foldl_rep its:∀k (acc:List Value),
 D6 (λN x=>N++x) acc.toArray (Aj k its.toArray)=(acc++(Aj k its).flatten).toArray
 |0,acc=>by simp
 |k+1,acc=>by
  have e:acc.toArray++its.toArray=(acc++its).toArray:=by simp
  have e2:(acc++its)++(Aj k its).flatten=acc++(Aj (k+1) its).flatten:=by rw[BF,CI,Br]
  rw[<-e2,<-foldl_rep its k (acc++its),<-e,BF,List.foldl_cons]
def Inv.Pa{N its':List Value}(I:Inv X pins σ H s)(Q:H l=some (.b xs))
 (e:s.heap.get? l=some {cls:=.type "list",data:=.seq N.toArray n}) (hf:f N.toArray=its'.toArray) (O:Vals ys its') (hz:ys.length<=Ap) :
 Inv X pins σ (upd H l (.b ys)) {s with heap:=s.heap.update l (FH f),toks:=t'}:=by
 have q:=PySem.IsL.update e f;rw[hf]at q;refine I.write (x:=l) (e:=l) (by rw[Q];exact trivial) (.inl rfl) (λR u P hu=>(AU s.heap (FH f) (A9 P)).trans hu) ⟨_,q⟩ ?_
 exact⟨hz,its',_,O,q⟩
def Inv.Ru(I:Inv X pins σ H s)(x:Vals ys its)(hz:ys.length<=Ap) :
 Inv X pins σ (upd H s.heap.objs.size (.b ys)) {s with heap:=s.heap.push {cls:=.type "list",data:=.seq its.toArray},toks:=t'}:=
 I.laid (λ_ _ q=>xd _ q) (Aa _) ⟨hz,its,0,x,AD _ rfl⟩
theorem Inv.fresh(I:Inv X pins σ H s):H s.heap.objs.size=none:=I.B.fresh (Aa _)
def Inv.Xp(I:Inv X pins σ H s)(N:H l=some (.b xs)):xs.length<=Ap/\∃x n,Vals xs x/\xs.length=x.length/\s.heap.get? l=some {cls:=.type "list",data:=.seq x.toArray n}:=by obtain⟨z,x,n,r,e⟩:=I.B l _ N;exact⟨z,x,n,r,r.length,e⟩
def ao(h:n<=Ap):DS n=false:=by unfold DS;exact decide_eq_false ⋯
section
variable {X:Cx}
def gg:V->List V->Hp->VK->Prop:=λx vs H Q=>∃l N y,x=.c l/\vs=[y]/\H l=some (.b N)/\N.length<Ap/\Q .g (upd H l (.b (N++[y])))
def ou:MtM X "list.append" gg:=by
 intro pins s σ H x vs v us Q I P R h;obtain⟨l,U,y,rfl,rfl,O,hz,q⟩:=h;cases P;obtain⟨u,rfl,S⟩:=R.one;obtain⟨z,N,n,r,W,e⟩:=I.Xp O;refine BV F.slot_list_append ⟨_,e,rfl⟩ F.entry_list_append (F.args_list_append_2 _ _) (PySem.list_append l N.toArray n u (by rw[Ah];omega)) ⟨e,?_⟩
 refine⟨.g,_,I.Pa (its':=N++[u]) O e (by simp) (r.append (.cons S .nil)) ?_,rfl,q⟩
 rw[An,BL];omega
def WQ:R2:=λx y H Q=>∃l b N zs,x=.c l/\y=.c b/\H l=some (.b N)/\H b=some (.b zs)/\N.length+zs.length<=Ap/\∀p,H p=none->Q (.c p) (upd H p (.b (N++zs)))
def jr:OpR X (BD .Add) WQ:=by
 intro pins s σ H x y v u Q I S R h;obtain⟨l,b,xs,zs,rfl,rfl,Y,hB,hz,q⟩:=h;cases S;cases R;obtain⟨z,O,n,r,hl,e⟩:=I.Xp Y;obtain⟨z2,N,n2,U,W,e2⟩:=I.Xp hB;refine PySem.P.add_list e e2 ?_ (by rw[Ah,Ah];omega)
 have Z:O.toArray++N.toArray=(O++N).toArray:=by simp
 rw[Z];exact⟨.c _,_,I.Ru (t':=s.toks) (r.append U) (by rw[An];omega),rfl,q _ I.fresh⟩
def Pl:R2:=λx y H Q=>∃l k N,x=.c l/\y=.d k/\H l=some (.b N)∧-(2 ^ 63)<=k/\k<2 ^ 63/\N.length*k.toNat<=Ap /\
 ∀p,H p=none->Q (.c p) (upd H p (.b (Aj k.toNat N).flatten))
def len_rep{N:Type}(x:List N)k:(Aj k x).flatten.length=k*x.length:=by
 induction k with
 |zero=>simp
 |succ k O=>rw[BF,CI,An,O,Nat.succ_mul,Nat.add_comm]
def Ta:OpR X (BD .Mult) Pl:=by
 intro pins s σ H x y v u Q I rx ry h;obtain⟨l,k,xs,rfl,rfl,hH,h1,h2,hz,q⟩:=h;cases rx;obtain⟨t,rfl⟩:=ry;obtain⟨z,N,n,r,hl,e⟩:=I.Xp hH;have R:N.toArray.size*k.toNat<=Ap:=by rw[Ah,<-hl];exact hz
 have W:¬N.toArray.size*k.toNat > (2 ^ 63-1)/8:=by
  have:(Ap:Nat)<=(2 ^ 63-1)/8:=by decide
  omega
 have S:¬(!Builtin.List.listFitsIndex k)=true:=by rw[fitsIndex_both h1 h2];exact Ac
 have O:¬DS (N.toArray.size*k.toNat)=true:=by rw[ao R];exact Ac
 have P:D6 (λZ Y=>Z++Y) #[] (Aj (if N.toArray.isEmpty=true then 0 else k.toNat) N.toArray)=(Aj k.toNat N).flatten.toArray:=by
  have f0:∀m:Nat,D6 (λZ Y=>Z++Y) #[] (Aj m N.toArray)=(Aj m N).flatten.toArray:=λm=>by have:=foldl_rep N m [];rw[De]at this;exact this
  rw[f0];cases N with
  |nil=>simp
  |cons a r'=>rw[if_neg (by simp)]
 refine CP (T:="list") (U:="int") (by decide) ⟨_,e,rfl⟩ (λs'=>Dd s' k t) noFill_list_mul EL Cj repeat_list Er.lookup
  (BV Cj (Dd s k t) Es (Ee _ _) (int___rmul___int_list k t l N.toArray n)
   ⟨e,rfl,⟨_,e,rfl⟩,BV F.slot_list_mul ⟨_,e,rfl⟩ F.entry_list_mul (F.args_list_mul_2 _ _) (AutoListH.list___mul___list_int_3 l N.toArray n k t S W O) ⟨e,?_⟩⟩)
 rw[P];exact⟨.c _,_,I.Ru (t':=s.toks) (r.rep k.toNat) (by rw[len_rep,DT];exact hz),rfl,q _ I.fresh⟩
end
end L2
namespace Att
open PySem PySem.W PySem.Calls PyProof.Rows
def qA:∀ns vs,WellAll P h vs (ns.map WData.int)->IntsAre vs ns:=by
 intro ns;induction ns with
 |nil=>
  intro vs w;rw[List.map_nil]at w;cases w;exact .nil
 |cons n ns x=>
  intro vs w;rw[AZ]at w;cases w with
  |cons a b=>
   cases a;exact .cons _ _ (x _ b)
def dM{l:OpenLaw}(hn:l.most=some n)
 (x:l.row.toRowW.claim.pre args=true) (S:WellAll P h vals args) :
 ∃a vs ns,vals=[AH a]/\args=[WData.list (ns.map WData.int)]/\h.get? a=some {cls:=.type "list",data:=.seq vs.toArray}/\IntsAre vs ns/\ns.length<=n:=by
 have hsh:WShape.hasAll [] args [.list .int]=true:=(pre_splitW x).1;have U:l.pre.holds [] {args:=args}=true:=(pre_splitW x).2;obtain⟨d,r,rfl,h1,h2⟩:=hasAllW_cons hsh;obtain rfl:=hasAllW_nil h2;obtain⟨xs,rfl,h3⟩:=hasW_list h1;obtain⟨ns,rfl⟩:=items_int h3;have N:ns.length<=n:=by
  unfold OpenLaw.pre at U;have R:(WTm.not (.lt (.lit (.int (n:Int))) (.len (.arg 0)))).holds [] {args:=[.list (ns.map .int)]}=true:=by have R:=(holds_andW U).1;rw[hn]at R;exact R
  have Q:=condW_of R (w_not (w_lt w_lit (w_len_list (w_arg rfl))));rw[Ak]at Q;refine Nat.le_of_not_lt λq=>?_;have Z:(n:Int)<((ns.length:Nat):Int):=by omega
  first
   |(rw[decide_eq_true Z]at Q;exact absurd Q (by decide))
   |(simp at Q;omega)
 cases S with
 |cons Y W=>
  cases W;cases Y with
  |list ho O=>exact⟨_,_,ns,rfl,rfl,ho,qA ns _ O,N⟩
def dD(l:OpenLaw)args:l.row.toRowW.claim.post args (.bool true) args=true:=
 postW_of (r:=l.row.toRowW) (X:=(true == true))
  (show WShape.has [] (.bool true) .bool=true by first|rfl|decide|simp[WShape.has,WShape.arms,WShape.armsAll])
  (show (WTm.eq .res (.lit (.bool true))).value [] {args:=args,res:=some (.bool true),after:=args}=some (.bool (true == true)) from w_eq_bool (w_res rfl) w_lit) rfl
def lA{l:OpenLaw}
 (hn:l.most=some n) (hdf:d.params.defaults=[])
 (call:∀w N x mg S fa o pm cd doc a vs ns,
  Ground q loose [] XP w N mg S x.heap->YP w x.heap ->
  x.heap.get? fa=some o->o.data=.func (docDef d.name d.params d.body d.scope pm cd doc)->x.heap.CodeRec cd d.name->mg d.name=some (.ref fa) ->
  x.heap.get? a=some {cls:=.type "list",data:=.seq vs.toArray}->IntsAre vs ns->ns.length<=n->x.gens=#[] ->
  codeAny (model l.prog w) callerA (.call (.ref fa) ⟨[.ref a],[]⟩) (λr s'=>r=.ok (.ret (.bool true))/\OldK x.heap s'.heap/\s'.os=x.os/\AllBare s'.gens) x) :
 WalkO q loose XP YP l.row.toRowW d [] (λf vs=>PySem.call f vs):=by
 intro w N x mg S G Y fa o pm cd doc dV kV ho hd Z hD W hg args vals as P hlay hrd U hlo;obtain rfl:dV=.none:=Dflts.none hD hdf;obtain rfl:kV=.none:=Dflts.noKw hD;obtain⟨a,vs,ns,rfl,rfl,Q,O,R⟩:=dM hn P U;refine enter_call (CY (call w N x mg S fa o pm cd doc a vs ns G Y ho (fd_plain hd) Z W Q O R hg) λr s' hq=>?_);obtain⟨rfl,h2,h3,h4⟩:=hq;exact⟨.inl ⟨.bool true,.bool true,[],rfl,λ_=>rfl,.bool true,dD l _,λ_=>⟨Fw,λ_ hm=>(nomatch hm)⟩⟩,h2,h3,h4⟩
end Att
namespace L2
open PySem PySem.Spec PyProof.Rows
theorem nO:∀{vs} {ns},IntsAre vs ns->Vals (ns.map V.d) vs
 |_,_,.nil=>.nil
 |_,_,.cons n t h=>.cons ⟨t,rfl⟩ (nO h)
end L2
/- THE LAST THEOREM (shape;LID,My.* are yours):
   My.Adr: a structure of the addresses that your layer names (classes,functions);My.Txt K t: a structure (Prop) of the equations over K;
   My.txt_mk:{K} {implicit addresses ..} (e1:nsIn K AM "law"=some (some (.ref f))) (e2:K.lookup f=some ⟨oc,od,.func (fnOf "law" "law" params body scope dV kV doc pm an cdv ct),sl⟩) (e3:codeIn K cdv "law"=true) ..:∃t,My.Txt K t
(the tactic k_is has no namespace: write k_is) -/
namespace L2
open PySem PySem.Spec PyProof.Rows
noncomputable def xP(s:Stmt):Eu:=match s with
 |.FunctionDef _ a _ _ _ _ _ _ _ _=>a
 |_=>{posonlyargs:=[],args:=[],vararg:=none,kwonlyargs:=[],kw_defaults:=[],kwarg:=none,defaults:=[]}
noncomputable def z9(s:Stmt):List Stmt:=match s with
 |.FunctionDef _ _ b _ _ _ _ _ _ _=>b
 |_=>[]
noncomputable def zD(s:Stmt):Scope:=match s with
 |.FunctionDef _ _ _ _ _ _ sc _ _ _=>sc
 |_=>{kind:=.function,names:=[],isGenerator:=false,isCoroutine:=false}
abbrev CX0:CXT:=λ_ _ _ _ _ _=>False
abbrev E0:XK:=λ_ _ _=>False
def VS:Passes CX0 X E0:=λ_ _ _ _ _ _ _ h=>h.elim
structure Fun(K:Ab)(x qual:Str)(st:Stmt)(f:Addr)(fd:BA):Prop where
 a:∃(oc:Value) (od:Option Addr) (kV doc pm:Value) (an:Option Addr) (cdv ct:Value) (osl:Array (Option Value)),
  fd=BJ x qual (xP st) (z9 st) (zD st) .none kV doc pm an cdv ct/\K.lookup f=some ⟨oc,od,.func fd,osl⟩/\B1 K cdv qual=true
 b:B2 K (.ref f)=true
def Fun.binds{K:Ab}{st}{ps:List Str}(F:Fun K x qual st f fd)
 (h:∀kV doc pm an cdv ct (us:List Value),us.length=ps.length->Gx (BJ x qual (xP st) (z9 st) (zD st) .none kV doc pm an cdv ct) ⟨us,[]⟩=pure (ps.zip us)):Binds K fd ps []:=by
 obtain⟨oc,od,kV,doc,pm,an,cdv,ct,osl,rfl,O,N⟩:=F.a;exact .all (h kV doc pm an cdv ct)
def bW{K:Ab}{st}{kV doc pm cdv ct}(l:K.lookup f=some ⟨oc,od,.func (BJ x qual (xP st) (z9 st) (zD st) .none kV doc pm an cdv ct),osl⟩)
 (c:B1 K cdv qual=true) (k:B2 K (.ref f)=true):Fun K x qual st f (BJ x qual (xP st) (z9 st) (zD st) .none kV doc pm an cdv ct):=⟨⟨oc,od,kV,doc,pm,an,cdv,ct,osl,rfl,l,c⟩,k⟩
def tM{A B:Prop}(h:B):if false=true then A else B:=by rw[if_neg Ac];exact h
def rF{A B:Prop}(h:A):if true=true then A else B:=by rw[if_pos rfl];exact h
def wC(H H':Hp):Prop:=∀b o,H b=some o->H' b=some o
def wC.refl H:wC H H:=λ_ _ h=>h
def wC.trans(a:wC H H1)(b:wC H1 H2):wC H H2:=λc o h=>b c o (a c o h)
end L2
end
section
namespace M
open PySem
noncomputable def el(a n:Nat)(f:a=n->Bool):Bool:=if h:a=n then f h else false
def zx(h:el a n f=true):∃x,f x=true:=by
 unfold el at h;by_cases x:a=n
 . rw[dif_pos x]at h;exact⟨x,h⟩
 . rw[dif_neg x]at h;cases h
def W9(e:Expr)(k:BoolOp->List Expr->Pos->Bool):Bool:=el e.ctorIdx 0 λh=>Expr.BoolOp.elim (motive_1:=λ_=>Bool) e h k
def fV(h:W9 e k=true):∃o x p,e=.BoolOp o x p/\k o x p=true:=by obtain⟨N,h⟩:=zx h;obtain⟨o,x,p,rfl⟩:∃o x p,e=.BoolOp o x p:=Expr.BoolOp.elim (motive_1:=λe=>∃o x p,e=Expr.BoolOp o x p) e N λo x p=>⟨o,x,p,rfl⟩;exact⟨o,x,p,rfl,h⟩
def RK(e:Expr)(k:Expr->Operator->Expr->Pos->Bool):Bool:=el e.ctorIdx 2 λh=>Expr.BinOp.elim (motive_1:=λ_=>Bool) e h k
def lH(h:RK e k=true):∃l o r p,e=.BinOp l o r p/\k l o r p=true:=by obtain⟨x,h⟩:=zx h;obtain⟨l,o,r,p,rfl⟩:∃l o r p,e=.BinOp l o r p:=Expr.BinOp.elim (motive_1:=λe=>∃l o r p,e=Expr.BinOp l o r p) e x λl o r p=>⟨l,o,r,p,rfl⟩;exact⟨l,o,r,p,rfl,h⟩
def eUn(e:Expr)(k:UnaryOp->Expr->Pos->Bool):Bool:=el e.ctorIdx 3 λh=>Expr.UnaryOp.elim (motive_1:=λ_=>Bool) e h k
def Y7(h:eUn e k=true):∃o x p,e=.UnaryOp o x p/\k o x p=true:=by obtain⟨N,h⟩:=zx h;obtain⟨o,x,p,rfl⟩:∃o x p,e=.UnaryOp o x p:=Expr.UnaryOp.elim (motive_1:=λe=>∃o x p,e=Expr.UnaryOp o x p) e N λo x p=>⟨o,x,p,rfl⟩;exact⟨o,x,p,rfl,h⟩
def UA(e:Expr)(k:Eu->Expr->Scope->Pos->Bool):Bool:=el e.ctorIdx 4 λh=>Expr.Lambda.elim (motive_1:=λ_=>Bool) e h k
def lK(h:UA e k=true):∃a b c p,e=.Lambda a b c p/\k a b c p=true:=by obtain⟨x,h⟩:=zx h;obtain⟨a,b,c,p,rfl⟩:∃a b c p,e=.Lambda a b c p:=Expr.Lambda.elim (motive_1:=λe=>∃a b c p,e=Expr.Lambda a b c p) e x λa b c p=>⟨a,b,c,p,rfl⟩;exact⟨a,b,c,p,rfl,h⟩
def RL(e:Expr)(k:List (Option Expr)->List Expr->Pos->Bool):Bool:=el e.ctorIdx 6 λh=>Expr.Dict.elim (motive_1:=λ_=>Bool) e h k
def bG(h:RL e k=true):∃x vs p,e=.Dict x vs p/\k x vs p=true:=by obtain⟨N,h⟩:=zx h;obtain⟨x,vs,p,rfl⟩:∃x vs p,e=.Dict x vs p:=Expr.Dict.elim (motive_1:=λe=>∃x vs p,e=Expr.Dict x vs p) e N λx vs p=>⟨x,vs,p,rfl⟩;exact⟨x,vs,p,rfl,h⟩
def V8(e:Expr)(k:Expr->List Fh->Scope->Pos->Bool):Bool:=el e.ctorIdx 8 λh=>E6 (motive_1:=λ_=>Bool) e h k
def lI(h:V8 e k=true):∃x gs sc p,e=.ListComp x gs sc p/\k x gs sc p=true:=by obtain⟨N,h⟩:=zx h;obtain⟨x,gs,sc,p,rfl⟩:∃x gs sc p,e=.ListComp x gs sc p:=E6 (motive_1:=λe=>∃x gs sc p,e=Expr.ListComp x gs sc p) e N λx gs sc p=>⟨x,gs,sc,p,rfl⟩;exact⟨x,gs,sc,p,rfl,h⟩
def V9(e:Expr)(k:Expr->List CmpOp->List Expr->Pos->Bool):Bool:=el e.ctorIdx 15 λh=>Fx (motive_1:=λ_=>Bool) e h k
def lJ(h:V9 e k=true):∃l os x p,e=.Compare l os x p/\k l os x p=true:=by obtain⟨N,h⟩:=zx h;obtain⟨l,os,x,p,rfl⟩:∃l os x p,e=.Compare l os x p:=Fx (motive_1:=λe=>∃l os x p,e=Expr.Compare l os x p) e N λl os x p=>⟨l,os,x,p,rfl⟩;exact⟨l,os,x,p,rfl,h⟩
def bF(e:Expr)(k:Expr->List Expr->List Keyword->Pos->Bool):Bool:=el e.ctorIdx 16 λh=>Expr.Call.elim (motive_1:=λ_=>Bool) e h k
def oi(h:bF e k=true):∃f x N p,e=.Call f x N p/\k f x N p=true:=by obtain⟨O,h⟩:=zx h;obtain⟨f,x,N,p,rfl⟩:∃f x N p,e=.Call f x N p:=Expr.Call.elim (motive_1:=λe=>∃f x N p,e=Expr.Call f x N p) e O λf x N p=>⟨f,x,N,p,rfl⟩;exact⟨f,x,N,p,rfl,h⟩
def RM(e:Expr)(k:Expr->Int->Option Expr->Pos->Bool):Bool:=el e.ctorIdx 17 λh=>FT (motive_1:=λ_=>Bool) e h k
def bI(h:RM e k=true):∃x c s p,e=.FormattedValue x c s p/\k x c s p=true:=by obtain⟨N,h⟩:=zx h;obtain⟨x,c,s,p,rfl⟩:∃x c s p,e=.FormattedValue x c s p:=FT (motive_1:=λe=>∃x c s p,e=Expr.FormattedValue x c s p) e N λx c s p=>⟨x,c,s,p,rfl⟩;exact⟨x,c,s,p,rfl,h⟩
def eJn(e:Expr)(k:List Expr->Pos->Bool):Bool:=el e.ctorIdx 18 λh=>Gm.elim (motive_1:=λ_=>Bool) e h k
def Y0(h:eJn e k=true):∃x p,e=.JoinedStr x p/\k x p=true:=by obtain⟨N,h⟩:=zx h;obtain⟨x,p,rfl⟩:∃x p,e=.JoinedStr x p:=Gm.elim (motive_1:=λe=>∃x p,e=Gm x p) e N λx p=>⟨x,p,rfl⟩;exact⟨x,p,rfl,h⟩
def Yy(e:Expr)(k:Const->Nat->Pos->Bool):Bool:=el e.ctorIdx 19 λh=>GG.elim (motive_1:=λ_=>Bool) e h k
def qi(h:Yy e k=true):∃c n p,e=.Constant c n p/\k c n p=true:=by obtain⟨x,h⟩:=zx h;obtain⟨c,n,p,rfl⟩:∃c n p,e=.Constant c n p:=GG.elim (motive_1:=λe=>∃c n p,e=GG c n p) e x λc n p=>⟨c,n,p,rfl⟩;exact⟨c,n,p,rfl,h⟩
def RJ(e:Expr)(k:Expr->Str->Pos->Bool):Bool:=el e.ctorIdx 20 λh=>Gn.elim (motive_1:=λ_=>Bool) e h k
def bE(h:RJ e k=true):∃o x p,e=.Attribute o x p/\k o x p=true:=by obtain⟨N,h⟩:=zx h;obtain⟨o,x,p,rfl⟩:∃o x p,e=.Attribute o x p:=Gn.elim (motive_1:=λe=>∃o x p,e=Gn o x p) e N λo x p=>⟨o,x,p,rfl⟩;exact⟨o,x,p,rfl,h⟩
def Y6(e:Expr)(k:Expr->Expr->Pos->Bool):Bool:=el e.ctorIdx 21 λh=>Gp.elim (motive_1:=λ_=>Bool) e h k
def qk(h:Y6 e k=true):∃l r p,e=.Subscript l r p/\k l r p=true:=by obtain⟨x,h⟩:=zx h;obtain⟨l,r,p,rfl⟩:∃l r p,e=.Subscript l r p:=Gp.elim (motive_1:=λe=>∃l r p,e=Gp l r p) e x λl r p=>⟨l,r,p,rfl⟩;exact⟨l,r,p,rfl,h⟩
def eName(e:Expr)(k:Str->Pos->Bool):Bool:=el e.ctorIdx 23 λh=>Ez.elim (motive_1:=λ_=>Bool) e h k
def zq(h:eName e k=true):∃x p,e=.Name x p/\k x p=true:=by obtain⟨N,h⟩:=zx h;obtain⟨x,p,rfl⟩:∃x p,e=.Name x p:=Ez.elim (motive_1:=λe=>∃x p,e=Ez x p) e N λx p=>⟨x,p,rfl⟩;exact⟨x,p,rfl,h⟩
def UB(e:Expr)(k:List Expr->Pos->Bool):Bool:=el e.ctorIdx 24 λh=>Expr.List.elim (motive_1:=λ_=>Bool) e h k
def qj(h:UB e k=true):∃x p,e=.List x p/\k x p=true:=by obtain⟨N,h⟩:=zx h;obtain⟨x,p,rfl⟩:∃x p,e=.List x p:=Expr.List.elim (motive_1:=λe=>∃x p,e=Expr.List x p) e N λx p=>⟨x,p,rfl⟩;exact⟨x,p,rfl,h⟩
def bL(e:Expr)(k:List Expr->Nat->Pos->Bool):Bool:=el e.ctorIdx 25 λh=>Expr.Tuple.elim (motive_1:=λ_=>Bool) e h k
def uM(h:bL e k=true):∃x n p,e=.Tuple x n p/\k x n p=true:=by obtain⟨N,h⟩:=zx h;obtain⟨x,n,p,rfl⟩:∃x n p,e=.Tuple x n p:=Expr.Tuple.elim (motive_1:=λe=>∃x n p,e=Expr.Tuple x n p) e N λx n p=>⟨x,n,p,rfl⟩;exact⟨x,n,p,rfl,h⟩
def RN(e:Expr)(k:Option Expr->Option Expr->Option Expr->Pos->Bool):Bool:=el e.ctorIdx 26 λh=>Expr.Slice.elim (motive_1:=λ_=>Bool) e h k
def bJ(h:RN e k=true):∃x y z p,e=.Slice x y z p/\k x y z p=true:=by obtain⟨N,h⟩:=zx h;obtain⟨x,y,z,p,rfl⟩:∃x y z p,e=.Slice x y z p:=Expr.Slice.elim (motive_1:=λe=>∃x y z p,e=Expr.Slice x y z p) e N λx y z p=>⟨x,y,z,p,rfl⟩;exact⟨x,y,z,p,rfl,h⟩
def WW(e:Stmt)(k:Option Expr->Pos->Bool):Bool:=el e.ctorIdx 3 λh=>Stmt.Return.elim (motive_2:=λ_=>Bool) e h k
def sV(h:WW e k=true):∃o p,e=.Return o p/\k o p=true:=by obtain⟨x,h⟩:=zx h;obtain⟨o,p,rfl⟩:∃o p,e=.Return o p:=Stmt.Return.elim (motive_2:=λe=>∃o p,e=Stmt.Return o p) e x λo p=>⟨o,p,rfl⟩;exact⟨o,p,rfl,h⟩
def dJ(e:Stmt)(k:List Expr->Expr->Pos->Bool):Bool:=el e.ctorIdx 5 λh=>Stmt.Assign.elim (motive_2:=λ_=>Bool) e h k
def vM(h:dJ e k=true):∃ts v p,e=.Assign ts v p/\k ts v p=true:=by obtain⟨x,h⟩:=zx h;obtain⟨ts,v,p,rfl⟩:∃ts v p,e=.Assign ts v p:=Stmt.Assign.elim (motive_2:=λe=>∃ts v p,e=Stmt.Assign ts v p) e x λts v p=>⟨ts,v,p,rfl⟩;exact⟨ts,v,p,rfl,h⟩
def Qq(e:Stmt)(k:Expr->Operator->Expr->Pos->Bool):Bool:=el e.ctorIdx 7 λh=>Gq.elim (motive_2:=λ_=>Bool) e h k
def Zu(h:Qq e k=true):∃t o v p,e=.AugAssign t o v p/\k t o v p=true:=by obtain⟨x,h⟩:=zx h;obtain⟨t,o,v,p,rfl⟩:∃t o v p,e=.AugAssign t o v p:=Gq.elim (motive_2:=λe=>∃t o v p,e=Gq t o v p) e x λt o v p=>⟨t,o,v,p,rfl⟩;exact⟨t,o,v,p,rfl,h⟩
def Qr(e:Stmt)(k:Expr->Expr->List Stmt->List Stmt->Pos->Bool):Bool:=el e.ctorIdx 9 λh=>Stmt.For.elim (motive_2:=λ_=>Bool) e h k
def Zv(h:Qr e k=true):∃t i b c p,e=.For t i b c p/\k t i b c p=true:=by obtain⟨x,h⟩:=zx h;obtain⟨t,i,b,c,p,rfl⟩:∃t i b c p,e=.For t i b c p:=Stmt.For.elim (motive_2:=λe=>∃t i b c p,e=Stmt.For t i b c p) e x λt i b c p=>⟨t,i,b,c,p,rfl⟩;exact⟨t,i,b,c,p,rfl,h⟩
def Qs(e:Stmt)(k:Expr->List Stmt->List Stmt->Pos->Bool):Bool:=el e.ctorIdx 11 λh=>Stmt.While.elim (motive_2:=λ_=>Bool) e h k
def Zw(h:Qs e k=true):∃c b d p,e=.While c b d p/\k c b d p=true:=by obtain⟨x,h⟩:=zx h;obtain⟨c,b,d,p,rfl⟩:∃c b d p,e=.While c b d p:=Stmt.While.elim (motive_2:=λe=>∃c b d p,e=Stmt.While c b d p) e x λc b d p=>⟨c,b,d,p,rfl⟩;exact⟨c,b,d,p,rfl,h⟩
def sIf(e:Stmt)(k:Expr->List Stmt->List Stmt->Pos->Bool):Bool:=el e.ctorIdx 12 λh=>Stmt.If.elim (motive_2:=λ_=>Bool) e h k
def mZ(h:sIf e k=true):∃c a b p,e=.If c a b p/\k c a b p=true:=by obtain⟨x,h⟩:=zx h;obtain⟨c,a,b,p,rfl⟩:∃c a b p,e=.If c a b p:=Stmt.If.elim (motive_2:=λe=>∃c a b p,e=Stmt.If c a b p) e x λc a b p=>⟨c,a,b,p,rfl⟩;exact⟨c,a,b,p,rfl,h⟩
def sRs(e:Stmt)(k:Option Expr->Option Expr->Pos->Bool):Bool:=el e.ctorIdx 16 λh=>Stmt.Raise.elim (motive_2:=λ_=>Bool) e h k
def gk(h:sRs e k=true):∃a b p,e=.Raise a b p/\k a b p=true:=by obtain⟨x,h⟩:=zx h;obtain⟨a,b,p,rfl⟩:∃a b p,e=.Raise a b p:=Stmt.Raise.elim (motive_2:=λe=>∃a b p,e=Stmt.Raise a b p) e x λa b p=>⟨a,b,p,rfl⟩;exact⟨a,b,p,rfl,h⟩
def SO(e:Stmt)(k:Expr->Pos->Bool):Bool:=el e.ctorIdx 24 λh=>Stmt.Expr.elim (motive_2:=λ_=>Bool) e h k
def pT(h:SO e k=true):∃x p,e=.Expr x p/\k x p=true:=by obtain⟨N,h⟩:=zx h;obtain⟨x,p,rfl⟩:∃x p,e=.Expr x p:=Stmt.Expr.elim (motive_2:=λe=>∃x p,e=Stmt.Expr x p) e N λx p=>⟨x,p,rfl⟩;exact⟨x,p,rfl,h⟩
noncomputable def l1{N:Type}(O:List N)(k:N->Bool):Bool:=match O with
 |[x]=>k x
 |_=>false
def yS(h:l1 N k=true):∃x,N=[x]/\k x=true:=by
 cases N with
 |nil=>cases h
 |cons x N=>cases N with
  |nil=>exact⟨x,rfl,h⟩
  |cons _ _=>cases h
noncomputable def lc{N:Type}(O:List N)(k:N->List N->Bool):Bool:=match O with
 |x::O=>k x O
 |[]=>false
def yA(h:lc xs k=true):∃x N,xs=x::N/\k x N=true:=by
 cases xs with
 |nil=>cases h
 |cons x N=>exact⟨x,N,rfl,h⟩
def aT{xs}{k:α->α->Bool}(h:(lc xs λx N=>l1 N (k x))=true):∃x y,xs=[x,y]/\k x y=true:=by obtain⟨x,N,rfl,h⟩:=yA h;obtain⟨y,rfl,h⟩:=yS h;exact⟨x,y,rfl,h⟩
noncomputable def o1{N:Type}(x:Option N)(k:N->Bool):Bool:=match x with
 |some x=>k x
 |none=>false
def tR(h:o1 x k=true):∃y,x=some y/\k y=true:=by
 cases x with
 |none=>cases h
 |some x=>exact⟨x,rfl,h⟩
def zN(h:(a&&b)=true):a=true/\b=true:=by
 cases a with
 |false=>cases h
 |true=>exact⟨rfl,h⟩
def eOp(u:UnaryOp)(e:Expr)(k:Expr->Bool):Bool:=eUn e λo x _=>decide (o=u)&&k x
def qI(h:eOp u e k=true):∃x p,e=.UnaryOp u x p/\k x=true:=by obtain⟨o,x,p,rfl,O⟩:=Y7 h;obtain⟨h1,N⟩:=zN O;cases of_decide_eq_true h1;exact⟨x,p,rfl,N⟩
def eBl(u:BoolOp)(e:Expr)(k:Expr->List Expr->Bool):Bool:=W9 e λo x _=>decide (o=u)&&lc x k
def qG(h:eBl u e k=true):∃x N p,e=.BoolOp u (x::N) p/\k x N=true:=by obtain⟨o,N,p,rfl,R⟩:=fV h;obtain⟨h1,Q⟩:=zN R;cases of_decide_eq_true h1;obtain⟨x,O,rfl,P⟩:=yA Q;exact⟨x,O,p,rfl,P⟩
def eC1(e:Expr)(k:Expr->CmpOp->Expr->Bool):Bool:=V9 e λl os x _=>l1 os λo=>l1 x λr=>k l o r
def qH(h:eC1 e k=true):∃l o r p,e=.Compare l [o] [r] p/\k l o r=true:=by obtain⟨l,os,x,p,rfl,h⟩:=lJ h;obtain⟨o,rfl,h⟩:=yS h;obtain⟨r,rfl,h⟩:=yS h;exact⟨l,o,r,p,rfl,h⟩
def eC2(e:Expr)(k:Expr->CmpOp->CmpOp->Expr->Expr->Bool):Bool:=V9 e λl os x _=>lc os λo os=>l1 os λO=>lc x λr x=>l1 x λN=>k l o O r N
def gF(h:eC2 e k=true):∃l o N r x p,e=.Compare l [o,N] [r,x] p/\k l o N r x=true:=by obtain⟨l,os,O,p,rfl,h⟩:=lJ h;obtain⟨o,os,rfl,h⟩:=yA h;obtain⟨N,rfl,h⟩:=yS h;obtain⟨r,O,rfl,h⟩:=yA h;obtain⟨x,rfl,h⟩:=yS h;exact⟨l,o,N,r,x,p,rfl,h⟩
def eD0(e:Expr):Bool:=RL e λx vs _=>x.isEmpty&&vs.isEmpty
def gG(h:eD0 e=true):∃p,e=.Dict [] [] p:=by obtain⟨N,vs,p,rfl,h⟩:=bG h;obtain⟨h1,x⟩:=zN h;rw[AN.mp h1,AN.mp x];exact⟨p,rfl⟩
def eCN(e:Expr)(k:Str->List Expr->Bool):Bool:=bF e λf N O _=>O.isEmpty&&eName f λx _=>k x N
def yy(h:eCN e k=true):∃x p N pos,e=.Call (.Name x p) N [] pos/\k x N=true:=by obtain⟨f,N,O,pos,rfl,h⟩:=oi h;obtain⟨h1,h⟩:=zN h;obtain⟨x,p,rfl,h⟩:=zq h;rw[AN.mp h1];exact⟨x,p,N,pos,rfl,h⟩
def eMt(e:Expr)(k:Expr->Str->Pos->Expr->Pos->Bool):Bool:=bF e λf N O cp=>O.isEmpty&&RJ f λob x ap=>l1 N λy=>k ob x ap y cp
def gI(h:eMt e k=true):∃ob x ap y cp,e=.Call (.Attribute ob x ap) [y] [] cp/\k ob x ap y cp=true:=by obtain⟨f,N,O,pos,rfl,h⟩:=oi h;obtain⟨h1,h⟩:=zN h;obtain⟨ob,x,ap,rfl,h⟩:=bE h;obtain⟨y,rfl,h⟩:=yS h;rw[AN.mp h1];exact⟨ob,x,ap,y,pos,rfl,h⟩
def eSS(e:Expr)(k:Expr->Option Expr->Option Expr->Option Expr->Bool):Bool:=Y6 e λl r _=>RN r λx y z _=>k l x y z
def Y5(h:eSS e k=true):∃l x y z p pos,e=.Subscript l (.Slice x y z p) pos/\k l x y z=true:=by obtain⟨l,r,pos,rfl,h⟩:=qk h;obtain⟨x,y,z,p,rfl,h⟩:=bJ h;exact⟨l,x,y,z,p,pos,rfl,h⟩
noncomputable def gC(g:Fh)(k:Expr->Expr->List Expr->Bool):Bool:=decide (g.is_async=0)&&k g.target g.iter g.ifs
def kz(h:gC g k=true):∃t i f,g=⟨t,i,f,0⟩/\k t i f=true:=by obtain⟨t,i,f,a⟩:=g;obtain⟨h1,h⟩:=zN h;have h1:a=0:=of_decide_eq_true h1;subst h1;exact⟨t,i,f,rfl,h⟩
def eG1(e:Expr)(k:Expr->Expr->Expr->List Expr->Scope->Bool):Bool:=V8 e λx gs sc _=>l1 gs λg=>gC g λt i f=>k x t i f sc
def sD(h:eG1 e k=true):∃x t i f sc p,e=.ListComp x [⟨t,i,f,0⟩] sc p/\k x t i f sc=true:=by obtain⟨x,gs,sc,p,rfl,P⟩:=lI h;obtain⟨g,rfl,O⟩:=yS P;obtain⟨t,i,f,rfl,N⟩:=kz O;exact⟨x,t,i,f,sc,p,rfl,N⟩
def eG2(e:Expr)(k:Expr->Expr->Expr->List Expr->Expr->Expr->List Expr->Scope->Bool):Bool:=V8 e λx gs sc _=>lc gs λg gs=>l1 gs λg2=>gC g λt i f=>gC g2 λN O f2=>k x t i f N O f2 sc
def gH(h:eG2 e k=true):∃x t i f N O f2 sc p,e=.ListComp x [⟨t,i,f,0⟩,⟨N,O,f2,0⟩] sc p/\k x t i f N O f2 sc=true:=by obtain⟨x,gs,sc,p,rfl,U⟩:=lI h;obtain⟨g,gs,rfl,S⟩:=yA U;obtain⟨g2,rfl,R⟩:=yS S;obtain⟨t,i,f,rfl,Q⟩:=kz R;obtain⟨N,O,f2,rfl,P⟩:=kz Q;exact⟨x,t,i,f,N,O,f2,sc,p,rfl,P⟩
end M
end
section
namespace L2
open PySem PySem.Spec PyProof.Rows
noncomputable def ur(cells:List (Str × Addr)):List (Str × Dw)->List (Str × Addr)->List (Str × Addr)
 |[],acc=>acc
 |(n,k)::r,acc=>if k == .free then (match cells.lookup n with|some c=>ur cells r ((n,c)::acc)|none=>ur cells r acc) else ur cells r acc
theorem tH:∀names acc,(∀x∈names,x.2=.free->∃c,env.cells.lookup x.1=some c) ->
 (forIn names acc λx cs =>(if x.2 == .free then do let a <-cellOf env x.1;pure (Ck ((x.1,a)::cs)) else pure (Ck cs):Sem (ForInStep (List (Str × Addr)))))=pure (ur env.cells names acc)
 |[],acc,_=>rfl
 |(n,k)::r,acc,h=>by
  rw[EM];dsimp only;unfold ur;by_cases hk:(k == AE)=true
  . have P:k=.free:=by simpa using hk
    obtain⟨c,Q⟩:=h (n,k) Ar P;have O:env.cells.lookup n=some c:=Q;have N:cellOf env n=pure c:=by unfold cellOf;rw[O]
    rw[if_pos hk,if_pos hk,N,O,DU,DU];exact tH r _ λx hx=>h x (Ag _ hx)
  . rw[if_neg hk,if_neg hk,DU]
    exact tH r _ λx hx=>h x (Ag _ hx)
def wk(h:∀x∈scope.names,x.2=.free->∃c,env.cells.lookup x.1=some c):GA scope env=pure (ur env.cells scope.names []):=by
 have e:=tH (env:=env) scope.names [] h;show (do let cs <-forIn scope.names [] _;pure cs)=_
 refine Eq.trans ?_ e;refine Eq.trans (bind_pure _) ?_;congr 1
theorem t9:∀names acc,(∀x c,acc.lookup x=some c->cells.lookup x=some c)->∀x c,(ur cells names acc).lookup x=some c->cells.lookup x=some c
 |[],acc,h,x,c,e=>h x c e
 |(n,k)::r,acc,h,x,c,e=>by
  unfold ur at e;by_cases hk:(k == AE)=true
  . rw[if_pos hk]at e
    cases hc:cells.lookup n with
    |none=>rw[hc]at e;exact t9 r acc h x c e
    |some d=>
     rw[hc]at e;refine t9 r _ (λy z q=>?_) x c e;rw[Am]at q;cases hy:(y == n) with
     |true=>rw[hy]at q;have N:y=n:=by simpa using hy
            cases q;rw[N];exact hc
     |false=>rw[hy]at q;exact h y z q
  . rw[if_neg hk]at e;exact t9 r acc h x c e
theorem vD:∀names acc x c,cells.lookup x=some c->(acc.lookup x=some c\/(x,AE)∈names)->(∀y d,acc.lookup y=some d->cells.lookup y=some d)->(ur cells names acc).lookup x=some c
 |[],acc,x,c,_,h,_=>by
  rcases h with h|h
  . exact h
  . cases h
 |(n,k)::r,acc,x,c,hc,h,ha=>by
  unfold ur;by_cases hk:(k == AE)=true
  . rw[if_pos hk]
    cases hn:cells.lookup n with
    |none=>
     refine vD r acc x c hc ?_ ha;rcases h with h|h
     . exact .inl h
     . rcases Ao.mp h with e|e
       . cases e;rw[hn]at hc;cases hc
       . exact .inr e
    |some d=>
     have N:∀y z,((n,d)::acc).lookup y=some z->cells.lookup y=some z:=λy z q=>by
      rw[Am]at q;cases hy:(y == n) with
      |true=>rw[hy]at q;have O:y=n:=by simpa using hy
             cases q;rw[O];exact hn
      |false=>rw[hy]at q;exact ha y z q
     by_cases hx:x=n
     . subst hx
       refine vD r _ x c hc (.inl ?_) N;rw[hn]at hc;cases hc;simp[Am]
     . refine vD r _ x c hc ?_ N
       rcases h with h|h
       . refine .inl ?_
         have:(x == n)=false:=by simpa using hx
         rw[Am,this];exact h
       . rcases Ao.mp h with e|e
         . cases e;exact absurd rfl hx
         . exact .inr e
  . rw[if_neg hk]
    refine vD r acc x c hc ?_ ha;rcases h with h|h
    . exact .inl h
    . rcases Ao.mp h with e|e
      . cases e;exact absurd (by decide) hk
      . exact .inr e
theorem tG:∀names n acc,Cy n names acc=Cy n names []++acc
 |[],_,_=>rfl
 |(x,k)::r,n,acc=>by
  unfold Cy;split
  . rw[tG r (n+1) ((x,n)::acc),tG r (n+1) [(x,n)],Br];rfl
  . exact tG r n acc
theorem nq:∀names n {x} {c},(x,c)∈Cy n names []->(x,Bi)∈names/\n<=c
 |[],_,_,_,h=>by cases h
 |(y,k)::r,n,x,c,h=>by
  unfold Cy at h;split at h
  . rename_i hk
    rw[tG]at h;rcases A3.mp h with h|h
    . obtain⟨h1,N⟩:=nq r (n+1) h
      exact⟨Ag _ h1,⋯⟩
    . cases AW.mp h
      have:k=.cell:=by simpa using hk
      rw[this];exact⟨Ar,Aa _⟩
  . obtain⟨h1,N⟩:=nq r n h
    exact⟨Ag _ h1,N⟩
theorem nk:∀names n {x},(x,Bi)∈names->∃c,(x,c)∈Cy n names []
 |[],_,_,h=>by cases h
 |(y,k)::r,n,x,h=>by
  unfold Cy;rcases Ao.mp h with e|h
  . cases e
    rw[if_pos (by rfl),tG]
    exact⟨n,Bb _ Ar⟩
  . split
    . obtain⟨c,N⟩:=nk r (n+1) h
      rw[tG];exact⟨c,Bx _ N⟩
    . exact nk r n h
def af{l:List (Str × Addr)}:(x,c)∈l->∃d,l.lookup x=some d:=by
 induction l with
 |nil=>intro h;cases h
 |cons p r N=>
  intro h;rw[Am];cases hx:x == p.1 with
  |true=>exact⟨_,rfl⟩
  |false=>
   rcases Ao.mp h with e|h
   . rw[<-e]at hx;simp at hx
   . exact N h
def jX{l m:List (Str × Addr)}{x:Str}:(l++m).lookup x=match l.lookup x with|some c=>some c|none=>m.lookup x:=by
 induction l with
 |nil=>rfl
 |cons p r N=>
  rw[Cq,Am,Am];cases hx:x == p.1 with
  |true=>rfl
  |false=>exact N
noncomputable def wo(sc:Scope)(C:Addr):List (Str × Addr):=Cy (C+1) sc.names []
def X6(h:Heap)sc:∃h',CellsOk h' (h.objs.size+1) (wo sc h.objs.size):=by
 have ok:=cellsFrom_ok sc.names (h.push {cls:=.type "dict",data:=.dict #[]}) (h.objs.size+1) [] ⟨λ_ _ x=>(nomatch x),Fw⟩ (by rw[Bw];exact Aa _)
 rw[Bw]at ok;exact⟨_,ok⟩
abbrev Cx.comp(X:Cx)(N:List Str)(sc:Scope)(C:Addr)(s:Shared)(H:Hp)(ex:List Addr):Cx:=
 {X with N:=N,l:=s,r:=H,a:=compEnvC sc (wo sc C++ur X.a.cells sc.names []) C X.a,k:=X.g,m:=ex,n:=λx=>sc.names.any λp=>decide (p=(x,Bi)),q:=[],i:=λ_ _=>False}
structure zm(X:Cx)(N:List Str)(sc:Scope)(fr:List (Option Nat)):Prop where
 b:sc.kind=.function
 e:∀x,(x,Bi)∈sc.names->(x,AE)∈sc.names->False
 a:∀x∈sc.names,x.2=.local->sc.names.lookup x.1=some .local
 d:∀x∈sc.names,x.2=.free->X.a.kindOf x.1=some .cell\/X.a.kindOf x.1=some .free
 g:fr.length=N.length
 f:∀(i j:Nat) (x:Str),N[i]?=some x->fr[i]?=some (some j)->X.N[j]?=some x/\(x,AE)∈sc.names
 h:∀x,sc.names.lookup x=some .local->(x,AE)∈sc.names->False
noncomputable def za(fr:List (Option Nat))(σ:St):St:=fr.map λo=>match o with|some j=>(σ[j]?).join|none=>none
def mX(h:(relabel sc env).names.lookup x=some .cell\/(relabel sc env).names.lookup x=some .free):(x,AE)∈sc.names\/(x,Bi)∈sc.names:=by
 have N:∀(names:List (Str × Dw)),((names.map λ(n,k)=>if (k == AE&&env.scope.kind == .function&&env.kindOf n == some .cell) then (n,Bi) else (n,k)).lookup x=some .cell \/
  (names.map λ(n,k)=>if (k == AE&&env.scope.kind == .function&&env.kindOf n == some .cell) then (n,Bi) else (n,k)).lookup x=some .free)->(x,AE)∈names\/(x,Bi)∈names:=by
  intro names;induction names with
  |nil=>intro h;simp at h
  |cons p r Q=>
   obtain⟨n,k⟩:=p;intro h;rw[AZ]at h;dsimp only at h;by_cases hx:x=n
   . subst hx
     by_cases hf:k=.free
     . subst hf;exact .inl Ar
     . have P:(k == AE)=false:=by simpa using hf
       rw[P]at h;simp only[CU,A2,if_false,Am,beq_self_eq_true]at h;rcases h with h|h
       . cases h;exact .inr Ar
       . cases h;exact absurd rfl hf
   . have O:(x == n)=false:=by simpa using hx
     have:=Q (by split at h<;>simpa only[Am,O] using h)
     exact this.elim (λz=>.inl (Ag _ z)) λz=>.inr (Ag _ z)
 exact N sc.names h
def vm(h:sc.names.lookup x=some .cell):(relabel sc env).names.lookup x=some .cell:=by
 have N:∀(names:List (Str × Dw)),names.lookup x=some .cell->(names.map λ(n,k)=>if (k == AE&&env.scope.kind == .function&&env.kindOf n == some .cell) then (n,Bi) else (n,k)).lookup x=some .cell:=by
  intro names;induction names with
  |nil=>intro h;simp at h
  |cons p r O=>
   obtain⟨n,k⟩:=p;intro h;rw[AZ];dsimp only;cases hx:(x == n) with
   |true=>
    rw[Am,hx]at h;cases h;have e:(Bi == AE)=false:=rfl;rw[e];simp only[CU,A2,if_false,Am,hx]
   |false=>
    rw[Am,hx]at h;have:=O h;split<;>simpa only[Am,hx] using this
 exact N sc.names h
def sU(P:∀y∈sc.names,y.2=.local->sc.names.lookup y.1=some .local)(h:sc.names.lookup x=some .free) :
 (relabel sc env).names.lookup x=some .cell\/(relabel sc env).names.lookup x=some .free:=by
 have N:∀(names:List (Str × Dw)),names.lookup x=some .free->((names.map λ(n,k)=>if (k == AE&&env.scope.kind == .function&&env.kindOf n == some .cell) then (n,Bi) else (n,k)).lookup x=some .cell \/
  (names.map λ(n,k)=>if (k == AE&&env.scope.kind == .function&&env.kindOf n == some .cell) then (n,Bi) else (n,k)).lookup x=some .free):=by
  intro names;induction names with
  |nil=>intro h;simp at h
  |cons p r O=>
   obtain⟨n,k⟩:=p;intro h;rw[AZ];dsimp only;cases hx:(x == n) with
   |true=>
    rw[Am,hx]at h;cases h;split
    . left;simp only[Am,hx]
    . right;simp only[Am,hx]
   |false=>
    rw[Am,hx]at h;have:=O h;split<;>simpa only[Am,hx] using this
 exact N sc.names h
theorem zm.cells(S:zm X N sc fr)(ok:X.Ok):∀x∈sc.names,x.2=.free->∃c,X.a.cells.lookup x.1=some c:=λx hx hk=>ok.p x.1 (S.d x hx hk)
def vA(h:(wo sc C++ur cells sc.names []).lookup x=some c):((wo sc C).lookup x=some c)\/((wo sc C).lookup x=none/\cells.lookup x=some c):=by
 rw[jX]at h;cases ho:(wo sc C).lookup x with
 |some d=>rw[ho]at h;exact .inl h
 |none=>rw[ho]at h;exact .inr ⟨rfl,t9 sc.names [] (λx c e=>by simp at e) x c h⟩
def pK(h:(wo sc C).lookup x=some c):@LE.le Nat _ (C+1) c:=(nq sc.names (C+1) (mem_of_lookup h)).2
def ay(S:zm X N sc fr)(h:(x,AE)∈sc.names):(wo sc C).lookup x=none:=by
 cases ho:(wo sc C).lookup x with
 |none=>rfl
 |some d=>exact(S.e x (nq sc.names (C+1) (mem_of_lookup ho)).1 h).elim
def Yr(I:Inv X pins σ H s)(S:zm X N sc fr)(hf:∀b∈fp,uq X pins H b)(R:∀b∈fp,b<s.heap.objs.size):(X.comp N sc s.heap.objs.size s H fp).Ok:=by
 obtain⟨h',W⟩:=X6 s.heap sc;have Q:∀x c,X.a.cells.lookup x=some c->@LT.lt Nat _ c s.heap.objs.size:=λx c e=>by obtain⟨v,z⟩:=I.G x c e;exact z.lt
 refine⟨I.C.i,S.b,I.C.j,I.C.t,Aa _,λx y c e1 e2=>?_,λx h=>?_,λx c h e=>?_,I.C.k,I.C.g,.inl rfl,λb P=>?_,λb o e=>I.bs b o e,?_,λb o e P=>?_,λb P z=>?_,I.stack,I.me⟩
 . rcases vA e1 with e1|⟨_,e1⟩<;>rcases vA e2 with e2|⟨_,e2⟩
   . exact name_of_addr W.apart (mem_of_lookup e1) (mem_of_lookup e2)
   . exact absurd (Aq (Q _ _ e2) (Az (CT _) (pK e1))) (Bc _)
   . exact absurd (Aq (Q _ _ e1) (Az (CT _) (pK e2))) (Bc _)
   . exact I.C.r x y c e1 e2
 . show ∃c,(wo sc s.heap.objs.size++ur X.a.cells sc.names []).lookup x=some c
   rw[jX];rcases mX h with m|m
   . obtain⟨c,U⟩:=S.cells I.C (x,.free) m rfl
     rw[ay S m];exact⟨c,vD sc.names [] x c U (.inr m) (λy d e=>by simp at e)⟩
   . obtain⟨c,U⟩:=nk sc.names (s.heap.objs.size+1) m
     obtain⟨d,hd⟩:=af U;have O:(wo sc s.heap.objs.size).lookup x=some d:=hd;rw[O];exact⟨d,rfl⟩
 . have m:(x,Bi)∈sc.names:=by obtain⟨p,hp,Z⟩:=Bo.mp h;rw[<-of_decide_eq_true Z];exact hp
   rcases vA e with e|⟨e,_⟩
   . exact Az (CT _) (pK e)
   . obtain⟨c',U⟩:=nk sc.names (s.heap.objs.size+1) m
     obtain⟨d,hd⟩:=af U;have O:(wo sc s.heap.objs.size).lookup x=some d:=hd;rw[O]at e;cases e
 . obtain⟨Y,f1,f2,f3,f4,f5⟩:=hf b P
   refine⟨AI (R b P),λx c e=>?_⟩;rcases vA e with e|⟨_,e⟩
   . exact λz=>absurd (Aq (z▸R b P) (Az (CT _) (pK e))) (Bc _)
   . exact f4 x c e
 . exact Az I.C.q I.sz
 . obtain⟨Y,f1,f2,f3,f4,f5⟩:=hf b P
   rcases f3 with f3|f3
   . exact I.C.m b o e f3
   . exact absurd (Aq (Al e) (Az I.C.q f3)) (Bc _)
 . obtain⟨Y,f1,f2,f3,f4,f5⟩:=hf b P
   rcases Ao.mp (I.iK b z) with e|e
   . exact f1 e
   . exact f2 e
def kq(I:Inv X pins σ H s)(S:zm X N sc fr)(hf:∀b∈fp,uq X pins H b)(Y:∀b∈fp,b<s.heap.objs.size)
 (W:h'.Ns s.heap.objs.size (λ_=>none)) (k:∀b o,s.heap.get? b=some o->h'.get? b=some o) (jD:∀x c,(wo sc s.heap.objs.size).lookup x=some c->h'.IsCell c none):Inv (X.comp N sc s.heap.objs.size s H fp) [] (za fr σ) H {s with heap:=h',toks:=tk}:=by
 refine⟨Yr I S hf Y,rfl,I.F,Un.kept k,⟨_,W,λi x v e1 e2 e3=>?_⟩,λx c e=>?_,I.B.fresh (Aa _),λx c e=>?_,λp hp=>(by simp at hp),I.B.kept k,?_⟩
 . have O:(fr.map λo=>match o with|some j=>(σ[j]?).join|none=>none)[i]?=some (some v):=e2
   rw[A1]at O;cases hfi:fr[i]? with
   |none=>rw[hfi]at O;cases O
   |some o=>
    rw[hfi]at O;cases o with
    |none=>cases O
    |some j=>
     obtain⟨n1,n2⟩:=S.f i j x e1 hfi;have Z:σ[j]?=some (some v):=by
      have q:(σ[j]?).join=some v:=AX O;cases hσ:σ[j]? with
      |none=>rw[hσ]at q;cases q
      |some w=>rw[hσ]at q;cases w with
       |none=>cases q
       |some w'=>have:w'=v:=AX q
                 rw[this]
     have hk:=S.d (x,.free) n2 rfl;obtain⟨m,hn,hl⟩:=I.M;obtain⟨u,r,l⟩:=hl j x v n1 Z (hk.elim (λz=>.inr (.inl z)) λz=>.inr (.inr z));refine⟨u,r,?_⟩;rcases l with⟨Q,_⟩|⟨_,c,hc,z⟩
     . rcases hk with hk|hk<;>(rw[hk]at Q;cases Q)
     . refine .inr ⟨?_,c,(by show (wo sc s.heap.objs.size++ur X.a.cells sc.names []).lookup x=some c;rw[jX,ay S n2];exact vD sc.names [] x c hc (.inr n2) (λy d e=>by simp at e)),?_⟩
       . rcases e3 with e3|e3|e3
         . -- a local of that name: cannot be,the name is free in the block
           exfalso;have P:sc.names.lookup x=some .local:=by
            have R:∀(names:List (Str × Dw)),(names.map λ(n,k)=>if (k == AE&&X.a.scope.kind == .function&&X.a.kindOf n == some .cell) then (n,Bi) else (n,k)).lookup x=some .local->names.lookup x=some .local:=by
             intro names;induction names with
             |nil=>intro h;simp at h
             |cons p r ih=>
              obtain⟨n,kk⟩:=p;intro h;rw[AZ]at h;dsimp only at h;cases hx:(x == n) with
              |true=>
               split at h
               . simp only[Am,hx]at h;cases h
               . simp only[Am,hx]at h ⊢;exact h
              |false=>
               rw[Am,hx];refine ih ?_;split at h<;>simpa only[Am,hx] using h
            exact R sc.names e3
           exact S.h x P n2
         . exact .inl e3
         . exact .inr e3
       . obtain⟨o,U,hd⟩:=z
         exact⟨o,k _ _ U,hd⟩
 . rcases vA e with e|⟨_,e⟩
   . exact⟨none,jD x c e⟩
   . obtain⟨v,o,U,hd⟩:=I.G x c e
     exact⟨v,o,k _ _ U,hd⟩
 . rcases vA e with e|⟨_,e⟩
   . exact I.B.fresh (Az (CT _) (pK e))
   . exact I.D x c e
 . show (fr.map _).length=N.length
   rw[Ak];exact S.g
def mh:List TT->TT
 |[]=>λ_ H Q=>Q true H
 |t::ts=>λσ H Q=>t σ H λc H1=>if c=true then mh ts σ H1 Q else Q false H1
inductive PTs(X:Cx):List Expr->List TT->Prop
 |b:PTs X [] []
 |a {c:Expr} {cs:List Expr} {t:TT} {ts:List TT}:PT X c t->PTs X cs ts->PTs X (c::cs) (t::ts)
theorem r9{X:Cx}(h:Q false s):∀cs:List Expr,
 wpAny (model X.f X.w) X.A (forIn cs false λc r=>if r=true then do let ok <-isTrue c X.a (eval c X.a);pure (Ck ok) else pure (Ck r)) Q E s
 |[]=>Ae h
 |c::cs=>by rw[EM];exact dS (Ae (r9 h cs))
theorem PTs.run:∀{cs} {ts},PTs X cs ts->∀{pins} {s} {σ} {H} {Q},Inv X pins σ H s->mh ts σ H Q ->
 wpAny (model X.f X.w) X.A (forIn cs true λc r=>if r=true then do let ok <-isTrue c X.a (eval c X.a);pure (Ck ok) else pure (Ck r)) (TP X pins σ Q) X.i s
 |_,_,.b,pins,s,σ,H,Q,I,h=>Ae ⟨H,I,h⟩
 |_,_,.a hc hs,pins,s,σ,H,Q,I,h=>by
  rw[EM];refine dS (dS (thn (hc pins s σ H _ I h) λc s1 ⟨H1,I1,q1⟩=>Ae ?_));cases c with
  |true=>exact hs.run I1 q1
  |false=>exact r9 ⟨H1,I1,q1⟩ _
abbrev TB:=(St->Hp->Prop)->St->Hp->Prop
def PB(X:Cx)(B:Sem PUnit)(tb:TB):Prop:=
 ∀(pins:List (Addr × Obj)) (s:Shared) (σ:St) (H:Hp) (N:St->Hp->Prop),Inv X pins σ H s->tb N σ H->wpAny (model X.f X.w) X.A B (λ_ s'=>∃x H',Inv X pins x H' s'/\N x H') X.i s
def tTB(ts:List TT)(tb:TB):TS:=λD σ H=>mh ts σ H λc H1=>if c=true then tb D.a σ H1 else D.a σ H1
def nE(J:It)(g:TG)(tb:TS)(D:Ends)(σ:St)(H:Hp):Prop:=∃W:Nat->Nat->St->Hp->Prop,(∃m,W 0 m σ H)/\∀i m σ H,W i m σ H ->
 (J.a i H/\D.a σ H)\/(J.c i H/\∃N:St->Hp->Prop,(∀O H',N O H'->∃Q,Q<m/\W (i+1) Q O H')/\∀x H',J.b i H x H'->g x σ H' λP H2=>tb {D with a:=N,d:=N,c:=D.a} P H2)
def vF{X:Cx}{elt:Expr}{gens:List Fh}{csc:Scope}{cpos:Pos}{d:Nat}{tg:Expr}{p:Pos}{ifs:List Expr}{B:Sem PUnit}{acc:Value}{it:Addr}{fp:List Addr}{tn:Nat->Heap->Prop}{J:It}{g:TG}{ts:List TT}{tb:TB}{D:Ends}
 {pins:List (Addr × Obj)} {σ:St} {H:Hp} {s:Shared} {R:Result->Shared->Prop}
 (heq:Dx (.ListComp elt gens csc cpos) d (.ref it) acc X.a=(do
  standAt p
  match <-pyNext (.ref it) with
  |none=>pure (.done .next)
  |some v=>
   By tg (.ref it) v
   assign tg X.a v
   let mut ok:=true
   for c in ifs do
    if ok then ok <-isTrue c X.a (eval c X.a)
   if ok then B
   again (.compLoop (.ListComp elt gens csc cpos) d (.ref it) acc X.a)))
 (hx:X.i=λ_ _=>False) (hc:X.j=true) (T:Turn X.f X.w X.K tg J fp it tn) (hg:PG X tg g) (ht:PTs X ifs ts) (hb:PB X B tb)
 (I:Inv X pins σ H s) (st:tn 0 s.heap) (f:∀b∈fp,uq X pins H b) (h:nE J g (tTB ts tb) D σ H)
 (hR:∀P H' s',Inv X pins P H' s'->D.a P H'->(∀b∈fp,H' b=none)->R (.ok .next) s') :
 codeAny (model X.f X.w) X.A (.compLoop (.ListComp elt gens csc cpos) d (.ref it) acc X.a) R s:=by
 refine byG λpi S=>?_;obtain⟨W,⟨m0,w0⟩,turn⟩:=h;refine S ?_;have stat:∀{H':Hp},(∀b∈fp,H' b=none)->∀b∈fp,uq X pins H' b:=λhn b hb=>⟨hn b hb,(f b hb).2⟩;have no:∀{α:Type} {t:Sem α} {Q:α->Shared->Prop} {E':Value->Shared->Prop} {s:Shared},wpAny (model X.f X.w) X.A t Q X.i s->wpAny (model X.f X.w) X.A t Q E' s:=λh=>AF h (λ_ _ q=>q) λ_ _ z=>by rw[hx]at z;exact z.elim
 refine codeAny_loop rfl (λn s'=>∃i P H',Inv X pins P H' s'/\tn i s'.heap/\(∀b∈fp,H' b=none)/\W i n P H') (λn s3 hI=>?_) m0 ⟨0,σ,H,I,st,λb hb=>(f b hb).1,w0⟩;refine byG λpi S=>?_;obtain⟨i,Z,H3,I3,st3,fr3,w3⟩:=hI;refine S ?_;show wpAny _ _ ((Dx (.ListComp elt gens csc cpos) d (.ref it) acc X.a).onRaise (λx=>do EA x X.a;theTreesLotGoes x)) _ _ s3
 refine wpAny_noted ?_;rw[heq];refine dS (AY (dS ?_));rcases turn i n Z H3 w3 with⟨stop,qn⟩|⟨go,N,hN,step⟩
 . refine no (thn (T.d X rfl rfl rfl hc i pins s3 Z H3 X.i I3 (stat fr3) st3 stop) λr s4 zn=>?_)
   obtain⟨hr,I4⟩:=zn;subst hr;exact Ae (hR Z H3 s4 I4 qn fr3)
 . refine no (thn (T.e X rfl rfl rfl hc i pins s3 Z H3 X.i I3 (stat fr3) st3 go) λr s4 zn=>?_)
   obtain⟨u,hr,h4⟩:=zn;subst hr;refine dS (no (thn h4 λ_ s5 zn=>?_));refine byG λpi S=>?_;obtain⟨x,H5,I5,r5,y5,st5,fr5⟩:=zn;refine S ?_;have I5':=I5.pinned (stat fr5) (T.c _ _ st5);refine dS (no (thn (hg _ s5 Z H5 x u _ I5' r5 (step x H5 y5)) λ_ s6 zn=>?_));refine byG λpi S=>?_;obtain⟨σ6,H6,I6,q6⟩:=zn;refine S ?_;refine dS (no (thn (ht.run I6 q6) λok s7 zn=>?_));obtain⟨H7,I7,q7⟩:=zn;have U:∀{Y:St} {H7:Hp} {s7:Shared},Inv X (pins++pO fp s5.heap) Y H7 s7->N Y H7->∃m,m<n/\∃i P H',Inv X pins P H' s7/\tn i s7.heap/\(∀b∈fp,H' b=none)/\W i m P H':=λ{Y H7 s7} I7 n7=>by obtain⟨m',hm,w7⟩:=hN Y H7 n7;refine⟨m',hm,i+1,Y,H7,I7.sZ,T.a _ _ _ st5 λb hb o e=>(I7.O (b,o) (Bb _ (Bb _ (vh hb e)))).1,λb hb=>?_,w7⟩;obtain⟨o,e,d⟩:=T.c _ _ st5 b hb;exact(I7.O (b,o) (Bb _ (Bb _ (vh hb e)))).2.1
   cases ok with
   |false=>exact Ae ⟨rfl,U I7 q7⟩
   |true=>exact dS (no (thn (hb _ s7 σ6 H7 N I7 q7) λ_ s8 ⟨σ8,H8,I8,n8⟩=>Ae ⟨rfl,U I8 n8⟩))
def vz(acc:Addr)(te:TE):TB:=λN σ H=>te σ H λy H1=>∃x,H1 acc=some (.b x)/\x.length<Ap/\N σ (upd H1 acc (.b (x++[y])))
def sN(Q:PE X elt te):PB X (do let _ <-call (.builtin "list.append") [.ref acc,<-eval elt X.a]) (vz acc te):=by intro pins s σ H R I h;refine dS (thn (Q pins s σ H _ I h) λu s1 x=>?_);obtain⟨y,H1,U,r1,N,P,hz,q⟩:=x;refine dS (thn (ou pins s1 σ H1 (.c acc) [y] (.ref acc) [u] (λ_ H'=>R σ H') U rfl (.cons r1 .nil) ⟨acc,N,y,rfl,rfl,P,hz,q⟩) λ_ s2 x=>?_);obtain⟨_,H2,S,_,O⟩:=x;exact Ae ⟨σ,H2,S,O⟩
def vK(fr:List (Option Nat))(wi:TI)(g:TG)(ts:List TT)(tb:Addr->TB)(σ:St)(H:Hp)(Q:VK):Prop:=
 wi σ H λJ H1=>∀acc,H1 acc=none->nE J g (tTB ts (tb acc)) ⟨λ_ H'=>Q (.c acc) H',λ_ _=>False,λ_ _=>False,λ_ _=>False⟩ (za fr σ) (upd H1 acc (.b []))
section
variable {X:Cx}{pins:List (Addr × Obj)}{σ:St}{H:Hp}{s:Shared}{N:List Str}{csc:Scope}{fr:List (Option Nat)}{elt tg iter:Expr}{ifs:List Expr}{rest:List Fh}{cpos:Pos}{wi:TI}{g:TG}{ts:List TT}{tb:Addr->TB}
def iZ{outer:Env}{Q:Env->Shared->Prop}
 (P:∀h':Heap,h'.Ns s.heap.objs.size (λ_=>none)->(∀b o,s.heap.get? b=some o->h'.get? b=some o)->(∀x c,(wo scope s.heap.objs.size).lookup x=some c->h'.IsCell c none) ->
  Q {scope:=scope,locals:=s.heap.objs.size,globals:=globals,cells:=wo scope s.heap.objs.size++cl,qual:=qual,func:=none,code:=outer.code,frame:=outer.frame,builtins:=outer.builtins} {s with heap:=h'}) :
 wpAny M A (Gr scope globals cl [] qual none .none (some outer)) Q E s:=by
 simp only[Gr,Option.isSome_some,if_true];refine dS (wpAny_alloc ?_);refine dS (wpAny_layCells _ (λname kind cells=>by cases hkc:kind == Bi<;>simp[hkc]) _ _ _ _ ?_)
 have ok:=cellsFrom_ok scope.names (s.heap.push {cls:=.type "dict",data:=.dict #[]}) (s.heap.objs.size+1) [] ⟨λ_ _ N=>(nomatch N),Fw⟩ (by rw[Bw];exact Aa _)
 rw[Bw]at ok;rw[show ({s with heap:=s.heap.push {cls:=.type "dict",data:=.dict #[]}}:Shared).heap.objs.size=s.heap.objs.size+1 from Bw ..]
 rw[Gs];refine dS (Ae (Ae ?_));rw[tG];exact P _ ((Heap.Ns.new s.heap (.type "dict")).keeps (pushCells_keeps _ _)) (λb o e=>pushCells_keeps _ _ b o (xd _ e)) λx c O=>(ok.empty x c (mem_of_lookup O)).1
def rD{use:Option (Value->Sem Unit)}{QQ:Value->Shared->Prop}{Qv:VK}{B:Value->Env->Sem PUnit}{E:Value->Shared->Prop}(hE:E=X.i)(hc:X.j=true)(S:zm X N csc fr)(hi:PI X tg iter wi)
 (hturn:∀(it:Addr) (acc:Value) (env:Env),Dx (.ListComp elt (⟨tg,iter,ifs,0⟩::rest) csc cpos) 0 (.ref it) acc env=(do
  standAt iter.pos
  match <-pyNext (.ref it) with
  |none=>pure (.done .next)
  |some v=>
   By tg (.ref it) v
   assign tg env v
   let mut ok:=true
   for c in ifs do
    if ok then ok <-isTrue c env (eval c env)
   if ok then B acc env
   again (.compLoop (.ListComp elt (⟨tg,iter,ifs,0⟩::rest) csc cpos) 0 (.ref it) acc env)))
 (hg:∀C Z H0 ex,PG (X.comp N csc C Z H0 ex) tg g) (ht:∀C Z H0 ex,PTs (X.comp N csc C Z H0 ex) ifs ts)
 (P:∀C Z H0 ex acc,(∃Q,Inv X Q σ H0 Z/\∀b∈ex,uq X Q H0 b)->PB (X.comp N csc C Z H0 ex) (B (.ref acc) (X.comp N csc C Z H0 ex).a) (tb acc))
 (I:Inv X pins σ H s) (h:vK fr wi g ts tb σ H Qv)
 (hfin:∀acc C H' s',Inv X pins σ H' s'->Qv (.c acc) H'->(∃m,s'.heap.Ns C m)->H' C=none->C≠X.a.locals->X.l.heap.objs.size<=C->(∀x c,X.a.cells.lookup x=some c->c≠C)->(∀p∈X.q++pins,p.1≠C) ->
  compPost (model X.f X.w) X.A X.i use QQ (.ref acc) C (.ok .next) s') :
 wpAny (model X.f X.w) X.A (eval iter X.a) (λx s₁=>wpAny (model X.f X.w) X.A (pyIter x) (λit s₂=>wpAny (model X.f X.w) X.A (newList []) (λacc s₃=>
  wpAny (model X.f X.w) X.A (Gr csc X.a.globals (ur X.a.cells csc.names []) [] X.a.qual none .none (some X.a)) (λY s₄=>
   codeAny (model X.f X.w) X.A (.compStart (.ListComp elt (⟨tg,iter,ifs,0⟩::rest) csc cpos) 0 it acc {Y with scope:=relabel csc X.a}) (compPost (model X.f X.w) X.A E use QQ acc Y.locals) s₄) E s₃) E s₂) E s₁) E s:=by
 subst hE;refine thn (hi pins s σ H _ I h) λv s1 h1=>thn h1 λitv s2 h2=>?_;refine byG λpi gqa=>?_;obtain⟨it,fp,tn,J,H2,e,I2,T,st2,f2,q2⟩:=h2;refine gqa ?_;subst e;refine Bg ?_;have hfr:H2 s2.heap.objs.size=none:=I2.B.fresh (Aa _);have q3:=q2 s2.heap.objs.size hfr;generalize U:({s2 with heap:=s2.heap.push {cls:=.type "list",dict:=none,data:=.seq ([]:List Value).toArray}}:Shared)=s3
 have k23:∀b u,s2.heap.get? b=some u->s3.heap.get? b=some u:=λb u e=>by rw[<-U];exact xd _ e
 have new3:s3.heap.get? s2.heap.objs.size=some {cls:=.type "list",dict:=none,data:=.seq ([]:List Value).toArray}:=by rw[<-U];exact AD _ rfl
 have I3:Inv X pins σ (upd H2 s2.heap.objs.size (.b [])) s3:=by rw[<-U];exact I2.laid (t':=s2.toks) (λb u e=>xd _ e) (Aa _) ⟨Bs _,[],0,.nil,AD _ rfl⟩
 have lt2:∀b∈fp,b<s2.heap.objs.size:=λb P=>by obtain⟨o,e,_⟩:=T.c _ _ st2 b P;exact Al e
 have hsz:s3.heap.objs.size=s2.heap.objs.size+1:=by rw[<-U];exact Bw ..
 have f3:∀b∈fp,uq X pins (upd H2 s2.heap.objs.size (.b [])) b:=λb P=>⟨by rw[zG (AI (lt2 b P))];exact(f2 b P).1,(f2 b P).2⟩
 have lt3:∀b∈fp,b<s3.heap.objs.size:=λb P=>by rw[hsz];exact CJ (lt2 b P)
 refine iZ λh4 hns4' k34 own4=>?_;have I4:=kq (tk:=s3.toks) I3 S f3 lt3 hns4' k34 own4;have st4:tn 0 h4:=T.a _ _ _ st2 λb P o e=>k34 b o (k23 b o e);have f4:∀b∈fp,uq (X.comp N csc s3.heap.objs.size s3 (upd H2 s2.heap.objs.size (.b [])) fp) [] (upd H2 s2.heap.objs.size (.b [])) b:=λb P=>by have ok:=I4.C;obtain⟨g1,g2⟩:=ok.G b P;exact⟨(f3 b P).1,g1,ok.l b P,.inl P,g2,λp hp=>by simp at hp⟩
 have fin:∀σ' H' s',Inv (X.comp N csc s3.heap.objs.size s3 (upd H2 s2.heap.objs.size (.b [])) fp) [] σ' H' s'->Qv (.c s2.heap.objs.size) H'->(∀b∈fp,H' b=none) ->
  compPost (model X.f X.w) X.A X.i use QQ (.ref s2.heap.objs.size) s3.heap.objs.size (.ok .next) s':=λσ' H' s' I' q' _=>by
  have IX:Inv X pins σ H' s':=I3.RE I'.R I'.j I'.B I'.F λb P=>by refine byG λpi gqa=>?_;obtain⟨g0,g1,g2,g3,g4,g5⟩:=f3 b P;refine gqa ?_;exact⟨g3,g1,g4,g5⟩
  obtain⟨m,hn,_⟩:=I'.M;refine hfin _ _ H' s' IX q' ⟨m,hn⟩ I'.J (Dn I3.lt) I3.sz (λx c e=>?_) λp hp=>?_
  . obtain⟨w',z⟩:=I3.G x c e
    exact AI z.lt
  . exact AI (Al (I3.O p hp).1)
 have W:codeAny (model X.f X.w) X.A (.compLoop (.ListComp elt (⟨tg,iter,ifs,0⟩::rest) csc cpos) 0 (.ref it) (.ref s2.heap.objs.size) (compEnvC csc (wo csc s3.heap.objs.size++ur X.a.cells csc.names []) s3.heap.objs.size X.a))
  (compPost (model X.f X.w) X.A X.i use QQ (.ref s2.heap.objs.size) s3.heap.objs.size) {s3 with heap:=h4}:=
  vF (X:=X.comp N csc s3.heap.objs.size s3 (upd H2 s2.heap.objs.size (.b [])) fp) (hturn it _ _) rfl hc T (hg _ _ _ _) (ht _ _ _ _) (P _ _ _ _ _ ⟨pins,I3,f3⟩) I4 st4 f4 q3 fin
 exact codeAny_compStart_list W (T.f X.A 0 _ _ _ st4 W)
def lz{B:Value->Env->Sem PUnit}(hc:X.j=true)(S:zm X N csc fr)(hi:PI X tg iter wi)
 (P:∀(it:Addr) (acc:Value) (env:Env),Dx (.ListComp elt (⟨tg,iter,ifs,0⟩::rest) csc cpos) 0 (.ref it) acc env=(do
  standAt iter.pos
  match <-pyNext (.ref it) with
  |none=>pure (.done .next)
  |some v=>
   By tg (.ref it) v
   assign tg env v
   let mut ok:=true
   for c in ifs do
    if ok then ok <-isTrue c env (eval c env)
   if ok then B acc env
   again (.compLoop (.ListComp elt (⟨tg,iter,ifs,0⟩::rest) csc cpos) 0 (.ref it) acc env)))
 (hg:∀C O H0 ex,PG (X.comp N csc C O H0 ex) tg g) (ht:∀C O H0 ex,PTs (X.comp N csc C O H0 ex) ifs ts)
 (Y:∀C O H0 ex acc,PB (X.comp N csc C O H0 ex) (B (.ref acc) (X.comp N csc C O H0 ex).a) (tb acc))
 (hs:∀x,A0 iter X.a x=pure x:=by intro _;rfl) :
 PE X (.ListComp elt (⟨tg,iter,ifs,0⟩::rest) csc cpos) (vK fr wi g ts tb):=by
 intro pins s σ H Q I h;rw[eval_ListComp];refine DV (use:=none) rfl hs (wk (S.cells I.C)) S.b S.a ?_;refine rD (use:=none) rfl hc S hi P hg ht (λC O H0 ex acc _=>Y C O H0 ex acc) I h λacc C H' s' I' q' U hC hL h0 W R=>?_;obtain⟨m,U⟩:=U;refine⟨m,U,λh' Z=>⟨.c acc,H',?_,rfl,q'⟩⟩;exact I'.turned (t':=s'.toks) (λb o Y e=>(Z.2 b Y).trans e) hC (A9 (A9 hL)) (.inr h0) W R
def ZR{B:Value->Env->Sem PUnit}{tp:St->Addr->TB}(hc:X.j=true)(S:zm X N csc fr)(hi:PI X tg iter wi)
 (R:∀(it:Addr) (acc:Value) (env:Env),Dx (.ListComp elt (⟨tg,iter,ifs,0⟩::rest) csc cpos) 0 (.ref it) acc env=(do
  standAt iter.pos
  match <-pyNext (.ref it) with
  |none=>pure (.done .next)
  |some v=>
   By tg (.ref it) v
   assign tg env v
   let mut ok:=true
   for c in ifs do
    if ok then ok <-isTrue c env (eval c env)
   if ok then B acc env
   again (.compLoop (.ListComp elt (⟨tg,iter,ifs,0⟩::rest) csc cpos) 0 (.ref it) acc env)))
 (hg:∀C P H0 ex,PG (X.comp N csc C P H0 ex) tg g) (ht:∀C P H0 ex,PTs (X.comp N csc C P H0 ex) ifs ts)
 (Z:∀σ C P H0 ex acc,(∃O,Inv X O σ H0 P/\∀b∈ex,uq X O H0 b)->PB (X.comp N csc C P H0 ex) (B (.ref acc) (X.comp N csc C P H0 ex).a) (tp σ acc))
 (hs:∀x,A0 iter X.a x=pure x:=by intro _;rfl) :
 PE X (.ListComp elt (⟨tg,iter,ifs,0⟩::rest) csc cpos) (λσ=>vK fr wi g ts (tp σ) σ):=by
 intro pins s σ H Q I h;rw[eval_ListComp];refine DV (use:=none) rfl hs (wk (S.cells I.C)) S.b S.a ?_;refine rD (use:=none) rfl hc S hi R hg ht (Z σ) I h λacc C H' s' I' q' W hC hL h0 Y U=>?_;obtain⟨m,W⟩:=W;refine⟨m,W,λh' sb=>⟨.c acc,H',?_,rfl,q'⟩⟩;exact I'.turned (t':=s'.toks) (λb o Z e=>(sb.2 b Z).trans e) hC (A9 (A9 hL)) (.inr h0) Y U
def kA{B:Value->Env->Sem PUnit}{y:Str}{py O:Pos}{i:Nat}(hc:X.j=true)(S:zm X N csc fr)(hi:PI X tg iter wi)
 (R:∀(it:Addr) (acc:Value) (env:Env),Dx (.ListComp elt (⟨tg,iter,ifs,0⟩::rest) csc cpos) 0 (.ref it) acc env=(do
  standAt iter.pos
  match <-pyNext (.ref it) with
  |none=>pure (.done .next)
  |some v=>
   By tg (.ref it) v
   assign tg env v
   let mut ok:=true
   for c in ifs do
    if ok then ok <-isTrue c env (eval c env)
   if ok then B acc env
   again (.compLoop (.ListComp elt (⟨tg,iter,ifs,0⟩::rest) csc cpos) 0 (.ref it) acc env)))
 (hg:∀C P H0 ex,PG (X.comp N csc C P H0 ex) tg g) (ht:∀C P H0 ex,PTs (X.comp N csc C P H0 ex) ifs ts)
 (hb:∀C P H0 ex acc,PB (X.comp N csc C P H0 ex) (B (.ref acc) (X.comp N csc C P H0 ex).a) (tb acc))
 (hN:X.N.Nodup) (hy:X.N[i]?=some y) (hx:Loc X.a.scope y)
 (Z:DP (.ListComp elt (⟨tg,iter,ifs,0⟩::rest) csc cpos) (some (.Name y py)) O.line X.a=pure true:=by rfl)
 (hf:X.n y=true\/X.a.scope.names.lookup y=some .local:=by first|exact .inl rfl|exact .inr rfl|assumption)
 (hs:∀x,A0 iter X.a x=pure x:=by intro _;rfl) :
 PS X (.Assign [.Name y py] (.ListComp elt (⟨tg,iter,ifs,0⟩::rest) csc cpos) O) (uv (vK fr wi g ts tb) (xh i)):=by
 intro pins s σ H D I h;rw[exec_Assign_Name_used _ _ _ _ Z];refine dS (AY (dS ?_));show wpAny _ X.A (do let _ <-Em (.ListComp elt (⟨tg,iter,ifs,0⟩::rest) csc cpos) csc X.a _ (newList []) false (eval iter X.a) (some (assign (.Name y py) X.a))) _ _ s
 refine dS (AF (DV (use:=some (assign (.Name y py) X.a)) (Q:=λ_ s'=>SP X pins D .next s') rfl hs (wk (S.cells I.C)) S.b S.a ?_) (λ_ s' hq=>Ae (Ae hq)) λ_ _ e=>e);refine rD (use:=some (assign (.Name y py) X.a)) rfl hc S hi R hg ht (λC P H0 ex acc _=>hb C P H0 ex acc) I h λacc C H' s' I' q' hn hC hL h0 U hpn=>?_;obtain⟨m,hn⟩:=hn;show wpAny _ X.A (assign (.Name y py) X.a (.ref acc)) _ _ _;refine wpAny_assign_Name (nI I' hN hy hx (show RelV (.c acc) (.ref acc) from rfl) (λs2 I2 zn=>?_) hf);obtain⟨a,sb,W⟩:=zn;have haC:C≠a:=by
  rcases W with W|W
  . rw[W];exact hL
  . exact A9 (U y a W)
 refine⟨m,hn.sameBut sb haC,λh' Y=>⟨_,H',?_,q'⟩⟩;exact I2.turned (t':=s2.toks) (λb o hb e=>(Y.2 b hb).trans e) hC hL (.inr h0) U hpn
def YI(elt tg iter:Expr)(ifs:List Expr)(csc:Scope)(cpos:Pos)(it:Addr)(acc:Value)(env:Env) :
 Dx (.ListComp elt [⟨tg,iter,ifs,0⟩] csc cpos) 0 (.ref it) acc env=(do
  standAt iter.pos
  match <-pyNext (.ref it) with
  |none=>pure (.done .next)
  |some v=>
   By tg (.ref it) v
   assign tg env v
   let mut ok:=true
   for c in ifs do
    if ok then ok <-isTrue c env (eval c env)
   if ok then (do let _ <-call (.builtin "list.append") [acc,<-eval elt env])
   again (.compLoop (.ListComp elt [⟨tg,iter,ifs,0⟩] csc cpos) 0 (.ref it) acc env)):=by rfl
def Vj(elt tg iter:Expr)(ifs:List Expr)(O N:Expr)(ifs2:List Expr)(csc:Scope)(cpos:Pos)(it:Addr)(acc:Value)(env:Env) :
 Dx (.ListComp elt [⟨tg,iter,ifs,0⟩,⟨O,N,ifs2,0⟩] csc cpos) 0 (.ref it) acc env=(do
  standAt iter.pos
  match <-pyNext (.ref it) with
  |none=>pure (.done .next)
  |some v=>
   By tg (.ref it) v
   assign tg env v
   let mut ok:=true
   for c in ifs do
    if ok then ok <-isTrue c env (eval c env)
   if ok then (do
    let x <-eval N env
    standAt N.pos
    let x <-A0 N env x;let _ <-runOwn (.compStart (.ListComp elt [⟨tg,iter,ifs,0⟩,⟨O,N,ifs2,0⟩] csc cpos) 1 (<-holding [x] (pyIter x)) acc env) env)
   again (.compLoop (.ListComp elt [⟨tg,iter,ifs,0⟩,⟨O,N,ifs2,0⟩] csc cpos) 0 (.ref it) acc env)):=by
 have e:Dx (.ListComp elt [⟨tg,iter,ifs,0⟩,⟨O,N,ifs2,0⟩] csc cpos) 0 (.ref it) acc env=(do
  standAt iter.pos
  match <-pyNext (.ref it) with
  |none=>pure (.done .next)
  |some v=>
   By tg (.ref it) v
   assign tg env v
   let mut ok:=true
   for c in ifs do
    if ok then ok <-isTrue c env (eval c env)
   if ok then
    let x <-eval N env
    standAt N.pos
    let x <-A0 N env x;let _ <-runOwn (.compStart (.ListComp elt [⟨tg,iter,ifs,0⟩,⟨O,N,ifs2,0⟩] csc cpos) 1 (<-holding [x] (pyIter x)) acc env) env
   again (.compLoop (.ListComp elt [⟨tg,iter,ifs,0⟩,⟨O,N,ifs2,0⟩] csc cpos) 0 (.ref it) acc env)):=by rfl
 rw[e];simp only[bind_assoc,DU]
def Sr(elt tg iter:Expr)(ifs:List Expr)(N x:Expr)(ifs2:List Expr)(csc:Scope)(cpos:Pos)(it:Addr)(acc:Value)(env:Env) :
 Dx (.ListComp elt [⟨tg,iter,ifs,0⟩,⟨N,x,ifs2,0⟩] csc cpos) 1 (.ref it) acc env=(do
  standAt x.pos
  match <-pyNext (.ref it) with
  |none=>pure (.done .next)
  |some v=>
   By N (.ref it) v
   assign N env v
   let mut ok:=true
   for c in ifs2 do
    if ok then ok <-isTrue c env (eval c env)
   if ok then (do let _ <-call (.builtin "list.append") [acc,<-eval elt env])
   again (.compLoop (.ListComp elt [⟨tg,iter,ifs,0⟩,⟨N,x,ifs2,0⟩] csc cpos) 1 (.ref it) acc env)):=by rfl
end
def kn
 (h0:codeAny (model prog w) A (.compLoop (.ListComp elt [⟨tg,iter,ifs,0⟩,⟨tg2,iter2,ifs2,0⟩] csc cpos) 1 it acc env) R s)
 (h:wpAny (model prog w) A (pyIter it) (λN s'=>codeAny (model prog w) A (.compLoop (.ListComp elt [⟨tg,iter,ifs,0⟩,⟨tg2,iter2,ifs2,0⟩] csc cpos) 1 N acc env) R s')
  (notedBy (model prog w) A env λx s'=>R (.error x) s') s) :
 codeAny (model prog w) A (.compStart (.ListComp elt [⟨tg,iter,ifs,0⟩,⟨tg2,iter2,ifs2,0⟩] csc cpos) 1 it acc env) R s:=by
 refine Gd ?_;show wpAny _ _ ((compStart (.ListComp elt [⟨tg,iter,ifs,0⟩,⟨tg2,iter2,ifs2,0⟩] csc cpos) 1 it acc env).onRaise (λx=>do EA x env;standAt theWindowsPlace)) _ _ s
 refine wpAny_notedAt ?_;unfold compStart;show wpAny _ _ (ask >>= _) _ _ s;refine dS (wpAny_askSetting (wpAny_ite ?_));split
 . first
    |exact dS (Ae (Ae (Ad rfl h0)))
    |exact Ae (Ad rfl h0)
 . first
    |exact dS (EH (dS (AY (dS (AF h (λN s' h'=>Ae (Ad rfl h')) λ_ _ x=>x)))))
    |(refine dS (EH ?_);show wpAny _ _ (standAt iter2.pos >>= _) _ _ s;exact dS (AY (dS (AF h (λN s' h'=>Ae (Ad rfl h')) λ_ _ x=>x))))
def pZ(wi:TI)(g:TG)(ts:List TT)(tb:TB):TB:=λN σ H=>wi σ H λJ H1=>nE J g (tTB ts tb) ⟨N,λ_ _=>False,λ_ _=>False,λ_ _=>False⟩ σ H1
def lu
 (hx:X.i=λ_ _=>False) (hc:X.j=true) (hi:PI X tg2 iter2 wi) (Z:PG X tg2 g) (W:PTs X ifs2 ts) (hb:PB X (do let _ <-call (.builtin "list.append") [.ref acc,<-eval elt X.a]) tb)
 (Y:∀x,A0 iter2 X.a x=pure x:=by intro _;rfl) :
 PB X (do
       let x <-eval iter2 X.a
       standAt iter2.pos
       let x <-A0 iter2 X.a x;let _ <-runOwn (.compStart (.ListComp elt [⟨tg,iter,ifs,0⟩,⟨tg2,iter2,ifs2,0⟩] csc cpos) 1 (<-holding [x] (pyIter x)) (.ref acc) X.a) X.a) (pZ wi g ts tb):=by
 intro pins s σ H Nx I h;refine dS (thn (hi pins s σ H _ I h) λv s1 h1=>dS (AY (dS (wpAny_of_eq (Y v) (dS (Bv (thn h1 λU s2 h2=>?_)))))));refine byG λpi Q=>?_;obtain⟨it,fp,tn,J,H2,e,I2,T,P,f2,R⟩:=h2;refine Q ?_;subst e;refine dS (wpAny_runOwn ?_);have O:codeAny (model X.f X.w) X.A (.compLoop (.ListComp elt [⟨tg,iter,ifs,0⟩,⟨tg2,iter2,ifs2,0⟩] csc cpos) 1 (.ref it) (.ref acc) X.a)
  (λr s'=>match r with|.ok f=>wpAny (model X.f X.w) X.A (pure PUnit.unit:Sem PUnit) (λ_ s'=>∃N H',Inv X pins N H' s'/\Nx N H') X.i s'|.error e=>FI (model X.f X.w) X.A X.a X.i e s') s2:=
  vF (Sr ..) hx hc T Z W hb I2 P f2 R λN H' s' I' S _=>Ae ⟨N,H',I',S⟩
 exact kn O (T.f X.A 0 _ _ _ P O)
def qQ(W:X.j=true)(S:zm X N csc fr)(hi:PI X tg iter wi)(R:∀C O H0 ex,PG (X.comp N csc C O H0 ex) tg g)(P:∀C O H0 ex,PTs (X.comp N csc C O H0 ex) ifs ts)
 (U:∀C O H0 ex,PE (X.comp N csc C O H0 ex) elt te) (Q:∀x,A0 iter X.a x=pure x:=by intro _;rfl) :
 PE X (.ListComp elt [⟨tg,iter,ifs,0⟩] csc cpos) (vK fr wi g ts λacc=>vz acc te):=
 lz W S hi (B:=λacc env=>(do let _ <-call (.builtin "list.append") [acc,<-eval elt env])) (YI elt tg iter ifs csc cpos) R P (λC O H0 ex acc=>sN (U C O H0 ex)) Q
def gb(Z:X.j=true)(S:zm X N csc fr)(hi:PI X tg iter wi)(W:∀C O H0 ex,PG (X.comp N csc C O H0 ex) tg g)(R:∀C O H0 ex,PTs (X.comp N csc C O H0 ex) ifs ts)
 (Y:∀C O H0 ex,PE (X.comp N csc C O H0 ex) elt te) (hN:X.N.Nodup) (Q:X.N[i]?=some y) (hx:Loc X.a.scope y)
 (P:DP (.ListComp elt [⟨tg,iter,ifs,0⟩] csc cpos) (some (.Name y py)) spos.line X.a=pure true:=by rfl)
 (hf:X.n y=true\/X.a.scope.names.lookup y=some .local:=by first|exact .inl rfl|exact .inr rfl|assumption)
 (U:∀x,A0 iter X.a x=pure x:=by intro _;rfl) :
 PS X (.Assign [.Name y py] (.ListComp elt [⟨tg,iter,ifs,0⟩] csc cpos) spos) (uv (vK fr wi g ts λacc=>vz acc te) (xh i)):=
 kA Z S hi (B:=λacc env=>(do let _ <-call (.builtin "list.append") [acc,<-eval elt env])) (YI elt tg iter ifs csc cpos) W R (λC O H0 ex acc=>sN (Y C O H0 ex)) hN Q hx P hf U
def ly(W:X.j=true)(S:zm X N csc fr)(hi:PI X tg iter wi)(hg:∀C O H0 ex,PG (X.comp N csc C O H0 ex) tg g)(Y:∀C O H0 ex,PTs (X.comp N csc C O H0 ex) ifs ts)
 (R:∀C O H0 ex,PI (X.comp N csc C O H0 ex) tg2 iter2 wi2) (U:∀C O H0 ex,PG (X.comp N csc C O H0 ex) tg2 g2) (P:∀C O H0 ex,PTs (X.comp N csc C O H0 ex) ifs2 ts2)
 (he:∀C O H0 ex,PE (X.comp N csc C O H0 ex) elt te) (Z:∀x,A0 iter X.a x=pure x:=by intro _;rfl)
 (Q:∀env x,A0 iter2 env x=pure x:=by intro _ _;rfl) :
 PE X (.ListComp elt [⟨tg,iter,ifs,0⟩,⟨tg2,iter2,ifs2,0⟩] csc cpos) (vK fr wi g ts λacc=>pZ wi2 g2 ts2 (vz acc te)):=
 lz W S hi (B:=λacc env=>(do
         let x <-eval iter2 env
         standAt iter2.pos
         let x <-A0 iter2 env x;let _ <-runOwn (.compStart (.ListComp elt [⟨tg,iter,ifs,0⟩,⟨tg2,iter2,ifs2,0⟩] csc cpos) 1 (<-holding [x] (pyIter x)) acc env) env)) (Vj elt tg iter ifs tg2 iter2 ifs2 csc cpos) hg Y
  (λC O H0 ex acc=>lu rfl W (R C O H0 ex) (U C O H0 ex) (P C O H0 ex) (sN (he C O H0 ex)) (Q _)) Z
def qc:yT X (.builtin "isinstance") (λN H Q=>∃x c t b,N=[x,.k c]/\tx X.K H x (.type t)/\Gk X.K (.type t) (.type c)=some b/\Q (.f b) H):=by intro pins s σ H N us Q I r h;obtain⟨x,c,t,b,rfl,P,e,q⟩:=h;obtain⟨u,O,rfl,R,S⟩:=vals2 r;cases (show O=FE c from S);exact fj I R P e λtk=>⟨.f b,H,I.tok _,rfl,q⟩
inductive Kd where
 |f|i|b|h|e|d|g
 deriving DecidableEq
noncomputable def Kd.nm:Kd->String
 |.f=>"NoneType"|.i=>"bool"|.b=>"int"|.h=>"str"|.e=>"list"|.d=>"tuple"|.g=>"dict"
noncomputable def Kd.sub(a c:Kd):Bool:=decide (a=c)||(decide (a=.i)&&decide (c=.b))
def TH K(a c:Kd)(x:c≠.f):Gk K (.type a.nm) (.type c.nm)=some (a.sub c):=by
 cases c with
 |f=>exact absurd rfl x
 |i=>cases a<;>rfl
 |b=>cases a<;>rfl
 |h=>cases a<;>rfl
 |e=>cases a<;>rfl
 |d=>cases a<;>rfl
 |g=>cases a<;>rfl
def all_range:∀(bs:List Bool),((AR bs.length).all λi=>bs.getD i false)=bs.all id:=by
 intro bs;induction bs with
 |nil=>rfl
 |cons b bs x=>
  rw[AB,List.range_succ_eq_map,CG,CG,List.all_map];exact congrArg (b&&·) (Eq.trans (by congr 1) x)
theorem Vals.bools:∀{bs:List Bool} {us},Vals (bs.map V.f) us->us=bs.map C7
 |[],us,r=>by cases r;rfl
 |b::bs,us,r=>by
  rw[AZ]at r;cases r with
  |cons r1 x=>
   cases (show _=C7 b from r1);rw[Vals.bools x,AZ]
def qb(hc:X.j=true):yT X (.builtin "all") (λY H Q=>∃(a:Addr) (bs:List Bool),Y=[.c a]/\SqL X.K H a (bs.map V.f)/\Q (.f (bs.all id)) H):=by
 intro pins s σ H Y us Q I r h;obtain⟨a,bs,rfl,ha,q⟩:=h;obtain⟨u,rfl,ru⟩:=vals1 r;cases ru;obtain⟨P,Z,S,hz⟩:=I.list ha;have N:=Z.bools;have W:a<s.heap.objs.size:=by obtain⟨o,O,_⟩:=S.isList;exact Al O
 refine call_all_walk (Ed S.isList ?_);refine⟨s.heap.objs.size,_,_,_,_,_,λi=>bs.getD i false,rfl,Walks.list (A:=X.A.in1) (I.C.k hc) s.heap.objs.size a (AI W) P.toArray,⟨⟨_,AD _ rfl,rfl,rfl⟩,?_⟩,?_,λh' tk hk=>?_⟩
 . obtain⟨o,O,U,n,hd⟩:=S.isList
   exact⟨o,xd _ O,U,n,hd⟩
 . intro i v s' Q' E' hv hq
   have x:(bs.map C7)[i]?=some v:=by rw[<-N];simpa using hv
   rw[A1]at x;cases hb:bs[i]? with
   |none=>rw[hb]at x;cases x
   |some b=>
    rw[hb]at x;have:v=C7 b:=(AX x).symm;subst this;have e:bs.getD i false=b:=by rw[AQ,hb];rfl
    have R:Q' (bs.getD i false) s':=hq;rw[e]at R;exact BH R
 . have e:(AR P.toArray.size).all (λi=>bs.getD i false)=bs.all id:=by rw[Ah,N,Ak];exact all_range bs
   rw[e];refine⟨.f (bs.all id),H,I.kept λb o O=>hk b o ?_ (xd _ O),rfl,q⟩;simpa using AI (Al O)
def Zz(h:H p=none)o:wC H (upd H p o):=λb u q=>by rw[zG (zR q h)];exact q
def rZ(H:Hp)(x:List V)(Q:VK):Prop:=∀p H',wC H H'->H' p=some (.c x)->Q (.c p) H'
def rZ.new(g:rZ H ys Q):∀p,H p=none->Q (.c p) (upd H p (.c ys)):=λp hp=>g p _ (Zz hp _) zJ
def Pm:V->Option Int->Option Int->Hp->VK->Prop:=λx lo hi H Q=>∃a N,x=.c a/\H a=some (.c N)/\rZ H (oE N lo hi) Q
def VW:R2:=λx y H Q=>∃a b O N,x=.c a/\y=.c b/\H a=some (.c O)/\H b=some (.c N)/\O.length+N.length<=Ap/\rZ H (O++N) Q
def Ql:R2:=λx y H Q=>∃a k N,x=.c a/\y=.d k/\H a=some (.c N)/\2<=k/\k<=1000/\N≠[]/\N.length<=1000/\rZ H (Aj k.toNat N).flatten Q
def fU{lo hi}(N:IsTup s.heap t items)(S:s.heap.IsSliceOf sl vl vu .none)(W:IsPart vl lo)(U:IsPart vu hi)
 (h0:HT.sIx items.size 0 lo=0) (h1:HT.sIx items.size items.size hi=items.size) (h:Q (.ref t) s):wpAny (model prog w) A (getItem (.ref t) (.ref sl)) Q E s:=by
 obtain⟨os,O,P,Y⟩:=id S;have R:s.TypeIs (.ref sl) "slice":=⟨os,O,P⟩;unfold getItem
 try with_reducible refine Bv ?_
 first|refine dS (Ae ?_)|skip
 refine dS (Fu N.typeIs (by decide) ?_)
 refine dS (D9 (name:=EK "__getitem__") N.typeIs A6
  (FP A6 N.typeIs EV ?_ (E4 _ _)))
 show wpAny _ _ (DG (.ref t) >>= _) _ _ s;refine dS (El N ?_);refine dS (DR R ?_);rw[if_pos (by decide)]
 refine dS (HT.vP S W U ?_);have x:(((HT.sIx items.size 0 lo:Nat):Int) == 0&&(1:Int) == 1&&(HT.sIx items.size items.size hi-HT.sIx items.size 0 lo) == items.size)=true:=by rw[h0,h1];simp
 show wpAny _ _ (if (((HT.sIx items.size 0 lo:Nat):Int) == 0&&(1:Int) == 1&&(HT.sIx items.size items.size hi-HT.sIx items.size 0 lo) == items.size)=true then _ else _) _ _ s
 rw[if_pos x];unfold Fi;refine dS (dS (DR N.typeIs (Ae ?_)));rw[if_pos (by decide)]
 exact dS (EH (Ae ⟨_,rfl,Ae h⟩))
def Wa:SlR X Pm:=by
 intro pins s σ H x v vl Z lo hi sl Q I R Y U S h;obtain⟨a,O,rfl,hx,g⟩:=h;by_cases hw:HT.sIx O.length 0 lo=0/\HT.sIx O.length O.length hi=O.length
 . cases R
   obtain⟨P,r,W,hz⟩:=I.tuple (.inl (.inl hx));have N:P.toArray.size=O.length:=by rw[Ah];exact r.length.symm
   refine⟨"tuple",_,A6.lookup,W.typeIs,?_⟩;refine fU W Y U S (by rw[N];exact hw.1) (by rw[N];exact hw.2) ⟨.c a,H,I,rfl,g a H (wC.refl H) ?_⟩
   rw[hx];unfold oE;rw[hw.1,hw.2,Dq,FU,List.take_length]
 . exact pV pins s σ H (.c a) v vl Z lo hi sl Q I R Y U S ⟨a,O,rfl,.inl (.inl hx),hw,g.new⟩
def ax:OpR X (BD .Add) VW:=by
 intro pins s σ H x y v u Q I rx ry h;obtain⟨a,b,xs,ys,rfl,rfl,W,U,hz,g⟩:=h;by_cases hx:xs=[]
 . cases rx
   cases ry;subst hx;obtain⟨its,r1,p1,_⟩:=I.tuple (.inl (.inl W));obtain⟨N,r2,p2,_⟩:=I.tuple (.inl (.inl U));cases r1;obtain⟨⟨cls,dd,data,sl⟩,ho,hc,n,hd⟩:=id p1;obtain⟨⟨cls2,Y,Z,S⟩,O,R,n2,P⟩:=id p2;simp only at hc hd R P;subst hc hd R P;exact concat_meets ⟨_,ho,rfl⟩ ⟨_,O,rfl⟩ Eo Ff B8 B4 (BX _ _)
    (tuple_addW0 a b #[] N.toArray n n2 dd Y sl S rfl) ⟨ho,O,⟨.c b,H,I,rfl,g b H (wC.refl H) U⟩⟩
 . refine Xz pins s σ H (.c a) (.c b) v u Q I rx ry ⟨a,b,xs,ys,rfl,rfl,.inl (.inl W),.inl (.inl U),hx,hz,λe=>?_,λ_=>g.new⟩
   subst e;rw[A4]at g;exact g a H (wC.refl H) W
def xw:fillsNumberSlot (.type "tuple") "mul"=pure false:=
 PySem.fillsNumberSlot_seq (id:="tuple.__mul__") (r:=some (.builtin "tuple.__rmul__")) Dy.lookup (by decide +kernel) F.slot_tuple_rmul.lookup (by decide +kernel)
def vn:seqRepeat? (.type "tuple")=pure (some (.builtin "tuple.__mul__")):=by
 unfold seqRepeat?;rw[PySem.seqSlot_of (T:="tuple") (name:="__mul__") (id:="tuple.__mul__") Dy.lookup (by decide +kernel),PySem.seqSlot_of (T:="tuple") (name:="__rmul__") (id:="tuple.__rmul__") F.slot_tuple_rmul.lookup (by decide +kernel)]
 rfl
def wU a t l items n dd sl :
 Meets (Builtin.«int.__rmul__» ⟨[.int a t,.ref l],[]⟩) (λ_ R s=>s.heap.get? l=some {cls:=.type "tuple",dict:=dd,data:=.seq items n,slots:=sl}/\R (.ok (.ret Value.notImplemented)) s):=
 .of_wp λprog w A R s h=>by obtain⟨hp,g,d,tk,os⟩:=s;obtain⟨x,h⟩:=h;wp_walk;exact⟨_,rfl,h⟩
def iU l items n x u dd sl(h1:2<=x)(h2:x<=1000)(Q:¬items.isEmpty=true)(Z:items.size<=1000) :
 Meets (Builtin.«tuple.__mul__» ⟨[.ref l,.int x u],[]⟩) (λ_ R s=>s.heap.get? l=some {cls:=.type "tuple",dict:=dd,data:=.seq items n,slots:=sl} /\
  R (.ok (.ret (AH s.heap.objs.size))) {s with heap:=s.heap.push {cls:=FE "tuple",data:=Data.seq (D6 (λO N=>O++N) #[] (Aj x.toNat items))},toks:=s.toks}):=
 .of_wp λprog w A R s h=>by
  obtain⟨hp,g,d,tk,os⟩:=s;obtain⟨U,h⟩:=h;have f1:=FV;have c1:¬((decide (x < -(2 ^ 63))||decide (x ≥ 2 ^ 63))=true):=by simp;omega
  have c2:¬((items.isEmpty||x == 1)=true):=by simp at Q ⊢;exact⟨Q,⋯⟩
  have c3:¬((decide (x<=0)||items.isEmpty)=true):=by simp at Q ⊢;exact⟨⋯,Q⟩
  have S:(items.size:Int)*x<=1000*1000:=Int.mul_le_mul ⋯ h2 ⋯ ⋯
  have c4:¬((items.size:Int)*x > (2 ^ 63-1)/8):=by omega
  have W:Ap=16777216:=AK;have c5:¬(DH ((items.size:Int)*x)=true):=by unfold DH;rw[W];simp only[decide_eq_true_eq];omega
  have Y:(D6 (λO N=>O++N) #[] (Aj x.toNat items)).size=x.toNat*items.size:=by have e:=foldl_rep items.toList x.toNat [];simp only[Array.toArray_toList,De]at e;rw[e,Ah,len_rep,C6]
  have P:sizeOk (.seq (D6 (λO N=>O++N) #[] (Aj x.toNat items))):=by
   show (D6 (λO N=>O++N) #[] (Aj x.toNat items)).size<=Ap;rw[Y,W];have:x.toNat*items.size<=1000*1000:=Gu ⋯ Z
   omega
  wp_walk using DN U
  rw[if_neg c1];refine dS (El (items:=items) ⟨_,U,rfl,n,rfl⟩ ?_);rw[if_neg c2];show wpAny _ _ (if (decide (x<=0)||items.isEmpty)=true then _ else _) _ _ _
  rw[if_neg c3];show wpAny _ _ (if (items.size:Int)*x > (2 ^ 63-1)/8 then _ else _) _ _ _
  rw[if_neg c4];show wpAny _ _ (if DH ((items.size:Int)*x)=true then _ else _) _ _ _
  rw[if_neg c5];exact dS (m:=Bn _) (Bg (Ae ⟨_,rfl,h⟩) P)
def X5:OpR X (BD .Mult) Ql:=by
 intro pins s σ H x y v u Q I rx Z h;obtain⟨a,k,P,rfl,rfl,ha,h1,h2,h3,Y,g⟩:=h;cases rx;obtain⟨t,rfl⟩:=Z;obtain⟨N,r,p1,_⟩:=I.tuple (.inl (.inl ha));obtain⟨⟨cls,dd,data,S⟩,O,W,n,hd⟩:=id p1;simp only at W hd;subst W hd;have hl:=r.length;have R:¬N.toArray.isEmpty=true:=by simp;intro e;exact h3 (r.wd.mp e)
 refine CP (T:="tuple") (U:="int") (by decide) ⟨_,O,rfl⟩ (λs'=>Dd s' k t) xw EL Cj vn Er.lookup
  (BV Cj (Dd s k t) Es (Ee _ _) (wU k t a N.toArray n dd S)
   ⟨O,rfl,⟨_,O,rfl⟩,BV Dy ⟨_,O,rfl⟩ Fy (E7 _ _) (iU a N.toArray n k t dd S h1 h2 R (by rw[Ah,<-hl];exact Y)) ⟨O,?_⟩⟩)
 have e:=foldl_rep N k.toNat [];rw[De]at e;have hz:(Aj k.toNat P).flatten.length<=Ap:=by
  rw[len_rep,AK];have:k.toNat*P.length<=1000*1000:=Gu ⋯ Y
  omega
 refine⟨.c s.heap.objs.size,_,I.laid (t':=s.toks) (o:=.c (Aj k.toNat P).flatten) (λb ob q=>xd _ q) (Aa _) ⟨hz,(Aj k.toNat N).flatten,r.rep k.toNat,?_⟩,rfl,g.new _ (I.B.fresh (Aa _))⟩;rw[show (#[]:Array Value)=([]:List Value).toArray from rfl,e];exact tu.new _ _
section
variable {X:Cx}{pos:Pos}
def Vf(i j k:Nat)(ta:TA):TS:=λD σ H=>ta σ H λvs H1=>∃v w z,vs=[v,w,z]/\D.a (((σ.set i (some v)).set j (some w)).set k (some z)) H1
def vals3(r:Vals [x,y,z] us):∃P O N,us=[P,O,N]/\RelV x P/\RelV y O/\RelV z N:=by
 cases r with
 |cons r1 W=>
  cases W with
  |cons U S=>
   cases S with
   |cons R Q=>cases Q;exact⟨_,_,_,rfl,r1,U,R⟩
def WO{kt k2 pt2}(hc:X.j=true)(hN:X.N.Nodup)(hi:X.N[i]?=some x)(hj:X.N[j]?=some y)(hk:X.N[k]?=some z)(Z:i≠j)(Y:i≠k)(W:j≠k)
 (hx:X.a.scope.names.lookup x=some .local) (hy:X.a.scope.names.lookup y=some .local) (hz:X.a.scope.names.lookup z=some .local) (ha:PA X [a,b,c] ta)
 (hw:BY [.Tuple [.Name x px,.Name y py,.Name z pz] kt pt] (.Tuple [a,b,c] k2 pt2) X.a=pure (some [x,y,z]))
 (hs:Ek [.Tuple [.Name x px,.Name y py,.Name z pz] kt pt] (.Tuple [a,b,c] k2 pt2) pos.line X.a=pure false:=by rfl) :
 PS X (.Assign [.Tuple [.Name x px,.Name y py,.Name z pz] kt pt] (.Tuple [a,b,c] k2 pt2) pos) (Vf i j k ta):=by
 intro pins s σ H D I h;rw[exec_Assign_arm];refine dS (AY ?_);rw[hs];refine dS (Ae ?_);rw[if_neg (by decide)]
 refine dS (Tuple_ (thn (ha _ pins s σ H _ I h) λus s1 zn=>?_));refine byG λpi O=>?_;obtain⟨vs,H1,I1,r1,q1⟩:=zn;refine O ?_;refine byG λpi O=>?_;obtain⟨v,w,zz,e1,q1⟩:=q1;refine O ?_;subst e1;refine byG λpi O=>?_;obtain⟨R,Q,P,rfl,rv,S,rz⟩:=vals3 r1;refine O ?_;refine Bg ?_ (by show 3<=Ap;decide)
 have I2:Inv X pins σ H1 {s1 with heap:=s1.heap.push {cls:=.type "tuple",data:=.seq [R,Q,P].toArray}}:=I1.kept (t':=s1.toks) λb o e=>xd _ e
 rw[hw];refine dS (Ae ?_);show wpAny (model X.f X.w) X.A (do rule "assign.swapped-stores";let items <-unpackItems (.ref s1.heap.objs.size) 3 none;Ej [λv=>Di X.a z v,λv=>Di X.a y v,λv=>Di X.a x v] items.reverse;pure GK) _ _ _
 refine dS (EH (dS (unpackItems_tuple (items:=#[R,Q,P]) (I.C.k hc) (IsTup.new s1.heap _) λh' U=>?_)));have I3:=I2.kept (h':=h') (t':=s1.toks) λb o e=>U b o (AI (Al e)) e;show wpAny _ _ (Ej [λv=>Di X.a z v,λv=>Di X.a y v,λv=>Di X.a x v] [P,Q,R] >>= λ_=>pure GK) _ _ _;refine dS (Cv (D4 (xZ I3 hN hk (.inl hz) rz (λs2 I4=>?_) (.inr hz))));refine Cv (D4 (xZ I4 hN hj (.inl hy) S (λs3 I5=>?_) (.inr hy)));refine Cv (D4 (xZ I5 hN hi (.inl hx) rv (λs4 I6=>Fs (Ae ?_)) (.inr hx)));refine⟨_,H1,?_,q1⟩;have e:((σ.set k (some zz)).set j (some w)).set i (some v)=((σ.set i (some v)).set j (some w)).set k (some zz):=by rw[Fd _ _ (A9 Z),Fd _ _ (A9 Y),Fd _ _ (A9 W)]
 rw[<-e];exact I6
def WH(x:∀pins σ H s,Inv X pins σ H s->B9<s.heap.objs.size):PE X (.Dict [] [] pos) (λ_ H Q=>∀p,H p=none->Q (.c p) (upd H p (.i []))):=λpins s σ H Q I h=>
 FW ⟨.c s.heap.objs.size,_,I.laid (a:=s.heap.objs.size) (o:=.i []) (t':=s.toks) (λ_ _ q=>xd _ q) (Aa _)
  ⟨Bs _,beq_eq_false_iff_ne.mpr (A9 (AI (x pins σ H s I))),[],.nil,Heap.DictOf.new s.heap⟩,rfl,h _ (I.B.fresh (Aa _))⟩
end
mutual
inductive DD(H:Hp)(p:Addr):V->PyData->Prop
 |non:DD H p .g .none
 |bl (b:Bool):DD H p (.f b) (.bool b)
 |int (i:Int):DD H p (.d i) (.int i)
 |str (x:Str):DD H p (.e x) (.str x)
 |lst {a:Addr} {xs:List V} {ds:List PyData}:H a=some (.b xs)->a≠p->DDs H p xs ds->DD H p (.c a) (.list ds)
 |tup {a:Addr} {xs:List V} {ds:List PyData}:H a=some (.c xs)->a≠p->DDs H p xs ds->DD H p (.c a) (.tuple ds)
 |dct {a:Addr}:H a=some (.i [])->a≠p->DD H p (.c a) (.dict [])
inductive DDs(H:Hp)(p:Addr):List V->List PyData->Prop
 |b:DDs H p [] []
 |a {x:V} {xs:List V} {d:PyData} {ds:List PyData}:DD H p x d->DDs H p xs ds->DDs H p (x::xs) (d::ds)
end
theorem DDs.length:∀{vs} {ds},DDs H p vs ds->vs.length=ds.length
 |_,_,.b=>rfl
 |_,_,.a _ rs=>by rw[AB,AB,rs.length]
theorem DDs.append:∀{vs ws} {ds es},DDs H p vs ds->DDs H p ws es->DDs H p (vs++ws) (ds++es)
 |_,_,_,_,.b,r=>r
 |_,_,_,_,.a r rs,q=>.a r (rs.append q)
mutual
noncomputable def xR:PyData->Bool
 |.none|.bool _|.int _|.str _=>false
 |.list _=>true
 |.tuple xs=>xq xs
 |.dict _=>false
noncomputable def xq:List PyData->Bool
 |[]=>false
 |x::xs=>xR x||xq xs
end
structure W2(d:PyData):Prop where
 sh:d.showable=true
 a:d.hasDict=true->xR d=false
 dp:d.depth<=50
 ln:d.shown.length<=Ap
structure uA(k w:Nat)(d:PyData):Prop where
 c:d.showable=true
 b:d.leavesShort 40=true
 a:d.depth<=k
 f:d.weight<=w
def uA.mono(h:uA k w d)(h1:k<=k')(x:w<=w'):uA k' w' d:=⟨h.c,h.b,Az h.a h1,Az h.f x⟩
def aZ(h1:-(10 ^ 30)<i)(P:i<10 ^ 30):uA 0 100 (.int i):=by
 have O:i.natAbs<10 ^ 30:=by omega
 have N:i.natAbs<2 ^ 100:=Nat.lt_trans O (by decide)
 have x:i.natAbs≠0->i.natAbs.log2<100:=λz=>(Nat.log2_lt z).mpr N;refine⟨?_,?_,Bs _,?_⟩
 . show decide (i.natAbs.log2<1920)=true
   by_cases z:i.natAbs=0
   . rw[z];decide
   . exact decide_eq_true (Nat.lt_trans (x z) (by decide))
 . show decide ((PyData.shown (.int i)).length<=40)=true
   refine decide_eq_true ?_;show (EK (toString i)).length<=40;by_cases z:0<=i
   . exact Az (toString_length_le z (k:=30) (by decide) P) (by decide)
   . have e:=len_text_negI (n:=i) ⋯
     have e2:=toString_length_le (v:=0-i) (k:=30) ⋯ (by decide) ⋯
     omega
 . show (if i == 0 then 0 else i.natAbs.log2+1)<=100
   split
   . exact Bs _
   . rename_i z
     have Q:i≠0:=by simpa using z
     exact x ⋯
def eH:uA 0 0 .none:=⟨rfl,rfl,Aa _,Aa _⟩
def eD b:uA 0 0 (.bool b):=⟨rfl,rfl,Aa _,Aa _⟩
theorem vV:∀{ds},(∀d∈ds,d.showable=true)->PyData.showableAll ds=true
 |[],_=>rfl
 |d::ds,h=>by rw[PyData.showableAll,h d Ar,vV λx hx=>h x (Ag _ hx)];rfl
theorem sr:∀{ds},(∀d∈ds,d.leavesShort 40=true)->PyData.leavesShortAll 40 ds=true
 |[],_=>rfl
 |d::ds,h=>by rw[PyData.leavesShortAll,h d Ar,sr λx hx=>h x (Ag _ hx)];rfl
theorem sq:∀{ds},(∀d∈ds,d.depth<=k)->PyData.depthAll ds<=k
 |[],_=>Bs _
 |d::ds,h=>by rw[PyData.depthAll];exact Nat.max_le.mpr ⟨h d Ar,sq λx hx=>h x (Ag _ hx)⟩
theorem tF:∀{ds},(∀d∈ds,d.weight<=w)->FX ds<=ds.length*(w+1)
 |[],_=>by simp[FX]
 |d::ds,h=>by rw[FX,AB,Nat.succ_mul];have h1:=h d Ar;have N:=tF λx hx=>h x (Ag _ hx);omega
def jT(h:∀d∈ds,uA k w d)(x:ds.length<=n):uA (k+1) (n*(w+1)) (.tuple ds):=by refine⟨vV λd hd=>(h d hd).c,sr λd hd=>(h d hd).b,Nat.succ_le_succ (sq λd hd=>(h d hd).a),?_⟩;exact Az (tF λd hd=>(h d hd).f) (Nat.mul_le_mul_right _ x)
def eE(h:∀d∈ds,uA k w d)(x:ds.length<=n):uA (k+1) (n*(w+1)) (.list ds):=by refine⟨vV λd hd=>(h d hd).c,sr λd hd=>(h d hd).b,Nat.succ_le_succ (sq λd hd=>(h d hd).a),?_⟩;exact Az (tF λd hd=>(h d hd).f) (Nat.mul_le_mul_right _ x)
def aa(h1:∀c∈x.cps.toList,c<16 ^ 8)(O:x.cps.size<=100):uA 0 100 (.str x):=by refine⟨rfl,?_,Bs _,O⟩;show (x.cps.toList.all λc=>decide (c<16 ^ 8))=true;rw[Ay];exact λc N=>decide_eq_true (h1 c N)
def uA.Qw(h:uA k w d)(hk:k<=50)(hw:w<=300000)(x:d.hasDict=true->xR d=false):W2 d:=by
 refine⟨h.c,x,Az h.a hk,?_⟩;have e:=PyData.shown_le 40 (by decide) d h.b
 have e2:=h.f;rw[AK];have:(40+2)*d.weight<=42*300000:=Nat.mul_le_mul_left _ (Az e2 hw);omega
theorem rL:∀{ds},(∀d∈ds,d.hasDict=false)->PyData.hasDictAll ds=false
 |[],_=>rfl
 |d::ds,h=>by rw[PyData.hasDictAll,h d Ar,rL λx hx=>h x (Ag _ hx)];rfl
section
variable {X:Cx}{pos:Pos}
def QT(Q:Gl X x)(P:X.d x=none)(N:Cg x=some (.type n))(O:x≠"__name__":=by decide)(hd:(x == ("__debug__":Str))=false:=by decide):PE X (.Name x pos) (tC (.k n)):=
 WG Q P N (show RelV (.k n) (.type n) from rfl) O hd
def Qc(N:PT X a tA)(x:PW X (.BoolOp .Or (b::rest) pos) tB'):PT X (.BoolOp .Or (a::b::rest) pos) (tOr tA tB'):=(Qf N x).pt
noncomputable def noStar:Expr->Bool
 |.Starred ..=>false
 |_=>true
def zj(h:noStar e=true):AA (e::es) env=(false,eval e env)::AA es env:=by
 cases e<;>first|rfl|cases h
def pac(O:PE X e te)(N:PA X es t)(x:noStar e=true:=by rfl):PA X (e::es) (xa te t):=yO O N (zj x)
noncomputable def uJ(O:Scope)(P N:List Str)(csc:Scope)(fr:List (Option Nat)):Bool:=
 decide (csc.kind=.function)&&csc.names.all (λx=>decide (x.2≠.cell)||csc.names.all λy=>decide (y≠(x.1,AE)))&&csc.names.all (λx=>decide (x.2≠.local)||decide (csc.names.lookup x.1=some .local)) &&
 csc.names.all (λx=>decide (x.2≠.free)||(decide (O.names.lookup x.1=some .cell)||decide (O.names.lookup x.1=some .free)))&&decide (fr.length=N.length) &&
 (AR N.length).all (λi=>match fr[i]?,N[i]? with|some (some j),some x=>decide (P[j]?=some x)&&csc.names.any (λy=>decide (y.1=x)&&decide (y.2=.free))|_,_=>true) &&
 csc.names.all (λx=>decide (x.2≠.free)||decide (csc.names.lookup x.1≠some .local))&&(decide (("!":Str) ∉ N)||(decide (("!":Str)∈P)&&O.names.any (λy=>decide (O.names.lookup y.1=some .cell))))
end
noncomputable def zy{x:Type}(N:List x)(lo st:Int)(n:Nat):List x:=(AR n).filterMap λ(k:Nat)=>N[(lo+(k:Int)*st).toNat]?
theorem Vals.pick(r:Vals xs us):∀(is:List Nat),Vals (is.filterMap λi=>xs[i]?) (is.filterMap λi=>us[i]?)
 |[]=>.nil
 |i::is=>by
  rw[Ba,Ba];cases hx:xs[i]? with
  |none=>rw[r.none_of hx];exact Vals.pick r is
  |some x=>
   obtain⟨u,hu,N⟩:=r.get hx;rw[hu];exact .cons N (Vals.pick r is)
theorem Vals.zy{x:List V}{us:List Value}(r:Vals x us)(lo st:Int)(n:Nat):Vals (zy x lo st n) (L2.zy us lo st n):=by have h:=r.pick ((AR n).map λ(k:Nat)=>(lo+(k:Int)*st).toNat);rw[Ce,Ce]at h;exact h
def l7(x:List α)lo st n:(zy x lo st n).length<=n:=by have:=FY (λ(k:Nat)=>x[(lo+(k:Int)*st).toNat]?) (AR n);rw[Dl]at this;exact this
noncomputable def yg(n:Nat)(lo hi:Option Int)(st:Int):Int × Nat:=((A8 lo hi st (n:Int)).1,BE (A8 lo hi st (n:Int)).1 (A8 lo hi st (n:Int)).2 st)
def oJ{lo hi}{st}{n:Nat}(U:s.heap.IsSliceOf sl vl vu vc)(R:IsPart vl lo)(P:IsPart vu hi)(S:IsPart vc (some st))(h0:st≠0)
 (h:Q ((yg n lo hi st).1,st,(yg n lo hi st).2) s):wpAny (model prog w) A (CD (.ref sl) (pure (n:Int))) Q E s:=by
 obtain⟨os,N,W,O⟩:=id U;unfold CD FG;refine dS (dS (B0 N O (x:=vl) rfl (dS (B0 N O (x:=vu) rfl (dS (B0 N O (x:=vc) rfl (Ae ?_)))))));refine dS (HT.wW S ?_);show wpAny _ _ (if (st == 0)=true then _ else _) _ _ s
 rw[if_neg (by simpa using h0)]
 exact dS (HT.wW R (dS (HT.wW P (dS (Ae (Ae h))))))
def YH{lo hi}{st}(O:IsTup s.heap t items)(Z:s.heap.IsSliceOf sl vl vu vc)(pl:IsPart vl lo)(pu:IsPart vu hi)(pc:IsPart vc (some st))(h0:st≠0)
 (S:(yg items.size lo hi st).1=0->st=1->(yg items.size lo hi st).2=items.size->Q (.ref t) s)
 (P:Q (.ref s.heap.objs.size) {s with heap:=s.heap.push {cls:=.type "tuple",data:=.seq (zy items.toList (yg items.size lo hi st).1 st (yg items.size lo hi st).2).toArray}})
 (R:(yg items.size lo hi st).2<=Ap):wpAny (model prog w) A (getItem (.ref t) (.ref sl)) Q E s:=by
 obtain⟨os,U,W,hds⟩:=id Z;have Y:s.TypeIs (.ref sl) "slice":=⟨os,U,W⟩;have x:sizeOk (.seq (zy items.toList (yg items.size lo hi st).1 st (yg items.size lo hi st).2).toArray):=by show (zy items.toList (yg items.size lo hi st).1 st (yg items.size lo hi st).2).toArray.size<=Ap;rw[Ah];exact Az (l7 _ _ _ _) R
 have N:((AR (yg items.size lo hi st).2).filterMap λ(k:Nat)=>items[((yg items.size lo hi st).1+(k:Int)*st).toNat]?).toArray=(zy items.toList (yg items.size lo hi st).1 st (yg items.size lo hi st).2).toArray:=by unfold zy;simp only[Array.getElem?_toList]
 unfold getItem
 try with_reducible refine Bv ?_
 first|refine dS (Ae ?_)|skip
 refine dS (Fu O.typeIs (by decide) ?_)
 refine dS (D9 (name:=EK "__getitem__") O.typeIs A6
  (FP A6 O.typeIs EV ?_ (E4 _ _)))
 show wpAny _ _ (DG (.ref t) >>= _) _ _ s;refine dS (El O ?_);refine dS (DR Y ?_);rw[if_pos (by decide)]
 refine dS (oJ (n:=items.size) Z pl pu pc h0 ?_);by_cases hw:((yg items.size lo hi st).1 == 0&&st == 1&&(yg items.size lo hi st).2 == items.size)=true
 . show wpAny _ _ (if ((yg items.size lo hi st).1 == 0&&st == 1&&(yg items.size lo hi st).2 == items.size)=true then _ else _) _ _ s
   rw[if_pos hw];simp only[cf,beq_iff_eq]at hw;unfold Fi;refine dS (dS (DR O.typeIs (Ae ?_)));rw[if_pos (by decide)]
   exact dS (EH (Ae ⟨_,rfl,Ae (S hw.1.1 hw.1.2 hw.2)⟩))
 . show wpAny _ _ (if ((yg items.size lo hi st).1 == 0&&st == 1&&(yg items.size lo hi st).2 == items.size)=true then _ else _) _ _ s
   rw[if_neg hw,N]
   first
    |exact dS (m:=Bn _) (Bg (Ae ⟨_,rfl,Ae P⟩) x)
    |exact dS (dS (m:=Bn _) (Bg (Ae ⟨_,rfl,Ae P⟩) x))
theorem l8{O:Type}:∀N:List O,(AR N.length).filterMap (λk=>N[k]?)=N
 |[]=>rfl
 |x::N=>by
  rw[AB,List.range_succ_eq_map,Ba,Ce];show x::_=_;refine congrArg (x::·) (Eq.trans ?_ (l8 N))
  congr 1
def jy(x:List α):zy x 0 1 x.length=x:=by
 unfold zy;have e:(λ(k:Nat)=>x[(0+(k:Int)*1).toNat]?)=λk=>x[k]?:=by funext k;rw[show (0+(k:Int)*1).toNat=k by omega]
 rw[e];exact l8 x
def Pn:V->Option Int->Option Int->Option Int->Hp->VK->Prop:=λx lo hi st H Q=>∃a N c,x=.c a/\H a=some (.c N)/\st=some c/\c≠0/\(yg N.length lo hi c).2<=Ap/\rZ H (zy N (yg N.length lo hi c).1 c (yg N.length lo hi c).2) Q
def Q9(r:V->Option Int->Option Int->Option Int->Hp->VK->Prop)(te:TE)(tl th tc:TO):TE:=λσ H Q=>te σ H λx H1=>tl σ H1 λl H2=>th σ H2 λu O=>tc σ O λc N=>r x l u c N Q
def ez{lo hi}{st}(he:PE X e te)(hl:PO X lo tl)(hu:PO X hi th)(hc:PO X (some st) tc):PE X (.Subscript e (.Slice lo hi (some st) p2) pos) (Q9 Pn te tl th tc):=by
 intro pins s σ H Q I h;refine Gy (thn (he pins s σ H _ I h) λv s1 W=>?_);obtain⟨x,H1,I1,r1,q1⟩:=W;refine wpAny_Slice (thn (hl pins s1 σ H1 _ I1 q1) λvl s2 ⟨l,H2,I2,pl,q2⟩=>thn (hu pins s2 σ H2 _ I2 q2) λvu s3 ⟨u,H3,I3,pu,q3⟩=>thn (hc pins s3 σ H3 _ I3 q3) λvc O W=>?_);obtain⟨c,U,I4,pc,q4⟩:=W;obtain⟨a,R,Z,rfl,hx,ec,h0,P,g⟩:=q4;subst ec;cases r1;have S:Inv X pins σ U {O with heap:=O.heap.push {cls:=.type "slice",data:=.fields #[vl,vu,vc]}}:=I4.kept (t':=O.toks) λb ob q=>xd _ q
 obtain⟨Y,r,ht,hz⟩:=S.tuple (.inl (.inl hx));have N:Y.toArray.size=R.length:=by rw[Ah];exact r.length.symm
 show wpAny (model X.f X.w) X.A (Fg e (.Slice lo hi (some st) p2) (.ref a) (.ref O.heap.objs.size)) (EP X pins σ Q) X.i {O with heap:=O.heap.push {cls:=.type "slice",data:=.fields #[vl,vu,vc]}}
 refine tail_any (ops:=[.ref a,.ref O.heap.objs.size]) ht.typeIs A6.lookup (YH ht (E5 ..) pl pu pc h0 (λz1 z2 z3=>?_) ?_ (by rw[N];exact P)) (by with_unfolding_all rfl)
 . refine⟨.c a,U,S,rfl,g a U (wC.refl U) ?_⟩
   rw[N]at z1 z3;rw[hx,z1,z3,z2,jy]
 . rw[N]
   refine⟨.c _,_,S.laid (t':=O.toks) (o:=.c (zy R (yg R.length l u Z).1 Z (yg R.length l u Z).2)) (λb ob q=>xd _ q) (Aa _) ?_,rfl,g.new _ (S.B.fresh (Aa _))⟩;refine⟨Az (l7 _ _ _ _) P,_,r.zy _ _ _,?_⟩;exact tu.new _ _
end L2
end
section
namespace L2
open PySem PyProof.Rows
section
variable {X:Cx}
noncomputable def vt(d:Int):List Int->Int
 |[]=>d
 |n::ns=>ns.foldl (λa b=>if b > a then b else a) n
theorem qm:∀(ns:List Int) a,a<=ns.foldl (λa b=>if b > a then b else a) a/\(∀x∈ns,x<=ns.foldl (λa b=>if b > a then b else a) a)/\(ns.foldl (λa b=>if b > a then b else a) a=a\/ns.foldl (λa b=>if b > a then b else a) a∈ns)
 |[],a=>⟨Int.le_refl _,λ_ h=>(nomatch h),.inl rfl⟩
 |n::ns,a=>by
  obtain⟨h1,P,N⟩:=qm ns (if n > a then n else a)
  show a<=ns.foldl _ (if n > a then n else a)/\_
  have O:a<=(if n > a then n else a)/\n<=(if n > a then n else a):=by split<;>omega
  refine⟨FZ O.1 h1,λx hx=>?_,?_⟩
  . rcases Ao.mp hx with e|hx
    . rw[e];exact FZ O.2 h1
    . exact P x hx
  . rcases N with N|N
    . show ns.foldl _ (if n > a then n else a)=a\/ns.foldl _ (if n > a then n else a)∈n::ns
      rw[N];split
      . exact .inr (Ar ..)
      . exact .inl rfl
    . exact .inr (Ag _ N)
def jf(h:ns≠[]):vt d ns∈ns/\∀x∈ns,x<=vt d ns:=by
 cases ns with
 |nil=>exact absurd rfl h
 |cons n ns=>
  obtain⟨h1,O,N⟩:=qm ns n;refine⟨?_,λx hx=>?_⟩
  . rcases N with N|N
    . show ns.foldl _ n∈_;rw[N];exact Ar ..
    . exact Ag _ N
  . rcases Ao.mp hx with e|hx
    . rw[e];exact h1
    . exact O x hx
def lX(h1:M∈ns)(O:∀x∈ns,x<=M):vt d ns=M:=by
 have N:ns≠[]:=λe=>by rw[e]at h1;exact nomatch h1
 obtain⟨a,b⟩:=jf (d:=d) N;exact Int.le_antisymm (O _ a) (b _ h1)
theorem Vals.ints:∀{ns:List Int} {us},Vals (ns.map V.d) us->∀{i:Nat} {v},us[i]?=some v->∃t,v=.int (ns.getD i 0) t
 |[],_,.nil,_,_,h=>by cases h
 |n::ns,_,.cons r rs,0,v,h=>by
  obtain⟨t,e⟩:=r;have:v=.int n t:=(AX h).symm.trans e;exact⟨t,this⟩
 |n::ns,_,.cons r rs,i+1,v,h=>by have:=Vals.ints rs (i:=i) (v:=v) h;exact this
end
end L2
end
section
namespace L2
open PySem PyProof PyProof.Rows
section
variable {X:Cx}
def iT l items n u dd sl :
 Meets (Builtin.«tuple.__mul__» ⟨[.ref l,.int 1 u],[]⟩) (λ_ R s=>s.heap.get? l=some {cls:=.type "tuple",dict:=dd,data:=.seq items n,slots:=sl}/\R (.ok (.ret (AH l))) s):=
 .of_wp λprog w A R s h=>by
  obtain⟨hp,g,d,tk,os⟩:=s;obtain⟨x,h⟩:=h;have f1:=FV;have c1:¬((decide ((1:Int) < -(2 ^ 63))||decide ((1:Int) ≥ 2 ^ 63))=true):=by decide
  have c2:((items.isEmpty||((1:Int) == 1))=true):=by simp
  wp_walk using DN x
  exact⟨_,rfl,h⟩
def iS l items n x u dd sl(h1:x<=0)(P:-1000<=x)(O:¬items.isEmpty=true) :
 Meets (Builtin.«tuple.__mul__» ⟨[.ref l,.int x u],[]⟩) (λ_ R s=>s.heap.get? l=some {cls:=.type "tuple",dict:=dd,data:=.seq items n,slots:=sl} /\
  R (.ok (.ret (AH s.heap.objs.size))) {s with heap:=s.heap.push {cls:=FE "tuple",data:=Data.seq #[]},toks:=s.toks}):=
 .of_wp λprog w A R s h=>by
  obtain⟨hp,g,d,tk,os⟩:=s;obtain⟨N,h⟩:=h;have f1:=FV;have c1:¬((decide (x < -(2 ^ 63))||decide (x ≥ 2 ^ 63))=true):=by simp;omega
  have c2:¬((items.isEmpty||x == 1)=true):=by simp at O ⊢;exact⟨O,⋯⟩
  have c3:((decide (x<=0)||items.isEmpty)=true):=by simp;exact .inl h1
  wp_walk using DN N
  rw[if_neg c1];refine dS (El (items:=items) ⟨_,N,rfl,n,rfl⟩ ?_);rw[if_neg c2];show wpAny _ _ (if (decide (x<=0)||items.isEmpty)=true then _ else _) _ _ _
  rw[if_pos c3];exact dS (m:=Bn _) (Bg (Ae ⟨_,rfl,h⟩))
def Qm:R2:=λx y H Q=>∃a k N,x=.c a/\y=.d k/\H a=some (.c N)∧-1000<=k/\k<=1000/\N≠[]/\N.length<=1000/\rZ H (Aj k.toNat N).flatten Q
def X4:OpR X (BD .Mult) Qm:=by
 intro pins s σ H x y v u Q I Y W h;obtain⟨a,k,xs,rfl,rfl,S,h1,h2,h3,h4,g⟩:=h;by_cases hk2:2<=k
 . exact X5 pins s σ H _ _ v u Q I Y W ⟨a,k,xs,rfl,rfl,S,hk2,h2,h3,h4,g⟩
 cases Y;obtain⟨t,rfl⟩:=W;obtain⟨N,r,p1,_⟩:=I.tuple (.inl (.inl S));obtain⟨⟨cls,dd,data,P⟩,O,Z,n,hd⟩:=id p1;simp only at Z hd;subst Z hd;by_cases hk1:k=1
 . subst hk1
   refine CP (T:="tuple") (U:="int") (by decide) ⟨_,O,rfl⟩ (λs'=>Dd s' 1 t) xw EL Cj vn Er.lookup
    (BV Cj (Dd s 1 t) Es (Ee _ _) (wU 1 t a N.toArray n dd P)
     ⟨O,rfl,⟨_,O,rfl⟩,BV Dy ⟨_,O,rfl⟩ Fy (E7 _ _) (iT a N.toArray n t dd P) ⟨O,?_⟩⟩)
   refine⟨.c a,H,I,rfl,g a H (wC.refl H) ?_⟩;rw[S];simp
 . have R:¬N.toArray.isEmpty=true:=by simp;intro e;exact h3 (r.wd.mp e)
   have e0:k.toNat=0:=by omega
   refine CP (T:="tuple") (U:="int") (by decide) ⟨_,O,rfl⟩ (λs'=>Dd s' k t) xw EL Cj vn Er.lookup
    (BV Cj (Dd s k t) Es (Ee _ _) (wU k t a N.toArray n dd P)
     ⟨O,rfl,⟨_,O,rfl⟩,BV Dy ⟨_,O,rfl⟩ Fy (E7 _ _) (iS a N.toArray n k t dd P ⋯ h1 R) ⟨O,?_⟩⟩)
   rw[e0]at g;refine⟨.c s.heap.objs.size,_,I.laid (t':=s.toks) (o:=.c []) (λb ob q=>xd _ q) (Aa _) ⟨Bs _,[],.nil,tu.new _ _⟩,rfl,g.new _ (I.B.fresh (Aa _))⟩
noncomputable def j8(a b c:Int):List Int:=(AR (B3 a b c).toNat).map λ(i:Nat)=>a+(i:Int)*c
end
end L2
end
section
namespace L2
open PySem PyProof PyProof.Rows
section
variable {X:Cx}
theorem rE:∀{xs} {us},Vals xs us->xs.all wb=true->us.countP (eqU x)=xs.countP λy=>eqV y x
 |_,_,.nil,_=>rfl
 |y::ys,u::us,.cons r rs,h=>by rw[CG,cf]at h;rw[Dz,Dz,rE rs h.2,ku r h.1]
def pQ(K:Ab)(tup:Bool):V->List V->Hp->VK->Prop:=λx vs H Q=>∃t N y,x=.c t/\vs=[y]/\(if tup=true then SqT K H t N else SqL K H t N)/\wb y=true/\N.all wb=true/\Q (.d (N.countP λz=>eqV z y:Nat)) H
def eP:MtR X "tuple.count" (pQ X.K true):=by
 intro pins s σ H x xs v us Q I S W h;obtain⟨t,ys,y,rfl,rfl,Y,Z,fs,q⟩:=h;cases S;obtain⟨u,rfl,U⟩:=vals1 W;obtain⟨N,r,p1,_⟩:=I.tuple Y;obtain⟨⟨cls,dd,data,R⟩,O,P,n,hd⟩:=id p1;simp only at P hd;subst P hd;refine BV F.slot_tuple_count ⟨_,O,rfl⟩ F.entry_tuple_count (F.args_tuple_count_2 _ _) (SeqAt.tuple_countAt t N.toArray n dd R u (eqU y)) ⟨O,λw hw=>sJ U Z r fs w (by simpa using hw),?_⟩
 rw[show N.toArray.toList=N from rfl,rE r fs];exact⟨.d _,H,I.tok _,⟨s.toks,rfl⟩,q⟩
def eO:MtR X "list.count" (pQ X.K false):=by
 intro pins s σ H x xs v us Q I S W h;obtain⟨t,ys,y,rfl,rfl,Y,Z,fs,q⟩:=h;cases S;obtain⟨u,rfl,U⟩:=vals1 W;obtain⟨N,r,p1,_⟩:=I.list Y;obtain⟨⟨cls,dd,data,R⟩,O,P,n,hd⟩:=id p1.isList;simp only at P hd;subst P hd;refine BV F.slot_list_count ⟨_,O,rfl⟩ F.entry_list_count (F.args_list_count_2 _ _) (SeqAt.list_countAt t N.toArray n dd R u (eqU y)) ⟨O,λw hw=>sJ U Z r fs w (by simpa using hw),?_⟩
 rw[show N.toArray.toList=N from rfl,rE r fs];exact⟨.d _,H,I.tok _,⟨s.toks,rfl⟩,q⟩
noncomputable def uR(d:Int):List Int->Int
 |[]=>d
 |n::ns=>ns.foldl (λa b=>if b<a then b else a) n
theorem qo:∀(ns:List Int) a,ns.foldl (λa b=>if b<a then b else a) a<=a/\(∀x∈ns,ns.foldl (λa b=>if b<a then b else a) a<=x)/\(ns.foldl (λa b=>if b<a then b else a) a=a\/ns.foldl (λa b=>if b<a then b else a) a∈ns)
 |[],a=>⟨Int.le_refl _,λ_ h=>(nomatch h),.inl rfl⟩
 |n::ns,a=>by
  obtain⟨h1,P,N⟩:=qo ns (if n<a then n else a)
  show ns.foldl _ (if n<a then n else a)<=a/\_
  have O:(if n<a then n else a)<=a/\(if n<a then n else a)<=n:=by split<;>omega
  refine⟨FZ h1 O.1,λx hx=>?_,?_⟩
  . rcases Ao.mp hx with e|hx
    . rw[e];exact FZ h1 O.2
    . exact P x hx
  . rcases N with N|N
    . show ns.foldl _ (if n<a then n else a)=a\/ns.foldl _ (if n<a then n else a)∈n::ns
      rw[N];split
      . exact .inr (Ar ..)
      . exact .inl rfl
    . exact .inr (Ag _ N)
def jg(h:ns≠[]):uR d ns∈ns/\∀x∈ns,uR d ns<=x:=by
 cases ns with
 |nil=>exact absurd rfl h
 |cons n ns=>
  obtain⟨h1,O,N⟩:=qo ns n;refine⟨?_,λx hx=>?_⟩
  . rcases N with N|N
    . show ns.foldl _ n∈_;rw[N];exact Ar ..
    . exact Ag _ N
  . rcases Ao.mp hx with e|hx
    . rw[e];exact h1
    . exact O x hx
def lY(h1:M∈ns)(O:∀x∈ns,M<=x):uR d ns=M:=by
 have N:ns≠[]:=λe=>by rw[e]at h1;exact nomatch h1
 obtain⟨a,b⟩:=jg (d:=d) N;exact Int.le_antisymm (b _ h1) (O _ a)
def VV(K:Ab)(g:List Int->Int):List V->Hp->VK->Prop:=λx H Q=>∃(a:Addr) (ns:List Int),x=[.c a]/\SqL K H a (ns.map V.d)/\ns≠[]/\Q (.d (g ns)) H
def fL(hc:X.j=true):yT X (.builtin "max") (VV X.K (vt 0)):=by
 intro pins s σ H xs us Q I r h;obtain⟨a,ns,rfl,ha,W,q⟩:=h;obtain⟨u,rfl,ru⟩:=vals1 r;cases ru;obtain⟨N,Z,U,hz⟩:=I.list ha;have P:=Z.length;have S:a<s.heap.objs.size:=by obtain⟨o,O,_⟩:=U.isList;exact Al O
 have hl:N.toArray.size=ns.length:=by rw[Ah,<-P,Ak]
 have hpos:0<ns.length:=DJ.mpr W;have R:∀(i:Nat) (v:Value),N.toArray[i]?=some v->∃t,v=.int (ns.getD i 0) t:=λi v hv=>Z.ints (by simpa using hv)
 refine call_max_walk (Ed U.isList ?_);refine⟨s.heap.objs.size,_,_,_,_,_,_,rfl,Walks.list (A:=X.A.in1) (I.C.k hc) s.heap.objs.size a (AI S) N.toArray,⟨⟨_,AD _ rfl,rfl,rfl⟩,?_⟩,λb hb=>?_,⋯,CmpOf.ints_gt (λi=>ns.getD i 0) R,λv h' tk hP hk=>?_⟩
 . obtain⟨o,O,Y,n,hd⟩:=U.isList
   exact⟨o,xd _ O,Y,n,hd⟩
 . rw[Bw]
   simp only[Ao,Bp,or_false]at hb;rcases hb with e|e
   . rw[e];exact CZ _
   . rw[e];exact CJ S
 . obtain⟨t,rfl⟩:=R _ _ hP
   obtain⟨b1,b2⟩:=argBest_gt (λi=>ns.getD i 0) (N.toArray.size-1);have e:vt 0 ns=ns.getD (argBest (λi j=>decide (ns.getD i 0 > ns.getD j 0)) (N.toArray.size-1)) 0:=by
    refine lX ?_ λx hx=>?_
    . have:argBest (λi j=>decide (ns.getD i 0 > ns.getD j 0)) (N.toArray.size-1)<ns.length:=by omega
      rw[AQ,Ai this];exact Cr this
    . obtain⟨i,hi,rfl⟩:=BG hx
      have:=b2 i ⋯
      simpa [AQ,Ai hi] using this
   refine⟨.d (vt 0 ns),H,I.kept λb o O=>hk b o ?_ (xd _ O),⟨t,by rw[e]⟩,q⟩
   simpa using AI (Al O)
def fO(hc:X.j=true):yT X (.builtin "min") (VV X.K (uR 0)):=by
 intro pins s σ H xs us Q I r h;obtain⟨a,ns,rfl,ha,W,q⟩:=h;obtain⟨u,rfl,ru⟩:=vals1 r;cases ru;obtain⟨N,Z,U,hz⟩:=I.list ha;have P:=Z.length;have S:a<s.heap.objs.size:=by obtain⟨o,O,_⟩:=U.isList;exact Al O
 have hl:N.toArray.size=ns.length:=by rw[Ah,<-P,Ak]
 have hpos:0<ns.length:=DJ.mpr W;have R:∀(i:Nat) (v:Value),N.toArray[i]?=some v->∃t,v=.int (ns.getD i 0) t:=λi v hv=>Z.ints (by simpa using hv)
 refine call_min_walk (Ed U.isList ?_);refine⟨s.heap.objs.size,_,_,_,_,_,_,rfl,Walks.list (A:=X.A.in1) (I.C.k hc) s.heap.objs.size a (AI S) N.toArray,⟨⟨_,AD _ rfl,rfl,rfl⟩,?_⟩,λb hb=>?_,⋯,CmpOf.ints_lt (λi=>ns.getD i 0) R,λv h' tk hP hk=>?_⟩
 . obtain⟨o,O,Y,n,hd⟩:=U.isList
   exact⟨o,xd _ O,Y,n,hd⟩
 . rw[Bw]
   simp only[Ao,Bp,or_false]at hb;rcases hb with e|e
   . rw[e];exact CZ _
   . rw[e];exact CJ S
 . obtain⟨t,rfl⟩:=R _ _ hP
   obtain⟨b1,b2⟩:=argBest_lt (λi=>ns.getD i 0) (N.toArray.size-1);have e:uR 0 ns=ns.getD (argBest (λi j=>decide (ns.getD i 0<ns.getD j 0)) (N.toArray.size-1)) 0:=by
    refine lY ?_ λx hx=>?_
    . have:argBest (λi j=>decide (ns.getD i 0<ns.getD j 0)) (N.toArray.size-1)<ns.length:=by omega
      rw[AQ,Ai this];exact Cr this
    . obtain⟨i,hi,rfl⟩:=BG hx
      have:=b2 i ⋯
      simpa [AQ,Ai hi] using this
   refine⟨.d (uR 0 ns),H,I.kept λb o O=>hk b o ?_ (xd _ O),⟨t,by rw[e]⟩,q⟩
   simpa using AI (Al O)
def oz{o e:Expr}{to te:TE}{apos cpos:Pos}{es:List Expr}(P:PE X o to)(Q:PE X e te)(x:BZ o "append" X.a (eval o X.a)=eval o X.a:=by rfl)(N:noStar e=true:=by rfl)(hline:(apos.endLine == cpos.line)=true:=by rfl) :
 PE X (.Call (.Attribute o "append" apos) [e] [] cpos) (tBM X.K "list" gg to (xa te tY)):=by
 have O:AA [e] X.a=(false,eval e X.a)::AA [] X.a:=zj N;refine ZM Ea PySem.F.slot_list_append PySem.F.type_list_append ou P (pac Q yh N) x ?_ hline O rfl;rw[O];rfl
def nA(P:PE X o to)(Q:PE X e te)(x:BZ o "count" X.a (eval o X.a)=eval o X.a:=by rfl)(N:noStar e=true:=by rfl)(hline:(apos.endLine == cpos.line)=true:=by rfl) :
 PE X (.Call (.Attribute o "count" apos) [e] [] cpos) (tBM X.K "list" (pQ X.K false) to (xa te tY)):=by
 have O:AA [e] X.a=(false,eval e X.a)::AA [] X.a:=zj N;refine ZM Ea PySem.F.slot_list_count PySem.F.type_list_count eO P (pac Q yh N) x ?_ hline O rfl;rw[O];rfl
def Pu(r:V->List V->Hp->VK->Prop)(to:TE)(t:TA):TE:=λσ H Q=>to σ H λx H1=>(∃a N,x=.c a/\H1 a=some (.c N))/\t σ H1 λN H2=>r x N H2 Q
def et(U:PE X o to)(W:PE X e te)(N:BZ o "count" X.a (eval o X.a)=eval o X.a:=by rfl)(O:noStar e=true:=by rfl)(hline:(apos.endLine == cpos.line)=true:=by rfl) :
 PE X (.Call (.Attribute o "count" apos) [e] [] cpos) (Pu (pQ X.K true) to (xa te tY)):=by
 have P:AA [e] X.a=(false,eval e X.a)::AA [] X.a:=zj O;intro pins s σ H Q I h;refine wpAny_Call_method_late N (by rw[P];rfl) hline rfl (thn (U pins s σ H _ I h) λv s1 ⟨x,H1,I1,r1,ty,q1⟩=>?_)
 obtain⟨a,R,rfl,hx⟩:=ty;cases r1;obtain⟨z,S,Z,ob,e1,c1,n,d1,nd⟩:=(show z6 X.f X.w H1 s1.heap a (.c R) from I1.B a _ hx);refine⟨"tuple",_,PySem.F.plainAttrs_tuple,PySem.F.slot_tuple_count,PySem.F.type_tuple_count,⟨ob,e1,c1⟩,λb Y=>?_,?_⟩
 . cases Y;exact⟨ob,e1,nd⟩
 have hA:=(pac W yh O:PA X [e] _) cpos pins s1 σ H1 _ I1 q1;rw[P]at hA ⊢;refine Eh rfl (CO ?_);exact thn hA λus s2 ⟨vs,H2,I2,r2,q2⟩=>eP pins s2 σ H2 (.c a) vs _ us Q I2 rfl r2 q2
end
end L2
namespace L2
open PySem
end L2
end
section
namespace L2
open PySem PySem.W PySem.Calls PyProof PyProof.Rows
noncomputable def W7(z:Int × Int):Int:=z.1*1000+z.2
noncomputable def oG:List Int->List Int->Bool
 |x::xs,y::ys=>if x=y then oG xs ys else decide (x<y)
 |_,_=>false
noncomputable def Rr:List Int->List Int->Bool
 |x::xs,y::ys=>if x=y then Rr xs ys else decide (x<y)
 |[],_::_=>true
 |_,[]=>false
def RZ(z:List Int):List (List Int)->List (List Int)
 |[]=>[z]
 |y::ys=>if Rr y z then y::RZ z ys else z::y::ys
def Vb:List (List Int)->List (List Int)
 |[]=>[]
 |z::zs=>RZ z (Vb zs)
end L2
end
section
namespace L2
open PySem PyProof.Rows
def Zi(Y:X.j=true)(S:zm X N csc fr)(hi:PI X tg iter wi)(hg:∀C O H0 ex,PG (X.comp N csc C O H0 ex) tg g)(ht:∀C O H0 ex,PTs (X.comp N csc C O H0 ex) ifs ts)
 (U:∀C O H0 ex,PI (X.comp N csc C O H0 ex) tg2 iter2 wi2) (W:∀C O H0 ex,PG (X.comp N csc C O H0 ex) tg2 g2) (P:∀C O H0 ex,PTs (X.comp N csc C O H0 ex) ifs2 ts2)
 (he:∀C O H0 ex,PE (X.comp N csc C O H0 ex) elt te) (hN:X.N.Nodup) (Z:X.N[i]?=some y) (hx:Loc X.a.scope y)
 (Q:DP (.ListComp elt [⟨tg,iter,ifs,0⟩,⟨tg2,iter2,ifs2,0⟩] csc cpos) (some (.Name y py)) spos.line X.a=pure true:=by rfl)
 (hf:X.n y=true\/X.a.scope.names.lookup y=some .local:=by first|exact .inl rfl|exact .inr rfl|assumption)
 (hs:∀x,A0 iter X.a x=pure x:=by intro _;rfl)
 (R:∀env x,A0 iter2 env x=pure x:=by intro _ _;rfl) :
 PS X (.Assign [.Name y py] (.ListComp elt [⟨tg,iter,ifs,0⟩,⟨tg2,iter2,ifs2,0⟩] csc cpos) spos) (uv (vK fr wi g ts λacc=>pZ wi2 g2 ts2 (vz acc te)) (xh i)):=
 kA Y S hi (B:=λacc env=>(do
         let x <-eval iter2 env
         standAt iter2.pos
         let x <-A0 iter2 env x;let _ <-runOwn (.compStart (.ListComp elt [⟨tg,iter,ifs,0⟩,⟨tg2,iter2,ifs2,0⟩] csc cpos) 1 (<-holding [x] (pyIter x)) acc env) env)) (Vj elt tg iter ifs tg2 iter2 ifs2 csc cpos) hg ht
  (λC O H0 ex acc=>lu rfl Y (U C O H0 ex) (W C O H0 ex) (P C O H0 ex) (sN (he C O H0 ex)) (R _)) hN Z hx Q hf hs
noncomputable def intsOf:List Expr->Option (List Int)
 |[]=>some []
 |.Constant (.int i) _ _::es=>(intsOf es).map λr=>i::r
 |.UnaryOp .USub (.Constant (.int i) _ _) _::es=>(intsOf es).map λr=>-i::r
 |_=>none
section
variable {X:Cx}{a b:Expr}{rest:List Expr}{ta tb:TE}{pos:Pos}
def Px(K:Ab)(ta tb:TE):TE:=λσ H Q=>ta σ H λx H1=>∃c,Yb K x H1 c/\if c=true then Q x H1 else tb σ H1 Q
def T4(U:PE X a ta)(S:PE X (.BoolOp .Or (b::rest) pos) tb):PE X (.BoolOp .Or (a::b::rest) pos) (Px X.K ta tb):=by
 intro pins s σ H Q I h;refine BoolOp_or (thn (U pins s σ H _ I h) λv s1 N=>?_);obtain⟨x,H1,W,r1,c,R,q1⟩:=N;refine thn (YF pins s1 σ H1 x v (λk H2=>if k=true then Q x H2 else tb σ H2 Q) W r1 ⟨c,R,q1⟩) λk s2 N=>?_
 obtain⟨H2,P,O⟩:=N;cases k with
 |false=>exact S pins s2 σ H2 Q P O
 |true=>exact⟨x,H2,P,r1,O⟩
end
noncomputable def uL(n:Nat)(lo hi:Option Int)(c:Int):Int × Nat:=((Bq lo hi (some c) n).1,(if c > 0 then (if (Bq lo hi (some c) n).1<(Bq lo hi (some c) n).2.1 then ((Bq lo hi (some c) n).2.1-(Bq lo hi (some c) n).1+c-1)/c else 0) else (if (Bq lo hi (some c) n).1 > (Bq lo hi (some c) n).2.1 then ((Bq lo hi (some c) n).1-(Bq lo hi (some c) n).2.1-c-1)/(-c) else 0):Int).toNat)
def uV its lo hi c:GN its.toArray lo hi (some c)=(zy its (uL its.length lo hi c).1 c (uL its.length lo hi c).2).toArray:=by unfold GN sliceRange zy uL;rw[Ce];refine congrArg List.toArray ?_;have e:(Bq lo hi (some c) its.toArray.size).2.2=c:=rfl;rw[e];simp only[Ah];refine congrArg (λf=>List.filterMap f _) ?_;funext k;show its.toArray[_]?=_;rw[List.getElem?_toArray,Int.mul_comm]
def Qn(K:Ab):V->Option Int->Option Int->Option Int->Hp->VK->Prop:=λx lo hi st H Q=>∃a N c,x=.c a/\SqL K H a N/\st=some c/\c≠0/\∀p,H p=none->Q (.c p) (upd H p (.b (zy N (uL N.length lo hi c).1 c (uL N.length lo hi c).2)))
def jw{lo hi}{st}(he:PE X e te)(hl:PO X lo tl)(hu:PO X hi th)(hc:PO X (some st) tc):PE X (.Subscript e (.Slice lo hi (some st) p2) pos) (Q9 (Qn X.K) te tl th tc):=by
 intro pins s σ H Q I h;refine Gy (thn (he pins s σ H _ I h) λv s1 U=>?_);obtain⟨x,H1,I1,r1,q1⟩:=U;refine wpAny_Slice (thn (hl pins s1 σ H1 _ I1 q1) λvl s2 ⟨l,H2,I2,pl,q2⟩=>thn (hu pins s2 σ H2 _ I2 q2) λZ s3 ⟨u,H3,I3,pu,q3⟩=>thn (hc pins s3 σ H3 _ I3 q3) λvc P U=>?_);obtain⟨c,H4,I4,pc,q4⟩:=U;obtain⟨a,O,N,rfl,hx,ec,h0,g⟩:=q4;subst ec;cases r1;have Y:Inv X pins σ H4 {P with heap:=P.heap.push {cls:=.type "slice",data:=.fields #[vl,Z,vc]}}:=I4.kept (t':=P.toks) λb ob q=>xd _ q
 obtain⟨W,r,ht,hz⟩:=Y.list hx;have R:=r.length;show wpAny (model X.f X.w) X.A (Fg e (.Slice lo hi (some st) p2) (.ref a) (.ref P.heap.objs.size)) (EP X pins σ Q) X.i {P with heap:=P.heap.push {cls:=.type "slice",data:=.fields #[vl,Z,vc]}}
 refine tail_any (ops:=[.ref a,.ref P.heap.objs.size]) ht.isList.typeIs Fv.lookup (FR ht.isList (E5 ..) pl pu pc (λz=>h0 (AX z)) ?_ (by rw[Ah]<;>omega)) (by with_unfolding_all rfl)
 rw[uV,<-R];refine⟨.c _,_,Y.laid (t':=P.toks) (o:=.b (zy O (uL O.length l u N).1 N (uL O.length l u N).2)) (λb ob q=>xd _ q) (Aa _) ?_,rfl,g _ (Y.B.fresh (Aa _))⟩;have rp:=r.zy (uL O.length l u N).1 N (uL O.length l u N).2;have S:(zy O (uL O.length l u N).1 N (uL O.length l u N).2).length<=O.length:=by have:=slicePick_size_le W.toArray l u (some N);rw[uV,Ah,Ah,<-R,<-rp.length]at this;exact this
 exact⟨Az S hz,_,0,rp,AD _ rfl⟩
end L2
end
section
namespace L2
open PySem PyProof PyProof.Rows
section
variable {X:Cx}
noncomputable def Ro(z:Str)(x:List Str):Str:=Txt.join z x
end
end L2
end
section
namespace L2
open PySem PySem.Spec PyProof PyProof.Rows
def la:D5 (.type "tuple") (dunderI "add")=(pure none:Sem (Option Value)):=rfl
section
variable {X:Cx}
def fi:OpR X (DQ .Add) VW:=by
 intro pins s σ H x y v u Q I rx ry h;obtain⟨a,b,xs,ys,rfl,rfl,ha,hb,hz,g⟩:=h;cases rx;cases ry;obtain⟨O,r1,p1,_⟩:=I.tuple (.inl (.inl ha));obtain⟨N,Y,p2,_⟩:=I.tuple (.inl (.inl hb));obtain⟨⟨cls,dd,data,sl⟩,Z,hc,n,hd⟩:=id p1;obtain⟨⟨cls2,S,data2,R⟩,P,W,n2,U⟩:=id p2;simp only at hc hd W U;subst hc hd W U;have e:O.toArray++N.toArray=(O++N).toArray:=by simp
 have tA:s.TypeIs (.ref a) "tuple":=⟨_,Z,rfl⟩;have tB:s.TypeIs (.ref b) "tuple":=⟨_,P,rfl⟩;refine inplaceOp_concat tA tB la Eo Ff ?_;by_cases hx:xs=[]
 . subst hx
   cases r1;exact BV B8 tA B4 (BX _ _) (tuple_addW0 a b #[] N.toArray n n2 dd S sl R rfl) ⟨Z,P,⟨.c b,H,I,rfl,g b H (wC.refl H) hb⟩⟩
 . have hv:O≠[]:=λz=>hx (r1.wd.mp z)
   by_cases hy:ys=[]
   . have hw:N=[]:=Y.wd.mpr hy
     subst hy;rw[A4]at g;exact BV B8 tA B4 (BX _ _) (tuple_addW1 a b O.toArray N.toArray n n2 dd S sl R (by simpa using hv) (by simp[hw])) ⟨Z,P,⟨.c a,H,I,rfl,g a H (wC.refl H) ha⟩⟩
   . have hw:N≠[]:=λz=>hy (Y.wd.mp z)
     refine BV B8 tA B4 (BX _ _) (tuple_addW2 a b O.toArray N.toArray n n2 dd S sl R (by simpa using hv) (by simpa using hw) (by rw[Ah,Ah,<-r1.length,<-Y.length];exact hz)) ⟨Z,P,?_⟩
     rw[e];refine⟨.c s.heap.objs.size,_,I.laid (t':=s.toks) (o:=.c (xs++ys)) (λb ob q=>xd _ q) (Aa _) ?_,rfl,g.new _ (I.B.fresh (Aa _))⟩;exact⟨by rw[An];exact hz,_,r1.append Y,tu.new _ _⟩
noncomputable def Qz(ns:List Int):Bool:=decide (ns.length<=1000)&&ns.all λn=>decide (-1000000<=n)&&decide (n<=1000000)
end
end L2
end
section
namespace L2
open PySem PySem.W PySem.Calls PyProof PyProof.Rows
open AutoSeq1 (wpAny_loadPart')
open SeqAt
theorem bN:∀{xs} {us},Vals xs us->xs.all wb=true->us.map (eqU x)=xs.map λy=>eqV y x
 |_,_,.nil,_=>rfl
 |y::ys,u::us,.cons r rs,h=>by rw[CG,cf]at h;rw[AZ,AZ,bN rs h.2,ku r h.1]
section
variable {X:Cx}
def Zm(K:Ab)(g:List Int->Int):List V->Hp->VK->Prop:=λx H Q=>∃(a:Addr) (ns:List Int),x=[.c a]/\SqT K H a (ns.map V.d)/\ns≠[]/\Q (.d (g ns)) H
def fM(hc:X.j=true):yT X (.builtin "max") (Zm X.K (vt 0)):=by
 intro pins s σ H xs us Q I r h;obtain⟨a,ns,rfl,ha,W,q⟩:=h;obtain⟨u,rfl,ru⟩:=vals1 r;cases ru;obtain⟨N,Z,U,hz⟩:=I.tuple ha;have P:=Z.length;have S:a<s.heap.objs.size:=by obtain⟨o,O,_⟩:=id U;exact Al O
 have hl:N.toArray.size=ns.length:=by rw[Ah,<-P,Ak]
 have hpos:0<ns.length:=DJ.mpr W;have R:∀(i:Nat) (v:Value),N.toArray[i]?=some v->∃t,v=.int (ns.getD i 0) t:=λi v hv=>Z.ints (by simpa using hv)
 refine call_max_walk (E3 U ?_);refine⟨s.heap.objs.size,_,_,_,_,_,_,rfl,Walks.tuple (A:=X.A.in1) (I.C.k hc) s.heap.objs.size a (AI S) N.toArray,⟨⟨_,AD _ rfl,rfl,rfl⟩,?_⟩,λb hb=>?_,⋯,CmpOf.ints_gt (λi=>ns.getD i 0) R,λv h' tk hP hk=>?_⟩
 . obtain⟨o,O,Y,n,hd⟩:=id U
   exact⟨o,xd _ O,Y,n,hd⟩
 . rw[Bw]
   simp only[Ao,Bp,or_false]at hb;rcases hb with e|e
   . rw[e];exact CZ _
   . rw[e];exact CJ S
 . obtain⟨t,rfl⟩:=R _ _ hP
   obtain⟨b1,b2⟩:=argBest_gt (λi=>ns.getD i 0) (N.toArray.size-1);have e:vt 0 ns=ns.getD (argBest (λi j=>decide (ns.getD i 0 > ns.getD j 0)) (N.toArray.size-1)) 0:=by
    refine lX ?_ λx hx=>?_
    . have:argBest (λi j=>decide (ns.getD i 0 > ns.getD j 0)) (N.toArray.size-1)<ns.length:=by omega
      rw[AQ,Ai this];exact Cr this
    . obtain⟨i,hi,rfl⟩:=BG hx
      have:=b2 i ⋯
      simpa [AQ,Ai hi] using this
   refine⟨.d (vt 0 ns),H,I.kept λb o O=>hk b o ?_ (xd _ O),⟨t,by rw[e]⟩,q⟩
   simpa using AI (Al O)
def kj(hc:X.j=true):yT X (.builtin "min") (Zm X.K (uR 0)):=by
 intro pins s σ H xs us Q I r h;obtain⟨a,ns,rfl,ha,W,q⟩:=h;obtain⟨u,rfl,ru⟩:=vals1 r;cases ru;obtain⟨N,Z,U,hz⟩:=I.tuple ha;have P:=Z.length;have S:a<s.heap.objs.size:=by obtain⟨o,O,_⟩:=id U;exact Al O
 have hl:N.toArray.size=ns.length:=by rw[Ah,<-P,Ak]
 have hpos:0<ns.length:=DJ.mpr W;have R:∀(i:Nat) (v:Value),N.toArray[i]?=some v->∃t,v=.int (ns.getD i 0) t:=λi v hv=>Z.ints (by simpa using hv)
 refine call_min_walk (E3 U ?_);refine⟨s.heap.objs.size,_,_,_,_,_,_,rfl,Walks.tuple (A:=X.A.in1) (I.C.k hc) s.heap.objs.size a (AI S) N.toArray,⟨⟨_,AD _ rfl,rfl,rfl⟩,?_⟩,λb hb=>?_,⋯,CmpOf.ints_lt (λi=>ns.getD i 0) R,λv h' tk hP hk=>?_⟩
 . obtain⟨o,O,Y,n,hd⟩:=id U
   exact⟨o,xd _ O,Y,n,hd⟩
 . rw[Bw]
   simp only[Ao,Bp,or_false]at hb;rcases hb with e|e
   . rw[e];exact CZ _
   . rw[e];exact CJ S
 . obtain⟨t,rfl⟩:=R _ _ hP
   obtain⟨b1,b2⟩:=argBest_lt (λi=>ns.getD i 0) (N.toArray.size-1);have e:uR 0 ns=ns.getD (argBest (λi j=>decide (ns.getD i 0<ns.getD j 0)) (N.toArray.size-1)) 0:=by
    refine lY ?_ λx hx=>?_
    . have:argBest (λi j=>decide (ns.getD i 0<ns.getD j 0)) (N.toArray.size-1)<ns.length:=by omega
      rw[AQ,Ai this];exact Cr this
    . obtain⟨i,hi,rfl⟩:=BG hx
      have:=b2 i ⋯
      simpa [AQ,Ai hi] using this
   refine⟨.d (uR 0 ns),H,I.kept λb o O=>hk b o ?_ (xd _ O),⟨t,by rw[e]⟩,q⟩
   simpa using AI (Al O)
end
end L2
end
section
namespace L2
open PySem PySem.W PySem.Calls PyProof PyProof.Rows
open AutoSeq1 (wpAny_loadPart')
open SeqAt
noncomputable def Rt:List Int->List Int->Bool
 |[],[]=>false
 |[],_::_=>true
 |_::_,[]=>false
 |x::xs,y::ys=>if x=y then Rt xs ys else decide (x<y)
end L2
namespace L2
open PySem PySem.W PySem.Calls PyProof PyProof.Rows
def Ry:List (List Int)->List Int
 |[]=>[]
 |z::t=>t.foldl (λm y=>if Rt y m then y else m) z
end L2
end
section
namespace L2
open PySem PySem.W PySem.Calls PyProof PyProof.Rows
noncomputable def dN(ns:List Int):Nat:=(firstMet (λi=>ns.getD i 0) ns.length).length
end L2
end
section
namespace PySem
open Sem (wp)
structure y0(B newId initId:String)(bm:List Value):Prop extends ExcCallFacts B newId initId where
 c:splitId newId=some (B,"__new__")
 d:builtinKind newId=some .builtinFn
 e:Manifest.signature? newId=some ⟨.any,B,B,.cls,[⟨"args",.varPos,false⟩,⟨"kwargs",.varKw,false⟩]⟩
 b:bm.contains (.type B)=true
 a:bm.contains (.type "BaseException")=true
 f:bm.contains (.type "AttributeError")=false
 g:bm.contains (.type "NameError")=false
 h:Manifest.canonical newId=Manifest.canonical "BaseException.__new__"
def ExcBaseFacts.two(F:ExcBaseFacts B newId initId bm)D:y0 B newId initId (.ref D::bm):=
 ⟨F.toExcCallFacts,F.newSplit,F.newKind,F.newRow,by rw[Bh,F.hasB,C1],by rw[Bh,F.hasBase,C1],by rw[Bh,F.noAttr];rfl,by rw[Bh,F.noName];rfl,F.canon⟩
def v9{os:OsState}
 (hC:h.get? C=some (AV nm q C N bs bm hdct sn sub ab col dd k0 k1 k2 k3 k5 newId)) (W:h.Ns N mN) (O:mN name=none)
 (hD:h.get? D=some (AV nm1 q1 D N1 bs1 bm1 hd1 sn1 sub1 ab1 col1 dd1 j0 j1 j2 j3 j5 new1)) (P:h.Ns N1 mN1) (x:mN1 name=none) (R:bm=.ref D::bm1) (S:mroOf (.type B)=pure bm1) (hB:D5 (.type B) name=pure y)
 (U:Q y ⟨h,g,d,t,os⟩):wpAny M A (D5 (.ref C) name) Q E ⟨h,g,d,t,os⟩:=by
 have hrest:lookupAlong bm1 name=pure y:=by rw[GH,S]at hB;exact hB
 rw[GH];refine dS (Ge hC ?_);rw[F0];refine dS (E8 hC W ?_);rw[O,R];show wpAny M A (lookupAlong (.ref D::bm1) name) Q E _;rw[F0];refine dS (E8 hD P ?_);rw[x,hrest];exact Ae U
def wK{os:OsState}(F:y0 B newId initId bm)(hC:h.get? C=some (AV nm q C N bs bm hdct sn sub ab col dd k0 k1 k2 k3 k5 newId))
 (P:Q () ⟨h,g,d,t,os⟩):wpAny M A (Cc newId ⟨.ref C::rest,[]⟩) Q E ⟨h,g,d,t,os⟩:=by
 have x:(AH C::bm).contains (.type B)=true:=by rw[Bh,F.b,C1]
 have O:=F.noStar;simp only[Cc,F.d,F.c,F.e]
 repeat (first|refine AG hC ?_|(refine B7 hC ?_;rw[x])|refine wpAny_staticBase_exc hC ?_|refine F1 hC ?_|simp only[bne_self_eq_false,A2,if_false]|wp_step)
 exact P
def wG{os:OsState}(F:y0 B newId initId bm)(hC:h.get? C=some (AV nm q C N bs bm hdct sn sub ab col dd k0 k1 k2 k3 k5 newId))
 (U:R (.ok (.ret (.ref (h.objs.size+1)))) ⟨(h.push {cls:=.type "tuple",data:=.seq rest.toArray}).push
  {cls:=.ref C,data:=.fields #[.ref h.objs.size,.none,.none,.none,.bool false,.none]},g,d,t,os⟩) (hrest:rest.length<=Ap:=by size_fits) :
 codeAny (model prog w) A (.builtin newId ⟨.ref C::rest,[]⟩) R ⟨h,g,d,t,os⟩:=by
 have x:=F.ends;have P:(AH C::bm).contains (.type B)=true:=by rw[Bh,F.b,C1]
 have Q:(AH C::bm).contains (.type "AttributeError")=false:=by rw[Bh,F.f];rfl
 have O:(AH C::bm).contains (.type "NameError")=false:=by rw[Bh,F.g];rfl
 refine codeAny_builtinAt F.entry ?_;unfold Builtin.«BaseException.__new__»;refine wpAt_bind ?_;show wpAt _ _ _ (stack >>= _) _ _ _;refine wpAt_bind (wpAt_stack λp S=>wpAt_of_wpAny ?_)
 wp_walk
 refine wpAt_of_wpAny ?_;rw[F.owner]
 repeat (first|with_reducible refine wpAny_madeHere_exc F.h hC ?_|with_reducible refine AG hC ?_|(with_reducible refine B7 hC ?_;first|rw[P]|rw[Q]|rw[O])|wp_step)
 show R _ _;rw[Bw];exact U
def xj{os:OsState}(F:y0 B newId initId bm)
 (hC:h.get? C=some (AV nm q C N bs bm hdct sn sub ab col dd k0 k1 k2 k3 k5 newId)) (U:h.get? e=some oe) (O:oe.cls=.ref C) (S:Q () ⟨h,g,d,t,os⟩) :
 wpAny M A (Cc initId ⟨.ref e::rest,[]⟩) Q E ⟨h,g,d,t,os⟩:=by
 have R:(AH C::bm).contains (.type B)=true:=by rw[Bh,F.b,C1]
 have P:=F.noStar;simp only[Cc,F.initKind,F.initSplit,F.initRow]
 repeat (first|(with_reducible refine AG U ?_;rw[O])|with_reducible refine AG hC ?_|(with_reducible refine B7 hC ?_;rw[R])|wp_step)
 refine wpAny_onRaise ?_;rw[show ∀(a b:String) (n:Nat),Bind.check ⟨.positional,"*",B,.self,[⟨"args",.varPos,false⟩]⟩ a b n (Et (λx=>x.fst) ({pos:=AH e::rest}:Args).kw)=pure () from
  λa b n=>check_star_args _ _ _ _ _ _]
 exact Ae S
def w6{os:OsState}(F:y0 B newId initId bm)
 (hC:h.get? C=some (AV nm q C N bs bm hdct sn sub ab col dd k0 k1 k2 k3 k5 newId)) (hn:h.Ns N mN) (W:mN "__init__"=none) (hD:h.get? D=some (AV nm1 q1 D N1 bs1 bm1 hd1 sn1 sub1 ab1 col1 dd1 j0 j1 j2 j3 j5 new1)) (Y:h.Ns N1 mN1) (U:mN1 "__init__"=none) (hbm:bm=.ref D::bm1) (hb1:mroOf (.type B)=pure bm1) 
 (hq:∀h' e,CV h h' e (.ref C) rest->Q (.done (.ret (.ref e))) ⟨h',g,d,t,os⟩) (hrest:rest.length<=Ap:=by size_fits) :
 wpAny (model prog w) A (Builtin.«type.__call__» ⟨.ref C::rest,[]⟩) Q E ⟨h,g,d,t,os⟩:=by
 repeat (first|with_reducible refine AG hC ?_|with_reducible refine F1 hC ?_|wp_step)
 refine FJ (Df _ F.quiet) (wK F hC ?_);refine wG F hC ?_ hrest;show wpAny _ _ _ _ _ _;have x:=xd {cls:=.ref C,data:=.fields #[.ref h.objs.size,.none,.none,.none,.bool false,.none]}
  (xd {cls:=.type "tuple",data:=.seq rest.toArray} hC)
 have R:((h.push {cls:=.type "tuple",data:=.seq rest.toArray}).push {cls:=.ref C,data:=.fields #[.ref h.objs.size,.none,.none,.none,.bool false,.none]}).Ns N mN:=
  let ⟨o,es,ep,e,r⟩:=hn;⟨o,es,ep,xd _ (xd _ e),r⟩
 have O:((h.push {cls:=.type "tuple",data:=.seq rest.toArray}).push
  {cls:=.ref C,data:=.fields #[.ref h.objs.size,.none,.none,.none,.bool false,.none]}).get? (h.objs.size+1)=some
  {cls:=.ref C,data:=.fields #[.ref h.objs.size,.none,.none,.none,.bool false,.none]}:=by heap_get
 have Z:(AH C::bm).contains (.ref C)=true:=by simp
 unfold GB
 repeat (first|with_reducible refine AG O ?_|(with_reducible refine B7 x ?_;rw[Z])|wp_step)
 show wpAny _ _ (D5 (.ref C) _) _ _ _;have S:=xd {cls:=.ref C,data:=.fields #[.ref h.objs.size,.none,.none,.none,.bool false,.none]}
  (xd {cls:=.type "tuple",data:=.seq rest.toArray} hD)
 have P:((h.push {cls:=.type "tuple",data:=.seq rest.toArray}).push {cls:=.ref C,data:=.fields #[.ref h.objs.size,.none,.none,.none,.bool false,.none]}).Ns N1 mN1:=
  let ⟨o,es,ep,e,r⟩:=Y;⟨o,es,ep,xd _ (xd _ e),r⟩
 refine v9 x R W S P U hbm hb1 F.init.lookup ?_;refine Bv (dS (wpAny_of_eq (F.init.bind _) ?_));refine dS (C9 (Cm F.init.plain F.initEntry (xj F x O rfl ?_)))
 wp_walk
 refine hq _ _ ⟨λb o hb=>?_,CM (CT _),h.objs.size+2,?_,CM ⋯,?_⟩
 . rw[AU _ _ (Dn (CJ (Al hb)))]
   exact xd _ (xd _ (xd _ hb))
 . rw[BK _ (xd _ O) rfl]
   simp only[Bw];rfl
 . rw[AU _ _ (show h.objs.size+1≠h.objs.size+2 by omega)]
   exact FA (by simp only[Bw]) rfl
def uw{os:OsState}(F:y0 B newId initId bm)
 (hC:h.get? C=some (AV nm q C N bs bm hdct sn sub ab col dd k0 k1 k2 k3 k5 newId)) (W:h.Ns N mN) (O:mN "__init__"=none) (hD:h.get? D=some (AV nm1 q1 D N1 bs1 bm1 hd1 sn1 sub1 ab1 col1 dd1 j0 j1 j2 j3 j5 new1)) (P:h.Ns N1 mN1) (x:mN1 "__init__"=none) (R:bm=.ref D::bm1) (S:mroOf (.type B)=pure bm1) 
 (U:∀h' e,CV h h' e (.ref C) rest->Q (.ref e) ⟨h',g,d,t,os⟩) (hrest:rest.length<=Ap:=by size_fits) :
 wpAny (model prog w) A (call (.ref C) rest) Q E ⟨h,g,d,t,os⟩:=by
 have f1:=tc_lookup;have f2:=tc_bind (.ref C);have Z:(⟨h,g,d,t,os⟩:Shared).TypeIs (.ref C) "type":=⟨_,hC,rfl⟩;refine C9 (Gd ?_);show wpAny _ _ (callAny (.ref C) _) _ _ _
 repeat (any_goals (first|assumption|with_reducible refine AG hC ?_|wp_step))
 refine⟨rfl,?_⟩;refine F4 (Df _ (by decide +kernel)) entry_typeCall (FK hC (w6 (hrest:=hrest) F hC W O hD P x R S λh' e Y=>?_))
 exact U h' e Y
def v8(F:y0 B newId initId bm)
 (hh:A.handled=none) (W:(backTo cpos (AA args env)).any (·.1)=false) (hni:mN "__init__"=none) (Z:mN1 "__init__"=none) (hbm:bm=.ref D::bm1) (hb1:mroOf (.type B)=pure bm1)
 (h:wpAny (model prog w) A (eval (.Name x np) env) (λf S=>f=.ref C/\wpAny (model prog w) A (evalArgs (.ref C) true (backTo cpos (AA args env)) [])
  (λa O=>a.kw=[]/\a.pos.length<=Ap/\O.heap.get? C=some (AV nm q C N bs bm hdct sn sub ab col dd k0 k1 k2 k3 k5 newId)/\O.heap.Ns N mN/\O.heap.get? D=some (AV nm1 q1 D N1 bs1 bm1 hd1 sn1 sub1 ab1 col1 dd1 j0 j1 j2 j3 j5 new1)/\O.heap.Ns N1 mN1 /\
   ∀h' e,CV O.heap h' e (.ref C) a.pos->E (.ref e) {O with heap:=h'}) E S) E s) :
 wpAny (model prog w) A (exec (.Raise (some (.Call (.Name x np) args [] cpos)) none pos) env) Q E s:=by
 rw[arm_exec_Raise]
 first
  |refine dS (AY (DW (C:=C) (nm:=nm) (q:=q) (N:=N) (bs:=bs) (bm:=bm) (hdct:=hdct) (sn:=sn) (sub:=sub) (ab:=ab) (col:=col) (dd:=dd) (k0:=k0) (k1:=k1) (k2:=k2) (k3:=k3) (k5:=k5) (newId:=newId) F.a hh (dS (AF (CK (AF h (λf S R=>?_) λ_ _ x=>x)) (λv Y P=>dS (AY (Ae P))) λ_ _ x=>x))))
  |(simp only[evalOpt,Option.map];refine dS (AY (DW (C:=C) (nm:=nm) (q:=q) (N:=N) (bs:=bs) (bm:=bm) (hdct:=hdct) (sn:=sn) (sub:=sub) (ab:=ab) (col:=col) (dd:=dd) (k0:=k0) (k1:=k1) (k2:=k2) (k3:=k3) (k5:=k5) (newId:=newId) F.hasBase hh (dS (AF (CK (AF h (λf S R=>?_) λ_ _ x=>x)) (λv Y P=>dS (AY (Ae P))) λ_ _ x=>x)))))
  |(refine dS (AY (DW (C:=C) (nm:=nm) (q:=q) (N:=N) (bs:=bs) (bm:=bm) (hdct:=hdct) (sn:=sn) (sub:=sub) (ab:=ab) (col:=col) (dd:=dd) (k0:=k0) (k1:=k1) (k2:=k2) (k3:=k3) (k5:=k5) (newId:=newId) F.hasBase hh ?_));refine dS (AF (CK (AF h (λf S R=>?_) λ_ _ x=>x)) (λv Y P=>dS (AY (Ae P))) λ_ _ x=>x))
 obtain⟨rfl,R⟩:=R;unfold callWith;refine dS (Bv (AF R (λa O U=>dS (AY ?_)) λ_ _ x=>x));obtain⟨apos,akw⟩:=a;obtain⟨hkw,hlen,hC,hn,hD,hn1,U⟩:=U;obtain rfl:akw=[]:=hkw;obtain⟨hp,g,d,tk,os⟩:=O;simp only[W];refine dS (wpAny_keeperOf_exc hC ?_);refine dS (uw (hrest:=hlen) F hC hn hni hD hn1 Z hbm hb1 λh' e hm=>dS (Bv (wpAny_point (Ae ?_))));obtain⟨t,ht,_,_⟩:=hm.there;exact⟨e,t,rfl,hm.keeps _ _ hC,ht,U h' e hm⟩
def Obj.vp f o:(BS f o).dict=o.dict:=by unfold BS;split<;>rfl
namespace Heap
def vU(h base:Heap)(e:Addr)(cls:Value)(N:Option Addr):Prop:=
 ∃oe vs T x ts,h.get? e=some oe/\(oe.cls=cls/\oe.dict=N)/\oe.data=.fields vs/\vs[1]?=some (.ref T)/\base.get? T=none/\T≠e/\h.get? T=some x/\x.data=.fields ts/\ts[3]?=some .none
def ud(h base:Heap)(e:Addr)(cls:Value)(N:Option Addr)(fl:Value):Prop:=
 ∃oe vs T x ts,h.get? e=some oe/\(oe.cls=cls/\oe.dict=N)/\oe.data=.fields vs/\vs[1]?=some (.ref T)/\base.get? T=none/\T≠e/\h.get? T=some x/\x.data=.fields ts/\ts[3]?=some fl
def vU.at{h base:Heap}(x:h.vU base e cls a0):h.ud base e cls a0 .none:=x
def dq(base:Heap)(l:List Env)(e:Addr)(cls:Value)(N:Option Addr)(fl:Value)(h h':Heap):Prop:=
 base.StaysIn h'/\h'.FunFrames base l/\h'.ud base e cls N fl/\∀b o,h.get? b=some o->(∀vs,o.data≠.fields vs)->∃x,h'.get? b=some {o with slots:=x}
end Heap
section
variable {M:Model}{A:Around}{E:Value->Shared->Prop}{s:Shared}
def Heap.dn(base:Heap)(l:List Env)(e:Addr)(cls:Value)(N:Option Addr)(h h':Heap):Prop:=
 base.StaysIn h'/\h'.FunFrames base l/\h'.vU base e cls N /\
  ∀b o,h.get? b=some o->(∀vs,o.data≠.fields vs)->∃x,h'.get? b=some {o with slots:=x}
def v5
 (hfr:A.frames=some (env::outer)) (hl:s.heap.FunFrames base (env::outer)) (hf:env.frame=some L)
 (he:s.heap.get? e=some oe) (hkb:base.StaysIn s.heap) (hen:base.get? e=none) (hd:oe.data=.fields vs) (hsz:1<vs.size) (h0:oe.dict=a0)
 (h:∀h',Heap.dn base (env::outer) e oe.cls a0 s.heap h'->Q () {s with heap:=h'}) :
 wpAny M A (do let a <-frameOf env;let pl <-entryPlaceOf L hadNext;let b <-DK head a .none (rawInt L) .none pl;setField (.ref e) 1 b) (λ_ s'=>wpAny M A (EB (.ref e) none) Q E s') E s:=by
 have hene:e ∉ (env::outer).filterMap (·.frame):=λhm=>by
  obtain⟨_,o,ho,R⟩:=hl.mem hm;rw[he]at ho;injection ho with ho;subst ho;exact R vs hd
 refine dS (wpAny_frameOf_fun hfr hl hf λN P=>?_);refine dS (wpAny_entryPlaceOf λpl hpl=>?_);unfold DK newFields;refine dS (Bg ?_ (hpl.sizeOk5 _ _ _ _ _));have he₁:N.get? e=some oe:=(P.2.1 e hene).trans he;have Y:base.StaysIn N:=λb o U=>(P.2.1 b λhm=>by rw[(hl.mem hm).1]at U;cases U).trans (hkb b o U)
 have he₂:=xd (h:=N) {cls:=.type "traceback",dict:=none,data:=.fields ([head,.ref L,.none,rawInt L,.none]++(if pl.isEmpty then Aj 6 Be else pl)).toArray} he₁
 refine Dr he₂ hd hsz ?_;have hTe:N.objs.size≠e:=Dn (Al he₁);have S:=Cz hd (·.setIfInBounds 1 (AH N.objs.size))
 have Z:=BK (BS (·.setIfInBounds 1 (AH N.objs.size))) he₂ (Ds S)
 have hT₃:=(AU (N.push {cls:=.type "traceback",dict:=none,data:=.fields ([head,.ref L,.none,rawInt L,.none]++(if pl.isEmpty then Aj 6 Be else pl)).toArray})
  (BS (·.setIfInBounds 1 (AH N.objs.size))) (A9 hTe)).trans (AD N rfl)
 unfold EB;refine dS (B0 Z S (x:=.ref N.objs.size) (by simp[hsz]) ?_)
 rw[if_pos (show (AH N.objs.size != Be)=true from by simp)]
 refine Dr hT₃ rfl (by simp only[Ah,An,AB,B5]<;>omega) (h _ ?_)
 have keep:∀b o,b≠e->N.get? b=some o ->
  (((N.push {cls:=.type "traceback",dict:=none,data:=.fields ([head,.ref L,.none,rawInt L,.none]++(if pl.isEmpty then Aj 6 Be else pl)).toArray}).update e (BS (·.setIfInBounds 1 (AH N.objs.size)))).update N.objs.size
    (BS (·.setIfInBounds 3 ((none:Option Addr).elim Be λf=>rawInt f)))).get? b=some o:=λb o hbe W=>by
  have hbT:N.objs.size≠b:=Dn (Al W);rw[AU _ _ hbT,AU _ _ (A9 hbe)];exact xd _ W
 have O:∀b o,s.heap.get? b=some o->(∀vs,o.data≠.fields vs)->b≠e:=λb o W R q=>by
  rw[q,he]at W;injection W with W;subst W;exact R vs hd
 refine⟨λb o U=>keep b o (λq=>by rw[q,hen]at U;cases U) (Y b o U),hl.of_keeps λb o W R=>?_,?_,λb o W R=>?_⟩
 . obtain⟨sl,hs⟩:=P.2.2 b o W
   exact⟨_,keep b _ (O b o W R) hs,rfl⟩
 . refine⟨_,_,N.objs.size,_,_,?_,⟨Obj.cls_mapFields _ _,by rw[Obj.vp];exact h0⟩,S,by simp[hsz],Y.fresh,hTe,BK _ hT₃ (Ds (Cz rfl _)),Cz rfl _,by first|(simp;done)|(rcases hpl with rfl|⟨_,_,_,_,_,_,_,rfl⟩<;>simp)⟩
   rw[AU _ _ hTe];exact Z
 . obtain⟨sl,hs⟩:=P.2.2 b o W
   exact⟨sl,keep b _ (O b o W R) hs⟩
def uZ
 (N:A.frames=some (env::outer)) (R:s.heap.FunFrames base (env::outer)) (hf:env.frame=some L)
 (P:s.heap.get? e=some oe) (x:base.StaysIn s.heap) (O:base.get? e=none) (hd:oe.data=.fields vs) (h1:vs[1]?=some .none) (h0:oe.dict=a0)
 (h:∀h',Heap.dn base (env::outer) e oe.cls a0 s.heap h'->Q () {s with heap:=h'}):wpAny M A (leaving env (.ref e)) Q E s:=by
 unfold leaving EA;simp only[hf];refine dS (dS (B0 P hd h1 ?_));rw[if_neg (by decide)]
 exact v5 N R hf P x O hd (BU.mp h1).1 h0 h
def ux
 (Z:A.frames=some (env::outer)) (hl:s.heap.FunFrames base (env::outer)) (hf:env.frame=some L) (ht:s.heap.vU base e cls a0) (Y:base.StaysIn s.heap) (hen:base.get? e=none)
 (h:∀h',Heap.dn base (env::outer) e cls a0 s.heap h'->Q () {s with heap:=h'}):wpAny M A (leaving env (.ref e)) Q E s:=by
 obtain⟨oe,vs,T,oT,ts,he,⟨U,h0⟩,hd,h1,W,hTe,hT,R,h3⟩:=ht;subst U;unfold leaving EA;simp only[hf];refine dS (dS (B0 he hd h1 ?_));rw[if_pos (show (AH T != Be)=true from by simp)]
 refine dS (B0 hT R h3 ?_);rw[if_neg (show ¬((Be == rawInt L)=true) from by simp[rawInt])]
 refine dS (Dr hT R (BU.mp h3).1 ?_);have N:∀b,b≠T->(s.heap.update T (BS (·.setIfInBounds 3 Be))).get? b=s.heap.get? b:=λb P=>AU _ _ (A9 P)
 have x:∀b o,s.heap.get? b=some o->(∀vs,o.data≠.fields vs)->b≠T:=λb o P O q=>by
  rw[q,hT]at P;injection P with P;subst P;exact O ts R
 refine v5 Z (hl.of_keeps λb o P O=>⟨o,(N b (x b o P O)).trans P,rfl⟩) hf ((N e (A9 hTe)).trans he)
  (λb o S=>(N b λq=>by rw[q,W]at S;cases S).trans (Y b o S)) hen hd (BU.mp h1).1 h0
  λh' ⟨x1,x2,x3,x4⟩=>h h' ⟨x1,x2,x3,λb o P O=>x4 b o ((N b (x b o P O)).trans P) O⟩
def Heap.wM(base:Heap)(l:List Env)(e:Addr)(cls:Value)(x:Option Addr)(h:Heap):Prop:=
 base.StaysIn h/\base.get? e=none/\h.FunFrames base l/\h.vU base e cls x
def vS
 (x:A.frames=some (env::outer)) (hf:env.frame=some L) (N:Heap.wM base (env::outer) e cls a0 s.heap)
 (P:∀h',Heap.wM base outer e cls a0 h'->s.heap.UpToSlots h'->Q () {s with heap:=h'}):wpAny M A (leaving env (.ref e)) Q E s:=by
 obtain⟨f1,f2,f3,f4⟩:=N;refine ux x f3 hf f4 f1 f2 λh' R=>?_;obtain⟨k1,⟨_,_,k2⟩,k3,O⟩:=R;exact P h' ⟨k1,f2,k2,k3⟩ O
def mn
 (hfr:A.frames=some (env::outer)) (hl:s.heap.FunFrames base (env::outer)) (hf:env.frame=some L)
 (he:s.heap.get? e=some oe) (hkb:base.StaysIn s.heap) (hen:base.get? e=none) (hd:oe.data=.fields vs) (hsz:1<vs.size) (h0:oe.dict=a0)
 (h:∀h',Heap.dq base (env::outer) e oe.cls a0 (rawInt L) s.heap h'->Q () {s with heap:=h'}) :
 wpAny M A (do let a <-frameOf env;let pl <-entryPlaceOf L hadNext;let b <-DK head a .none (rawInt L) .none pl;setField (.ref e) 1 b) Q E s:=by
 have hene:e ∉ (env::outer).filterMap (·.frame):=λhm=>by
  obtain⟨_,o,ho,P⟩:=hl.mem hm;rw[he]at ho;injection ho with ho;subst ho;exact P vs hd
 refine dS (wpAny_frameOf_fun hfr hl hf λx O=>?_);refine dS (wpAny_entryPlaceOf λpl hpl=>?_);unfold DK newFields;refine dS (Bg ?_ (hpl.sizeOk5 _ _ _ _ _));have Y:x.get? e=some oe:=(O.2.1 e hene).trans he;have U:base.StaysIn x:=λb o R=>(O.2.1 b λhm=>by rw[(hl.mem hm).1]at R;cases R).trans (hkb b o R)
 have W:=xd (h:=x) {cls:=.type "traceback",dict:=none,data:=.fields ([head,.ref L,.none,rawInt L,.none]++(if pl.isEmpty then Aj 6 Be else pl)).toArray} Y
 refine Dr W hd hsz (h _ ?_);have hTe:x.objs.size≠e:=Dn (Al Y);have Z:=Cz hd (·.setIfInBounds 1 (AH x.objs.size))
 have he₃:=BK (BS (·.setIfInBounds 1 (AH x.objs.size))) W (Ds Z)
 have hT₃:=(AU (x.push {cls:=.type "traceback",dict:=none,data:=.fields ([head,.ref L,.none,rawInt L,.none]++(if pl.isEmpty then Aj 6 Be else pl)).toArray})
  (BS (·.setIfInBounds 1 (AH x.objs.size))) (A9 hTe)).trans (AD x rfl)
 have keep:∀b o,b≠e->x.get? b=some o ->
  ((x.push {cls:=.type "traceback",dict:=none,data:=.fields ([head,.ref L,.none,rawInt L,.none]++(if pl.isEmpty then Aj 6 Be else pl)).toArray}).update e (BS (·.setIfInBounds 1 (AH x.objs.size)))).get? b=some o:=
  λb o hbe S=>by rw[AU _ _ (A9 hbe)];exact xd _ S
 have N:∀b o,s.heap.get? b=some o->(∀vs,o.data≠.fields vs)->b≠e:=λb o S P q=>by
  rw[q,he]at S;injection S with S;subst S;exact P vs hd
 refine⟨λb o R=>keep b o (λq=>by rw[q,hen]at R;cases R) (U b o R),hl.of_keeps λb o S P=>?_,?_,λb o S P=>?_⟩
 . obtain⟨sl,hs⟩:=O.2.2 b o S
   exact⟨_,keep b _ (N b o S P) hs,rfl⟩
 . exact⟨_,_,x.objs.size,_,_,he₃,⟨Obj.cls_mapFields _ _,by rw[Obj.vp];exact h0⟩,Z,by simp[hsz],U.fresh,hTe,hT₃,rfl,by first|(simp;done)|(rcases hpl with rfl|⟨_,_,_,_,_,_,_,rfl⟩<;>simp)⟩
 . obtain⟨sl,hs⟩:=O.2.2 b o S
   exact⟨sl,keep b _ (N b o S P) hs⟩
def uy
 (Z:A.frames=some (env::outer)) (hl:s.heap.FunFrames base (env::outer)) (hf:env.frame=some L) (ht:s.heap.vU base e cls a0) (Y:base.StaysIn s.heap) (hen:base.get? e=none)
 (h:∀h',Heap.dq base (env::outer) e cls a0 (rawInt L) s.heap h'->Q () {s with heap:=h'}):wpAny M A (EA (.ref e) env) Q E s:=by
 obtain⟨oe,vs,T,oT,ts,he,⟨U,h0⟩,hd,h1,W,hTe,hT,R,h3⟩:=ht;subst U;unfold EA;simp only[hf];refine dS (B0 he hd h1 ?_);rw[if_pos (show (AH T != Be)=true from by simp)]
 refine dS (B0 hT R h3 ?_);rw[if_neg (show ¬((Be == rawInt L)=true) from by simp[rawInt])]
 refine dS (Dr hT R (BU.mp h3).1 ?_);have N:∀b,b≠T->(s.heap.update T (BS (·.setIfInBounds 3 Be))).get? b=s.heap.get? b:=λb P=>AU _ _ (A9 P)
 have x:∀b o,s.heap.get? b=some o->(∀vs,o.data≠.fields vs)->b≠T:=λb o P O q=>by
  rw[q,hT]at P;injection P with P;subst P;exact O ts R
 refine mn Z (hl.of_keeps λb o P O=>⟨o,(N b (x b o P O)).trans P,rfl⟩) hf ((N e (A9 hTe)).trans he)
  (λb o S=>(N b λq=>by rw[q,W]at S;cases S).trans (Y b o S)) hen hd (BU.mp h1).1 h0
  λh' ⟨x1,x2,x3,x4⟩=>h h' ⟨x1,x2,x3,λb o P O=>x4 b o ((N b (x b o P O)).trans P) O⟩
def xk
 (hkb:base.StaysIn s.heap) (hl:s.heap.FunFrames base l) (ht:s.heap.ud base e cls a0 fl)
 (h:∀h',base.StaysIn h'->h'.FunFrames base l->h'.vU base e cls a0->(∀b o,s.heap.get? b=some o->(∀vs,o.data≠.fields vs)->h'.get? b=some o)->Q () {s with heap:=h'}) :
 wpAny M A (EB (.ref e) none) Q E s:=by
 obtain⟨oe,vs,T,oT,ts,he,Y,hd,h1,W,Z,hT,R,h3⟩:=ht;have S:3<ts.size:=(BU.mp h3).1;have N:∀b,b≠T->(s.heap.update T (BS (·.setIfInBounds 3 ((none:Option Addr).elim Be λf=>rawInt f)))).get? b=s.heap.get? b:=
  λb O=>AU _ _ (A9 O)
 have x:∀b o,s.heap.get? b=some o->(∀vs,o.data≠.fields vs)->b≠T:=λb o O P q=>by
  rw[q,hT]at O;injection O with O;subst O;exact P ts R
 unfold EB;refine dS (B0 he hd h1 ?_);rw[if_pos (show (AH T != Be)=true from by simp)]
 refine Dr hT R S (h _ (λb o U=>(N b λq=>by rw[q,W]at U;cases U).trans (hkb b o U))
  (hl.of_keeps λb o O P=>⟨o,(N b (x b o O P)).trans O,rfl⟩) ?_ λb o O P=>(N b (x b o O P)).trans O)
 exact⟨oe,vs,T,_,_,(N e (A9 Z)).trans he,Y,hd,h1,W,Z,BK _ hT (Ds (Cz R _)),Cz R _,by simp[S]⟩
def Heap.W0(base:Heap)(l:List Env)(e:Addr)(cls:Value)(x:Option Addr)(L:Addr)(h:Heap):Prop:=
 base.StaysIn h/\base.get? e=none/\h.FunFrames base l/\h.ud base e cls x (rawInt L)
def qD
 (x:A.frames=some (env::outer)) (hf:env.frame=some L) (N:Heap.wM base (env::outer) e cls a0 s.heap)
 (P:∀h',Heap.W0 base (env::outer) e cls a0 L h'->s.heap.UpToSlots h'->Q () {s with heap:=h'}):wpAny M A (EA (.ref e) env) Q E s:=by
 obtain⟨f1,f2,f3,f4⟩:=N;refine uy x f3 hf f4 f1 f2 λh' R=>?_;obtain⟨k1,k2,k3,O⟩:=R;exact P h' ⟨k1,f2,k2,k3⟩ O
def mq(O:Heap.W0 base l e cls a0 L s.heap)
 (R:∀h',Heap.wM base l e cls a0 h'->s.heap.UpToSlots h'->Q () {s with heap:=h'}):wpAny M A (EB (.ref e) none) Q E s:=by
 obtain⟨f1,f2,f3,f4⟩:=O;exact xk f1 f3 f4 λh' k1 k2 k3 x=>R h' ⟨k1,f2,k2,k3⟩ λb o P N=>⟨o.slots,x b o P N⟩
def sg
 (O:A.frames=some (env::outer)) (hf:env.frame=some L) (x:base.StaysIn h) (S:h.FunFrames base (env::outer)) (keeps:∀b o,h.get? b=some o->s.heap.get? b=some o) (new:h.get? e=none) (U:s.heap.get? e=some oe) (hd:oe.data=.fields vs) (h1:vs[1]?=some .none)
 (W:∀h',Heap.wM base outer e oe.cls oe.dict h'->s.heap.UpToSlots h'->Q () {s with heap:=h'}):wpAny M A (leaving env (.ref e)) Q E s:=by
 have fresh:∀b,h.get? b=none->base.get? b=none:=λb N=>by
  cases hq:base.get? b with
  |none=>rfl
  |some P=>have:=x b P hq;rw[N]at this;cases this
 refine uZ O (S.of_keeps λb o N _=>⟨o,keeps b o N,rfl⟩) hf U (λb o N=>keeps b o (x b o N)) (fresh e new) hd h1 rfl λh' Y=>?_;obtain⟨k1,⟨_,_,k2⟩,k3,R⟩:=Y;exact W h' ⟨k1,fresh e new,k2,k3⟩ R
def n9(O:Heap.wM base l e cls a0 s.heap)
 (R:∀h',Heap.wM base l e cls a0 h'->s.heap.UpToSlots h'->Q () {s with heap:=h'}):wpAny M A (EB (.ref e) none) Q E s:=by
 obtain⟨f1,f2,f3,f4⟩:=O;exact xk f1 f3 f4.at λh' k1 k2 k3 x=>R h' ⟨k1,f2,k2,k3⟩ λb o P N=>⟨o.slots,x b o P N⟩
end
end PySem
end
section
namespace PySem
open Sem (wp)
open Builtin Builtin.ObjectAttr
def ua{os:OsState}
 (hC:h.get? C=some (AV nm q C N bs bm hdct sn sub ab col dd k0 k1 k2 k3 k5 newId)) (O:h.Ns N mN) (hi:mN name=some y)
 (x:Q (some y) ⟨h,g,d,t,os⟩):wpAny M A (D5 (.ref C) name) Q E ⟨h,g,d,t,os⟩:=by
 rw[GH];refine dS (Ge hC ?_);rw[F0];refine dS (E8 hC O ?_);rw[hi];exact Ae x
def yi{x:Sem Value}(P:bm.contains (.type "BaseException")=true)(U:A.handled=none)
 (h:wpAny M A x (λv O=>∃e t dx,v=.ref e/\O.heap.get? C=some (AV nm q C N bs bm hdct sn sub ab col dd k0 k1 k2 k3 k5 newId) /\
  O.heap.get? e=some {cls:=.ref C,dict:=dx,data:=.fields #[.ref t,.none,.none,.none,.bool false,.none]}/\E (.ref e) O) E s) :
 wpAny M A (raiseStmt env (some x) none) Q E s:=by
 have S:(AH C::bm).contains (.type "BaseException")=true:=by rw[Bh,P,C1]
 unfold raiseStmt;refine dS (AF h (λv O R=>?_) λ_ _ x=>x);obtain⟨e,t,dx,rfl,hC,W,hE⟩:=R;obtain⟨hp,g,d,tk,os⟩:=O
 repeat (first|with_reducible refine AG W ?_|with_reducible refine AG hC ?_|(with_reducible refine B7 hC ?_;rw[S])|wp_step)
 exact wpAny_raiseNew_none U hE
def wa{os:OsState}(F:y0 B newId initId bm){Q:Fin->Shared->Prop}
 (hC:h.get? C=some (AV nm q C N bs bm hdct sn sub ab col dd k0 k1 k2 k3 k5 newId)) (hn:h.Ns N mN) (hi:mN "__init__"=some (.ref fI))
 (W:h.get? fI=some oI) (U:oI.cls=.type "function")
 (hq:∀h' e,CV h h' e (.ref C) rest->h.objs.size<=e ->
  wpAny (model prog w) A (call (.ref fI) (.ref e::rest)) (λr s'=>r=.none/\Q (.done (.ret (.ref e))) s') E ⟨h',g,d,t,os⟩) (hrest:rest.length<=Ap:=by size_fits) :
 wpAny (model prog w) A (Builtin.«type.__call__» ⟨.ref C::rest,[]⟩) Q E ⟨h,g,d,t,os⟩:=by
 repeat (first|with_reducible refine AG hC ?_|with_reducible refine F1 hC ?_|wp_step)
 refine FJ (Df _ F.quiet) (wK F hC ?_);refine wG F hC ?_ hrest;show wpAny _ _ _ _ _ _;have O:=xd {cls:=.ref C,data:=.fields #[.ref h.objs.size,.none,.none,.none,.bool false,.none]}
  (xd {cls:=.type "tuple",data:=.seq rest.toArray} hC)
 have P:=xd {cls:=.ref C,data:=.fields #[.ref h.objs.size,.none,.none,.none,.bool false,.none]}
  (xd {cls:=.type "tuple",data:=.seq rest.toArray} W)
 have S:((h.push {cls:=.type "tuple",data:=.seq rest.toArray}).push {cls:=.ref C,data:=.fields #[.ref h.objs.size,.none,.none,.none,.bool false,.none]}).Ns N mN:=
  let ⟨o,es,ep,e,r⟩:=hn;⟨o,es,ep,xd _ (xd _ e),r⟩
 have R:((h.push {cls:=.type "tuple",data:=.seq rest.toArray}).push
  {cls:=.ref C,data:=.fields #[.ref h.objs.size,.none,.none,.none,.bool false,.none]}).get? (h.objs.size+1)=some
  {cls:=.ref C,data:=.fields #[.ref h.objs.size,.none,.none,.none,.bool false,.none]}:=by heap_get
 have Y:(AH C::bm).contains (.ref C)=true:=by simp
 unfold GB
 repeat (first|with_reducible refine AG R ?_|(with_reducible refine B7 O ?_;rw[Y])|wp_step)
 show wpAny _ _ (D5 (.ref C) _) _ _ _;refine ua O S hi ?_;refine Bv (dS ?_);unfold bindSpecial;refine dS (DR (T:="function") ⟨_,P,U⟩ ?_);rw[if_pos (by decide)]
 refine Ae (dS (AF (hq _ (h.objs.size+1) ⟨λb o hb=>xd _ (xd _ hb),CM (CT _),h.objs.size,R,CM (Aa _),?_⟩ (CT _)) (λr s' Z=>?_) λ_ _ x=>x))
 . exact xd _ (FA rfl rfl)
 . obtain⟨rfl,hQ⟩:=Z
   wp_walk
   exact hQ
def uY{os:OsState}(F:y0 B newId initId bm){Q:Value->Shared->Prop}
 (hC:h.get? C=some (AV nm q C N bs bm hdct sn sub ab col dd k0 k1 k2 k3 k5 newId)) (R:h.Ns N mN) (hi:mN "__init__"=some (.ref fI))
 (O:h.get? fI=some oI) (x:oI.cls=.type "function")
 (P:∀h' e,CV h h' e (.ref C) rest->h.objs.size<=e ->
  wpAny (model prog w) (A.under (.builtin "type.__call__" ⟨.ref C::rest,[]⟩)) (call (.ref fI) (.ref e::rest)) (λr s'=>r=.none/\Q (.ref e) s') E ⟨h',g,d,t,os⟩) (hrest:rest.length<=Ap:=by size_fits) :
 wpAny (model prog w) A (call (.ref C) rest) Q E ⟨h,g,d,t,os⟩:=by
 have f1:=tc_lookup;have f2:=tc_bind (.ref C);have U:(⟨h,g,d,t,os⟩:Shared).TypeIs (.ref C) "type":=⟨_,hC,rfl⟩;refine C9 (Gd ?_);show wpAny _ _ (callAny (.ref C) _) _ _ _
 repeat (any_goals (first|assumption|with_reducible refine AG hC ?_|wp_step))
 refine⟨rfl,?_⟩;refine F4 (Df _ (by decide +kernel)) entry_typeCall (FK hC (wa (hrest:=hrest) F hC R hi O x λh' e S hz=>?_))
 exact P h' e S hz
def se
 (S:bm.contains (.type "BaseException")=true) (hh:A.handled=none) (Z:(backTo cpos (AA args env)).any (·.1)=false)
 (h:wpAny (model prog w) A (eval (.Name y np) env) (λf W=>f=.ref C/\wpAny (model prog w) A (evalArgs (.ref C) true (backTo cpos (AA args env)) [])
  (λa U=>a.kw=[]/\U.heap.get? C=some (AV nm q C N bs bm hdct sn sub ab col dd k0 k1 k2 k3 k5 newId)/\wpAny (model prog w) A (call (.ref C) a.pos) (λv O=>∃e t dx,v=.ref e/\O.heap.get? C=some (AV nm q C N bs bm hdct sn sub ab col dd k0 k1 k2 k3 k5 newId)/\O.heap.get? e=some {cls:=.ref C,dict:=dx,data:=.fields #[.ref t,.none,.none,.none,.bool false,.none]}/\E (.ref e) O) E U) E W) E s) :
 wpAny (model prog w) A (exec (.Raise (some (.Call (.Name y np) args [] cpos)) none pos) env) Q E s:=by
 rw[arm_exec_Raise]
 first
  |refine dS (AY (yi (C:=C) (nm:=nm) (q:=q) (N:=N) (bs:=bs) (bm:=bm) (hdct:=hdct) (sn:=sn) (sub:=sub) (ab:=ab) (col:=col) (dd:=dd) (k0:=k0) (k1:=k1) (k2:=k2) (k3:=k3) (k5:=k5) (newId:=newId) S hh (dS (AF (CK (AF h (λf W R=>?_) λ_ _ x=>x)) (λv O P=>dS (AY (Ae P))) λ_ _ x=>x))))
  |(simp only[evalOpt,Option.map];refine dS (AY (yi (C:=C) (nm:=nm) (q:=q) (N:=N) (bs:=bs) (bm:=bm) (hdct:=hdct) (sn:=sn) (sub:=sub) (ab:=ab) (col:=col) (dd:=dd) (k0:=k0) (k1:=k1) (k2:=k2) (k3:=k3) (k5:=k5) (newId:=newId) S hh (dS (AF (CK (AF h (λf W R=>?_) λ_ _ x=>x)) (λv O P=>dS (AY (Ae P))) λ_ _ x=>x)))))
  |(refine dS (AY (yi (C:=C) (nm:=nm) (q:=q) (N:=N) (bs:=bs) (bm:=bm) (hdct:=hdct) (sn:=sn) (sub:=sub) (ab:=ab) (col:=col) (dd:=dd) (k0:=k0) (k1:=k1) (k2:=k2) (k3:=k3) (k5:=k5) (newId:=newId) S hh ?_));refine dS (AF (CK (AF h (λf W R=>?_) λ_ _ x=>x)) (λv O P=>dS (AY (Ae P))) λ_ _ x=>x))
 obtain⟨rfl,R⟩:=R;unfold callWith;refine dS (Bv (AF R (λa U Y=>dS (AY ?_)) λ_ _ x=>x));obtain⟨apos,akw⟩:=a;obtain⟨hkw,hC,Y⟩:=Y;obtain rfl:akw=[]:=hkw;obtain⟨hp,g,d,tk,os⟩:=U;simp only[Z];refine dS (wpAny_keeperOf_exc hC ?_);exact dS (AF Y (λv O P=>dS (Bv (wpAny_point (Ae P)))) λ_ _ x=>x)
structure wD(B:String)(bm:List Value)(sa owner:String):Prop where
 f:Slot B "__setattr__" sa
 g:entryFor table sa=some Builtin.«object.__setattr__»
 j:builtinKind sa=some .slot
 h:splitId sa=some (owner,"__setattr__")
 d:bm.contains (.type owner)=true
 i:∀a b c:Value,argsOk sa ⟨[a,b,c],[]⟩
 e:∀self:Value,refuseLoop self "__setattr__" bm=pure ()
def StoreFacts.two(F:StoreFacts B bm sa owner)D:wD B (.ref D::bm) sa owner:=
 ⟨F.slot,F.entry,F.kind,F.split,by rw[Bh,F.hasOwner,C1],F.args,λx=>by rw[refuseLoop_ref];exact F.passes x⟩
def qC{os:OsState}(S:wD B bm sa owner)
 (hC:h.get? C=some (AV nm q C N bs bm true sn sub ab col dd k0 k1 k2 k3 k5 newId)) (hx:h.get? x=some o) (W:o.cls=.ref C) (R:Q () ⟨h,g,d,t,os⟩) :
 wpAny M A (Cc sa ⟨[.ref x,nameV,v],[]⟩) Q E ⟨h,g,d,t,os⟩:=by
 have P:(AH C::bm).contains (.type owner)=true:=by rw[Bh,S.d,C1]
 have U:=S.i (.ref x) nameV v;simp only[Cc,S.j,S.h];refine dS ?_
 . unfold GB
   repeat (first|(with_reducible refine AG hx ?_;rw[W])|(with_reducible refine B7 hC ?_;rw[P])|wp_step)
   cases hsig:Manifest.signature? sa with
   |none=>exact Ae R
   |some O=>
    simp only[argsOk,hsig]at U;have Y:Bind.checkArgs sa O ⟨[.ref x,nameV,v],[]⟩=pure ():=U;show wpAny M A (Bind.checkArgs sa O ⟨[.ref x,nameV,v],[]⟩) Q E _;rw[Y];exact Ae R
def mf{os:OsState}{tk:Tok}{Q:Fin->Shared->Prop}{ns:List Str}(SF:wD B bm sa owner)
 (hC:h.get? C=some (AV nm q C N bs bm true sn sub ab col dd k0 k1 k2 k3 k5 newId)) (X:K.In h) (hna:Dp K (.ref C) name=some none)
 (hxC:x≠C) (I:h.Inst x C mA)
 (hq:∀h' tk',h'.Inst x C (λy=>if y=name then some v else mA y) ->
  (∀b o,b≠x->(∀O dx,h.get? x=some O->O.dict=some dx->b≠dx)->h.get? b=some o->h'.get? b=some o) ->
  (∀O,h.get? x=some O->∃P,h'.get? x=some P/\P.cls=O.cls/\P.data=O.data/\P.slots=O.slots/\(∀dx,O.dict=some dx->P.dict=some dx)/\(O.dict=none->P.dict=some h.objs.size))->Q (.done (.ret .none)) ⟨h',g,d,tk',os⟩) (hw:Within mA ns:=by within_ways) (hsz:ns.length<=Ap:=by size_fits) :
 wpAny (model prog w) A (Builtin.«object.__setattr__» ⟨[.ref x,.str name tk,v],[]⟩) Q E ⟨h,g,d,t,os⟩:=by
 obtain⟨o,hx,hc,hnc,hd⟩:=I;have Z:=SF.e (.ref x);have L1:=PySem.W.looks_findIn (M:=model prog w) X hna;unfold Builtin.«object.__setattr__»
 repeat (first|rw[refuse_eq]|(rw[refuseLoop_ref,Z])|(with_reducible refine AG hx ?_;rw[hc])|with_reducible refine Ge hC ?_|with_reducible refine L1.at ?_|wp_step)
 rcases hd with⟨hdn,hmA⟩|⟨dx,U,hne,hns⟩
 ·
  rw[hdn,if_neg (by simp[typeHasDict])]
  split
  . rename_i hcd
    cases hcd
  split
  . rename_i c hcd
    exact absurd hcd (hnc c)
  . have R:(h.push {cls:=.type "dict",data:=.dict #[]}).get? x=some o:=xd _ hx
    have Y:x≠h.objs.size:=AI (Al hx);refine dS (wpAny_alloc' ?_);refine dS (wpAny_update' R ?_);refine Ae ?_;have hgd:((h.push {cls:=.type "dict",data:=.dict #[]}).update x λo=>{cls:=o.cls,dict:=some h.objs.size,data:=o.data,slots:=o.slots}).get? h.objs.size
     = some {cls:=.type "dict",data:=.dict #[]}:=
     (Heap.get?_update_ne _ _ _ _ Y.symm).trans (FA rfl rfl)
    have hnd:((h.push {cls:=.type "dict",data:=.dict #[]}).update x λo=>{cls:=o.cls,dict:=some h.objs.size,data:=o.data,slots:=o.slots}).Ns h.objs.size (λ_=>none):=
     ⟨_,#[],_,hgd,rfl,λe he=>absurd he (by simp),λ_=>rfl⟩
    show wpAny _ _ (storeInDict h.objs.size (.str name tk) name v) _ _ _;unfold storeInDict newKeyGuard;refine dS (Ae (dS (wpAny_nsSet1 (Heap.Ns1.of_empty hnd) λh' S hs=>?_)));obtain⟨oD,esD,epD,hoD,hdD,hcD⟩:=S.count (Within.cons name v Within.nil);refine dS (wpAny_lookBehind hoD (by rw[hdD];exact pastItsLine_dict (Az hcD (by rw[AB,B5,AK];omega))) ?_)
    wp_walk
    have hx':h'.get? x=some {cls:=o.cls,dict:=some h.objs.size,data:=o.data,slots:=o.slots}:=?_;refine hq h' _ ⟨{cls:=o.cls,dict:=some h.objs.size,data:=o.data,slots:=o.slots},hx',hc,hnc,.inr ⟨h.objs.size,rfl,Y.symm,?_⟩⟩ (λb ob hbx _ hb=>?_)
     (λO h₀=>by obtain rfl:o=O:=AX (hx.symm.trans h₀);exact⟨_,hx',rfl,rfl,rfl,(λdx e=>by rw[hdn]at e;cases e),λ_=>rfl⟩)
    . obtain⟨o',es,ep,e1,e2,e3,eu,e4⟩:=S
      exact⟨o',es,ep,e1,e2,e3,eu,λy=>by rw[e4 y];by_cases hy:y=name<;>simp[hy,hmA]⟩
    . exact(hs.2 b (AI (Al hb))).trans ((Heap.get?_update_ne _ _ _ _ hbx).trans (xd _ hb))
    . refine(hs.2 x Y).trans (BK _ R ?_)
      have hfr:=(Heap.get?_some_iff.mp hx).2;obtain⟨oc,od,odt,osl⟩:=o;cases odt<;>first|rfl|exact hfr
 ·
  rw[U];refine Ae ?_;show wpAny _ _ (storeInDict dx (.str name tk) name v) _ _ _;unfold storeInDict newKeyGuard;refine dS (Ae (dS (wpAny_nsSet1 hns λh' S hs=>?_)));obtain⟨oD,esD,epD,hoD,hdD,hcD⟩:=S.count (Within.cons name v hw);refine dS (wpAny_lookBehind hoD (by rw[hdD];exact pastItsLine_dict (Az hcD (by rw[AB];omega))) ?_)
  wp_walk
  refine hq h' _ ⟨o,(hs.2 x hne.symm).trans hx,hc,hnc,.inr ⟨dx,U,hne,S⟩⟩ (λb ob _ hbd hb=>?_)
   (λO h₀=>⟨O,(hs.2 x hne.symm).trans h₀,rfl,rfl,rfl,(λ_ e=>e),λz=>by rw[hx]at h₀;cases h₀;rw[U]at z;cases z⟩)
  exact(hs.2 b (hbd o dx hx U)).trans hb
def kI{os:OsState}{tk:Tok}{R:Result->Shared->Prop}{ns:List Str}(S:wD B bm sa owner)
 (hC:h.get? C=some (AV nm q C N bs bm true sn sub ab col dd k0 k1 k2 k3 k5 newId)) (X:K.In h) (Y:Dp K (.ref C) name=some none)
 (U:x≠C) (I:h.Inst x C mA)
 (Z:∀h' Q,h'.Inst x C (λy=>if y=name then some v else mA y) ->
  (∀b o,b≠x->(∀O dx,h.get? x=some O->O.dict=some dx->b≠dx)->h.get? b=some o->h'.get? b=some o) ->
  (∀O,h.get? x=some O->∃P,h'.get? x=some P/\P.cls=O.cls/\P.data=O.data/\P.slots=O.slots/\(∀dx,O.dict=some dx->P.dict=some dx)/\(O.dict=none->P.dict=some h.objs.size))->R (.ok (.ret .none)) ⟨h',g,d,Q,os⟩) (hw:Within mA ns:=by within_ways) (W:ns.length<=Ap:=by size_fits) :
 codeAny (model prog w) A (.call (.builtin sa) ⟨[.ref x,.str name tk,v],[]⟩) R ⟨h,g,d,t,os⟩:=by
 obtain⟨o,hx,hc,_⟩:=id I;exact Cm S.f.plain S.g (qC S hC hx hc (mf S hC X Y U I Z hw W))
def r8{os:OsState}{Q:Unit->Shared->Prop}{ns:List Str}(SF:wD B bm sa owner)
 (hC:h.get? C=some (AV nm q C N bs bm true sn sub ab col dd k0 k1 k2 k3 k5 newId)) (X:K.In h) (Z:Dp K (.ref C) "__setattr__"=some (some (.builtin sa))) (hna:Dp K (.ref C) name=some none)
 (U:x≠C) (I:h.Inst x C mA)
 (hq:∀h' R,h'.Inst x C (λy=>if y=name then some v else mA y) ->
  (∀b o,b≠x->(∀O dx,h.get? x=some O->O.dict=some dx->b≠dx)->h.get? b=some o->h'.get? b=some o) ->
  (∀O,h.get? x=some O->∃P,h'.get? x=some P/\P.cls=O.cls/\P.data=O.data/\P.slots=O.slots/\(∀dx,O.dict=some dx->P.dict=some dx)/\(O.dict=none->P.dict=some h.objs.size))->Q () ⟨h',g,d,R,os⟩) (hw:Within mA ns:=by within_ways) (Y:ns.length<=Ap:=by size_fits) :
 wpAny (model prog w) A (setAttr (.ref x) name v) Q E ⟨h,g,d,t,os⟩:=by
 obtain⟨o,hx,hc,_⟩:=id I;have f3:=SF.f.bind (.ref x);have L1:=PySem.W.looks_findIn (M:=model prog w) X Z;unfold setAttr callSpecial? specialOf
 repeat (any_goals (first|assumption|(with_reducible refine AG hx ?_;rw[hc])|with_reducible refine L1.at ?_|wp_step))
 refine kI SF hC X hna U I (λh' R I' hk S=>?_) hw Y
 repeat (any_goals (first|assumption|wp_step))
 exact hq h' R I' hk S
end PySem
end
section
namespace L2
open PySem PySem.W PySem.Spec PyProof PyProof.Rows
structure tj(P:Program)(w:World)(outer:List Env)(H:Hp)(s:Shared)(H':Hp)(a:Addr)(cls:Value)(dd:Option Addr)(s':Shared):Prop where
 j:s'.os=s.os
 d:AllBare s'.gens
 i:∀b∈frs outer,H' b=none
 h:∃(g B:Heap),Un (frs outer) [] H H' s.heap g/\HOk P w H' g/\(∀b o,g.get? b=some o->b ∉ frs outer->(b<s.heap.objs.size\/H' b≠none)->B.get? b=some o) /\
  (∀b o,g.get? b=some o->b∈frs outer->∃sl,s'.heap.get? b=some {o with slots:=sl})/\Heap.wM B outer a cls dd s'.heap
def CXE(P:Program)(w:World):CXT:=λouter H s E e s'=>∃(a:Addr) (cls:Value) (dd:Option Addr) (H':Hp),e=.ref a/\tj P w outer H s H' a cls dd s'/\E cls dd H'
def tj.un(f:tj P w outer H s H' a cls dd s'):Un (frs outer) [] H H' s.heap s'.heap/\HOk P w H' s'.heap:=by
 obtain⟨g,B,u,hk,Q,fr,k,_⟩:=f.h;have W:∀b o,s.heap.get? b=some o->b ∉ frs outer->∀x,g.get? b=some x->s'.heap.get? b=some x:=λb o e n x U=>k b x (Q b x U n (.inl (Al e)));refine⟨⟨λb o e n N hx=>W b o e N o (u.f b o e n N hx),λb o e n N hx=>?_,u.d,λb o e hx=>?_,u.l,u.g,u.j⟩,λb o e=>(hk b o e).pX (λc v S U=>?_) (λ_ q=>q) λ_ _ q=>q⟩
 . obtain⟨Y,e1⟩:=u.i b o e n N hx
   obtain⟨R,e2⟩:=fr b _ e1 N;exact⟨R,e2⟩
 . obtain⟨x,e1⟩:=u.c b o e hx
   by_cases N:b∈frs outer
   . obtain⟨Y,e2⟩:=fr b x e1 N
     exact⟨_,e2⟩
   . exact⟨x,W b o e N x e1⟩
 . have O:H' c≠none:=by
    rcases S with rfl|S
    . rw[e];exact nofun
    . rw[S];exact nofun
   exact k c v (Q c v U (λZ=>O (f.i c Z)) (.inr O))
def ek{K:Ab}:Passes (CXE P w) (yo (CXE P w) P w K mg base N qual scope f cd A outer s₀ H₀ E) E:=by
 rintro pins σ H s e s' I ⟨a,cls,dd,H',rfl,fl,hE⟩;obtain⟨g,B,u,hk,U,fr,Q⟩:=fl.h;show wpAny _ _ _ _ _ _;have W:Inv (yo (CXE P w) P w K mg base N qual scope f cd A outer s₀ H₀ E) pins σ H' {s with heap:=g}:=I.call (g':=s.gens) (t':=s.toks) (d':=s.drawn) (ch:=[]) u hk I.F λb z=>absurd z (by simp)
 have hL:∀b,(b<s₀.heap.objs.size\/H' b≠none)->b≠s₀.heap.objs.size:=λb x z=>by
  subst z;rcases x with x|x
  . exact Bc _ x
  . exact x W.J
 have O:∀b,b∈frs outer->b∈frs (envOfC qual scope s₀.heap.objs.size f cd::outer):=λb x=>Ag _ x;refine vS (base:=B) (env:=envOfC qual scope s₀.heap.objs.size f cd) (outer:=outer) (L:=s₀.heap.objs.size) I.C.g rfl Q λh' Z Y=>?_;refine⟨a,cls,dd,H',rfl,⟨fl.j.trans I.R,fl.d,λb x=>fl.i b (O b x),g,B,W.j,hk,λb o e n x=>?_,λb o e x=>?_,Z⟩,hE⟩
 . refine U b o e (λhm=>?_) ?_
   . rcases Ao.mp (show b∈s₀.heap.objs.size::frs outer from hm) with z|z
     . exact hL b x z
     . exact n z
   . rcases x with x|x
     . exact .inl (Aq x I.sz)
     . exact .inr x
 . obtain⟨sl,e1⟩:=fr b o e (O b x)
   obtain⟨_,o',e2,hd⟩:=Q.2.2.1.mem (O b x);rw[e1]at e2;cases e2;obtain⟨S,e3⟩:=Y b _ e1 hd;exact⟨S,e3⟩
def pR{K:Ab}(I:Inv (yo (CXE P w) P w K mg base N qual scope f cd A outer s₀ H₀ E) pins σ H s)(keeps:∀b o,s.heap.get? b=some o->h1.get? b=some o)(new:s.heap.get? a=none)(U:h1.get? a=some oe)(hd:oe.data=.fields vs)(W:vs[1]?=some .none)(hE:E oe.cls oe.dict H) :
 (yo (CXE P w) P w K mg base N qual scope f cd A outer s₀ H₀ E).i (.ref a) {s with heap:=h1}:=by
 have O:∀b,b∈frs outer->b∈frs (envOfC qual scope s₀.heap.objs.size f cd::outer):=λb x=>Ag _ x;have S:∀env∈(envOfC qual scope s₀.heap.objs.size f cd::outer),∀b,env.frame=some b->b∈frs (envOfC qual scope s₀.heap.objs.size f cd::outer):=λenv U b x=>Cw.mpr ⟨env,U,x⟩;have Q:s.heap.FunFrames base (envOfC qual scope s₀.heap.objs.size f cd::outer):=I.stack;show wpAny _ _ _ _ _ _;refine sg (base:=hideAll s.heap (frs (envOfC qual scope s₀.heap.objs.size f cd::outer))) (h:=s.heap) (env:=envOfC qual scope s₀.heap.objs.size f cd) (outer:=outer) (L:=s₀.heap.objs.size) I.C.g rfl (λb o q=>of_hideAll _ q) (funFrames_hide Q S) keeps new U hd W λh' Z Y=>?_;refine⟨a,_,_,H,rfl,⟨I.R,I.F,λb x=>I.me b (O b x),s.heap,_,I.j,I.B,λb o e n x=>hideAll_get _ e λhm=>?_,λb o e x=>?_,Z⟩,hE⟩
 . rcases Ao.mp (show b∈s₀.heap.objs.size::frs outer from hm) with z|z
   . subst z
     rcases x with x|x
     . exact Bc _ x
     . exact x I.J
   . exact n z
 . obtain⟨_,o',e2,hd⟩:=Q.mem (O b x)
   rw[e]at e2;cases e2;obtain⟨sl,e3⟩:=Y b o (keeps b o e) hd;exact⟨sl,e3⟩
def kD{K:Ab}(I:Inv (yo (CXE P w) P w K mg base N qual scope f cd A outer s₀ H₀ E) pins σ H s)(m:CV s.heap h1 a (.ref C) us)(hE:E (.ref C) none H) :
 (yo (CXE P w) P w K mg base N qual scope f cd A outer s₀ H₀ E).i (.ref a) {s with heap:=h1}:=by
 obtain⟨t,x,_,_⟩:=m.there;exact pR I m.keeps m.new x rfl rfl hE
noncomputable def veM:List Value:=[.type "ValueError",.type "Exception",.type "BaseException",.type "object"]
def ClsAt(h:Heap)(C:Addr)(bm:List Value):Prop:=∃(nm q:Str) (N:Addr) (bs:List Value) (hdct:Bool) (sn:List Str) (sub:List Value) (ab:Bool) (col:Option Bool) (dd:Option Addr) (k0 k1 k2 k3 k5:Option Value) (mN:Str->Option Value),
 h.get? C=some (AV nm q C N bs bm hdct sn sub ab col dd k0 k1 k2 k3 k5 "ValueError.__new__")/\h.Ns N mN/\mN "__init__"=none
def XR(X:Cx)(C:Addr)(H:Hp):Prop:=∀(pins:List (Addr × Obj)) (σ:St) (s:Shared),Inv X pins σ H s->∀(h1:Heap) (a:Addr) (us:List Value),CV s.heap h1 a (.ref C) us->X.i (.ref a) {s with heap:=h1}
def Sb(X:Cx)(C:Addr)(t:TA):TS:=λ_ σ H=>t σ H λvs H1=>vs.length<=Ap/\XR X C H1
def kB(hc:X.A.handled=none)(hg:Gl X x)(hm:X.d x=some (.ref C))(cC:ClsAt X.h C (.ref D::veM))(cD:ClsAt X.h D veM)(ha:PA X (e::es) t)
 (U:(x == ("__debug__":Str))=false) (S:AA (e::es) X.a=(false,eval e X.a)::AA es X.a) (R:(backTo cpos (AA es X.a)).any (·.1)=false):PS X (.Raise (some (.Call (.Name x np) (e::es) [] cpos)) none pos) (Sb X C t):=by
 intro pins s σ H D' I h;refine byG λY O=>?_;obtain⟨nm,q,N,bs,hdct,sn,sub,ab,col,dd,k0,k1,k2,k3,k5,mN,hC,hN,hz⟩:=cC;refine O ?_;refine byG λY O=>?_;obtain⟨nm1,q1,N1,bs1,hd1,sn1,sub1,ab1,col1,dd1,j0,j1,j2,j3,j5,mN1,hD,W,Q⟩:=cD;refine O ?_;refine v8 (C:=C) (D:=D) (nm:=nm) (q:=q) (N:=N) (bs:=bs) (hdct:=hdct) (sn:=sn) (sub:=sub) (ab:=ab) (col:=col) (dd:=dd) (k0:=k0) (k1:=k1) (k2:=k2) (k3:=k3) (k5:=k5) (mN:=mN)
  (nm1:=nm1) (q1:=q1) (N1:=N1) (bs1:=bs1) (hd1:=hd1) (sn1:=sn1) (sub1:=sub1) (ab1:=ab1) (col1:=col1) (dd1:=dd1) (j0:=j0) (j1:=j1) (j2:=j2) (j3:=j3) (j5:=j5) (mN1:=mN1) (new1:="ValueError.__new__") (Ca.two D) hc ?_ hz Q rfl Ca.mroIs (xU I hg hm ⟨rfl,?_⟩ U)
 . rw[S];exact R
 . rw[S]
   refine CO ?_;have q:=ha cpos pins s σ H _ I h;rw[S]at q;refine AF q (λus s1 Z=>?_) λ_ _ z=>z;refine byG λY O=>?_;obtain⟨vs,H1,P,r,hl,hx⟩:=Z;refine O ?_;exact⟨rfl,by rw[<-r.length];exact hl,P.bk _ _ hC,hN.keeps P.bk,P.bk _ _ hD,W.keeps P.bk,λh' e' m=>hx pins σ s1 P h' e' _ m⟩
def Wy{K}
 (hE:E (.ref C) none H):XR (yo (CXE P w) P w K mg base N qual scope f cd A outer s₀ H₀ E) C H:=λ_ _ _ I _ _ _ m=>kD I m hE
def tFs(ta tb:TE):TE:=λσ H Q=>ta σ H λx H1=>∃i:Int,x=.d i/\i.natAbs<2 ^ 64/\tb σ H1 λy H2=>∃j:Int,y=.d j/\j.natAbs<2 ^ 64/\∀z,Q (.e z) H2
def vQ{i:Int}(h:i.natAbs<2 ^ 64):i.natAbs.log2<64:=by
 by_cases z:i.natAbs=0
 . rw[z];decide
 . exact(Nat.log2_lt z).mpr h
def um{i:Int}(h:i.natAbs<2 ^ 64):(EK (toString i)).length<=65:=by rw[PySem.ofString_length];exact int_text_length_le (by decide) (vQ h)
def QP(Y:PE X a ta)(W:PE X b tb)(h1:c1.length<=1000)(h2:c2.length<=1000)(h3:c3.length<=1000) :
 PE X (.JoinedStr [.Constant (.str c1) k1 p1,.FormattedValue a (-1) none p2,.Constant (.str c2) k2 p3,.FormattedValue b (-1) none p4,.Constant (.str c3) k3 p5] pos) (tFs ta tb):=by
 intro pins s σ H Q I h;refine JoinedStr_many (Ct (C8 ⟨?_,Ct (DA ?_)⟩))
 . rw[AL,AK,show CQ.length=0 from rfl];omega
 refine thn (Y pins _ σ H _ (I.tok _) h) λu s1 O=>?_;refine byG λU N=>?_;obtain⟨x,H1,I1,r1,i,e1,hi,q1⟩:=O;refine N ?_;subst e1;obtain⟨t1,rfl⟩:=r1;have l1:=um hi;refine Dt (Aq (vQ hi) (by decide)) ⟨?_,Ct (C8 ⟨?_,Ct (DA ?_)⟩)⟩
 . rw[AL,AL,AK,show CQ.length=0 from rfl];omega
 . rw[AL,AL,AL,AK,show CQ.length=0 from rfl];omega
 refine thn (W pins _ σ H1 _ (I1.tok _) q1) λu2 s2 O=>?_;refine byG λU N=>?_;obtain⟨y,H2,Z,R,j,e2,P,S⟩:=O;refine N ?_;subst e2;obtain⟨t2,rfl⟩:=R;have l2:=um P;refine Dt (Aq (vQ P) (by decide)) ⟨?_,Ct (C8 ⟨?_,joinParts_nil ⟨.e _,H2,Z.tok _,⟨_,rfl⟩,S _⟩ ?_⟩)⟩
 . rw[AL,AL,AL,AL,AK,show CQ.length=0 from rfl];omega
 . rw[AL,AL,AL,AL,AL,AK,show CQ.length=0 from rfl];omega
 . rw[AL,AL,AL,AL,AL,AK,show CQ.length=0 from rfl];omega
def Bm(base:Heap)(mg:Str->Option Value):Prop:=∃(bm:Addr) (ob:Obj),mg "__builtins__"=some (.ref bm)/\bm≠FF/\base.get? bm=some ob/\ob.cls=.type "module"/\ob.dict=some FF/\ob.data=.plain
def Vo(H:Hp)(P:Addr)(ps:Array Value)(pos:Pos)(q:Str)(c:Addr)(H':Hp):Prop:=H'=H \/
 ∃(o:Obj) (vs:Array Value) (t:Tok),DY pos ps.toList=none/\H c=none/\o.data=.fields vs/\vs[1]?=some (.str q t)/\H'=upd (upd H P (.g (ps++#[rawInt pos.line,rawInt pos.col,.ref c]))) c (.d o (.e 0))
def lR(I:Inv X pins σ H s)(bc:defaultsOf a X.a=([],[]))(hcl:GA lsc X.a=pure clos)
 (W:X.a.code=.ref c) (C:CodeHd s.heap c P) (Y:H P=some (.g ps)) (ht:DZ ps.toList) (B:Bm X.h X.d)
 (hit:∀cv,DY pos ps.toList=some cv->∃x o vs t,cv=.ref x/\H x=some (.d o (.e 0))/\o.data=.fields vs/\vs[1]?=some (.str (X.a.qual++("<lambda>":Str)) t))
 (h:∀Z x ctv H' h' tk,Inv X pins σ H' {s with heap:=h',toks:=tk}->Vo H P ps pos (X.a.qual++("<lambda>":Str)) x H'->(H' Z=none/\s.heap.objs.size<=Z/\Z ∉ frs X.g/\∃o vs t,H' x=some (.d o (.e 0))/\o.data=.fields vs/\vs[1]?=some (.str (X.a.qual++("<lambda>":Str)) t)) ->
  h'.get? Z=some (kla_obj "<lambda>" (X.a.qual++("<lambda>":Str)) a body lsc clos ((X.d "__name__").getD .none) x ctv)->h'.CodeRec (.ref x) (X.a.qual++("<lambda>":Str))->Q (.ref Z) {s with heap:=h',toks:=tk}) :
 wpAny M A (eval (.Lambda a body lsc pos) X.a) Q E s:=by
 refine byG λpi N=>?_;obtain⟨bm,ob,b1,b2,b3,b4,b5,b6⟩:=B;refine N ?_;have hPo:s.heap.get? P=some (tabObj ps):=I.B P _ Y;have hg:s.heap.Ns AM X.d:=I.mod.c.keeps I.bk;have hbH:H bm=none:=(I.bs _ _ b3).2;have hbP:bm≠P:=λz=>by rw[z,Y]at hbH;cases hbH
 refine byG λpi N=>?_;obtain⟨og,eg,pg,g1,g2,_⟩:=I.mod.c;refine N ?_;have hgH:H AM=none:=(I.bs _ _ g1).2;have hgP:AM≠P:=λz=>by rw[z,Y]at hgH;cases hgH
 have hbG:bm≠AM:=λz=>by rw[z,g1]at b3;cases b3;rw[g2]at b6;cases b6
 have hb:s.heap.BuiltinsAt X.d P:=⟨bm,ob,b1,b2,hbG,hbP,I.bk _ _ b3,b4,b5,b6⟩;have nst:∀Z,s.heap.objs.size<=Z->Z ∉ frs X.g:=λZ hl hm=>by refine byG λpi N=>?_;obtain⟨_,o,e,_⟩:=I.stack.mem hm;refine N ?_;exact absurd (Aq (Al e) hl) (Bc _)
 refine kla_eval bc ?_;cases hf:DY pos ps.toList with
 |some cv=>
  refine byG λpi N=>?_;obtain⟨x,o,vs,t,rfl,q1,q2,q3⟩:=hit cv hf;refine N ?_;refine kla_makeFunctionHit (mg:=X.d) hcl I.C.j hg W C hPo ht hf hb λctv h' tk hk hsz=>?_;have R:∀b u,s.heap.get? b=some u->(h'.push {cls:=.type "function",data:=.func (kla_fn "<lambda>" (X.a.qual++("<lambda>":Str)) a body lsc clos ((X.d "__name__").getD .none) (.ref x) ctv)}).get? b=some u:=λb u e=>xd _ (hk b u e);have hcr:s.heap.CodeRec (.ref x) (X.a.qual++("<lambda>":Str)):=⟨x,o,vs,t,rfl,(I.B x _ q1).1,q2,q3⟩;refine h _ x ctv H _ tk (I.kept R) (.inl rfl) ⟨I.B.fresh hsz,hsz,nst _ hsz,o,vs,t,q1,q2,q3⟩ (AD _ rfl) ?_;refine byG λpi N=>?_;obtain⟨c2,o2,vs2,t2,e1,e2,e3⟩:=hcr;refine N ?_;exact⟨c2,o2,vs2,t2,e1,R _ _ e2,e3⟩
 |none=>
  refine kla_makeFunction (mg:=X.d) hcl I.C.j hg W C hPo ht hf hgP hb λx ctv h' tk hx S U jF htb=>?_;refine byG λpi N=>?_;obtain⟨c2,oc,vs,t,e1,e2,e3,e4⟩:=jF;refine N ?_;cases e1;have O:H x=none:=I.B.fresh S;have hcP:x≠P:=λz=>by rw[z,Y]at O;cases O
  have R:∀b u,b≠P->s.heap.get? b=some u->(h'.push (kla_obj "<lambda>" (X.a.qual++("<lambda>":Str)) a body lsc clos ((X.d "__name__").getD .none) x ctv)).get? b=some u:=λb u n e=>xd _ (hx b u n e);have nP:∀b,H b=none->b≠P:=λb n z=>by rw[z,Y]at n;cases n
  have nc:∀b o,s.heap.get? b=some o->b≠x:=λb o e z=>absurd (Aq (Al e) S) (by rw[z];exact Bc _)
  refine h _ x ctv (upd (upd H P (.g (ps++#[rawInt pos.line,rawInt pos.col,.ref x]))) x (.d oc (.e 0))) _ tk (I.un (t':=tk) ⟨λb o e n _ _=>R b o (nP b n) e,λb o e n _ _=>⟨o.slots,R b o (nP b n) e⟩,λb o e n _=>?_,λb o e _=>?_,λb xs e=>?_,λb o u e=>?_,λb qs e=>?_⟩ λb u e=>?_)
   (.inr ⟨oc,vs,t,hf,O,e3,e4,rfl⟩) ⟨by rw[zG (Dn U),zG (nP _ (I.B.fresh (Az S (Dm U))))];exact I.B.fresh (Az S (Dm U)),Az S (Dm U),nst _ (Az S (Dm U)),oc,vs,t,zJ,e3,e4⟩ (AD _ rfl) ⟨x,oc,vs,t,rfl,xd _ e2,e3,e4⟩
  . rw[zG (nc b o e),zG (nP b n)];exact n
  . by_cases z:b=P
    . rw[z];exact⟨_,xd _ htb⟩
    . exact⟨o,R b o z e⟩
  . have z1:b≠x:=λz=>by rw[z,O]at e;cases e
    have z2:b≠P:=λz=>by rw[z,Y]at e;cases e
    rw[zG z1,zG z2];exact e
  . have z1:b≠x:=λz=>by rw[z,O]at e;cases e
    have z2:b≠P:=λz=>by rw[z,Y]at e;cases e
    rw[zG z1,zG z2];exact e
  . have z1:b≠x:=λz=>by rw[z,O]at e;cases e
    rw[zG z1];by_cases z:b=P
    . subst z
      rw[Y]at e;cases e;exact⟨_,zJ⟩
    . rw[zG z];exact⟨#[],by rw[e];simp⟩
  . by_cases z1:b=x
    . subst z1
      rw[zJ]at e;cases e;exact⟨xd _ e2,oc,xd _ e2⟩
    . rw[zG z1]at e
      by_cases z:b=P
      . subst z
        rw[zJ]at e;cases e;exact xd _ htb
      . rw[zG z]at e
        have own:∀d y,H d=some (.e y)->d≠x/\d≠P:=λd y r=>⟨λz=>(by rw[z,O]at r;cases r),λz=>(by rw[z,Y]at r;cases r)⟩
        refine(I.B b u e).pX (λd v hd q=>R d v ?_ q) (λd r=>by rw[zG (own d b r).1,zG (own d b r).2];exact r) λd xs r=>?_
        . rcases hd with rfl|hd
          . exact z
          . exact(own d b hd).2
        . have y1:d≠x:=λz=>by rw[z,O]at r;cases r
          have y2:d≠P:=λz=>by rw[z,Y]at r;cases r
          rw[zG y1,zG y2];exact r
section
variable {P:Program}{w:World}{K:Ab}{mg:Str->Option Value}{base:Heap}{CX:CXT}{A:Around}{outer:List Env}{s:Shared}{H:Hp}{E:XK}{R:Result->Shared->Prop}
noncomputable abbrev Cx.loud(X:Cx)(A:Around):Cx:={X with A:=A,j:=false}
theorem Inv.loud(I:Inv X pins σ H s)(hf:A'.frames=some X.g):Inv (X.loud A') pins σ H s:=
 ⟨⟨I.C.i,I.C.a,I.C.j,I.C.t,I.C.d,I.C.r,I.C.p,I.C.s,λz=>absurd z Ac,hf,I.C.w,I.C.G,I.C.B,I.C.q,I.C.m,I.C.l,I.C.D,I.C.u⟩,I.R,I.F,I.j,I.M,I.G,I.J,I.D,I.O,I.B,I.P⟩
def Inv.calm(I:Inv (X.loud A') pins σ H s)(ok:X.Ok):Inv X pins σ H s:=
 ⟨ok,I.R,I.F,I.j,I.M,I.G,I.J,I.D,I.O,I.B,I.P⟩
abbrev ir(P:Program)(w:World)(A:Around)(env:Env)(R:Result->Shared->Prop)(body:List Stmt)(s1:Shared):Prop:=
 wpAny (model P w) (A.deeper env) (execs body env) (λfl s'=>R (.ok (.ret (match fl with|.ret v=>v|_=>.none))) s')
  (λe s'=>wpAny (model P w) (A.deeper env) (leaving env e) (λ_ x=>R (.error e) x) (λN x=>R (.error N) x) s') s1
def ql{dV kV doc pm cdv ct oc}
 (lk:K.lookup f=some ⟨oc,od,.func (BJ name qual params body scope dV kV doc pm an cdv ct),osl⟩) (Y:B1 K cdv qual=true) (S:x9 N ps scope) (U:A.depth<Co)
 (e0:qU P w K mg base A outer s H) (hb:BindsTo s (BJ name qual params body scope dV kV doc pm an cdv ct) args (ps.zip us)) (hl:vs.length=ps.length) (r:Vals vs us)
 (h:∀s1:Shared,Inv (yo CX P w K mg base N qual scope f cdv {A with handled:=none} outer s H E) [] (start N vs) H s1->(∀b o,s.heap.get? b=some o->s1.heap.get? b=some o)->ir P w A (envOfC qual scope s.heap.objs.size f cdv) R body s1) :
 codeAny (model P w) A (.call (.ref f) args) R s:=by
 have Z:K.In s.heap:=e0.c.a.keeps λb o e=>(e0.f b o e).1;have Q:s.heap.NoLimit:=e0.c.b.keeps λb o e=>(e0.f b o e).1;have O:∀y∈ps.zip us,scope.names.lookup y.1=some .local\/(scope.names.lookup y.1=some .cell/\((Cy (s.heap.objs.size+1) scope.names []).lookup y.1).isSome=true):=λ⟨n,v⟩ hy=>by
  rcases S.e n (EI hy).1 with q|q
  . exact .inl q
  . exact .inr ⟨q,Eg _ _ _ (.inl q)⟩
 refine codeAny_call_function U (Z _ _ lk) rfl S.co S.f rfl (PySem.W.codeRec_of Z Y) (hb _ _ _ _ ?_);refine Fe S.a O λenv he s1 x=>?_;subst he;refine⟨Q.keeps x.toInCall.keep,codeAny_func ?_⟩;exact h s1 (oq (A:={A with handled:=none}) S rfl ⟨e0.a,e0.c,e0.f,e0.h,e0.j,e0.i,e0.d,e0.g⟩ hl r x) x.toInCall.keep
def rg(h:A.handled=none):{A with handled:=none}=A:=by
 cases A;simp only at h;subst h;rfl
noncomputable def noArgs:Eu:=⟨[],[],none,[],[],none,[]⟩
noncomputable def qh(CX:CXT)(P:Program)(w:World)(K:Ab)(mg:Str->Option Value)(base:Heap)(N:List Str)(qual:Str)(scope:Scope)(f:Addr)(cd:Value)(cl:List (Str × Addr))(A:Around)(outer:List Env)(s:Shared)(H:Hp)(E:XK):Cx where
 f:=P
 w:=w
 K:=K
 d:=mg
 h:=base
 A:=A.deeper (envX qual scope s.heap.objs.size f cd cl)
 N:=N
 l:=s
 r:=H
 a:=envX qual scope s.heap.objs.size f cd cl
 k:=outer
 g:=envX qual scope s.heap.objs.size f cd cl::outer
 m:=[]
 j:=true
 n:=λ_=>false
 q:=[]
 i:=λe s'=>wpAny (model P w) (A.deeper (envX qual scope s.heap.objs.size f cd cl)) (leaving (envX qual scope s.heap.objs.size f cd cl) e) (λ_ x=>CX outer H s E e x) (λO x=>CX outer H s E O x) s'
def Xn(hdp:A.depth<Co)(hh:A.handled=none)(e0:qU P w K mg base A outer s H)
 (ho:s.heap.get? lf=some (kla_obj nm qual noArgs body lsc cl pm c ctv)) (hcr:s.heap.CodeRec (.ref c) qual) (hk:lsc.kind=.function) (hco:lsc.isCoroutine=false) (hgen:lsc.isGenerator=false)
 (S:∀x∈lsc.names,x.2≠.cell/\x.2≠.local) (hinj:∀x y b,cl.lookup x=some b->cl.lookup y=some b->x=y) (hhas:∀x,lsc.names.lookup x=some .free->∃b,cl.lookup x=some b)
 (W:∀x b,cl.lookup x=some b->(∃v,s.heap.IsCell b v)/\H b=none)
 (hval:∀(i:Nat) x v,N[i]?=some x->σ[i]?=some (some v)->lsc.names.lookup x=some .free->∃u b,RelV v u/\cl.lookup x=some b/\s.heap.IsCell b (some u)) (hlen:σ.length=N.length)
 (h:∀s1:Shared,Inv (qh CX P w K mg base N qual lsc lf (.ref c) cl A outer s H E) [] σ H s1->wpAny (model P w) (A.deeper (envX qual lsc s.heap.objs.size lf (.ref c) cl)) (eval body (envX qual lsc s.heap.objs.size lf (.ref c) cl)) (λv s'=>R (.ok (.ret v)) s')
  (λe s'=>wpAny (model P w) (A.deeper (envX qual lsc s.heap.objs.size lf (.ref c) cl)) (leaving (envX qual lsc s.heap.objs.size lf (.ref c) cl) e) (λ_ Y=>R (.error e) Y) (λe' Y=>R (.error e') Y) s') s1) :
 codeAny (model P w) A (.call (.ref lf) ⟨[],[]⟩) R s:=by
 have lim:s.heap.NoLimit:=e0.c.b.keeps λb o e=>(e0.f b o e).1;refine kla_callFunE hdp ho rfl hco hgen rfl hcr ?_;have hb:Gx (kla_fn nm qual noArgs body lsc cl pm (.ref c) ctv) ⟨[],[]⟩=pure []:=rfl;rw[hb];refine Ae (wpAny_newFunctionEnv (λx hx=>(S x hx).1) (λx hx=>absurd hx (by simp)) (λU hns hsb=>⟨lim.fresh _ hsb,?_⟩) hk)
 show codeAny _ _ (.expr body (envX qual lsc s.heap.objs.size lf (.ref c) cl)) _ _;have O:∀b o,s.heap.get? b=some o->U.get? b=some o:=λb o e=>hsb.extBut b o (AI (Al e)) (xd _ e);have Z:∀b:Addr,b ∉ (qh CX P w K mg base N qual lsc lf (.ref c) cl A outer s H E).m:=λb z=>absurd (show b∈([]:List Addr) from z) (by simp)
 have Q:∀b v,s.heap.IsCell b v->U.IsCell b v:=λb v ⟨o,e,d⟩=>⟨o,O b o e,d⟩;refine kla_codeExpr (h _ ⟨⟨e0.c,hk,rfl,rfl,Aa _,hinj,λy hy=>?_,λy b z _=>absurd z Ac,λ_=>hh,EJ e0.a,.inr ⟨rfl,rfl⟩,λb z=>absurd z (Z b),e0.f,e0.h,λb _ _=>Z b,λb z=>absurd z (Z b),e0.j,e0.i⟩,
  rfl,e0.g,Un.kept O,⟨_,hns,λi y v h1 h2 h3=>?_⟩,λy b e=>?_,e0.d.fresh (Aa _),λy b e=>(W y b e).2,λp hp=>absurd (show p∈([]:List (Addr × Obj)) from hp) (by simp),e0.d.kept O,hlen⟩)
 . have hy:lsc.names.lookup y=some .cell\/lsc.names.lookup y=some .free:=hy
   rcases hy with hy|hy
   . exact absurd rfl (S _ (AO hy)).1
   . exact hhas y hy
 . have h3:lsc.names.lookup y=some .local\/lsc.names.lookup y=some .cell\/lsc.names.lookup y=some .free:=h3
   rcases h3 with z|z|z
   . exact absurd rfl (S _ (AO z)).2
   . exact absurd rfl (S _ (AO z)).1
   . obtain⟨u,b,q1,q2,q3⟩:=hval i y v h1 h2 z
     exact⟨u,q1,.inr ⟨.inr z,b,q2,Q _ _ q3⟩⟩
 . obtain⟨v,q⟩:=(W y b e).1
   exact⟨v,Q b v q⟩
end
end L2
end
section
namespace L2
open PySem PySem.W PySem.Spec PySem.Calls PyProof PyProof.Rows
noncomputable def exO(C:Addr)(dx:Option Addr)(t:Addr):Obj:={cls:=.ref C,dict:=dx,data:=.fields #[.ref t,.none,.none,.none,.bool false,.none]}
noncomputable def exH(e C:Addr)(dx:Option Addr):HO:=.j λh=>∃t,h.get? e=some (exO C dx t)
noncomputable def dcH(d:Addr)(fs:List (Str × V)):HO:=.j λh=>∃mA,h.Ns1 d mA/\(∀f,my (fs.lookup f) (mA f))/\EF mA (fs.map (·.1))
def ky(x:h.get? e=some (exO C dx t)):z6 P w H h e (exH e C dx):=⟨⟨t,x⟩,⟨_,x⟩,λh1 N ⟨t,z⟩ k=>⟨t,k _ z⟩⟩
def nu(x:z6 P w H h e (exH e C dx)):∃t,h.get? e=some (exO C dx t):=x.1
def cy(x:h.Ns1 d mA)(r:∀f,my (fs.lookup f) (mA f))(wi:EF mA (fs.map (·.1))):z6 P w H h d (dcH d fs):=
 ⟨⟨mA,x,r,wi⟩,(let ⟨o,_,_,e,_⟩:=x;⟨o,e⟩),λh1 N ⟨mA,x,r,wi⟩ k=>⟨mA,x.at k,r,wi⟩⟩
def cw(x:z6 P w H h d (dcH d fs)):∃mA,h.Ns1 d mA/\(∀f,my (fs.lookup f) (mA f))/\EF mA (fs.map (·.1)):=x.1
def sk(h:Heap)(C:Addr)(bm:List Value)(O:Addr):Prop:=∃(nm q:Str) (N:Addr) (bs:List Value) (sn:List Str) (sub:List Value) (ab:Bool) (col:Option Bool) (dd:Option Addr) (k0 k1 k2 k3 k5:Option Value) (mN:Str->Option Value) (x:Obj),
 h.get? C=some (AV nm q C N bs bm true sn sub ab col dd k0 k1 k2 k3 k5 "ValueError.__new__")/\h.Ns N mN/\mN "__init__"=some (.ref O)/\h.get? O=some x/\x.cls=.type "function"
theorem sk.keeps(x:sk h C bm fI)(k:∀b o,h.get? b=some o->h'.get? b=some o):sk h' C bm fI:=by obtain⟨nm,q,N,bs,sn,sub,ab,col,dd,k0,k1,k2,k3,k5,mN,O,e,n,z,e2,c⟩:=x;exact⟨nm,q,N,bs,sn,sub,ab,col,dd,k0,k1,k2,k3,k5,mN,O,k _ _ e,n.keeps k,z,k _ _ e2,c⟩
structure GrK(K:Ab)(C D:Addr):Prop where
 sa:findIn K (.ref C) "__setattr__"=some (some (.builtin "object.__setattr__"))
 m1:findIn K (.ref C) "many"=some none
 m2:findIn K (.ref C) "most"=some none
 sp:specialIn K (.ref D) "__getattribute__"=some (some (.builtin "type.__getattribute__"))
 rd:readsIn K D (.type "type")=true
 fc:findCls K (.ref D) (.type "type") "__init__"=some (.val (.builtin "ValueError.__init__"))
def jG{prog:Program}{w:World}{A:Around}{E:Value->Shared->Prop}{h:Heap}{g:Array GenState}{d:Drawn}{t:Nat}{os:OsState}{nm q:Str}{C N:Addr}{bs bm sub:List Value}{hdct ab:Bool}{sn:List Str}{col:Option Bool}{dd:Option Addr}{k0 k1 k2 k3 k5:Option Value}{B newId initId:String}(F:y0 B newId initId bm)(hC:h.get? C=some (AV nm q C N bs bm hdct sn sub ab col dd k0 k1 k2 k3 k5 newId))(x:h.get? e=some (exO C dx t0))(hrest:rest.length<=Ap)
 (O:∀h',(∀b o,b≠e->h.get? b=some o->h'.get? b=some o)->h'.get? e=some (exO C dx h.objs.size)->Q .none ⟨h',g,d,t,os⟩):wpAny (model prog w) A (call (.builtin initId) (.ref e::rest)) Q E ⟨h,g,d,t,os⟩:=by
 refine C9 (Cm F.init.plain F.initEntry (xj F hC x rfl ?_));unfold exO at x
 wp_walk
 refine O _ (λb o P q=>?_) ?_
 . rw[AU _ _ (A9 P)]
   exact xd _ q
 . rw[BK _ (xd _ x) rfl]
   rfl
def Sv(h:H a=some o):upd H a o=H:=by
 funext b;unfold upd;split
 . rename_i z;rw[z,h]
 . rfl
section
variable {Y:Cx}{C D:Addr}
def oB
 (R:BZ o name env (eval o env)=eval o env)
 (Y:((backTo pos (AA args env)).all (λx=>!x.1)&&(Gz pos (E1 [] env)).all (λx=>x.1.isSome)
  && decide (args.length+([]:List Keyword).length+(if ([]:List Keyword).isEmpty then 0 else 1)<30))=true)
 (hline:(apos.endLine == pos.line)=true)
 (h:wpAny (model prog w) A (eval o env) (λov O=>∀pl,wpAny (model prog w) A (getMethod ov name pl) (λZ N=>wpAny (model prog w) A (callWith pos Z.1 Z.2 (backTo pos (AA args env)) (Gz pos (E1 [] env))) Q E N) E O) E s) :
 wpAny (model prog w) A (eval (.Call (.Attribute o name apos) args [] pos) env) Q E s:=by
 rw[arm_eval_Call,R];refine dS (AF h (λov O U=>?_) λ_ _ e=>e);refine dS (AY ?_);have P:methodCallForm (args.length+([]:List Keyword).length) (backTo pos (AA args env)) (Gz pos (E1 [] env))=true:=Y;have W:methodCallPos true o env apos pos=pure pos:=by unfold methodCallPos;simp[hline]
 unfold methodCall;rw[P];refine dS (Bv (AF (U _) (λZ N S=>?_) λ_ _ e=>e));exact dS (wpAny_of_eq W S)
def Z9(C:Addr)(ta:TA):TE:=λσ H Q=>ta σ H λvs H1=>∃e dx z,vs=[.c e,.e z]/\H1 e=some (exH e C dx)/\Q .g H1
def ZV{K}(G:GrK K C D)(sub:∀a o,K.lookup a=some o->Y.K.lookup a=some o)(hg:Gl Y hx)(hm:Y.d hx=some (.ref D))(hdb:(hx == ("__debug__":Str))=false)(ha:PA Y [e1,e2] ta)(cC:sk Y.h C (.ref D::veM) fI)
 (hst:AA [e1,e2] Y.a=(false,eval e1 Y.a)::AA [e2] Y.a:=by rfl) (hpl:(backTo cp (AA [e2] Y.a)).any (·.1)=false:=by rfl)
 (hline:(ap.endLine == cp.line)=true) (P:BZ (.Name hx np) "__init__" Y.a (eval (.Name hx np) Y.a)=eval (.Name hx np) Y.a:=by rfl)
 (R:((backTo cp (AA [e1,e2] Y.a)).all (λx=>!x.1)&&(Gz cp (E1 [] Y.a)).all (λx=>x.1.isSome)&&decide ([e1,e2].length+([]:List Keyword).length+(if ([]:List Keyword).isEmpty then 0 else 1)<30))=true:=by rfl) :
 PE Y (.Call (.Attribute (.Name hx np) "__init__" ap) [e1,e2] [] cp) (Z9 C ta):=by
 intro pins s σ H Q I h;have KI:K.In s.heap:=λa o e=>I.kIn a o (sub a o e);refine oB P R hline (xU I hg hm (λpl=>?_) hdb);refine PySem.W.method_cls KI G.sp (PySem.W.cls_value KI G.rd G.fc rfl ?_);have hA:=ha cp pins {s with toks:=s.toks+1} σ H _ (I.tok _) h
 rw[hst]at hA ⊢;refine Eh (by show (false||(backTo cp (AA [e2] Y.a)).any (·.1))=false;rw[hpl];rfl) (CO ?_)
 refine thn hA λus s2 zn=>?_;obtain⟨vs,H2,I2,r2,e,dx,z,hvs,he,q⟩:=zn;subst hvs;obtain⟨U,O,rfl,Z,r3⟩:∃U O,us=U::O/\RelV (.c e) U/\Vals [.e z] O:=by cases r2 with|cons a b=>exact⟨_,_,rfl,a,b⟩
 cases Z;obtain⟨t0,he2⟩:=nu (I2.B e _ he);obtain⟨nm,q',N,bs,sn,sub',ab,col,dd,k0,k1,k2,k3,k5,mN,oI,hC,_⟩:=cC.keeps I2.bk;obtain⟨h2,g2,d2,t2,os2⟩:=s2;refine jG (Ca.two D) hC he2 (by rw[<-r3.length];show 1<=Ap;rw[AK];decide) λh' k S=>⟨.g,H2,?_,rfl,q⟩
 have:=I2.write (x:=e) (e:=e) (o:=exH e C dx) (t':=t2) (by rw[he];exact AS) (.inl rfl) (λb u hb z=>k b u hb z) ⟨_,S⟩ (ky S)
 rwa [Sv he]at this
def SN(C:Addr)(ta N:TE)(f:Str):TS:=λD σ H=>N σ H λy H1=>ta σ H1 λx H2=>∃e,x=.c e /\
 ((H2 e=some (exH e C none)/\∀d,H2 d=none->d≠e->D.a σ (upd (upd H2 d (dcH d [(f,y)])) e (exH e C (some d)))) \/
  ∃d fs,H2 e=some (exH e C (some d))/\H2 d=some (dcH d fs)/\d≠e/\fs.length<1000/\D.a σ (upd H2 d (dcH d (rQ f y fs))))
def Z1{K}(G:GrK K C D)(sub:∀a o,K.lookup a=some o->Y.K.lookup a=some o)(cC:sk Y.h C (.ref D::veM) fI)
 (hna:findIn K (.ref C) f=some none) (I:Inv Y pins σ H s) (he:H e=some (exH e C none)) (ry:RelV y u) (h:∀d s',H d=none->d≠e->Inv Y pins σ (upd (upd H d (dcH d [(f,y)])) e (exH e C (some d))) s'->Q () s'):wpAny (model Y.f Y.w) A (setAttr (.ref e) f u) Q E s:=by
 have KI:K.In s.heap:=λa o z=>I.kIn a o (sub a o z);obtain⟨t0,O⟩:=nu (I.B e _ he);obtain⟨nm,q',N,bs,sn,sub',ab,col,dd,k0,k1,k2,k3,k5,mN,oI,hC,_⟩:=cC.keeps I.bk;have hxC:e≠C:=λz=>by subst z;rw[O]at hC;cases hC
 obtain⟨hp,g2,d2,t2,os2⟩:=s;refine r8 (x:=e) (mA:=λ_=>none) (ns:=[]) (F2.two D) hC KI G.sa hna hxC ⟨_,O,rfl,λc z=>(by cases z),.inl ⟨rfl,λ_=>rfl⟩⟩ (λh' Z I' keep same=>?_) (λn hn=>absurd rfl hn) (Bs _)
 obtain⟨o1,e1,c1,c2,c3,_,c5⟩:=same _ O;have U:=c5 rfl;have lt:=Al O;have S:o1=exO C (some hp.objs.size) t0:=by obtain⟨oc,od,odt,osl⟩:=o1;simp only at c1 c2 c3 U;subst c1 c2 c3 U;rfl
 subst S;obtain⟨o2,e2,_,_,hd2⟩:=I';rw[e1]at e2;cases e2;rcases hd2 with⟨z,_⟩|⟨dx,z,ne,hns⟩
 . cases z
 . have hz:dx=hp.objs.size:=by cases z;rfl
   subst hz;obtain⟨od,es,ep,eo,rest⟩:=id hns;have R:hp.objs.size≠e:=λz=>Bc _ (z▸lt);refine h hp.objs.size _ (I.B.fresh (Aa _)) R ?_;have hfr:od.isFreed=false:=(Heap.get?_some_iff.mp eo).2;have n1:(hp.push od).get? hp.objs.size=some od:=AD hp hfr;have I1:=I.laid (h':=hp.push od) (a:=hp.objs.size) (o:=dcH hp.objs.size [(f,y)]) (t':=t2) (λb v q=>xd _ q) (Aa _) (cy (mA:=λz=>if z=f then some u else none) ⟨od,es,ep,n1,rest⟩ (λg=>?_) λg hg=>?_)
   . refine I1.write (x:=e) (e:=e) (o:=exH e C (some hp.objs.size)) (t':=Z) (by rw[zG (A9 R),he];exact AS) (.inl rfl) (λb v hb q=>?_) ⟨_,e1⟩ (ky e1)
     by_cases hbd:b=hp.objs.size
     . subst hbd
       have q':(hp.push od).get? hp.objs.size=some v:=q;rw[n1]at q';cases q';exact eo
     . refine keep b v hb (λP dx h0 hd0=>?_) ?_
       . rw[show (⟨hp,g2,d2,t2,os2⟩:Shared).heap=hp from rfl]at O
         have W:hp.get? e=some P:=h0;rw[O]at W;cases W;cases hd0
       . rcases Heap.get?_push_cases (show (hp.push od).get? b=some v from q) with⟨z,_⟩|z
         . exact absurd z hbd
         . exact z
   . show my (([(f,y)]:List (Str × V)).lookup g) (if g=f then some u else none)
     by_cases q:g=f
     . subst q;rw[if_pos rfl];simp only[Am,beq_self_eq_true];exact ry
     . rw[if_neg q]
       have:(g == f)=false:=by simpa using q
       simp only[Am,this,List.lookup_nil];exact AS
   . by_cases q:g=f
     . subst q;exact .head _
     . exact absurd (if_neg q) hg
def dO{K}(G:GrK K C D)(sub:∀a o,K.lookup a=some o->Y.K.lookup a=some o)(cC:sk Y.h C (.ref D::veM) fI)
 (hna:findIn K (.ref C) f=some none) (I:Inv Y pins σ H s) (he:H e=some (exH e C (some d))) (hd:H d=some (dcH d fs)) (hde:d≠e) (hl:fs.length<1000) (ry:RelV y u) (h:∀s',Inv Y pins σ (upd H d (dcH d (rQ f y fs))) s'->Q () s'):wpAny (model Y.f Y.w) A (setAttr (.ref e) f u) Q E s:=by
 have KI:K.In s.heap:=λa o z=>I.kIn a o (sub a o z);obtain⟨t0,P⟩:=nu (I.B e _ he);obtain⟨mA,hns,r,wi⟩:=cw (I.B d _ hd);obtain⟨nm,q',N,bs,sn,sub',ab,col,dd,k0,k1,k2,k3,k5,mN,oI,hC,_⟩:=cC.keeps I.bk;have hxC:e≠C:=λz=>by subst z;rw[P]at hC;cases hC
 obtain⟨hp,g2,d2,t2,os2⟩:=s;refine r8 (x:=e) (mA:=mA) (ns:=fs.map (·.1)) (F2.two D) hC KI G.sa hna hxC ⟨_,P,rfl,λc z=>(by cases z),.inr ⟨d,rfl,hde,hns⟩⟩ (λh' tk' I' keep same=>?_) wi (by rw[Ak,AK];omega)
 obtain⟨o1,e1,c1,c2,c3,c4,_⟩:=same _ P;have W:=c4 d rfl;have U:o1=exO C (some d) t0:=by obtain⟨oc,od,odt,osl⟩:=o1;simp only at c1 c2 c3 W;subst c1 c2 c3 W;rfl
 subst U;obtain⟨o2,e2,_,_,hd2⟩:=I';rw[e1]at e2;cases e2;rcases hd2 with⟨z,_⟩|⟨dx,z,ne,R⟩
 . cases z
 . have hz:dx=d:=by cases z;rfl
   subst hz;refine h _ (I.write (x:=dx) (e:=dx) (t':=tk') (by rw[hd];exact AS) (.inl rfl) (λb v hb q=>?_) (let ⟨o,_,_,z,_⟩:=R;⟨o,z⟩) (cy R (λg=>?_) λg hg=>?_))
   . by_cases hbe:b=e
     . subst hbe
       have q':hp.get? b=some v:=q;have O:hp.get? b=some (exO C (some dx) t0):=P;rw[O]at q';cases q';exact e1
     . refine keep b v hbe (λS dx' h0 hd0=>?_) q
       have Z:hp.get? e=some S:=h0;have O:hp.get? e=some (exO C (some dx) t0):=P;rw[O]at Z;cases Z;cases hd0;exact hb
   . show my ((rQ f y fs).lookup g) (if g=f then some u else mA g)
     rw[rn];by_cases q:g=f
     . rw[if_pos q,if_pos q];exact ry
     . rw[if_neg q,if_neg q];exact r g
   . by_cases q:g=f
     . rw[q];exact(rH f y fs).1
     . refine(rH f y fs).2 g (wi g λz=>hg ?_)
       show (if g=f then some u else mA g)=none
       rw[if_neg q];exact z
def Zj{K}(G:GrK K C D)(sub:∀a o,K.lookup a=some o->Y.K.lookup a=some o)(Z:sk Y.h C (.ref D::veM) fI)(O:findIn K (.ref C) f=some none)(ho:PE Y eo ta)(hv:PE Y ev tv)
 (hs:DP ev (some (.Attribute eo f ap)) pos.line Y.a=pure false:=by rfl):PS Y (.Assign [.Attribute eo f ap] ev pos) (SN C ta tv f):=by
 intro pins s σ H D' I h;refine plainObj_wpAny_Assign_Attribute (thn (hv pins s σ H _ I h) λu s1 P=>?_) hs;obtain⟨y,H1,I1,W,q1⟩:=P;refine thn (ho pins s1 σ H1 _ I1 q1) λov s2 P=>?_;obtain⟨x,H2,I2,rx,e,ex,N⟩:=P;subst ex;obtain rfl:ov=AH e:=rx;rcases N with⟨R,N⟩|⟨d,fs,R,hd,S,hl,N⟩
 . exact Z1 G sub Z O I2 R W λd s' hd Q U=>⟨σ,_,U,N d hd Q⟩
 . exact dO G sub Z O I2 R hd S hl W λs' U=>⟨σ,_,U,N⟩
end
def Tv(U:PE X a ta)(S:PE X b tb)(h2:c2.length<=1000) :
 PE X (.JoinedStr [.FormattedValue a (-1) none p2,.Constant (.str c2) k2 p3,.FormattedValue b (-1) none p4] pos) (tFs ta tb):=by
 intro pins s σ H Q I h;refine JoinedStr_many (Ct (DA ?_));refine thn (U pins _ σ H _ I h) λu s1 N=>?_;obtain⟨x,H1,Y,r1,i,e1,hi,q1⟩:=N;subst e1;obtain⟨t1,rfl⟩:=r1;have l1:=um hi;refine Dt (Aq (vQ hi) (by decide)) ⟨?_,Ct (C8 ⟨?_,Ct (DA ?_)⟩)⟩
 . rw[AL,AK,show CQ.length=0 from rfl];omega
 . rw[AL,AL,AK,show CQ.length=0 from rfl];omega
 refine thn (S pins _ σ H1 _ (Y.tok _) q1) λZ s2 N=>?_;obtain⟨y,H2,W,P,j,e2,O,R⟩:=N;subst e2;obtain⟨t2,rfl⟩:=P;have l2:=um O;refine Dt (Aq (vQ O) (by decide)) ⟨?_,joinParts_nil ⟨.e _,H2,W.tok _,⟨_,rfl⟩,R _⟩ ?_⟩
 . rw[AL,AL,AL,AK,show CQ.length=0 from rfl];omega
 . rw[AL,AL,AL,AK,show CQ.length=0 from rfl];omega
def dj(body:List Stmt):Prop:=∃(z:Str) (p1 p2 p3 p4 p5 p6 Z Y W x U q1 S R Q r1 P O N:Pos) (k:Nat),z.length<=1000/\body =
 [.Expr (.Call (.Attribute (.Name "HueError" p1) "__init__" p2) [.Name "self" p3,.JoinedStr [.FormattedValue (.Name "many" p4) (-1) none p5,.Constant (.str z) k p6,.FormattedValue (.Name "most" Z) (-1) none Y] W] [] x) U,
  .Assign [.Attribute (.Name "self" q1) "many" S] (.Name "many" R) Q,.Assign [.Attribute (.Name "self" r1) "most" P] (.Name "most" O) N]/\(p2.endLine == x.line)=true
noncomputable def inN:List Str:=["self","many","most"]
def grF(a b:Int):List (Str × V):=rQ "most" (.d b) [("many",.d a)]
def spI(C:Addr):Sp:=λvs H Q _=>∃e a b,vs=[.c e,.d a,.d b]/\a.natAbs<2 ^ 64/\b.natAbs<2 ^ 64/\H e=some (exH e C none) /\
 ∀d,H d=none->d≠e->Q .g (upd (upd (upd H d (dcH d [("many",.d a)])) e (exH e C (some d))) d (dcH d (grF a b)))
structure kX(K:Ab)(mg:Str->Option Value)(D f:Addr)(fd:BA):Prop where
 ex:∃(x qual:Str) (st:Stmt),Fun K x qual st f fd/\x9 inN inN (zD st)/\Binds K fd inN []/\dj (z9 st) /\
  (zD st).names.lookup ("self":Str)=some .local/\(zD st).names.lookup ("many":Str)=some .local/\(zD st).names.lookup ("most":Str)=some .local/\(zD st).names.lookup ("HueError":Str)=some .globalImplicit
 hu:mg "HueError"=some (.ref D)
def bh{K Kc}(S:kX K mg D f fd)(G:GrK Kc C D)(sub:∀a o,Kc.lookup a=some o->K.lookup a=some o)(cC:sk base C (.ref D::veM) f)
 (hh:A.handled=none) (hdp:A.depth<Co) (e0:qU P w K mg base A outer s H) (hbt:BindsTo s fd ⟨us,[]⟩ (inN.zip us)) (r:Vals vs us) (hsp:spI C vs H Q E0):codeAny (model P w) A (.call (.ref f) ⟨us,[]⟩) (CR CX0 outer P w H s Q E0) s:=by
 refine byG λW O=>?_;obtain⟨x,qual,st,F,Sc,hb,⟨z,p1,p2,p3,p4,p5,p6,p7,p8,p9,pa,pb,q1,q2,q3,q4,r1,r2,r3,r4,kk,hz,hbd,hln⟩,l0,l1,l2,lg⟩:=S.ex;refine O ?_;refine byG λW O=>?_;obtain⟨oc,od,kV,doc,pm,an,cdv,ct,osl,rfl,lk,hcd⟩:=F.a;refine O ?_;refine byG λW O=>?_;obtain⟨e,a,b,hvs,ha,hb',he,q⟩:=hsp;refine O ?_;subst hvs;refine ql (CX:=CX0) (E:=E0) (R:=CR CX0 outer P w H s Q E0) (N:=inN) (vs:=[.c e,.d a,.d b]) lk hcd Sc hdp e0 hbt rfl r λs1 I1 _=>?_;rw[rg hh]at I1;have v0:∀{p:Pos},PE (yo CX0 P w K mg base inN qual (zD st) f cdv A outer s H E0) (.Name "self" p) (xf 0):=λ{p}=>xV rfl (.inl l0) (by decide) (by decide)
 have v1:∀{p:Pos},PE (yo CX0 P w K mg base inN qual (zD st) f cdv A outer s H E0) (.Name "many" p) (xf 1):=λ{p}=>xV rfl (.inl l1) (by decide) (by decide)
 have v2:∀{p:Pos},PE (yo CX0 P w K mg base inN qual (zD st) f cdv A outer s H E0) (.Name "most" p) (xf 2):=λ{p}=>xV rfl (.inl l2) (by decide) (by decide)
 have ht:PSs (yo CX0 P w K mg base inN qual (zD st) f cdv A outer s H E0) (z9 st) (oN (Vc (Z9 C (xa (xf 0) (xa (tFs (xf 1) (xf 2)) tY)))) (oN (SN C (xf 0) (xf 1) "many") (SN C (xf 0) (xf 2) "most"))):=by rw[hbd];exact zr (sQ (ZV G sub lg S.hu (by decide) (yO v0 (yO (Tv v1 v2 hz) yh)) cC (hline:=hln))) (zr (Zj G sub cC G.m1 v0 v1) (we (Zj G sub cC G.m2 v0 v2)))
 unfold ir;refine AF (ht [] s1 (start inN [.c e,.d a,.d b]) H {a:=λ_ H'=>Q .g H',b:=Q} I1 ?_) (λfl s' Y=>?_) λe s' z=>z
 . refine⟨_,rfl,_,rfl,a,rfl,ha,_,rfl,b,rfl,hb',λzz=>⟨e,none,zz,rfl,he,?_⟩⟩
   refine⟨_,rfl,_,rfl,e,rfl,.inl ⟨he,λd hd U=>?_⟩⟩;exact⟨_,rfl,_,rfl,e,rfl,.inr ⟨d,[("many",.d a)],zJ,by rw[zG U,zJ],U,(by show 1<1000;decide),q d hd U⟩⟩
 . cases fl with
   |ret u=>
    refine byG λW O=>?_;obtain⟨v,Z,H',J,rv,q'⟩:=Y;refine O ?_;exact⟨v,H',J.R,J.F,J.j,J.B,rv,q'⟩
   |next=>
    refine byG λW O=>?_;obtain⟨Z,H',J,q'⟩:=Y;refine O ?_;exact⟨.g,H',J.R,J.F,J.j,J.B,rfl,q'⟩
   |brk=>obtain⟨_,_,_,z⟩:=Y;exact Av z
   |cont=>obtain⟨_,_,_,z⟩:=Y;exact Av z
def Inv.re(I:Inv X pins σ H s)(h0:∀b,H b=none->H' b=none)(h1:∀b u,H b=some u->(∀Q,u≠.j Q)->H' b=some u)(N:HOk X.f X.w H' s.heap):Inv X pins σ H' s:=by
 refine⟨I.C,I.R,I.F,⟨I.j.f,I.j.i,λb o e n hx=>h0 b (I.j.d b o e n hx),I.j.c,λb S e=>h1 b _ (I.j.l b S e) nofun,λb o u e=>h1 b _ (I.j.g b o u e) nofun,λb ps e=>?_⟩,I.M,I.G,h0 _ I.J,λx c e=>h0 _ (I.D x c e),λp hp=>?_,N,I.P⟩
 . obtain⟨more,q⟩:=I.j.j b ps e
   exact⟨more,h1 b _ q nofun⟩
 . obtain⟨a,b,c⟩:=I.O p hp
   exact⟨a,h0 _ b,c⟩
def XRG(X:Cx)(C d:Addr)(H:Hp):Prop:=∀(pins:List (Addr × Obj)) (σ:St) (s:Shared),Inv X pins σ H s->∀(h1:Heap) (e t:Addr),(∀b o,s.heap.get? b=some o->h1.get? b=some o)->s.heap.get? e=none->h1.get? e=some (exO C (some d) t)->X.i (.ref e) {s with heap:=h1}
def Wh(X:Cx)(C:Addr)(t:TA):TS:=λ_ σ H=>t σ H λvs H1=>∃a b:Int,vs=[.d a,.d b]/\a.natAbs<2 ^ 64/\b.natAbs<2 ^ 64/\∀d,H1 d=none->XRG X C d (upd H1 d (.m (grF a b)))
def dE(hr:xN k X.A)(hg:Gl X x)(hm:X.d x=some (.ref C))(cC:sk X.h C (.ref D::veM) f)(S:kX X.K X.d D f fd)(G:GrK Kc C D)(sub:∀a o,Kc.lookup a=some o->X.K.lookup a=some o)(hb:Binds X.K fd inN [])(ha:PA X [e1,e2] t)
 (hdb:(x == ("__debug__":Str))=false) (he:AA [e1,e2] X.a=(false,eval e1 X.a)::AA [e2] X.a) (hpl:(backTo cpos (AA [e2] X.a)).any (·.1)=false):PS X (.Raise (some (.Call (.Name x np) [e1,e2] [] cpos)) none pos) (Wh X C t):=by
 intro pins s σ H D' I h;have cC0:=cC;refine byG λpi P=>?_;obtain⟨nm,q,N,bs,sn,sub',ab,col,dd,k0,k1,k2,k3,k5,mN,oI,hC,hN,hi,hfI,hfc⟩:=cC;refine P ?_;refine se (C:=C) (nm:=nm) (q:=q) (N:=N) (bs:=bs) (bm:=.ref D::veM) (hdct:=true) (sn:=sn) (sub:=sub') (ab:=ab) (col:=col) (dd:=dd) (k0:=k0) (k1:=k1) (k2:=k2) (k3:=k3) (k5:=k5) (newId:="ValueError.__new__") (Ca.two D).a hr.a ?_ (xU I hg hm ⟨rfl,?_⟩ hdb)
 . rw[he];exact hpl
 . rw[he]
   refine CO ?_;have q:=ha cpos pins s σ H _ I h;rw[he]at q;refine AF q (λus s1 hq=>?_) λ_ _ z=>z;refine byG λpi P=>?_;obtain⟨vs,H1,I1,r,a,b,hvs,sa,sb,hx⟩:=hq;refine P ?_;subst hvs;have hC1:=I1.bk _ _ hC;refine⟨rfl,hC1,?_⟩;have hul:us.length=2:=r.length.symm;refine byG λpi P=>?_;obtain⟨h1,g1,d1,t1,os1⟩:=s1;refine P ?_;refine uY (Ca.two D) hC1 (hN.keeps I1.bk) hi (I1.bk _ _ hfI) hfc (λh' e m hz=>?_) (by show us.length<=Ap;rw[hul,AK];decide)
   refine byG λpi P=>?_;obtain⟨t0,he0,_,_⟩:=m.there;refine P ?_;have I2:=I1.laid (h':=h') (a:=e) (o:=exH e C none) (t':=t1) m.keeps hz (ky (t:=t0) he0);have hHe:H1 e=none:=I1.B.fresh hz;have r2:Vals (V.c e::[V.d a,V.d b]) (AH e::us):=.cons rfl r;have hsp:spI C (V.c e::[V.d a,V.d b]) (upd H1 e (exH e C none)) (λv H2=>v=.g/\∃d,H1 d=none/\d≠e/\H2=upd (upd (upd (upd H1 e (exH e C none)) d (dcH d [("many",.d a)])) e (exH e C (some d))) d (dcH d (grF a b))) E0:=
    ⟨e,a,b,rfl,sa,sb,zJ,λd hd R=>⟨rfl,d,by rw[zG R]at hd;exact hd,R,rfl⟩⟩
   have hbt:=hb ⟨h',g1,d1,t1,os1⟩ (AH e::us) I2.kIn (by rw[A4,AB,hul];rfl)
   rw[A4]at hbt;refine C9 (CY (bh S G sub cC0 (show (X.A.under (.builtin "type.__call__" ⟨.ref C::us,[]⟩)).handled=none from hr.a) (by have:=hr.c;rw[jZ];omega) (I2.v7.make C us []) hbt r2 hsp) λrr s' U=>?_)
   cases rr with
   |error z=>exact Av U
   |ok fl=>
    cases fl with
    |ret u=>
     refine byG λpi P=>?_;obtain⟨v,H',Y,rv,ev,d,hd,R,hH⟩:=I2.after U;refine P ?_;subst ev;subst hH;obtain rfl:u=Be:=rv;refine⟨rfl,e,?_⟩;obtain⟨t3,he3⟩:=nu (Y.B e _ (by rw[zG (A9 R),zJ]))
     refine byG λpi P=>?_;obtain⟨mA,hns,hrel,_⟩:=cw (Y.B d _ zJ);refine P ?_;refine⟨t3,some d,rfl,Y.bk _ _ hC,he3,?_⟩
     -- the dict is known as such,the exception itself no more
     have W:∀c,c≠e->c≠d->upd (upd (upd (upd H1 e (exH e C none)) d (dcH d [("many",.d a)])) e (exH e C (some d))) d (dcH d (grF a b)) c=H1 c:=λc z1 z2=>by rw[zG z2,zG z1,zG z2,zG z1]
     have Q:upd (upd (upd (upd H1 e (exH e C none)) d (dcH d [("many",.d a)])) e (exH e C (some d))) d (dcH d (grF a b)) e=some (exH e C (some d)):=by rw[zG (A9 R),zJ]
     have Z:upd (upd (upd (upd H1 e (exH e C none)) d (dcH d [("many",.d a)])) e (exH e C (some d))) d (dcH d (grF a b)) d=some (dcH d (grF a b)):=zJ;generalize upd (upd (upd (upd H1 e (exH e C none)) d (dcH d [("many",.d a)])) e (exH e C (some d))) d (dcH d (grF a b))=H3 at Y W Q Z;have sm:∀c u,H3 c=some u->(∀φ,u≠.j φ)->upd H1 d (.m (grF a b)) c=some u:=λc u z nx=>by
      have c1:c≠e:=λy=>by rw[y,Q]at z;cases z;exact nx _ rfl
      have c2:c≠d:=λy=>by rw[y,Z]at z;cases z;exact nx _ rfl
      rw[zG c2,<-W c c1 c2];exact z
     have I4:=Y.re (H':=upd H1 d (.m (grF a b))) (λc z=>?_) sm λc u z=>?_
     . have I5:=I4.turned (it:=e) (h':=hideAll s'.heap [e]) (t':=s'.toks) (λc o z y=>hideAll_get _ y (by simpa using z)) (by rw[zG (A9 R)];exact hHe) (λz=>by have:=Y.J;rw[<-z,Q]at this;cases this) (.inr (Az I1.sz hz)) (λx c z y=>by have:=Y.D x c z;rw[y,Q]at this;cases this) λp hp z=>by have:=(Y.O p hp).2.1;rw[z,Q]at this;cases this
       exact hx d hd pins σ _ I5 s'.heap e t3 (λc o z=>of_hideAll _ z) (hideAll_none _ (.head _)) he3
     . have c1:c≠e:=λy=>by rw[y,Q]at z;cases z
       have c2:c≠d:=λy=>by rw[y,Z]at z;cases z
       rw[zG c2,<-W c c1 c2];exact z
     . by_cases c2:c=d
       . subst c2
         rw[zJ]at z;cases z;exact⟨mA,hns,hrel⟩
       . rw[zG c2]at z
         have c1:c≠e:=λy=>by rw[y,hHe]at z;cases z
         exact(Y.B c u (by rw[W c c1 c2];exact z)).pX (λ_ _ _ y=>y) (λc' y=>sm c' _ y nofun) λc' xs y=>sm c' _ y nofun
    |next=>exact Av U
    |brk=>exact Av U
    |cont=>exact Av U
def YX{K}
 (hE:E (.ref C) (some d) H):XRG (yo (CXE P w) P w K mg base N qual scope f cd A outer s₀ H₀ E) C d H:=λ_ _ _ I _ _ _ k n x=>pR I k n x rfl rfl hE
end L2
end
section
namespace L2
open PySem PySem.W PySem.Spec PyProof PyProof.Rows
def pL{K:Ab}:Passes (CXE P w) (qh (CXE P w) P w K mg base N qual scope f cd cl A outer s₀ H₀ E) E:=by
 rintro pins σ H s e s' I ⟨a,cls,dd,H',rfl,fl,hE⟩;obtain⟨g,B,u,hk,U,fr,Q⟩:=fl.h;show wpAny _ _ _ _ _ _;have W:Inv (qh (CXE P w) P w K mg base N qual scope f cd cl A outer s₀ H₀ E) pins σ H' {s with heap:=g}:=I.call (g':=s.gens) (t':=s.toks) (d':=s.drawn) (ch:=[]) u hk I.F λb z=>absurd z (by simp)
 have hL:∀b,(b<s₀.heap.objs.size\/H' b≠none)->b≠s₀.heap.objs.size:=λb x z=>by
  subst z;rcases x with x|x
  . exact Bc _ x
  . exact x W.J
 have O:∀b,b∈frs outer->b∈frs (envX qual scope s₀.heap.objs.size f cd cl::outer):=λb x=>Ag _ x;refine vS (base:=B) (env:=envX qual scope s₀.heap.objs.size f cd cl) (outer:=outer) (L:=s₀.heap.objs.size) I.C.g rfl Q λh' Z Y=>?_;refine⟨a,cls,dd,H',rfl,⟨fl.j.trans I.R,fl.d,λb x=>fl.i b (O b x),g,B,W.j,hk,λb o e n x=>?_,λb o e x=>?_,Z⟩,hE⟩
 . refine U b o e (λhm=>?_) ?_
   . rcases Ao.mp (show b∈s₀.heap.objs.size::frs outer from hm) with z|z
     . exact hL b x z
     . exact n z
   . rcases x with x|x
     . exact .inl (Aq x I.sz)
     . exact .inr x
 . obtain⟨sl,e1⟩:=fr b o e (O b x)
   obtain⟨_,o',e2,hd⟩:=Q.2.2.1.mem (O b x);rw[e1]at e2;cases e2;obtain⟨S,e3⟩:=Y b _ e1 hd;exact⟨S,e3⟩
def Inv.VA(I:Inv X pins σ H s)(f:tj X.f X.w X.g H s H' a cls dd s'):Inv X pins σ H' s':=by obtain⟨u,hk⟩:=f.un;obtain⟨x,g,d,t,os⟩:=s';obtain rfl:os=s.os:=f.j;exact I.call (h':=x) (g':=g) (d':=d) (t':=t) (ch:=[]) u hk f.d λb z=>absurd z (by simp)
def tj.obj(f:tj X.f X.w X.g H s H' a cls dd s')(I:Inv X pins σ H s):∃oe,s'.heap.get? a=some oe/\oe.cls=cls/\H' a=none/\s.heap.get? a=none/\(∃vs,oe.data=.fields vs)/\oe.dict=dd:=by
 refine byG λW N=>?_;obtain⟨g,B,u,hk,P,fr,U⟩:=f.h;refine N ?_;refine byG λW N=>?_;obtain⟨f1,f2,f3,oe,vs,_,_,_,Z,hc,hd,_⟩:=id U;refine N ?_;have O:a ∉ frs X.g:=λhm=>by refine byG λW N=>?_;obtain⟨_,Y,e2,R⟩:=f3.mem hm;refine N ?_;rw[Z]at e2;cases e2;exact R vs hd
 refine⟨oe,Z,hc.1,?_,?_,⟨vs,hd⟩,hc.2⟩
 . cases q:H' a with
   |none=>rfl
   |some o=>
    have x:=(hk a o q);have:∃ob,g.get? a=some ob:=by
     have hlt:=x.lt;cases qg:g.get? a with
     |some ob=>exact⟨ob,rfl⟩
     |none=>
      exfalso;cases o with
      |b xs=>obtain⟨_,_,_,_,e⟩:=x;rw[qg]at e;cases e
      |c xs=>obtain⟨_,_,_,ob,e,_⟩:=x;rw[qg]at e;cases e
      |i Q=>obtain⟨_,_,_,_,ob,_,_,e,_⟩:=x;rw[qg]at e;cases e
      |k Q=>obtain⟨_,_,_,_,ob,_,_,e,_⟩:=x;rw[qg]at e;cases e
      |p S n=>obtain⟨ob,_,_,_,e,_⟩:=x;rw[qg]at e;cases e
      |l C dx fs=>obtain⟨_,_,_,e,_⟩:=x;rw[qg]at e;cases e
      |e y=>obtain⟨_,e⟩:=x;rw[qg]at e;cases e
      |m fs=>obtain⟨_,⟨_,_,_,e,_⟩,_⟩:=x;rw[qg]at e;cases e
      |r lo hi=>obtain⟨_,_,_,e⟩:=x;rw[qg]at e;cases e
      |d ob u=>obtain⟨e,_⟩:=x;rw[qg]at e;cases e
      |g ps=>have e:g.get? a=some _:=x;rw[qg]at e;cases e
      |q f y=>have e:g.get? a=some _:=x;rw[qg]at e;cases e
      |j φ=>obtain⟨_,⟨_,e⟩,_⟩:=x;rw[qg]at e;cases e
    obtain⟨ob,e⟩:=this;rw[P a ob e O (.inr (by rw[q];exact nofun))]at f2
    cases f2
 . cases q:s.heap.get? a with
   |none=>rfl
   |some o=>
    obtain⟨Y,e⟩:=u.c a o q (by simp)
    rw[P a Y e O (.inl (Al q))]at f2;cases f2
def Inv.adopt(I:Inv X [] σ H s)(W:H a=none)(N:s.heap.get? a=some oe)(hd:oe.data=.fields vs)(h0:X.l.heap.get? a=none)(O:X.q=[]):Inv X [] σ (upd H a (.d oe (.e 0))) s:=by
 have ne:∀b,H b≠none->b≠a:=λb n z=>n (by rw[z];exact W)
 have S:X.a.locals≠a:=λz=>by obtain⟨m,⟨o,es,Y,e,d,_⟩,_⟩:=I.M;rw[z,N]at e;cases e;rw[hd]at d;cases d
 have U:∀x c,X.a.cells.lookup x=some c->c≠a:=λx c e z=>by obtain⟨v,o,e2,d⟩:=I.G x c e;rw[z,N]at e2;cases e2;rw[hd]at d;cases d
 have ob:∀b u,H b=some u->upd H a (.d oe (.e 0)) b=some u:=λb u e=>by rw[zG (ne b (by rw[e];exact nofun))];exact e
 refine⟨I.C,I.R,I.F,⟨I.j.f,I.j.i,λb o e n hx=>?_,I.j.c,λb Q e=>ob _ _ (I.j.l b Q e),λb o u e=>ob _ _ (I.j.g b o u e),λb ps e=>?_⟩,I.M,I.G,?_,λx c e=>?_,λp hp=>?_,λb u e=>?_,I.P⟩
 . rw[zG (λz=>by rw[z,h0]at e;cases e)];exact I.j.d b o e n hx
 . obtain⟨more,q⟩:=I.j.j b ps e
   exact⟨more,ob _ _ q⟩
 . rw[zG S];exact I.J
 . rw[zG (U x c e)];exact I.D x c e
 . rw[O]at hp;cases hp
 . by_cases z:b=a
   . subst z
     rw[zJ]at e;cases e;exact⟨N,oe,N⟩
   . rw[zG z]at e
     exact(I.B b u e).pX (λ_ _ _ q=>q) (λc q=>ob _ _ q) λc Q q=>ob _ _ q
def Inv.gone(I:Inv X [] σ H s)(Z:h'.Ns X.a.locals m')(P:Heap.SameBut X.a.locals s.heap h')(S:X.q=[]):Inv X [] (Aj X.N.length none) H {s with heap:=h',toks:=tk}:=by
 have O:∀b o,X.l.heap.get? b=some o->b≠X.a.locals:=λb o e=>AI (Aq (Al e) I.C.d);refine⟨I.C,I.R,I.F,⟨λb o e n U hx=>?_,λb o e n U hx=>?_,I.j.d,λb o e hx=>?_,I.j.l,I.j.g,I.j.j⟩,⟨m',Z,λi x v e1 e2 e3=>?_⟩,λy c e=>?_,I.J,I.D,λp hp=>?_,λb u e=>?_,by simp⟩
 . exact(P.2 b (O b o e)).trans (I.j.f b o e n U hx)
 . obtain⟨W,e1⟩:=I.j.i b o e n U hx
   exact⟨W,(P.2 b (O b o e)).trans e1⟩
 . obtain⟨Y,e1⟩:=I.j.c b o e hx
   exact⟨Y,(P.2 b (O b o e)).trans e1⟩
 . rw[D8]at e2
   split at e2<;>cases e2
 . obtain⟨v,z⟩:=I.G y c e
   exact⟨v,z.sameBut P (I.cne y c e)⟩
 . rw[S]at hp;cases hp
 . refine(I.B b u e).pX (λc v Q q=>(P.2 c ?_).trans q) (λ_ q=>q) λ_ _ q=>q
   rintro rfl;have z:=I.J;rcases Q with rfl|Q
   . rw[z]at e;cases e
   . rw[z]at Q;cases Q
def fg
 (h:wpAny (model prog w) (A.mark (some (.ref e))) (eval t env) (λc x=>Looks (model prog w) x.heap (excMatches (.ref e) c) true /\
  wpAny (model prog w) (A.mark (some (.ref e))) (EB (.ref e) none) (λ_ R=>
   wpAny (model prog w) (A.mark (some (.ref e))) (GJ env n (.ref e)) (λ_ P=>
    wpAny (model prog w) (A.mark (some (.ref e))) (execs (b₀::suite) env)
     (λf O=>wpAny (model prog w) A (do Di env n .none;unbindBehindTheSuite env n pos) (λ_ N=>Q f N) E O)
     (AsSuiteRaised (model prog w) (A.mark (some (.ref e))) env n pos (notedBy (model prog w) (A.mark (some (.ref e))) env (FI (model prog w) A env E))) P) (notedBy (model prog w) (A.mark (some (.ref e))) env (FI (model prog w) A env E)) R) (notedBy (model prog w) (A.mark (some (.ref e))) env (FI (model prog w) A env E)) x) (notedBy (model prog w) (A.mark (some (.ref e))) env (FI (model prog w) A env E)) s) :
 wpAny (model prog w) A (handleBy (.ref e) env (.ExceptHandler (some t) (some n) (b₀::suite) pos::rest)) Q E s:=by
 refine wpAny_handleBy_cons (codeAny_handlers_test (AF h (λc x S=>?_) λ_ _ y=>y)) (by intro q;cases q)
 obtain⟨L,hk⟩:=S;exact L.here (codeAny_handlers_suite_as hk)
def tw(Kc K:Ab):Prop:=∀a o,Kc.lookup a=some o->K.lookup a=some o
def tw.inn{Kc K}(s:tw Kc K)(x:K.In h):Kc.In h:=λa o e=>x a o (s a o e)
def XC(X:Cx)(EE:Value->Option Addr->Hp->Prop)(e:Value)(s':Shared):Prop:=∃(a:Addr) (cls:Value) (dd:Option Addr) (x:St) (H2:Hp) (s2:Shared) (H':Hp),e=.ref a/\Inv X [] x H2 s2/\tj X.f X.w X.g H2 s2 H' a cls dd s'/\EE cls dd H'
def pA(e:h.get? a=some o)(x:o.cls=cls):Looks M h (typeOf (.ref a)) cls:=x▸(Looks.ld e).andThen .now
def qr{g B h h':Heap}(fr:∀b o,g.get? b=some o->b∈frs l->∃x,h.get? b=some {o with slots:=x})(Q:h.FunFrames B l)(P:h.UpToSlots h'):∀b o,g.get? b=some o->b∈frs l->∃x,h'.get? b=some {o with slots:=x}:=λb o e O=>by obtain⟨x,e1⟩:=fr b o e O;obtain⟨_,R,e2,hd⟩:=Q.mem O;rw[e1]at e2;cases e2;obtain⟨N,e3⟩:=P b _ e1 hd;exact⟨N,e3⟩
def YG(I:Inv X [] σ H s)(hpn:X.q=[])(hxn:X.m=[])(hN:X.N.Nodup)(hl:X.a.scope.names.lookup n=some .local)(hi:X.N[ie]?=some n)
 (Q:X.g=X.a::X.k) (hfr:X.a.frame=some X.a.locals) (hg:Gl X hx) (hdb:(hx == ("__debug__":Str))=false) (hm:X.d hx=some (.ref hue)) (hb:PSs (X.wZ (XC X EE)) body tb) (hq:tb D σ H)
 (hex:∀cls dd H',EE cls dd H'->(∃Kc,tw Kc X.K/\exmOne Kc cls (.ref hue)=some true)/\∀a oe (R:St),H' a=none->oe.cls=cls->oe.dict=dd->(∀c,oe.data≠.cls c)->R.length=X.N.length->ts {a:=λ_ _=>False,b:=D.b} (R.set ie (some (.c a))) (upd H' a (.d oe (.e 0))))
 (hs:∀a:Addr,PSs (X.loud (X.A.mark (some (.ref a)))).nox (b₀::suite) ts) :
 wpAny (model X.f X.w) X.A (exec (.Try body [.ExceptHandler (some (.Name hx np)) (some n) (b₀::suite) hpos] [] [] pos) X.a) (SP X [] D) X.i s:=by
 refine wpAny_Try_except (AF (hb [] s σ H D (I.wZ _) hq) (λf s1 U=>?_) λe s1 hx'=>?_)
 . have q:=U.xF
   cases f with
   |next=>
    refine byG λpi x=>?_;obtain⟨σ1,H1,I1,q1⟩:=q;refine x ?_;exact qR [] s1 σ1 H1 D I1 q1
   |brk=>exact q
   |cont=>exact q
   |ret u=>exact q
 . refine byG λpi x=>?_
   obtain⟨a,cls,dd,R,H2,s2,H',rfl,Z,f,hE⟩:=hx';refine x ?_;obtain⟨S,hx2⟩:=hex cls dd H' hE;refine byG λpi x=>?_;obtain⟨g,B,u,hk,cov,fr,Y⟩:=f.h;refine x ?_;have fl0:=Y;rw[Q]at Y;have hA:X.A.frames=some (X.a::X.k):=by rw[<-Q];exact I.C.g
   refine qD hA hfr Y λh4 W sm4=>?_;refine mq W λh5 fly5 sm5=>?_;have O:Heap.wM B X.g a cls dd h5:=by rw[Q];exact fly5
   have f5:tj X.f X.w X.g H2 s2 H' a cls dd {s1 with heap:=h5}:=⟨f.j,f.d,f.i,g,B,u,hk,cov,qr fr fl0.2.2.1 (sm4.trans sm5),O⟩
   have I5:=(Z.VA f5).loud (A':=X.A.mark (some (.ref a))) (by rw[Q];exact hA)
   refine fg (xU (X:=X.loud (X.A.mark (some (.ref a)))) I5 hg hm ⟨?_,?_⟩ hdb)
   . refine byG λpi x=>?_
     obtain⟨oe,e1,e2,_⟩:=f5.obj Z;refine x ?_;obtain⟨Kc,sub,S⟩:=S;exact exm_one (sub.inn I5.kIn) (pA e1 e2) S
   . refine n9 O λh6 fly6 sm6=>?_
     have f6:tj X.f X.w X.g H2 s2 H' a cls dd {s1 with heap:=h6}:=⟨f.j,f.d,f.i,g,B,u,hk,cov,qr (qr fr fl0.2.2.1 (sm4.trans sm5)) O.2.2.1 sm6,fly6⟩
     refine byG λpi x=>?_;obtain⟨oe,e1,e2,e3,e4,⟨vs,e5⟩,e6⟩:=f6.obj Z;refine x ?_;have I6:=Z.VA f6;have h0:X.l.heap.get? a=none:=by
      cases q:X.l.heap.get? a with
      |none=>rfl
      |some o=>
       have hne:a ∉ X.m:=by rw[hxn];exact nofun
       obtain⟨o',q'⟩:=Z.j.c a o q hne;rw[e4]at q';cases q'
     have I7:=(I6.adopt e3 e1 e5 h0 hpn).loud (A':=X.A.mark (some (.ref a))) (by rw[Q];exact hA)
     refine xZ (X:=X.loud (X.A.mark (some (.ref a)))) (v:=.c a) I7 hN hi (.inl hl) rfl (λs8 I8=>?_) (.inr hl);refine AF ((hs a) [] s8 _ _ {a:=λ_ _=>False,b:=D.b} (I8.wZ _) (hx2 a oe R e3 e2 e6 (λc z=>by rw[e5]at z;cases z) Z.P)) (λfl s9 U=>?_) λ_ _ z=>Av z
     have q:=U.xF;cases fl with
     |next=>obtain⟨_,_,_,z⟩:=q;exact Av z
     |brk=>obtain⟨_,_,_,z⟩:=q;exact Av z
     |cont=>obtain⟨_,_,_,z⟩:=q;exact Av z
     |ret u=>
      refine byG λpi x=>?_;obtain⟨v,σ',H3,I9,rv,q9⟩:=q;refine x ?_;have I10:Inv X [] σ' H3 s9:=I9.calm I.C;obtain⟨m,hn,_⟩:=I10.M;exact wpAny_nameGoes hl hn (by rw[I.C.a];rfl) λh' m' hn' hs'=>⟨v,_,H3,I10.gone hn' hs' hpn,rv,q9⟩
end L2
end
section
namespace L2
open PySem PySem.W PySem.Spec PyProof PyProof.Rows
open Sem (wp)
structure uD(K:Ab)(C:Addr):Prop where
 ga:findIn K (.ref C) "__getattribute__"=some (some (.builtin "BaseException.__getattribute__"))
 gt:findIn K (.ref C) "__getattr__"=some none
 cl:findIn K (.ref C) "__class__"=some (some (.builtin "object.__class__"))
 be:subIn K (.ref C) (.type "BaseException")=some true
 ob:subIn K (.ref C) (.type "object")=some true
 it:(clsIn K C).isSome=true
section
variable {prog:Program}{w:World}{A:Around}{E:Value->Shared->Prop}{h:Heap}{g:Array GenState}{d:Drawn}{t:Nat}{os:OsState}{a C:Addr}{o:Obj}{K:Ab}
def ij(F:uD K C)(X:K.In h)(hx:h.get? a=some o)(N:o.cls=.ref C)(P:R (.ok (.ret (.ref C))) ⟨h,g,d,t,os⟩) :
 codeAny (model prog w) A (.call (.builtin "getset_descriptor.__get__") ⟨[.builtin "object.__class__",.ref a,.ref C],[]⟩) R ⟨h,g,d,t,os⟩:=by
 have x:(⟨h,g,d,t,os⟩:Shared).TypeIs (.builtin "object.__class__") "getset_descriptor":=Dv;have O:Looks (model prog w) h (isSubtype (.ref C) (.type (".".intercalate ("object.__class__".cutAt '.').dropLast))) true:=by rw[PySem.F.owner_object_class];exact looks_subIn X F.ob
 refine Cm EW.plain PySem.F.entry_gs_get (EW.check _ _ _ _ _ _ _ _ x (PySem.F.args_gs_get _ _ _) ?_)
 repeat (any_goals (first|assumption|(with_reducible refine AG hx ?_;rw[N])|with_reducible refine O.at ?_|wp_step))
 refine⟨Df _ (by decide +kernel),codeAny_builtin PySem.F.entry_object_class ?_⟩
 repeat (any_goals (first|assumption|(with_reducible refine AG hx ?_;rw[N])|wp_step))
def mx(F:uD K C)(X:K.In h)(hx:h.get? a=some o)(x:o.cls=.ref C)(P:Q (.done (.ret (.ref C))) ⟨h,g,d,t,os⟩) :
 wpAny (model prog w) A (Builtin.«object.__getattribute__» ⟨[.ref a,.str "__class__" tk],[]⟩) Q E ⟨h,g,d,t,os⟩:=by
 have N:(⟨h,g,d,t,os⟩:Shared).TypeIs (.builtin "object.__class__") "getset_descriptor":=Dv;have f5:=Dv;have f6:=EW.lookup;have f7:=PySem.F.slot_gs_set.lookup;have O:=D1 (M:=model prog w) X F.cl
 repeat (any_goals (first|assumption|(with_reducible refine AG hx ?_;rw[x])|with_reducible refine O.at ?_|wp_step))
 refine ij F X hx x ?_
 repeat (any_goals (first|assumption|wp_step))
def si(F:uD K C)(X:K.In h)(hx:h.get? a=some o)(O:o.cls=.ref C)(N:Q () ⟨h,g,d,t,os⟩):wpAny M A (Cc "BaseException.__getattribute__" ⟨[.ref a,nameV],[]⟩) Q E ⟨h,g,d,t,os⟩:=by
 have hk:builtinKind "BaseException.__getattribute__"=some .slot:=by decide +kernel
 have x:splitId "BaseException.__getattribute__"=some ("BaseException","__getattribute__"):=by decide +kernel
 have P:=looks_subIn (M:=M) X F.be;have R:=PySem.F.args_bexc_ga (.ref a) nameV;simp only[Cc,hk,x];refine dS ?_
 . unfold GB
   repeat (first|(with_reducible refine AG hx ?_;rw[O])|with_reducible refine P.at ?_|wp_step)
   exact N
def kT(F:uD K C)(X:K.In h)(hx:h.get? a=some o)(x:o.cls=.ref C)(N:R (.ok (.ret (.ref C))) ⟨h,g,d,t,os⟩) :
 codeAny (model prog w) A (.call (.builtin "BaseException.__getattribute__") ⟨[.ref a,.str "__class__" tk],[]⟩) R ⟨h,g,d,t,os⟩:=
 Cm CH.ga.plain PySem.F.entry_bexc_ga (si F X hx x (mx F X hx x N))
def dh{fill expr}(F:uD K C)(X:K.In h)(hx:h.get? a=some o)(N:o.cls=.ref C)(S:Q (.ref C) ⟨h,g,d,t,os⟩) :
 wpAny (model prog w) A (getAttrBy (.ref a) (.str "__class__" tk) fill expr) Q E ⟨h,g,d,t,os⟩:=by
 have f3:=CH.ga.bind (.ref a);have P:(expr&&GO (Cb "BaseException.__getattribute__"))=false:=by cases expr<;>rfl
 have x:(Cb "BaseException.__getattribute__" == Cb "object.__getattribute__")=false:=by decide +kernel
 have O:(GO (AH C)&&Cb "BaseException.__getattribute__" == Cb "object.__getattribute__")=false:=by rw[x];rfl
 have R:=D1 (M:=model prog w) X F.ga;have L2:=D1 (M:=model prog w) X F.gt
 repeat (any_goals (first|assumption|(with_reducible refine AG hx ?_;rw[N])|with_reducible refine R.at ?_|with_reducible refine L2.at ?_|wp_step))
 refine kT F X hx N ?_
 repeat (any_goals (first|assumption|wp_step))
def kS(F:uD K C)(X:K.In h)(hx:h.get? a=some o)(x:o.cls=.ref C)(N:Q (some (.ref C)) ⟨h,g,d,t+1,os⟩):wpAny (model prog w) A (getAttr? (.ref a) "__class__") Q E ⟨h,g,d,t,os⟩:=by
 unfold getAttr? getAttrBy?
 repeat (any_goals (first|assumption|with_reducible apply dh F X hx x|wp_step))
def aS(F:uD K C)(N:o.cls=.ref C):KitX K (.ref a) (.ref C) (λh=>h.get? a=some o) where
 ty:=λM h _ e=>pA e N
 it:=λM h X _=>by
  have z:=F.it;unfold clsIn at z;split at z
  . rename_i c' d' cd' sl' ho
    intro A' R S s' k q;unfold isType loadHead;exact dS (wpAny_loadPart (k _ _ (X _ _ ho)) (Ae q))
  . cases z
 ne:=λh tp dd O n P X x=>by
  have z:=F.it;refine Bool.eq_false_iff.mpr λq=>?_;have e:C=tp:=AH.inj (beq_iff_eq.mp q);subst e;unfold clsIn at z;split at z
  . rename_i c' d' cd' sl' ho
    have z:=(X _ _ ho).symm.trans x;cases z
  . cases z
 ca:=λ{prog w A E Q s} X e k=>by obtain⟨h,g,d,t,os⟩:=s;exact kS F X e N k
end
end L2
end
section
namespace L2
open PySem PySem.W PySem.Spec PySem.Calls PyProof PyProof.Rows
open SeqAt
def mW(K:Ab):V->List V->Hp->VK->Prop:=λx vs H Q=>∃t N y j,x=.c t/\vs=[y]/\SqL K H t N/\wb y=true/\N.all wb=true/\N.findIdx? (λz=>eqV z y)=some j/\Q (.d (j:Nat)) H
def Qi(K:Ab):List V->Hp->VK->Prop:=λO H Q=>∃(a:Addr) (oe:Obj) (C:Addr) (x:V) (N:Value) (b:Bool) (Kc:Ab),O=[.c a,x]/\H a=some (.d oe (.e 0))/\oe.cls=.ref C/\tw Kc K/\uD Kc C/\(∀u,RelV x u->u=N)/\kitOne Kc (.ref C) N=some b/\Q (.f b) H
def eQ:MtR X "list.index" (mW X.K):=by
 intro pins s σ H x xs v us Q I rx rs h;obtain⟨t,W,y,j,rfl,rfl,ht,fy,fs,hx,q⟩:=h;cases rx;obtain⟨u,rfl,ru⟩:=vals1 rs;obtain⟨N,r,p1,hz⟩:=I.list ht;obtain⟨⟨cls,dd,data,sl⟩,Y,Z,n,hd⟩:=id p1.isList;simp only at Z hd;subst Z hd;have O:=bN (x:=y) r fs;have at_:∀(i:Nat) (h1:i<N.length) (h2:i<W.length),eqU y N[i]=eqV W[i] y:=λi h1 h2=>by
  have:=congrArg (·[i]?) O
  simp only[A1,Ai h1,Ai h2,DL,Ec]at this;exact this
 have hl:=r.length;obtain⟨hj,U,R⟩:=Ei.mp hx;have P:N.length<=Ap:=by first|exact hz|(rw[<-hl];exact hz)|simpa using hz
 rw[AK]at P;refine BV F.slot_list_index ⟨_,Y,rfl⟩ F.entry_list_index (F.args_list_index_2 _ _) (list_indexAt t N.toArray n dd sl u (eqU y) j (by rw[Ah];omega) ⋯ ?_ λm O S=>?_) ⟨Y,λw hw=>sJ ru fy r fs w (by simpa using hw),?_⟩
 . rw[List.getElem_toArray,at_ j ⋯ hj];exact U
 . rw[Ah]at O
   rw[List.getElem_toArray,at_ m O ⋯]
   have:=R m S;simpa using this
 . exact⟨.d _,H,I.tok _,⟨s.toks,rfl⟩,q⟩
def ey(P:PE X o to)(Q:PE X e te)(x:BZ o "index" X.a (eval o X.a)=eval o X.a:=by rfl)(N:noStar e=true:=by rfl)(hline:(apos.endLine == cpos.line)=true:=by rfl) :
 PE X (.Call (.Attribute o "index" apos) [e] [] cpos) (tBM X.K "list" (mW X.K) to (xa te tY)):=by
 have O:AA [e] X.a=(false,eval e X.a)::AA [] X.a:=zj N;refine ZM Ea PySem.F.slot_list_index PySem.F.type_list_index eQ P (pac Q yh N) x ?_ hline O rfl;rw[O];rfl
def lC:yT X (.builtin "isinstance") (Qi X.K):=by
 intro pins s σ H vs us Q I r h;obtain⟨a,oe,C,R,S,b,Kc,rfl,P,O,sub,F,hd,hk,q⟩:=h;cases r with
 |cons r1 x=>
  cases x with
  |cons x N=>
   cases N;cases r1;rw[hd _ x];exact kia_one (aS F O) (sub.inn I.kIn) (I.B a _ P).1 hk (λz=>nomatch z) λtk=>⟨.f b,H,I.tok tk,rfl,q⟩
def T5(O:Gl X c)(N:X.d c=some (.ref D))(x:(c == ("__debug__":Str))=false):PE X (.Name c p) (tC (.c D)):=λpins s σ H Q I h=>xU I O N ⟨.c D,H,I,rfl,h⟩ x
def Tu(R:Gl X c)(P:X.d c=none)(N:Cg c=some (.type n))(O:c≠"__name__")(x:(c == ("__debug__":Str))=false):PE X (.Name c p) (tC (.k n)):=λpins s σ H Q I h=>rJ I R P N ⟨.k n,H,I,rfl,h⟩ O x
end L2
end
section
namespace L2
open PySem PySem.W PySem.Spec PySem.Calls PyProof PyProof.Rows
def uK(sc:Scope):List Str->List Expr->Bool
 |[],es=>es.isEmpty
 |c::cs,es=>M.lc es λe es=>(M.eCN e λf O=>M.lc O λa N=>M.l1 N λb=>M.eName a λy _=>M.eName b λx _=>decide (f="isinstance")&&decide (y="_law_e")&&decide (x=c)&&decide (sc.names.lookup c=some .globalImplicit)&&!(c == ("__debug__":Str)))&&uK sc cs es
def rB:List Str->List Expr->Bool
 |[],es=>es.isEmpty
 |w::ws,es=>M.lc es λe es=>(M.Yy e λc _ _=>decide (c=.str w))&&rB ws es
noncomputable def adr(mg:Str->Option Value)(c:Str):Addr:=match mg c with|some (.ref D)=>D|_=>0
def d9(h:mg c=some (.ref D)):adr mg c=D:=by unfold adr;rw[h]
def YA(K:Ab)(x:V):TE:=tCB (Qi K) (xa (xf 0) (xa (tC x) tY))
def iN(K:Ab)(mg:Str->Option Value):List Str->TA
 |[]=>tY
 |c::cs=>xa (YA K (.c (adr mg c))) (iN K mg cs)
def kL:List Str->TA
 |[]=>tY
 |w::ws=>xa (tC (.e w)) (kL ws)
structure KB(X:Cx)(sc:Scope):Prop where
 d:X.a.scope=sc
 l:X.N.Nodup
 n0:X.N[0]?=some ("_law_e":Str)
 j:X.N[1]?=some ("_law_marks":Str)
 n2:X.N[2]?=some ("_law_words":Str)
 l0:sc.names.lookup ("_law_e":Str)=some .local
 g:sc.names.lookup ("_law_marks":Str)=some .local
 i:sc.names.lookup ("_law_words":Str)=some .local
 gi:sc.names.lookup ("isinstance":Str)=some .globalImplicit
 gv:sc.names.lookup ("ValueError":Str)=some .globalImplicit
 mi:X.d "isinstance"=none
 mv:X.d "ValueError"=none
structure KS(K Kc:Ab)(C a:Addr)(oe:Obj)(H0:Hp)(σ:St)(H:Hp):Prop where
 c:σ[0]?=some (some (.c a))
 d:H a=some (.d oe (.e 0))
 e:oe.cls=.ref C
 F:uD Kc C
 b:tw Kc K
 f:wC H0 H
def KB.gl(B:KB X sc)(h:sc.names.lookup x=some .globalImplicit):Gl X x:=by show X.a.scope.names.lookup x=_;rw[B.d];exact h
def KB.vis(B:KB X sc)(h:sc.names.lookup x=some .local):Vis X.a.scope x:=by rw[B.d];exact .inl h
def KB.QO(B:KB X sc):PE X (.Name "_law_e" p) (xf 0):=xV B.n0 (B.vis B.l0) (by decide) (by decide)
def KB.Tx(B:KB X sc):PE X (.Name "_law_marks" p) (xf 1):=xV B.j (B.vis B.g) (by decide) (by decide)
def KB.Ph(B:KB X sc):PE X (.Name "_law_words" p) (xf 2):=xV B.n2 (B.vis B.i) (by decide) (by decide)
def KB.QR(B:KB X sc)(O:sc.names.lookup c=some .globalImplicit)(x:(c == ("__debug__":Str))=false)(N:X.d c=some (.ref D)):PE X (.Call (.Name "isinstance" p1) [.Name "_law_e" p2,.Name c p3] [] p4) (YA X.K (.c D)):=
 sO lC (B.gl B.gi) B.mi boot_isinstance (yO B.QO (yO (T5 (B.gl O) N x) yh))
def KB.Tw(B:KB X sc):PE X (.Call (.Name "isinstance" p1) [.Name "_law_e" p2,.Name "ValueError" p3] [] p4) (YA X.K (.k "ValueError")):=
 sO lC (B.gl B.gi) B.mi boot_isinstance (yO B.QO (yO (Tu (B.gl B.gv) B.mv (by first|rfl|decide +kernel) (by decide) (by decide)) yh))
theorem KB.isl(B:KB X sc):∀{cs} {es},uK sc cs es=true->(∀c∈cs,∃D,X.d c=some (.ref D))->PA X es (iN X.K X.d cs)
 |[],es,h,_=>by cases AN.mp h;exact yh
 |c::cs,es,h,hm=>by replace h:=M.yA h;obtain⟨e,es,rfl,h⟩:=h;obtain⟨h0,O⟩:=M.zN h;replace h0:=M.yy h0;obtain⟨f,p1,S,p4,rfl,h0⟩:=h0;replace h0:=M.aT h0;obtain⟨a,b,rfl,h0⟩:=h0;replace h0:=M.zq h0;obtain⟨y,p2,rfl,h0⟩:=h0;replace h0:=M.zq h0;obtain⟨x,p3,rfl,h0⟩:=h0;clear h;simp only[cf,decide_eq_true_eq,As]at h0;obtain⟨⟨⟨⟨rfl,rfl⟩,rfl⟩,Q⟩,P⟩:=h0;obtain⟨D,hD⟩:=hm _ (Ar ..);refine yO ?_ (KB.isl B O λR N=>hm R (Ag _ N));rw[d9 hD];exact B.QR Q P hD
theorem SX:∀{ws} {es},rB ws es=true->PA X es (kL ws)
 |[],es,h=>by cases AN.mp h;exact yh
 |w::ws,es,h=>by replace h:=M.yA h;obtain⟨e,es,rfl,h⟩:=h;obtain⟨h0,x⟩:=M.zN h;obtain⟨c,k,p,rfl,h1⟩:=M.qi h0;obtain rfl:=of_decide_eq_true h1;exact yO rO (SX x)
def bp{K:Ab}(S:KS K Kc C a oe H0 σ H)(hd:∀u,RelV dv u->u=du)(hk:kitOne Kc (.ref C) du=some b)(q:Q (.f b) H):YA K dv σ H Q:=
 ⟨_,S.c,a,oe,C,dv,du,b,Kc,rfl,S.d,S.e,S.b,S.F,hd,hk,q⟩
theorem nz{K:Ab}(S:KS K Kc C a oe H0 σ H)(b:Str->Bool):∀{cs} {Q},(∀c∈cs,kitOne Kc (.ref C) (.ref (adr mg c))=some (b c))->Q (cs.map λc=>.f (b c)) H->iN K mg cs σ H Q
 |[],_,_,q=>q
 |c::cs,Q,hk,q=>bp S (λu z=>z) (hk c (Ar ..)) (nz S b (λN x=>hk N (Ag _ x)) q)
theorem pY:∀{ws} {Q},Q (ws.map V.e) H->kL ws σ H Q
 |[],_,q=>q
 |w::ws,Q,q=>pY (ws:=ws) q
def xY(h:H p=none):wC H (upd H p o):=λb u e=>by rw[zG (zR e h)];exact e
def KS.new{K:Ab}(S:KS K Kc C a oe H0 σ H)(h:H p=none):KS K Kc C a oe H0 σ (upd H p o):=⟨S.c,xY h _ _ S.d,S.e,S.F,S.b,S.f.trans (xY h)⟩
def KS.put{K:Ab}(S:KS K Kc C a oe H0 σ H):KS K Kc C a oe H0 (σ.set (i+1) (some v)) H:=⟨by rw[Bk ⋯];exact S.c,S.d,S.e,S.F,S.b,S.f⟩
def Xq{K:Ab}{b:Str->Bool}(S:KS K Kc C a oe H0 σ H)(N:3<=σ.length)(hz:cs.length<=1000)(hk:∀c∈cs,kitOne Kc (.ref C) (.ref (adr mg c))=some (b c))
 (q:∀p x H',KS K Kc C a oe H0 x H'->x.length=σ.length->x[1]?=some (some (.c p))->H' p=some (.b (cs.map λc=>.f (b c)))->D.a x H'):uv (iO (iN K mg cs)) (xh 1) D σ H:=
 nz S b hk ⟨by rw[Ak,AK];omega,λp hp=>q p _ _ (S.new hp).put (by simp) (by rw[AJ ⋯]) zJ⟩
def mD{K:Ab}{b:Str->Bool}(S:KS K Kc C a oe H0 σ H)(P:3<=σ.length)(h1:σ[1]?=some (some (.c p0)))(O:H p0=some (.b (ds.map λc=>.f (b c))))(hz:ds.length+cs.length<=1000)(hk:∀c∈cs,kitOne Kc (.ref C) (.ref (adr mg c))=some (b c))
 (q:∀p x H',KS K Kc C a oe H0 x H'->x.length=σ.length->x[1]?=some (some (.c p))->H' p=some (.b ((ds++cs).map λc=>.f (b c)))->D.a x H'):uv (tOp WQ (xf 1) (iO (iN K mg cs))) (xh 1) D σ H:=by
 refine⟨_,h1,nz S b hk ⟨by rw[Ak,AK];omega,λp1 N=>⟨p0,p1,_,_,rfl,rfl,by rw[zG (zR O N)];exact O,zJ,by rw[Ak,Ak,AK];omega,λp hp=>?_⟩⟩⟩
 refine q p _ _ ((S.new N).new hp).put (by simp) (by rw[AJ ⋯]) ?_
 rw[zJ,Dg]
noncomputable def ans(pre:Option Str)(w:Str):Str:=match pre with|none=>w|some x=>x++w
def Qg:R2:=λx y H Q=>∃i j,x=.e i/\y=.e j/\i.length+j.length<=Ap/\Q (.e (i++j)) H
def gy(K:Ab)(ws2:List Str):TE:=tOp (SK K) (tOp WQ (xf 2) (iO (kL ws2))) (tBM K "list" (mW K) (xf 1) (xa (tC (.f true)) tY))
def iP(K:Ab)(pre:Option Str)(ws2:List Str):TE:=match pre with
 |none=>gy K ws2
 |some x=>tOp Qg (tC (.e x)) (gy K ws2)
def tMk(K:Ab)(mg:Str->Option Value)(cs:List Str):TS:=uv (tOp WQ (xf 1) (iO (iN K mg cs))) (xh 1)
def Vd(K:Ab)(mg:Str->Option Value)(P O N x ws1 ws2:List Str)(pre:Option Str)(odd:Str):TS:=
 oN (uv (iO (iN K mg P)) (xh 1)) (oN (tMk K mg O) (oN (tMk K mg N) (oN (tMk K mg x)
  (oN (Q3 (tOr (Q4 (tB (YA K (.k "ValueError")))) (gz (tOp rNe (tBM K "list" (pQ K false) (xf 1) (xa (tC (.f true)) tY)) (tC (.d 1))))) (dU (tC (.e odd))) Ve)
   (oN (uv (iO (kL ws1)) (xh 2)) (dU (iP K pre ws2)))))))
def KB.pick(B:KB X sc){l2}(x:rB ws2 l2=true)(hline:(ap.endLine == cp.line)=true) :
 PE X (.Subscript (.BinOp (.Name "_law_words" p1) .Add (.List l2 p2) p3) (.Call (.Attribute (.Name "_law_marks" p4) "index" ap) [.Constant (.bool true) k p5] [] cp) p6) (gy X.K ws2):=
 VT gP (l5 jr B.Ph (rN (SX x))) (ey B.Tx ZL (hline:=hline)) (λ_ _=>rfl)
def KB.mks(B:KB X sc){es}(h:uK sc cs es=true)(x:∀c∈cs,∃D,X.d c=some (.ref D)) :
 PS X (.Assign [.Name "_law_marks" p1] (.BinOp (.Name "_law_marks" p2) .Add (.List es p3) p4) p5) (tMk X.K X.d cs):=
 wu B.l B.j (by rw[B.d];exact .inl B.g) (l5 jr B.Tx (rN (B.isl h x))) (hf:=.inr (by rw[B.d];exact B.g))
def aQ(B:KB X sc)
 (h1:uK sc cs1 e1=true) (U:uK sc cs2 e2=true) (S:uK sc cs3 e3=true) (R:uK sc cs4 e4=true) (x:∀c∈cs1++cs2++cs3++cs4,∃D,X.d c=some (.ref D)) (N:rB ws1 l1=true) (hline:(ap.endLine == cp.line)=true) (Q:PE X r (iP X.K pre ws2)) :
 PSs X [.Assign [.Name "_law_marks" a1] (.List e1 a2) a3,.Assign [.Name "_law_marks" b1] (.BinOp (.Name "_law_marks" b2) .Add (.List e2 b3) b4) b5,.Assign [.Name "_law_marks" c1] (.BinOp (.Name "_law_marks" c2) .Add (.List e3 c3) c4) c5,
  .Assign [.Name "_law_marks" d1] (.BinOp (.Name "_law_marks" d2) .Add (.List e4 d3) d4) d5,
  .If (.BoolOp .Or [.UnaryOp .Not (.Call (.Name "isinstance" f1) [.Name "_law_e" f2,.Name "ValueError" f3] [] f4) f5,.Compare (.Call (.Attribute (.Name "_law_marks" f6) "count" ap) [.Constant (.bool true) k1 f7] [] cp) [.NotEq] [.Constant (.int 1) k2 f8] f9] fa) [.Return (some (.Constant (.str odd) k3 fb)) fc] [] fd,
  .Assign [.Name "_law_words" g1] (.List l1 g2) g3,.Return (some r) r1] (Vd X.K X.d cs1 cs2 cs3 cs4 ws1 ws2 pre odd):=by
 have m1:∀c∈cs1,∃D,X.d c=some (.ref D):=λc h=>x c (by simp[h])
 have m2:∀c∈cs2,∃D,X.d c=some (.ref D):=λc h=>x c (by simp[h])
 have P:∀c∈cs3,∃D,X.d c=some (.ref D):=λc h=>x c (by simp[h])
 have O:∀c∈cs4,∃D,X.d c=some (.ref D):=λc h=>x c (by simp[h])
 refine zr (wu B.l B.j (by rw[B.d];exact .inl B.g) (rN (B.isl h1 m1)) (hf:=.inr (by rw[B.d];exact B.g))) (zr (B.mks U m2) (zr (B.mks S P) (zr (B.mks R O) (zr ?_ (zr
  (wu B.l B.n2 (by rw[B.d];exact .inl B.i) (rN (SX N)) (hf:=.inr (by rw[B.d];exact B.i))) (we (wq Q)))))))
 exact nD (Qc (j6 (SH B.Tw)) (SI (qS VO (nA B.Tx ZL (hline:=hline)) ZW (pF _ (by decide) (by decide))))) (we (wq rO)) qR
def i7{cs:List Str}{b:Str->Bool}:(cs.map λc=>V.f (b c)).all wb=true:=by rw[List.all_map,Ay];intro _ _;rfl
def av{cs:List Str}(nd:cs.Nodup)(x:c0∈cs):((cs.map λc=>V.f (decide (c=c0))).countP λz=>eqV z (.f true))=1:=by
 rw[List.countP_map];have e:((λz=>eqV z (.f true))∘λc=>V.f (decide (c=c0)))=λc:Str=>c == c0:=by
  funext c;by_cases z:c=c0
  . subst z;simp[eqV]
  . simp[eqV,z]
 rw[e];have h1:cs.count c0<=1:=List.nodup_iff_count.mp nd c0;have N:0<cs.count c0:=List.count_pos_iff.mpr x;show cs.count c0=1;omega
def XO{cs:List Str}(nd:cs.Nodup)(hi:cs[i]?=some c0):(cs.map λc=>V.f (decide (c=c0))).findIdx? (λz=>eqV z (.f true))=some i:=by
 obtain⟨h1,x⟩:=Au.mp hi;rw[Ei];refine⟨by rw[Ak];exact h1,by rw[List.getElem_map,x];simp[eqV],λj N=>?_⟩
 rw[List.getElem_map];have:cs[j]≠c0:=λz=>by rw[<-x]at z;exact absurd ((List.getElem_inj nd).mp z) ⋯
 simp[eqV,this]
def aR{K:Ab}{i:Nat}(S:KS K Kc C a oe H0 σ H)(hl:3<=σ.length)(nd:(cs1++cs2++cs3++cs4).Nodup)(hz:(cs1++cs2++cs3++cs4).length<=100)(Y:(ws1++ws2).length<=100)
 (hi:(cs1++cs2++cs3++cs4)[i]?=some c0) (hw:(ws1++ws2)[i]?=some w) (hwl:w.length<=100) (Z:∀x,pre=some x->x.length<=100) (hk:∀c∈cs1++cs2++cs3++cs4,kitOne Kc (.ref C) (.ref (adr mg c))=some (decide (c=c0))) (hv:kitOne Kc (.ref C) (.type "ValueError")=some true)
 (q:∀H',wC H0 H'->D.b (.e (ans pre w)) H'):Vd K mg cs1 cs2 cs3 cs4 ws1 ws2 pre odd D σ H:=by
 simp only[An]at hz Y;have k1:∀c∈cs1,kitOne Kc (.ref C) (.ref (adr mg c))=some (decide (c=c0)):=λc h=>hk c (by simp[h])
 have k2:∀c∈cs2,kitOne Kc (.ref C) (.ref (adr mg c))=some (decide (c=c0)):=λc h=>hk c (by simp[h])
 have k3:∀c∈cs3,kitOne Kc (.ref C) (.ref (adr mg c))=some (decide (c=c0)):=λc h=>hk c (by simp[h])
 have k4:∀c∈cs4,kitOne Kc (.ref C) (.ref (adr mg c))=some (decide (c=c0)):=λc h=>hk c (by simp[h])
 refine Xq (b:=λc=>decide (c=c0)) S hl ⋯ k1 λp1 σ1 H1 S1 n1 e1 q1=>?_
 refine mD (b:=λc=>decide (c=c0)) (ds:=cs1) S1 ⋯ e1 q1 ⋯ k2 λp2 σ2 H2 S2 n2 e2 q2=>?_
 refine mD (b:=λc=>decide (c=c0)) (ds:=cs1++cs2) S2 ⋯ e2 q2 (by rw[An];omega) k3 λp3 σ3 H3 S3 n3 e3 q3=>?_
 refine mD (b:=λc=>decide (c=c0)) (ds:=cs1++cs2++cs3) S3 ⋯ e3 q3 (by rw[An,An];omega) k4 λp4 N H4 S4 n4 e4 W=>?_
 have U:c0∈cs1++cs2++cs3++cs4:=A5 hi;refine bp S4 (λu z=>z) hv ⟨true,rfl,?_⟩;refine tM ?_;refine⟨_,e4,?_,p4,_,.f true,rfl,rfl,.inl (.inl W),rfl,i7,rfl,_,rfl,?_⟩
 . exact .inl ⟨rfl,_,.inl (.inl W)⟩
 rw[av nd U];refine tM ?_;refine pY ⟨by rw[Ak,AK];omega,λp5 R=>?_⟩
 have S5:KS K Kc C a oe H0 (N.set 2 (some (.c p5))) (upd H4 p5 (.b (ws1.map V.e))):=(S4.new R).put;have e5:(N.set 2 (some (V.c p5)))[1]?=some (some (.c p4)):=by rw[Bk ⋯];exact e4
 have q5:upd H4 p5 (.b (ws1.map V.e)) p4=some (.b ((cs1++cs2++cs3++cs4).map λc=>V.f (decide (c=c0)))):=by rw[zG (zR W R)];exact W
 have pick:∀Q:VK,(∀H',wC H0 H'->Q (.e w) H')->gy K ws2 (N.set 2 (some (.c p5))) (upd H4 p5 (.b (ws1.map V.e))) Q:=λQ hQ=>by
  refine⟨_,by rw[AJ ⋯],pY ⟨by rw[Ak,AK];omega,λp6 O=>⟨p5,p6,_,_,rfl,rfl,by rw[zG (zR zJ O)];exact zJ,zJ,by rw[Ak,Ak,AK];omega,λp7 P=>?_⟩⟩⟩
  have q6:=xY (o:=.b (ws1.map V.e++ws2.map V.e)) P _ _ (xY (o:=.b (ws2.map V.e)) O _ _ q5);refine⟨_,e5,.inl ⟨rfl,_,.inl (.inl q6)⟩,p4,_,.f true,i,rfl,rfl,.inl (.inl q6),rfl,i7,XO nd hi,p7,_,i,.e w,rfl,rfl,.inl (.inl zJ),?_,hQ _ ((S5.f.trans (xY O)).trans (xY P))⟩;obtain⟨h1,h2⟩:=Au.mp hw;rw[An]at h1;unfold atI ixN;rw[<-Dg,if_pos ⋯,Ak,An,if_pos ⋯]
  show (Et V.e (ws1++ws2))[(i:Int).toNat]?=_;rw[Dk,A1,hw];rfl
 cases pre with
 |none=>exact pick _ q
 |some x=>
  refine pick _ λH' sm=>⟨x,w,rfl,rfl,?_,q H' sm⟩;have:=Z x rfl;rw[AK];omega
noncomputable def kN:List Str:=["_law_e","_law_marks","_law_words"]
inductive dm(sc:Scope)(cs ws:List Str)(pre:Option Str)(body:List Stmt):Prop
 |mk (cs1 cs2 cs3 cs4 ws1 ws2:List Str) (odd:Str) (e1 e2 e3 e4 l1 l2:List Expr) (r s:Expr) (a1 a2 a3 b1 b2 b3 b4 b5 c1 c2 c3 c4 c5 d1 d2 d3 d4 d5 f1 f2 f3 f4 f5 f6 f7 f8 f9 fa fb fc fd g1 g2 g3 ap cp r1 q1 q2 q3 q4 q5 q6 ap2 cp2 t1 t2:Pos) (k1 k2 k3 k4 k5:Nat)
  (hb:body=[.Assign [.Name "_law_marks" a1] (.List e1 a2) a3,.Assign [.Name "_law_marks" b1] (.BinOp (.Name "_law_marks" b2) .Add (.List e2 b3) b4) b5,.Assign [.Name "_law_marks" c1] (.BinOp (.Name "_law_marks" c2) .Add (.List e3 c3) c4) c5,
   .Assign [.Name "_law_marks" d1] (.BinOp (.Name "_law_marks" d2) .Add (.List e4 d3) d4) d5,
   .If (.BoolOp .Or [.UnaryOp .Not (.Call (.Name "isinstance" f1) [.Name "_law_e" f2,.Name "ValueError" f3] [] f4) f5,.Compare (.Call (.Attribute (.Name "_law_marks" f6) "count" ap) [.Constant (.bool true) k1 f7] [] cp) [.NotEq] [.Constant (.int 1) k2 f8] f9] fa) [.Return (some (.Constant (.str odd) k3 fb)) fc] [] fd,
   .Assign [.Name "_law_words" g1] (.List l1 g2) g3,.Return (some r) r1])
  (hs:s=.Subscript (.BinOp (.Name "_law_words" q1) .Add (.List l2 q2) q3) (.Call (.Attribute (.Name "_law_marks" q4) "index" ap2) [.Constant (.bool true) k4 q5] [] cp2) q6)
  (hr:match pre with|none=>r=s|some x=>r=.BinOp (.Constant (.str x) k5 t1) .Add s t2)
  (hc:(uK sc cs1 e1&&uK sc cs2 e2&&uK sc cs3 e3&&uK sc cs4 e4&&rB ws1 l1&&rB ws2 l2&&(ap.endLine == cp.line)&&(ap2.endLine == cp2.line))=true) (h1:cs=cs1++cs2++cs3++cs4) (h2:ws=ws1++ws2)
structure nS(K:Ab)(mg:Str->Option Value)(x:Str)(cs ws:List Str)(pre:Option Str):Prop where
 ex:∃(st:Stmt) (f:Addr) (fd:BA),mg x=some (.ref f)/\Fun K x x st f fd/\x9 kN ["_law_e"] (zD st)/\Binds K fd ["_law_e"] []/\dm (zD st) cs ws pre (z9 st) /\
  ((zD st).names.lookup ("_law_e":Str)=some .local/\(zD st).names.lookup ("_law_marks":Str)=some .local/\(zD st).names.lookup ("_law_words":Str)=some .local/\(zD st).names.lookup ("isinstance":Str)=some .globalImplicit/\(zD st).names.lookup ("ValueError":Str)=some .globalImplicit)
 b:∀c∈cs,∃D,mg c=some (.ref D)
 mi:mg "isinstance"=none
 mv:mg "ValueError"=none
 nd:cs.Nodup
 hz:cs.length<=100
 a:ws.length<=100
 hw:∀w∈ws,w.length<=100
 hp:∀x,pre=some x->x.length<=100
structure Vp(Kc:Ab)(mg:Str->Option Value)(cs:List Str)(C:Addr)(c0:Str):Prop where
 F:uD Kc C
 a:∀c∈cs,kitOne Kc (.ref C) (.ref (adr mg c))=some (decide (c=c0))
 ve:kitOne Kc (.ref C) (.type "ValueError")=some true
def Named(K:Ab)(mg:Str->Option Value)(cs:List Str)(C:Addr)(c0:Str):Prop:=∃Kc,tw Kc K/\Vp Kc mg cs C c0
def tKC(K:Ab)(mg:Str->Option Value)(cs ws:List Str)(pre:Option Str)(ie:Nat):TE:=λσ H Q=>∃(a:Addr) (oe:Obj) (C:Addr) (c0:Str) (i:Nat) (w:Str),σ[ie]?=some (some (.c a))/\H a=some (.d oe (.e 0))/\oe.cls=.ref C/\Named K mg cs C c0 /\
 cs[i]?=some c0/\ws[i]?=some w/\∀H',wC H H'->Q (.e (ans pre w)) H'
def fz(F:nS X.K X.d x cs ws pre)(hdp:X.A.depth<Co)(hg:Gl X x)(hdb:(x == ("__debug__":Str))=false)(hN:X.N[ie]?=some e)(hv:Vis X.a.scope e)(hd1:(e == ("__debug__":Str))=false)(hd2:(e == ("__classdict__":Str))=false) :
 PE X (.Call (.Name x p) [.Name e p2] [] pos) (tKC X.K X.d cs ws pre ie):=by
 rintro pins s σ H Q I ⟨a,oe,C,c0,i,w,h0,ha,hc,nm,hi,hw,q⟩;obtain⟨st,f,fd,hm,Fn,S,hb,sh,hl0,hl1,hl2,hgi,hgv⟩:=F.ex;refine BP (xU I hg hm ?_ hdb);have hpa:PA X [.Name e p2] (xa (xf ie) tY):=yO (xV hN hv hd1 hd2) yh;refine Dc (h₀:=X.h) I.C.i.a Fn.b (thn (hpa pos pins s σ H (λvs H1=>vs=[V.c a]/\H1=H) I ⟨_,h0,rfl,rfl⟩) λus s1 ⟨vs,H1,I1,r,hvs,hH⟩=>⟨I1.kIn,?_⟩);subst hvs hH;obtain⟨oc,od,kV,doc,pm,an,cdv,ct,osl,rfl,lk,hcd⟩:=Fn.a;have hl:us.length=1:=by rw[<-r.length];rfl
 have Y:=hb s1 us I1.kIn (by rw[A4];exact hl)
 rw[A4]at Y;refine C9 (CY (ql (CX:=CX0) (E:=E0) (R:=CR CX0 X.g X.f X.w H1 s1 Q E0) (N:=kN) lk hcd S hdp I1.v7 Y rfl r λs2 I2 _=>?_) λr s' U=>?_)
 . have I3:=I2.loud (A':=X.A.deeper (envOfC x (zD st) s1.heap.objs.size f cdv)) (EJ I1.v7.a)
   have B:KB ((yo CX0 X.f X.w X.K X.d X.h kN x (zD st) f cdv {X.A with handled:=none} X.g s1 H1 E0).loud (X.A.deeper (envOfC x (zD st) s1.heap.objs.size f cdv))).nox (zD st):=
    ⟨rfl,S.b,rfl,rfl,rfl,hl0,hl1,hl2,hgi,hgv,F.mi,F.mv⟩
   obtain⟨cs1,cs2,cs3,cs4,ws1,ws2,odd,e1,e2,e3,e4,l1,l2,rr,ss,a1,a2,a3,b1,b2,b3,b4,b5,c1,c2,c3,c4,c5,d1,d2,d3,d4,d5,f1,f2,f3,f4,f5,f6,f7,f8,f9,fa,fb,fc,fd,g1,g2,g3,ap,cp,r1,q1,q2,q3,q4,q5,q6,ap2,cp2,t1,t2,k1,k2,k3,k4,k5,O,P,hr,W,hcs,Z⟩:=sh;simp only[cf]at W;obtain⟨⟨⟨⟨⟨⟨⟨y1,y2⟩,y3⟩,y4⟩,y5⟩,y6⟩,y7⟩,y8⟩:=W;subst hcs Z P;have hpe:PE ((yo CX0 X.f X.w X.K X.d X.h kN x (zD st) f cdv {X.A with handled:=none} X.g s1 H1 E0).loud (X.A.deeper (envOfC x (zD st) s1.heap.objs.size f cdv))).nox rr (iP X.K pre ws2):=by
    cases pre with
    |none=>subst hr;exact B.pick y6 y8
    |some x=>subst hr;exact l5 pJ rO (B.pick y6 y8)
   have t:=aQ B (a1:=a1) (a2:=a2) (a3:=a3) (b1:=b1) (b2:=b2) (b3:=b3) (b4:=b4) (b5:=b5) (c1:=c1) (c2:=c2) (c3:=c3) (c4:=c4) (c5:=c5) (d1:=d1) (d2:=d2) (d3:=d3) (d4:=d4) (d5:=d5) (f1:=f1) (f2:=f2) (f3:=f3) (f4:=f4) (f5:=f5) (f6:=f6) (f7:=f7) (f8:=f8) (f9:=f9) (fa:=fa) (fb:=fb) (fc:=fc) (fd:=fd) (g1:=g1) (g2:=g2) (g3:=g3) (ap:=ap) (cp:=cp) (r1:=r1) (k1:=k1) (k2:=k2) (k3:=k3) (odd:=odd) (pre:=pre) (ws2:=ws2) y1 y2 y3 y4 F.b y5 y7 hpe;unfold ir;rw[O];obtain⟨Kc,sub,nm⟩:=nm;have KS0:KS X.K Kc C a oe H1 (start kN [.c a]) H1:=⟨rfl,ha,hc,nm.F,sub,wC.refl _⟩;refine AF (t [] s2 (start kN [.c a]) H1 {a:=λ_ _=>False,b:=Q} (I3.wZ _) (aR KS0 (show 3<=3 from Aa _) F.nd F.hz F.a hi hw (F.hw _ (A5 hw)) F.hp nm.a nm.ve λH' sm=>q H' sm)) (λfl s' P=>?_) λ_ _ z=>Av z;cases fl with
   |ret u=>
    obtain⟨v,σ',H',J,rv,q'⟩:=P;exact⟨v,H',J.R,J.F,J.j,J.B,rv,q'⟩
   |next=>obtain⟨_,_,_,z⟩:=P;exact Av z
   |brk=>obtain⟨_,_,_,z⟩:=P;exact Av z
   |cont=>obtain⟨_,_,_,z⟩:=P;exact Av z
 . cases r with
   |error e=>exact Av U
   |ok fl=>
    cases fl with
    |ret u=>exact I1.after U
    |next=>exact Av U
    |brk=>exact Av U
    |cont=>exact Av U
structure oQ(outer:List Env)(h:Heap)(H:Hp)(lf c:Addr)(qual:Str)(body:Expr)(lsc:Scope)(cl:List (Str × Addr))(pm ctv:Value)(N:List Str)(σ:St):Prop where
 ob:h.get? lf=some (kla_obj "<lambda>" qual noArgs body lsc cl pm c ctv)
 nl:H lf=none\/H lf=some (.d (kla_obj "<lambda>" qual noArgs body lsc cl pm c ctv) (.e 0))
 fl:lf ∉ frs outer
 cd:∃(o:Obj) (vs:Array Value) (t:Tok),H c=some (.d o (.e 0))/\o.data=.fields vs/\vs[1]?=some (.str qual t)
 e:∀x y b,cl.lookup x=some b->cl.lookup y=some b->x=y
 d:∀x,lsc.names.lookup x=some .free->∃b,cl.lookup x=some b
 a:∀x b,cl.lookup x=some b->(∃v,h.IsCell b v)/\H b=none
 g:∀(i:Nat) (x:Str) (v:V),N[i]?=some x->σ[i]?=some (some v)->lsc.names.lookup x=some .free->∃u b,RelV v u/\cl.lookup x=some b/\h.IsCell b (some u)
 f:σ.length=N.length
 kd:lsc.kind=.function
 co:lsc.isCoroutine=false
 gn:lsc.isGenerator=false
 nm:∀x∈lsc.names,x.2≠.cell/\x.2≠.local
def aX{X:Cx}{ic:Nat}(L:oQ X.k X.l.heap X.r lf c qual body lsc cl pm ctv N σ)(hxn:X.m=[])(hdp:X.A.depth<Co)(hh:X.A.handled=none)
 (hN:X.N[ic]?=some ("_law_call":Str)) (hv:Vis X.a.scope "_law_call")
 (W:∀s' H',PE (qh (CXE X.f X.w) X.f X.w X.K X.d X.h N qual lsc lf (.ref c) cl X.A X.g s' H' EE) body tb) :
 PE (X.wZ (XC X EE)) (.Call (.Name "_law_call" p) [] [] pos) (λS H1 Q=>S[ic]?=some (some (.c lf))/\tb σ H1 Q):=by
 rintro pins s1 S H1 Q I ⟨h0,U⟩;have hpe:PE (X.wZ (XC X EE)) (.Name "_law_call" p) (xf ic):=xV hN hv (by decide) (by decide)
 refine BP (thn (hpe pins s1 S H1 (λv H2=>v=V.c lf/\H2=H1) I ⟨_,h0,rfl,rfl⟩) λu s2 zn=>?_);obtain⟨v,H2,Y,r,hv2,hH2⟩:=zn;subst hv2 hH2;cases r;have un:Un (frs X.k) [] X.r H2 X.l.heap s2.heap:=by have:=Y.j;rw[show (X.wZ (XC X EE)).m=[] from hxn]at this;exact this
 have Z:s2.heap.get? lf=some (kla_obj "<lambda>" qual noArgs body lsc cl pm c ctv):=by
  rcases L.nl with z|z
  . exact un.f _ _ L.ob z L.fl (by simp)
  . exact(Y.B lf _ (un.g lf _ _ z)).1
 have cr2:s2.heap.CodeRec (.ref c) qual:=by obtain⟨o,vs,t,q1,q2,q3⟩:=L.cd;exact⟨c,o,vs,t,rfl,(Y.B c _ (un.g c o _ q1)).1,q2,q3⟩
 have O:∀b v,X.l.heap.IsCell b v->X.r b=none->s2.heap.IsCell b v:=λb v ⟨o,e,d⟩ n=>by
  by_cases f:b∈frs X.k
  . obtain⟨sl,e1⟩:=un.i b o e n f (by simp)
    exact⟨_,e1,d⟩
  . exact⟨o,un.f b o e n f (by simp),d⟩
 refine callWith_of (P:=λh=>h.get? lf=some (kla_obj "<lambda>" qual noArgs body lsc cl pm c ctv)) rfl (λh e=>⟨.frame,.inl rfl,(Looks.ld (part:=none) e).andThen .now⟩) (evalArgs_nil3 ⟨Z,?_⟩);refine C9 (CY (Xn (CX:=CXE X.f X.w) (E:=EE) (R:=CR (CXE X.f X.w) X.g X.f X.w H2 s2 Q EE) (N:=N) (σ:=σ) hdp hh Y.v7 Z cr2 L.kd L.co L.gn L.nm L.e L.d (λx b e=>?_) (λi x v e1 e2 e3=>?_) L.f λs3 I3=>?_) λr s' U=>?_)
 . obtain⟨⟨v,z⟩,n⟩:=L.a x b e
   obtain⟨o,eo,_⟩:=id z;exact⟨⟨v,O b v z n⟩,un.d b o eo n (by simp)⟩
 . obtain⟨u,b,q1,q2,q3⟩:=L.g i x v e1 e2 e3
   obtain⟨_,n⟩:=L.a x b q2;exact⟨u,b,q1,q2,O b _ q3 n⟩
 . refine AF (W s2 H2 [] s3 σ H2 Q I3 U) (λu s' zn=>?_) λe s' z=>z
   obtain⟨v,H',J,rv,q⟩:=zn;exact⟨v,H',J.R,J.F,J.j,J.B,rv,q⟩
 . cases r with
   |error e=>
    obtain⟨a,cls,dd,H',rfl,fl,hE⟩:=U;exact⟨a,cls,dd,S,H2,s2,H',rfl,Y.xF.mT λp hp=>absurd hp (by simp),fl,hE⟩
   |ok fl=>
    cases fl with
    |ret u=>exact Y.after U
    |next=>exact Av U
    |brk=>exact Av U
    |cont=>exact Av U
end L2
end
section
namespace L2
open PySem PySem.W PySem.Spec PyProof PyProof.Rows
open Sem (wp)
section
variable {prog:Program}{w:World}{A:Around}{E:Value->Shared->Prop}{h:Heap}{g:Array GenState}{d:Drawn}{t:Nat}{os:OsState}{a C dx:Addr}{o:Obj}{nm q:Str}{N:Addr}{bs bm:List Value}{sn:List Str}{sub:List Value}{ab:Bool}{col:Option Bool}{dd:Option Addr}{k0 k1 k2 k3 k5:Option Value}{newId:String}{K:Ab}{f:Str}{mA:Str->Option Value}{v:Value}
def kR(O:findIn K (.ref C) f=some none)(X:K.In h)(hx:h.get? a=some o)(P:o.cls=.ref C)(x:∀c,o.data≠.cls c)(hd:o.dict=some dx)(U:h.Ns dx mA)(R:mA f=some v)(hC:h.get? C=some (AV nm q C N bs bm true sn sub ab col dd k0 k1 k2 k3 k5 newId))(S:Q (.done (.ret v)) ⟨h,g,d,t,os⟩) :
 wpAny (model prog w) A (Builtin.«object.__getattribute__» ⟨[.ref a,.str f tk],[]⟩) Q E ⟨h,g,d,t,os⟩:=by
 have W:=D1 (M:=model prog w) X O;unfold Builtin.«object.__getattribute__»
 repeat (any_goals (first|assumption|(with_reducible refine AG hx ?_;rw[P])|with_reducible refine W.at ?_|wp_step))
 split
 . rename_i c hcd
   exact absurd hcd (x c)
 unfold instanceDict
 repeat (first|(with_reducible refine AG hx ?_;rw[P])|with_reducible refine AG hC ?_|wp_step)
 rw[hd]
 repeat (first|(with_reducible refine wpAny_nsGet U ?_;rw[R])|wp_step)
 exact S
def ig(F:uD K C)(O:findIn K (.ref C) f=some none)(X:K.In h)(hx:h.get? a=some o)(P:o.cls=.ref C)(x:∀c,o.data≠.cls c)(hd:o.dict=some dx)(U:h.Ns dx mA)(Q:mA f=some v)(hC:h.get? C=some (AV nm q C N bs bm true sn sub ab col dd k0 k1 k2 k3 k5 newId))(S:R (.ok (.ret v)) ⟨h,g,d,t,os⟩) :
 codeAny (model prog w) A (.call (.builtin "BaseException.__getattribute__") ⟨[.ref a,.str f tk],[]⟩) R ⟨h,g,d,t,os⟩:=
 Cm CH.ga.plain PySem.F.entry_bexc_ga (si F X hx P (kR O X hx P x hd U Q hC S))
def YW{fill expr}(F:uD K C)(P:findIn K (.ref C) f=some none)(X:K.In h)(hx:h.get? a=some o)(R:o.cls=.ref C)(O:∀c,o.data≠.cls c)(hd:o.dict=some dx)(Y:h.Ns dx mA)(W:mA f=some v)(hC:h.get? C=some (AV nm q C N bs bm true sn sub ab col dd k0 k1 k2 k3 k5 newId))(hh:handedOut v=pure v)(hq:Q v ⟨h,g,d,t,os⟩) :
 wpAny (model prog w) A (getAttrBy (.ref a) (.str f tk) fill expr) Q E ⟨h,g,d,t,os⟩:=by
 have f3:=CH.ga.bind (.ref a);have U:(expr&&GO (Cb "BaseException.__getattribute__"))=false:=by cases expr<;>rfl
 have x:(Cb "BaseException.__getattribute__" == Cb "object.__getattribute__")=false:=by decide +kernel
 have S:(GO (AH C)&&Cb "BaseException.__getattribute__" == Cb "object.__getattribute__")=false:=by rw[x];rfl
 have Z:=D1 (M:=model prog w) X F.ga;have L2:=D1 (M:=model prog w) X F.gt
 repeat (any_goals (first|assumption|(with_reducible refine AG hx ?_;rw[R])|with_reducible refine Z.at ?_|with_reducible refine L2.at ?_|wp_step))
 refine ig F P X hx R O hd Y W hC ?_
 repeat (any_goals (first|assumption|wp_step))
def dg(F:uD K C)(O:findIn K (.ref C) f=some none)(X:K.In h)(hx:h.get? a=some o)(U:o.cls=.ref C)(x:∀c,o.data≠.cls c)(hd:o.dict=some dx)(R:h.Ns dx mA)(P:mA f=some v)(hC:h.get? C=some (AV nm q C N bs bm true sn sub ab col dd k0 k1 k2 k3 k5 newId))(S:handedOut v=pure v)(W:Q v ⟨h,g,d,t+1,os⟩) :
 wpAny (model prog w) A (getAttr (.ref a) f expr) Q E ⟨h,g,d,t,os⟩:=by
 unfold getAttr
 repeat (any_goals (first|assumption|with_reducible apply YW F O X hx U x hd R P hC S|wp_step))
end
section
variable {X:Cx}
def Wi(K:Ab)(base:Heap)(ie:Nat)(f:Str):TE:=λσ H Q=>∃(a C D d x:Addr) (oe:Obj) (fs:List (Str × V)) (i:Int) (Kc:Ab),σ[ie]?=some (some (.c a))/\H a=some (.d oe (.e 0))/\oe.cls=.ref C/\(∀c,oe.data≠.cls c)/\oe.dict=some d/\H d=some (.m fs)/\fs.lookup f=some (.d i) /\
 uD Kc C/\tw Kc K/\findIn Kc (.ref C) f=some none/\sk base C (.ref D::veM) x/\Q (.d i) H
def T6(hN:X.N[ie]?=some e)(hv:Vis X.a.scope e)(hd1:(e == ("__debug__":Str))=false)(Y:(e == ("__classdict__":Str))=false)(O:BZ (.Name e p) f X.a (eval (.Name e p) X.a)=eval (.Name e p) X.a:=by rfl):PE X (.Attribute (.Name e p) f ap) (Wi X.K X.h ie f):=by
 rintro pins s σ H Q I ⟨a,C,D,d,fI,oe,fs,i,Kc,h0,ha,hc,U,hd,hx,hl,F,sub,W,cG,q⟩;refine Yi O (thn (xV hN hv hd1 Y pins s σ H (λv H1=>v=V.c a/\H1=H) I ⟨_,h0,rfl,rfl⟩) λu s1 zn=>?_);obtain⟨v,H1,P,r,R,hH⟩:=zn;subst R hH;cases r;obtain⟨mA,S,hr⟩:=P.B d _ hx;have x:=hr f;rw[hl]at x;obtain⟨u,hu,ru⟩:∃u,mA f=some u/\RelV (.d i) u:=by
  cases hm:mA f with
  |none=>rw[hm]at x;exact x.elim
  |some u=>rw[hm]at x;exact⟨u,rfl,x⟩
 obtain⟨tk,rfl⟩:=ru;obtain⟨nm,q',N,bs,sn,Z,ab,col,dd,k0,k1,k2,k3,k5,mN,oI,hC,_⟩:=cG.keeps P.bk;obtain⟨h1,g1,d1,t1,os1⟩:=s1;exact dg F W (sub.inn P.kIn) (P.B a _ ha).1 hc U hd S.ns hu hC rfl ⟨.d i,H1,P.tok _,⟨tk,rfl⟩,q⟩
end
end L2
end
section
namespace L2
open PySem PySem.W PySem.Spec PySem.Calls PyProof PyProof.Rows
noncomputable def yC(m:Bool):Str:=if m then "_law_got" else "_law_said"
noncomputable def xX(m:Bool):List Str:=if m then ["_law_call","_law_e"] else ["_law_call","_law_e","_law_word"]
inductive dy(m:Bool)(kx:Str)(body:List Stmt):Prop
 |mk (p1 p2 p3 p4 p5 p6 p7 p8 p9 pa pb q1 q2 q3 q4 q5 q6 q7 q8 r1 r2 r3 r4 r5 r6:Pos) (k1 k2 k3:Nat) (hb:body=if m then
  [.Try [.Return (some (.Call (.Name "_law_call" p1) [] [] p2)) p3] [.ExceptHandler (some (.Name "HueError" p4)) (some "_law_e") [.Return (some (.Call (.Name kx p6) [.Name "_law_e" p7] [] p8)) p9] pa] [] [] pb]
 else [.Try [.Expr (.Call (.Name "_law_call" p1) [] [] p2) p3] [.ExceptHandler (some (.Name "HueError" p4)) (some "_law_e") [.Assign [.Name "_law_word" p5] (.Call (.Name kx p6) [.Name "_law_e" p7] [] p8) p9,
  .Return (some (.IfExp (.Compare (.Name "_law_word" q1) [.Eq] [.Constant (.str "great") k1 q2] q3) (.Tuple [.Name "_law_word" r1,.Attribute (.Name "_law_e" r2) "many" r3,.Attribute (.Name "_law_e" r4) "most" r5] k3 r6) (.Name "_law_word" q4) q5)) q6] pa] [] [] pb,.Return (some (.Constant (.str "told") k2 q7)) q8])
structure dw(K:Ab)(mg:Str->Option Value)(m:Bool)(kx:Str)(f:Addr):Prop where
 a:∃(st:Stmt) (fd:BA),mg (yC m)=some (.ref f)/\Fun K (yC m) (yC m) st f fd/\x9 (xX m) ["_law_call"] (zD st)/\Binds K fd ["_law_call"] []/\dy m kx (z9 st) /\
  (zD st).names.lookup ("_law_call":Str)=some .local/\(zD st).names.lookup ("_law_e":Str)=some .local/\(m=false->(zD st).names.lookup ("_law_word":Str)=some .local)/\(zD st).names.lookup ("HueError":Str)=some .globalImplicit/\(zD st).names.lookup kx=some .globalImplicit
 kd:(kx == ("__debug__":Str))=false
def fW{st}(h:wpAny (model X.f X.w) X.A (exec st X.a) (SP X [] D) E s):wpAny (model X.f X.w) X.A (execs [st] X.a) (SP X [] D) E s:=by
 refine En (thn h λf s1 q=>?_);cases f with
 |next=>exact DM q
 |brk=>exact q
 |cont=>exact q
 |ret u=>exact q
def fX{st st2}(h:wpAny (model X.f X.w) X.A (exec st X.a) (SP X [] {D with a:=t D}) X.i s)(N:PS X st2 t):wpAny (model X.f X.w) X.A (execs [st,st2] X.a) (SP X [] D) X.i s:=by
 refine En (thn h λf s1 q=>?_);cases f with
 |next=>obtain⟨x,H',I,q⟩:=q;exact we N [] s1 x H' D I q
 |brk=>exact q
 |cont=>exact q
 |ret u=>exact q
def Zx{K:Ab}
 (e0:qU P w K mg base A outer s H) (hh:A.handled=none) (hdp:A.depth+1<Co) (S:dw K mg m kx f) (KF:nS K mg kx cs ws pre) (hu:mg "HueError"=some (.ref hue)) (L:oQ outer s.heap H lf c qual body lsc cl pm ctv N σ)
 (Z:∀env s' H',PE (qh (CXE P w) P w K mg base N qual lsc lf (.ref c) cl (A.deeper env) (env::outer) s' H' EE) body tb)
 (hq:tb σ H λv H1=>Q (if m then v else .e "told") H1)
 (hE:∀cls dd H',EE cls dd H'->∃(C:Addr) (c0:Str) (i:Nat) (x:Str),cls=.ref C/\(∃Kc,tw Kc K/\exmOne Kc (.ref C) (.ref hue)=some true)/\Named K mg cs C c0/\cs[i]?=some c0/\ws[i]?=some x/\(((m=false->ans pre x≠"great")/\∀H'',wC H' H''->Q (.e (ans pre x)) H'')\/(m=false/\ans pre x="great"/\∃(D fI d:Addr) (k j:Int) (Kc:Ab),dd=some d/\H' d=some (.m (grF k j))/\uD Kc C/\tw Kc K/\GrK Kc C D/\sk base C (.ref D::veM) fI /\
  ∀H'' p,wC H' H''->H'' p=none->Q (.c p) (upd H'' p (.c [.e "great",.d k,.d j]))))) :
 codeAny (model P w) A (.call (.ref f) ⟨[.ref lf],[]⟩) (CR CX0 outer P w H s Q E0) s:=by
 refine byG λpi O=>?_;obtain⟨st,fd,hm,Fn,Sc,hb,sh,l0,l1,l2,g0,g1⟩:=S.a;refine O ?_;refine byG λpi O=>?_;obtain⟨oc,od,kV,doc,pm',an,cdv,ct,osl,rfl,lk,hcd⟩:=Fn.a;refine O ?_;have KX:K.In s.heap:=e0.c.a.keeps λb o e=>(e0.f b o e).1;have hbt:=hb s [.ref lf] KX rfl;refine ql (CX:=CX0) (E:=E0) (R:=CR CX0 outer P w H s Q E0) (N:=xX m) (vs:=[.c lf]) lk hcd Sc ⋯ e0 hbt rfl (.cons rfl .nil) λs1 I1 _=>?_
 rw[rg hh]at I1;refine byG λpi O=>?_;obtain⟨p1,p2,p3,p4,p5,p6,p7,p8,p9,pa,pb,q1,q2,q3,q4,q5,q6,q7,q8,r1,r2,r3,r4,r5,r6,k1,k2,k3,hbd⟩:=sh;refine O ?_;have hLam:oQ (yo CX0 P w K mg base (xX m) (yC m) (zD st) f cdv A outer s H E0).k (yo CX0 P w K mg base (xX m) (yC m) (zD st) f cdv A outer s H E0).l.heap (yo CX0 P w K mg base (xX m) (yC m) (zD st) f cdv A outer s H E0).r lf c qual body lsc cl pm ctv N σ:=L;have hA:(yo CX0 P w K mg base (xX m) (yC m) (zD st) f cdv A outer s H E0).A.depth=A.depth+1:=rfl;have W:∀{p pos:Pos},PE ((yo CX0 P w K mg base (xX m) (yC m) (zD st) f cdv A outer s H E0).wZ (XC (yo CX0 P w K mg base (xX m) (yC m) (zD st) f cdv A outer s H E0) EE)) (.Call (.Name "_law_call" p) [] [] pos) (λσ1 H1 Q=>σ1[0]?=some (some (.c lf))/\tb σ H1 Q):=λ{p pos}=>
  aX hLam rfl (by rw[hA];exact hdp) hh (by cases m<;>rfl) (.inl l0) λs' H'=>Z _ s' H'
 have n1:(xX m)[1]?=some ("_law_e":Str):=by cases m<;>rfl
 have fin:∀(fl:Flow) (s':Shared),SP (yo CX0 P w K mg base (xX m) (yC m) (zD st) f cdv A outer s H E0) [] {a:=λ_ _=>False,b:=Q} fl s'->CR CX0 outer P w H s Q E0 (.ok (.ret (match fl with|.ret v=>v|_=>.none))) s':=λfl s' hs=>by
  cases fl with
  |ret u=>
   refine byG λpi O=>?_;obtain⟨v,σ',H',J,rv,q'⟩:=hs;refine O ?_;exact⟨v,H',J.R,J.F,J.j,J.B,rv,q'⟩
  |next=>obtain⟨_,_,_,z⟩:=hs;exact Av z
  |brk=>obtain⟨_,_,_,z⟩:=hs;exact Av z
  |cont=>obtain⟨_,_,_,z⟩:=hs;exact Av z
 have kc:∀(a:Addr) {p p2 pos:Pos},PE ((yo CX0 P w K mg base (xX m) (yC m) (zD st) f cdv A outer s H E0).loud ((yo CX0 P w K mg base (xX m) (yC m) (zD st) f cdv A outer s H E0).A.mark (some (.ref a)))).nox (.Call (.Name kx p) [.Name "_law_e" p2] [] pos) (tKC K mg cs ws pre 1):=λa {p p2 pos}=>
  fz KF (by show A.depth+1<_;exact hdp) g1 S.kd n1 (.inl l1) (by decide) (by decide)
 have at_:∀(a:Addr) (x:Str) {p ap:Pos},PE ((yo CX0 P w K mg base (xX m) (yC m) (zD st) f cdv A outer s H E0).loud ((yo CX0 P w K mg base (xX m) (yC m) (zD st) f cdv A outer s H E0).A.mark (some (.ref a)))).nox (.Attribute (.Name "_law_e" p) x ap) (Wi K base 1 x):=λa x {p ap}=>
  T6 n1 (.inl l1) (by decide) (by decide)
 unfold ir;rw[hbd];cases m with
 |true=>
  rw[if_pos rfl];refine AF (fW (X:=yo CX0 P w K mg base (xX true) (yC true) (zD st) f cdv A outer s H E0) (D:={a:=λ_ _=>False,b:=Q}) (YG (EE:=EE) (ts:=dU (tKC K mg cs ws pre 1)) (ie:=1) I1 rfl rfl Sc.b l1 n1 rfl rfl g0 (by decide) hu (we (wq W)) ⟨rfl,hq⟩ (λcls dd H' hc=>?_) λa=>we (wq (kc a)))) fin λe s' z=>z
  obtain⟨C,c0,i,x,rfl,hx,nm,hi,hw,⟨_,qq⟩|⟨z,_⟩⟩:=hE cls dd H' hc
  case inr=>cases z
  refine⟨hx,λa oe Y hn U _ _ hl=>⟨a,oe,C,c0,i,x,?_,zJ,U,nm,hi,hw,λH'' sm=>qq H'' ((xY hn).trans sm)⟩⟩;rw[AJ (by rw[hl];exact(by decide:1<2))]
 |false=>
  rw[if_neg Ac];have n2:(xX false)[2]?=some ("_law_word":Str):=rfl;refine AF (fX (X:=yo CX0 P w K mg base (xX false) (yC false) (zD st) f cdv A outer s H E0) (D:={a:=λ_ _=>False,b:=Q}) (t:=dU (tC (.e "told"))) (YG (EE:=EE) (ts:=oN (uv (tKC K mg cs ws pre 1) (xh 2)) (dU (tIf (gz (tOp rEq (xf 2) (tC (.e "great")))) (PD (xa (xf 2) (xa (Wi K base 1 "many") (xa (Wi K base 1 "most") tY)))) (xf 2)))) (ie:=1) I1 rfl rfl Sc.b l1 n1 rfl rfl g0 (by decide) hu (we (sQ W)) ⟨rfl,hq⟩ (λcls dd H' hc=>?_) λa=>?_) (wq rO)) fin λe s' z=>z
  . refine byG λpi O=>?_
    obtain⟨C,c0,i,x,rfl,hx,nm,hi,hw,alt⟩:=hE cls dd H' hc;refine O ?_;refine⟨hx,λa oe Y hn U hdd hnc hl=>⟨a,oe,C,c0,i,x,?_,zJ,U,nm,hi,hw,λH'' sm=>?_⟩⟩
    . rw[AJ (by rw[hl];exact(by decide:1<3))]
    . have e2:((Y.set 1 (some (V.c a))).set 2 (some (V.e (ans pre x))))[2]?=some (some (.e (ans pre x))):=by rw[AJ (by rw[BN,hl];exact(by decide:2<3))]
      refine⟨_,e2,rfl,_,rfl,?_⟩;rcases alt with⟨ng,qq⟩|⟨_,hg,D,fI,d,k,j,Kc,rfl,hd,F,sub,G,cG,qq⟩
      . have hne:¬(V.e (ans pre x)=V.e "great"):=λz=>ng rfl (V.e.inj z)
        rw[decide_eq_false hne];exact tM ⟨_,e2,qq H'' ((xY hn).trans sm)⟩
      . have e1:((Y.set 1 (some (V.c a))).set 2 (some (V.e (ans pre x))))[1]?=some (some (.c a)):=by rw[Bk (by decide),AJ (by rw[hl];exact(by decide:1<3))]
        have ha:=sm a _ zJ;have hd':=sm d (.m (grF k j)) (by rw[zG (zR hd hn)];exact hd)
        rw[decide_eq_true (by rw[hg])]
        refine rF ⟨_,e2,a,C,D,d,fI,oe,_,k,Kc,e1,ha,U,hnc,hdd,hd',rfl,F,sub,G.m1,cG,a,C,D,d,fI,oe,_,j,Kc,e1,ha,U,hnc,hdd,hd',rfl,F,sub,G.m2,cG,by show 3<=Ap;rw[AK];decide,λp hp=>?_⟩
        rw[hg];exact qq _ p ((xY hn).trans sm) hp
  . have vw:Vis (zD st) "_law_word":=.inl (l2 rfl)
    have pw:∀{X':Cx} {p:Pos},X'.N=xX false->X'.a.scope=zD st->PE X' (.Name "_law_word" p) (xf 2):=λ{X' p} h1 h2=>xV (by rw[h1];exact n2) (by rw[h2];exact vw) (by decide) (by decide)
    exact zr (wu Sc.b n2 (.inl (l2 rfl)) (kc a) (hf:=.inr (l2 rfl))) (we (wq (ZU (qS VN (pw rfl rfl) rO (pF _ (by decide) (by decide))) (Za (yO (pw rfl rfl) (yO (at_ a "many") (yO (at_ a "most") yh)))) (pw rfl rfl))))
noncomputable def UM:List Str:=["_law_call","_law_e"]
def YZ(body:List Stmt):Prop:=∃(p1 p2 p3 p4 p5 W U S R Q P O N x:Pos) (k1 k2:Nat),body =
 [.Try [.Expr (.Call (.Name "_law_call" p1) [] [] p2) p3] [.ExceptHandler (some (.Name "TooGreat" p4)) (some "_law_e") [.Return (some (.Tuple [.Attribute (.Name "_law_e" p5) "many" W,.Attribute (.Name "_law_e" U) "most" S] k1 R)) Q] P] [] [] O,
  .Return (some (.Constant .none k2 N)) x]
structure qE(K:Ab)(mg:Str->Option Value)(f:Addr):Prop where
 ex:∃(st:Stmt) (fd:BA),mg "_law_great"=some (.ref f)/\Fun K "_law_great" "_law_great" st f fd/\x9 UM ["_law_call"] (zD st)/\Binds K fd ["_law_call"] []/\YZ (z9 st) /\
  (zD st).names.lookup ("_law_call":Str)=some .local/\(zD st).names.lookup ("_law_e":Str)=some .local/\(zD st).names.lookup ("TooGreat":Str)=some .globalImplicit
end L2
end
section
namespace M
open PySem
inductive Val where
 |g|e (b:Bool)|c (i:Int)|j (x:Str)
 |f (vs:List Val)|h (vs:List Val)|o
 |p (ns:List Int)|r (ns:List Int)
 |m (i:Nat)|t (x:Str)|u (n:String)|q (i:Nat)
 /-- the k-th lambda of a list of lambdas,at the address a -/
 |s (a k:Nat)
 deriving Inhabited
inductive Cel where
 |c (vs:List Val)
 |e (kvs:List (Str × Val))
 |f (kvs:List (List Int × Val))
 /-- the table of the codes that lie within the def x -/
 |d (x:Str)
 deriving Inhabited
abbrev Sto:=List Cel
abbrev Env:=List (Option Val)
inductive Out(α:Type) where
 |e (a:α) (s:Sto)
 |g (c:Str) (args:List Val) (s:Sto)
 |d
noncomputable def Out.bind{N x:Type}(o:Out N)(f:N->Sto->Out x):Out x:=
 match o with
 |.e a s=>f a s
 |.g c as s=>.g c as s
 |.d=>.d
@[simp] def zM a s(f:α->Sto->Out β):(Out.e a s).bind f=f a s:=rfl
@[simp] def vX(f:α->Sto->Out β):(Out.d:Out α).bind f=.d:=rfl
@[simp] def qY c as s(f:α->Sto->Out β):(Out.g c as s:Out α).bind f=.g c as s:=rfl
mutual
noncomputable def Val.isD:Val->Bool
 |.g|.e _|.c _=>true
 |.j x=>PyData.strOk x
 |.f vs=>tL vs
 |.h vs=>tL vs
 |.o|.p _|.r _|.m _|.t _|.u _|.q _|.s _ _=>false
noncomputable def tL:List Val->Bool
 |[]=>true
 |v::vs=>v.isD&&tL vs
end
mutual
noncomputable def Val.isR:Val->Bool
 |.g|.e _|.c _|.j _|.o=>true
 |.f vs=>qB vs
 |.h vs=>qB vs
 |.p _|.r _|.m _|.t _|.u _|.q _|.s _ _=>false
noncomputable def qB:List Val->Bool
 |[]=>true
 |v::vs=>v.isR&&qB vs
end
mutual
noncomputable def Val.d:Val->PyData
 |.g=>.none
 |.e b=>.bool b
 |.c i=>.int i
 |.j x=>.str x
 |.f vs=>.tuple (ds vs)
 |.h vs=>.list (ds vs)
 |.o=>.dict []
 |.p _|.r _|.m _|.t _|.u _|.q _|.s _ _=>.none
noncomputable def ds:List Val->List PyData
 |[]=>[]
 |v::vs=>v.d::ds vs
end
mutual
noncomputable def Val.noRef:Val->Bool
 |.m _|.q _=>false
 |.f vs=>zo vs
 |.h vs=>zo vs
 |.g|.e _|.c _|.j _|.o|.p _|.r _|.t _|.u _|.s _ _=>true
noncomputable def zo:List Val->Bool
 |[]=>true
 |v::vs=>v.noRef&&zo vs
end
def Cel.noRef:Cel->Bool
 |.c vs=>zo vs
 |.e kvs=>zo (kvs.map (·.2))
 |.f kvs=>zo (kvs.map (·.2))
 |.d _=>true
mutual
noncomputable def Val.beq:Val->Val->Bool
 |.g,.g=>true
 |.e a,.e b=>a == b
 |.c a,.c b=>a == b
 |.j a,.j b=>a == b
 |.f a,.f b=>sy a b
 |.h a,.h b=>sy a b
 |.o,.o=>true
 |.p a,.p b=>a == b
 |.r a,.r b=>a == b
 |.m a,.m b=>a == b
 |.t a,.t b=>a == b
 |.u a,.u b=>a == b
 |.q a,.q b=>a == b
 |.s a k,.s b l=>a == b&&k == l
 |_,_=>false
noncomputable def sy:List Val->List Val->Bool
 |[],[]=>true
 |a::as,b::bs=>a.beq b&&sy as bs
 |_,_=>false
end
def Cel.beq:Cel->Cel->Bool
 |.c a,.c b=>sy a b
 |.e a,.e b=>decide (a.map (·.1)=b.map (·.1))&&sy (a.map (·.2)) (b.map (·.2))
 |.f a,.f b=>decide (a.map (·.1)=b.map (·.1))&&sy (a.map (·.2)) (b.map (·.2))
 |.d a,.d b=>decide (a=b)
 |_,_=>false
def wV:Sto->Sto->Bool
 |[],_=>true
 |o::r,o'::r'=>(o'.noRef||o'.beq o)&&wV r r'
 |_::_,[]=>false
mutual
noncomputable def wc(n0:Nat)(s:Sto):Nat->Val->Option Val
 |_,.q i=>if i<n0 then some (.q i) else dr
 |_,.m i=>if i<n0 then some (.m i) else match s[i]? with
  |some (.c vs)=>if zo vs then some (.h vs) else dr
  |_=>dr
 |k+1,.f vs=>(sG n0 s k vs).map .f
 |_,v=>if v.noRef then some v else dr
noncomputable def sG(n0:Nat)(s:Sto):Nat->List Val->Option (List Val)
 |_,[]=>some []
 |0,_::_=>dr
 |k+1,v::vs=>match (if v.noRef then some v else wc n0 s k v),sG n0 s k vs with
  |some v',some vs'=>some (v'::vs')
  |_,_=>dr
end
def freeze(n0:Nat)(s:Sto)(v:Val):Option Val:=if v.noRef then some v else wc n0 s 20 v
inductive Bop|a|f|b|d|c|e|h|i|g
 deriving DecidableEq
inductive Cop|b|a|m|c|g|i|l|d|k|h|j|e|f
 deriving DecidableEq
inductive Bf|a|p|q|h|i|g|e|k|l|s|o|j|c|r|d|n|b|m
 deriving DecidableEq
inductive Mf|b|a|c|f|d|e
 deriving DecidableEq
inductive Tgt
 |a (i:Nat)
 |b (is:List Nat)
mutual
inductive Ex
 |g (v:Val)|e (i:Nat)|E (x:Str)|L (x:Str) (n:String)
 |j (m:Bool) (op:Bop) (a b:Ex)|D (a:Ex)|G (a:Ex)
 |q (op:Cop) (a b:Ex)|s (op op':Cop) (a b c:Ex)
 |y (a:Ex) (es:Exs)|I (a:Ex) (es:Exs)|H (c:Cn) (a b:Ex)
 |k (es:Exs)|u (m:Bool) (es:Exs)|B
 |h (f:Str) (ver:Nat) (es:Exs)|l (f:Bf) (m:Bool) (es:Exs)|F (a d:Ex)
 |M (f:Mf) (m:Bool) (o:Ex) (es:Exs)
 |A (a b:Ex)|J (m:Bool) (a:Ex) (lo hi st:OEx)
 |r (m:Bool) (N:List Str) (fr:List (Option Nat)) (elt:Ex) (t:Tgt) (it:Itb) (ifs:Cns)
 |w (m:Bool) (N:List Str) (fr:List (Option Nat)) (elt:Ex) (t:Tgt) (it:Itb) (ifs:Cns) (t2:Tgt) (it2:Itb) (ifs2:Cns)
 |p (m:Bool) (a b c:Ex)
 |C (t:Bool)|K (a b:Ex)
 /-- a set Em: only what is walked is known of it -/
 |z (a:Ex)
inductive Exs
 |c|a (e:Ex) (es:Exs)
inductive OEx
 |b|a (e:Ex)
inductive Cn
 |a (e:Ex)|b (c:Cn)|d (c:Cn) (cs:Cns)|f (c:Cn) (cs:Cns)
inductive Cns
 |a|b (c:Cn) (cs:Cns)
inductive Itb
 |f (e:Ex)|d (a:Ex)|g (a b:Ex)|i (e:Ex)|j (a b:Ex)|h (a b c:Ex)
end
mutual
inductive Sm
 |h (e:Ex)|f (e:Ex)|s|g (i:Nat) (e:Ex)|n (is:List Nat) (e:Ex)|q (is:List Nat) (es:Exs)
 |u (i:Nat) (op:Bop) (e:Ex)|l (o i e:Ex)
 |j (c:Cn) (a b:Sms)|k (t:Tgt) (it:Itb) (b:Sms)|m (c:Cn) (b:Sms)
 |r|w|p|d (e:Ex)|v (o i e:Ex)
inductive Sms
 |f|e (s:Sm) (ss:Sms)
 /-- x=[lambda: ..];x.append(lambda: ..) ..;mid;then a row with [_law_said(c) for c in x];k: 0 it is returned,1 it is returned whether it is d,2 if it is not d (or o): b -/
 |g (i:Nat) (L:Exs) (mid:Sms) (k:Nat) (d:Ex) (o:Cns) (b cs:Sms)
end
structure Fn where
 N:List Str
 b:List Str
 c:Bool
 a:Sms
abbrev Calls:=Str->Nat->List Val->Sto->Out Val
noncomputable def zW:Nat:=16777216
noncomputable def newList(m:Bool)(vs:List Val)(s:Sto):Out Val:=if m then .e (.m s.length) (s++[.c vs]) else .e (.h vs) s
noncomputable def wJ(s:Sto):Val->Option (List Val)
 |.f vs=>some vs
 |.h vs=>some vs
 |.p ns=>some (ns.map .c)
 |.r ns=>some (ns.map .c)
 |.m i=>match s[i]? with
  |some (.c vs)=>some vs
  |_=>dr
 |_=>dr
noncomputable def yV(s:Sto):Val->Option (List Val)
 |.h vs=>some vs
 |.m i=>match s[i]? with
  |some (.c vs)=>some vs
  |_=>dr
 |_=>dr
def truth(s:Sto):Val->Option Bool
 |.g=>some false
 |.e b=>some b
 |.c i=>some (i != 0)
 |.j x=>if x.length<=zW then some ((x.length:Int) != 0) else dr
 |.f vs=>some !vs.isEmpty
 |.h vs=>some !vs.isEmpty
 |.o=>some false
 |.m i=>match s[i]? with
  |some (.c vs)=>some !vs.isEmpty
  |_=>dr
 |_=>dr
def Out.truth(o:Out Val):Out Bool:=o.bind λv s=>match M.truth s v with
 |some b=>.e b s
 |dr=>.d
noncomputable def yp(s:Sto):Val->Val
 |.m i=>match s[i]? with
  |some (.c vs)=>.h vs
  |_=>.m i
 |v=>v
def zw(s:Sto):Val->Val
 |.f vs=>.f (vs.map (yp s))
 |v=>yp s v
def tS(d:PyData):Bool:=d.showable&&d.leavesShort 40&&decide (d.depth<=50)&&decide (d.weight<=300000)&&(!d.hasDict||!L2.xR d)
noncomputable def flat:Val->Bool
 |.g|.e _|.c _|.j _=>true
 |_=>false
noncomputable def eqF:Val->Val->Bool
 |.g,.g=>true
 |.e a,.e b=>a == b
 |.e a,.c b=>(if a then 1 else 0) == b
 |.c a,.e b=>a == (if b then 1 else 0)
 |.c a,.c b=>a == b
 |.j a,.j b=>a == b
 |_,_=>false
def oF(a b:Val):Option Bool:=if a.isD&&b.isD&&decide (b.d.depth<=60) then some (EN a.d b.d) else dr
noncomputable def intsOf:List Val->Option (List Int)
 |[]=>some []
 |.c i::vs=>(intsOf vs).map (i::·)
 |_=>dr
noncomputable def Val.isN:Val->Bool
 |.g=>true
 |_=>false
def inD(x:Val)(vs:List Val):Bool:=x.isD&&tL vs&&decide (x.d.depth<=60)
noncomputable def Yw{κ:Type} [DecidableEq κ]:List (κ × Val)->κ->Option Val
 |[],_=>dr
 |p::r,k=>if p.1=k then some p.2 else Yw r k
def RI{κ:Type} [DecidableEq κ] (x:List (κ × Val))(k:κ)(v:Val):List (κ × Val):=
 if (Yw x k).isSome then x.map (λp=>if p.1=k then (p.1,v) else p) else x++[(k,v)]
noncomputable def W8(s:Sto):Val->Option (Nat × Cel)
 |.q i=>(s[i]?).map λc=>(i,c)
 |_=>dr
def Vx:Cel->Val->Option (Option Val)
 |.e kvs,.j k=>some (Yw kvs k)
 |.f kvs,.f vs=>(intsOf vs).map λk=>Yw kvs k
 |_,_=>dr
def Vy:Cel->Val->Val->Option Cel
 |.e kvs,.j k,v=>if kvs.length<zW then some (.e (RI kvs k v)) else dr
 |.f kvs,.f vs,v=>(intsOf vs).bind λk=>if kvs.length<zW then some (.f (RI kvs k v)) else dr
 |_,_,_=>dr
def getD(d y:Val)(s:Sto):Option (Option Val):=(W8 s d).bind λc=>Vx c.2 y
def ixD(d y:Val)(s:Sto):Out Val:=match getD d y s with
 |some (some v)=>.e v s
 |_=>.d
def putD(d y v:Val)(s:Sto):Option Sto:=(W8 s d).bind λc=>(Vy c.2 y v).map λx=>s.set c.1 x
noncomputable def strsOf:List Val->Option (List Str)
 |[]=>some []
 |.j x::vs=>(strsOf vs).map (x::·)
 |_=>dr
def zT(op:Cop)(x y:Val)(s:Sto):Out Val:=
 match op with
 |.b=>match x,y with
  |.j a,.j b=>.e (.e (decide (a=b))) s
  |.f a,.p ns=>match oF (zw s (.f a)) (.f (ns.map .c)) with|some b=>.e (.e b) s|dr=>.d
  |_,_=>match oF (zw s x) (zw s y) with|some b=>.e (.e b) s|dr=>.d
 |.a=>match x,y with
  |.j a,.j b=>.e (.e !(decide (a=b))) s
  |_,_=>match oF (zw s x) (zw s y) with|some b=>.e (.e !b) s|dr=>.d
 |.l=>match y with|.g=>.e (.e x.isN) s|.e b=>(match x with|.e a=>.e (.e (decide (a=b))) s|_=>.d)|_=>.d
 |.d=>match y with|.g=>.e (.e !x.isN) s|.e b=>(match x with|.e a=>.e (.e !(decide (a=b))) s|_=>.d)|_=>.d
 |.k=>match wJ s y with
  |some vs=>if flat x&&vs.all flat then .e (.e (vs.any λz=>eqF z x)) s else if inD x vs then .e (.e (vs.any λz=>EN z.d x.d)) s else .d
  |dr=>.d
 |.h=>match wJ s y with
  |some vs=>if flat x&&vs.all flat then .e (.e !(vs.any λz=>eqF z x)) s else if inD x vs then .e (.e !(vs.any λz=>EN z.d x.d)) s else .d
  |dr=>.d
 |.j=>match getD y x s with|some o=>.e (.e o.isSome) s|dr=>.d
 |.e=>match getD y x s with|some o=>.e (.e !o.isSome) s|dr=>.d
 |.f=>match x with
  |.o=>(match wJ s y with
   |some vs=>(match M.intsOf vs with|some _=>.e (.e true) s|dr=>.d)
   |dr=>.d)
  |_=>(match wJ s y with
   |some vs=>if flat x&&vs.all flat then .e (.e !(vs.any λz=>eqF z x)) s else if inD x vs then .e (.e !(vs.any λz=>EN z.d x.d)) s else .d
   |dr=>.d)
 |.m=>match x,y with|.c i,.c j=>.e (.e (decide (i<j))) s|_,_=>.d
 |.c=>match x,y with|.c i,.c j=>.e (.e (decide (i<=j))) s|_,_=>.d
 |.g=>match x,y with|.c i,.c j=>.e (.e (decide (j<i))) s|_,_=>.d
 |.i=>match x,y with|.c i,.c j=>.e (.e (decide (j<=i))) s|_,_=>.d
def binOp(m:Bool)(op:Bop)(x y:Val)(s:Sto):Out Val:=
 match op with
 |.a=>match x,y with
  |.c i,.c j=>.e (.c (i+j)) s
  |.j a,.j b=>if a.length+b.length<=zW then .e (.j (a++b)) s else .d
  |.f a,.f b=>if a.length+b.length<=zW then .e (.f (a++b)) s else .d
  |_,_=>match yV s x,yV s y with
   |some a,some b=>if a.length+b.length<=zW then newList m (a++b) s else .d
   |_,_=>.d
 |.f=>match x,y with|.c i,.c j=>.e (.c (i-j)) s|_,_=>.d
 |.b=>match x,y with
  |.c i,.c j=>if (-(2 ^ 64)<i/\i<2 ^ 64)\/(-(2 ^ 64)<j/\j<2 ^ 64) then .e (.c (i*j)) s else .d
  |.f a,.c k=>if -1000<=k/\k<=1000/\a≠[]/\a.length<=1000 then .e (.f (Aj k.toNat a).flatten) s else .d
  |_,.c k=>match yV s x with
   |some a=>if -1000<=k/\k<=1000/\a.length*k.toNat<=zW then newList m (Aj k.toNat a).flatten s else .d
   |dr=>.d
  |_,_=>.d
 |.d=>match x,y with|.c i,.c j=>if 0<j/\j<1073741824 then .e (.c (i/j)) s else .d|_,_=>.d
 |.c=>match x,y with|.c i,.c j=>if 0<j then .e (.c (i%j)) s else .d|_,_=>.d
 |.e=>match x,y with|.c i,.c j=>if 0<=j/\j<=1000000/\i.natAbs<2 ^ 64 then .e (.c (i ^ j.toNat)) s else .d|_,_=>.d
 |.h=>match x,y with|.c i,.c j=>if 0<=j/\j<=1000000/\i.natAbs<2 ^ 64 then .e (.c (i*2 ^ j.toNat)) s else .d|_,_=>.d
 |.i=>match x,y with|.c i,.c j=>if 0<=j then .e (.c (i/2 ^ j.toNat)) s else .d|_,_=>.d
 |.g=>match x,y with|.c i,.c j=>.e (.c (Builtin.bitAnd i j)) s|_,_=>.d
noncomputable def kindOf:Val->Option L2.Kd
 |.g=>some .f
 |.e _=>some .i
 |.c _=>some .b
 |.j _=>some .h
 |.f _=>some .d
 |.h _=>some .e
 |.o=>some .g
 |.m _=>some .e
 |_=>dr
noncomputable def tN:String->Option L2.Kd
 |"bool"=>some .i
 |"int"=>some .b
 |"str"=>some .h
 |"list"=>some .e
 |"tuple"=>some .d
 |"dict"=>some .g
 |_=>dr
noncomputable def boolsOf:List Val->Option (List Bool)
 |[]=>some []
 |.e b::vs=>(boolsOf vs).map (b::·)
 |_=>dr
noncomputable def pairsOf:List Val->Option (List (Int × Int))
 |[]=>some []
 |.f [.c a,.c b]::vs=>(pairsOf vs).map ((a,b)::·)
 |_=>dr
noncomputable def prV(z:Int × Int):Val:=.f [.c z.1,.c z.2]
def RY(z:Int × Int):List (Int × Int)->List (Int × Int)
 |[]=>[z]
 |y::ys=>if L2.W7 z<=L2.W7 y then z::y::ys else y::RY z ys
def Va:List (Int × Int)->List (Int × Int)
 |[]=>[]
 |z::zs=>RY z (Va zs)
def ml:List Val->Option (List (List Int))
 |[]=>some []
 |.f a::vs=>match intsOf a,ml vs with
  |some z,some zs=>some (z::zs)
  |_,_=>dr
 |_=>dr
noncomputable def tpV(z:List Int):Val:=.f (z.map .c)
noncomputable def tpS(x:Str)(z:List Int):Val:=.f (.j x::z.map .c)
def Vi(x:Str):List Val->Option (List (List Int))
 |[]=>some []
 |.f (.j y::a)::vs=>if y=x then (match intsOf a,Vi x vs with
  |some z,some zs=>some (z::zs)
  |_,_=>dr) else dr
 |_=>dr
noncomputable def VE:List Val->Str
 |.f (.j x::_)::_=>x
 |_=>""
def Z6(m:Bool)(vs:List Val)(s:Sto):Out Val:=match ml vs with
 |some zs=>if zs.Nodup/\(zs.length<2\/∀z∈zs,z≠[]) then newList m ((L2.Vb zs).map tpV) s else .d
 |dr=>.d
def Qo(zs:List (List Int)):Bool:=decide (zs.length<2)||match zs with
 |[]=>true
 |z::_=>decide (0<z.length)&&zs.all (λy=>decide (y.length=z.length))&&(AR (zs.length-1)).all λi=>!L2.oG (zs.getD (i+1) []) (zs.getD i [])
def SM(m:Bool)(vs:List Val)(s:Sto):Out Val:=match ml vs with
 |some zs=>if Qo zs then newList m vs s else .d
 |dr=>.d
noncomputable def insI(z:Int):List Int->List Int
 |[]=>[z]
 |y::ys=>if z<=y then z::y::ys else y::insI z ys
def sortI:List Int->List Int
 |[]=>[]
 |z::zs=>insI z (sortI zs)
def blt(f:Bf)(m:Bool)(N:List Val)(s:Sto):Out Val:=
 match f with
 |.a=>match N with
  |[.j x]=>if x.length<=zW then .e (.c x.length) s else .d
  |[x]=>match wJ s x with|some vs=>.e (.c vs.length) s|dr=>.d
  |_=>.d
 |.p=>match N with
  |[x]=>match yV s x with|some vs=>(match boolsOf vs with|some bs=>.e (.e (bs.all id)) s|dr=>.d)|dr=>.d
  |_=>.d
 |.q=>match N with
  |[x]=>match yV s x with|some vs=>(match boolsOf vs with|some bs=>.e (.e (bs.any id)) s|dr=>.d)|dr=>.d
  |_=>.d
 |.h=>match N with
  |[.f vs]=>.e (.f vs) s
  |[x]=>match yV s x with|some vs=>.e (.f vs) s|dr=>.d
  |_=>.d
 |.i=>match N with
  |[x]=>match wJ s x with|some vs=>newList m vs s|dr=>.d
  |_=>.d
 |.e=>match N with
  |[x]=>if (zw s x).isR&&tS (zw s x).d then .e (.j (zw s x).d.shown) s else .d
  |_=>.d
 |.k=>match N with
  |[.c i,.c j]=>.e (.c (if j > i then j else i)) s
  |[.f vs]=>(match M.intsOf vs with|some ns=>if ns≠[] then .e (.c (L2.vt 0 ns)) s else .d|dr=>.d)
  |[x]=>match yV s x with|some vs=>(match M.intsOf vs with|some ns=>if ns≠[] then .e (.c (L2.vt 0 ns)) s else .d|dr=>.d)|dr=>.d
  |_=>.d
 |.l=>match N with
  |[.c i,.c j]=>.e (.c (if j<i then j else i)) s
  |[.f vs]=>(match M.intsOf vs with|some ns=>if ns≠[] then .e (.c (L2.uR 0 ns)) s else .d|dr=>.d)
  |[x]=>match yV s x with|some vs=>(match M.intsOf vs with|some ns=>if ns≠[] then .e (.c (L2.uR 0 ns)) s else .d|dr=>.d)|dr=>.d
  |_=>.d
 |.o=>match N with
  |[.c i]=>.e (.c i) s
  |[.e b]=>.e (.c (if b then 1 else 0)) s
  |_=>.d
 |.j=>match N with
  |[x,.u n]=>match kindOf x,tN n with|some a,some c=>.e (.e (a.sub c)) s|_,_=>.d
  |_=>.d
 |.c=>match N with
  |[.c i,.c j]=>if 0<j/\j<1073741824 then .e (.f [.c (i/j),.c (i%j)]) s else .d
  |_=>.d
 |.r=>match N with
  |[.c i]=>if i.natAbs.log2<1920 then .e (.j (toString i)) s else .d
  |_=>.d
 |.s=>match N with
  |[x]=>match yV s x with|some vs=>(match M.intsOf vs with|some ns=>if L2.Qz ns then .e (.c ns.sum) s else .d|dr=>.d)|dr=>.d
  |_=>.d
 |.g=>match N with
  |[x]=>match yV s x with
   |some vs=>(match pairsOf vs with
    |some zs=>if zs.Nodup/\∀z∈zs,0<=z.2/\z.2<1000 then newList m ((Va zs).map prV) s else Z6 m vs s
    |dr=>Z6 m vs s)
   |dr=>.d
  |_=>.d
 |.n=>match N with
  |[x]=>match yV s x with|some vs=>(match ml vs with|some zs=>if zs≠[] then .e (tpV (L2.Ry zs)) s else .d|dr=>.d)|dr=>.d
  |_=>.d
 |.m=>match N with
  |[x]=>match yV s x with|some vs=>(match Vi (VE vs) vs with|some zs=>if zs≠[] then .e (tpS (VE vs) (L2.Ry zs)) s else .d|dr=>.d)|dr=>.d
  |_=>.d
 |.b=>match N with
  |[x]=>match yV s x with|some vs=>SM m vs s|dr=>.d
  |_=>.d
 |.d=>match N with
  |[x]=>match wJ s x with|some vs=>(match M.intsOf vs with|some ns=>if ns.length<64 then newList m ((sortI ns).map .c) s else .d|dr=>.d)|dr=>.d
  |_=>.d
def mxD(x y:Val)(s:Sto):Out Val:=match y with
 |.c k=>(match yV s x with|some vs=>(match M.intsOf vs with|some ns=>.e (.c (L2.vt k ns)) s|dr=>.d)|dr=>.d)
 |_=>.d
noncomputable def upd(s:Sto)(i:Nat)(vs:List Val):Sto:=s.set i (.c vs)
def xA(f:Mf)(o:Val)(x:List Val)(s:Sto):Out Val:=
 match f with
 |.b=>match o,x with
  |.f vs,[y]=>if flat y&&vs.all flat then .e (.c (vs.countP λz=>eqF z y:Nat)) s else .d
  |_,[y]=>match yV s o with|some vs=>if flat y&&vs.all flat then .e (.c (vs.countP λz=>eqF z y:Nat)) s else .d|dr=>.d
  |_,_=>.d
 |.a=>match o,x with
  |.m i,[y]=>match s[i]? with|some (.c vs)=>if vs.length<zW then .e .g (upd s i (vs++[y])) else .d|_=>.d
  |_,_=>.d
 |.c=>match o,x with
  |.m i,[y]=>match s[i]?,yV s y with|some (.c vs),some ws=>if vs.length+ws.length<=zW then .e .g (upd s i (vs++ws)) else .d|_,_=>.d
  |_,_=>.d
 |.f=>match o,x with
  |.m i,[.c k]=>(match s[i]? with
   |some (.c vs)=>if -(2 ^ 63)<=k/\k<2 ^ 63 then (match seqIndex? k vs.length with
    |some j=>(match vs[j]? with|some y=>.e y (upd s i (vs.eraseIdx j))|dr=>.d)
    |dr=>.d) else .d
   |_=>.d)
  |_,_=>.d
 |.d=>match o,x with
  |.f vs,[y]=>if flat y&&vs.all flat then (match vs.findIdx? λz=>eqF z y with|some j=>.e (.c (j:Nat)) s|dr=>.d) else .d
  |_,_=>.d
 |.e=>match o,x with
  |.j z,[y]=>(match yV s y with
   |some vs=>(match strsOf vs with|some N=>if (N.map (·.length)).sum+N.length*z.length<=16777216 then .e (.j (L2.Ro z N)) s else .d|dr=>.d)
   |dr=>.d)
  |_,_=>.d
def vH(a b:Val)(s:Sto):Out Val:=
 match b with
 |.c i=>match wJ s a with|some vs=>(match L2.atI vs i with|some v=>.e v s|dr=>.d)|dr=>.d
 |_=>.d
def qf{N:Type}(x:List N)(lo hi:Option Int):List N:=(x.drop (HT.sIx x.length 0 lo)).take (HT.sIx x.length x.length hi-HT.sIx x.length 0 lo)
def tU(m:Bool)(a:Val)(lo hi st:Option Int)(s:Sto):Out Val:=
 match a,st with
 |.f vs,dr=>.e (.f (qf vs lo hi)) s
 |.f vs,some c=>if c≠0/\(L2.yg vs.length lo hi c).2<=zW then .e (.f (L2.zy vs (L2.yg vs.length lo hi c).1 c (L2.yg vs.length lo hi c).2)) s else .d
 |_,dr=>match yV s a with|some vs=>newList m (qf vs lo hi) s|dr=>.d
 |_,some c=>match yV s a with|some vs=>if c≠0 then newList m (L2.zy vs (L2.uL vs.length lo hi c).1 c (L2.uL vs.length lo hi c).2) s else .d|dr=>.d
def Rv(m:Bool)(x y z:Val)(s:Sto):Out Val:=match x,y,z with
 |.c i,.c j,.c k=>if -(2 ^ 30)<=i/\i<=2 ^ 30∧-(2 ^ 30)<=j/\j<=2 ^ 30/\0<k/\k<=2 ^ 29/\B3 i j k<=1000 then newList m ((L2.j8 i j k).map .c) s else .d
 |.g,y,.j _=>(match wJ s y with|some vs=>(match M.intsOf vs with|some ns=>if ns.length<=1000 then .e (.c (L2.dN ns:Nat)) s else .d|dr=>.d)|dr=>.d)
 |.c i,.c j,.e _=>if -(2 ^ 30)<=i/\i<=2 ^ 30∧-(2 ^ 30)<=j/\j<=2 ^ 30/\B3 i j 1<=1000 then newList m ((L2.j8 i j 1).map .c) s else .d
 |.c i,.c j,.g=>if -(2 ^ 30)<=i/\i<=2 ^ 30∧-(2 ^ 30)<=j/\j<=2 ^ 30/\B3 i j 1<=1000 then .e (.f ((L2.j8 i j 1).map .c)) s else .d
 |_,_,_=>.d
noncomputable def yZ(t:Tgt)(v:Val)(env:Env):Option Env:=
 match t with
 |.a i=>some (env.set i (some v))
 |.b is=>match v with
  |.f vs=>if vs.length=is.length then some ((is.zip vs).foldl (λe p=>e.set p.1 (some p.2)) env) else dr
  |_=>dr
structure Src where
 a:List Val
 b:Option Nat
def Src.ok(r:Src)(s:Sto):Bool:=match r.b with
 |dr=>true
 |some i=>match s[i]? with
  |some (.c vs)=>sy vs r.a
  |_=>false
noncomputable def PK:List Val->List Val->List Val
 |v::vs,w::ws=>.f [v,w]::PK vs ws
 |_,_=>[]
noncomputable def gK(n:Nat):List Val->List Val
 |[]=>[]
 |v::vs=>.f [.c n,v]::gK (n+1) vs
noncomputable def srcOf(s:Sto):Val->Option Src
 |.f vs=>some ⟨vs,dr⟩
 |.h vs=>some ⟨vs,dr⟩
 |.p ns=>some ⟨ns.map .c,dr⟩
 |.m i=>match s[i]? with
  |some (.c vs)=>some ⟨vs,some i⟩
  |_=>dr
 |_=>dr
noncomputable def Qp(lo c:Int)(n:Nat):List Val:=(AR n).map λ(k:Nat)=>Val.c (lo+k*c)
def Pk(x y z:Val)(s:Sto):Out Src:=match x,y,z with
 |.c i,.c j,.c k=>if 0<=i/\i<=1000/\0<=j/\j<=1000/\1<=k/\k<=1000 then .e ⟨Qp i k (B3 i j k).toNat,dr⟩ s else .d
 |_,_,_=>.d
noncomputable def wI(lo:Int)(n:Nat):List Val:=(AR n).map λ(k:Nat)=>Val.c (lo+k)
def ya(r:Src)(t:Tgt)(body:Env->Sto->List Val->Out (List Val × Env)):List Val->Env->Sto->List Val->Out (List Val × Env)
 |[],env,s,acc=>if r.ok s then .e (acc,env) s else .d
 |x::xs,env,s,acc=>if r.ok s then match yZ t x env with
    |dr=>.d
    |some env'=>(body env' s acc).bind λp s'=>ya r t body xs p.2 s' p.1
  else .d
noncomputable def za(fr:List (Option Nat))(env:Env):Env:=fr.map λo=>match o with|some j=>(env[j]?).join|dr=>dr
inductive Fl
 |a (env:Env)|c (env:Env)|d (env:Env)|b (v:Val)
def vq(r:Src)(t:Tgt)(body:Env->Sto->Out Fl):List Val->Env->Sto->Out Fl
 |[],env,s=>if r.ok s then .e (.a env) s else .d
 |x::xs,env,s=>if r.ok s then match yZ t x env with
    |dr=>.d
    |some env'=>(body env' s).bind λfl s'=>match fl with
     |.a e=>vq r t body xs e s'
     |.d e=>vq r t body xs e s'
     |.c e=>.e (.a e) s'
     |.b v=>.e (.b v) s'
  else .d
def uQ(c:Env->Sto->Out Bool)(body:Env->Sto->Out Fl):Nat->Env->Sto->Out Fl
 |0,_,_=>.d
 |n+1,env,s=>(c env s).bind λb s1=>if b then (body env s1).bind λfl s2=>match fl with
    |.a e=>uQ c body n e s2
    |.d e=>uQ c body n e s2
    |.c e=>.e (.a e) s2
    |.b v=>.e (.b v) s2
  else .e (.a env) s1
noncomputable def mz:Nat:=100000
noncomputable def vR:Sto->List Str
 |.d x::r=>x::vR r
 |_=>[]
section
variable (Φ:Calls)(G:Str->Option Val)
mutual
noncomputable def evE(env:Env):Ex->Sto->Out Val
 |.g v,s=>.e v s
 |.e i,s=>match env[i]? with|some (some v)=>.e v s|_=>.d
 |.E x,s=>match G x with|some v=>.e v s|dr=>.d
 |.L _ n,s=>.e (.u n) s
 |.j m op a b,s=>(evE env a s).bind λx s1=>(evE env b s1).bind λy s2=>binOp m op x y s2
 |.D a,s=>(evE env a s).bind λx s1=>match x with|.c i=>.e (.c (-i)) s1|_=>.d
 |.G a,s=>(evE env a s).bind λx s1=>match x with|.e b=>.e (.e !b) s1|_=>.d
 |.q op a b,s=>(evE env a s).bind λx s1=>(evE env b s1).bind λy s2=>zT op x y s2
 |.s op op' a b c,s=>(evE env a s).bind λx s1=>(evE env b s1).bind λy s2=>(zT op x y s2).bind λr N=>match r with
  |.e true=>(evE env c N).bind λz P=>zT op' y z P
  |.e false=>.e (.e false) N
  |_=>.d
 |.y a es,s=>match es with
  |.c=>evE env a s
  |.a _ _=>(evE env a s).bind λx s1=>match x with
   |.e true=>rl env es s1
   |.e false=>.e (.e false) s1
   |_=>.d
 |.I a es,s=>match es with
  |.c=>evE env a s
  |.a _ _=>(evE env a s).bind λx s1=>match truth s1 x with
   |some false=>lL env es s1
   |some true=>.e x s1
   |dr=>.d
 |.H c a b,s=>(evT env c s).bind λt s1=>if t then evE env a s1 else evE env b s1
 |.k es,s=>(zY env es s).bind λvs s1=>if vs.length<=zW then .e (.f vs) s1 else .d
 |.u m es,s=>(zY env es s).bind λvs s1=>if vs.length<=zW then newList m vs s1 else .d
 |.B,s=>.e .o s
 |.h f ver es,s=>(zY env es s).bind λvs s1=>Φ f ver vs s1
 |.l f m es,s=>(zY env es s).bind λvs s1=>blt f m vs s1
 |.F a d,s=>(evE env a s).bind λx s1=>(evE env d s1).bind λy s2=>mxD x y s2
 |.M f _ o es,s=>(evE env o s).bind λx s1=>(zY env es s1).bind λvs s2=>xA f x vs s2
 |.A a b,s=>(evE env a s).bind λx s1=>(evE env b s1).bind λy s2=>vH x y s2
 |.J m a lo hi st,s=>(evE env a s).bind λx s1=>(evO env lo s1).bind λl s2=>(evO env hi s2).bind λh N=>(evO env st N).bind λc P=>tU m x l h c P
 |.r m _ fr elt t it ifs,s=>(yl env it s).bind λr s1=>
  (ya r t (λe s' acc=>(xQ e ifs s').bind λb s2=>if b then (evE e elt s2).bind λv N=>.e (acc++[v],e) N else .e (acc,e) s2) r.a (za fr env) s1 []).bind λp s2=>newList m p.1 s2
 |.w m _ fr elt t it ifs t2 it2 ifs2,s=>(yl env it s).bind λr s1=>
  (ya r t (λe s' acc=>(xQ e ifs s').bind λb s2=>if b then (yl e it2 s2).bind λS N=>
      ya S t2 (λQ P O=>(xQ Q ifs2 P).bind λW R=>if W then (evE Q elt R).bind λv U=>.e (O++[v],Q) U else .e (O,Q) R) S.a e N acc
   else .e (acc,e) s2) r.a (za fr env) s1 []).bind λp s2=>if p.1.length<=zW then newList m p.1 s2 else .d
 |.C t,s=>.e (.q s.length) (s++[if t then .f [] else .e []])
 |.K a b,s=>(evE env a s).bind λx s1=>(evE env b s1).bind λy s2=>ixD x y s2
 |.z _,_=>.d
 |.p m a b c,s=>(evE env a s).bind λx s1=>(evE env b s1).bind λy s2=>(evE env c s2).bind λz N=>Rv m x y z N
noncomputable def rl(env:Env):Exs->Sto->Out Val
 |.c,_=>.d
 |.a a es,s=>match es with
  |.c=>evE env a s
  |.a _ _=>(evE env a s).bind λx s1=>match x with
   |.e true=>rl env es s1
   |.e false=>.e (.e false) s1
   |_=>.d
noncomputable def lL(env:Env):Exs->Sto->Out Val
 |.c,_=>.d
 |.a a es,s=>match es with
  |.c=>evE env a s
  |.a _ _=>(evE env a s).bind λx s1=>match truth s1 x with
   |some false=>lL env es s1
   |some true=>.e x s1
   |dr=>.d
noncomputable def zY(env:Env):Exs->Sto->Out (List Val)
 |.c,s=>.e [] s
 |.a e es,s=>(evE env e s).bind λv s1=>(zY env es s1).bind λvs s2=>.e (v::vs) s2
noncomputable def evO(env:Env):OEx->Sto->Out (Option Int)
 |.b,s=>.e dr s
 |.a e,s=>(evE env e s).bind λv s1=>match v with|.c i=>.e (some i) s1|_=>.d
/-- a test -/
noncomputable def evT(env:Env):Cn->Sto->Out Bool
 |.a e,s=>(evE env e s).truth
 |.b a,s=>(evT env a s).bind λb s1=>.e (!b) s1
 |.d a es,s=>(evT env a s).bind λb s1=>if b then xQ env es s1 else .e false s1
 |.f a es,s=>(evT env a s).bind λb s1=>if b then .e true s1 else tJ env es s1
noncomputable def xQ(env:Env):Cns->Sto->Out Bool
 |.a,s=>.e true s
 |.b a es,s=>(evT env a s).bind λb s1=>if b then xQ env es s1 else .e false s1
noncomputable def tJ(env:Env):Cns->Sto->Out Bool
 |.a,s=>.e false s
 |.b a es,s=>(evT env a s).bind λb s1=>if b then .e true s1 else tJ env es s1
noncomputable def yl(env:Env):Itb->Sto->Out Src
 |.f e,s=>(evE env e s).bind λv s1=>match srcOf s1 v with|some r=>.e r s1|dr=>.d
 |.d a,s=>(evE env a s).bind λx s1=>match x with
  |.c j=>if -(2 ^ 62)<=j/\j<=zW then .e ⟨wI 0 j.toNat,dr⟩ s1 else .d
  |_=>.d
 |.g a b,s=>(evE env a s).bind λx s1=>(evE env b s1).bind λy s2=>match x,y with
  |.c i,.c j=>if -(2 ^ 62)<=i/\i<2 ^ 62∧-(2 ^ 62)<=j/\j<2 ^ 62/\j-i<=zW then .e ⟨wI i (j-i).toNat,dr⟩ s2 else .d
  |_,_=>.d
 |.h a b c,s=>(evE env a s).bind λx s1=>(evE env b s1).bind λy s2=>(evE env c s2).bind λz N=>Pk x y z N
 |.i e,s=>(evE env e s).bind λv s1=>match v with
  |.f vs=>.e ⟨gK 0 vs,dr⟩ s1
  |.h vs=>.e ⟨gK 0 vs,dr⟩ s1
  |_=>.d
 |.j a b,s=>(evE env a s).bind λx s1=>(evE env b s1).bind λy s2=>match x,y with
  |.f vs,.f ws=>if ws.length<=vs.length then .e ⟨PK vs ws,dr⟩ s2 else .d
  |_,_=>.d
end
mutual
noncomputable def exS(env:Env):Sm->Sto->Out Fl
 |.h e,s=>(evE Φ G env e s).bind λ_ s1=>.e (.a env) s1
 |.f e,s=>(evE Φ G env e s).bind λv s1=>.e (.b v) s1
 |.s,s=>.e (.b .g) s
 |.g i e,s=>(evE Φ G env e s).bind λv s1=>.e (.a (env.set i (some v))) s1
 |.n is e,s=>(evE Φ G env e s).bind λv s1=>match yZ (.b is) v env with|some env'=>.e (.a env') s1|dr=>.d
 |.q is es,s=>(zY Φ G env es s).bind λvs s1=>if vs.length=is.length then .e (.a ((is.zip vs).foldl (λe p=>e.set p.1 (some p.2)) env)) s1 else .d
 |.u i op e,s=>match env[i]? with
  |some (some (.c x))=>(evE Φ G env e s).bind λv s1=>match v with
   |.c y=>(binOp false op (.c x) (.c y) s1).bind λz s2=>.e (.a (env.set i (some z))) s2
   |_=>.d
  |some (some (.f x))=>if op=.a then (evE Φ G env e s).bind λv s1=>match v with
   |.f y=>(binOp false .a (.f x) (.f y) s1).bind λz s2=>.e (.a (env.set i (some z))) s2
   |_=>.d
   else .d
  |_=>.d
 |.l o i e,s=>(evE Φ G env e s).bind λv s1=>(evE Φ G env o s1).bind λx s2=>(evE Φ G env i s2).bind λy N=>match x,y with
  |.m r,.c k=>(match N[r]? with
   |some (.c vs)=>(match L2.ixN vs.length k with|some j=>.e (.a env) (upd N r (vs.set j v))|dr=>.d)
   |_=>.d)
  |_,_=>.d
 |.j c a b,s=>(evT Φ G env c s).bind λt s1=>if t then zd env a s1 else zd env b s1
 |.k t it b,s=>(yl Φ G env it s).bind λr s1=>vq r t (λe s'=>zd e b s') r.a env s1
 |.m c b,s=>uQ (λe s'=>evT Φ G e c s') (λe s'=>zd e b s') mz env s
 |.r,s=>.e (.a env) s
 |.w,s=>.e (.c env) s
 |.p,s=>.e (.d env) s
 |.d _,_=>.d
 |.v o i e,s=>(evE Φ G env e s).bind λv s1=>(evE Φ G env o s1).bind λx s2=>(evE Φ G env i s2).bind λy N=>match putD x y v N with|some O=>.e (.a env) O|dr=>.d
noncomputable def zd(env:Env):Sms->Sto->Out Fl
 |.f,s=>.e (.a env) s
 |.e c cs,s=>(exS env c s).bind λfl s1=>match fl with
  |.a e=>zd e cs s1
  |fl=>.e fl s1
 |.g i L mid k d o b cs,s=>(zd (env.set i dr) mid s).bind λfl O=>match fl with
  |.a e0=>if vR s=vR O then (zY Φ G e0 L O).bind λvs s1=>if k=0 then .e (.b (.h vs)) s1 else
   if k=1 then (evE Φ G e0 d s1).bind λy s2=>(zT .b (.h vs) y s2).bind λr x=>.e (.b r) x
   else ((evE Φ G e0 d s1).bind λy s2=>((zT .a (.h vs) y s2).truth).bind λr x=>if r then .e true x else tJ Φ G e0 o x).bind λr x=>
    (if r then zd e0 b x else .e (.a e0) x).bind λfl N=>match fl with
   |.a e=>zd e cs N
   |fl=>.e fl N
   else .d
  |_=>.d
end
end
abbrev t7:=Option (Str × List Val × Sto)
abbrev yR:=Str->Nat->List Val->Sto->t7
noncomputable def rq:List Val->Bool
 |[.j _]=>true
 |[.c i,.c j]=>decide (i.natAbs<2 ^ 64)&&decide (j.natAbs<2 ^ 64)
 |_=>false
section
variable (W:Str->Bool)(Φ:Calls)(Ψ:yR)(G:Str->Option Val)
mutual
noncomputable def xE(env:Env):Ex->Sto->t7
 |.h f v es,s=>match zY Φ G env es s with
  |.e vs s1=>Ψ f v vs s1
  |_=>dr
 |.q _ a _,s=>xE env a s
 |.j _ _ a _,s=>xE env a s
 |.l _ _ es,s=>xL env es s
 |.r _ _ _ _ _ it _,s=>xI env it s
 |.z a,s=>xE env a s
 |_,_=>dr
/-- one argument that raises -/
noncomputable def xL(env:Env):Exs->Sto->t7
 |.a a es,s=>match es with
  |.c=>xE env a s
  |.a _ _=>dr
 |.c,_=>dr
/-- what is walked raises -/
noncomputable def xI(env:Env):Itb->Sto->t7
 |.f a,s=>xE env a s
 |_,_=>dr
end
def xT(env:Env):Cn->Sto->t7
 |.a e,s=>match e with
  |.h f v es=>xE Φ Ψ G env (.h f v es) s
  |_=>dr
 |.b c,s=>xT env c s
 |_,_=>dr
mutual
noncomputable def xS(env:Env):Sm->Sto->t7
 |.h e,s=>xE Φ Ψ G env e s
 |.f e,s=>xE Φ Ψ G env e s
 |.g _ e,s=>xE Φ Ψ G env e s
 |.j c a b,s=>match evT Φ G env c s with
  |.e t s1=>if t then xSs env a s1 else xSs env b s1
  |_=>xT Φ Ψ G env c s
 |.d e,s=>match e with
  |.h c _ es=>(match zY Φ G env es s with
   |.e vs s1=>if rq vs&&W c then some (c,vs,s1) else dr
   |_=>dr)
  |_=>dr
 |_,_=>dr
noncomputable def xSs(env:Env):Sms->Sto->t7
 |.f,_=>dr
 |.e c cs,s=>match exS Φ G env c s with
  |.e fl s1=>(match fl with
   |.a e=>xSs e cs s1
   |_=>dr)
  |_=>xS env c s
 |.g _ _ _ _ _ _ _ _,_=>dr
end
end
section
variable {W:Str->Bool}{Φ:Calls}{Ψ:yR}{G:Str->Option Val}{env:Env}{s:Sto}
def XQ:(∀f v es,xE Φ Ψ G env (.h f v es) s=match zY Φ G env es s with
 |.e vs s1=>Ψ f v vs s1
 |_=>dr)/\(∀o a b,xE Φ Ψ G env (.q o a b) s=xE Φ Ψ G env a s)/\(∀m o a b,xE Φ Ψ G env (.j m o a b) s=xE Φ Ψ G env a s)/\(∀f m es,xE Φ Ψ G env (.l f m es) s=xL Φ Ψ G env es s)/\(∀m N fr e t it fs,xE Φ Ψ G env (.r m N fr e t it fs) s=xI Φ Ψ G env it s)/\(∀a,xE Φ Ψ G env (.z a) s=xE Φ Ψ G env a s) /\
 (∀a,xL Φ Ψ G env (.a a .c) s=xE Φ Ψ G env a s)/\(∀a b c,xL Φ Ψ G env (.a a (.a b c)) s=dr)/\(xL Φ Ψ G env .c s=dr)/\(∀a,xI Φ Ψ G env (.f a) s=xE Φ Ψ G env a s) /\
 (∀f v es,xT Φ Ψ G env (.a (.h f v es)) s=xE Φ Ψ G env (.h f v es) s)/\(∀c,xT Φ Ψ G env (.b c) s=xT Φ Ψ G env c s):=
 ⟨λ_ _ _=>rfl,λ_ _ _=>rfl,λ_ _ _ _=>rfl,λ_ _ _=>rfl,λ_ _ _ _ _ _ _=>rfl,λ_=>rfl,λ_=>rfl,λ_ _ _=>rfl,rfl,λ_=>rfl,λ_ _ _=>rfl,λ_=>rfl⟩
def XW:(∀e,xS W Φ Ψ G env (.h e) s=xE Φ Ψ G env e s)/\(∀e,xS W Φ Ψ G env (.f e) s=xE Φ Ψ G env e s)/\(∀i e,xS W Φ Ψ G env (.g i e) s=xE Φ Ψ G env e s)/\(∀c a b,xS W Φ Ψ G env (.j c a b) s=match evT Φ G env c s with
 |.e t s1=>if t then xSs W Φ Ψ G env a s1 else xSs W Φ Ψ G env b s1
 |_=>xT Φ Ψ G env c s)/\(∀c v es,xS W Φ Ψ G env (.d (.h c v es)) s=(match zY Φ G env es s with
  |.e vs s1=>if rq vs&&W c then some (c,vs,s1) else dr
  |_=>dr))/\(∀c cs,xSs W Φ Ψ G env (.e c cs) s=match exS Φ G env c s with
 |.e fl s1=>(match fl with
  |.a e=>xSs W Φ Ψ G e cs s1
  |_=>dr)
 |_=>xS W Φ Ψ G env c s):=
 ⟨λ_=>rfl,λ_=>rfl,λ_ _=>rfl,λ_ _ _=>rfl,λ_ _ _=>rfl,λ_ _=>rfl⟩
end
noncomputable def zS(N:List Str)(vs:List Val):Env:=vs.map some++Aj (N.length-vs.length) dr
def leave(F:Fn)(x:Sto)(v:Val)(s:Sto):Out Val:=
 if F.c then .e v s
 else if wV x s then (match freeze x.length s v with|some N=>.e N (s.take x.length)|dr=>.d) else .d
structure Tbl where
 d:Str->Nat->Option Fn
 b:Str->Option Val
 /-- the defs whose tables the store holds,from its start -/
 f:List Str:=[]
 /-- the classes of exceptions,and what the law's def says of each -/
 e:List (Str × Str):=[]
 /-- which of the law's two defs that try a call is there -/
 c:Bool->Bool:=λ_=>false
noncomputable def zi:List Str->Sto->Bool
 |[],_=>true
 |x::r,.d y::s=>decide (x=y)&&zi r s
 |_::_,_=>false
noncomputable def wg(m:Bool)(w:Str)(as:List Val):Val:=if m then .j w else if w="great" then .f (.j w::as) else .j w
def uU(T:Tbl)(m:Bool)(o:Out Val)(x:t7):Out Val:=match o with
 |.e v s=>.e (if m then v else .j "told") s
 |_=>match x with
  |some (c,as,s)=>(match T.e.lookup c with
   |some w=>.e (wg m w as) s
   |dr=>.d)
  |dr=>.d
noncomputable def UN:Str × List Val × Sto->Out Val
 |(c,as,s)=>if c="TooGreat" then .e (.f as) s else .d
def ba:Out Val->t7->Out Val
 |.e _ s,_=>.e .g s
 |_,some r=>UN r
 |_,dr=>.d
noncomputable def bZ(T:Tbl):Bool:=T.c true&&decide (T.e.lookup ("TooGreat":Str)=some "! great")
def run(T:Tbl)(Φ:Calls)(F:Fn)(vs:List Val)(s:Sto):Out Val:=
 if vs.length=F.b.length then (zd Φ T.b (zS F.N vs) F.a s).bind λfl s1=>match fl with
  |.a _=>leave F s .g s1
  |.b v=>leave F s v s1
  |_=>.d
 else .d
noncomputable def oj:List Val->Option Str
 |.t g::_=>some g
 |_=>dr
mutual
noncomputable def zB(T:Tbl):Nat->Calls
 |0=>λ_ _ _ _=>.d
 |n+1=>λf ver vs s=>match T.d f ver with|some F=>run T (zB T n) F vs s|dr=>if ((decide (ver=100)&&T.c false)||(decide (ver=101)&&T.c true))&&zi T.f s then uU T (decide (ver=101)) (zB T n f 0 vs s) (zO T n f 0 vs s) else (match oj vs with|some g=>if decide (ver=200) then (match T.d g 0 with|some F=>run T (zB T n) F vs.tail s|dr=>.d) else if ((decide (ver=300)&&T.c false)||(decide (ver=301)&&T.c true))&&zi T.f s then uU T (decide (ver=301)) (zB T n g 0 vs.tail s) (zO T n g 0 vs.tail s) else if decide (ver=302)&&bZ T&&zi T.f s then ba (zB T n g 0 vs.tail s) (zO T n g 0 vs.tail s) else .d|dr=>if decide (ver=102)&&bZ T&&zi T.f s then ba (zB T n f 0 vs s) (zO T n f 0 vs s) else .d)
noncomputable def zO(T:Tbl):Nat->yR
 |0=>λ_ _ _ _=>dr
 |n+1=>λf ver vs s=>match T.d f ver with
  |some F=>if vs.length=F.b.length then xSs (λc=>(T.e.lookup c).isSome) (zB T n) (zO T n) T.b (zS F.N vs) F.a s else dr
  |dr=>dr
end
abbrev KF:=Ab
structure Own where
 o:List Addr
 h:List Addr
def Own.no(ρ:Own)(a:Addr):Prop:=a ∉ ρ.o/\a ∉ ρ.h
def KT(K:KF)(a:Addr)(N:List L2.V):Prop:=∃(o:Obj) (x:Array Value) (n:Nat),K.lookup a=some o/\o.cls=.type "tuple"/\o.data=.seq x n/\x.size<=Ap/\L2.Vals N x.toList
def SC(K:KF)(ρ:Own)(H:L2.Hp)(a:Addr)(N:List L2.V):Prop:=(ρ.no a/\L2.Rd H a (.b N)) \/
 ∃(o:Obj) (x:Array Value) (n:Nat),K.lookup a=some o/\o.cls=.type "list"/\o.dict=none/\o.data=.seq x n/\x.size<=Ap/\L2.Vals N x.toList
noncomputable def hk:Option L2.HO->Nat
 |some (.b _)=>1
 |some (.i _)=>2
 |some (.k _)=>3
 |some (.g _)=>4
 |_=>0
mutual
inductive RD(K:KF)(mg:Str->Option Value)(ρ:Own)(H:L2.Hp):Val->L2.V->Prop
 |s:RD K mg ρ H .g .g
 |j (b:Bool):RD K mg ρ H (.e b) (.f b)
 |l (i:Int):RD K mg ρ H (.c i) (.d i)
 |D (x:Str):RD K mg ρ H (.j x) (.e x)
 |m {a:Addr} {vs:List Val} {xs:List L2.V}:ρ.no a->H a=some (.c xs)->RDs K mg ρ H vs xs->RD K mg ρ H (.f vs) (.c a)
 |E {a:Addr} {vs:List Val} {xs:List L2.V}:ρ.no a->H a=some (.b xs)->RDs K mg ρ H vs xs->RD K mg ρ H (.h vs) (.c a)
 |B {a:Addr}:ρ.no a->H a=some (.i [])->RD K mg ρ H .o (.c a)
 |p {a:Addr} {ns:List Int}:KT K a (ns.map L2.V.d)->RD K mg ρ H (.p ns) (.c a)
 |F {a:Addr} {ns:List Int}:SC K ρ H a (ns.map L2.V.d)->RD K mg ρ H (.r ns) (.c a)
 |C {a:Addr} {i:Nat}:ρ.o[i]?=some a->hk (H a)=1->RD K mg ρ H (.m i) (.c a)
 |A {a:Addr} {i:Nat}:ρ.o[i]?=some a->1<hk (H a)->RD K mg ρ H (.q i) (.c a)
 |I {x:Str} {f:Addr}:mg x=some (.ref f)->RD K mg ρ H (.t x) (.c f)
 |J (n:String):RD K mg ρ H (.u n) (.k n)
 |G (a k:Nat):RD K mg ρ H (.s a k) (.c a)
inductive RDs(K:KF)(mg:Str->Option Value)(ρ:Own)(H:L2.Hp):List Val->List L2.V->Prop
 |d:RDs K mg ρ H [] []
 |a {v:Val} {x:L2.V} {vs:List Val} {xs:List L2.V}:RD K mg ρ H v x->RDs K mg ρ H vs xs->RDs K mg ρ H (v::vs) (x::xs)
end
noncomputable def aW(x:Str):Str:=(x++(".<locals>.":Str))++("<lambda>":Str)
def RA(K:KF)(mg:Str->Option Value)(ρ:Own)(H:L2.Hp)(P:Addr)(x:Str):Prop:=∃ps,H P=some (.g ps)/\DZ ps.toList /\
 (∀(pos:Pos) (N:Value),DY pos ps.toList=some N->∃(c:Addr) (o:Obj) (vs:Array Value) (t:Tok),N=.ref c/\ρ.no c/\H c=some (.d o (.e 0))/\o.data=.fields vs/\vs[1]?=some (.str (aW x) t)) /\
 ∃(fa c:Addr) (o:Obj) (fd:BA),mg x=some (.ref fa)/\K.lookup fa=some o/\o.data=.func fd/\fd.code=.ref c/\∀h:Heap,K.In h->PySem.W.CodeHd h c P
def CR(K:KF)(mg:Str->Option Value)(ρ:Own)(H:L2.Hp)(a:Addr):Cel->Prop
 |.c vs=>∃O,H a=some (.b O)/\RDs K mg ρ H vs O
 |.e kvs=>∃N,H a=some (.i N)/\N.map (·.1)=kvs.map (λp=>Ey p.1)/\RDs K mg ρ H (kvs.map (·.2)) (N.map (·.2))
 |.f kvs=>∃N,H a=some (.k N)/\N.map (·.1)=kvs.map (λp=>p.1.map Ew)/\RDs K mg ρ H (kvs.map (·.2)) (N.map (·.2))
 |.d x=>RA K mg ρ H a x
structure HR(K:KF)(mg:Str->Option Value)(ρ:Own)(s:Sto)(H:L2.Hp):Prop where
 f:ρ.o.length=s.length
 v:ρ.o.Nodup
 m:∀(i:Nat) (c:Cel),s[i]?=some c->∃a:Addr,ρ.o[i]?=some a/\CR K mg ρ H a c
 d:∀a∈ρ.h,(∃xs,H a=some (.b xs))/\a ∉ ρ.o
structure Ext(ρ:Own)(H:L2.Hp)(ρ':Own)(H':L2.Hp):Prop where
 d:∃new:List Addr,ρ'.o=ρ.o++new/\∀a∈new,H a=none
 f:ρ'.h=ρ.h
 c:∀(a:Addr) (o:L2.HO),H a=some o->a ∉ ρ.o->H' a=some o
 g:∀a∈ρ.o,hk (H' a)=hk (H a)
structure ER(K:KF)(mg:Str->Option Value)(ρ:Own)(H:L2.Hp)(env:Env)(σ:L2.St):Prop where
 b:env.length=σ.length
 a:∀(i:Nat) (v:Val),env[i]?=some (some v)->∃x:L2.V,σ[i]?=some (some x)/\RD K mg ρ H v x
section
variable {K:KF}{mg:Str->Option Value}{ρ ρ' ρ'':Own}{H H' H'':L2.Hp}{s s':Sto}
def HR.obj(h:HR K mg ρ s H)(i:Nat)vs(e:s[i]?=some (Cel.c vs)):∃(a:Addr) (x:List L2.V),ρ.o[i]?=some a/\H a=some (.b x)/\RDs K mg ρ H vs x:=by refine byG λO N=>?_;obtain⟨a,e1,x,e2,r⟩:=h.m i _ e;refine N ?_;exact⟨a,x,e1,e2,r⟩
def CR.there(h:CR K mg ρ H a c):∃o,H a=some o:=by
 cases c with
 |c vs=>obtain⟨O,e,_⟩:=h;exact⟨_,e⟩
 |e N=>obtain⟨O,e,_⟩:=h;exact⟨_,e⟩
 |f N=>obtain⟨O,e,_⟩:=h;exact⟨_,e⟩
 |d x=>obtain⟨ps,e,_⟩:=h;exact⟨_,e⟩
theorem CR.hk{a:Addr}{c:Cel}(h:CR K mg ρ H a c):0<hk (H a):=by
 cases c with
 |c vs=>obtain⟨O,e,_⟩:=h;rw[e];exact CZ 0
 |e N=>obtain⟨O,e,_⟩:=h;rw[e];exact EC rfl
 |f N=>obtain⟨O,e,_⟩:=h;rw[e];exact EC rfl
 |d x=>obtain⟨ps,e,_⟩:=h;rw[e];exact EC rfl
def HR.trk(h:HR K mg ρ s H)(N:a∈ρ.o):∃o,H a=some o:=by
 obtain⟨i,hi,e⟩:=BG N;have x:i<s.length:=by rw[<-h.f];exact hi
 obtain⟨b,e1,e2⟩:=h.m i _ (Ai x);rw[Ai hi,e]at e1;cases e1;exact e2.there
def jB(h:hk (H a)=1):∃x,H a=some (.b x):=by
 cases e:H a with
 |none=>rw[e]at h;cases h
 |some o=>
  rw[e]at h;cases o with
  |b x=>exact⟨x,rfl⟩
  |_=>cases h
def HR.new(h:HR K mg ρ s H)(hp:H p=none):ρ.no p:=by
 refine⟨λx=>?_,λx=>?_⟩
 . obtain⟨N,e⟩:=h.trk x
   rw[hp]at e;cases e
 . obtain⟨⟨N,e⟩,_⟩:=h.d p x
   rw[hp]at e;cases e
def Ext.refl:Ext ρ H ρ H:=⟨⟨[],by simp,λa x=>by cases x⟩,rfl,λa o e _=>e,λ_ _=>rfl⟩
def Ext.R3(x:Ext ρ H ρ' H')(e:H a=some o)(n:ρ.no a):ρ'.no a:=by
 obtain⟨new,e1,O⟩:=x.d;refine⟨?_,by rw[x.f];exact n.2⟩
 rw[e1];intro N;rcases A3.mp N with N|N
 . exact n.1 N
 . rw[O a N]at e;cases e
def Ext.get(x:Ext ρ H ρ' H'){i:Nat}(e:ρ.o[i]?=some a):ρ'.o[i]?=some a:=by obtain⟨new,e1,N⟩:=x.d;have hi:i<ρ.o.length:=(Au.mp e).1;rw[e1,A7 hi];exact e
theorem Ext.trans(x:Ext ρ H ρ' H')(h:HR K mg ρ' s H')(y:Ext ρ' H' ρ'' H''):Ext ρ H ρ'' H'':=by
 obtain⟨new,e1,R⟩:=x.d;obtain⟨P,e2,Q⟩:=y.d;refine⟨⟨new++P,by rw[e2,e1,Br],λa N=>?_⟩,y.f.trans x.f,λa o e n=>y.c a o (x.c a o e n) ?_,λa N=>(y.g a (by rw[e1];exact Bx _ N)).trans (x.g a N)⟩
 . rcases A3.mp N with N|N
   . exact R a N
   . cases q:H a with
     |none=>rfl
     |some o=>
      by_cases O:a∈ρ.o
      . obtain⟨S,e⟩:=h.trk (a:=a) (by rw[e1];exact Bx _ O)
        rw[Q a N]at e;cases e
      . have:=x.c a o q O
        rw[Q a N]at this;cases this
 . rw[e1]
   intro O;rcases A3.mp O with O|O
   . exact n O
   . rw[R a O]at e;cases e
def SC.sql(h:SC K ρ H a xs):L2.SqL K H a xs:=by
 rcases h with⟨_,h⟩|h
 . exact .inl h
 . exact .inr h
def KT.sqt(h:KT K a xs):L2.SqT K H a xs:=.inr h
structure Mv(ρ:Own)(H:L2.Hp)(ρ':Own)(H':L2.Hp):Prop where
 b:∀(a:Addr) (o:L2.HO),H a=some o->ρ.no a->H' a=some o/\ρ'.no a
 c:∀(i:Nat) (a:Addr),ρ.o[i]?=some a->ρ'.o[i]?=some a
 d:∀a∈ρ.o,hk (H' a)=hk (H a)
def Ext.mv(x:Ext ρ H ρ' H'):Mv ρ H ρ' H':=⟨λa o e n=>⟨x.c a o e n.1,x.R3 e n⟩,λi a e=>x.get e,x.g⟩
def SC.mv(x:Mv ρ H ρ' H')(h:SC K ρ H a xs):SC K ρ' H' a xs:=by
 rcases h with⟨n,h|⟨o,h⟩⟩|h
 . exact .inl ⟨(x.b _ _ h n).2,.inl (x.b _ _ h n).1⟩
 . exact .inl ⟨(x.b _ _ h n).2,.inr ⟨o,(x.b _ _ h n).1⟩⟩
 . exact .inr h
end
mutual
theorem RD.mv{K:KF}{mg:Str->Option Value}{ρ ρ':Own}{H H':L2.Hp}(x:Mv ρ H ρ' H'){v:Val}{u:L2.V}(q:RD K mg ρ H v u):RD K mg ρ' H' v u:=by
 cases q with
 |s=>exact .s
 |j b=>exact .j b
 |l i=>exact .l i
 |D t=>exact .D t
 |m n e r=>exact .m (x.b _ _ e n).2 (x.b _ _ e n).1 (RDs.mv x r)
 |E n e r=>exact .E (x.b _ _ e n).2 (x.b _ _ e n).1 (RDs.mv x r)
 |B n e=>exact .B (x.b _ _ e n).2 (x.b _ _ e n).1
 |p h=>exact .p h
 |F h=>exact .F (h.mv x)
 |C e k=>exact .C (x.c _ _ e) ((x.d _ (A5 e)).trans k)
 |A e k=>exact .A (x.c _ _ e) (by rw[x.d _ (A5 e)];exact k)
 |G a k=>exact .G a k
 |I e=>exact .I e
 |J n=>exact .J n
theorem RDs.mv{K:KF}{mg:Str->Option Value}{ρ ρ':Own}{H H':L2.Hp}(x:Mv ρ H ρ' H'){vs:List Val}{us:List L2.V}(q:RDs K mg ρ H vs us):RDs K mg ρ' H' vs us:=by
 cases q with
 |d=>exact .d
 |a r N=>exact .a (RD.mv x r) (RDs.mv x N)
end
theorem CR.mv(x:Mv ρ H ρ' H')(e:H' a=H a)(h:CR K mg ρ H a c):CR K mg ρ' H' a c:=by
 cases c with
 |c vs=>obtain⟨N,e1,r⟩:=h;exact⟨N,e.trans e1,RDs.mv x r⟩
 |e O=>obtain⟨N,e1,k,r⟩:=h;exact⟨N,e.trans e1,k,RDs.mv x r⟩
 |f O=>obtain⟨N,e1,k,r⟩:=h;exact⟨N,e.trans e1,k,RDs.mv x r⟩
 |d y=>
  obtain⟨ps,e1,k,r,g⟩:=h;refine⟨ps,e.trans e1,k,λpos U S=>?_,g⟩;obtain⟨c,o,vs,t,q1,Q,P,R⟩:=r pos U S;exact⟨c,o,vs,t,q1,(x.b _ _ P Q).2,(x.b _ _ P Q).1,R⟩
def RD.mono(r:RD K mg ρ H v u)(x:Ext ρ H ρ' H'):RD K mg ρ' H' v u:=RD.mv x.mv r
def RDs.mono(r:RDs K mg ρ H v u)(x:Ext ρ H ρ' H'):RDs K mg ρ' H' v u:=RDs.mv x.mv r
section
variable {K:KF}{mg:Str->Option Value}{ρ ρ' ρ'':Own}{H H' H'':L2.Hp}{s s':Sto}
theorem RDs.length(q:RDs K mg ρ H vs xs):vs.length=xs.length:=by
 cases q with
 |d=>rfl
 |a _ r=>rw[AB,AB,r.length]
theorem RDs.get{i:Nat}(q:RDs K mg ρ H vs xs)(e:vs[i]?=some v):∃x,xs[i]?=some x/\RD K mg ρ H v x:=by
 cases q with
 |d=>cases e
 |a r N=>
  cases i with
  |zero=>cases e;exact⟨_,rfl,r⟩
  |succ i=>exact RDs.get (i:=i) N e
theorem RDs.append(p:RDs K mg ρ H vs xs)(q:RDs K mg ρ H ws ys):RDs K mg ρ H (vs++ws) (xs++ys):=by
 cases p with
 |d=>exact q
 |a r x=>exact .a r (x.append q)
theorem RDs.take n(q:RDs K mg ρ H vs xs):RDs K mg ρ H (vs.take n) (xs.take n):=by
 cases n with
 |zero=>exact .d
 |succ n=>cases q with
  |d=>exact .d
  |a r x=>exact .a r (x.take n)
theorem RDs.drop n(q:RDs K mg ρ H vs xs):RDs K mg ρ H (vs.drop n) (xs.drop n):=by
 cases n with
 |zero=>exact q
 |succ n=>cases q with
  |d=>exact .d
  |a _ x=>exact x.drop n
theorem RDs.set(r:RD K mg ρ H v x)i(q:RDs K mg ρ H vs xs):RDs K mg ρ H (vs.set i v) (xs.set i x):=by
 cases q with
 |d=>exact .d
 |a q t=>cases i with
  |zero=>exact .a r t
  |succ i=>exact .a q (RDs.set r i t)
theorem RDs.rep(r:RDs K mg ρ H vs xs):∀k:Nat,RDs K mg ρ H (Aj k vs).flatten (Aj k xs).flatten
 |0=>.d
 |k+1=>by rw[BF,BF,CI,CI];exact r.append (RDs.rep r k)
theorem RDs.pick(r:RDs K mg ρ H vs xs):∀(is:List Nat),RDs K mg ρ H (is.filterMap λi=>vs[i]?) (is.filterMap λi=>xs[i]?)
 |[]=>.d
 |i::is=>by
  rw[Ba,Ba];cases hx:vs[i]? with
  |none=>
   have:xs[i]?=none:=by have N:vs.length<=i:=CL.mp hx;exact CL.mpr (by rw[<-r.length];exact N)
   rw[this];exact RDs.pick r is
  |some v=>
   obtain⟨u,hu,x⟩:=r.get hx;rw[hu];exact .a x (RDs.pick r is)
theorem RDs.zy(r:RDs K mg ρ H vs xs)lo st n:RDs K mg ρ H (L2.zy vs lo st n) (L2.zy xs lo st n):=by have h:=r.pick ((AR n).map λ(k:Nat)=>(lo+(k:Int)*st).toNat);rw[Ce,Ce]at h;exact h
theorem RDs.ints:∀(ns:List Int),RDs K mg ρ H (ns.map .c) (ns.map .d)
 |[]=>.d
 |n::ns=>.a (.l n) (RDs.ints ns)
def RDs.cut(r:RDs K mg ρ H vs xs)lo hi:RDs K mg ρ H (qf vs lo hi) (L2.oE xs lo hi):=by unfold qf L2.oE;rw[r.length];exact(r.drop _).take _
theorem ai{N:Type}:∀{l:List N} {i j:Nat} {x},l.Nodup->l[i]?=some x->l[j]?=some x->i=j
 |[],_,_,_,_,e,_=>by simp at e
 |a::l,0,0,_,_,_,_=>rfl
 |a::l,0,j+1,x,nd,e1,e2=>by
  simp at e1 e2;subst e1;exact absurd (A5 e2) (B6.mp nd).1
 |a::l,i+1,0,x,nd,e1,e2=>by
  simp at e1 e2;subst e2;exact absurd (A5 e1) (B6.mp nd).1
 |a::l,i+1,j+1,x,nd,e1,e2=>by simp at e1 e2;rw[ai (B6.mp nd).2 e1 e2]
theorem Ext.new(h:HR K mg ρ s H)(hp:H p=none)o:Ext ρ H ρ (L2.upd H p o):=
 ⟨⟨[],by simp,λa x=>by cases x⟩,rfl,λa u e _=>by rw[L2.zG (L2.zR e hp)];exact e,λa x=>by rw[L2.zG λz=>(h.new hp).1 (by rw[<-z];exact x)]⟩
def HR.more(h:HR K mg ρ s H)(hp:H p=none)o:HR K mg ρ s (L2.upd H p o):=by
 refine⟨h.f,h.v,λi c e=>?_,λa N=>?_⟩
 . obtain⟨a,e1,r⟩:=h.m i c e
   obtain⟨u,e2⟩:=r.there;exact⟨a,e1,r.mv (Ext.new h hp o).mv (L2.zG (L2.zR e2 hp))⟩
 . obtain⟨⟨x,e⟩,n⟩:=h.d a N
   exact⟨⟨x,by rw[L2.zG (L2.zR e hp)];exact e⟩,n⟩
noncomputable def Own.more(ρ:Own)(p:Addr):Own:=⟨ρ.o++[p],ρ.h⟩
def Ext.own(h:HR K mg ρ s H)(hp:H p=none)o:Ext ρ H (ρ.more p) (L2.upd H p o):=
 ⟨⟨[p],rfl,λa x=>by rw[AW.mp x];exact hp⟩,rfl,λa u e _=>by rw[L2.zG (L2.zR e hp)];exact e,λa x=>by rw[L2.zG λz=>(h.new hp).1 (by rw[<-z];exact x)]⟩
def qO(h:HR K mg ρ s H)p:(ρ.more p).o[s.length]?=some p:=by show (ρ.o++[p])[s.length]?=some p;rw[<-h.f,BR (Aa _)];simp
def HR.wo(h:HR K mg ρ s H)(hp:H p=none)(r:CR K mg (ρ.more p) (L2.upd H p o) p c):HR K mg (ρ.more p) (s++[c]) (L2.upd H p o):=by
 have X:=Ext.own h hp o;refine⟨by show (ρ.o++[p]).length=_;rw[An,An,h.f];rfl,?_,λi ws q=>?_,λa O=>?_⟩
 . show (ρ.o++[p]).Nodup
   rw[FC];exact⟨h.v,by simp,λa O b Q=>by rw[AW.mp Q];intro z;subst z;exact(h.new hp).1 O⟩
 . by_cases hi:i<s.length
   . rw[A7 hi]at q
     obtain⟨a,e1,t⟩:=h.m i ws q;obtain⟨u,e2⟩:=t.there;exact⟨a,X.get e1,t.mv X.mv (L2.zG (L2.zR e2 hp))⟩
   . have N:i=s.length:=by have:=(Au.mp q).1;rw[An]at this;simp at this;omega
     subst N;rw[BR (Aa _)]at q;simp at q;subst q;exact⟨p,qO h p,r⟩
 . obtain⟨⟨P,q⟩,n⟩:=h.d a O
   refine⟨⟨P,by rw[L2.zG (L2.zR q hp)];exact q⟩,λx=>?_⟩
   rcases A3.mp x with x|x
   . exact n x
   . rw[AW.mp x,hp]at q;cases q
theorem HR.own(h:HR K mg ρ s H)(hp:H p=none)(r:RDs K mg ρ H vs xs):HR K mg (ρ.more p) (s++[.c vs]) (L2.upd H p (.b xs)):=h.wo hp ⟨xs,L2.zJ,r.mono (Ext.own h hp _)⟩
def Ext.rY(h:HR K mg ρ s H){i:Nat}(e:ρ.o[i]?=some a)(k:hk (some o)=hk (H a)):Ext ρ H ρ (L2.upd H a o):=
 ⟨⟨[],by simp,λa x=>by cases x⟩,rfl,λb u q n=>by rw[L2.zG (λz=>n (by rw[z];exact A5 e))];exact q,λb N=>by
   by_cases z:b=a
   . subst z;rw[L2.zJ];exact k
   . rw[L2.zG z]⟩
def Ext.write(h:HR K mg ρ s H){i:Nat}(e:ρ.o[i]?=some a)(k:H a=some (.b ys))xs:Ext ρ H ρ (L2.upd H a (.b xs)):=Ext.rY h e (by rw[k];rfl)
theorem HR.rY(h:HR K mg ρ s H)(e:ρ.o[i]?=some a)(k:hk (some o)=hk (H a))(r:CR K mg ρ (L2.upd H a o) a c):HR K mg ρ (s.set i c) (L2.upd H a o):=by
 have X:=Ext.rY h e k;refine⟨by rw[BN];exact h.f,h.v,λj ws q=>?_,λb x=>?_⟩
 . skip
   by_cases hij:i=j
   . subst hij
     have hi:i<s.length:=by rw[<-h.f];exact(Au.mp e).1
     rw[AJ hi]at q;cases q;exact⟨a,e,r⟩
   . rw[Bk hij]at q
     obtain⟨b,e1,t⟩:=h.m j ws q;refine⟨b,e1,t.mv X.mv ?_⟩;have x:b≠a:=by intro z;subst z;exact hij (ai h.v e e1)
     rw[L2.zG x]
 . obtain⟨⟨N,q⟩,n⟩:=h.d b x
   exact⟨⟨N,by rw[L2.zG (λz=>n (by rw[z];exact A5 e))];exact q⟩,n⟩
theorem HR.write(h:HR K mg ρ s H)(e:ρ.o[i]?=some a)(k:H a=some (.b ys))(r:RDs K mg ρ H vs xs):HR K mg ρ (upd s i vs) (L2.upd H a (.b xs)):=
 h.rY e (by rw[k];rfl) ⟨xs,L2.zJ,r.mono (Ext.write h e k xs)⟩
theorem ER.mono(x:Ext ρ H ρ' H')(h:ER K mg ρ H env σ):ER K mg ρ' H' env σ:=⟨h.b,λi v e=>by obtain⟨u,h1,N⟩:=h.a i v e;exact⟨u,h1,N.mono x⟩⟩
theorem ER.set(h:ER K mg ρ H env σ)i(r:RD K mg ρ H v x):ER K mg ρ H (env.set i (some v)) (σ.set i (some x)):=by
 refine⟨by rw[BN,BN,h.b],λj w e=>?_⟩
 by_cases hij:i=j
 . subst hij
   by_cases hi:i<env.length
   . rw[AJ hi]at e
     cases e;exact⟨x,by rw[AJ (by rw[<-h.b];exact hi)],r⟩
   . rw[List.getElem?_eq_none (by rw[BN];omega)]at e
     cases e
 . rw[Bk hij]at e
   rw[Bk hij];exact h.a j w e
end
section
variable (K:KF)(mg:Str->Option Value)
def yU{O N:Type}(R:Own->L2.Hp->O->N->Prop)(ρ:Own)(H:L2.Hp)(o:Out O)(Q:N->L2.Hp->Prop):Prop:=
 match o with
 |.e v s'=>∀ρ' x H',Ext ρ H ρ' H'->HR K mg ρ' s' H'->R ρ' H' v x->Q x H'
 |_=>False
def tV(env:Env)(s:Sto)(o:Out Val):L2.TE:=λσ H Q=>∃ρ,HR K mg ρ s H/\ER K mg ρ H env σ/\yU K mg (RD K mg) ρ H o Q
def tVs(env:Env)(s:Sto)(o:Out (List Val)):L2.TA:=λσ H Q=>∃ρ,HR K mg ρ s H/\ER K mg ρ H env σ/\yU K mg (RDs K mg) ρ H o Q
def tT(env:Env)(s:Sto)(o:Out Bool):L2.TT:=λσ H Q=>∃ρ,HR K mg ρ s H/\ER K mg ρ H env σ/\yU K mg (λ_ _ a b=>a=b) ρ H o Q
def tO(env:Env)(s:Sto)(o:Out (Option Int)):L2.TO:=λσ H Q=>∃ρ,HR K mg ρ s H/\ER K mg ρ H env σ/\yU K mg (λ_ _ a b=>a=b) ρ H o Q
end
def zZ(h:L2.PE X e t)(i:∀σ H Q,t' σ H Q->t σ H Q):L2.PE X e t':=λpins s σ H Q I q=>h pins s σ H Q I (i σ H Q q)
def uS(h:L2.PT X e t)(i:∀σ H Q,t' σ H Q->t σ H Q):L2.PT X e t':=λpins s σ H Q I q=>h pins s σ H Q I (i σ H Q q)
def ZK{t t':L2.TA}(h:L2.PA X es t)(i:∀σ H Q,t' σ H Q->t σ H Q):L2.PA X es t':=λpos pins s σ H Q I q=>h pos pins s σ H Q I (i σ H Q q)
def yF{t t':L2.TS}(h:L2.PS X st t)(i:∀D σ H,t' D σ H->t D σ H):L2.PS X st t':=λpins s σ H D I q=>h pins s σ H D I (i D σ H q)
def wA{t t':L2.TS}(h:L2.PSs X st t)(i:∀D σ H,t' D σ H->t D σ H):L2.PSs X st t':=λpins s σ H D I q=>h pins s σ H D I (i D σ H q)
def yX(h:∀σ H Q,¬t σ H Q):L2.PE X e t:=λpins s σ H Q I q=>(h σ H Q q).elim
def gc(h:∀σ H Q,¬t σ H Q):L2.PT X e t:=λpins s σ H Q I q=>(h σ H Q q).elim
def Qe(h:∀σ H Q,¬t σ H Q):L2.PW X e t:=λx pins s σ H Q I q=>(h σ H Q q).elim
def QN{t:L2.TA}(h:∀σ H Q,¬t σ H Q):L2.PA X es t:=λpos pins s σ H Q I q=>(h σ H Q q).elim
def PF(h:∀v s',o≠.e v s'):¬tV K mg env s o σ H Q:=by
 rintro ⟨ρ,_,_,w⟩;cases o with
 |e v s'=>exact h v s' rfl
 |_=>exact w
def Sf(h:∀v s',o≠.e v s'):¬tVs K mg env s o σ H Q:=by
 rintro ⟨ρ,_,_,w⟩;cases o with
 |e v s'=>exact h v s' rfl
 |_=>exact w
def Vg(h:∀v s',o≠.e v s'):¬tT K mg env s o σ H Q:=by
 rintro ⟨ρ,_,_,w⟩;cases o with
 |e v s'=>exact h v s' rfl
 |_=>exact w
def yj:zW=Ap:=by rw[AK];rfl
section
variable {K:KF}{mg:Str->Option Value}{ρ ρ':Own}{H H':L2.Hp}{s s':Sto}
def wm(O:HR K mg ρ s H)(r:RD K mg ρ H v x)(e:yV s v=some vs):∃a N,x=.c a/\H a=some (.b N)/\RDs K mg ρ H vs N:=by
 cases r with
 |E n h q=>cases e;exact⟨_,_,rfl,h,q⟩
 |@C a i h _=>
  simp only[yV]at e;split at e
  . rename_i ws hw
    cases e;obtain⟨b,N,e1,e2,q⟩:=O.obj i _ hw;rw[h]at e1;cases e1;exact⟨_,_,rfl,e2,q⟩
  . cases e
 |_=>cases e
def iI(O:HR K mg ρ s H)(r:RD K mg ρ H v x)(e:wJ s v=some vs):∃a N,x=.c a/\(L2.SqL K H a N\/L2.SqT K H a N)/\RDs K mg ρ H vs N:=by
 cases r with
 |E n h q=>cases e;exact⟨_,_,rfl,.inl (.of h),q⟩
 |m n h q=>cases e;exact⟨_,_,rfl,.inr (.of h),q⟩
 |p h=>cases e;exact⟨_,_,rfl,.inr h.sqt,RDs.ints _⟩
 |F h=>cases e;exact⟨_,_,rfl,.inl h.sql,RDs.ints _⟩
 |@C a i h _=>
  simp only[wJ]at e;split at e
  . rename_i ws hw
    cases e;obtain⟨b,N,e1,e2,q⟩:=O.obj i _ hw;rw[h]at e1;cases e1;exact⟨_,_,rfl,.inl (.of e2),q⟩
  . cases e
 |_=>cases e
mutual
theorem RD.reads{P:Program}{w:World}{h:Heap}(ok:L2.HOk P w H h){v:Val}{x:L2.V}{u:Value}(q:RD K mg ρ H v x)(N:v.isR=true)(r:L2.RelV x u):∃as,Reads h u v.d as/\(L2.xR v.d=false->B9 ∉ as):=by
 cases q with
 |s=>cases (show u=Be from r);exact⟨[],.none,λ_=>by simp⟩
 |j b=>cases (show u=C7 b from r);exact⟨[],.bool b,λ_=>by simp⟩
 |l i=>obtain⟨t,q⟩:=(show ∃t,u=F9 i t from r);cases q;exact⟨[],.int i t,λ_=>by simp⟩
 |D x=>obtain⟨t,q⟩:=(show ∃t,u=Ga x t from r);cases q;exact⟨[],.str x t,λ_=>by simp⟩
 |@E a vs R n Q S=>
  cases (show u=AH a from r);obtain⟨z,U,n,O,e⟩:=(show L2.z6 P w H h a (.b R) from ok a _ Q);obtain⟨as,q,_⟩:=RDs.reads ok S (by simpa only[Val.isR] using N) O
  exact⟨a::as,.list e rfl rfl (by simpa using q),λz=>by simp[Val.d,L2.xR]at z⟩
 |@m a vs R n Q S=>
  cases (show u=AH a from r);obtain⟨z,U,O,o,e,c,n,dd⟩:=(show L2.z6 P w H h a (.c R) from ok a _ Q);obtain⟨as,q,Z⟩:=RDs.reads ok S (by simpa only[Val.isR] using N) O
  exact⟨as,.tuple e c dd.1 (by simpa using q),λz=>Z (by simpa [Val.d,L2.xR] using z)⟩
 |@B a n Q=>
  cases (show u=AH a from r);obtain⟨z,y,vs,O,o,es,ep,e,c,dd,k⟩:=(show L2.z6 P w H h a (.i []) from ok a _ Q);cases O;have W:es=#[]:=by
   have Y:=k.2.1;cases hl:es.toList with
   |nil=>simpa using hl
   |cons a r=>rw[hl]at Y;cases Y
  subst W;refine⟨[a]++[],Reads.dict (as:=[]) (bs:=[]) e c.1 dd .nil .nil,λ_=>?_⟩;have:a≠B9:=by simpa using y
  simpa using A9 this
 |p _=>cases N
 |F _=>cases N
 |C _ _=>cases N
 |A _ _=>cases N
 |G _ _=>cases N
 |I _=>cases N
 |J _=>cases N
theorem RDs.reads{P:Program}{w:World}{h:Heap}(ok:L2.HOk P w H h){vs:List Val}{O:List L2.V}{us:List Value}(p:RDs K mg ρ H vs O)(N:qB vs=true)(q:L2.Vals O us):∃as,ReadsAll h us (ds vs) as/\(L2.xq (ds vs)=false->B9 ∉ as):=by
 cases p with
 |d=>cases q;exact⟨[],.nil,λ_=>by simp⟩
 |a r Q=>
  cases q with
  |cons q1 R=>
   rw[qB,cf]at N;obtain⟨as,h1,W⟩:=RD.reads ok r N.1 q1;obtain⟨bs,U,S⟩:=RDs.reads ok Q N.2 R;refine⟨as++bs,.cons h1 U,λz=>?_⟩;rw[ds,L2.xq,DB]at z;intro x;rcases A3.mp x with x|x
   . exact W z.1 x
   . exact S z.2 x
end
def sC(ok:L2.HOk P w H h)(U:HR K mg ρ s H)(N:(yp s v).isR=true)(r:RD K mg ρ H v x)(O:L2.RelV x u) :
 ∃as,Reads h u (yp s v).d as/\(L2.xR (yp s v).d=false->B9 ∉ as):=by
 cases v with
 |m i=>
  cases r with
  |@C a _ e0=>
  simp only[yp]at N ⊢;split at N
  . rename_i ws hw
    obtain⟨b,Q,e1,e2,q⟩:=U.obj i _ hw;rw[e0]at e1;cases e1;cases (show u=AH a from O);obtain⟨z,S,n,R,e⟩:=(show L2.z6 P w H h a (.b Q) from ok a _ e2);obtain⟨as,q,_⟩:=RDs.reads ok q (by simpa only[Val.isR] using N) R
    exact⟨a::as,.list e rfl rfl (by simpa using q),λz=>by simp[Val.d,L2.xR]at z⟩
  . cases N
 |_=>exact RD.reads ok r N O
theorem RDs.Zn(ok:L2.HOk P w H h)(N:HR K mg ρ s H):∀{vs} {xs} {us},RDs K mg ρ H vs xs->qB (vs.map (yp s))=true->L2.Vals xs us->∃as,ReadsAll h us (ds (vs.map (yp s))) as/\(L2.xq (ds (vs.map (yp s)))=false->B9 ∉ as)
 |_,_,_,.d,_,r=>by cases r;exact⟨[],.nil,λ_=>by simp⟩
 |_,_,_,.a r rs,hv,q=>by
  cases q with
  |cons q1 O=>
   rw[AZ,qB,cf]at hv;obtain⟨as,h1,S⟩:=sC ok N hv.1 r q1;obtain⟨bs,R,Q⟩:=RDs.Zn ok N rs hv.2 O;rw[AZ];refine⟨as++bs,.cons h1 R,λz=>?_⟩;rw[ds,L2.xq,DB]at z;intro x;rcases A3.mp x with x|x
   . exact S z.1 x
   . exact Q z.2 x
def bB{v:Val}(h:∀vs,v≠.f vs):zw s v=yp s v:=by
 cases v<;>first|rfl|exact absurd rfl (h _)
def xH(ok:L2.HOk P w H h)(Q:HR K mg ρ s H)(N:(zw s v).isR=true)(r:RD K mg ρ H v x)(O:L2.RelV x u) :
 ∃as,Reads h u (zw s v).d as/\(L2.xR (zw s v).d=false->B9 ∉ as):=by
 cases v with
 |f vs=>
  cases r with
  |@m a _ R n Z U=>
   cases (show u=AH a from O);obtain⟨z,Y,S,o,e,c,n,dd⟩:=(show L2.z6 P w H h a (.c R) from ok a _ Z);obtain⟨as,q,W⟩:=RDs.Zn ok Q U (by simpa only[zw,Val.isR] using N) S
   exact⟨as,.tuple e c dd.1 (by simpa using q),λz=>W (by simpa [zw,Val.d,L2.xR] using z)⟩
 |_=>exact(show _ from by rw[bB (λ_ h=>by cases h)]at N ⊢;exact sC ok Q N r O)
mutual
theorem xC:∀{v:Val},v.isD=true->v.isR=true
 |.g,_=>rfl
 |.e _,_=>rfl
 |.c _,_=>rfl
 |.j _,_=>rfl
 |.f vs,h=>by rw[Val.isR];exact vZ (by simpa only[Val.isD] using h)
 |.h vs,h=>by rw[Val.isR];exact vZ (by simpa only[Val.isD] using h)
 |.o,h=>by cases h
 |.p _,h=>by cases h
 |.r _,h=>by cases h
 |.m _,h=>by cases h
 |.t _,h=>by cases h
 |.u _,h=>by cases h
theorem vZ:∀{vs:List Val},tL vs=true->qB vs=true
 |[],_=>rfl
 |v::vs,h=>by rw[tL,cf]at h;rw[qB,xC h.1,vZ h.2];rfl
end
mutual
theorem yB:∀{v:Val},v.isD=true->v.d.canLay0=true
 |.g,_=>rfl
 |.e _,_=>rfl
 |.c _,_=>rfl
 |.j _,h=>by simpa only[Val.isD,Val.d,Gv] using h
 |.f vs,h=>by rw[Val.d,Gv];exact wL (by simpa only[Val.isD] using h)
 |.h vs,h=>by rw[Val.d,Gv];exact wL (by simpa only[Val.isD] using h)
 |.o,h=>by cases h
 |.p _,h=>by cases h
 |.r _,h=>by cases h
 |.m _,h=>by cases h
 |.t _,h=>by cases h
 |.u _,h=>by cases h
theorem wL:∀{vs:List Val},tL vs=true->PyData.canLayAll0 (ds vs)=true
 |[],_=>rfl
 |v::vs,h=>by rw[tL,cf]at h;rw[ds,PyData.canLayAll0,yB h.1,wL h.2];rfl
end
def uh(x:HR K mg ρ s H)(r:RDs K mg ρ H vs xs)(w:yU K mg (RD K mg) ρ H (newList m vs s) Q):∀p,H p=none->Q (.c p) (L2.upd H p (.b xs)):=λp hp=>by
 cases m with
 |true=>exact w _ _ _ (Ext.own x hp _) (x.own hp r) (.C (qO x p) (by rw[L2.zJ];rfl))
 |false=>exact w _ _ _ (Ext.new x hp _) (x.more hp _) (.E (x.new hp) L2.zJ (r.mono (Ext.new x hp _)))
def mF(x:HR K mg ρ s H)(r:RDs K mg ρ H vs xs)(w:yU K mg (RD K mg) ρ H (.e (.f vs) s) Q):∀p,H p=none->Q (.c p) (L2.upd H p (.c xs)):=λp hp=>
 w _ _ _ (Ext.new x hp _) (x.more hp _) (.m (x.new hp) L2.zJ (r.mono (Ext.new x hp _)))
def Ext.same(N:HR K mg ρ s H)(e:L2.wC H H'):Ext ρ H ρ H':=⟨⟨[],by simp,λa x=>by cases x⟩,rfl,λa o h _=>e a o h,λa x=>by obtain⟨o,q⟩:=N.trk x;rw[q,e a o q]⟩
theorem HR.same(x:HR K mg ρ s H)(e:L2.wC H H'):HR K mg ρ s H':=⟨x.f,x.v,λi c q=>by
 obtain⟨a,e1,r⟩:=x.m i c q;obtain⟨o,e2⟩:=r.there;exact⟨a,e1,r.mv (Ext.same x e).mv ((e a _ e2).trans e2.symm)⟩,λa O=>by
 obtain⟨⟨N,q⟩,n⟩:=x.d a O;exact⟨⟨N,e a _ q⟩,n⟩⟩
def uN(N:HR K mg ρ s H)(r:RDs K mg ρ H vs xs)(w:yU K mg (RD K mg) ρ H (.e (.f vs) s) Q):L2.rZ H xs Q:=λp H' e h=>by
 have x:=N.same e;refine w _ _ _ (Ext.same N e) x (.m ⟨λO=>?_,λO=>?_⟩ h (r.mono (Ext.same N e)))
 . obtain⟨i,hi,q⟩:=BG O
   have P:i<s.length:=by rw[<-x.f];exact hi
   obtain⟨b,e1,e2⟩:=x.m i _ (Ai P);rw[Ai hi,q]at e1;cases e1;have:=e2.hk;rw[h]at this;exact absurd this (Bc 0)
 . obtain⟨⟨R,q⟩,_⟩:=x.d _ O
   rw[h]at q;cases q
end
section
variable (K:KF)(mg:Str->Option Value)
def rM2(g:Val->Val->Sto->Out Val):L2.R2:=λx y H Q=>∃ρ s v w,HR K mg ρ s H/\RD K mg ρ H v x/\RD K mg ρ H w y/\yU K mg (RD K mg) ρ H (g v w s) Q
def rMc(g:List Val->Sto->Out Val):List L2.V->L2.Hp->L2.VK->Prop:=λx H Q=>∃ρ s vs,HR K mg ρ s H/\RDs K mg ρ H vs x/\yU K mg (RD K mg) ρ H (g vs s) Q
end
def zP(N:HR K mg ρ s H)(r:RD K mg ρ H v x)(w:yU K mg (RD K mg) ρ H (.e v s) Q):Q x H:=w _ _ _ Ext.refl N r
def jk m:L2.OpR X (BD .Add) (rM2 X.K X.d (binOp m .a)):=by
 intro pins s σ H x y v u Q I R P h;obtain⟨ρ,t,a,b,N,U,S,w⟩:=h;simp only[binOp]at w;split at w
 . cases U;cases S
   exact L2.TU pins s σ H _ _ v u Q I R P ⟨_,_,rfl,rfl,zP N (.l _) w⟩
 . split at w
   . rename_i hz
     cases U;cases S;exact L2.pJ pins s σ H _ _ v u Q I R P ⟨_,_,rfl,rfl,by rw[<-yj];exact hz,zP N (.D _) w⟩
   . exact w.elim
 . split at w
   . rename_i hz
     cases U with
     |m n1 h1 q1=>
      cases S with
      |m n2 W O=>
       refine L2.ax pins s σ H _ _ v u Q I R P ⟨_,_,_,_,rfl,rfl,h1,W,?_,uN N (q1.append O) w⟩;rw[<-q1.length,<-O.length,<-yj];exact hz
   . exact w.elim
 . split at w
   . rename_i ea eb
     split at w
     . rename_i hz
       obtain⟨p1,Z,rfl,h1,q1⟩:=wm N U ea;obtain⟨p2,Y,rfl,W,O⟩:=wm N S eb;refine L2.jr pins s σ H _ _ v u Q I R P ⟨_,_,_,_,rfl,rfl,h1,W,?_,uh N (q1.append O) w⟩;rw[<-q1.length,<-O.length,<-yj];exact hz
     . exact w.elim
   . exact w.elim
def jq m:L2.OpR X (BD .Sub) (rM2 X.K X.d (binOp m .f)):=by
 intro pins s σ H x y v u Q I O N h;obtain⟨ρ,t,a,b,S,R,P,w⟩:=h;simp only[binOp]at w;split at w
 . cases R;cases P
   exact L2.Tb pins s σ H _ _ v u Q I O N ⟨_,_,rfl,rfl,zP S (.l _) w⟩
 . exact w.elim
def jn m:L2.OpR X (BD .Mult) (rM2 X.K X.d (binOp m .b)):=by
 intro pins s σ H x y v u Q I R P h;obtain⟨ρ,t,a,b,N,U,S,w⟩:=h;simp only[binOp]at w;split at w
 . split at w
   . rename_i hz
     cases U;cases S;exact L2.TY pins s σ H _ _ v u Q I R P ⟨_,_,rfl,rfl,hz,zP N (.l _) w⟩
   . exact w.elim
 . split at w
   . rename_i hz
     obtain⟨Y,W,O,Z⟩:=hz;cases U with
     |m n1 h1 q1=>
      cases S;refine L2.X4 pins s σ H _ _ v u Q I R P ⟨_,_,_,rfl,rfl,h1,Y,W,?_,?_,uN N (q1.rep _) w⟩
      . intro e;subst e;cases q1;exact O rfl
      . rw[<-q1.length];exact Z
   . exact w.elim
 . split at w
   . rename_i ea
     split at w
     . rename_i hz
       obtain⟨Y,W,O⟩:=hz;obtain⟨p1,xs,rfl,h1,q1⟩:=wm N U ea;cases S;refine L2.Ta pins s σ H _ _ v u Q I R P ⟨_,_,_,rfl,rfl,h1,⋯,⋯,?_,uh N (q1.rep _) w⟩
       rw[<-q1.length,<-yj];exact O
     . exact w.elim
   . exact w.elim
 . exact w.elim
def lj m:L2.OpR X (BD .FloorDiv) (rM2 X.K X.d (binOp m .d)):=by
 intro pins s σ H x y v u Q I O N h;obtain⟨ρ,t,a,b,S,R,P,w⟩:=h;simp only[binOp]at w;split at w
 . split at w
   . rename_i hz
     cases R;cases P;exact L2.X3 pins s σ H _ _ v u Q I O N ⟨_,_,rfl,rfl,hz,zP S (.l _) w⟩
   . exact w.elim
 . exact w.elim
def jm m:L2.OpR X (BD .Mod) (rM2 X.K X.d (binOp m .c)):=by
 intro pins s σ H x y v u Q I O N h;obtain⟨ρ,t,a,b,S,R,P,w⟩:=h;simp only[binOp]at w;split at w
 . split at w
   . rename_i hz
     cases R;cases P;exact L2.TX pins s σ H _ _ v u Q I O N ⟨_,_,rfl,rfl,hz,zP S (.l _) w⟩
   . exact w.elim
 . exact w.elim
def jo m:L2.OpR X (BD .Pow) (rM2 X.K X.d (binOp m .e)):=by
 intro pins s σ H x y v u Q I O N h;obtain⟨ρ,t,a,b,S,R,P,w⟩:=h;simp only[binOp]at w;split at w
 . split at w
   . rename_i hz
     cases R;cases P;exact L2.TZ pins s σ H _ _ v u Q I O N ⟨_,_,rfl,rfl,hz,zP S (.l _) w⟩
   . exact w.elim
 . exact w.elim
end M
end
section
namespace L2
open PySem PyProof PyProof.Rows
section
variable {κ:Type} [DecidableEq κ]
theorem KV.length{x:List (κ × V)}{vs:List (κ × Value)}(r:KV x vs):x.length=vs.length:=GF r
end
def Inv.big(I:Inv X pins σ H s):B9<s.heap.objs.size:=by have h:AM<s.heap.objs.size:=(I.mod.c.keeps I.bk).lt;exact Nat.lt_trans (by decide) h
def bC(h:Heap)(x:B9<h.objs.size):z6 P w H (h.push {cls:=.type "dict",data:=.dict #[]}) h.objs.size (.i []):=
 ⟨Bs _,beq_eq_false_iff_ne.mpr (A9 (AI x)),[],.nil,Heap.DictOf.new h⟩
def bD(h:Heap)(x:B9<h.objs.size):z6 P w H (h.push {cls:=.type "dict",data:=.dict #[]}) h.objs.size (.k []):=
 ⟨Bs _,beq_eq_false_iff_ne.mpr (A9 (AI x)),[],.nil,_,#[],0,AD _ rfl,⟨rfl,rfl,rfl⟩,rfl,rfl,List.nodup_nil⟩
def SY:TE:=λ_ H Q=>∀p,H p=none->Q (.c p) (upd H p (.i []))
def Sa:TE:=λ_ H Q=>∀p,H p=none->Q (.c p) (upd H p (.k []))
def ZS:PE X (.Dict [] [] pos) SY:=λpins s σ H Q I h=>
 FW ⟨.c s.heap.objs.size,_,I.laid (a:=s.heap.objs.size) (o:=.i []) (t':=s.toks) (λ_ _ q=>xd _ q) (Aa _) (bC s.heap I.big),rfl,h _ (I.B.fresh (Aa _))⟩
def ZT:PE X (.Dict [] [] pos) Sa:=λpins s σ H Q I h=>
 FW ⟨.c s.heap.objs.size,_,I.laid (a:=s.heap.objs.size) (o:=.k []) (t':=s.toks) (λ_ _ q=>xd _ q) (Aa _) (bD s.heap I.big),rfl,h _ (I.B.fresh (Aa _))⟩
end L2
end
section
namespace M
open PySem
section
variable {K:KF}{mg:Str->Option Value}{ρ:Own}{H:L2.Hp}{s:Sto}
def RO(K:KF)(mg:Str->Option Value)(ρ:Own)(H:L2.Hp):Option Val->Option L2.V->Prop
 |none,none=>True
 |some v,some x=>RD K mg ρ H v x
 |_,_=>False
theorem RO.isSome(h:RO K mg ρ H o o'):o'.isSome=o.isSome:=by
 cases o with
 |none=>cases o' with|none=>rfl|some _=>exact h.elim
 |some v=>cases o' with|none=>exact h.elim|some _=>rfl
end
section
variable {K:KF}{mg:Str->Option Value}{ρ ρ':Own}{H H':L2.Hp}{s s':Sto}
theorem RD.flat{v:Val}{x:L2.V}(r:RD K mg ρ H v x)(h:flat v=true):L2.wb x=true:=by
 cases r<;>first|rfl|cases h
theorem RD.eqF(r:RD K mg ρ H v x)(q:RD K mg ρ H w y)(h:M.flat v=true)(h':M.flat w=true):L2.eqV x y=M.eqF v w:=by
 cases r<;>first|(cases h;done)|(cases q<;>first|rfl|(cases h';done))
theorem RDs.flat:∀{vs:List Val} {x:List L2.V},RDs K mg ρ H vs x->vs.all flat=true->x.all L2.wb=true
 |_,_,.d,_=>rfl
 |_,_,.a r rs,h=>by rw[CG,cf]at h;rw[CG,r.flat h.1,rs.flat h.2];rfl
theorem RDs.countP(q:RD K mg ρ H w y)(hw:M.flat w=true):∀{vs} {xs},RDs K mg ρ H vs xs->vs.all M.flat=true->(xs.countP λz=>L2.eqV z y)=vs.countP λz=>M.eqF z w
 |_,_,.d,_=>rfl
 |_,_,.a r rs,h=>by rw[CG,cf]at h;rw[Dz,Dz,r.eqF q h.1 hw,RDs.countP q hw rs h.2]
theorem RDs.bools:∀{vs} {xs} {bs},RDs K mg ρ H vs xs->boolsOf vs=some bs->xs=bs.map L2.V.f
 |_,_,_,.d,h=>by cases h;rfl
 |_,_,_,.a r rs,h=>by
  cases r with
  |j b=>
   simp only[boolsOf,BC]at h;obtain⟨N,h1,x⟩:=h;subst x;rw[rs.bools h1];rfl
  |_=>cases h
theorem RDs.lN:∀{vs} {xs} {ns},RDs K mg ρ H vs xs->intsOf vs=some ns->xs=ns.map L2.V.d
 |_,_,_,.d,h=>by cases h;rfl
 |_,_,_,.a r rs,h=>by
  cases r with
  |l b=>
   simp only[intsOf,BC]at h;obtain⟨N,h1,x⟩:=h;subst x;rw[rs.lN h1];rfl
  |_=>cases h
def Yh(r:RDs K mg ρ H vs xs)(h:L2.atI vs i=some v):∃x,L2.atI xs i=some x/\RD K mg ρ H v x:=by unfold L2.atI at h ⊢;rw[<-r.length];obtain⟨j,h1,P⟩:=D7.mp h;obtain⟨x,O,N⟩:=r.get P;exact⟨x,by rw[h1];exact O,N⟩
def YE(O:HR K mg ρ s H)(r:RD K mg ρ H v x)(h:truth s v=some b):L2.Yb K x H b:=by
 have hz:∀{vs:List Val} {N:List L2.V},RDs K mg ρ H vs N->vs.isEmpty=N.isEmpty:=λr=>by cases r<;>rfl
 cases r with
 |s=>cases h;rfl
 |j b=>cases h;rfl
 |l i=>cases h;rfl
 |D x=>
  simp only[truth]at h;split at h
  . cases h
    rename_i q;exact⟨by rw[<-yj];exact q,rfl⟩
  . cases h
 |m n e q=>cases h;exact .inr (.inl ⟨_,.of e,by rw[hz q]⟩)
 |E n e q=>cases h;exact .inl ⟨_,.of e,by rw[hz q]⟩
 |B n e=>cases h;exact .inr (.inr ⟨_,e,rfl⟩)
 |p _=>cases h
 |F _=>cases h
 |@C a i e _=>
  simp only[truth]at h;split at h
  . rename_i ws hw
    cases h;obtain⟨c,N,e1,e2,q⟩:=O.obj i _ hw;rw[e]at e1;cases e1;exact .inl ⟨_,.of e2,by rw[hz q]⟩
  . cases h
 |I _=>cases h
 |J _=>cases h
 |A _ _=>cases h
 |G _ _=>cases h
def PJ(O:HR K mg ρ s H)(r:RD K mg ρ H v x)(h:kindOf v=some a):(L2.tx K H x (.type a.nm)):=by
 cases r with
 |s=>cases h;exact .d
 |j b=>cases h;exact .bl b
 |l i=>cases h;exact .c i
 |D x=>cases h;exact .f x
 |m n e q=>cases h;exact .g e
 |E n e q=>cases h;exact .b e
 |B n e=>cases h;exact .dK e
 |C e k=>
  cases h;obtain⟨N,q⟩:=jB k;exact .b q
 |_=>cases h
def Rq(h:tN n=some c):n=c.nm/\c≠.f:=by unfold tN at h;split at h<;>first|(cases h;exact⟨rfl,by decide⟩)|cases h
end
section
variable {X:L2.Cx}{k:Nat}
def Rw(h:tS d=true):L2.W2 d:=by
 unfold tS at h;simp only[cf,decide_eq_true_eq,Aw,As]at h;obtain⟨⟨⟨⟨h1,P⟩,O⟩,N⟩,x⟩:=h;have L:L2.uA d.depth d.weight d:=⟨h1,P,Aa _,Aa _⟩;refine L.Qw O N λz=>?_;rcases x with x|x
 . rw[x]at z;cases z
 . exact x
def eV(O:L2.xN k X.A):L2.OpR X (Bl .Eq) (rM2 X.K X.d (zT .b)):=by
 intro pins s σ H x y v u Q I R P h;obtain⟨ρ,t,a,b,N,U,S,w⟩:=h;simp only[zT,oF]at w;split at w
 . rename_i p q
   cases U;cases S;have e:decide (L2.V.e p=L2.V.e q)=decide (p=q):=by rw[CB];simp
   refine L2.VN pins s σ H _ _ v u Q I R P ⟨rfl,?_⟩;rw[e];exact zP N (.j _) w
 . rename_i a ns
   cases S with
   |p g=>
    by_cases hc:((zw t (.f a)).isD&&(Val.f (ns.map .c)).isD&&decide ((Val.f (ns.map .c)).d.depth<=60))=true
    . rw[if_pos hc]at w
      simp only[cf,decide_eq_true_eq]at hc;obtain⟨as,r1,_⟩:=xH I.B N (xC hc.1.1) U R;obtain⟨its,Z,p1,_⟩:=I.tuple g.sqt;obtain⟨o,ho,Y,n,hd⟩:=id p1;obtain⟨bs,q,_⟩:=RDs.reads I.B (RDs.ints (K:=X.K) (mg:=X.d) (ρ:=ρ) (H:=H) ns) (xC hc.1.2) Z;have W:Reads s.heap u (Val.f (ns.map .c)).d bs:=by cases P;exact .tuple ho Y hd (by simpa using q)
      have hu:=O.b;have hm:=Ep (zw t (.f a)).d.depth (Val.f (ns.map .c)).d.depth;exact SeqAt.compareEq_reads r1 W (yB hc.1.1) (yB hc.1.2) ⋯ ⟨.f _,H,I,rfl,zP N (.j _) w⟩
    . rw[if_neg hc]at w;exact w.elim
 . by_cases hc:((zw t a).isD&&(zw t b).isD&&decide ((zw t b).d.depth<=60))=true
   . rw[if_pos hc]at w
     simp only[cf,decide_eq_true_eq]at hc;obtain⟨as,r1,_⟩:=xH I.B N (xC hc.1.1) U R;obtain⟨bs,W,_⟩:=xH I.B N (xC hc.1.2) S P;have hu:=O.b;have hm:=Ep (zw t a).d.depth (zw t b).d.depth;exact SeqAt.compareEq_reads r1 W (yB hc.1.1) (yB hc.1.2) ⋯ ⟨.f _,H,I,rfl,zP N (.j _) w⟩
   . rw[if_neg hc]at w;exact w.elim
def ef(O:L2.xN k X.A):L2.OpR X (Bl .NotEq) (rM2 X.K X.d (zT .a)):=by
 intro pins s σ H x y v u Q I R P h;obtain⟨ρ,t,a,b,N,U,S,w⟩:=h;simp only[zT,oF]at w;split at w
 . rename_i p q
   cases U;cases S;have e:decide (L2.V.e p=L2.V.e q)=decide (p=q):=by rw[CB];simp
   refine L2.VO pins s σ H _ _ v u Q I R P ⟨rfl,?_⟩;rw[e];exact zP N (.j _) w
 . by_cases hc:((zw t a).isD&&(zw t b).isD&&decide ((zw t b).d.depth<=60))=true
   . rw[if_pos hc]at w
     simp only[cf,decide_eq_true_eq]at hc;obtain⟨as,r1,_⟩:=xH I.B N (xC hc.1.1) U R;obtain⟨bs,W,_⟩:=xH I.B N (xC hc.1.2) S P;have hu:=O.b;have Y:=Ep (zw t a).d.depth (zw t b).d.depth;exact SeqAt.compareNe_reads r1 W (yB hc.1.1) (yB hc.1.2) ⋯ ⟨.f _,H,I,rfl,zP N (.j _) w⟩
   . rw[if_neg hc]at w;exact w.elim
def RD.isNone(r:RD K mg ρ H v x):decide (x=.g)=v.isN:=by
 cases r<;>first|rfl|exact decide_eq_false (λz=>nomatch z)
def eZ:L2.OpR X (Bl .Is) (rM2 X.K X.d (zT .l)):=by
 intro pins s σ H x y v u Q I O N h;obtain⟨ρ,t,a,b,R,P,S,w⟩:=h;cases S with
 |s=>
  refine L2.TV pins s σ H _ _ v u Q I O N ⟨rfl,?_⟩;rw[P.isNone];exact zP R (.j _) w
 |j c=>
  cases P with
  |j d=>cases O;cases N;cases c<;>cases d<;>exact Ae ⟨.f _,H,I,rfl,zP R (.j _) w⟩
  |_=>exact w.elim
 |_=>exact w.elim
def ee:L2.OpR X (Bl .Lt) (rM2 X.K X.d (zT .m)):=by
 intro pins s σ H x y v u Q I O N h;obtain⟨ρ,t,a,b,S,R,P,w⟩:=h;simp only[zT]at w;split at w
 . cases R;cases P
   exact L2.R7 pins s σ H _ _ v u Q I O N ⟨_,_,rfl,rfl,zP S (.j _) w⟩
 . exact w.elim
def ed:L2.OpR X (Bl .LtE) (rM2 X.K X.d (zT .c)):=by
 intro pins s σ H x y v u Q I O N h;obtain⟨ρ,t,a,b,S,R,P,w⟩:=h;simp only[zT]at w;split at w
 . cases R;cases P
   exact L2.R6 pins s σ H _ _ v u Q I O N ⟨_,_,rfl,rfl,zP S (.j _) w⟩
 . exact w.elim
def eY:L2.OpR X (Bl .Gt) (rM2 X.K X.d (zT .g)):=by
 intro pins s σ H x y v u Q I O N h;obtain⟨ρ,t,a,b,S,R,P,w⟩:=h;simp only[zT]at w;split at w
 . cases R;cases P
   exact L2.R5 pins s σ H _ _ v u Q I O N ⟨_,_,rfl,rfl,zP S (.j _) w⟩
 . exact w.elim
def eW:L2.OpR X (Bl .GtE) (rM2 X.K X.d (zT .i)):=by
 intro pins s σ H x y v u Q I O N h;obtain⟨ρ,t,a,b,S,R,P,w⟩:=h;simp only[zT]at w;split at w
 . cases R;cases P
   exact L2.R4 pins s σ H _ _ v u Q I O N ⟨_,_,rfl,rfl,zP S (.j _) w⟩
 . exact w.elim
noncomputable def Cop.op:Cop->CmpOp
 |.b=>.Eq|.a=>.NotEq|.m=>.Lt|.c=>.LtE|.g=>.Gt|.i=>.GtE|.l=>.Is|.d=>.IsNot|.k=>.In|.h=>.NotIn|.j=>.In|.e=>.NotIn|.f=>.NotIn
noncomputable def okC:Cop->Bool
 |.d|.k|.h|.j|.e|.f=>false
 |_=>true
def vj(x:L2.xN k X.A):∀op:Cop,okC op=true->L2.OpR X (Bl op.op) (rM2 X.K X.d (zT op))
 |.b,_=>eV x
 |.a,_=>ef x
 |.m,_=>ee
 |.c,_=>ed
 |.g,_=>eY
 |.i,_=>eW
 |.l,_=>eZ
 |.d,h=>by cases h
 |.k,h=>by cases h
 |.h,h=>by cases h
 |.j,h=>by cases h
 |.e,h=>by cases h
 |.f,h=>by cases h
noncomputable def Bop.op:Bop->Operator
 |.a=>.Add|.f=>.Sub|.b=>.Mult|.d=>.FloorDiv|.c=>.Mod|.e=>.Pow|.h=>.LShift|.i=>.RShift|.g=>.BitAnd
noncomputable def okB:Bop->Bool
 |.h|.i|.g=>false
 |_=>true
def aw m:∀op:Bop,okB op=true->L2.OpR X (BD op.op) (rM2 X.K X.d (binOp m op))
 |.a,_=>jk m
 |.f,_=>jq m
 |.b,_=>jn m
 |.d,_=>lj m
 |.c,_=>jm m
 |.e,_=>jo m
 |.h,h=>by cases h
 |.i,h=>by cases h
 |.g,h=>by cases h
def Rc:L2.IxR X (rM2 X.K X.d vH):=by
 intro N O pins s σ H x y v u Q I Z Y h hs;obtain⟨ρ,t,a,b,R,ra,rb,w⟩:=h;simp only[vH]at w;split at w
 . split at w
   . rename_i vs e
     split at w
     . rename_i z hz
       obtain⟨p,U,rfl,P,q⟩:=iI R ra e;cases rb;obtain⟨S,h1,W⟩:=Yh q hz;refine L2.UW N O pins s σ H _ _ v u Q I Z Y ?_ hs;rcases P with P|P
       . exact .inl ⟨p,U,_,S,rfl,rfl,P,h1,zP R W w⟩
       . exact .inr (.inl ⟨p,U,_,S,rfl,rfl,P,h1,zP R W w⟩)
     . exact w.elim
   . exact w.elim
 . exact w.elim
end
noncomputable def Bf.nm:Bf->Str
 |.a=>"len"|.p=>"all"|.q=>"any"|.h=>"tuple"|.i=>"list"|.g=>"sorted"|.e=>"repr"|.k=>"max"|.l=>"min"|.s=>"sum"|.o=>"int"|.j=>"isinstance"|.c=>"divmod"|.r=>"str"|.d=>"sorted"|.n=>"min"|.b=>"sorted"|.m=>"min"
noncomputable def Bf.val:Bf->Value
 |.a=>.builtin "len"|.p=>.builtin "all"|.q=>.builtin "any"|.h=>.type "tuple"|.i=>.type "list"|.g=>.builtin "sorted"|.e=>.builtin "repr"|.k=>.builtin "max"|.l=>.builtin "min"|.s=>.builtin "sum"|.o=>.type "int"
 |.j=>.builtin "isinstance"|.c=>.builtin "divmod"|.r=>.type "str"|.d=>.builtin "sorted"|.n=>.builtin "min"|.b=>.builtin "sorted"|.m=>.builtin "min"
def Bf.boot:∀f:Bf,Cg f.nm=some f.val
 |.a=>boot_len|.p=>PyProof.Rows.boot_all|.q=>PyProof.Rows.boot_any|.h=>F5|.i=>PyProof.Rows.boot_list|.g=>D2|.e=>PyProof.Rows.boot_repr|.k=>PyProof.Rows.boot_max|.l=>ED
 |.s=>PyProof.Rows.boot_sum|.o=>PyProof.Rows.boot_int|.j=>PyProof.Rows.boot_isinstance|.c=>PyProof.Rows.boot_divmod|.r=>PyProof.Rows.boot_str|.d=>D2|.n=>ED|.b=>D2|.m=>ED
section
variable {X:L2.Cx}{k:Nat}{m:Bool}
def sS(r:RDs K mg ρ H [v] xs):∃x,xs=[x]/\RD K mg ρ H v x:=by
 cases r with
 |a r1 N=>cases N;exact⟨_,rfl,r1⟩
def dF(r:RDs K mg ρ H [v,w] xs):∃x y,xs=[x,y]/\RD K mg ρ H v x/\RD K mg ρ H w y:=by
 cases r with
 |a r1 O=>
  obtain⟨y,rfl,N⟩:=sS O;exact⟨_,_,rfl,r1,N⟩
def cQ:L2.yT X (.builtin "len") (rMc X.K X.d (blt .a m)):=by
 intro pins s σ H U us Q I r h;obtain⟨ρ,t,vs,O,P,w⟩:=h;simp only[blt]at w;split at w
 . split at w
   . rename_i hz
     obtain⟨x,rfl,N⟩:=sS P;cases N;exact L2.nh pins s σ H _ us Q I r ⟨_,rfl,by rw[<-yj];exact hz,zP O (.l _) w⟩
   . exact w.elim
 . split at w
   . rename_i e
     obtain⟨x,rfl,N⟩:=sS P;obtain⟨p,R,rfl,S,q⟩:=iI O N e;refine L2.nZ pins s σ H _ us Q I r ⟨p,R,rfl,S,?_⟩;rw[<-q.length];exact zP O (.l _) w
   . exact w.elim
 . exact w.elim
theorem qb(S:X.j=true):L2.yT X (.builtin "all") (rMc X.K X.d (blt .p m)):=by
 intro pins s σ H W us Q I r h;obtain⟨ρ,t,vs,N,R,w⟩:=h;simp only[blt]at w;split at w
 . split at w
   . rename_i e
     split at w
     . rename_i bs eb
       obtain⟨x,rfl,P⟩:=sS R;obtain⟨p,U,rfl,O,q⟩:=wm N P e;rw[q.bools eb]at O;exact L2.qb S pins s σ H _ us Q I r ⟨p,bs,rfl,.of O,zP N (.j _) w⟩
     . exact w.elim
   . exact w.elim
 . exact w.elim
def kl:L2.yT X (.type "tuple") (rMc X.K X.d (blt .h m)):=by
 intro pins s σ H U us Q I r h;obtain⟨ρ,t,vs,O,P,w⟩:=h;simp only[blt]at w;split at w
 . obtain⟨x,rfl,N⟩:=sS P
   cases N with
   |m n e q=>exact L2.uz pins s σ H _ us Q I r ⟨_,_,rfl,.inr ⟨.of e,zP O (.m n e q) w⟩⟩
 . split at w
   . rename_i e
     obtain⟨x,rfl,N⟩:=sS P;obtain⟨p,R,rfl,S,q⟩:=wm O N e;exact L2.uz pins s σ H _ us Q I r ⟨p,R,rfl,.inl ⟨.of S,mF O q w⟩⟩
   . exact w.elim
 . exact w.elim
def fJ:L2.yT X (.type "list") (rMc X.K X.d (blt .i m)):=by
 intro pins s σ H U us Q I r h;obtain⟨ρ,t,vs,N,R,w⟩:=h;simp only[blt]at w;split at w
 . split at w
   . rename_i e
     obtain⟨x,rfl,P⟩:=sS R;obtain⟨p,O,rfl,S,q⟩:=iI N P e;exact L2.ni pins s σ H _ us Q I r ⟨p,O,rfl,S,uh N q w⟩
   . exact w.elim
 . exact w.elim
def cU(O:L2.xN k X.A):L2.yT X (.builtin "repr") (rMc X.K X.d (blt .e m)):=by
 intro pins s σ H xs us Q I r h;obtain⟨ρ,t,vs,Y,Z,w⟩:=h;simp only[blt]at w;split at w
 . rename_i v
   split at w
   . rename_i hc
     rw[cf]at hc;obtain⟨x,rfl,W⟩:=sS Z;obtain⟨u,rfl,N⟩:=L2.vals1 r;have S:=Rw hc.2;have q:Q (.e (zw t v).d.shown) H:=zP Y (.D _) w;have fin:∀(U:Tok) (tk:Nat),L2.EP X pins σ Q (.str (zw t v).d.shown U) {s with toks:=tk}:=λ_ tk=>⟨.e _,H,I.tok _,⟨_,rfl⟩,q⟩
     obtain⟨as,R,hs⟩:=xH I.B Y hc.1 W N;have fr:∀a,u=.ref a->wpAny (model X.f X.w) X.A (call (.builtin "repr") [u]) (L2.EP X pins σ Q) X.i s:=λa e=>by subst e;refine repr_of_reads' R S.sh (λz=>hs (S.a z)) O.d ?_ (λ_ _ e=>e) (λh' u tk hk=>⟨.e _,H,I.kept hk,⟨_,rfl⟩,q⟩) S.ln;have:=S.dp;have:=O.b;omega
     cases W with
     |s=>cases (show u=Be from N);exact PySem.P.repr_of_none (fin _ _)
     |j b=>cases (show u=C7 b from N);exact PySem.P.repr_of_bool (fin _ _)
     |l i=>obtain⟨t',z⟩:=(show ∃t,u=F9 i t from N);cases z;exact PySem.P.repr_of_int (by simpa [zw,yp,Val.d,PyData.showable] using S.sh) (fin _ _)
     |D x=>obtain⟨t',z⟩:=(show ∃t,u=Ga x t from N);cases z;exact PySem.P.repr_of_str (fin _ _) S.ln
     |m _ _ _=>exact fr _ N
     |E _ _ _=>exact fr _ N
     |B _ _=>exact fr _ N
     |C _ _=>exact fr _ N
     |p _=>exact fr _ N
     |F _=>exact fr _ N
     |I _=>exact fr _ N
     |J _=>exact absurd hc.1 (by simp[zw,yp,Val.isR])
     |A _ _=>exact fr _ N
     |G _ _=>exact fr _ N
   . exact w.elim
 . exact w.elim
def cR(R:X.j=true):L2.yT X (.builtin "max") (rMc X.K X.d (blt .k m)):=by
 intro pins s σ H Y us Q I r h;obtain⟨ρ,t,vs,O,P,w⟩:=h;simp only[blt]at w;split at w
 . obtain⟨x,y,rfl,N,U⟩:=dF P
   cases N;cases U;exact L2.fK R pins s σ H _ us Q I r ⟨_,_,rfl,zP O (.l _) w⟩
 . split at w
   . rename_i ns en
     split at w
     . rename_i hn
       obtain⟨x,rfl,N⟩:=sS P;cases N with
       |m n e q=>
        rw[q.lN en]at e;exact L2.fM R pins s σ H _ us Q I r ⟨_,ns,rfl,.of e,hn,zP O (.l _) w⟩
     . exact w.elim
   . exact w.elim
 . split at w
   . rename_i e
     split at w
     . rename_i ns en
       split at w
       . rename_i hn
         obtain⟨x,rfl,N⟩:=sS P;obtain⟨p,W,rfl,S,q⟩:=wm O N e;rw[q.lN en]at S;exact L2.fL R pins s σ H _ us Q I r ⟨p,ns,rfl,.of S,hn,zP O (.l _) w⟩
       . exact w.elim
     . exact w.elim
   . exact w.elim
 . exact w.elim
def cT(R:X.j=true):L2.yT X (.builtin "min") (rMc X.K X.d (blt .l m)):=by
 intro pins s σ H Y us Q I r h;obtain⟨ρ,t,vs,O,P,w⟩:=h;simp only[blt]at w;split at w
 . obtain⟨x,y,rfl,N,U⟩:=dF P
   cases N;cases U;exact L2.fN R pins s σ H _ us Q I r ⟨_,_,rfl,zP O (.l _) w⟩
 . split at w
   . rename_i ns en
     split at w
     . rename_i hn
       obtain⟨x,rfl,N⟩:=sS P;cases N with
       |m n e q=>
        rw[q.lN en]at e;exact L2.kj R pins s σ H _ us Q I r ⟨_,ns,rfl,.of e,hn,zP O (.l _) w⟩
     . exact w.elim
   . exact w.elim
 . split at w
   . rename_i e
     split at w
     . rename_i ns en
       split at w
       . rename_i hn
         obtain⟨x,rfl,N⟩:=sS P;obtain⟨p,W,rfl,S,q⟩:=wm O N e;rw[q.lN en]at S;exact L2.fO R pins s σ H _ us Q I r ⟨p,ns,rfl,.of S,hn,zP O (.l _) w⟩
       . exact w.elim
     . exact w.elim
   . exact w.elim
 . exact w.elim
def cP:L2.yT X (.type "int") (rMc X.K X.d (blt .o m)):=by
 intro pins s σ H R us Q I r h;obtain⟨ρ,t,vs,P,O,w⟩:=h;simp only[blt]at w;split at w
 . obtain⟨x,rfl,N⟩:=sS O
   cases N;exact L2.oY pins s σ H _ us Q I r (.inl ⟨_,rfl,zP P (.l _) w⟩)
 . obtain⟨x,rfl,N⟩:=sS O
   cases N;exact L2.oY pins s σ H _ us Q I r (.inr ⟨_,rfl,zP P (.l _) w⟩)
 . exact w.elim
theorem qc:L2.yT X (.builtin "isinstance") (rMc X.K X.d (blt .j m)):=by
 intro pins s σ H S us Q I r h;obtain⟨ρ,t,vs,N,R,w⟩:=h;simp only[blt]at w;split at w
 . split at w
   . rename_i ea ec
     obtain⟨x,y,rfl,P,O⟩:=dF R;cases O;obtain⟨e1,e2⟩:=Rq ec;subst e1;exact L2.qc pins s σ H _ us Q I r ⟨_,_,_,_,rfl,PJ N P ea,L2.TH X.K _ _ e2,zP N (.j _) w⟩
   . exact w.elim
 . exact w.elim
theorem uG:L2.yT X (.builtin "divmod") (rMc X.K X.d (blt .c m)):=by
 intro pins s σ H S us Q I r h;obtain⟨ρ,t,vs,R,P,w⟩:=h;simp only[blt]at w;split at w
 . split at w
   . rename_i hz
     obtain⟨x,y,rfl,O,N⟩:=dF P;cases O;cases N;exact L2.uG pins s σ H _ us Q I r ⟨_,_,rfl,hz,mF R (.a (.l _) (.a (.l _) .d)) w⟩
   . exact w.elim
 . exact w.elim
noncomputable def okF:Bf->Bool
 |.q|.g|.s|.r|.d|.n|.b|.m=>false
 |_=>true
def Yl(N:X.j=true)(x:L2.xN k X.A):∀f m,okF f=true->L2.yT X f.val (rMc X.K X.d (blt f m))
 |.a,_,_=>cQ
 |.p,_,_=>qb N
 |.q,_,h=>by cases h
 |.h,_,_=>kl
 |.i,_,_=>fJ
 |.g,_,h=>by cases h
 |.e,_,_=>cU x
 |.k,_,_=>cR N
 |.l,_,_=>cT N
 |.s,_,h=>by cases h
 |.o,_,_=>cP
 |.j,_,_=>qc
 |.c,_,_=>uG
 |.r,_,h=>by cases h
 |.d,_,h=>by cases h
 |.b,_,h=>by cases h
 |.n,_,h=>by cases h
 |.m,_,h=>by cases h
end
noncomputable def Out.isOk{x:Type}:Out x->Bool
 |.e _ _=>true
 |.g _ _ _|.d=>false
def zH{o:Out α}(h:o.isOk=false)v s:o≠.e v s:=λe=>by subst e;cases h
noncomputable def plain:Expr->Bool
 |.Starred ..|.Set ..|.Slice ..=>false
 |_=>true
def zc(h:plain e=true):L2.noStar e=true:=by cases e<;>first|rfl|cases h
def xD(h:plain e=true):DC op e=false:=by cases e<;>first|rfl|cases h
def Zf(h:plain e=true):L2.iw e:=by intro o i;cases e<;>first|rfl|cases h
def zp(h:plain e=true)x:A0 e env x=pure x:=by cases e<;>first|rfl|cases h
noncomputable def qM:Expr->Bool
 |.Call (.Name _ _) [] [] _=>false
 |_=>true
def vW(h:qM o=true):BZ o name env (eval o env)=eval o env:=by
 unfold BZ;split
 . cases h
 . rfl
noncomputable def plainT:Expr->Bool
 |.UnaryOp .Not _ _|.BoolOp ..|.IfExp ..|.Compare ..=>false
 |_=>true
def nB(h:plainT e=true)whole:isTrue e env whole=(do let v <-whole;standAt e.pos;holding [v] (truthy v)):=by
 cases e with
 |UnaryOp op a p=>cases op<;>first|rfl|cases h
 |_=>first|rfl|cases h
def zf:List Expr->Bool
 |[]=>true
 |e::es=>plain e&&zf es
theorem yt:∀{es} {pos} {env},zf es=true->(backTo pos (AA es env)).any (·.1)=false
 |[],_,_,_=>rfl
 |e::es,pos,env,h=>by
  rw[zf,cf]at h;rw[L2.zj (zc h.1)];show (false||(backTo pos (AA es env)).any (·.1))=false
  rw[yt h.2];rfl
def yU.mono(w:yU K mg R ρ H o Q)(x:Ext ρ H ρ' H')(h:HR K mg ρ' s1 H'):yU K mg R ρ' H' o Q:=by
 cases o with
 |e v s'=>exact λρ2 y H2 N P O=>w ρ2 y H2 (x.trans h N) P O
 |_=>exact w
section
variable {X:L2.Cx}{env:Env}{s:Sto}{E a b c:Expr}
def zK{o:Out Val}(h:∀v s',o≠.e v s'):L2.PE X E (tV X.K X.d env s o):=yX λ_ _ _=>PF h
def un1{g:Val->Sto->Out Val}(h:L2.PE X a (tV X.K X.d env s o))(N:∀ta,L2.PE X a ta->L2.PE X E (L2.tUn r ta))
 (op:∀ρ H s1 v x Q,HR X.K X.d ρ s1 H->RD X.K X.d ρ H v x->yU X.K X.d (RD X.K X.d) ρ H (g v s1) Q->r x H Q):L2.PE X E (tV X.K X.d env s (o.bind g)):=by
 cases o with
 |e v s1=>exact zZ (N _ h) λσ H Q ⟨ρ,hr,er,w⟩=>⟨ρ,hr,er,λρ1 x H1 P O r1=>op ρ1 H1 s1 v x Q O r1 (w.mono P O)⟩
 |g _ _ _=>exact zK (zH rfl)
 |d=>exact zK (zH rfl)
def Vt{f2:Sto->Out Val}(h1:L2.PE X a (tV X.K X.d env s o))(Y:∀s1,L2.PE X b (tV X.K X.d env s1 (f2 s1)))
 (N:∀ta tb,L2.PE X a ta->L2.PE X b tb->L2.PE X E (L2.tOp (rM2 X.K X.d g) ta tb)):L2.PE X E (tV X.K X.d env s (o.bind λx s1=>(f2 s1).bind λy s2=>g x y s2)):=by
 cases o with
 |e v s1=>
  show L2.PE X E (tV X.K X.d env s ((f2 s1).bind λy s2=>g v y s2));have R:=Y s1;cases hb:f2 s1 with
  |e w s2=>
   rw[hb]at R;exact zZ (N _ _ h1 R) λσ H Q ⟨ρ,hr,er,wt⟩=>⟨ρ,hr,er,λρ1 x H1 U P r1=>⟨ρ1,P,er.mono U,λρ2 y H2 S O W=>⟨ρ2,s2,v,w,O,r1.mono S,W,wt.mono (U.trans P S) O⟩⟩⟩
  |g _ _ _=>exact zK (zH rfl)
  |d=>exact zK (zH rfl)
 |g _ _ _=>exact zK (zH rfl)
 |d=>exact zK (zH rfl)
def aE{op O:Cop}{o:Out Val}{f2 f3:Sto->Out Val}{k:Nat}{pos:Pos}(k1:okC op=true)(k2:okC O=true)(hr0:L2.xN k X.A)(h1:L2.PE X a (tV X.K X.d env s o))(h2:∀s1,L2.PE X b (tV X.K X.d env s1 (f2 s1)))(h3:∀s1,L2.PE X c (tV X.K X.d env s1 (f3 s1)))(hm:plain c=true) :
 L2.PE X (.Compare a [op.op,O.op] [b,c] pos) (tV X.K X.d env s (o.bind λx s1=>(f2 s1).bind λy s2=>(zT op x y s2).bind λr R=>match r with
  |.e true=>(f3 R).bind λz W=>zT O y z W
  |.e false=>.e (.e false) R
  |_=>.d)):=by
 cases o with
 |e v s1=>
  have h2':=h2 s1;show L2.PE X _ (tV X.K X.d env s ((f2 s1).bind _));cases hb:f2 s1 with
  |e w s2=>
   rw[hb]at h2';show L2.PE X _ (tV X.K X.d env s ((zT op v w s2).bind _));cases hc:zT op v w s2 with
   |e r R=>
    cases r with
    |e t=>
     have h3':=h3 R;have Y:=L2.ZP (pos:=pos) (vj hr0 op k1) (vj hr0 O k2) h1 h2' h3' (show GL [op.op,O.op] [b,c]=false from xD hm);refine zZ Y λσ H Q ⟨ρ,hr,er,wt⟩=>⟨ρ,hr,er,λρ1 x H1 x1 hr1 r1=>⟨ρ1,hr1,er.mono x1,λρ2 y H2 x2 hr2 r2=>⟨ρ2,s2,v,w,hr2,r1.mono x2,r2,?_⟩⟩⟩;rw[hc];intro S z H3 x3 P r3;cases r3;refine⟨t,rfl,?_⟩;have xx:=(x1.trans hr1 x2).trans hr2 x3;have U:=wt.mono xx P;cases t with
     |true=>
      rw[if_pos rfl];refine⟨S,P,er.mono xx,?_⟩;have N:yU X.K X.d (RD X.K X.d) S H3 ((f3 R).bind λz W=>zT O w z W) Q:=U;cases hz:f3 R with
      |e u W=>
       rw[hz]at N;exact λρ4 q H4 x4 Z r4=>⟨ρ4,W,w,u,Z,(r2.mono x3).mono x4,r4,N.mono x4 Z⟩
      |g _ _ _=>rw[hz]at N;exact N
      |d=>rw[hz]at N;exact N
     |false=>
      rw[if_neg Ac];exact zP P (.j false) U
    |_=>exact zK (zH rfl)
   |g _ _ _=>exact zK (zH rfl)
   |d=>exact zK (zH rfl)
  |g _ _ _=>exact zK (zH rfl)
  |d=>exact zK (zH rfl)
 |g _ _ _=>exact zK (zH rfl)
 |d=>exact zK (zH rfl)
def Ut{o:Out Val}{pos:Pos}(h:L2.PE X a (tV X.K X.d env s o)):L2.PE X (.UnaryOp .USub a pos) (tV X.K X.d env s (o.bind λx s1=>match x with|.c i=>.e (.c (-i)) s1|_=>.d)):=by
 refine un1 h (λta q=>L2.QU L2.Su q) λρ H s1 v x Q N r w=>?_;cases r with
 |l i=>exact⟨i,rfl,zP N (.l _) w⟩
 |_=>exact w.elim
def Uu{o:Out Val}{pos:Pos}(h:L2.PE X a (tV X.K X.d env s o)):L2.PE X (.UnaryOp .Not a pos) (tV X.K X.d env s (o.bind λx s1=>match x with|.e b=>.e (.e !b) s1|_=>.d)):=by
 refine un1 (r:=λx H Q=>∃c,x=.f c/\Q (.f (!c)) H) h (λta q=>L2.T3 q) λρ H s1 v x Q N r w=>?_;cases r with
 |j i=>exact⟨i,rfl,zP N (.j _) w⟩
 |_=>exact w.elim
def aC{rest:List Expr}{o:Out Val}{f2:Sto->Out Val}{pos:Pos}(h1:L2.PE X a (tV X.K X.d env s o))(R:∀s1,L2.PE X (.BoolOp .And (b::rest) pos) (tV X.K X.d env s1 (f2 s1))) :
 L2.PE X (.BoolOp .And (a::b::rest) pos) (tV X.K X.d env s (o.bind λx s1=>match x with|.e true=>f2 s1|.e false=>.e (.e false) s1|_=>.d)):=by
 cases o with
 |e v s1=>
  refine zZ (L2.Tt h1 (R s1)) λσ H Q ⟨ρ,hr,er,wt⟩=>⟨ρ,hr,er,λρ1 x H1 P O r1=>?_⟩;have N:=wt.mono P O;cases r1 with
  |j t=>
   refine⟨t,rfl,?_⟩;cases t with
   |true=>exact L2.rF (⟨ρ1,O,er.mono P,N⟩)
   |false=>exact L2.tM (zP O (.j _) N)
  |_=>exact N.elim
 |g _ _ _=>exact zK (zH rfl)
 |d=>exact zK (zH rfl)
def Rk{rest:List Expr}{o:Out Val}{f2:Sto->Out Val}{pos:Pos}(h1:L2.PE X a (tV X.K X.d env s o))(R:∀s1,L2.PE X (.BoolOp .Or (b::rest) pos) (tV X.K X.d env s1 (f2 s1))) :
 L2.PE X (.BoolOp .Or (a::b::rest) pos) (tV X.K X.d env s (o.bind λx s1=>match truth s1 x with|some false=>f2 s1|some true=>.e x s1|dr=>.d)):=by
 cases o with
 |e v s1=>
  refine zZ (L2.T4 h1 (R s1)) λσ H Q ⟨ρ,hr,er,wt⟩=>⟨ρ,hr,er,λρ1 x H1 P O r1=>?_⟩;have N:yU X.K X.d (RD X.K X.d) ρ1 H1 (match truth s1 v with|some false=>f2 s1|some true=>.e v s1|dr=>.d) Q:=wt.mono P O
  cases ht:truth s1 v with
  |none=>rw[ht]at N;exact N.elim
  |some t=>
   rw[ht]at N;refine⟨t,YE O r1 ht,?_⟩;cases t with
   |true=>exact L2.rF (zP O r1 N)
   |false=>exact L2.tM (⟨ρ1,O,er.mono P,N⟩)
 |g _ _ _=>exact zK (zH rfl)
 |d=>exact zK (zH rfl)
def sM{o:Out (List Val)}(h:∀v s',o≠.e v s'):L2.PA X es (tVs X.K X.d env s o):=QN λ_ _ _=>Sf h
def gQ:L2.PA X [] (tVs X.K X.d env s (.e [] s)):=ZK L2.yh λσ H Q ⟨ρ,hr,er,wt⟩=>wt ρ [] H Ext.refl hr .d
def lP{f2:Sto->Out (List Val)}(hp:plain a=true)(h1:L2.PE X a (tV X.K X.d env s o))(W:∀s1,L2.PA X es (tVs X.K X.d env s1 (f2 s1))) :
 L2.PA X (a::es) (tVs X.K X.d env s (o.bind λv s1=>(f2 s1).bind λvs s2=>.e (v::vs) s2)):=by
 cases o with
 |e v s1=>
  have O:=W s1;show L2.PA X _ (tVs X.K X.d env s ((f2 s1).bind _));cases hb:f2 s1 with
  |e ws s2=>
   rw[hb]at O;exact ZK (L2.pac h1 O (zc hp)) λσ H Q ⟨ρ,hr,er,wt⟩=>⟨ρ,hr,er,λρ1 x H1 S N r1=>⟨ρ1,N,er.mono S,λρ2 y H2 R P U=>wt ρ2 _ H2 (S.trans N R) P (.a (r1.mono R) U)⟩⟩
  |g _ _ _=>exact sM (zH rfl)
  |d=>exact sM (zH rfl)
 |g _ _ _=>exact sM (zH rfl)
 |d=>exact sM (zH rfl)
def jN(h:L2.PA X es (tVs X.K X.d env s o)):L2.PE X (.Tuple es k pos) (tV X.K X.d env s (o.bind λvs s1=>if vs.length<=zW then .e (.f vs) s1 else .d)):=by
 cases o with
 |e vs s1=>
  refine zZ (L2.Za h) λσ H Q ⟨ρ,hr,er,wt⟩=>⟨ρ,hr,er,λρ1 P H1 O N r1=>?_⟩;have x:yU X.K X.d (RD X.K X.d) ρ1 H1 (if vs.length<=zW then .e (.f vs) s1 else .d) Q:=wt.mono O N
  by_cases hz:vs.length<=zW
  . rw[if_pos hz]at x
    exact⟨by rw[<-r1.length,<-yj];exact hz,mF N r1 x⟩
  . rw[if_neg hz]at x;exact x.elim
 |g _ _ _=>exact zK (zH rfl)
 |d=>exact zK (zH rfl)
def aG(h:L2.PA X es (tVs X.K X.d env s o)):L2.PE X (.List es pos) (tV X.K X.d env s (o.bind λvs s1=>if vs.length<=zW then newList m vs s1 else .d)):=by
 cases o with
 |e vs s1=>
  refine zZ (L2.rN h) λσ H Q ⟨ρ,hr,er,wt⟩=>⟨ρ,hr,er,λρ1 P H1 O N r1=>?_⟩;have x:yU X.K X.d (RD X.K X.d) ρ1 H1 (if vs.length<=zW then newList m vs s1 else .d) Q:=wt.mono O N
  by_cases hz:vs.length<=zW
  . rw[if_pos hz]at x
    exact⟨by rw[<-r1.length,<-yj];exact hz,uh N r1 x⟩
  . rw[if_neg hz]at x;exact x.elim
 |g _ _ _=>exact zK (zH rfl)
 |d=>exact zK (zH rfl)
def Rj(h:L2.PA X es (tVs X.K X.d env s o))(x:∀t,L2.PA X es t->L2.PE X E (L2.tCB (rMc X.K X.d g) t)):L2.PE X E (tV X.K X.d env s (o.bind g)):=by
 cases o with
 |e vs s1=>exact zZ (x _ h) λσ H Q ⟨ρ,hr,er,wt⟩=>⟨ρ,hr,er,λρ1 P H1 O N r1=>⟨ρ1,s1,vs,N,r1,wt.mono O N⟩⟩
 |g _ _ _=>exact zK (zH rfl)
 |d=>exact zK (zH rfl)
def Us(k1:okF f=true)(U:X.j=true)(S:L2.xN k X.A)(P:L2.Gl X f.nm)(O:X.d f.nm=none)(hp:zf (a::es)=true)(h:L2.PA X (a::es) (tVs X.K X.d env s o)) :
 L2.PE X (.Call (.Name f.nm p) (a::es) [] pos) (tV X.K X.d env s (o.bind (blt f m))):=by
 rw[zf,cf]at hp;refine Rj h λt x=>?_;have Q:=Yl U S f m k1;have R:=f.boot;have st:=L2.zj (es:=es) (env:=X.a) (zc hp.1);have N:=yt (pos:=pos) (env:=X.a) hp.2;cases f with
 |h=>exact L2.xK Q P O R x (by decide) (by decide) st N
 |i=>exact L2.xK Q P O R x (by decide) (by decide) st N
 |o=>exact L2.xK Q P O R x (by decide) (by decide) st N
 |r=>exact L2.xK Q P O R x (by decide) (by decide) st N
 |_=>exact L2.sO Q P O R x (by decide) (by decide) st N
def yG{o:Out Bool}(h:∀v s',o≠.e v s'):L2.PT X E (tT X.K X.d env s o):=gc λ_ _ _=>Vg h
def U2(hp:plainT a=true)(h:L2.PE X a (tV X.K X.d env s o)):L2.PT X a (tT X.K X.d env s o.truth):=by
 cases o with
 |e v s1=>
  refine uS (L2.kC h (nB hp)) λσ H Q ⟨ρ,hr,er,wt⟩=>⟨ρ,hr,er,λρ1 x H1 P O r1=>?_⟩;have N:=wt.mono P O;simp only[Out.truth,zM]at N;cases ht:truth s1 v with
  |none=>rw[ht]at N;exact N.elim
  |some b=>rw[ht]at N;exact⟨b,YE O r1 ht,N _ _ _ Ext.refl O rfl⟩
 |g _ _ _=>exact yG (zH rfl)
 |d=>exact yG (zH rfl)
def U1(h:L2.PT X a (tT X.K X.d env s o)):L2.PT X (.UnaryOp .Not a pos) (tT X.K X.d env s (o.bind λb s1=>.e (!b) s1)):=by
 cases o with
 |e v s1=>exact uS (L2.j6 h) λσ H Q ⟨ρ,hr,er,wt⟩=>⟨ρ,hr,er,λρ1 x H1 O N r1=>by cases r1;exact wt _ _ _ O N rfl⟩
 |g _ _ _=>exact yG (zH rfl)
 |d=>exact yG (zH rfl)
def sR{o:Out Bool}(h:∀v s',o≠.e v s'):L2.PW X E (tT X.K X.d env s o):=Qe λ_ _ _=>Vg h
def jQ:L2.PW X (.BoolOp .And [] pos) (tT X.K X.d env s (.e true s)):=λx pins sh σ H Q I ⟨ρ,hr,er,wt⟩=>PyProof.Rows.isTrue_and_nil ⟨H,I,wt _ _ _ Ext.refl hr rfl⟩
def fv:L2.PW X (.BoolOp .Or [] pos) (tT X.K X.d env s (.e false s)):=λx pins sh σ H Q I ⟨ρ,hr,er,wt⟩=>PyProof.Rows.isTrue_or_nil ⟨H,I,wt _ _ _ Ext.refl hr rfl⟩
def aO{f2:Sto->Out Bool}(h1:L2.PT X a (tT X.K X.d env s o))(Y:∀s1,L2.PW X (.BoolOp .And rest pos) (tT X.K X.d env s1 (f2 s1))) :
 L2.PW X (.BoolOp .And (a::rest) pos) (tT X.K X.d env s (o.bind λb s1=>if b then f2 s1 else .e false s1)):=by
 cases o with
 |e v s1=>
  intro U pins sh σ H Q I h;obtain⟨ρ,W,R,S⟩:=h;refine PyProof.Rows.isTrue_and (L2.thn (h1 pins sh σ H (λc H1=>if c=true then tT X.K X.d env s1 (f2 s1) σ H1 Q else Q false H1) I ⟨ρ,W,R,λρ1 x H1 P N r1=>?_⟩) λc s' ⟨H1,I1,q1⟩=>?_)
  . have O:=S.mono P N
    cases r1;cases v with
    |true=>exact L2.rF (⟨ρ1,N,R.mono P,O⟩)
    |false=>exact L2.tM (O _ _ _ Ext.refl N rfl)
  . cases c with
    |true=>exact Y s1 U pins s' σ H1 Q I1 q1
    |false=>exact⟨H1,I1,q1⟩
 |g _ _ _=>exact sR (zH rfl)
 |d=>exact sR (zH rfl)
def VJ{f2:Sto->Out Bool}(h1:L2.PT X a (tT X.K X.d env s o))(Y:∀s1,L2.PW X (.BoolOp .Or rest pos) (tT X.K X.d env s1 (f2 s1))) :
 L2.PW X (.BoolOp .Or (a::rest) pos) (tT X.K X.d env s (o.bind λb s1=>if b then .e true s1 else f2 s1)):=by
 cases o with
 |e v s1=>
  intro U pins sh σ H Q I h;obtain⟨ρ,W,R,S⟩:=h;refine PyProof.Rows.isTrue_or (L2.thn (h1 pins sh σ H (λc H1=>if c=true then Q true H1 else tT X.K X.d env s1 (f2 s1) σ H1 Q) I ⟨ρ,W,R,λρ1 x H1 P N r1=>?_⟩) λc s' ⟨H1,I1,q1⟩=>?_)
  . have O:=S.mono P N
    cases r1;cases v with
    |true=>exact L2.rF (O _ _ _ Ext.refl N rfl)
    |false=>exact L2.tM (⟨ρ1,N,R.mono P,O⟩)
  . cases c with
    |true=>exact⟨H1,I1,q1⟩
    |false=>exact Y s1 U pins s' σ H1 Q I1 q1
 |g _ _ _=>exact sR (zH rfl)
 |d=>exact sR (zH rfl)
end
section
variable {X:L2.Cx}{env:Env}{s:Sto}{E a b c:Expr}
def Zg{t t':L2.TO}(h:L2.PO X e t)(i:∀σ H Q,t' σ H Q->t σ H Q):L2.PO X e t':=λpins s σ H Q I q=>h pins s σ H Q I (i σ H Q q)
def Q6{o:Out (Option Int)}(h:∀v s',o≠.e v s'):¬tO X.K X.d env s o σ H Q:=by
 rintro ⟨ρ,_,_,w⟩;cases o with
 |e v s'=>exact h v s' rfl
 |_=>exact w
def l9{o:Out (Option Int)}(h:∀v s',o≠.e v s'):L2.PO X e (tO X.K X.d env s o):=λpins sh σ H Q I q=>(Q6 h q).elim
def Rn:L2.PO X none (tO X.K X.d env s (.e none s)):=Zg L2.WM λσ H Q ⟨ρ,hr,er,wt⟩=>wt _ _ _ Ext.refl hr rfl
def Uw{o:Out Val}(h:L2.PE X a (tV X.K X.d env s o)):L2.PO X (some a) (tO X.K X.d env s (o.bind λv s1=>match v with|.c i=>.e (some i) s1|_=>.d)):=by
 cases o with
 |e v s1=>
  refine Zg (L2.WN h) λσ H Q ⟨ρ,hr,er,wt⟩=>⟨ρ,hr,er,λρ1 x H1 P O r1=>?_⟩;have N:=wt.mono P O;cases r1 with
  |l i=>exact⟨i,rfl,N _ _ _ Ext.refl O rfl⟩
  |_=>exact N.elim
 |g _ _ _=>exact l9 (zH rfl)
 |d=>exact l9 (zH rfl)
def rMs(K:KF)(mg:Str->Option Value)(m:Bool):L2.V->Option Int->Option Int->L2.Hp->L2.VK->Prop:=λx lo hi H Q=>∃ρ s v,HR K mg ρ s H/\RD K mg ρ H v x/\yU K mg (RD K mg) ρ H (tU m v lo hi none s) Q
def Qx m:L2.SlR X (rMs X.K X.d m):=by
 intro pins s σ H x v S R lo hi U Q I W hs Z Y h;obtain⟨ρ,t,w,P,O,N⟩:=h;simp only[tU]at N;split at N
 . cases O with
   |m n e q=>exact L2.Wa pins s σ H _ v S R lo hi U Q I W hs Z Y ⟨_,_,rfl,e,uN P (q.cut lo hi) N⟩
 . rename_i heq
   cases heq
 . split at N
   . rename_i e
     obtain⟨p,xs,rfl,hq,q⟩:=wm P O e;exact L2.WZ pins s σ H _ v S R lo hi U Q I W hs Z Y ⟨_,_,rfl,.of hq,uh P (q.cut lo hi) N⟩
   . exact N.elim
 . rename_i heq
   cases heq
def Rl{f2 f3 f4:Sto->Out (Option Int)}(h1:L2.PE X a (tV X.K X.d env s o))(h2:∀s1,L2.PO X lo (tO X.K X.d env s1 (f2 s1)))(h3:∀s1,L2.PO X hi (tO X.K X.d env s1 (f3 s1)))
 (h4:∀s1,L2.PO X st (tO X.K X.d env s1 (f4 s1))) (hst:(st=none/\∀s1,f4 s1=.e none s1)\/∃e,st=some e/\∀s1 s2,f4 s1≠.e none s2) :
 L2.PE X (.Subscript a (.Slice lo hi st p2) pos) (tV X.K X.d env s (o.bind λx s1=>(f2 s1).bind λl s2=>(f3 s2).bind λh s3=>(f4 s3).bind λc s4=>tU m x l h c s4)):=by
 cases o with
 |e v s1=>
  have h2':=h2 s1;show L2.PE X _ (tV X.K X.d env s ((f2 s1).bind _));cases hl:f2 s1 with
  |e l s2=>
   rw[hl]at h2';have h3':=h3 s2;show L2.PE X _ (tV X.K X.d env s ((f3 s2).bind _));cases hh:f3 s2 with
   |e h s3=>
    rw[hh]at h3';have h4':=h4 s3;show L2.PE X _ (tV X.K X.d env s ((f4 s3).bind _));rcases hst with⟨rfl,e4⟩|⟨e,rfl,e4⟩
    . rw[e4 s3]
      refine zZ (L2.ZZ (Qx m) h1 h2' h3') λσ H Q ⟨ρ,hr,er,wt⟩=>⟨ρ,hr,er,λρ1 x H1 W S r1=>⟨ρ1,S,er.mono W,λρ2 y H2 U R r2=>?_⟩⟩;cases r2;refine⟨ρ2,R,(er.mono W).mono U,λρ3 z H3 x3 P r3=>?_⟩;cases r3;exact⟨ρ3,s3,v,P,(r1.mono U).mono x3,wt.mono ((W.trans S U).trans R x3) P⟩
    . cases hc:f4 s3 with
      |e cc s4=>
       rw[hc]at h4';cases cc with
       |none=>exact absurd hc (e4 s3 s4)
       |some O=>
        by_cases hv:∃vs,v=.f vs
        case neg=>
         refine zZ (L2.jw h1 h2' h3' h4') λσ H Q ⟨ρ,hr,er,wt⟩=>⟨ρ,hr,er,λρ1 x H1 W S r1=>⟨ρ1,S,er.mono W,λρ2 y H2 U R r2=>?_⟩⟩;cases r2;refine⟨ρ2,R,(er.mono W).mono U,λρ3 z H3 x3 P r3=>?_⟩;cases r3;refine⟨ρ3,P,((er.mono W).mono U).mono x3,λZ z4 H4 x4 Y r4=>?_⟩;cases r4;have N:yU X.K X.d (RD X.K X.d) Z H4 (tU m v l h (some O) s4) Q:=wt.mono (((W.trans S U).trans R x3).trans P x4) Y;have em:tU m v l h (some O) s4=(match yV s4 v with|some vs=>if O≠0 then newList m (L2.zy vs (L2.uL vs.length l h O).1 O (L2.uL vs.length l h O).2) s4 else .d|dr=>.d):=by
          cases v with
          |f vs=>exact absurd ⟨vs,rfl⟩ hv
          |_=>rfl
         rw[em]at N;cases hl:yV s4 v with
         |none=>rw[hl]at N;exact N.elim
         |some vs=>
          rw[hl]at N;dsimp only at N;obtain⟨p,xs,rfl,hq,q⟩:=wm Y (((r1.mono U).mono x3).mono x4) hl;by_cases c0:O≠0
          . have wt2:yU X.K X.d (RD X.K X.d) Z H4 (newList m (L2.zy vs (L2.uL vs.length l h O).1 O (L2.uL vs.length l h O).2) s4) Q:=by rwa [if_pos c0]at N
            refine⟨p,xs,O,rfl,.of hq,rfl,c0,?_⟩;rw[<-q.length];exact uh Y (q.zy _ _ _) wt2
          . rw[if_neg c0]at N;exact N.elim
        refine zZ (L2.ez h1 h2' h3' h4') λσ H Q ⟨ρ,hr,er,wt⟩=>⟨ρ,hr,er,λρ1 x H1 W S r1=>⟨ρ1,S,er.mono W,λρ2 y H2 U R r2=>?_⟩⟩;cases r2;refine⟨ρ2,R,(er.mono W).mono U,λρ3 z H3 x3 P r3=>?_⟩;cases r3;refine⟨ρ3,P,((er.mono W).mono U).mono x3,λZ z4 H4 x4 Y r4=>?_⟩;cases r4;have xx:=((W.trans S U).trans R x3).trans P x4;have N:yU X.K X.d (RD X.K X.d) Z H4 (tU m v l h (some O) s4) Q:=wt.mono xx Y;have r:=((r1.mono U).mono x3).mono x4;cases r with
        |m n e q=>
         change yU X.K X.d (RD X.K X.d) Z H4 (if O≠0/\(L2.yg (Gg _) l h O).2<=zW then .e (.f (L2.zy _ (L2.yg (Gg _) l h O).1 O (L2.yg (Gg _) l h O).2)) s4 else .d) Q at N
         split at N
         . rename_i hz
           have hlen:=q.length;refine⟨_,_,O,rfl,e,rfl,hz.1,by rw[<-hlen,<-yj];exact hz.2,?_⟩
           rw[<-hlen];exact uN Y (q.zy _ _ _) N
         . exact N.elim
        |_=>obtain⟨_,e⟩:=hv;cases e
      |g _ _ _=>exact zK (zH rfl)
      |d=>exact zK (zH rfl)
   |g _ _ _=>exact zK (zH rfl)
   |d=>exact zK (zH rfl)
  |g _ _ _=>exact zK (zH rfl)
  |d=>exact zK (zH rfl)
 |g _ _ _=>exact zK (zH rfl)
 |d=>exact zK (zH rfl)
noncomputable def Mf.nm:Mf->Str
 |.b=>"count"|.a=>"append"|.c=>"extend"|.f=>"pop"|.d=>"index"|.e=>"join"
noncomputable def okM:Mf->Bool
 |.c|.f|.d|.e=>false
 |_=>true
def aH{f2:Sto->Out Val}(hm:okM f=true)(hs:qM a=true)(hp:plain b=true)(hline:(apos.endLine == cpos.line)=true)(h1:L2.PE X a (tV X.K X.d env s o))(h2:∀s1,L2.PE X b (tV X.K X.d env s1 (f2 s1))) :
 L2.PE X (.Call (.Attribute a f.nm apos) [b] [] cpos) (tV X.K X.d env s (o.bind λx s1=>((f2 s1).bind λv s2=>(Out.e [v] s2:Out (List Val))).bind λvs s2=>xA f x vs s2)):=by
 cases o with
 |e v s1=>
  have U:=h2 s1;show L2.PE X _ (tV X.K X.d env s (((f2 s1).bind λv s2=>(Out.e [v] s2:Out (List Val))).bind λvs s2=>xA f v vs s2));cases hb:f2 s1 with
  |e w s2=>
   rw[hb]at U;show L2.PE X _ (tV X.K X.d env s (xA f v [w] s2));cases f with
   |b=>
    by_cases hv:∃vs,v=.f vs
    . obtain⟨vs,rfl⟩:=hv
      refine zZ (L2.et h1 U (vW hs) (zc hp) hline) λσ H Q ⟨ρ,hr,er,wt⟩=>⟨ρ,hr,er,λρ1 x H1 W P r1=>?_⟩;cases r1 with
      |m n e q=>
       refine⟨⟨_,_,rfl,e⟩,ρ1,P,er.mono W,λρ2 y H2 R O Y=>?_⟩;have N:yU X.K X.d (RD X.K X.d) ρ2 H2 (xA .b (.f vs) [w] s2) Q:=wt.mono (W.trans P R) O;simp only[xA]at N;split at N
       . rename_i hf
         rw[cf]at hf;have Z:=q.mono R;refine⟨_,_,y,rfl,rfl,L2.SqT.of (R.c _ _ e n.1),Y.flat hf.1,Z.flat hf.2,?_⟩;rw[RDs.countP Y hf.1 Z hf.2];exact zP O (.l _) N
       . exact N.elim
    . refine zZ (L2.nA h1 U (vW hs) (zc hp) hline) λσ H Q ⟨ρ,hr,er,wt⟩=>⟨ρ,hr,er,λρ1 x H1 W P r1=>?_⟩
      have N:yU X.K X.d (RD X.K X.d) ρ1 H1 (xA .b v [w] s2) Q:=wt.mono W P;have em:xA .b v [w] s2=(match yV s2 v with|some vs=>if M.flat w&&vs.all M.flat then .e (.c (vs.countP λz=>eqF z w:Nat)) s2 else .d|dr=>.d):=by
       cases v with
       |f vs=>exact absurd ⟨vs,rfl⟩ hv
       |_=>rfl
      rw[em]at N;cases hl:yV s2 v with
      |none=>rw[hl]at N;exact N.elim
      |some vs=>
       rw[hl]at N
       -- the receiver is a list already ahead of the argument
       have ty:L2.tyV X.K "list" x H1:=by
        cases r1 with
        |E n e q=>exact .inl ⟨rfl,_,.of e⟩
        |C e k=>
         obtain⟨xs,q⟩:=jB k;exact .inl ⟨rfl,_,.of q⟩
        |_=>cases hl
       refine⟨ty,ρ1,P,er.mono W,λρ2 y H2 R O Y=>?_⟩;obtain⟨p,xs,rfl,hq,q⟩:=wm O (r1.mono R) hl;have S:=N.mono R O;simp only at S;split at S
       . rename_i hf
         rw[cf]at hf;refine⟨_,_,y,rfl,rfl,L2.SqL.of hq,Y.flat hf.1,q.flat hf.2,?_⟩;rw[RDs.countP Y hf.1 q hf.2];exact zP O (.l _) S
       . exact S.elim
   |a=>
    cases v with
    |m i=>
     refine zZ (L2.oz (es:=[]) h1 U (vW hs) (zc hp) hline) λσ H Q ⟨ρ,hr,er,wt⟩=>⟨ρ,hr,er,λρ1 x H1 W P r1=>?_⟩;cases r1 with
     |C e k=>
      obtain⟨xs,q⟩:=jB k;refine⟨.inl ⟨rfl,_,.of q⟩,ρ1,P,er.mono W,λρ2 y H2 R O Y=>?_⟩;have N:yU X.K X.d (RD X.K X.d) ρ2 H2 (xA .a (.m i) [w] s2) Q:=wt.mono (W.trans P R) O;simp only[xA]at N;split at N
      . rename_i vs hv
        split at N
        . rename_i hz
          obtain⟨b',ys,e1,e2,Z⟩:=O.obj i _ hv;have e':=R.get e;rw[e']at e1;cases e1;refine⟨_,ys,y,rfl,rfl,e2,by rw[<-Z.length,<-yj];exact hz,?_⟩
          exact N _ _ _ (Ext.write O e' e2 _) (O.write e' e2 (Z.append (.a Y .d))) .s
        . exact N.elim
      . exact N.elim
    |_=>exact zK (zH rfl)
   |c=>cases hm
   |f=>cases hm
   |d=>cases hm
   |e=>cases hm
  |g _ _ _=>exact zK (zH rfl)
  |d=>exact zK (zH rfl)
 |g _ _ _=>exact zK (zH rfl)
 |d=>exact zK (zH rfl)
end
def spN(T:Tbl)(K:KF)(mg:Str->Option Value)(n:Nat)(f:Str)(ver:Nat):L2.Sp:=λvs H Q _=>∃ρ s args,HR K mg ρ s H/\RDs K mg ρ H args vs/\yU K mg (RD K mg) ρ H (zB T n f ver args s) Q
structure Callee(T:Tbl)(n:Nat)(X:L2.Cx)(f:Str)(ver:Nat)(F:Fn):Prop where
 a:∃fa fd,X.d f=some (.ref fa)/\B2 X.K (.ref fa)=true/\L2.Binds X.K fd F.b []/\L2.tm X.f X.w X.K X.d X.h L2.CX0 n fa fd F.b (spN T X.K X.d n f ver)
def aD(C:Callee T n X f ver F)(x:L2.xN n X.A)(O:L2.Gl X f)(hd:(f == ("__debug__":Str))=false):L2.PE X (.Call (.Name f p) [] [] pos) (tV X.K X.d env s (zB T n f ver [] s)):=by obtain⟨fa,fd,N,hk,P,hf⟩:=C.a;exact zZ (L2.lx hf x O N hk P .nil L2.VS hd) λσ H Q ⟨ρ,hr,er,wt⟩=>⟨ρ,s,[],hr,.d,wt⟩
def Xd(C:Callee T n X f ver F)(N:L2.xN n X.A)(U:L2.Gl X f)(hd:(f == ("__debug__":Str))=false)(hp:zf es=true)(O:es≠[])(h:L2.PA X es (tVs X.K X.d env s o)) :
 L2.PE X (.Call (.Name f p) es [] pos) (tV X.K X.d env s (o.bind (zB T n f ver))):=by
 obtain⟨fa,fd,S,hk,W,hf⟩:=C.a;cases o with
 |e vs s1=>
  cases es with
  |nil=>exact absurd rfl O
  |cons e es=>
   rw[zf,cf]at hp;refine zZ (L2.mQ hf N U S hk W .nil L2.VS h hd (L2.zj (zc hp.1)) (yt hp.2)) λσ H Q ⟨ρ,hr,er,wt⟩=>⟨ρ,hr,er,λρ1 P H1 R x r1=>?_⟩;show spN T X.K X.d n f ver (P++[]) H1 Q L2.E0;rw[A4];exact⟨ρ1,s1,vs,x,r1,wt.mono R x⟩
 |g _ _ _=>exact zK (zH rfl)
 |d=>exact zK (zH rfl)
def xp:∀{c} {p},(c=true->p)->cond c p True
 |true,_,h=>h rfl
 |false,_,_=>AS
def qe(h:cond c p True)(e:c=true):p:=by subst e;exact h
mutual
theorem RB:∀(a b:Val),cond (a.beq b) (a=b) True
 |.g,b=>by cases b<;>first|exact(rfl:Val.g=Val.g)|exact AS
 |.e x,b=>by cases b with|e y=>exact xp λh=>congrArg Val.e (Cf (show (x == y)=true from h))|_=>exact AS
 |.c x,b=>by cases b with|c y=>exact xp λh=>congrArg Val.c (Cf (show (x == y)=true from h))|_=>exact AS
 |.j x,b=>by cases b with|j y=>exact xp λh=>congrArg Val.j (Cf (show (x == y)=true from h))|_=>exact AS
 |.f x,b=>by cases b with|f y=>exact xp λh=>congrArg Val.f (qe (nX x y) h)|_=>exact AS
 |.h x,b=>by cases b with|h y=>exact xp λh=>congrArg Val.h (qe (nX x y) h)|_=>exact AS
 |.o,b=>by cases b<;>first|exact(rfl:Val.o=Val.o)|exact AS
 |.p x,b=>by cases b with|p y=>exact xp λh=>congrArg Val.p (Cf (show (x == y)=true from h))|_=>exact AS
 |.r x,b=>by cases b with|r y=>exact xp λh=>congrArg Val.r (Cf (show (x == y)=true from h))|_=>exact AS
 |.m x,b=>by cases b with|m y=>exact xp λh=>congrArg Val.m (Cf (show (x == y)=true from h))|_=>exact AS
 |.t x,b=>by cases b with|t y=>exact xp λh=>congrArg Val.t (Cf (show (x == y)=true from h))|_=>exact AS
 |.u x,b=>by cases b with|u y=>exact xp λh=>congrArg Val.u (Cf (show (x == y)=true from h))|_=>exact AS
 |.q x,b=>by cases b with|q y=>exact xp λh=>congrArg Val.q (Cf (show (x == y)=true from h))|_=>exact AS
 |.s x k,b=>by cases b with|s y l=>exact xp λh=>(by rw[show Val.beq (.s x k) (.s y l)=(x == y&&k == l) from rfl,cf]at h;rw[Cf h.1,Cf h.2])|_=>exact AS
theorem nX:∀(a b:List Val),cond (sy a b) (a=b) True
 |[],[]=>(rfl:([]:List Val)=[])
 |[],_::_=>AS
 |_::_,[]=>AS
 |x::xs,y::ys=>xp λh=>by have h:(x.beq y&&sy xs ys)=true:=h;rw[cf]at h;rw[qe (RB x y) h.1,qe (nX xs ys) h.2]
end
def t8(h:sy a b=true):a=b:=qe (nX a b) h
mutual
theorem beq_refl:∀a:Val,a.beq a=true
 |.g=>rfl
 |.e x=>(beq_self_eq_true x:(x == x)=true)
 |.c x=>(beq_self_eq_true x:(x == x)=true)
 |.j x=>(beq_self_eq_true x:(x == x)=true)
 |.f x=>ue x
 |.h x=>ue x
 |.o=>rfl
 |.p x=>(beq_self_eq_true x:(x == x)=true)
 |.r x=>(beq_self_eq_true x:(x == x)=true)
 |.m x=>(beq_self_eq_true x:(x == x)=true)
 |.t x=>(beq_self_eq_true x:(x == x)=true)
 |.u x=>(beq_self_eq_true x:(x == x)=true)
 |.q x=>(beq_self_eq_true x:(x == x)=true)
 |.s x k=>(by rw[show Val.beq (.s x k) (.s x k)=(x == x&&k == k) from rfl,beq_self_eq_true,beq_self_eq_true];rfl)
theorem ue:∀a:List Val,sy a a=true
 |[]=>rfl
 |x::xs=>by rw[sy,beq_refl x,ue xs];rfl
end
section
variable {K:KF}{mg:Str->Option Value}
def Mv.refl:Mv ρ H ρ H:=⟨λa o e n=>⟨e,n⟩,λi a e=>e,λ_ _=>rfl⟩
theorem Mv.trans(x:Mv ρ H ρ1 H1)(y:Mv ρ1 H1 ρ2 H2):Mv ρ H ρ2 H2:=
 ⟨λa o e n=>y.b a o (x.b a o e n).1 (x.b a o e n).2,λi a e=>y.c i a (x.c i a e),λa N=>by obtain⟨i,hi⟩:=List.getElem?_of_mem N;exact(y.d a (A5 (x.c i a hi))).trans (x.d a N)⟩
structure Walk(K:KF)(mg:Str->Option Value)(ρ:Own)(H:L2.Hp)(r:Src)(J:L2.It):Prop where
 b:r.a.length<=zW
 c:∀(ρ2:Own) (H2:L2.Hp) (s2:Sto) (i:Nat) (v:Val),Mv ρ H ρ2 H2->HR K mg ρ2 s2 H2->r.ok s2=true->r.a[i]?=some v->J.c i H2/\∀x H3,J.b i H2 x H3->(H3=H2\/∃p o,H2 p=none/\H3=L2.upd H2 p o)/\RD K mg ρ2 H3 v x
 a:∀(ρ2:Own) (H2:L2.Hp) (s2:Sto) (i:Nat),Mv ρ H ρ2 H2->HR K mg ρ2 s2 H2->r.ok s2=true->i=r.a.length->J.a i H2
def Walk.mv(w:Walk K mg ρ H r J)(x:Mv ρ H ρ1 H1):Walk K mg ρ1 H1 r J:=
 ⟨w.b,λρ2 H2 s2 i v y=>w.c ρ2 H2 s2 i v (x.trans y),λρ2 H2 s2 i y=>w.a ρ2 H2 s2 i (x.trans y)⟩
def d6(H:L2.Hp):Prop:=∀a x,(H a=some (.c x)\/H a=some (.b x))->x.length<=Ap
def pN(h:L2.PI X tg it wi):L2.PI X tg it (λσ H R=>wi σ H λJ H1=>d6 H1->R J H1):=λpins s σ H R I q=>
 L2.thn (h pins s σ H _ I q) λv s1 h1=>L2.thn h1 λN s2 ⟨i,fp,tn,J,H',e,I',T,t0,f,r⟩=>⟨i,fp,tn,J,H',e,I',T,t0,f,r λa x hx=>by
  rcases hx with hx|hx
  . obtain⟨z,_⟩:=(show L2.z6 X.f X.w H' s2.heap a (.c x) from I'.B a _ hx);exact z
  . obtain⟨z,_⟩:=(show L2.z6 X.f X.w H' s2.heap a (.b x) from I'.B a _ hx);exact z⟩
def YN(hz:vs.length<=zW)(n:ρ.no a)(e:H a=some (.c xs))(q:RDs K mg ρ H vs xs):Walk K mg ρ H ⟨vs,none⟩ (L2.Itt K a) where
 b:=hz
 c:=λρ2 H2 s2 i v x P _ O=>by have e2:=(x.b a _ e n).1;have N:=RDs.mv x q;obtain⟨y,h1,Q⟩:=N.get O;refine⟨⟨xs,y,.of e2,h1⟩,λz R ⟨e3,h3⟩=>⟨.inl e3,?_⟩⟩;subst e3;have:=h3 xs (.of e2);rw[h1]at this;cases this;exact Q
 a:=λρ2 H2 s2 i x P _ hi=>⟨xs,.of (x.b a _ e n).1,by rw[<-q.length];exact EO hi.symm⟩
def YL(hz:vs.length<=zW)(n:ρ.no a)(e:H a=some (.b xs))(q:RDs K mg ρ H vs xs):Walk K mg ρ H ⟨vs,none⟩ (L2.Itl K a) where
 b:=hz
 c:=λρ2 H2 s2 i v x P _ O=>by have e2:=(x.b a _ e n).1;have N:=RDs.mv x q;obtain⟨y,h1,Q⟩:=N.get O;refine⟨⟨xs,y,.of e2,h1⟩,λz R ⟨e3,h3⟩=>⟨.inl e3,?_⟩⟩;subst e3;have:=h3 xs (.of e2);rw[h1]at this;cases this;exact Q
 a:=λρ2 H2 s2 i x P _ hi=>⟨xs,.of (x.b a _ e n).1,by rw[<-q.length];exact EO hi.symm⟩
def da{ns:List Int}(k:KT K a (ns.map L2.V.d)):Walk K mg ρ H ⟨ns.map .c,none⟩ (L2.Itt K a) where
 b:=by obtain⟨o,N,n,_,_,_,R,Q⟩:=k;have:=Q.length;simp only[Ak,C6]at this;show (ns.map Val.c).length<=_;rw[Ak,yj,this];exact R
 c:=λρ2 H2 s2 i v x P _ O=>by obtain⟨y,h1,S⟩:=(RDs.ints (K:=K) (mg:=mg) (ρ:=ρ2) (H:=H2) ns).get O;refine⟨⟨_,y,k.sqt,h1⟩,λz U ⟨e3,h3⟩=>⟨.inl e3,?_⟩⟩;subst e3;have:=h3 _ k.sqt;rw[h1]at this;cases this;exact S
 a:=λρ2 H2 s2 i x P _ hi=>⟨_,k.sqt,by rw[Ak];rw[hi];simp⟩
def YM(hz:vs.length<=zW)(e:ρ.o[i0]?=some a):Walk K mg ρ H ⟨vs,some i0⟩ (L2.Itl K a) where
 b:=hz
 c:=λρ2 H2 s2 i v x P N Q=>by
  simp only[Src.ok]at N;split at N
  . rename_i ws hw
    cases t8 N;obtain⟨b,O,e1,e2,q⟩:=P.obj i0 _ hw;rw[x.c _ _ e]at e1;cases e1;obtain⟨y,h1,R⟩:=q.get Q;refine⟨⟨O,y,.of e2,h1⟩,λz S ⟨e3,h3⟩=>⟨.inl e3,?_⟩⟩;subst e3;have:=h3 O (.of e2);rw[h1]at this;cases this;exact R
  . cases N
 a:=λρ2 H2 s2 i x P N hi=>by
  simp only[Src.ok]at N;split at N
  . rename_i ws hw
    cases t8 N;obtain⟨b,O,e1,e2,q⟩:=P.obj i0 _ hw;rw[x.c _ _ e]at e1;cases e1;exact⟨O,.of e2,by rw[<-q.length];exact EO hi.symm⟩
  . cases N
def Zo:(wI lo n)[i]?=if i<n then some (.c (lo+i)) else none:=by
 unfold wI;rw[A1];by_cases h:i<n
 . rw[if_pos h,List.getElem?_range h];rfl
 . rw[if_neg h,List.getElem?_eq_none (by rw[Dl];omega)];rfl
def kF:(wI lo n).length=n:=by unfold wI;rw[Ak,Dl]
def kP(hz:n<=zW):Walk K mg ρ H ⟨wI lo n,none⟩ (L2.Itr lo n) where
 b:=by show (wI lo n).length<=_;rw[kF];exact hz
 c:=λρ2 H2 s2 i v x P _ O=>by
  have N:(wI lo n)[i]?=some v:=O;rw[Zo]at N;split at N
  . rename_i hi
    cases N;refine⟨hi,λz Q ⟨e3,h3⟩=>⟨.inl e3,?_⟩⟩;subst h3;exact .l _
  . cases N
 a:=λρ2 H2 s2 i x P _ hi=>by have:i=(wI lo n).length:=hi;rw[kF]at this;exact EO this.symm
def tI(env:Env)(s:Sto)(o:Out Src):L2.TI:=λσ H R=>∃ρ,HR K mg ρ s H/\ER K mg ρ H env σ/\(match o with
 |.e r s'=>∀ρ' H' J,Ext ρ H ρ' H'->HR K mg ρ' s' H'->Walk K mg ρ' H' r J->R J H'
 |_=>False)
end
section
variable {X:L2.Cx}{env:Env}{s:Sto}{a b tg:Expr}
def rP{t t':L2.TI}(h:L2.PI X tg it t)(i:∀σ H R,t' σ H R->t σ H R):L2.PI X tg it t':=λpins s σ H R I q=>h pins s σ H R I (i σ H R q)
def yr{o:Out Src}(h:∀v s',o≠.e v s'):L2.PI X tg it (tI (K:=X.K) (mg:=X.d) env s o):=λpins sh σ H R I q=>by
 obtain⟨ρ,_,_,w⟩:=q;cases o with
 |e v s'=>exact(h v s' rfl).elim
 |g _ _ _=>exact w.elim
 |d=>exact w.elim
def d6.of(z:d6 H){a}(q:RDs K mg ρ H vs xs)(h:H a=some (.c xs)\/H a=some (.b xs)):vs.length<=zW:=by rw[q.length,yj];exact z a xs h
def Uv{o:Out Val}(h:L2.PE X a (tV X.K X.d env s o)):L2.PI X tg a (tI (K:=X.K) (mg:=X.d) env s (o.bind λv s1=>match srcOf s1 v with|some r=>.e r s1|dr=>.d)):=by
 cases o with
 |e v s1=>
  show L2.PI X tg a (tI (K:=X.K) (mg:=X.d) env s (match srcOf s1 v with|some r=>.e r s1|dr=>.d))
  cases v with
  |f vs=>
   refine rP (pN (L2.Zc h)) λσ H R ⟨ρ,hr,er,w⟩=>⟨ρ,hr,er,λρ1 x H1 O N r1=>?_⟩;cases r1 with
   |m n e q=>exact⟨_,rfl,⟨_,.of e⟩,λz=>w ρ1 H1 _ O N (YN (z.of q (.inl e)) n e q)⟩
  |h vs=>
   refine rP (pN (L2.mS h)) λσ H R ⟨ρ,hr,er,w⟩=>⟨ρ,hr,er,λρ1 x H1 O N r1=>?_⟩;cases r1 with
   |E n e q=>exact⟨_,rfl,⟨_,.of e⟩,λz=>w ρ1 H1 _ O N (YL (z.of q (.inr e)) n e q)⟩
  |p ns=>
   refine rP (L2.Zc h) λσ H R ⟨ρ,hr,er,w⟩=>⟨ρ,hr,er,λρ1 x H1 O N r1=>?_⟩;cases r1 with
   |p k=>exact⟨_,rfl,⟨_,k.sqt⟩,w ρ1 H1 _ O N (da k)⟩
  |m i=>
   simp only[srcOf];cases hs:s1[i]? with
   |none=>exact yr (zH rfl)
   |some cl=>
    cases cl with
    |c vs=>
     refine rP (pN (L2.mS h)) λσ H R ⟨ρ,hr,er,w⟩=>⟨ρ,hr,er,λρ1 x H1 O N r1=>?_⟩;cases r1 with
     |C e=>
      obtain⟨Q,P,e1,e2,q⟩:=N.obj i _ hs;rw[e]at e1;cases e1;exact⟨_,rfl,⟨_,.of e2⟩,λz=>w ρ1 H1 _ O N (YM (z.of q (.inr e2)) e)⟩
    |_=>exact yr (zH rfl)
  |_=>exact yr (zH rfl)
 |g _ _ _=>exact yr (zH rfl)
 |d=>exact yr (zH rfl)
def fq{o:Out Val}{p pos:Pos}(hp:plain a=true)(Q:L2.Gl X "range")(P:X.d "range"=none)(h:L2.PE X a (tV X.K X.d env s o)) :
 L2.PI X tg (.Call (.Name "range" p) [a] [] pos) (tI (K:=X.K) (mg:=X.d) env s (o.bind λx s1=>match x with
  |.c j=>if -(2 ^ 62)<=j/\j<=zW then .e ⟨wI 0 j.toNat,dr⟩ s1 else .d
  |_=>.d)):=by
 cases o with
 |e v s1=>
  have st:AA [a] X.a=[(false,eval a X.a)]:=L2.zj (zc hp);refine rP (L2.dB Q P (L2.pac h L2.yh (zc hp)) st) λσ H R ⟨ρ,hr,er,w⟩=>⟨ρ,hr,er,λρ1 x H1 O N r1=>?_⟩;cases r1 with
  |l j=>
   simp only[zM]at w;by_cases hz:-(2 ^ 62)<=j/\j<=zW
   . rw[if_pos hz]at w
     have S:(zW:Int)<2 ^ 62:=by decide
     exact⟨j,rfl,hz.1,⋯,w ρ1 H1 _ O N (kP ⋯)⟩
   . rw[if_neg hz]at w;exact w.elim
  |_=>exact w.elim
 |g _ _ _=>exact yr (zH rfl)
 |d=>exact yr (zH rfl)
def fu{o:Out Val}{f2:Sto->Out Val}{p pos:Pos}(hp:plain a=true)(P:plain b=true)(hg:L2.Gl X "range")(Z:X.d "range"=none)(h:L2.PE X a (tV X.K X.d env s o))(h2:∀s1,L2.PE X b (tV X.K X.d env s1 (f2 s1))) :
 L2.PI X tg (.Call (.Name "range" p) [a,b] [] pos) (tI (K:=X.K) (mg:=X.d) env s (o.bind λx s1=>(f2 s1).bind λy s2=>match x,y with
  |.c i,.c j=>if -(2 ^ 62)<=i/\i<2 ^ 62∧-(2 ^ 62)<=j/\j<2 ^ 62/\j-i<=zW then .e ⟨wI i (j-i).toNat,dr⟩ s2 else .d
  |_,_=>.d)):=by
 cases o with
 |e v s1=>
  have Q:=h2 s1;simp only[zM];cases hb:f2 s1 with
  |e w s2=>
   rw[hb]at Q;have N:AA [b] X.a=[(false,eval b X.a)]:=L2.zj (zc P);have st:AA [a,b] X.a=[(false,eval a X.a),(false,eval b X.a)]:=by rw[L2.zj (zc hp),N]
   refine rP (L2.dC hg Z (L2.pac h (L2.pac Q L2.yh (zc P)) (zc hp)) st N) λσ H R ⟨ρ,hr,er,wt⟩=>⟨ρ,hr,er,λρ1 x H1 U O r1=>⟨ρ1,O,er.mono U,λρ2 y H2 W S Y=>?_⟩⟩;simp only[zM]at wt;cases r1 with
   |l i=>
    cases Y with
    |l j=>
     simp only at wt;by_cases hz:-(2 ^ 62)<=i/\i<2 ^ 62∧-(2 ^ 62)<=j/\j<2 ^ 62/\j-i<=zW
     . rw[if_pos hz]at wt
       exact⟨i,j,rfl,⟨hz.1,hz.2.1,hz.2.2.1,hz.2.2.2.1⟩,wt ρ2 H2 _ (U.trans O W) S (kP ⋯)⟩
     . rw[if_neg hz]at wt;exact wt.elim
    |_=>exact wt.elim
   |_=>exact wt.elim
  |g _ _ _=>exact yr (zH rfl)
  |d=>exact yr (zH rfl)
 |g _ _ _=>exact yr (zH rfl)
 |d=>exact yr (zH rfl)
end
def oA(K:KF)(mg:Str->Option Value)(t:Tgt)(g:L2.TG):Prop:=∀(ρ:Own) (s:Sto) (H:L2.Hp) (v:Val) (x:L2.V) (env env':Env) (σ:L2.St) (Q:L2.St->L2.Hp->Prop),HR K mg ρ s H->RD K mg ρ H v x->ER K mg ρ H env σ->yZ t v env=some env' ->
 (∀N,ER K mg ρ H env' N->Q N H)->g x σ H Q
def g7:oA K mg (.a i) (L2.xh i):=λρ s H v x env env' σ Q O r N e q=>by
 cases e;exact q _ (N.set i r)
def qv:List Nat->L2.TGs
 |[]=>L2.RQ
 |i::is=>L2.VD (L2.xh i) (qv is)
theorem ow:∀{is} {vs} {xs} {env} {σ},RDs K mg ρ H vs xs->ER K mg ρ H env σ->vs.length=is.length ->
 (∀N,ER K mg ρ H ((is.zip vs).foldl (λe p=>e.set p.1 (some p.2)) env) N->Q N H)->qv is xs σ H Q
 |[],[],_,env,σ,.d,er,_,q=>⟨rfl,q σ er⟩
 |[],_::_,_,_,_,_,_,h,_=>by cases h
 |_::_,[],_,_,_,_,_,h,_=>by cases h
 |i::is,v::vs,x::xs,env,σ,.a r rs,er,h,q=>⟨x,xs,rfl,ow rs (er.set i r) (by simpa using h) q⟩
def sX:oA K mg (.b is) (L2.UL K is.length (qv is)):=λρ s H v x env env' σ Q P r O e q=>by
 simp only[yZ]at e;split at e
 . split at e
   . rename_i hl
     cases e;cases r with
     |m n e N=>exact⟨_,_,rfl,.of e,by rw[<-N.length];exact hl,ow N O hl q⟩
   . cases e
 . cases e
noncomputable def xO(sc:Scope)(N:List Str):List Nat->List Expr->Bool
 |[],[]=>true
 |i::is,.Name x _::es=>decide (N[i]?=some x)&&(decide (sc.names.lookup x=some .local)||decide (sc.names.lookup x=some .cell))&&xO sc N is es
 |_,_=>false
def ckT(sc:Scope)(N:List Str):Tgt->Expr->Bool
 |.a i,.Name x _=>decide (N[i]?=some x)&&(decide (sc.names.lookup x=some .local)||decide (sc.names.lookup x=some .cell))
 |.b is,.Tuple es _ _=>xO sc N is es&&decide (es≠[])
 |_,_=>false
section
variable {X:L2.Cx}
structure Scp(sc:Scope)(N:List Str)(X:L2.Cx):Prop where
 a:X.N=N
 d:N.Nodup
 e:∀x,sc.names.lookup x=some .local\/sc.names.lookup x=some .cell\/sc.names.lookup x=some .free->L2.Vis X.a.scope x
 c:∀x,sc.names.lookup x=some .local\/sc.names.lookup x=some .cell->L2.Loc X.a.scope x/\(X.n x=true\/X.a.scope.names.lookup x=some .local)
 b:∀x,sc.names.lookup x=some .globalImplicit->L2.Gl X x
 f:∀x,sc.names.lookup x=some .cell\/sc.names.lookup x=some .free->X.a.kindOf x=some .cell\/X.a.kindOf x=some .free
def l6(S:Scp sc N X)(h1:N[i]?=some x)(O:sc.names.lookup x=some .local\/sc.names.lookup x=some .cell):L2.PG X (.Name x p) (L2.xh i):=by obtain⟨a,b⟩:=S.c x O;exact L2.WK (by rw[S.a];exact S.d) (by rw[S.a];exact h1) a b
theorem wO(S:Scp sc N X):∀{is} {es},xO sc N is es=true->L2.PGs X es (qv is)/\(CN es X.a).length=is.length/\(CN es X.a).findIdx? (·.1)=none
 |[],[],_=>⟨L2.WL,rfl,rfl⟩
 |[],_::_,h=>by cases h
 |_::_,[],h=>by cases h
 |i::is,e::es,h=>by
  cases e with
  |Name x p=>
   simp only[xO,cf,Aw,decide_eq_true_eq]at h;obtain⟨a,b,c⟩:=wO S h.2;refine⟨L2.Zb (l6 S h.1.1 h.1.2) a,?_,?_⟩
   . show (CN es X.a).length+1=is.length+1
     rw[b]
   . show List.findIdx? (·.1) ((false,assign (.Name x p) X.a)::CN es X.a)=none
     rw[List.findIdx?_cons];simp only[A2,if_false];rw[c];rfl
  |_=>cases h
def QW(S:Scp sc N X)(O:X.j=true)(h:ckT sc N t e=true):∃g,L2.PG X e g/\oA X.K X.d t g:=by
 cases t with
 |a i=>
  cases e with
  |Name x p=>
   simp only[ckT,cf,Aw,decide_eq_true_eq]at h;exact⟨_,l6 S h.1 h.2,g7⟩
  |_=>cases h
 |b is=>
  cases e with
  |Tuple es k p=>
   simp only[ckT,cf,decide_eq_true_eq]at h;obtain⟨a,b,c⟩:=wO S h.1;exact⟨_,L2.pM O a b c,sX⟩
  |_=>cases h
end
structure Lp(acc:Addr)(ρ:Own)(H:L2.Hp)(ρ':Own)(H':L2.Hp):Prop where
 f:∃new:List Addr,ρ'.o=ρ.o++new/\∀a∈new,H a=none
 d:ρ'.h=acc::ρ.h
 c:∀(a:Addr) (o:L2.HO),H a=some o->a ∉ ρ.o->H' a=some o
 g:∀a∈ρ.o,hk (H' a)=hk (H a)
section
variable {K:KF}{mg:Str->Option Value}{ρ ρ1 ρ2:Own}{H H1 H2:L2.Hp}{s s1:Sto}{acc:Addr}
noncomputable def Own.hide(ρ:Own)(acc:Addr):Own:=⟨ρ.o,acc::ρ.h⟩
def qK(N:HR K mg ρ s H)(x:H acc=none)o:Mv ρ H (ρ.hide acc) (L2.upd H acc o):=
 ⟨λa u e n=>⟨by rw[L2.zG (L2.zR e x)];exact e,n.1,λO=>by
  rcases Ao.mp O with z|z
  . exact L2.zR e x z
  . exact n.2 z⟩,λi a e=>e,λa P=>by rw[L2.zG λz=>(N.new x).1 (by rw[<-z];exact P)]⟩
theorem HR.hide(x:HR K mg ρ s H)(N:H acc=none):HR K mg (ρ.hide acc) s (L2.upd H acc (.b xs)):=by
 refine⟨x.f,x.v,λi c e=>?_,λa P=>?_⟩
 . obtain⟨a,e1,q⟩:=x.m i c e
   obtain⟨o,e2⟩:=q.there;exact⟨a,e1,q.mv (qK x N _) (L2.zG (L2.zR e2 N))⟩
 . rcases Ao.mp P with z|z
   . subst z;exact⟨⟨xs,L2.zJ⟩,(x.new N).1⟩
   . obtain⟨⟨O,e⟩,n⟩:=x.d a z
     exact⟨⟨O,by rw[L2.zG (L2.zR e N)];exact e⟩,n⟩
def Lp.start(N:HR K mg ρ s H)(x:H acc=none)o:Lp acc ρ H (ρ.hide acc) (L2.upd H acc o):=
 ⟨⟨[],by simp[Own.hide],λa O=>by cases O⟩,rfl,λa u e _=>by rw[L2.zG (L2.zR e x)];exact e,(qK N x o).d⟩
def Lp.step(l:Lp acc ρ H ρ1 H1)(S:HR K mg ρ1 s1 H1)(x:Ext ρ1 H1 ρ2 H2):Lp acc ρ H ρ2 H2:=by
 obtain⟨new,e1,R⟩:=l.f;obtain⟨P,e2,Q⟩:=x.d;refine⟨⟨new++P,by rw[e2,e1,Br],λa N=>?_⟩,x.f.trans l.d,λa o e n=>x.c a o (l.c a o e n) ?_,λa N=>(x.g a (by rw[e1];exact Bx _ N)).trans (l.g a N)⟩
 . rcases A3.mp N with N|N
   . exact R a N
   . cases q:H a with
     |none=>rfl
     |some o=>
      by_cases O:a∈ρ.o
      . obtain⟨U,e⟩:=S.trk (a:=a) (by rw[e1];exact Bx _ O)
        rw[Q a N]at e;cases e
      . have:=l.c a o q O
        rw[Q a N]at this;cases this
 . rw[e1]
   intro O;rcases A3.mp O with O|O
   . exact n O
   . rw[R a O]at e;cases e
def Lp.emit(l:Lp acc ρ H ρ1 H1)(N:HR K mg ρ1 s1 H1)(O:H acc=none)o:Lp acc ρ H ρ1 (L2.upd H1 acc o):=
 ⟨l.f,l.d,λa u e n=>by rw[L2.zG (L2.zR e O)];exact l.c a u e n,λa x=>by
  obtain⟨new,e1,_⟩:=l.f;rw[L2.zG λz=>(N.d acc (by rw[l.d];exact Ar)).2 (by rw[<-z,e1];exact Bx _ x)]
  exact l.g a x⟩
def Lp.mv(l:Lp acc ρ H ρ1 H1)(O:H acc=none):Mv ρ H ρ1 H1:=by
 obtain⟨new,e1,N⟩:=l.f;refine⟨λa u e n=>⟨l.c a u e n.1,?_,?_⟩,λi a e=>?_,l.g⟩
 . rw[e1]
   intro x;rcases A3.mp x with x|x
   . exact n.1 x
   . rw[N a x]at e;cases e
 . rw[l.d]
   intro x;rcases Ao.mp x with z|z
   . exact L2.zR e O z
   . exact n.2 z
 . have hi:i<ρ.o.length:=(Au.mp e).1
   rw[e1,A7 hi];exact e
def Lp.here(l:Lp acc ρ H ρ1 H1):acc∈ρ1.h:=by rw[l.d];exact Ar
def qJ(N:HR K mg ρ1 s1 H1)(x:acc∈ρ1.h)o:Mv ρ1 H1 ρ1 (L2.upd H1 acc o):=
 ⟨λa u e n=>⟨by rw[L2.zG (λz=>n.2 (by rw[z];exact x))];exact e,n⟩,λi a e=>e,λa h=>by rw[L2.zG λz=>(N.d acc x).2 (by rw[<-z];exact h)]⟩
def HR.emit(x:HR K mg ρ1 s1 H1)(O:acc∈ρ1.h):HR K mg ρ1 s1 (L2.upd H1 acc (.b xs)):=by
 have N:=(x.d acc O).2;refine⟨x.f,x.v,λi c e=>?_,λa Q=>?_⟩
 . obtain⟨a,e1,q⟩:=x.m i c e
   exact⟨a,e1,q.mv (qJ x O _) (L2.zG (λz=>N (by rw[<-z];exact A5 e1)))⟩
 . obtain⟨⟨P,e⟩,n⟩:=x.d a Q
   by_cases z:a=acc
   . subst z;exact⟨⟨xs,L2.zJ⟩,n⟩
   . exact⟨⟨P,by rw[L2.zG z];exact e⟩,n⟩
def Lp.done(l:Lp acc ρ H ρ1 H1)(h0:HR K mg ρ s H)(hn:H acc=none)(O:HR K mg ρ1 s1 H1)(e:H1 acc=some (.b ys))(q:RDs K mg ρ1 H1 vs ys)(w:yU K mg (RD K mg) ρ H (newList m vs s1) Q):Q (.c acc) H1:=by
 have ha:=l.here;have P:=(O.d acc ha).2;have S:=(h0.new hn).2;cases m with
 |false=>
  have mv:Mv ρ1 H1 ⟨ρ1.o,ρ.h⟩ H1:=⟨λa u e n=>⟨e,n.1,λz=>n.2 (by rw[l.d];exact Ag _ z)⟩,λi a e=>e,λ_ _=>rfl⟩
  refine w ⟨ρ1.o,ρ.h⟩ _ H1 ⟨l.f,rfl,l.c,l.g⟩ ⟨O.f,O.v,λi ws e=>?_,λa N=>?_⟩ (.E ⟨P,S⟩ e (RDs.mv mv q))
  . obtain⟨a,e1,t⟩:=O.m i ws e
    exact⟨a,e1,t.mv mv rfl⟩
  . exact O.d a (by rw[l.d];exact Ag _ N)
 |true=>
  have mv:Mv ρ1 H1 ⟨ρ1.o++[acc],ρ.h⟩ H1:=by
   refine⟨λa u e n=>⟨e,λN=>?_,λz=>n.2 (by rw[l.d];exact Ag _ z)⟩,λi a e=>?_,λ_ _=>rfl⟩
   . rcases A3.mp N with N|N
     . exact n.1 N
     . rw[AW.mp N]at n;exact n.2 ha
   . show (ρ1.o++[acc])[i]?=_
     rw[A7 (Au.mp e).1];exact e
  have Z:(ρ1.o++[acc])[s1.length]?=some acc:=by rw[<-O.f,BR (Aa _)];simp
  refine w ⟨ρ1.o++[acc],ρ.h⟩ _ H1 ⟨?_,rfl,l.c,l.g⟩ ⟨?_,?_,λi ws R=>?_,λa N=>?_⟩ (.C Z (by rw[e];rfl))
  . obtain⟨new,e1,U⟩:=l.f
    refine⟨new++[acc],by show ρ1.o++[acc]=_;rw[e1,Br],λa N=>?_⟩
    rcases A3.mp N with N|N
    . exact U a N
    . rw[AW.mp N];exact hn
  . show (ρ1.o++[acc]).length=(s1++[Cel.c vs]).length
    rw[An,An,O.f];rfl
  . show (ρ1.o++[acc]).Nodup
    rw[FC];exact⟨O.v,by simp,λa Y b hb=>by rw[AW.mp hb];intro z;subst z;exact P Y⟩
  . by_cases hi:i<s1.length
    . rw[A7 hi]at R
      obtain⟨a,e1,t⟩:=O.m i ws R;exact⟨a,mv.c i a e1,t.mv mv rfl⟩
    . have W:i=s1.length:=by have:=(Au.mp R).1;rw[An]at this;simp at this;omega
      subst W;rw[BR (Aa _)]at R;simp at R;subst R;exact⟨acc,Z,ys,e,RDs.mv mv q⟩
  . obtain⟨x,n⟩:=O.d a (by rw[l.d];exact Ag _ N)
    refine⟨x,λz=>?_⟩;rcases A3.mp z with z|z
    . exact n z
    . rw[AW.mp z]at N;exact S N
end
section
variable {K:KF}{mg:Str->Option Value}
def qp{J:L2.It}{g:L2.TG}{tb:L2.TS}{D:L2.Ends}(P:Nat->L2.St->L2.Hp->Prop)(h0:P 0 σ H)(hd:∀σ H,P n σ H->J.a n H/\D.a σ H)
 (R:∀i σ H,i<n->P i σ H->J.c i H/\∀x H',J.b i H x H'->g x σ H' λN H2=>tb {D with a:=P (i+1),d:=P (i+1),c:=D.a} N H2):L2.nE J g tb D σ H:=by
 refine⟨λi m σ H=>m=n-i/\i<=n/\P i σ H,⟨n,by simp,Bs _,h0⟩,?_⟩
 rintro i m σ H ⟨rfl,hi,p⟩;by_cases hlt:i<n
 . obtain⟨a,b⟩:=R i σ H hlt p
   exact .inr ⟨a,P (i+1),λO H' Q=>⟨n-(i+1),⋯,rfl,hlt,Q⟩,b⟩
 . have e:i=n:=by omega
   subst e;exact .inl (hd σ H p)
structure CS(K:KF)(mg:Str->Option Value)(acc:Addr)(ρ0:Own)(H0:L2.Hp)(a:List Val)(s:Sto)(env:Env)(ρ:Own)(σ:L2.St)(H:L2.Hp):Prop where
 d:Lp acc ρ0 H0 ρ H
 b:HR K mg ρ s H
 c:ER K mg ρ H env σ
 e:∃ys,H acc=some (.b ys)/\RDs K mg ρ H a ys
def Grows(body:Env->Sto->List Val->Out (List Val × Env)):Prop:=∀e s a p s',body e s a=.e p s'->a.length<=p.1.length
theorem uP(N:Grows body):∀{xs} {env} {s} {a} {p} {s'},ya r t body xs env s a=.e p s'->a.length<=p.1.length
 |[],env,s,a,p,s',h=>by
  rw[ya]at h;split at h
  . cases h;exact Aa _
  . cases h
 |x::xs,env,s,a,p,s',h=>by
  rw[ya]at h;split at h
  . split at h
    . cases h
    . rename_i env' he
      cases hc:body env' s a with
      |e q s1=>
       rw[hc]at h;exact Az (N _ _ _ _ _ hc) (uP N h)
      |g _ _ _=>rw[hc]at h;cases h
      |d=>rw[hc]at h;cases h
  . cases h
def BodyOk(K:KF)(mg:Str->Option Value)(acc:Addr)(ρ0:Own)(H0:L2.Hp)(body:Env->Sto->List Val->Out (List Val × Env))(tb:L2.TS):Prop:=
 ∀(ρ:Own) (s:Sto) (H:L2.Hp) (env:Env) (σ:L2.St) (a:List Val) (p:List Val × Env) (s':Sto) (D:L2.Ends),CS K mg acc ρ0 H0 a s env ρ σ H->body env s a=.e p s'->p.1.length<=zW ->
  (∀ρ' H' x,CS K mg acc ρ0 H0 p.1 s' p.2 ρ' x H'->Mv ρ H ρ' H'->D.a x H')->tb D σ H
def vF
   (W:Walk K mg ρ H r J) (TG:oA K mg t g) (hg:Grows body) (hb:BodyOk K mg acc ρ0 H0 body tb)
 (C:CS K mg acc ρ0 H0 a s env ρ σ H) (h:ya r t body r.a env s a=.e p sf) (hz:p.1.length<=zW) (fin:∀ρ' H' S,CS K mg acc ρ0 H0 p.1 sf p.2 ρ' S H'->Mv ρ H ρ' H'->D.a S H'):L2.nE J g tb D σ H:=by
 refine qp (n:=r.a.length) (λi P H2=>∃ρ2 s2 N a2,CS K mg acc ρ0 H0 a2 s2 N ρ2 P H2/\Mv ρ H ρ2 H2/\ya r t body (r.a.drop i) N s2 a2=.e p sf) ⟨ρ,s,env,a,C,Mv.refl,by rw[Dq];exact h⟩ ?_ ?_
 . rintro P H2 ⟨ρ2,s2,N,a2,Q,mv,O⟩
   rw[F3,ya]at O;split at O
   . rename_i ho
     cases O;exact⟨W.a ρ2 H2 _ _ mv Q.b ho rfl,fin ρ2 H2 P Q mv⟩
   . cases O
 . rintro i P H2 hi ⟨ρ2,s2,N,a2,Q,mv,O⟩
   rw[DO hi,ya]at O;split at O
   . rename_i ho
     obtain⟨hgo,hy⟩:=W.c ρ2 H2 s2 i (r.a[i]) mv Q.b ho (Ai hi);refine⟨hgo,λx Y y=>?_⟩;obtain⟨hH,rx⟩:=hy x Y y;split at O
     . cases O
     . rename_i env' he
       -- the item is there: perhaps a new thing
       have R:CS K mg acc ρ0 H0 a2 s2 N ρ2 P Y/\Mv ρ2 H2 ρ2 Y:=by
        rcases hH with e|⟨q,o,hq,e⟩
        . subst e;exact⟨Q,Mv.refl⟩
        . subst e
          have X:=Ext.new Q.b hq o;refine⟨⟨Q.d.step Q.b X,Q.b.more hq o,Q.c.mono X,?_⟩,X.mv⟩;obtain⟨ys,e1,e2⟩:=Q.e;exact⟨ys,by rw[L2.zG (L2.zR e1 hq)];exact e1,e2.mono X⟩
       refine TG ρ2 s2 Y _ x N env' P _ R.1.b rx R.1.c he λZ er4=>?_;cases hc:body env' s2 a2 with
       |e q s5=>
        rw[hc]at O;have U:q.1.length<=zW:=Az (uP hg O) hz;exact hb ρ2 s2 Y env' Z a2 q s5 _ ⟨R.1.d,R.1.b,er4,R.1.e⟩ hc U λρ5 H5 σ5 C5 mv5=>⟨ρ5,s5,q.2,q.1,C5,(mv.trans R.2).trans mv5,O⟩
       |g _ _ _=>rw[hc]at O;cases O
       |d=>rw[hc]at O;cases O
   . cases O
end
section
variable (K:KF)(mg:Str->Option Value)(Φ:Calls)(G:Str->Option Val)
def uE(e:Ex):L2.TE:=λσ H Q=>∃env s,tV K mg env s (evE Φ G env e s) σ H Q
def uT(e:Cn):L2.TT:=λσ H Q=>∃env s,tT K mg env s (evT Φ G env e s) σ H Q
def uI(it:Itb):L2.TI:=λσ H R=>∃env s,tI (K:=K) (mg:=mg) env s (yl Φ G env it s) σ H R
noncomputable def uTs:Cns->List L2.TT
 |.a=>[]
 |.b e es=>uT K mg Φ G e::uTs es
end
section
variable {K:KF}{mg:Str->Option Value}{Φ:Calls}{G:Str->Option Val}
def dA(h:∀env s,L2.PE X E (tV X.K X.d env s (evE Φ G env e s))):L2.PE X E (uE X.K X.d Φ G e):=λpins s σ H Q I ⟨env,t,q⟩=>h env t pins s σ H Q I q
def Qd(h:∀env s,L2.PT X E (tT X.K X.d env s (evT Φ G env e s))):L2.PT X E (uT X.K X.d Φ G e):=λpins s σ H Q I ⟨env,t,q⟩=>h env t pins s σ H Q I q
def jx(h:∀env s,L2.PI X tg E (tI (K:=X.K) (mg:=X.d) env s (yl Φ G env it s))):L2.PI X tg E (uI X.K X.d Φ G it):=λpins s σ H Q I ⟨env,t,q⟩=>h env t pins s σ H Q I q
theorem pf:∀{es} {ρ} {s} {H},HR K mg ρ s H->ER K mg ρ H env σ->xQ Φ G env es s=.e b s2 ->
 (∀ρ' H',Ext ρ H ρ' H'->HR K mg ρ' s2 H'->Q b H')->L2.mh (uTs K mg Φ G es) σ H Q
 |.a,ρ,s,H,hr,er,h,q=>by
  rw[xQ]at h;cases h;exact q ρ H Ext.refl hr
 |.b e es,ρ,s,H,hr,er,h,q=>by
  rw[xQ]at h;refine⟨env,s,ρ,hr,er,?_⟩;cases hc:evT Φ G env e s with
  |e c s1=>
   rw[hc]at h;intro ρ1 R H1 N x e1;cases e1;cases c with
   |true=>exact L2.rF (pf x (er.mono N) h λρ' H' P O=>q ρ' H' (N.trans x P) O)
   |false=>
    simp only[zM]at h;cases h;exact L2.tM (q ρ1 H1 N x)
  |g _ _ _=>rw[hc]at h;cases h
  |d=>rw[hc]at h;cases h
def u7(Φ:Calls)(G:Str->Option Val)(elt:Ex)(ifs:Cns):Env->Sto->List Val->Out (List Val × Env):=λe s' acc=>(xQ Φ G e ifs s').bind λb s2=>if b then (evE Φ G e elt s2).bind λv x=>.e (acc++[v],e) x else .e (acc,e) s2
def wj:Grows (u7 Φ G elt ifs):=by
 intro e s a p s' h;unfold u7 at h;cases hc:xQ Φ G e ifs s with
 |e b s1=>
  rw[hc]at h;cases b with
  |true=>
   simp only[zM,if_true]at h;cases hv:evE Φ G e elt s1 with
   |e v s2=>rw[hv]at h;cases h;simp
   |g _ _ _=>rw[hv]at h;cases h
   |d=>rw[hv]at h;cases h
  |false=>simp only[zM]at h;cases h;exact Aa _
 |g _ _ _=>rw[hc]at h;cases h
 |d=>rw[hc]at h;cases h
def pj(hn:H0 acc=none):BodyOk K mg acc ρ0 H0 (u7 Φ G elt ifs) (L2.tTB (uTs K mg Φ G ifs) (L2.vz acc (uE K mg Φ G elt))):=by
 intro ρ s H env σ a p s' D C h hz q;unfold u7 at h;cases hc:xQ Φ G env ifs s with
 |e b s1=>
  rw[hc]at h;refine pf (ρ:=ρ) (s:=s) C.b C.c hc λρ1 H1 P O=>?_;have x:∃N,H1 acc=some (.b N)/\RDs K mg ρ1 H1 a N:=by obtain⟨N,e1,e2⟩:=C.e;exact⟨N,P.c _ _ e1 (C.b.d acc C.d.here).2,e2.mono P⟩
  cases b with
  |true=>
   simp only[zM,if_true]at h;refine L2.rF ⟨env,s1,ρ1,O,C.c.mono P,?_⟩;cases hv:evE Φ G env elt s1 with
   |e v s2=>
    rw[hv]at h;cases h;intro ρ2 y H2 W S Z;have U:=P.trans O W;have R:=C.d.step C.b U;obtain⟨N,e1,e2⟩:=x;have e3:H2 acc=some (.b N):=W.c _ _ e1 (O.d acc (C.d.step C.b P).here).2;have e4:=e2.mono W;have hl:N.length<Ap:=by have h1:(a++[v]).length<=zW:=hz;rw[An,e2.length,yj]at h1;simp at h1;omega
    have Q:=qJ (H1:=H2) S R.here (.b (N++[y]));refine⟨N,e3,hl,q ρ2 _ σ ⟨R.emit S hn _,S.emit R.here,⟨C.c.b,λi Y e'=>?_⟩,⟨_,L2.zJ,RDs.mv Q (e4.append (.a Z .d))⟩⟩ (U.mv.trans Q)⟩;obtain⟨u,h1,h2⟩:=(C.c.mono U).a i Y e';exact⟨u,h1,RD.mv Q h2⟩
   |g _ _ _=>rw[hv]at h;cases h
   |d=>rw[hv]at h;cases h
  |false=>
   simp only[zM]at h;cases h;exact L2.tM (q ρ1 H1 σ ⟨C.d.step C.b P,O,C.c.mono P,x⟩ P.mv)
 |g _ _ _=>rw[hc]at h;cases h
 |d=>rw[hc]at h;cases h
def rW(Φ:Calls)(G:Str->Option Val)(elt:Ex)(ifs:Cns)(O:Tgt)(x:Itb)(ifs2:Cns):Env->Sto->List Val->Out (List Val × Env):=λe s' acc=>(xQ Φ G e ifs s').bind λb s2=>if b then (yl Φ G e x s2).bind λN P=>
 ya N O (u7 Φ G elt ifs2) N.a e P acc
 else .e (acc,e) s2
def sY:Grows (rW Φ G elt ifs t2 it2 ifs2):=by
 intro e s a p s' h;unfold rW at h;cases hc:xQ Φ G e ifs s with
 |e b s1=>
  rw[hc]at h;cases b with
  |true=>
   simp only[zM,if_true]at h;cases hv:yl Φ G e it2 s1 with
   |e v s2=>rw[hv]at h;exact uP wj h
   |g _ _ _=>rw[hv]at h;cases h
   |d=>rw[hv]at h;cases h
  |false=>simp only[zM]at h;cases h;exact Aa _
 |g _ _ _=>rw[hc]at h;cases h
 |d=>rw[hc]at h;cases h
def nN(hn:H0 acc=none)(TG:oA K mg t2 g2) :
 BodyOk K mg acc ρ0 H0 (rW Φ G elt ifs t2 it2 ifs2) (L2.tTB (uTs K mg Φ G ifs) (L2.pZ (uI K mg Φ G it2) g2 (uTs K mg Φ G ifs2) (L2.vz acc (uE K mg Φ G elt)))):=by
 intro ρ s H env σ a p s' D C h hz q;unfold rW at h;cases hc:xQ Φ G env ifs s with
 |e b s1=>
  rw[hc]at h;refine pf (ρ:=ρ) (s:=s) C.b C.c hc λρ1 H1 P x=>?_;have N:∃O,H1 acc=some (.b O)/\RDs K mg ρ1 H1 a O:=by obtain⟨O,e1,e2⟩:=C.e;exact⟨O,P.c _ _ e1 (C.b.d acc C.d.here).2,e2.mono P⟩
  have Q:=C.d.step C.b P;cases b with
  |true=>
   simp only[zM,if_true]at h;refine L2.rF ⟨env,s1,ρ1,x,C.c.mono P,?_⟩;cases hv:yl Φ G env it2 s1 with
   |e r2 s2=>
    rw[hv]at h;intro ρ2 H2 J R Z W;have xx:=P.trans x R;obtain⟨O,e1,e2⟩:=N;have e3:H2 acc=some (.b O):=R.c _ _ e1 (x.d acc Q.here).2;exact vF W TG wj (pj hn) ⟨Q.step x R,Z,C.c.mono xx,⟨O,e3,e2.mono R⟩⟩ h hz λU H3 S C3 Y=>q U H3 S C3 (xx.mv.trans Y)
   |g _ _ _=>rw[hv]at h;cases h
   |d=>rw[hv]at h;cases h
  |false=>
   simp only[zM]at h;cases h;exact L2.tM (q ρ1 H1 σ ⟨Q,x,C.c.mono P,N⟩ P.mv)
 |g _ _ _=>rw[hc]at h;cases h
 |d=>rw[hc]at h;cases h
def dQ(P:ER K mg ρ H env σ)fr:ER K mg ρ H (za fr env) (L2.za fr σ):=by
 refine⟨by unfold za L2.za;rw[Ak,Ak],λi v e=>?_⟩
 unfold za at e;unfold L2.za;rw[A1]at e ⊢;cases hf:fr[i]? with
 |none=>rw[hf]at e;cases e
 |some o=>
  rw[hf]at e;cases o with
  |none=>cases e
  |some j=>
   have N:(env[j]?).join=some v:=AX e;have e2:env[j]?=some (some v):=by
    cases h1:env[j]? with
    |none=>rw[h1]at N;cases N
    |some w=>rw[h1]at N;have:w=some v:=N;rw[this]
   obtain⟨x,h1,O⟩:=P.a j v e2;refine⟨x,?_,O⟩;show some ((σ[j]?).join)=_;rw[h1];rfl
def uf(TG:oA K mg t g)(hg:Grows body)
 (hb:∀acc ρ0 H0,H0 acc=none->BodyOk K mg acc ρ0 H0 body (L2.tTB ts (tb acc)))    
 (h:tV K mg env s ((yl Φ G env it s).bind λr s1=>(ya r t body r.a (za fr env) s1 []).bind λp s2=>if chk=true->p.1.length<=zW then newList m p.1 s2 else .d) σ H Q)
 (P:chk=false->∀r s1 p s2,ya r t body r.a (za fr env) s1 []=.e p s2->p.1.length<=r.a.length):L2.vK fr (uI K mg Φ G it) g ts tb σ H Q:=by
 obtain⟨ρ,hr,Y,w⟩:=h;refine⟨env,s,ρ,hr,Y,?_⟩;cases hi:yl Φ G env it s with
 |e r s1=>
  rw[hi]at w;simp only[zM]at w;intro ρ1 H1 J U O W acc N;cases hl:ya r t body r.a (za fr env) s1 [] with
  |e p s2=>
   rw[hl]at w;simp only[zM]at w;have hz:p.1.length<=zW/\yU K mg (RD K mg) ρ H (newList m p.1 s2) Q:=by
    by_cases hc:chk=true->p.1.length<=zW
    . rw[if_pos hc]at w
      refine⟨?_,w⟩;cases chk with
      |true=>exact hc rfl
      |false=>exact Az (P rfl r s1 p s2 hl) W.b
    . rw[if_neg hc]at w;exact w.elim
   have mv:=qK (ρ:=ρ1) O N (.b []);have R:=dQ (Y.mono U) fr;refine vF (ρ0:=ρ1) (H0:=H1) (W.mv mv) TG hg (hb acc ρ1 H1 N) ⟨Lp.start O N _,O.hide N,⟨R.b,λi v e=>?_⟩,⟨[],L2.zJ,.d⟩⟩ hl hz.1 λρ3 H3 Z S _=>?_
   . obtain⟨x,h1,h2⟩:=R.a i v e
     exact⟨x,h1,RD.mv mv h2⟩
   . obtain⟨ys,e1,e2⟩:=S.e
     exact S.d.done O N S.b e1 e2 (hz.2.mono U O)
  |g _ _ _=>rw[hl]at w;exact w.elim
  |d=>rw[hl]at w;exact w.elim
 |g _ _ _=>rw[hi]at w;exact w.elim
 |d=>rw[hi]at w;exact w.elim
theorem rX:∀{xs} {env} {s} {a} {p} {s'},ya r t (u7 Φ G elt ifs) xs env s a=.e p s'->p.1.length<=a.length+xs.length
 |[],env,s,a,p,s',h=>by
  rw[ya]at h;split at h
  . cases h;exact Aa _
  . cases h
 |x::xs,env,s,a,p,s',h=>by
  rw[ya]at h;split at h
  . split at h
    . cases h
    . rename_i env' he
      cases hc:u7 Φ G elt ifs env' s a with
      |e q s1=>
       rw[hc]at h;have h1:=rX h;have O:q.1.length<=a.length+1:=by
        unfold u7 at hc;cases h3:xQ Φ G env' ifs s with
        |e b s2=>
         rw[h3]at hc;cases b with
         |true=>
          simp only[zM,if_true]at hc;cases h4:evE Φ G env' elt s2 with
          |e v N=>rw[h4]at hc;cases hc;simp
          |g _ _ _=>rw[h4]at hc;cases hc
          |d=>rw[h4]at hc;cases hc
         |false=>simp only[zM]at hc;cases hc;exact CT _
        |g _ _ _=>rw[h3]at hc;cases hc
        |d=>rw[h3]at hc;cases hc
       rw[AB];omega
      |g _ _ _=>rw[hc]at h;cases h
      |d=>rw[hc]at h;cases h
  . cases h
end
end M
end
section
namespace M
open PySem PySem.W
def DX(ρ:Own)(H:L2.Hp)(c:Str)(as:List Val)(dd:Option Addr):Prop:=if c="TooGreat" then ∃(d:Addr) (a b:Int),dd=some d/\as=[.c a,.c b]/\H d=some (.m (L2.grF a b))/\ρ.no d else dd=none
def DX.no{c:Str}(h:c≠"TooGreat"):DX ρ H c as none:=by unfold DX;rw[if_neg h]
def DX.yes(h:H d=some (.m (L2.grF a b)))(n:ρ.no d):DX ρ H "TooGreat" [.c a,.c b] (some d):=by unfold DX;rw[if_pos rfl];exact⟨d,a,b,rfl,rfl,h,n⟩
def DX.get(h:DX ρ H "TooGreat" as dd):∃d a b,dd=some d/\as=[.c a,.c b]/\H d=some (.m (L2.grF a b))/\ρ.no d:=by unfold DX at h;rw[if_pos rfl]at h;exact h
def tq(K:KF)(mg:Str->Option Value)(base:Heap):Prop:=∃(C D f:Addr) (fd:BA) (Kc:KF),mg "TooGreat"=some (.ref C)/\L2.sk base C (.ref D::L2.veM) f/\L2.kX K mg D f fd/\L2.GrK Kc C D/\L2.tw Kc K/\L2.uD Kc C/\exmOne Kc (.ref C) (.ref C)=some true
def pv(K:KF)(mg:Str->Option Value)(ρ:Own)(H:L2.Hp)(x:t7)(E:L2.XK):Prop:=match x with
 |some (c,as,s')=>∀ρ' H',Ext ρ H ρ' H'->HR K mg ρ' s' H'->∀C,mg c=some (.ref C)->∀dd,DX ρ' H' c as dd->E (.ref C) dd H'
 |dr=>False
def spX(T:Tbl)(K:KF)(mg:Str->Option Value)(n:Nat)(f:Str)(ver:Nat):L2.Sp:=λvs H Q E=>∃ρ s args,HR K mg ρ s H/\RDs K mg ρ H args vs/\(yU K mg (RD K mg) ρ H (zB T n f ver args s) Q\/pv K mg ρ H (zO T n f ver args s) E)
def PQ.L2.qE(_:KF)(_:Str->Option Value)(_:Addr):Prop:=False
structure Sc(T:Tbl)(K:KF)(mg:Str->Option Value):Prop where
 a:∃(kx:Str) (cs ws:List Str) (pre:Option Str) (hue:Addr),mg "HueError"=some (.ref hue)/\L2.nS K mg kx cs ws pre/\(∀b,T.c b=true->∃f,L2.dw K mg b kx f) /\
  (∀c w,T.e.lookup c=some w->∃(C:Addr) (i:Nat) (x:Str),mg c=some (.ref C)/\(∃Kc,L2.tw Kc K/\exmOne Kc (.ref C) (.ref hue)=some true)/\L2.Named K mg cs C c/\cs[i]?=some c/\ws[i]?=some x/\w=L2.ans pre x/\(w="great"->c="TooGreat")) /\
  ∀c w,T.e.lookup c=some w->c≠"TooGreat"->∀base,K.In base->∃C,mg c=some (.ref C)/\L2.ClsAt base C (.ref hue::L2.veM)/\L2.ClsAt base hue L2.veM
 gf:bZ T=true->∃f,L2.qE K mg f
 gr:(T.e.lookup ("TooGreat":Str)).isSome=true->∀base,K.In base->tq K mg base
 bm:∀base,K.In base->L2.Bm base mg
structure Lv(T:Tbl)(P:Program)(w:World)(K:KF)(mg:Str->Option Value)(base:Heap)(n:Nat):Prop where
 a:∀f v F,T.d f v=some F->∃fa fd,mg f=some (.ref fa)/\B2 K (.ref fa)=true/\L2.Binds K fd F.b []/\L2.tm P w K mg base L2.CX0 n fa fd F.b (spN T K mg n f v)/\L2.tm P w K mg base (L2.CXE P w) n fa fd F.b (spX T K mg n f v)
structure Sd(T:Tbl)(P:Program)(w:World)(K:KF)(mg:Str->Option Value)(base:Heap)(m:Nat):Prop where
 a:Sc T K mg
 b:∀j,j<=m->Lv T P w K mg base j
def Cod(T:Tbl)(X:L2.Cx):Prop:=∃g∈T.f,∃(fa c:Addr) (o:Obj) (fd:BA),X.d g=some (.ref fa)/\X.K.lookup fa=some o/\o.data=.func fd/\fd.code=.ref c/\X.a.code=.ref c/\X.a.qual=g++(".<locals>.":Str)
theorem qw:∀{l} {s} {g},zi l s=true->g∈l->∃j:Nat,s[j]?=some (.d g)
 |[],_,_,_,h=>by cases h
 |x::r,[],_,h,_=>by cases h
 |x::r,c::s,g,h,hm=>by
  cases c with
  |d y=>
   rw[zi,cf,decide_eq_true_eq]at h;rcases Ao.mp hm with z|z
   . subst z;rw[h.1];exact⟨0,rfl⟩
   . obtain⟨j,e⟩:=qw h.2 z
     exact⟨j+1,e⟩
  |_=>cases h
def HR.VZ(h:HR K mg ρ s H)(N:L2.wC H H'):HR K mg ρ s H'/\Ext ρ H ρ H':=by
 have X:Ext ρ H ρ H':=⟨⟨[],by simp,λa x=>by cases x⟩,rfl,λa o e _=>N a o e,λa x=>by obtain⟨o,e⟩:=h.trk x;rw[e,N a o e]⟩
 refine⟨⟨h.f,h.v,λi c e=>?_,λa x=>?_⟩,X⟩
 . obtain⟨a,e1,r⟩:=h.m i c e
   obtain⟨o,e2⟩:=r.there;exact⟨a,e1,r.mv X.mv (by rw[e2,N a o e2])⟩
 . obtain⟨⟨O,e⟩,n⟩:=h.d a x
   exact⟨⟨O,N _ _ e⟩,n⟩
def nM(h:DZ l):l=[]\/∃i j t u c r,l=.int i t::.int j u::c::r/\DZ r:=by
 unfold DZ at h;split at h
 . exact .inl rfl
 . exact .inr ⟨_,_,_,_,_,_,rfl,h⟩
 . exact h.elim
theorem nK:∀n {l},l.length<=n->DZ l->DZ (l++[.int i t,.int j u,c])
 |n,l,hl,h=>by
  rcases nM h with rfl|⟨O,N,t',x,P,r,rfl,h'⟩
  . exact AS
  . cases n with
    |zero=>cases hl
    |succ n=>exact nK n (l:=r) (by simp only[AB]at hl;omega) h'
theorem qX:∀n {l},l.length<=n->DZ l->DY pos (l++[.int i t,.int j u,c])=some cv->DY pos l=some cv\/cv=c
 |n,l,hl,h,e=>by
  rcases nM h with rfl|⟨O,N,t',Q,P,r,rfl,h'⟩
  . have x:(if i == pos.line&&j == pos.col then some c else none)=some cv:=e
    split at x
    . cases x;exact .inr rfl
    . cases x
  . have x:(if O == pos.line&&N == pos.col then some P else DY pos (r++[.int i t,.int j u,c]))=some cv:=e
    show (if O == pos.line&&N == pos.col then some P else DY pos r)=some cv\/_
    cases n with
    |zero=>cases hl
    |succ n=>
     split at x
     . rename_i z;rw[if_pos z];exact .inl x
     . rename_i z;rw[if_neg z];exact qX n (l:=r) (by simp only[AB]at hl;omega) h' x
def HR.lam{j:Nat}(h:HR K mg ρ s H)(hs:s[j]?=some (.d g))(hj:ρ.o[j]?=some P)(tr:RA K mg ρ H P g)(Z:H P=some (.g ps))(l:L2.Vo H P ps pos (aW g) c H'):HR K mg ρ s H'/\Ext ρ H ρ H':=by
 rcases l with rfl|⟨o,vs,t,hf,U,hd,hv,rfl⟩
 . exact⟨h,Ext.refl⟩
 . refine byG λpi N=>?_
   obtain⟨ps',e1,tok,O,fn⟩:=tr;refine N ?_;rw[Z]at e1;cases e1;have S:c≠P:=λz=>by rw[z,Z]at U;cases U
   have W:L2.upd (L2.upd H P (.g (ps++#[rawInt pos.line,rawInt pos.col,.ref c]))) c (.d o (.e 0))=L2.upd (L2.upd H c (.d o (.e 0))) P (.g (ps++#[rawInt pos.line,rawInt pos.col,.ref c])):=by
    funext b;unfold L2.upd;by_cases z1:b=c
    . subst z1;rw[if_pos rfl,if_neg S,if_pos rfl]
    . rw[if_neg z1]
      by_cases z2:b=P
      . rw[if_pos z2,if_pos z2]
      . rw[if_neg z2,if_neg z2,if_neg z1]
   rw[W];have h1:=h.more U (.d o (.e 0));have X1:=Ext.new h U (.d o (.e 0));have Y:L2.upd H c (.d o (.e 0)) P=some (.g ps):=by rw[L2.zG (A9 S)];exact Z
   have kk:hk (some (.g (ps++#[rawInt pos.line,rawInt pos.col,.ref c])))=hk (L2.upd H c (.d o (.e 0)) P):=by rw[Y];rfl
   have X2:=Ext.rY h1 hj kk;have x:ρ.no c:=h.new U;have kc:∀b u,ρ.no b->H b=some u->L2.upd (L2.upd H c (.d o (.e 0))) P (.g (ps++#[rawInt pos.line,rawInt pos.col,.ref c])) b=some u:=λb u nb e=>X2.c b u (X1.c b u e nb.1) nb.1;refine⟨?_,X1.trans h1 X2⟩;have hr:=h1.rY (c:=.d g) hj kk ⟨_,L2.zJ,?_,λQ cv R=>?_,fn⟩
   . rw[show s.set j (.d g)=s from ?_]at hr
     . exact hr
     . refine List.ext_getElem? λi=>?_
       by_cases z:j=i
       . subst z;rw[AJ (Au.mp hs).1,hs]
       . rw[Bk z]
   . rw[Array.toList_append];exact nK _ (Aa _) tok
   . rw[Array.toList_append]at R
     rcases qX _ (Aa _) tok R with z|z
     . refine byG λpi N=>?_
       obtain⟨b,ob,vb,tb,q1,q2,q3,q4⟩:=O Q cv z;refine N ?_;exact⟨b,ob,vb,tb,q1,q2,kc b _ q2 q3,q4⟩
     . exact⟨c,o,vs,t,z,x,X2.c c _ L2.zJ x.1,hd,hv⟩
noncomputable def wF(cells:List (Str × Addr)):List (Str × Dw)->List (Str × Addr)->List (Str × Addr)
 |[],acc=>acc
 |(x,k)::r,acc=>wF cells r (if k == .free then (x,(cells.lookup x).getD 0)::acc else acc)
def i9(h:∀x∈lsc.names,x.2=.free->∃c,env.cells.lookup x.1=some c):GA lsc env=pure (wF env.cells lsc.names []):=by
 have N:∀(names:List (Str × Dw)) (acc:List (Str × Addr)),(∀x∈names,x.2=.free->∃c,env.cells.lookup x.1=some c) ->
  (forIn names acc λ(x:Str × Dw) (cs:List (Str × Addr))=>(do if x.2 == .free then pure (Ck ((x.1,<-cellOf env x.1)::cs)) else pure (Ck cs):Sem (ForInStep (List (Str × Addr)))))=pure (wF env.cells names acc):=by
  intro names;induction names with
  |nil=>intro acc _;rfl
  |cons p r Q=>
   obtain⟨x,k⟩:=p;intro acc P;rw[EM];by_cases hk:k=.free
   . subst hk
     obtain⟨c,R⟩:=P (x,.free) (Ar ..) rfl;have e:cellOf env x=pure c:=by unfold cellOf;rw[R]
     have e2:wF env.cells ((x,.free)::r) acc=wF env.cells r ((x,c)::acc):=by show wF env.cells r ((x,(env.cells.lookup x).getD 0)::acc)=_;rw[R];rfl
     rw[e2];simp only[show ((AE == AE)=true) from rfl,if_true,e,DU];exact Q _ λy O=>P y (Ag _ O)
   . have S:(k == AE)=false:=by simpa using hk
     have e2:wF env.cells ((x,k)::r) acc=wF env.cells r acc:=by
      show wF env.cells r (if k == .free then _ else acc)=_
      rw[S];rfl
     rw[e2];simp only[S,A2,if_false,DU];exact Q _ λy O=>P y (Ag _ O)
 unfold GA;have:=N lsc.names [] h;simpa using this
theorem rC:∀{names} {acc} {x} {b},(x,b)∈wF cells names acc->(x,b)∈acc\/((x,AE)∈names/\b=(cells.lookup x).getD 0)
 |[],_,_,_,h=>.inl h
 |(y,k)::r,acc,x,b,h=>by
  rcases rC (names:=r) h with z|z
  . by_cases hk:k=.free
    . subst hk
      rcases Ao.mp z with z|z
      . cases z;exact .inr ⟨Ar ..,rfl⟩
      . exact .inl z
    . have N:(k == AE)=false:=by simpa using hk
      rw[N]at z;exact .inl z
  . exact .inr ⟨Ag _ z.1,z.2⟩
theorem oZ:∀{names} {acc} {x} {b},(x,b)∈acc->(x,b)∈wF cells names acc
 |[],_,_,_,h=>h
 |(y,k)::r,acc,x,b,h=>oZ (names:=r) (by
  split
  . exact Ag _ h
  . exact h)
theorem vE:∀{names} {acc} {x},(x,AE)∈names->(x,(cells.lookup x).getD 0)∈wF cells names acc
 |(y,k)::r,acc,x,h=>by
  rcases Ao.mp h with z|z
  . cases z;exact oZ (names:=r) (Ar ..)
  . exact vE (names:=r) z
def lookup_mem{N:Type}{l:List (Str × N)}{b}(h:(x,b)∈l):∃c,l.lookup x=some c:=by
 cases e:l.lookup x with
 |some c=>exact⟨c,rfl⟩
 |none=>
  rw[F6]at e;have:=e _ h;simp at this
end M
end
section
namespace L2
open PySem PySem.Spec PyProof.Rows
def S6(tabs:List Addr)(H:Hp):Prop:=∀b,H b=none\/(∃o x,H b=some (.d o (.b x)))\/(b∈tabs/\H b=some (.g #[]))
def eC{K}{tabs:List Addr}
 (KX:K.In s₁.heap) (hns:s₁.heap.Ns AM mg) (N:s₁.heap.Ns FF mb) (hbb:∀x:Str,x≠"__name__"->mb x=Cg x) (hlim:s₁.heap.NoLimit) (hg:s₁.gens=#[])
 (ha:s₁.heap.get? a=some {cls:=.type "list",data:=.seq vs.toArray}) (hi:IntsAre vs ns) (hl:ns.length<=Ap) (hr:xN k callerA)
 (Y:∀b∈tabs,s₁.heap.get? b=some (EY #[])/\K.lookup b=none/\Gh s₁.heap b)
 (F:∀base:Heap,K.In base->base.Ns AM mg->tm P w K mg base CX k fa fd [x] sp) (U:∀s u,BindsTo s fd ⟨[u],[]⟩ [(x,u)])
 (hsp:∀H:Hp,(∀b∈tabs,H b=some (.g #[]))->SqL K H a (ns.map V.d)->sp [.c a] H (λv _=>v=.f true) λ_ _ _=>False)
 (hCX:∀H e s',CX [] H s₁ (λ_ _ _=>False) e s'->False) :
 codeAny (model P w) callerA (.call (.ref fa) ⟨[.ref a],[]⟩) (λr s'=>r=.ok (.ret (.bool true))/\OldK s₁.heap s'.heap/\s'.os=s₁.os/\AllBare s'.gens) s₁:=by
 have rv:=nO hi;have lenV:=hi.length;have nat:a ∉ tabs:=λz=>by have:=(Y a z).1;rw[ha]at this;cases this
 have S:∀H:Hp,S6 tabs H->(∀b∈tabs,H b=some (.g #[]))->SqL K H a (ns.map V.d)->HOk P w H s₁.heap->(∀b,H b≠none->b=a\/b∈tabs)->(H a≠none->K.lookup a=none) ->
  codeAny (model P w) callerA (.call (.ref fa) ⟨[.ref a],[]⟩) (λr s'=>r=.ok (.ret (.bool true))/\OldK s₁.heap s'.heap/\s'.os=s₁.os/\AllBare s'.gens) s₁:=by
  intro H hO hT hS hok hA hK;have vW:∀{b:Addr} {o:Obj},s₁.heap.get? b=some o->H b=none->(ny s₁.heap H).get? b=some o:=λe n=>bf e n;have noA:∀{b:Addr} {o:Obj} {es:Array F7} {Z:Nat},s₁.heap.get? b=some o->o.data=.dict es Z->H b=none:=λ{b o es Z} e d=>by
   cases q:H b with
   |none=>rfl
   |some u=>
    rcases hA b (by rw[q];simp) with W|W
    . subst W
      rw[ha]at e;cases e;have d':Data.seq vs.toArray _=Data.dict es Z:=d;cases d'
    . rw[(Y b W).1]at e;cases e
      have d':Data.fields #[]=Data.dict es Z:=d;cases d'
  have Q:∀{b:Addr} {m:Str->Option Value},s₁.heap.Ns b m->(ny s₁.heap H).Ns b m:=λ{b m} ⟨o,es,Z,e,d,r⟩=>⟨o,es,Z,vW e (noA e d),d,r⟩;have hKb:K.In (ny s₁.heap H):=λb o e=>vW (KX b o e) (by
   cases q:H b with
   |none=>rfl
   |some u=>
    rcases hA b (by rw[q];simp) with W|W
    . subst W
      rw[hK (by rw[q];simp)]at e;cases e
    . rw[(Y b W).2.1]at e;cases e)
  have hM:Mod K mg (ny s₁.heap H):=⟨hKb,Q hns,⟨mb,Q N,hbb⟩,let ⟨mc,h1,h2⟩:=hlim;⟨mc,Q h1,h2⟩⟩;have e0:qU P w K mg (ny s₁.heap H) callerA [] s₁ H:=⟨rfl,hM,λb o e=>Xw e,EO (fh _ _),trivial,λb N=>absurd (show b∈([]:List Addr) from N) (by simp),hok,.of_eq hg⟩
  refine CY ((F _ hKb (Q hns)).a callerA [] s₁ H ⟨[.ref a],[]⟩ [.ref a] [.c a] _ _ hr e0 (U s₁ (.ref a)) (.cons rfl .nil) (hsp H hT hS)) λr s' h=>?_;cases r with
  |error e=>exact(hCX H e s' h).elim
  |ok fl=>
   cases fl with
   |next=>exact Av h
   |brk=>exact Av h
   |cont=>exact Av h
   |ret u=>
    obtain⟨v,H',os,bare,un,R,r',q⟩:=h;have q':v=.f true:=q;subst q';obtain rfl:u=C7 true:=r';have all:∀b o,s₁.heap.get? b=some o->asItWas s₁.heap s'.heap b o:=λb o e=>by
     cases q:H b with
     |none=>exact .inl (un.f b o e q (by intro z;exact absurd (show b∈([]:List Addr) from z) (by simp)) (by simp))
     |some u=>
      rcases hO b with z|⟨ob,xs,z⟩|⟨z1,z⟩
      . rw[q]at z;cases z
      . have z2:=un.g b ob _ z
        obtain⟨e1,_⟩:=hok b _ z;obtain⟨e2,_⟩:=R b _ z2;rw[e]at e1;cases e1;exact .inl e2
      . obtain⟨more,z2⟩:=un.j b _ z
        have e2:s'.heap.get? b=some (EY (#[]++more)):=R b _ z2;obtain⟨t1,_,t3⟩:=Y b z1;rw[e]at t1;cases t1;exact .inr (.inl ⟨t3,rfl,#[],more,rfl,e2⟩)
    exact⟨rfl,⟨all,λb o e=>by
     rcases all b o e with z|⟨_,_,_,_,_,z⟩|⟨_,_,⟨o',_,_,z,_⟩,_⟩
     . exact⟨_,z⟩
     . exact⟨_,z⟩
     . exact⟨_,z⟩⟩,os,bare⟩
 cases hk:K.lookup a with
 |some o=>
  have e:=KX a o hk;rw[ha]at e;cases e;refine S (λb=>if b∈tabs then some (.g #[]) else none) (λb=>?_) (λb N=>if_pos N) (.inr ⟨_,vs.toArray,_,hk,rfl,rfl,rfl,by rw[Ah,lenV];exact hl,by simpa using rv⟩) (λb u z=>?_) (λb z=>?_) λz=>?_
  . by_cases N:b∈tabs
    . exact .inr (.inr ⟨N,if_pos N⟩)
    . exact .inl (if_neg N)
  . by_cases N:b∈tabs
    . have O:=(if_pos N).symm.trans z
      cases O;exact(Y b N).1
    . have O:=(if_neg N).symm.trans z
      cases O
  . by_cases N:b∈tabs
    . exact .inr N
    . exact absurd (if_neg N) z
  . exact absurd (if_neg nat) z
 |none=>
  refine S (λb=>if b=a then some (.d {cls:=.type "list",data:=.seq vs.toArray} (.b (ns.map V.d))) else if b∈tabs then some (.g #[]) else none) (λb=>?_) (λb N=>(if_neg (λz=>nat (by rw[<-z];exact N))).trans (if_pos N)) (.inl (.inr ⟨{cls:=.type "list",data:=.seq vs.toArray},if_pos rfl⟩)) (λb u z=>?_) (λb z=>?_) λ_=>hk
  . by_cases N:b=a
    . exact .inr (.inl ⟨_,_,if_pos N⟩)
    . by_cases hb2:b∈tabs
      . exact .inr (.inr ⟨hb2,(if_neg N).trans (if_pos hb2)⟩)
      . exact .inl ((if_neg N).trans (if_neg hb2))
  . by_cases N:b=a
    . have O:=(if_pos N).symm.trans z
      cases O;subst N;exact⟨ha,by rw[Ak];exact hl,vs,_,rv,ha⟩
    . by_cases hb2:b∈tabs
      . have O:=((if_neg N).trans (if_pos hb2)).symm.trans z
        cases O;exact(Y b hb2).1
      . have O:=((if_neg N).trans (if_neg hb2)).symm.trans z
        cases O
  . by_cases N:b=a
    . exact .inl N
    . by_cases hb2:b∈tabs
      . exact .inr hb2
      . exact absurd ((if_neg N).trans (if_neg hb2)) z
end L2
end
section
namespace M
open PySem
noncomputable def rm(sc:Scope)(x:Str):Bool:=decide (sc.names.lookup x=some .local)||decide (sc.names.lookup x=some .cell)||decide (sc.names.lookup x=some .free)
noncomputable def xt(sc:Scope)(x:Str):Bool:=decide (sc.names.lookup x=some .globalImplicit)
noncomputable def wR:List Str:=["len","all","any","tuple","list","sorted","repr","max","min","sum","int","isinstance","divmod","str","bool","dict","set","range","enumerate","zip"]
noncomputable def PH(y:Str)(n:String):Bool:=(decide (y="int")&&decide (n="int"))||(decide (y="bool")&&decide (n="bool"))||(decide (y="str")&&decide (n="str"))||(decide (y="list")&&decide (n="list"))||(decide (y="tuple")&&decide (n="tuple"))||(decide (y="dict")&&decide (n="dict"))
noncomputable def vC:Val->Option Const
 |.g=>some .none
 |.e b=>some (.bool b)
 |.c i=>some (.int i)
 |.j x=>some (.str x)
 |_=>none
def RG(v:Val)(e:Expr):Bool:=Yy e λc _ _=>decide (vC v=some c)
def eSd(e:Expr)(k:Str->Eu->Str->List Expr->Scope->Bool):Bool:=eCN e λx O=>l1 O λl=>UA l λa b lsc _=>eCN b λy N=>k x a y N lsc
def gJ(h:eSd e k=true):∃x a y N lsc p1 p2 p3 p4 p5,e=.Call (.Name x p1) [.Lambda a (.Call (.Name y p2) N [] p3) lsc p4] [] p5/\k x a y N lsc=true:=by obtain⟨x,p1,R,p5,rfl,h1⟩:=yy h;obtain⟨l,rfl,Q⟩:=yS h1;obtain⟨a,b,lsc,p4,rfl,P⟩:=lK Q;obtain⟨y,p2,N,p3,rfl,O⟩:=yy P;exact⟨x,a,y,N,lsc,p1,p2,p3,p4,p5,rfl,O⟩
noncomputable def uH(a:Eu):Bool:=a.posonlyargs.isEmpty&&a.args.isEmpty&&a.vararg.isNone&&a.kwonlyargs.isEmpty&&a.kw_defaults.isEmpty&&a.kwarg.isNone&&a.defaults.isEmpty
noncomputable def vB(sc lsc:Scope):Bool:=decide (lsc.kind=.function)&&!lsc.isCoroutine&&!lsc.isGenerator&&lsc.names.all (λy=>decide (y.2=.globalImplicit)||(decide (y.2=.free)&&(decide (sc.names.lookup y.1=some .cell)||decide (sc.names.lookup y.1=some .free))))&&sc.names.any (λy=>decide (sc.names.lookup y.1=some .cell))
noncomputable def UC(e:Expr)(k:Expr->Bool):Bool:=match e with
 |.SetComp _ (⟨_,i,_,0⟩::_) _ _=>k i
 |_=>false
def bK(h:UC e k=true):∃x tg i fs gs sc p,e=.SetComp x (⟨tg,i,fs,0⟩::gs) sc p/\k i=true:=by
 unfold UC at h;split at h
 . exact⟨_,_,_,_,_,_,_,rfl,h⟩
 . cases h
noncomputable def stF:Exs->Bool
 |.a (.z _) .c=>true
 |_=>false
noncomputable def R0:Ex->Bool
 |.z _=>false
 |_=>true
noncomputable def okV:Bool:=true
noncomputable def okG:Bool:=false
noncomputable def Wu:Exs->Bool
 |.a (.e _) _=>true
 |_=>false
def Wv(h:Wu es=true):∃i x,es=.a (.e i) x:=by
 unfold Wu at h;split at h
 . exact⟨_,_,rfl⟩
 . cases h
mutual
noncomputable def sim:Ex->Bool
 |.g _|.e _|.E _=>true
 |.j m _ a b=>!m&&sim a&&sim b
 |.D a=>sim a
 |.k es=>vO es
 |.u m es=>!m&&vO es
 |.A a b=>sim a&&sim b
 |_=>false
noncomputable def vO:Exs->Bool
 |.c=>true
 |.a e es=>sim e&&vO es
end
def ckA(sc:Scope)(f:Str)(q:List Expr->Bool)(e:Expr):Bool:=eCN e λx N=>decide (x=f)&&xt sc x&&!(x == ("__debug__":Str))&&q N&&zf N
def sdX(ver:Nat):Str:=if ver=102 then "_law_great" else L2.yC (decide (ver=101))
def ckB(sc:Scope)(N:List Str)(f:Str)(ver:Nat)(es:Exs)(q:Scope->List Expr->Bool)(e:Expr):Bool:=eSd e λx a y O lsc=>decide (x=sdX ver)&&xt sc x&&uH a&&vB sc lsc&&decide (y=f)&&xt lsc y&&!(y == ("__debug__":Str))&&vO es&&q lsc O&&zf O&&!O.isEmpty&&decide (("!":Str)∈N)&&(okG||decide (ver≠102))
def sdV(ver:Nat):Str:=if ver=302 then "_law_great" else L2.yC (decide (ver=301))
def ckV(sc:Scope)(N:List Str)(ver:Nat)(es:Exs)(q:Scope->List Expr->Bool)(e:Expr):Bool:=(okV&&Wu es)&&eSd e λx a y O lsc=>decide (x=sdV ver)&&xt sc x&&uH a&&vB sc lsc&&vO es&&q lsc (.Name y default::O)&&zf O&&!O.isEmpty&&decide (("!":Str)∈N)&&decide (ver≠200)&&(okG||decide (ver≠302))
mutual
noncomputable def ck(sc:Scope)(N:List Str):Ex->Expr->Bool
 |.g v,e=>RG v e
 |.e i,e=>(eName e λx _=>decide (N[i]?=some x)&&rm sc x&&!(x == ("__debug__":Str))&&!(x == ("__classdict__":Str)))
 |.E y,e=>(eName e λx _=>decide (x=y)&&xt sc x&&!(x == ("__debug__":Str)))
 |.L y n,e=>(eName e λx _=>decide (x=y)&&xt sc x&&PH y n)
 |.j _ op a b,e=>(RK e λl o r _=>(okB op&&decide (o=op.op))&&ck sc N a l&&ck sc N b r)
 |.D a,e=>(eOp .USub e λx=>ck sc N a x)
 |.G a,e=>(eOp .Not e λx=>ck sc N a x)
 |.q op a b,e=>(eC1 e λl o r=>(okC op&&decide (o=op.op))&&ck sc N a l&&ck sc N b r&&plain r)
 |.s op op' a b c,e=>(eC2 e λl o W r U=>(okC op&&decide (o=op.op))&&(okC op'&&decide (W=op'.op))&&ck sc N a l&&ck sc N b r&&ck sc N c U&&plain U)
 |.y a es,e=>(eBl .And e λx O=>ck sc N a x&&ckL sc N es O)
 |.I _ _,_=>false
 |.H _ _ _,_=>false
 |.k es,e=>(bL e λO _ _=>ckL sc N es O&&zf O)
 |.u _ es,e=>(UB e λO _=>ckL sc N es O&&zf O)
 |.B,e=>(eD0 e)
 |.C _,e=>(eD0 e)
 |.K _ _,_=>false
 |.z a,e=>UC e λi=>ck sc N a i
 |.h f ver es,e=>if ver<100 then ckA sc f (λO=>ckL sc N es O) e else if ver<200 then ckB sc N f ver es (λl Q=>ckL l N es Q) e else ckV sc N ver es (λl Q=>ckL l N es Q) e
 |.l f _ es,e=>(eCN e λx O=>lc O λy Q=>((okF f||stF es)&&decide (x=f.nm))&&xt sc x&&ckL sc N es (y::Q)&&zf (y::Q))
 |.F _ _,_=>false
 |.M f _ o es,e=>(eMt e λob x ap y cp=>decide (x=f.nm)&&ck sc N o ob&&ckL sc N es [y]&&plain y&&qM ob&&(ap.endLine == cp.line)&&okM f)
 |.A a b,e=>(Y6 e λl r _=>ck sc N a l&&ck sc N b r&&plain r)
 |.J _ a lo hi st,e=>(eSS e λl x y z=>ck sc N a l&&ckO sc N lo x&&ckO sc N hi y&&ckO sc N st z)
 |.r _ N' fr elt t it ifs,e=>(eG1 e λx tg iter fs csc=>L2.uJ sc N N' csc fr&&decide N'.Nodup&&ckT csc N' t tg&&ckI sc N it iter tg&&oC csc N' ifs fs&&ck csc N' elt x&&plain iter)
 |.w _ N' fr elt t it ifs t2 it2 ifs2,e=>(eG2 e λx tg iter fs R P S csc=>L2.uJ sc N N' csc fr&&decide N'.Nodup&&ckT csc N' t tg&&ckI sc N it iter tg&&oC csc N' ifs fs&&ckT csc N' t2 R&&ckI csc N' it2 P R&&oC csc N' ifs2 S&&ck csc N' elt x&&plain iter&&plain P)
 |.p _ _ _ _,_=>false
noncomputable def ckL(sc:Scope)(N:List Str):Exs->List Expr->Bool
 |.c,es=>es.isEmpty
 |.a a as,es=>(lc es λe es=>ck sc N a e&&ckL sc N as es)
noncomputable def ckO(sc:Scope)(N:List Str):OEx->Option Expr->Bool
 |.b,e=>e.isNone
 |.a a,e=>(o1 e λe=>ck sc N a e)
noncomputable def ckC(sc:Scope)(N:List Str):Cn->Expr->Bool
 |.a a,e=>ck sc N a e&&(plainT e||decide (e.ctorIdx=15))
 |.b c,e=>(eOp .Not e λx=>ckC sc N c x)
 |.d c cs,e=>(eBl .And e λx O=>ckC sc N c x&&oC sc N cs O)
 |.f c cs,e=>(eBl .Or e λx O=>ckC sc N c x&&oC sc N cs O)
noncomputable def oC(sc:Scope)(N:List Str):Cns->List Expr->Bool
 |.a,es=>es.isEmpty
 |.b a as,es=>(lc es λe es=>ckC sc N a e&&oC sc N as es)
noncomputable def ckI(sc:Scope)(N:List Str):Itb->Expr->Expr->Bool
 |.f a,e,_=>ck sc N a e
 |.d a,e,_=>(eCN e λx O=>l1 O λy=>decide (x="range")&&xt sc x&&ck sc N a y&&plain y)
 |.g a b,e,_=>(eCN e λx O=>lc O λy P=>l1 P λz=>decide (x="range")&&xt sc x&&ck sc N a y&&ck sc N b z&&plain y&&plain z)
 |.h _ _ _,_,_=>false
 |.i _,_,_=>false
 |.j _ _,_,_=>false
end
structure Ok(T:Tbl)(n:Nat)(sc:Scope)(N:List Str)(X:L2.Cx):Prop where
 d:X.j=true
 c:L2.xN n X.A
 a:Scp sc N X
 p:∀f v F,T.d f v=some F->Callee T n X f v F
 k:∀x v,T.b x=some v->∃u xv,X.d x=some u/\L2.RelV xv u/\∀ρ H,RD X.K X.d ρ H v xv
 g:∀x∈wR,X.d x=none
 xe:X.i=λ_ _=>False
 i:∀f v,100<=v->T.d f v=none
 l:∀m,n=m+1->(∃b,T.c b=true)->Sd T X.f X.w X.K X.d X.h m
 j:(∃b,T.c b=true)->(∃x,sc.names.lookup x=some .cell)->("!":Str)∈N->Cod T X
def oh(S:Scp sc N X)(h:L2.uJ sc N N' csc fr=true):L2.zm X N' csc fr:=by
 unfold L2.uJ at h;simp only[cf,Ay,Aw,decide_eq_true_eq,Bu]at h;obtain⟨⟨⟨⟨⟨⟨⟨a1,a2⟩,a3⟩,Z⟩,Y⟩,W⟩,U⟩,a8⟩:=h;refine⟨a1,λx h1 R=>(a2 _ h1).elim (λz=>z rfl) λz=>z _ R rfl,λx hx hk=>?_,λx hx hk=>?_,Y,λi j x e1 e2=>?_,λx e1 e2=>?_⟩
 . rcases a3 x hx with z|z
   . exact absurd hk z
   . exact z
 . rcases Z x hx with z|z
   . exact absurd hk z
   . exact S.f x.1 z
 . have hi:i<N'.length:=(Au.mp e1).1
   have q:=W i hi;rw[e1,e2]at q;simp only[cf,decide_eq_true_eq,Bo]at q;obtain⟨q1,y,Q,P,O⟩:=q;refine⟨by rw[S.a];exact q1,?_⟩
   have:y=(x,AE):=FO P O;rw[<-this];exact Q
 . rcases U (x,.free) e2 with z|z
   . exact z rfl
   . exact z e1
def wz(h:sc.names.lookup x=some .local):(relabel sc env).names.lookup x=some .local:=lookup_relabel_local h
def j9(h:sc.names.lookup x=some .globalImplicit):(relabel sc env).names.lookup x=some .globalImplicit:=by
 have N:∀(names:List (Str × Dw)),names.lookup x=some .globalImplicit->(names.map λ(n,k)=>if (k == AE&&env.scope.kind == .function&&env.kindOf n == some .cell) then (n,Bi) else (n,k)).lookup x=some .globalImplicit:=by
  intro names;induction names with
  |nil=>intro h;simp at h
  |cons p r O=>
   obtain⟨n,k⟩:=p;intro h;rw[AZ];dsimp only;cases hx:(x == n) with
   |true=>
    rw[Am,hx]at h;cases h;have e:(Eb == AE)=false:=rfl;rw[e];simp only[CU,A2,if_false,Am,hx]
   |false=>
    rw[Am,hx]at h;have:=O h;split<;>simpa only[Am,hx] using this
 exact N sc.names h
theorem Scp.comp(S:Scp sc N X)(O:L2.zm X N' csc fr)(nd:N'.Nodup)C s0 H0 ex:Scp csc N' (X.comp N' csc C s0 H0 ex):=by
 refine⟨rfl,nd,λx h=>?_,λx h=>?_,λx h=>?_,λx h=>?_⟩
 . rcases h with h|h|h
   . exact .inl (wz h)
   . exact .inr (.inl (L2.vm h))
   . exact(L2.sU O.a h).elim (λz=>.inr (.inl z)) λz=>.inr (.inr z)
 . rcases h with h|h
   . exact⟨.inl (wz h),.inr (wz h)⟩
   . exact⟨.inr (L2.vm h),.inl (Bo.mpr ⟨_,AO h,decide_eq_true rfl⟩)⟩
 . exact j9 h
 . rcases h with h|h
   . exact .inl (L2.vm h)
   . exact L2.sU O.a h
theorem Callee.comp(c:Callee T n X f v F)N' csc C s0 H0 ex:Callee T n (X.comp N' csc C s0 H0 ex) f v F:=⟨c.a⟩
theorem Ok.comp(o:Ok T n sc N X)(R:L2.zm X N' csc fr)(nd:N'.Nodup)(x:L2.uJ sc N N' csc fr=true)C s0 H0 ex:Ok T n csc N' (X.comp N' csc C s0 H0 ex):=
 ⟨o.d,o.c,o.a.comp R nd C s0 H0 ex,λf v F h=>(o.p f v F h).comp N' csc C s0 H0 ex,o.k,o.g,rfl,o.i,o.l,λO _ h=>by
  unfold L2.uJ at x;simp only[cf,Bo,Aw,decide_eq_true_eq]at x;rcases x.2 with z|⟨Q,y,_,P⟩
  . exact absurd h z
  . exact o.j O ⟨y.1,P⟩ Q⟩
section
variable {T:Tbl}{n:Nat}
def JE(T:Tbl)(n:Nat)(a:Ex):Prop:=∀(sc:Scope) (N:List Str) (X:L2.Cx) (e:Expr),Ok T n sc N X->ck sc N a e=true->∀env s,L2.PE X e (tV X.K X.d env s (evE (zB T n) T.b env a s))
def JL(T:Tbl)(n:Nat)(a:Exs):Prop:=∀(sc:Scope) (N:List Str) (X:L2.Cx) (es:List Expr),Ok T n sc N X->ckL sc N a es=true ->
 (zf es=true->∀env s,L2.PA X es (tVs X.K X.d env s (zY (zB T n) T.b env a s))) /\
 (∀e x pos,es=e::x->∀env s,L2.PE X (.BoolOp .And es pos) (tV X.K X.d env s (rl (zB T n) T.b env a s))) /\
 (∀e x pos,es=e::x->∀env s,L2.PE X (.BoolOp .Or es pos) (tV X.K X.d env s (lL (zB T n) T.b env a s))) /\
 (∀y,es=[y]->plain y=true->∃b,a=.a b .c/\∀env s,L2.PE X y (tV X.K X.d env s (evE (zB T n) T.b env b s)))
def JO(T:Tbl)(n:Nat)(a:OEx):Prop:=∀(sc:Scope) (N:List Str) (X:L2.Cx) (e:Option Expr),Ok T n sc N X->ckO sc N a e=true->(∀env s,L2.PO X e (tO X.K X.d env s (evO (zB T n) T.b env a s))) /\
 ((e=none/\∀env s1,evO (zB T n) T.b env a s1=.e none s1)\/∃x,e=some x/\∀env s1 s2,evO (zB T n) T.b env a s1≠.e none s2)
def JC(T:Tbl)(n:Nat)(a:Cn):Prop:=∀(sc:Scope) (N:List Str) (X:L2.Cx) (e:Expr),Ok T n sc N X->ckC sc N a e=true->∀env s,L2.PT X e (tT X.K X.d env s (evT (zB T n) T.b env a s))
def JCs(T:Tbl)(n:Nat)(a:Cns):Prop:=∀(sc:Scope) (N:List Str) (X:L2.Cx) (es:List Expr),Ok T n sc N X->oC sc N a es=true ->
 (∀pos env s,L2.PW X (.BoolOp .And es pos) (tT X.K X.d env s (xQ (zB T n) T.b env a s)))/\(∀pos env s,L2.PW X (.BoolOp .Or es pos) (tT X.K X.d env s (tJ (zB T n) T.b env a s)))/\L2.PTs X es (uTs X.K X.d (zB T n) T.b a)
def JI(T:Tbl)(n:Nat)(a:Itb):Prop:=∀(sc:Scope) (N:List Str) (X:L2.Cx) (e tg:Expr),Ok T n sc N X->ckI sc N a e tg=true->∀env s,L2.PI X tg e (tI (K:=X.K) (mg:=X.d) env s (yl (zB T n) T.b env a s))
def aF:JE T n (.g v):=by
 intro sc N X e o h env s;show L2.PE X e (tV X.K X.d env s (.e v s));replace h:=qi h;obtain⟨c,k,p,rfl,h⟩:=h;have h:=of_decide_eq_true h;cases v with
 |g=>cases h;exact zZ L2.Tz λσ H Q ⟨ρ,hr,er,w⟩=>zP hr .s w
 |e b=>cases h;exact zZ L2.ZL λσ H Q ⟨ρ,hr,er,w⟩=>zP hr (.j _) w
 |c i=>cases h;exact zZ L2.ZW λσ H Q ⟨ρ,hr,er,w⟩=>zP hr (.l _) w
 |j x=>cases h;exact zZ L2.rO λσ H Q ⟨ρ,hr,er,w⟩=>zP hr (.D _) w
 |_=>cases h
def aJ:JE T n (.e i):=by
 intro sc N X e o h env s;replace h:=zq h;obtain⟨x,p,rfl,h⟩:=h;simp only[cf,decide_eq_true_eq,rm,Aw,As]at h;obtain⟨⟨⟨h1,Y⟩,W⟩,U⟩:=h;have P:L2.Vis X.a.scope x:=o.a.e x (by rcases Y with (z|z)|z;exact .inl z;exact .inr (.inl z);exact .inr (.inr z))
 show L2.PE X _ (tV X.K X.d env s (match env[i]? with|some (some v)=>.e v s|_=>.d))
 refine zZ (L2.xV (i:=i) (by rw[o.a.a];exact h1) P W U) λσ H Q ⟨ρ,hr,er,w⟩=>?_
 split at w
 . rename_i v e
   obtain⟨O,S,R⟩:=er.a i v e;exact⟨O,S,zP hr R w⟩
 . exact w.elim
def VI:JE T n (.E y):=by
 intro sc N X e o h env s;replace h:=zq h;obtain⟨x,p,rfl,h⟩:=h;simp only[cf,decide_eq_true_eq,xt,As]at h;obtain⟨⟨h1,P⟩,O⟩:=h;subst h1;show L2.PE X _ (tV X.K X.d env s (match T.b x with|some v=>.e v s|dr=>.d))
 cases hv:T.b x with
 |none=>exact zK (zH rfl)
 |some v=>
  obtain⟨u,R,e1,e2,e3⟩:=o.k x v hv;exact zZ (L2.WI (o.a.b x P) e1 e2 O) λσ H Q ⟨ρ,hr,er,w⟩=>zP hr (e3 ρ H) w
def Rm:JE T n (.L y m):=by
 intro sc N X e o h env s;replace h:=zq h;obtain⟨x,p,rfl,h⟩:=h;simp only[cf,decide_eq_true_eq,xt]at h;obtain⟨⟨h1,R⟩,P⟩:=h;subst h1;show L2.PE X _ (tV X.K X.d env s (.e (.u m) s));have O:x∈wR/\Cg x=some (.type m)/\x≠"__name__"/\(x == ("__debug__":Str))=false:=by
  unfold PH at P;simp only[Aw,cf,decide_eq_true_eq]at P;rcases P with ((((⟨rfl,rfl⟩|⟨rfl,rfl⟩)|⟨rfl,rfl⟩)|⟨rfl,rfl⟩)|⟨rfl,rfl⟩)|⟨rfl,rfl⟩
  . exact⟨by decide,PyProof.Rows.boot_int,by decide,by decide⟩
  . exact⟨by decide,PyProof.Rows.boot_bool,by decide,by decide⟩
  . exact⟨by decide,PyProof.Rows.boot_str,by decide,by decide⟩
  . exact⟨by decide,PyProof.Rows.boot_list,by decide,by decide⟩
  . exact⟨by decide,F5,by decide,by decide⟩
  . exact⟨by decide,PyProof.Rows.boot_dict,by decide,by decide⟩
 exact zZ (L2.QT (o.a.b x R) (o.g x O.1) O.2.1 O.2.2.1 O.2.2.2) λσ H Q ⟨ρ,hr,er,w⟩=>zP hr (.J _) w
def Xf:JE T n (.C t):=by
 intro sc N X e o h env s;obtain⟨p,rfl⟩:=gG h;show L2.PE X _ (tV X.K X.d env s (.e (.q s.length) (s++[if t then .f [] else .e []])))
 cases t with
 |true=>exact zZ L2.ZT λσ H Q ⟨ρ,hr,er,w⟩ p hp=>w _ _ _ (Ext.own hr hp _) (hr.wo hp ⟨[],L2.zJ,rfl,.d⟩) (.A (qO hr p) (by rw[L2.zJ];decide))
 |false=>exact zZ L2.ZS λσ H Q ⟨ρ,hr,er,w⟩ p hp=>w _ _ _ (Ext.own hr hp _) (hr.wo hp ⟨[],L2.zJ,rfl,.d⟩) (.A (qO hr p) (by rw[L2.zJ];decide))
def Xe:JE T n .B:=by intro sc N X e o h env s;obtain⟨p,rfl⟩:=gG h;show L2.PE X _ (tV X.K X.d env s (.e .o s));exact zZ (L2.WH λpins σ H s I=>I.big) λσ H Q ⟨ρ,hr,er,w⟩ p hp=>w _ _ _ (Ext.new hr hp _) (hr.more hp _) (.B (hr.new hp) L2.zJ)
def qd(h:zT op x y s=.e v s'):∃b,v=.e b:=by unfold zT at h;split at h<;>(split at h<;>first|(cases h;exact⟨_,rfl⟩)|cases h|(split at h<;>first|(cases h;exact⟨_,rfl⟩)|cases h|(split at h<;>first|(cases h;exact⟨_,rfl⟩)|cases h|(split at h<;>first|(cases h;exact⟨_,rfl⟩)|cases h))))
def tZ{o:Out Val}(P:∀v s',o=.e v s'->∃b,v=.e b)(w:yU K mg (λ_ _ a b=>a=b) ρ H o.truth Q):yU K mg (RD K mg) ρ H o λx H'=>∃k,x=.f k/\Q k H':=by
 cases o with
 |e v s1=>
  obtain⟨b,rfl⟩:=P v s1 rfl;intro ρ1 x H1 O N r1;cases r1;exact⟨b,rfl,w _ _ _ O N rfl⟩
 |g _ _ _=>exact w
 |d=>exact w
def U0{f2:Sto->Out Val}(k1:okC op=true)(R:L2.xN k X.A)(h1:L2.PE X a (tV X.K X.d env s o))(Z:∀s1,L2.PE X b (tV X.K X.d env s1 (f2 s1)))(Y:plain b=true) :
 L2.PT X (.Compare a [op.op] [b] pos) (tT X.K X.d env s (o.bind λx s1=>(f2 s1).bind λy s2=>zT op x y s2).truth):=by
 cases o with
 |e v s1=>
  have P:=Z s1;show L2.PT X _ (tT X.K X.d env s ((f2 s1).bind λy s2=>zT op v y s2).truth);cases hb:f2 s1 with
  |e w s2=>
   rw[hb]at P;exact uS (L2.qS (vj R op k1) h1 P (xD Y)) λσ H Q ⟨ρ,hr,er,wt⟩=>⟨ρ,hr,er,λρ1 x H1 U O r1=>⟨ρ1,O,er.mono U,λρ2 y H2 S N W=>⟨ρ2,s2,v,w,N,r1.mono S,W,tZ (λ_ _ h=>qd h) (wt.mono (U.trans O S) N)⟩⟩⟩
  |g _ _ _=>exact yG (zH rfl)
  |d=>exact yG (zH rfl)
 |g _ _ _=>exact yG (zH rfl)
 |d=>exact yG (zH rfl)
def aN{X:L2.Cx}{env:Env}{s:Sto}{a b c:Expr}{op O:Cop}{o:Out Val}{f2 f3:Sto->Out Val}{k:Nat}{pos:Pos}(k1:okC op=true)(k2:okC O=true)(hr0:L2.xN k X.A)(h1:L2.PE X a (tV X.K X.d env s o))(h2:∀s1,L2.PE X b (tV X.K X.d env s1 (f2 s1)))(h3:∀s1,L2.PE X c (tV X.K X.d env s1 (f3 s1)))(hm:plain c=true) :
 L2.PT X (.Compare a [op.op,O.op] [b,c] pos) (tT X.K X.d env s (o.bind λx s1=>(f2 s1).bind λy s2=>(zT op x y s2).bind λr R=>match r with
  |.e true=>(f3 R).bind λz W=>zT O y z W
  |.e false=>.e (.e false) R
  |_=>.d).truth):=by
 cases o with
 |e v s1=>
  have h2':=h2 s1;show L2.PT X _ (tT X.K X.d env s ((f2 s1).bind _).truth);cases hb:f2 s1 with
  |e w s2=>
   rw[hb]at h2';show L2.PT X _ (tT X.K X.d env s ((zT op v w s2).bind _).truth);cases hc:zT op v w s2 with
   |e r R=>
    cases r with
    |e t=>
     have h3':=h3 R;have Y:=L2.Zl (pos:=pos) (vj hr0 op k1) (vj hr0 O k2) h1 h2' h3' (show GL [op.op,O.op] [b,c]=false from xD hm);refine uS Y λσ H Q ⟨ρ,hr,er,wt⟩=>⟨ρ,hr,er,λρ1 x H1 x1 hr1 r1=>⟨ρ1,hr1,er.mono x1,λρ2 y H2 x2 hr2 r2=>⟨ρ2,s2,v,w,hr2,r1.mono x2,r2,?_⟩⟩⟩;rw[hc];intro S z H3 x3 P r3;cases r3;refine⟨t,rfl,?_⟩;have xx:=(x1.trans hr1 x2).trans hr2 x3;have U:=wt.mono xx P;cases t with
     |true=>
      rw[if_pos rfl];refine⟨S,P,er.mono xx,?_⟩;have N:yU X.K X.d (λ_ _ a b=>a=b) S H3 ((f3 R).bind λz W=>zT O w z W).truth Q:=U;cases hz:f3 R with
      |e u W=>
       rw[hz]at N;exact λρ4 q H4 x4 Z r4=>⟨ρ4,W,w,u,Z,(r2.mono x3).mono x4,r4,tZ (λ_ _ h=>qd h) (N.mono x4 Z)⟩
      |g _ _ _=>rw[hz]at N;exact N
      |d=>rw[hz]at N;exact N
     |false=>
      rw[if_neg Ac];exact⟨false,rfl,U _ _ _ Ext.refl P rfl⟩
    |_=>exact yG (zH rfl)
   |g _ _ _=>exact yG (zH rfl)
   |d=>exact yG (zH rfl)
  |g _ _ _=>exact yG (zH rfl)
  |d=>exact yG (zH rfl)
 |g _ _ _=>exact yG (zH rfl)
 |d=>exact yG (zH rfl)
def Ur(O:JE T n a)(x:JE T n b):JC T n (.a (.q op a b)):=by intro sc N X e o h env s;replace h:=qH (zN h).1;obtain⟨_,_,_,_,rfl,h1⟩:=h;simp only[cf,decide_eq_true_eq]at h1;obtain⟨⟨⟨⟨k1,rfl⟩,R⟩,Q⟩,P⟩:=h1;exact U0 k1 o.c (O _ _ _ _ o R env s) (λs1=>x _ _ _ _ o Q env s1) P
def aB(P:JE T n a)(O:JE T n b)(x:JE T n c):JC T n (.a (.s op op' a b c)):=by intro sc N X e o h env s;replace h:=gF (zN h).1;obtain⟨_,_,_,_,_,_,rfl,h1⟩:=h;simp only[cf,decide_eq_true_eq]at h1;obtain⟨⟨⟨⟨⟨⟨k1,rfl⟩,k2,rfl⟩,U⟩,S⟩,R⟩,Q⟩:=h1;exact aN k1 k2 o.c (P _ _ _ _ o U env s) (λs1=>O _ _ _ _ o S env s1) (λs1=>x _ _ _ _ o R env s1) Q
noncomputable def VG:Ex->Bool
 |.q ..|.s ..=>true
 |_=>false
def cY{os}(h:ck sc N a (.Compare l os rs p)=true):VG a=true:=by
 cases a with
 |q _ _ _=>rfl
 |s _ _ _ _ _=>rfl
 |h f v es=>
  replace h:(if v<100 then ckA sc f (λO=>ckL sc N es O) (.Compare l os rs p) else if v<200 then ckB sc N f v es (λl x=>ckL l N es x) (.Compare l os rs p) else ckV sc N v es (λl x=>ckL l N es x) (.Compare l os rs p))=true:=h
  split at h
  . cases h
  . split at h
    . cases h
    . exact absurd (show false=true from (zN h).2) Ac
 |_=>cases h
def cj{e:Expr}(h:e.ctorIdx=15):∃l os x p,e=.Compare l os x p:=Fx (motive_1:=λe=>∃l os x p,e=Expr.Compare l os x p) e h λl os x p=>⟨l,os,x,p,rfl⟩
def z8(Q:JE T n a)(O:VG a=false):JC T n (.a a):=by
 intro sc N X e o h env s;obtain⟨h1,x⟩:=zN h;have P:=Q sc N X e o h1 env s;rcases (Aw _ _).mp x with x|x
 . exact U2 x P
 . obtain⟨l,os,R,p,rfl⟩:=cj (of_decide_eq_true x)
   rw[cY h1]at O;cases O
end
def br(Q:JE T n a)(P:JE T n b):JE T n (.j m op a b):=by intro sc N X e o h env s;replace h:=lH h;obtain⟨l,o1,r,p,rfl,h⟩:=h;simp only[cf,decide_eq_true_eq]at h;obtain⟨⟨⟨k1,rfl⟩,h1⟩,R⟩:=h;exact Vt (Q _ _ _ _ o h1 env s) (λs1=>P _ _ _ _ o R env s1) λta tb O x=>L2.l5 (aw m op k1) O x
def bw(O:JE T n a):JE T n (.D a):=by intro sc N X e o h env s;replace h:=qI h;obtain⟨x,p,rfl,h⟩:=h;exact Ut (O _ _ _ _ o h env s)
def Uh(x:JL T n es):JE T n (.k es):=by intro sc N X e o h env s;replace h:=uM h;obtain⟨O,k,p,rfl,h⟩:=h;simp only[cf]at h;exact jN ((x _ _ _ _ o h.1).1 h.2 env s)
def Ue(x:JL T n es):JE T n (.u m es):=by intro sc N X e o h env s;replace h:=qj h;obtain⟨O,p,rfl,h⟩:=h;simp only[cf]at h;exact aG ((x _ _ _ _ o h.1).1 h.2 env s)
def VH(Q:JE T n a)(P:JE T n b):JE T n (.A a b):=by intro sc N X e o h env s;replace h:=qk h;obtain⟨l,r,p,rfl,h⟩:=h;simp only[cf]at h;exact Vt (Q _ _ _ _ o h.1.1 env s) (λs1=>P _ _ _ _ o h.1.2 env s1) λta tb O x=>L2.VT Rc O x (Zf h.2)
section
variable {Φ Φ':Calls}{G:Str->Option Val}{env:Env}
mutual
theorem rR:∀(a:Ex) (s:Sto),sim a=true->evE Φ G env a s=evE Φ' G env a s
 |.g _,_,_=>rfl
 |.e _,_,_=>rfl
 |.E _,_,_=>rfl
 |.j m op a b,s,h=>by
  simp only[sim,cf]at h;show (evE Φ G env a s).bind _=(evE Φ' G env a s).bind _;rw[rR a s h.1.2];exact congrArg _ (funext λx=>funext λs1=>by rw[rR b s1 h.2])
 |.D a,s,h=>by
  simp only[sim]at h;show (evE Φ G env a s).bind _=(evE Φ' G env a s).bind _;rw[rR a s h]
 |.k es,s,h=>by
  simp only[sim]at h;show (zY Φ G env es s).bind _=(zY Φ' G env es s).bind _;rw[uj es s h]
 |.u m es,s,h=>by
  simp only[sim,cf]at h;show (zY Φ G env es s).bind _=(zY Φ' G env es s).bind _;rw[uj es s h.2]
 |.A a b,s,h=>by
  simp only[sim,cf]at h;show (evE Φ G env a s).bind _=(evE Φ' G env a s).bind _;rw[rR a s h.1];exact congrArg _ (funext λx=>funext λs1=>by rw[rR b s1 h.2])
 |.L _ _,_,h=>by cases h
 |.G _,_,h=>by cases h
 |.q _ _ _,_,h=>by cases h
 |.s _ _ _ _ _,_,h=>by cases h
 |.y _ _,_,h=>by cases h
 |.I _ _,_,h=>by cases h
 |.H _ _ _,_,h=>by cases h
 |.B,_,h=>by cases h
 |.h _ _ _,_,h=>by cases h
 |.l _ _ _,_,h=>by cases h
 |.F _ _,_,h=>by cases h
 |.M _ _ _ _,_,h=>by cases h
 |.J _ _ _ _ _,_,h=>by cases h
 |.r _ _ _ _ _ _ _,_,h=>by cases h
 |.w _ _ _ _ _ _ _ _ _ _,_,h=>by cases h
 |.p _ _ _ _,_,h=>by cases h
 |.C _,_,h=>by cases h
 |.K _ _,_,h=>by cases h
 |.z _,_,h=>by cases h
theorem uj:∀(es:Exs) (s:Sto),vO es=true->zY Φ G env es s=zY Φ' G env es s
 |.c,_,_=>rfl
 |.a e es,s,h=>by simp only[vO,cf]at h;show (evE Φ G env e s).bind _=(evE Φ' G env e s).bind _;rw[rR e s h.1];exact congrArg _ (funext λx=>funext λs1=>by rw[uj es s1 h.2])
end
def pB(h:newList false vs s=.e v s'):s'=s:=by simp only[newList,A2,if_false]at h;cases h;rfl
def cN(h:binOp false op x y s=.e v s'):s'=s:=by unfold binOp at h;split at h<;>(repeat' split at h)<;>first|exact pB h|(cases h;rfl)|cases h
def XN(h:vH x y s=.e v s'):s'=s:=by
 unfold vH at h;split at h
 . split at h
   . split at h
     . cases h;rfl
     . cases h
   . cases h
 . cases h
def zX{o:Out α}{f}{b:β}(h:o.bind f=.e b s):∃a s1,o=.e a s1/\f a s1=.e b s:=by
 cases o with
 |e a s1=>exact⟨a,s1,rfl,h⟩
 |g _ _ _=>cases h
 |d=>cases h
mutual
theorem rS:∀(a:Ex) (s s':Sto) (v:Val),sim a=true->evE Φ G env a s=.e v s'->s'=s
 |.g _,_,_,_,_,h=>by cases h;rfl
 |.e i,s,s',v,_,h=>by
  have N:∀o:Option (Option Val),(match o with|some (some v)=>Out.e v s|_=>.d)=.e v s'->s'=s:=λo h=>by
   cases o with
   |none=>cases h
   |some o=>cases o with
    |none=>cases h
    |some w=>cases h;rfl
  exact N _ h
 |.E x,s,s',v,_,h=>by
  have N:∀o:Option Val,(match o with|some v=>Out.e v s|dr=>.d)=.e v s'->s'=s:=λo h=>by
   cases o with
   |none=>cases h
   |some w=>cases h;rfl
  exact N _ h
 |.j m op a b,s,s',v,z,h=>by
  simp only[sim,cf,As]at z;obtain⟨⟨rfl,P⟩,O⟩:=z;obtain⟨x,s1,e1,h⟩:=zX h;obtain⟨y,s2,e2,h⟩:=zX h;rw[cN h,rS b _ _ _ O e2,rS a _ _ _ P e1]
 |.D a,s,s',v,z,h=>by
  simp only[sim]at z;obtain⟨x,s1,e1,h⟩:=zX h;rw[<-rS a _ _ _ z e1];split at h
  . cases h;rfl
  . cases h
 |.k es,s,s',v,z,h=>by
  simp only[sim]at z;obtain⟨x,s1,e1,h⟩:=zX h;rw[<-uk es _ _ _ z e1];split at h
  . cases h;rfl
  . cases h
 |.u m es,s,s',v,z,h=>by
  simp only[sim,cf,As]at z;obtain⟨rfl,z⟩:=z;obtain⟨x,s1,e1,h⟩:=zX h;rw[<-uk es _ _ _ z e1];split at h
  . exact pB h
  . cases h
 |.A a b,s,s',v,z,h=>by
  simp only[sim,cf]at z;obtain⟨x,s1,e1,h⟩:=zX h;obtain⟨y,s2,e2,h⟩:=zX h;rw[XN h,rS b _ _ _ z.2 e2,rS a _ _ _ z.1 e1]
 |.L _ _,_,_,_,h,_=>by cases h
 |.G _,_,_,_,h,_=>by cases h
 |.q _ _ _,_,_,_,h,_=>by cases h
 |.s _ _ _ _ _,_,_,_,h,_=>by cases h
 |.y _ _,_,_,_,h,_=>by cases h
 |.I _ _,_,_,_,h,_=>by cases h
 |.H _ _ _,_,_,_,h,_=>by cases h
 |.B,_,_,_,h,_=>by cases h
 |.h _ _ _,_,_,_,h,_=>by cases h
 |.l _ _ _,_,_,_,h,_=>by cases h
 |.F _ _,_,_,_,h,_=>by cases h
 |.M _ _ _ _,_,_,_,h,_=>by cases h
 |.J _ _ _ _ _,_,_,_,h,_=>by cases h
 |.r _ _ _ _ _ _ _,_,_,_,h,_=>by cases h
 |.w _ _ _ _ _ _ _ _ _ _,_,_,_,h,_=>by cases h
 |.p _ _ _ _,_,_,_,h,_=>by cases h
 |.C _,_,_,_,h,_=>by cases h
 |.K _ _,_,_,_,h,_=>by cases h
 |.z _,_,_,_,h,_=>by cases h
theorem uk:∀(es:Exs) (s s':Sto) (vs:List Val),vO es=true->zY Φ G env es s=.e vs s'->s'=s
 |.c,_,_,_,_,h=>by cases h;rfl
 |.a e es,s,s',vs,z,h=>by simp only[vO,cf]at z;obtain⟨x,s1,e1,h⟩:=zX h;obtain⟨y,s2,e2,h⟩:=zX h;cases h;rw[uk es _ _ _ z.2 e2,rS e _ _ _ z.1 e1]
end
end
section
variable {T:Tbl}{n:Nat}
mutual
theorem rG:∀(a:Ex),sim a=true->JE T n a
 |.g _,_=>aF
 |.e _,_=>aJ
 |.E _,_=>VI
 |.j m op a b,h=>by
  simp only[sim,cf]at h;exact br (rG a h.1.2) (rG b h.2)
 |.D a,h=>bw (rG a (by simpa only[sim] using h))
 |.k es,h=>by
  simp only[sim]at h;intro sc N X e o x env s;replace x:=uM x;obtain⟨O,k,p,rfl,x⟩:=x;simp only[cf]at x;exact jN (mO es h _ _ _ _ o x.1 x.2 env s)
 |.u m es,h=>by
  simp only[sim,cf]at h;intro sc N X e o x env s;replace x:=qj x;obtain⟨O,p,rfl,x⟩:=x;simp only[cf]at x;exact aG (mO es h.2 _ _ _ _ o x.1 x.2 env s)
 |.A a b,h=>by
  simp only[sim,cf]at h;exact VH (rG a h.1) (rG b h.2)
 |.L _ _,h=>by cases h
 |.G _,h=>by cases h
 |.q _ _ _,h=>by cases h
 |.s _ _ _ _ _,h=>by cases h
 |.y _ _,h=>by cases h
 |.I _ _,h=>by cases h
 |.H _ _ _,h=>by cases h
 |.B,h=>by cases h
 |.h _ _ _,h=>by cases h
 |.l _ _ _,h=>by cases h
 |.F _ _,h=>by cases h
 |.M _ _ _ _,h=>by cases h
 |.J _ _ _ _ _,h=>by cases h
 |.r _ _ _ _ _ _ _,h=>by cases h
 |.w _ _ _ _ _ _ _ _ _ _,h=>by cases h
 |.p _ _ _ _,h=>by cases h
 |.C _,h=>by cases h
 |.K _ _,h=>by cases h
 |.z _,h=>by cases h
theorem mO:∀(es:Exs),vO es=true->∀(sc:Scope) (N:List Str) (X:L2.Cx) (x:List Expr),Ok T n sc N X->ckL sc N es x=true->zf x=true->∀env s,L2.PA X x (tVs X.K X.d env s (zY (zB T n) T.b env es s))
 |.c,_=>λsc N X x o h hp env s=>by
  cases AN.mp h;exact gQ
 |.a e es,hs=>λsc N X x o h hp env s=>by simp only[vO,cf]at hs;replace h:=yA h;obtain⟨y,O,rfl,h⟩:=h;rw[zf,cf]at hp;exact lP hp.1 (rG e hs.1 _ _ _ _ o (zN h).1 env s) λs1=>mO es hs.2 _ _ _ _ o (zN h).2 hp.2 env s1
end
end
end M
end
section
namespace M
open PySem PySem.W PyProof.Rows
def mM(h:L2.PA X.nox es t):L2.PA X es t:=λpos pins s σ H Q I hw=>
 AF (h pos pins s σ H Q (I.wZ _) hw) (λ_ _ ⟨vs,H',I',r,q⟩=>⟨vs,H',I'.xF,r,q⟩) λ_ _ z=>Av z
def ox(h:uH a=true):a=L2.noArgs:=by obtain⟨po,Q,x,O,kd,N,P⟩:=a;simp only[uH,cf,AN,BW]at h;obtain⟨⟨⟨⟨⟨⟨rfl,rfl⟩,rfl⟩,rfl⟩,rfl⟩,rfl⟩,rfl⟩:=h;rfl
def Zp(r:L2.xN (m+1) A)e1 e2:L2.xN m ((A.deeper e1).deeper e2):=
 ⟨r.a,by have:=r.c;show A.depth+1+1+3*m+5<_;omega,by have:=r.b;show A.units+3+3+16*m+200<_;omega,r.d⟩
def QS(h:∀v s',o=.e v s'->L2.PE X E (tV X.K X.d env s o)):L2.PE X E (tV X.K X.d env s o):=by
 cases o with
 |e v s'=>exact h v s' rfl
 |g _ _ _=>exact zK (zH rfl)
 |d=>exact zK (zH rfl)
def lO(h:rm sc x=true):L2.Vis sc x:=by
 simp only[rm,Aw,decide_eq_true_eq]at h;rcases h with (h|h)|h
 . exact .inl h
 . exact .inr (.inl h)
 . exact .inr (.inr h)
def ZN{ds}{i:Nat}(F:L2.tm X.f X.w X.K X.d X.h CX k f fd ps sp)(hr:L2.xN k X.A)(hN:X.N[i]?=some x)(Z:L2.Vis X.a.scope x)(hk:B2 X.K (.ref f)=true)(hb:L2.Binds X.K fd ps ds)(hd:L2.Vals dvs ds)(hx:L2.Passes CX X E)
 (ha:L2.PA X (e::es) t) (R:(x == ("__debug__":Str))=false) (S:(x == ("__classdict__":Str))=false) (he:AA (e::es) X.a=(false,eval e X.a)::AA es X.a) (P:(backTo pos (AA es X.a)).any (·.1)=false) :
 L2.PE X (.Call (.Name x p) (e::es) [] pos) (λσ H Q=>σ[i]?=some (some (.c f))/\L2.gx sp dvs E t σ H Q):=by
 rintro pins s σ H Q I ⟨h0,h⟩;refine BP (L2.thn (L2.xV hN Z R S pins s σ H (λv H2=>v=L2.V.c f/\H2=H) I ⟨_,h0,rfl,rfl⟩) λu s2 Y=>?_);obtain⟨v,H2,W,r,O,U⟩:=Y;subst O U;cases r;refine Dc (h₀:=X.h) W.C.i.a hk (L2.thn (ha pos pins s2 σ H2 _ W h) λus s1 ⟨vs,H1,I1,r,q⟩=>⟨I1.kIn,?_⟩) he P;exact L2.iA F hr hb hd hx I1 r q
section
variable {T:Tbl}{n:Nat}{sc lsc:Scope}{N:List Str}{X:L2.Cx}
def Cal(lsc:Scope)(N:List Str)(env:Env)(y f:Str):Prop:=(y=f/\lsc.names.lookup y=some .globalImplicit/\(y == ("__debug__":Str))=false) \/
 ∃i:Nat,N[i]?=some y/\rm lsc y=true/\(y == ("__debug__":Str))=false/\(y == ("__classdict__":Str))=false/\env[i]?=some (some (.t f))
def nG
 (o:Ok T (m+1) sc0 N0 X) (nd:N.Nodup) (nmk:∀x∈lsc.names,x.2=.globalImplicit\/x.2=.free) (h8:vO es=true) (h9:ckL lsc N es ys=true) (h10:zf ys=true) (h11:ys.isEmpty=false) (hcal:Cal lsc N env y f) (ho:zY (zB T m) T.b env es s=.e vs s) (hmd:T.c md=true)
 (I:L2.Inv X pins σq H s0) (L:L2.oQ X.g s0.heap H lf c2 qual (.Call (.Name y p2) ys [] p3) lsc cl pm ctv N σ) (hr:HR X.K X.d ρ s H) (er:ER X.K X.d ρ H env σ) (R:yU X.K X.d (RD X.K X.d) ρ H (uU T md (zB T m f 0 vs s) (zO T m f 0 vs s)) Q) (hf:X.d (L2.yC md)=some (.ref fS)) :
 wpAny (model X.f X.w) X.A (call (.ref fS) [.ref lf]) (L2.EP X pins σq Q) X.i s0:=by
 have sd:=o.l m rfl ⟨md,hmd⟩;refine byG λpi P=>?_;obtain⟨kx,cs,ws,pre,hue,hhue,KF,SF,CF,RF⟩:=sd.a.a;refine P ?_;obtain⟨fS',SF'⟩:=SF md hmd;obtain rfl:fS'=fS:=by refine byG λpi P=>?_;obtain⟨_,_,z,_⟩:=id SF'.a;refine P ?_;rw[hf]at z;cases z;rfl
 cases hfn:T.d f 0 with
 |none=>
  exfalso;have h1:zB T m f 0 vs s=.d:=by
   cases m with
   |zero=>rfl
   |succ m=>simp only[zB,hfn];cases oj vs<;>rfl
  have h2:zO T m f 0 vs s=dr:=by
   cases m with
   |zero=>rfl
   |succ m=>simp only[zO,hfn]
  rw[h1,h2]at R;exact R
 |some F=>
  refine byG λpi P=>?_;obtain⟨fa2,fd2,e1,e2,e3,e4,e5⟩:=(sd.b m (Aa _)).a f 0 F hfn;refine P ?_;refine C9 (CY (L2.Zx (EE:=λcls dd H2=>∃(U:Str) (as:List Val) (s':Sto) (ρ2:Own) (C:Addr),((∀v s1,zB T m f 0 vs s≠.e v s1)/\zO T m f 0 vs s=some (U,as,s'))/\Ext ρ H ρ2 H2/\HR X.K X.d ρ2 s' H2/\X.d U=some (.ref C)/\cls=.ref C/\DX ρ2 H2 U as dd)
   (Q:=Q) (tb:=λσ1 H1 Q1=>(∀i:Nat,env[i]?=some (some (.t f))->σ1[i]?=some (some (.c fa2)))/\L2.gx (spX T X.K X.d m f 0) [] (λcls dd H2=>∃(U:Str) (as:List Val) (s':Sto) (ρ2:Own) (C:Addr),((∀v s1,zB T m f 0 vs s≠.e v s1)/\zO T m f 0 vs s=some (U,as,s'))/\Ext ρ H ρ2 H2/\HR X.K X.d ρ2 s' H2/\X.d U=some (.ref C)/\cls=.ref C/\DX ρ2 H2 U as dd) (tVs X.K X.d env s (zY (zB T m) T.b env es s)) σ1 H1 Q1)
   I.v7 o.c.a (by have:=o.c.c;omega) SF' KF hhue L (λv7 s' H2=>?_) ?_ λcls dd H2 hEE=>?_) λr s' O=>?_)
  . cases ys with
    |nil=>cases h11
    |cons y1 ys=>
     have Z:=h10;rw[zf,cf]at Z;have okL:Ok T m lsc N (L2.qh (L2.CXE X.f X.w) X.f X.w X.K X.d X.h N qual lsc lf (.ref c2) cl (X.A.deeper v7) (v7::X.g) s' H2 (λcls dd H2=>∃(U:Str) (as:List Val) (s':Sto) (ρ2:Own) (C:Addr),((∀v s1,zB T m f 0 vs s≠.e v s1)/\zO T m f 0 vs s=some (U,as,s'))/\Ext ρ H ρ2 H2/\HR X.K X.d ρ2 s' H2/\X.d U=some (.ref C)/\cls=.ref C/\DX ρ2 H2 U as dd)).nox:=by
      refine⟨rfl,Zp o.c _ _,⟨rfl,nd,λx hx=>hx,λx hx=>?_,λx hx=>hx,λx hx=>hx⟩,λf' v' F' hf'=>?_,o.k,o.g,rfl,o.i,λm' hm' hmd'=>⟨sd.a,λj hj=>sd.b j ⋯⟩,λ_ ⟨x,hx⟩ _=>?_⟩
      . exfalso
        rcases hx with hx|hx
        . rcases nmk _ (AO hx) with z|z<;>cases z
        . rcases nmk _ (AO hx) with z|z<;>cases z
      . refine byG λpi P=>?_
        obtain⟨fa3,fd3,y1,y2,y3,y4,y5⟩:=(sd.b m (Aa _)).a f' v' F' hf';refine P ?_;exact⟨⟨fa3,fd3,y1,y2,y3,y4⟩⟩
      . exfalso
        rcases nmk _ (AO hx) with z|z<;>cases z
     have hpa:=mM (mO es h8 lsc N _ _ okL h9 h10 env s);rcases hcal with⟨rfl,h6,h7⟩|⟨i,c1,c2,c3,c4,c5⟩
     . exact zZ (L2.mQ e5 (Zp o.c _ _) h6 e1 e2 e3 .nil L2.pL hpa h7 (L2.zj (zc Z.1)) (yt Z.2)) λσ H Q h=>h.2
     . exact zZ (ZN e5 (Zp o.c _ _) c1 (lO c2) e2 e3 .nil L2.pL hpa c3 c4 (L2.zj (zc Z.1)) (yt Z.2)) λσ H Q h=>⟨h.1 i c5,h.2⟩
  . refine Ad (λi he=>?_) ⟨ρ,hr,er,?_⟩
    . obtain⟨x,hx,r⟩:=er.a i _ he
      cases r with
      |I e=>rw[e1]at e;cases e;exact hx
    rw[ho];intro ρ1 xs H1 x1 hr1 r1;refine⟨ρ1,s,vs,hr1,by rw[A4];exact r1,?_⟩
    cases O:zB T m f 0 vs s with
    |e v s'=>
     rw[O]at R;refine .inl λρ2 x H2 x2 S r2=>?_;have X2:=x1.trans hr1 x2;cases md with
     |true=>exact R ρ2 x H2 X2 S r2
     |false=>exact R ρ2 _ H2 X2 S (.D _)
    |g _ _ _=>
     rw[O]at R;cases hx:zO T m f 0 vs s with
     |none=>rw[hx]at R;exact R.elim
     |some r=>
      obtain⟨U,as,s'⟩:=r;exact .inr λρ2 H2 x2 S C hC dd hdx=>⟨U,as,s',ρ2,C,⟨zH rfl,rfl⟩,x1.trans hr1 x2,S,hC,rfl,hdx⟩
    |d=>
     rw[O]at R;cases hx:zO T m f 0 vs s with
     |none=>rw[hx]at R;exact R.elim
     |some r=>
      obtain⟨U,as,s'⟩:=r;exact .inr λρ2 H2 x2 S C hC dd hdx=>⟨U,as,s',ρ2,C,⟨zH rfl,rfl⟩,x1.trans hr1 x2,S,hC,rfl,hdx⟩
  . refine byG λpi P=>?_
    obtain⟨U,as,s',ρ2,C,⟨hno,hexc⟩,x2,S,hC,rfl,hdx⟩:=hEE;refine P ?_;have R:yU X.K X.d (RD X.K X.d) ρ H (match T.e.lookup U with|some w=>.e (wg md w as) s'|dr=>.d) Q:=by
     rw[hexc]at R;cases hn:zB T m f 0 vs s with
     |e v s1=>exact absurd hn (hno v s1)
     |g _ _ _=>rw[hn]at R;exact R
     |d=>rw[hn]at R;exact R
    cases hw:T.e.lookup U with
    |none=>rw[hw]at R;exact R.elim
    |some w=>
     rw[hw]at R;refine byG λpi P=>?_;obtain⟨C',i,x,c1,c2,c3,c4,c5,c6,c7⟩:=CF U w hw;refine P ?_;rw[hC]at c1;cases c1;refine⟨C,U,i,x,rfl,c2,c3,c4,c5,?_⟩;by_cases hgr:md=false/\w="great"
     . obtain⟨hmf,Y⟩:=hgr
       subst hmf Y;have hcc:=c7 rfl;subst hcc;obtain⟨C0,D0,fI,fd0,Kc,m1,m2,m3,m4,m5,m6,m7⟩:=sd.a.gr (by rw[hw];rfl) X.h I.C.i.a
       rw[hC]at m1;cases m1;refine byG λpi P=>?_;obtain⟨d,a,b,rfl,rfl,hd,hno'⟩:=hdx.get;refine P ?_;refine .inr ⟨rfl,c6.symm,D0,fI,d,a,b,Kc,rfl,hd,m6,m5,m4,m2,λH3 p sm hp=>?_⟩;obtain⟨W,x3⟩:=S.VZ sm;exact R ρ2 (.c p) _ ((x2.trans S x3).trans W (Ext.new W hp _)) (W.more hp _) (.m (W.new hp) L2.zJ (.a (.D _) (.a (.l a) (.a (.l b) .d))))
     . refine .inl ⟨λhmf=>by rw[<-c6];exact λY=>hgr ⟨hmf,Y⟩,λH3 sm=>?_⟩
       obtain⟨W,x3⟩:=S.VZ sm;have hA:wg md w as=.j w:=by
        unfold wg;cases md with
        |true=>rfl
        |false=>rw[if_neg Ac,if_neg λY=>hgr ⟨rfl,Y⟩]
       have R:yU X.K X.d (RD X.K X.d) ρ H (.e (wg md w as) s') Q:=R;rw[hA]at R;have:=R ρ2 (.e w) H3 (x2.trans S x3) W (.D w);rw[<-c6];exact this
  . cases r with
    |error e=>exact Av O
    |ok fl=>
     cases fl with
     |ret u=>exact I.after O
     |next=>exact Av O
     |brk=>exact Av O
     |cont=>exact Av O
def nH(o:Ok T (m+1) sc N X)(h2:sc.names.lookup (L2.yC md)=some .globalImplicit)(h3:uH a=true)(h4:vB sc lsc=true)
 (h8:vO es=true) (h9:ckL lsc N es ys=true) (h10:zf ys=true) (h11:ys.isEmpty=false) (h12:("!":Str)∈N) env s (hcal:Cal lsc N env y f) (ho:zY (zB T m) T.b env es s=.e vs s) (htb:zi T.f s=true) (W:T.c md=true) :
 L2.PE X (.Call (.Name (L2.yC md) p1) [.Lambda a (.Call (.Name y p2) ys [] p3) lsc p4] [] p5) (tV X.K X.d env s (uU T md (zB T m f 0 vs s) (zO T m f 0 vs s))):=by
 obtain rfl:=ox h3;rintro pins s0 σ H Q I ⟨ρ,hr,er,wt⟩;have sd:=o.l m rfl ⟨md,W⟩;refine byG λpi O=>?_;obtain⟨kx,cs,ws,pre,hue,hhue,KF,SF,CF,RF⟩:=sd.a.a;refine O ?_;obtain⟨fS,SF'⟩:=SF md W;refine byG λpi O=>?_;obtain⟨stS,fdS,hmS,FnS,_⟩:=id SF'.a;refine O ?_;simp only[vB,cf,decide_eq_true_eq,As,Ay,Bo,Aw]at h4;refine byG λpi O=>?_;obtain⟨⟨⟨⟨k1,k2⟩,k3⟩,k4⟩,⟨x0,hx0,hx0f⟩⟩:=h4;refine O ?_;have U:∀x∈lsc.names,x.2=.free->sc.names.lookup x.1=some .cell\/sc.names.lookup x.1=some .free:=λx hx hf=>by
  rcases k4 x hx with z|z
  . rw[hf]at z;cases z
  . exact z.2
 refine byG λpi O=>?_;obtain⟨g,hg,fa,c,ob,fd,q1,q2,q3,q4,q5,q6⟩:=o.j ⟨md,W⟩ ⟨x0.1,hx0f⟩ h12;refine O ?_;obtain⟨j,hj⟩:=qw htb hg;obtain⟨P,hPo,tr⟩:=hr.m j _ hj;refine byG λpi O=>?_;obtain⟨ps,hP,tok,among,fa',c',o',fd',w1,w2,w3,w4,w5⟩:=id tr;refine O ?_;rw[q1]at w1;cases w1;rw[q2]at w2;cases w2;rw[q3]at w3;cases w3;rw[q4]at w4;cases w4;have hq:X.a.qual++("<lambda>":Str)=aW g:=by rw[q6];rfl
 have R:∀x,(x,AE)∈lsc.names->∃b,X.a.cells.lookup x=some b:=λx hx=>I.C.p x (o.a.f x (U _ hx rfl));have Y:∀x b,(wF X.a.cells lsc.names []).lookup x=some b->(x,AE)∈lsc.names/\X.a.cells.lookup x=some b:=λx b e=>by
  rcases rC (AO e) with z|⟨Z,z2⟩
  . cases z
  . obtain⟨b',S⟩:=R x Z
    rw[S]at z2;exact⟨Z,by rw[S,z2];rfl⟩
 have hdbg:(L2.yC md == ("__debug__":Str))=false:=by cases md<;>decide
 refine BP (L2.xU I (o.a.b _ h2) hmS ?_ hdbg);refine Dc (h₀:=X.h) I.C.i.a FnS.b ?_;show wpAny _ _ (spliced ((false,eval (.Lambda L2.noArgs (.Call (.Name y p2) ys [] p3) lsc p4) X.a)::backTo p5 (AA [] X.a))) _ _ s0;refine Calls.spliced_cons (L2.lR (P:=P) (ps:=ps) (c:=c) I rfl (i9 λx hx hf=>R x.1 (by rw[<-hf];exact hx)) q5 (w5 _ I.kIn) hP tok (sd.a.bm _ I.C.i.a) (λcv hcv=>?_) λlf c2 ctv H' h' tk I' lamh ⟨nl,_,nf,cdr⟩ obj cr=>Calls.spliced_nil ⟨I'.kIn,?_⟩)
 . refine byG λpi O=>?_
   obtain⟨b,ob',vb,tb,Z,_,z3,z4,z5⟩:=among _ cv hcv;refine O ?_;exact⟨b,ob',vb,tb,Z,z3,z4,by rw[hq];exact z5⟩
 rw[hq]at lamh;obtain⟨hr',X0⟩:=hr.lam hj hPo tr hP lamh;have L:L2.oQ X.g h' H' lf c2 (X.a.qual++("<lambda>":Str)) (.Call (.Name y p2) ys [] p3) lsc (wF X.a.cells lsc.names []) ((X.d "__name__").getD .none) ctv N σ:=by
  refine⟨obj,.inl nl,nf,cdr,λx y b Z z2=>I.C.r x y b (Y x b Z).2 (Y y b z2).2,λx hx=>lookup_mem (vE (AO hx)),λx b e=>?_,λi x v Z z2 z3=>?_,by rw[<-o.a.a];exact I'.P,k1,k2,k3,λx hx=>?_⟩
  . obtain⟨y1,y2⟩:=Y x b e
    exact⟨I'.G x b y2,I'.D x b y2⟩
  . have hm3:=AO z3
    have hcl:=U _ hm3 rfl;obtain⟨mm,hn,hl⟩:=I'.M;obtain⟨u,ru,lk⟩:=hl i x v (by rw[o.a.a];exact Z) z2 (o.a.e x (.inr hcl))
    rcases lk with⟨y,_⟩|⟨_,b,y2,y3⟩
    . rcases o.a.f x hcl with y'|y'
      . rw[y]at y';cases y'
      . rw[y]at y';cases y'
    . obtain⟨b',S⟩:=lookup_mem (vE (cells:=X.a.cells) (acc:=[]) hm3)
      have:=(Y x b' S).2;rw[y2]at this;cases this;exact⟨u,b,ru,S,y3⟩
  . rcases k4 x hx with z|z
    . rw[z];exact⟨nofun,nofun⟩
    . rw[z.1];exact⟨nofun,nofun⟩
 exact nG o o.a.d (λx hx=>(k4 x hx).imp id And.left) h8 h9 h10 h11 hcal ho W I' L hr' (er.mono X0) (wt.mono X0 hr') hmS
def Xg(o:Ok T n sc N X)(hver:¬ver<100)(R:ver<200)(O:¬ver=102)(h2:sc.names.lookup (L2.yC (decide (ver=101)))=some .globalImplicit)(h3:uH a=true)(h4:vB sc lsc=true)(h6:lsc.names.lookup f=some .globalImplicit)
 (h7:(f == ("__debug__":Str))=false) (W:vO es=true) (h9:ckL lsc N es ys=true) (h10:zf ys=true) (Z:ys.isEmpty=false) (Y:("!":Str)∈N) env s :
 L2.PE X (.Call (.Name (L2.yC (decide (ver=101))) p1) [.Lambda a (.Call (.Name f p2) ys [] p3) lsc p4] [] p5) (tV X.K X.d env s (evE (zB T n) T.b env (.h f ver es) s)):=by
 show L2.PE X _ (tV X.K X.d env s ((zY (zB T n) T.b env es s).bind λvs s1=>zB T n f ver vs s1));cases n with
 |zero=>
  refine zK λv s' e=>?_;obtain⟨_,_,_,z⟩:=zX e;cases z
 |succ m=>
  rw[uj (Φ':=zB T m) es s W];cases ho:zY (zB T m) T.b env es s with
  |g _ _ _=>exact zK (zH rfl)
  |d=>exact zK (zH rfl)
  |e vs s1=>
   obtain rfl:s=s1:=(uk es _ _ _ W ho).symm;rw[zM];have P:zB T (m+1) f ver vs s=if ((decide (ver=100)&&T.c false)||(decide (ver=101)&&T.c true))&&zi T.f s then uU T (decide (ver=101)) (zB T m f 0 vs s) (zO T m f 0 vs s) else .d:=by
    simp only[zB,o.i f ver ⋯]
    rw[decide_eq_false (show ¬ver=200 by omega),decide_eq_false (show ¬ver=300 by omega),decide_eq_false (show ¬ver=301 by omega),decide_eq_false (show ¬ver=302 by omega),decide_eq_false O]
    congr 1;cases oj vs<;>rfl
   rw[P];by_cases hcond:(((decide (ver=100)&&T.c false)||(decide (ver=101)&&T.c true))&&zi T.f s)=true
   case neg=>rw[if_neg hcond];exact zK (zH rfl)
   rw[if_pos hcond];rw[cf]at hcond;obtain⟨x,S⟩:=hcond;have U:T.c (decide (ver=101))=true:=by
    simp only[Aw,cf,decide_eq_true_eq]at x;rcases x with⟨z1,Q⟩|⟨z1,Q⟩
    . rw[decide_eq_false ⋯];exact Q
    . rw[decide_eq_true z1];exact Q
   exact nH o h2 h3 h4 W h9 h10 Z Y env s (.inl ⟨rfl,h6,h7⟩) ho S U
def aI(o:Ok T n sc N X)(hver:¬ver<200)(hv2:ver≠200)(hv3:ver≠302)(Z:Wu es=true)(h2:sc.names.lookup (L2.yC (decide (ver=301)))=some .globalImplicit)(h3:uH a=true)(h4:vB sc lsc=true)
 (S:vO es=true) (U:ckL lsc N es (.Name y default::ys)=true) (h10:zf ys=true) (h11:ys.isEmpty=false) (h12:("!":Str)∈N) env s :
 L2.PE X (.Call (.Name (L2.yC (decide (ver=301))) p1) [.Lambda a (.Call (.Name y p2) ys [] p3) lsc p4] [] p5) (tV X.K X.d env s (evE (zB T n) T.b env (.h f ver es) s)):=by
 show L2.PE X _ (tV X.K X.d env s ((zY (zB T n) T.b env es s).bind λvs s1=>zB T n f ver vs s1));obtain⟨i,O,rfl⟩:=Wv Z;have U:((decide (N[i]?=some y)&&rm lsc y&&!(y == ("__debug__":Str))&&!(y == ("__classdict__":Str)))&&ckL lsc N O ys)=true:=U;simp only[cf,decide_eq_true_eq,As]at U;obtain⟨⟨⟨⟨c1,c2⟩,c3⟩,c4⟩,c5⟩:=U;have S:vO O=true:=by rw[vO,cf]at S;exact S.2
 cases n with
 |zero=>
  refine zK λv s' e=>?_;obtain⟨_,_,_,z⟩:=zX e;cases z
 |succ m=>
  refine QS λv s' e=>?_;obtain⟨vs,s1,Y,P⟩:=zX e;obtain⟨v0,s0,hv0,hr0⟩:=zX (show ((evE (zB T (m+1)) T.b env (.e i) s).bind λv s1=>(zY (zB T (m+1)) T.b env O s1).bind λvs s2=>.e (v::vs) s2)=.e vs s1 from Y);obtain⟨us,s2,R,hr1⟩:=zX hr0;cases hr1;have x:(match env[i]? with|some (some v)=>Out.e v s|_=>.d)=.e v0 s0:=hv0
  split at x
  case h_2=>cases x
  rename_i v0' he;cases x;rw[uj (Φ':=zB T m) O s S]at R;obtain rfl:s1=s:=uk O _ _ _ S R;simp only[zB,o.i f ver ⋯]at P
  rw[decide_eq_false (show ¬ver=100 by omega),decide_eq_false (show ¬ver=101 by omega),decide_eq_false hv2,decide_eq_false hv3,decide_eq_false (show ¬ver=102 by omega)]at P
  cases v0 with
  |t g=>
   have P:(if ((decide (ver=300)&&T.c false)||(decide (ver=301)&&T.c true))&&zi T.f s1 then uU T (decide (ver=301)) (zB T m g 0 us s1) (zO T m g 0 us s1) else .d)=.e v s':=P
   by_cases hcond:(((decide (ver=300)&&T.c false)||(decide (ver=301)&&T.c true))&&zi T.f s1)=true
   case neg=>rw[if_neg hcond]at P;cases P
   rw[if_pos hcond]at P;rw[cf]at hcond;obtain⟨Q,htb⟩:=hcond;have hmd:T.c (decide (ver=301))=true:=by
    simp only[Aw,cf,decide_eq_true_eq]at Q;rcases Q with⟨z1,W⟩|⟨z1,W⟩
    . rw[decide_eq_false ⋯];exact W
    . rw[decide_eq_true z1];exact W
   have:=nH (p1:=p1) (p2:=p2) (p3:=p3) (p4:=p4) (p5:=p5) o h2 h3 h4 S c5 h10 h11 h12 env s1 (.inr ⟨i,c1,c2,c3,c4,he⟩) R htb hmd;rw[P]at this;rw[e];exact this
  |_=>cases P
end
end M
end
section
namespace L2
open PySem PySem.W PySem.Spec PyProof PyProof.Rows
def Inv.Vs(I:Inv X pins σ H s)(hn:H a=none)(S:s.heap.get? a=some oe)(h0:X.l.heap.objs.size<=a)(hp:∀p∈X.q++pins,p.1≠a)(Z:X.a.locals≠a)(nC:∀x c,X.a.cells.lookup x=some c->c≠a):Inv X pins σ (upd H a (.d oe (.e 0))) s:=by
 have ne:∀b,H b≠none->b≠a:=λb n z=>n (by rw[z];exact hn)
 have ob:∀b u,H b=some u->upd H a (.d oe (.e 0)) b=some u:=λb u e=>by rw[zG (ne b (by rw[e];exact nofun))];exact e
 refine⟨I.C,I.R,I.F,⟨I.j.f,I.j.i,λb o e n hx=>?_,I.j.c,λb Q e=>ob _ _ (I.j.l b Q e),λb o u e=>ob _ _ (I.j.g b o u e),λb ps e=>?_⟩,I.M,I.G,?_,λx c e=>?_,λp N=>?_,λb u e=>?_,I.P⟩
 . rw[zG (λz=>by rw[z]at e;exact absurd (Aq (Al e) h0) (Bc _))];exact I.j.d b o e n hx
 . obtain⟨more,q⟩:=I.j.j b ps e
   exact⟨more,ob _ _ q⟩
 . rw[zG Z];exact I.J
 . rw[zG (nC x c e)];exact I.D x c e
 . obtain⟨Y,W,U⟩:=I.O p N
   exact⟨Y,by rw[zG (hp p N)];exact W,U⟩
 . by_cases z:b=a
   . subst z
     rw[zJ]at e;cases e;exact⟨S,oe,S⟩
   . rw[zG z]at e
     exact(I.B b u e).pX (λ_ _ _ q=>q) (λc q=>ob _ _ q) λc Q q=>ob _ _ q
end L2
namespace M
open PySem PySem.W PyProof.Rows
def qW(X:L2.Cx)(H:L2.Hp)(x:Addr)(body:Expr)(lsc:Scope):Prop:=∃(c:Addr) (ctv:Value),H x=some (.d (kla_obj "<lambda>" (X.a.qual++("<lambda>":Str)) L2.noArgs body lsc (wF X.a.cells lsc.names []) ((X.d "__name__").getD .none) c ctv) (.e 0))/\x ∉ L2.frs X.g /\
 ∃(o:Obj) (vs:Array Value) (t:Tok),H c=some (.d o (.e 0))/\o.data=.fields vs/\vs[1]?=some (.str (X.a.qual++("<lambda>":Str)) t)
def Frz(H H':L2.Hp):Prop:=∀a o u,H a=some (.d o u)->H' a=some (.d o u)
def qW.keep(l:qW X H lf body lsc)(k:Frz H H'):qW X H' lf body lsc:=by obtain⟨c,ctv,h1,O,o,vs,t,N,x⟩:=l;exact⟨c,ctv,k _ _ _ h1,O,o,vs,t,k _ _ _ N,x⟩
section
variable {K:KF}{mg:Str->Option Value}{ρ ρ':Own}{H H':L2.Hp}{s:Sto}
def HR.R1(x:HR K mg ρ s H)(e:H a=some (.d o u)):a ∉ ρ.o:=λO=>by
 obtain⟨i,hi,e1⟩:=BG O;have N:i<s.length:=by rw[<-x.f];exact hi
 obtain⟨b,e2,r⟩:=x.m i _ (Ai N);rw[Ai hi,e1]at e2;cases e2;have:=r.hk;rw[e]at this;cases this
def HR.frz(N:HR K mg ρ s H)(x:Ext ρ H ρ' H'):Frz H H':=λa o u e=>x.c a _ e (N.R1 e)
def ER.put(x:ER K mg ρ H env σ):ER K mg ρ H (env.set i dr) (σ.set i v):=by
 refine⟨by rw[BN,BN];exact x.b,λj w e=>?_⟩
 by_cases z:i=j
 . subst z
   rw[List.getElem?_set]at e;split at e
   . split at e<;>cases e
   . rename_i h;exact absurd rfl h
 . rw[Bk z]at e ⊢
   exact x.a j w e
end
def ZX(o:Ok T (m+1) sc N X)(hmd:T.c false=true)(h4:vB sc lsc=true)(h12:("!":Str)∈N) :
 L2.PE X (.Lambda L2.noArgs body lsc p4) (λσ H Q=>∃ρ s,HR X.K X.d ρ s H/\zi T.f s=true/\∀lf H',Ext ρ H ρ H'->HR X.K X.d ρ s H'->qW X H' lf body lsc->Q (.c lf) H'):=by
 rintro pins s0 σ H Q I ⟨ρ,s,hr,htb,wt⟩;have sd:=o.l m rfl ⟨_,hmd⟩;simp only[vB,cf,decide_eq_true_eq,As,Ay,Bo,Aw]at h4;refine byG λpi R=>?_;obtain⟨⟨⟨⟨k1,k2⟩,k3⟩,k4⟩,⟨x0,hx0,hx0f⟩⟩:=h4;refine R ?_;have Z:∀x∈lsc.names,x.2=.free->sc.names.lookup x.1=some .cell\/sc.names.lookup x.1=some .free:=λx hx hf=>by
  rcases k4 x hx with z|z
  . rw[hf]at z;cases z
  . exact z.2
 refine byG λpi R=>?_;obtain⟨g,hg,fa,c,ob,fd,q1,q2,q3,q4,q5,q6⟩:=o.j ⟨_,hmd⟩ ⟨x0.1,hx0f⟩ h12;refine R ?_;obtain⟨j,hj⟩:=qw htb hg;obtain⟨P,hPo,tr⟩:=hr.m j _ hj;refine byG λpi R=>?_;obtain⟨ps,hP,tok,among,fa',c',o',fd',w1,w2,w3,w4,w5⟩:=id tr;refine R ?_;rw[q1]at w1;cases w1;rw[q2]at w2;cases w2;rw[q3]at w3;cases w3;rw[q4]at w4;cases w4;have hq:X.a.qual++("<lambda>":Str)=aW g:=by rw[q6];rfl
 have S:∀x,(x,AE)∈lsc.names->∃b,X.a.cells.lookup x=some b:=λx hx=>I.C.p x (o.a.f x (Z _ hx rfl));refine L2.lR (P:=P) (ps:=ps) (c:=c) I rfl (i9 λx hx hf=>S x.1 (by rw[<-hf];exact hx)) q5 (w5 _ I.kIn) hP tok (sd.a.bm _ I.C.i.a) (λcv hcv=>?_) λlf c2 ctv H' h' tk I' lamh ⟨nl,hsz,nf,cdr⟩ obj cr=>?_
 . refine byG λpi R=>?_
   obtain⟨b,ob',vb,tb,z1,_,z3,z4,z5⟩:=among _ cv hcv;refine R ?_;exact⟨b,ob',vb,tb,z1,z3,z4,by rw[hq];exact z5⟩
 have U:L2.Vo H P ps p4 (aW g) c2 H':=by rw[<-hq];exact lamh
 obtain⟨W,X0⟩:=hr.lam hj hPo tr hP U;have Y:∀b (u:Obj),s0.heap.get? b=some u->b≠lf:=λb u e z=>by rw[z]at e;exact absurd (Aq (Al e) hsz) (Bc _)
 refine byG λpi R=>?_;obtain⟨oc,vs,t,z1,z2,z3⟩:=cdr;refine R ?_;refine⟨.c lf,_,I'.Vs nl obj (Az I.sz hsz) (λp hp=>Y _ _ (I.O p hp).1) (λz=>?_) (λx b e z=>?_),rfl,wt lf _ (X0.trans W (Ext.new W nl _)) (W.more nl _) ⟨c2,ctv,L2.zJ,nf,oc,vs,t,?_,z2,z3⟩⟩
 . refine byG λpi R=>?_
   obtain⟨mm,⟨oo,_,_,e,_⟩,_⟩:=I.M;refine R ?_;exact Y _ _ e z
 . refine byG λpi R=>?_
   obtain⟨v,oo,e2,_⟩:=I.G x b e;refine R ?_;exact Y _ _ e2 z
 . rw[L2.zG (L2.zR z1 nl)];exact z1
theorem qW.at(o:Ok T n sc N X)(l:qW X H lf body lsc)(h4:vB sc lsc=true)(Z:L2.Inv X pins0 σ H0 s0)(f0:∀b∈ex,L2.uq X pins0 H0 b)
 (I:L2.Inv (X.comp N' csc C s0 H0 ex) pins σ' H s1):∃c ctv,L2.oQ X.g s1.heap H lf c (X.a.qual++("<lambda>":Str)) body lsc (wF X.a.cells lsc.names []) ((X.d "__name__").getD .none) ctv N σ:=by
 obtain⟨c,ctv,h1,h2,h3⟩:=l;simp only[vB,cf,decide_eq_true_eq,As,Ay,Bo,Aw]at h4;obtain⟨⟨⟨⟨k1,k2⟩,k3⟩,k4⟩,_⟩:=h4;have Q:∀x∈lsc.names,x.2=.free->sc.names.lookup x.1=some .cell\/sc.names.lookup x.1=some .free:=λx hx hf=>by
  rcases k4 x hx with z|z
  . rw[hf]at z;cases z
  . exact z.2
 have R:∀x,(x,AE)∈lsc.names->∃b,X.a.cells.lookup x=some b:=λx hx=>Z.C.p x (o.a.f x (Q _ hx rfl));have U:∀x b,(wF X.a.cells lsc.names []).lookup x=some b->(x,AE)∈lsc.names/\X.a.cells.lookup x=some b:=λx b e=>by
  rcases rC (AO e) with z|⟨z1,z2⟩
  . cases z
  . obtain⟨b',O⟩:=R x z1
    rw[O]at z2;exact⟨z1,by rw[O,z2];rfl⟩
 have un:L2.Un (L2.frs X.g) ex H0 H s0.heap s1.heap:=I.j;have Y:∀x b,X.a.cells.lookup x=some b->b ∉ ex:=λx b e hb=>(f0 b hb).2.2.2.2.1 x b e rfl;have S:∀x b v,X.a.cells.lookup x=some b->s0.heap.IsCell b v->s1.heap.IsCell b v:=λx b v hx ⟨ob,e,d⟩=>by
  have n:=Z.D x b hx;by_cases f:b∈L2.frs X.g
  . obtain⟨sl,e1⟩:=un.i b ob e n f (Y x b hx)
    exact⟨_,e1,d⟩
  . exact⟨ob,un.f b ob e n f (Y x b hx),d⟩
 refine⟨c,ctv,(I.B lf _ h1).1,.inr h1,h2,h3,λx y b z1 z2=>Z.C.r x y b (U x b z1).2 (U y b z2).2,λx hx=>lookup_mem (vE (AO hx)),λx b e=>?_,λi x v z1 z2 z3=>?_,by rw[<-o.a.a];exact Z.P,k1,k2,k3,λx hx=>?_⟩
 . obtain⟨y1,W⟩:=U x b e
   obtain⟨v,z⟩:=Z.G x b W;obtain⟨ob,eo,_⟩:=id z;exact⟨⟨v,S x b v W z⟩,un.d b ob eo (Z.D x b W) (Y x b W)⟩
 . have hm3:=AO z3
   have hcl:=Q _ hm3 rfl;obtain⟨mm,hn,hl⟩:=Z.M;obtain⟨u,ru,lk⟩:=hl i x v (by rw[o.a.a];exact z1) z2 (o.a.e x (.inr hcl))
   rcases lk with⟨y,_⟩|⟨_,b,W,y3⟩
   . rcases o.a.f x hcl with y'|y'
     . rw[y]at y';cases y'
     . rw[y]at y';cases y'
   . obtain⟨b',O⟩:=lookup_mem (vE (cells:=X.a.cells) (acc:=[]) hm3)
     have:=(U x b' O).2;rw[W]at this;cases this;exact⟨u,b,ru,O,S x b _ W y3⟩
 . rcases k4 x hx with z|z
   . rw[z];exact⟨nofun,nofun⟩
   . rw[z.1];exact⟨nofun,nofun⟩
end M
end
section
namespace M
open PySem
def Ug(O:JE T n a):JE T n (.G a):=by intro sc N X e o h env s;replace h:=qI h;obtain⟨x,p,rfl,h⟩:=h;exact Uu (O _ _ _ _ o h env s)
def Ud(Q:JE T n a)(P:JE T n b):JE T n (.q op a b):=by intro sc N X e o h env s;replace h:=qH h;obtain⟨l,o1,r,p,rfl,h⟩:=h;simp only[cf,decide_eq_true_eq]at h;obtain⟨⟨⟨⟨k1,rfl⟩,h1⟩,S⟩,R⟩:=h;exact Vt (Q _ _ _ _ o h1 env s) (λs1=>P _ _ _ _ o S env s1) λta tb O x=>L2.mR (vj o.c op k1) O x (xD R)
def bt(P:JE T n a)(O:JE T n b)(x:JE T n c):JE T n (.s op op' a b c):=by intro sc N X e o h env s;replace h:=gF h;obtain⟨l,o1,Y,r,W,p,rfl,h⟩:=h;simp only[cf,decide_eq_true_eq]at h;obtain⟨⟨⟨⟨⟨⟨k1,rfl⟩,k2,rfl⟩,U⟩,S⟩,R⟩,Q⟩:=h;exact aE k1 k2 o.c (P _ _ _ _ o U env s) (λs1=>O _ _ _ _ o S env s1) (λs1=>x _ _ _ _ o R env s1) Q
def Ub(P:JE T n a)(S:JL T n es):JE T n (.y a es):=by
 intro sc N X e o h env s;replace h:=qG h;obtain⟨x,R,pos,rfl,h⟩:=h;simp only[cf]at h;obtain⟨h1,O⟩:=h;cases es with
 |c=>
  cases AN.mp O;exact L2.jv (P _ _ _ _ o h1 env s)
 |a b U=>
  cases R with
  |nil=>cases O
  |cons y Q=>exact aC (P _ _ _ _ o h1 env s) λs1=>(S _ _ _ _ o O).2.1 y Q pos rfl env s1
def ki(S:ver<100)(h:T.d f ver=none)vs s:zB T n f ver vs s=.d:=by
 cases n with
 |zero=>rfl
 |succ n=>
  have h1:decide (ver=100)=false:=decide_eq_false ⋯
  have R:decide (ver=101)=false:=decide_eq_false ⋯
  have Q:decide (ver=200)=false:=decide_eq_false ⋯
  have P:decide (ver=300)=false:=decide_eq_false ⋯
  have O:decide (ver=301)=false:=decide_eq_false ⋯
  have N:decide (ver=102)=false:=decide_eq_false ⋯
  have x:decide (ver=302)=false:=decide_eq_false ⋯
  simp only[zB,h,h1,R,Q,P,O,N,x,CU,Bool.or_self,A2,if_false];cases oj vs<;>rfl
def XU(jl:JL T n es):JE T n (.h f ver es):=by
 intro sc N X e o h env s;replace h:(if ver<100 then ckA sc f (λY=>ckL sc N es Y) e else if ver<200 then ckB sc N f ver es (λl S=>ckL l N es S) e else ckV sc N ver es (λl S=>ckL l N es S) e)=true:=h
 split at h
 . rename_i hver
   replace h:=yy h;obtain⟨x,p,Y,pos,rfl,h⟩:=h;simp only[cf,decide_eq_true_eq,xt,As]at h;obtain⟨⟨⟨⟨rfl,O⟩,W⟩,U⟩,h5⟩:=h;show L2.PE X _ (tV X.K X.d env s ((zY (zB T n) T.b env es s).bind λvs s1=>zB T n x ver vs s1));cases hf:T.d x ver with
   |none=>
    refine zK λv s' e=>?_;cases hv:zY (zB T n) T.b env es s with
    |e vs s1=>rw[hv]at e;simp only[zM,ki hver hf]at e;cases e
    |g _ _ _=>rw[hv]at e;cases e
    |d=>rw[hv]at e;cases e
   |some F=>
    have C:=o.p x ver F hf;cases Y with
    |nil=>
     cases es with
     |c=>exact aD C o.c (o.a.b x O) W
     |a _ _=>cases U
    |cons y S=>exact Xd C o.c (o.a.b x O) W h5 (by simp) ((jl _ _ _ _ o U).1 h5 env s)
 . rename_i hver
   split at h
   . rename_i hver2
     replace h:=gJ h;obtain⟨x,a,y,S,lsc,p1,p2,p3,p4,p5,rfl,h⟩:=h;simp only[cf,decide_eq_true_eq,xt,As]at h;obtain⟨⟨⟨⟨⟨⟨⟨⟨⟨⟨⟨⟨rfl,O⟩,W⟩,U⟩,rfl⟩,h6⟩,h7⟩,h8⟩,h9⟩,R⟩,Q⟩,P⟩,Z⟩:=h;by_cases hv102:ver=102
     . subst hv102
       cases Z
     rw[sdX,if_neg hv102]at O ⊢;exact Xg o hver hver2 hv102 O W U h6 h7 h8 h9 R Q P env s
   . rename_i hver2
     obtain⟨h0,hh⟩:=zN h;replace h:=gJ hh;obtain⟨x,a,y,S,lsc,p1,p2,p3,p4,p5,rfl,h⟩:=h;simp only[cf,decide_eq_true_eq,xt,As]at h;obtain⟨⟨⟨⟨⟨⟨⟨⟨⟨⟨rfl,O⟩,W⟩,U⟩,h8⟩,h9⟩,R⟩,Q⟩,P⟩,h13⟩,Z⟩:=h;by_cases hv302:ver=302
     . subst hv302
       cases Z
     rw[sdV,if_neg hv302]at O ⊢;exact aI o hver2 h13 hv302 (zN h0).2 O W U h8 h9 R Q P env s
def cK(f:Bf):f.nm∈wR:=by cases f<;>decide
def Uc(P:JL T n es):JE T n (.l f m es):=by
 intro sc N X e o h env s;replace h:=yy h;obtain⟨x,p,U,pos,rfl,h⟩:=h;replace h:=yA h;obtain⟨y,S,rfl,h⟩:=h;simp only[cf,decide_eq_true_eq,xt]at h;obtain⟨⟨⟨⟨k1,rfl⟩,R⟩,Q⟩,O⟩:=h;rcases (Aw _ _).mp k1 with k1|k1
 . exact Us k1 o.d o.c (o.a.b _ R) (o.g _ (cK f)) O ((P _ _ _ _ o Q).1 O env s)
 . unfold stF at k1
   split at k1
   . exact zK (zH rfl)
   . cases k1
def XY(R:JE T n a)(P:JL T n es):JE T n (.M f m a es):=by intro sc N X e o h env s;replace h:=gI h;obtain⟨ob,x,ap,y,cp,rfl,h⟩:=h;simp only[cf,decide_eq_true_eq]at h;obtain⟨⟨⟨⟨⟨⟨rfl,h1⟩,Y⟩,O⟩,W⟩,U⟩,S⟩:=h;obtain⟨b,rfl,Q⟩:=(P _ _ _ _ o Y).2.2.2 y rfl O;exact aH S W O U (R _ _ _ _ o h1 env s) λs1=>Q env s1
def Rg(O:JE T n a)(j1:JO T n lo)(j2:JO T n hi)(j3:JO T n st):JE T n (.J m a lo hi st):=by
 intro sc N X e o h env s;replace h:=Y5 h;obtain⟨l1,Y,W,U,p1,p2,rfl,h⟩:=h;simp only[cf]at h;obtain⟨⟨⟨h1,R⟩,Q⟩,P⟩:=h;obtain⟨p3,x⟩:=j3 _ _ _ _ o P;refine Rl (O _ _ _ _ o h1 env s) (λs1=>(j1 _ _ _ _ o R).1 env s1) (λs1=>(j2 _ _ _ _ o Q).1 env s1) (λs1=>p3 env s1) ?_;rcases x with⟨e1,e2⟩|⟨S,e1,e2⟩
 . exact .inl ⟨e1,λs1=>e2 env s1⟩
 . exact .inr ⟨S,e1,λs1 s2=>e2 env s1 s2⟩
def mj(o:Ok T n sc N X)(oc:∀C x H0 ex,Ok T n csc N' (X.comp N' csc C x H0 ex))t tg(h:ckT csc N' t tg=true):∃g,(∀C x H0 ex,L2.PG (X.comp N' csc C x H0 ex) tg g)/\oA X.K X.d t g:=by
 cases t with
 |a i=>
  cases tg with
  |Name y p=>
   simp only[ckT,cf,Aw,decide_eq_true_eq]at h;exact⟨_,λC x H0 ex=>l6 (oc C x H0 ex).a h.1 h.2,g7⟩
  |_=>cases h
 |b is=>
  cases tg with
  |Tuple es k p=>
   simp only[ckT,cf,decide_eq_true_eq]at h;refine⟨_,λC x H0 ex=>?_,sX (is:=is)⟩;obtain⟨a,b,c⟩:=wO (oc C x H0 ex).a h.1;exact L2.pM (X:=X.comp N' csc C x H0 ex) o.d a b c
  |_=>cases h
def XX(W:JE T n elt)(U:JI T n it)(Y:JCs T n ifs):JE T n (.r m N' fr elt t it ifs):=by
 intro sc N X e o h env s;replace h:=sD h;obtain⟨x,tg,iter,fs,csc,cpos,rfl,h⟩:=h;simp only[cf,decide_eq_true_eq]at h;obtain⟨⟨⟨⟨⟨⟨h1,h2⟩,h3⟩,h4⟩,h5⟩,h6⟩,h7⟩:=h;have S:=oh o.a h1;have oc:=o.comp S h2 h1;obtain⟨g,pg,R⟩:=mj o oc t tg h3;have O:L2.PE X (.ListComp x [⟨tg,iter,fs,0⟩] csc cpos) (L2.vK fr (uI X.K X.d (zB T n) T.b it) g (uTs X.K X.d (zB T n) T.b ifs) λacc=>L2.vz acc (uE X.K X.d (zB T n) T.b elt)):=
  L2.qQ o.d S (jx λenv s=>U _ _ _ _ _ o h4 env s) pg (λC P H0 ex=>(Y _ _ _ _ (oc C P H0 ex) h5).2.2) (λC P H0 ex=>dA (X:=X.comp N' csc C P H0 ex) λenv s=>W _ _ _ _ (oc C P H0 ex) h6 env s) (zp h7)
 refine zZ O λσ H Q Z=>uf (env:=env) (s:=s) (chk:=false) (m:=m) (body:=u7 (zB T n) T.b elt ifs) R wj (λacc ρ0 H0 hn=>pj hn) ?_ λ_ r s1 p s2 hl=>?_
 . simp only[A2,false_implies,if_true];exact Z
 . have:=rX hl
   simpa using this
def bu(je:JE T n elt)(ji:JI T n it)(jc:JCs T n ifs)(ji2:JI T n it2)(jc2:JCs T n ifs2):JE T n (.w m N' fr elt t it ifs t2 it2 ifs2):=by
 intro sc N X e o h env s;replace h:=gH h;refine byG λpi P=>?_;obtain⟨x,tg,iter,fs,W,iter2,fs2,csc,cpos,rfl,h⟩:=h;refine P ?_;simp only[cf,decide_eq_true_eq]at h;refine byG λpi P=>?_;obtain⟨⟨⟨⟨⟨⟨⟨⟨⟨⟨h1,h2⟩,h3⟩,h4⟩,h5⟩,h6⟩,h7⟩,h8⟩,h9⟩,h10⟩,h11⟩:=h;refine P ?_;have S:=oh o.a h1;have oc:=o.comp S h2 h1;have R:=mj o oc;obtain⟨g,pg,Z⟩:=R t tg h3;obtain⟨g2,pg2,U⟩:=R t2 W h6;have Y:=L2.ly (cpos:=cpos) (elt:=x) (ifs:=fs) (ifs2:=fs2) (ts:=uTs X.K X.d (zB T n) T.b ifs) (ts2:=uTs X.K X.d (zB T n) T.b ifs2) (wi2:=uI X.K X.d (zB T n) T.b it2) (te:=uE X.K X.d (zB T n) T.b elt) o.d S (jx (tg:=tg) λenv s=>ji _ _ _ _ _ o h4 env s) pg (λC O H0 ex=>(jc _ _ _ _ (oc C O H0 ex) h5).2.2)
  (λC O H0 ex=>jx (X:=X.comp N' csc C O H0 ex) (tg:=W) λenv s=>ji2 _ _ _ _ _ (oc C O H0 ex) h7 env s) pg2 (λC O H0 ex=>(jc2 _ _ _ _ (oc C O H0 ex) h8).2.2)
  (λC O H0 ex=>dA (X:=X.comp N' csc C O H0 ex) λenv s=>je _ _ _ _ (oc C O H0 ex) h9 env s) (zp h10) (λenv=>zp h11)
 refine zZ Y λσ H Q hq=>uf (env:=env) (s:=s) (chk:=true) (m:=m) (body:=rW (zB T n) T.b elt ifs t2 it2 ifs2) Z sY (λacc ρ0 H0 hn=>nN hn U) ?_ λz=>by cases z
 simp only[true_implies];exact hq
def Uj:JL T n .c:=by intro sc N X es o h;cases AN.mp h;exact⟨λ_ env s=>gQ,⟨λe x pos z=>(nomatch z),⟨λe x pos z=>(nomatch z),λy z=>(nomatch z)⟩⟩⟩
def XZ(x:JE T n a)(S:JL T n as):JL T n (.a a as):=by
 intro sc N X es o h;replace h:=yA h;obtain⟨e,es,rfl,h⟩:=h;simp only[cf]at h;obtain⟨h1,O⟩:=h;obtain⟨l1,l2,l3,W⟩:=S _ _ _ _ o O;refine⟨λhp env s=>?_,λU Q pos z env s=>?_,λU Q pos z env s=>?_,λy z hp=>?_⟩
 . rw[zf,cf]at hp
   exact lP hp.1 (x _ _ _ _ o h1 env s) λs1=>l1 hp.2 env s1
 . cases as with
   |c=>
    cases AN.mp O;exact L2.jv (x _ _ _ _ o h1 env s)
   |a b R=>
    cases es with
    |nil=>cases O
    |cons y P=>exact aC (x _ _ _ _ o h1 env s) λs1=>l2 y P pos rfl env s1
 . cases as with
   |c=>
    cases AN.mp O;exact L2.jv (x _ _ _ _ o h1 env s)
   |a b R=>
    cases es with
    |nil=>cases O
    |cons y P=>exact Rk (x _ _ _ _ o h1 env s) λs1=>l3 y P pos rfl env s1
 . cases z
   cases as with
   |c=>exact⟨a,rfl,λenv s=>x _ _ _ _ o h1 env s⟩
   |a _ _=>cases O
def Rh:JO T n .b:=by intro sc N X e o h;cases BW.mp h;exact⟨λenv s=>Rn,.inl ⟨rfl,λenv s1=>rfl⟩⟩
def Uk(O:JE T n a):JO T n (.a a):=by
 intro sc N X e o h;replace h:=tR h;obtain⟨e1,rfl,h⟩:=h;refine⟨λenv s=>Uw (O _ _ _ _ o h env s),.inr ⟨_,rfl,λenv s1 s2 z=>?_⟩⟩;have x:((evE (zB T n) T.b env a s1).bind λv s1=>match v with|.c i=>.e (some i) s1|_=>.d)=.e none s2:=z
 cases hv:evE (zB T n) T.b env a s1 with
 |e v P=>rw[hv]at x;cases v<;>cases x
 |g _ _ _=>rw[hv]at x;cases x
 |d=>rw[hv]at x;cases x
def Ua(x:JC T n c):JC T n (.b c):=by intro sc N X e o h env s;replace h:=qI h;obtain⟨O,p1,rfl,h⟩:=h;exact U1 (x _ _ _ _ o h env s)
def UZ(P:JC T n c)(x:JCs T n cs):JC T n (.d c cs):=by intro sc N X e o h env s;replace h:=qG h;obtain⟨Q,O,p1,rfl,h⟩:=h;simp only[cf]at h;exact(aO (P _ _ _ _ o h.1 env s) λs1=>(x _ _ _ _ o h.2).1 _ env s1).pt
def Rf(P:JC T n c)(x:JCs T n cs):JC T n (.f c cs):=by intro sc N X e o h env s;replace h:=qG h;obtain⟨Q,O,p1,rfl,h⟩:=h;simp only[cf]at h;exact(VJ (P _ _ _ _ o h.1 env s) λs1=>(x _ _ _ _ o h.2).2.1 _ env s1).pt
def XS:JCs T n .a:=by intro sc N X es o h;cases AN.mp h;exact⟨λpos env s=>jQ,λpos env s=>fv,.b⟩
def bq(O:JC T n c)(x:JCs T n cs):JCs T n (.b c cs):=by intro sc N X es o h;replace h:=yA h;obtain⟨e1,P,rfl,h⟩:=h;simp only[cf]at h;obtain⟨a,b,d⟩:=x _ _ _ _ o h.2;exact⟨λpos env s=>aO (O _ _ _ _ o h.1 env s) λs1=>a pos env s1,λpos env s=>VJ (O _ _ _ _ o h.1 env s) λs1=>b pos env s1,.a (Qd λenv s=>O _ _ _ _ o h.1 env s) d⟩
def Ui(x:JE T n a):JI T n (.f a):=λsc N X e tg o h env s=>Uv (x _ _ _ _ o h env s)
def fk(O:JE T n a):JI T n (.d a):=by intro sc N X e tg o h env s;replace h:=yy h;obtain⟨S,p1,x,p2,rfl,h⟩:=h;replace h:=yS h;obtain⟨R,rfl,h⟩:=h;simp only[cf,decide_eq_true_eq,xt]at h;obtain⟨⟨⟨rfl,h1⟩,Q⟩,P⟩:=h;exact fq P (o.a.b _ h1) (o.g _ (by decide)) (O _ _ _ _ o Q env s)
def fm(P:JE T n a)(O:JE T n b):JI T n (.g a b):=by intro sc N X e tg o h env s;replace h:=yy h;obtain⟨Z,p1,x,p2,rfl,h⟩:=h;replace h:=aT h;obtain⟨Y,W,rfl,h⟩:=h;simp only[cf,decide_eq_true_eq,xt]at h;obtain⟨⟨⟨⟨⟨rfl,h1⟩,U⟩,S⟩,R⟩,Q⟩:=h;exact fu R Q (o.a.b _ h1) (o.g _ (by decide)) (P _ _ _ _ o U env s) λs1=>O _ _ _ _ o S env s1
section
variable (T:Tbl)(n:Nat)
mutual
theorem jE:∀a:Ex,JE T n a
 |.g _=>aF
 |.e _=>aJ
 |.E _=>VI
 |.L _ _=>Rm
 |.j _ _ a b=>br (jE a) (jE b)
 |.D a=>bw (jE a)
 |.G a=>Ug (jE a)
 |.q _ a b=>Ud (jE a) (jE b)
 |.s _ _ a b c=>bt (jE a) (jE b) (jE c)
 |.y a es=>Ub (jE a) (jL es)
 |.I _ _=>λsc N X e o h=>by cases h
 |.H _ _ _=>λsc N X e o h=>by cases h
 |.k es=>Uh (jL es)
 |.u _ es=>Ue (jL es)
 |.B=>Xe
 |.C _=>Xf
 |.K _ _=>λsc N X e o h=>by cases h
 |.z _=>λsc N X e o h env s=>zK (zH rfl)
 |.h _ _ es=>XU (jL es)
 |.l _ _ es=>Uc (jL es)
 |.F _ _=>λsc N X e o h=>by cases h
 |.M _ _ a es=>XY (jE a) (jL es)
 |.A a b=>VH (jE a) (jE b)
 |.J _ a lo hi st=>Rg (jE a) (jO lo) (jO hi) (jO st)
 |.r _ _ _ elt _ it ifs=>XX (jE elt) (jI it) (jCs ifs)
 |.w _ _ _ elt _ it ifs _ it2 ifs2=>bu (jE elt) (jI it) (jCs ifs) (jI it2) (jCs ifs2)
 |.p _ _ _ _=>λsc N X e o h=>by cases h
theorem jL:∀a:Exs,JL T n a
 |.c=>Uj
 |.a a as=>XZ (jE a) (jL as)
theorem jO:∀a:OEx,JO T n a
 |.b=>Rh
 |.a a=>Uk (jE a)
theorem jC:∀a:Cn,JC T n a
 |.a (.q _ a b)=>Ur (jE a) (jE b)
 |.a (.s _ _ a b c)=>aB (jE a) (jE b) (jE c)
 |.a (.g v)=>z8 (jE (.g v)) rfl
 |.a (.e v)=>z8 (jE (.e v)) rfl
 |.a (.E v)=>z8 (jE (.E v)) rfl
 |.a (.L v w)=>z8 (jE (.L v w)) rfl
 |.a (.j m o a b)=>z8 (jE (.j m o a b)) rfl
 |.a (.D a)=>z8 (jE (.D a)) rfl
 |.a (.G a)=>z8 (jE (.G a)) rfl
 |.a (.y a b)=>z8 (jE (.y a b)) rfl
 |.a (.I a b)=>z8 (jE (.I a b)) rfl
 |.a (.H a b c)=>z8 (jE (.H a b c)) rfl
 |.a (.k a)=>z8 (jE (.k a)) rfl
 |.a (.u m a)=>z8 (jE (.u m a)) rfl
 |.a .B=>z8 (jE .B) rfl
 |.a (.C t)=>z8 (jE (.C t)) rfl
 |.a (.K a b)=>z8 (jE (.K a b)) rfl
 |.a (.z a)=>z8 (jE (.z a)) rfl
 |.a (.h a b c)=>z8 (jE (.h a b c)) rfl
 |.a (.l a b c)=>z8 (jE (.l a b c)) rfl
 |.a (.F a b)=>z8 (jE (.F a b)) rfl
 |.a (.M a b c d)=>z8 (jE (.M a b c d)) rfl
 |.a (.A a b)=>z8 (jE (.A a b)) rfl
 |.a (.J a b c d e)=>z8 (jE (.J a b c d e)) rfl
 |.a (.r a b c d e f g)=>z8 (jE (.r a b c d e f g)) rfl
 |.a (.w a b c d e f g h i j)=>z8 (jE (.w a b c d e f g h i j)) rfl
 |.a (.p a b c d)=>z8 (jE (.p a b c d)) rfl
 |.b c=>Ua (jC c)
 |.d c cs=>UZ (jC c) (jCs cs)
 |.f c cs=>Rf (jC c) (jCs cs)
theorem jCs:∀a:Cns,JCs T n a
 |.a=>XS
 |.b c cs=>bq (jC c) (jCs cs)
theorem jI:∀a:Itb,JI T n a
 |.f a=>Ui (jE a)
 |.d a=>fk (jE a)
 |.g a b=>fm (jE a) (jE b)
 |.i _=>λsc N X e tg o h=>by cases h
 |.h _ _ _=>λsc N X e tg o h=>by cases h
 |.j _ _=>λsc N X e tg o h=>by cases h
end
end
section
variable (K:KF)(mg:Str->Option Value)
def uC(ρ:Own)(H:L2.Hp)(o:Out Fl)(D:L2.Ends):Prop:=
 match o with
 |.e (.a e) s'=>∀ρ' H' N,Ext ρ H ρ' H'->HR K mg ρ' s' H'->ER K mg ρ' H' e N->D.a N H'
 |.e (.c e) s'=>∀ρ' H' N,Ext ρ H ρ' H'->HR K mg ρ' s' H'->ER K mg ρ' H' e N->D.c N H'
 |.e (.d e) s'=>∀ρ' H' N,Ext ρ H ρ' H'->HR K mg ρ' s' H'->ER K mg ρ' H' e N->D.d N H'
 |.e (.b v) s'=>∀ρ' H' x,Ext ρ H ρ' H'->HR K mg ρ' s' H'->RD K mg ρ' H' v x->D.b x H'
 |_=>False
def tSt(env:Env)(s:Sto)(o:Out Fl):L2.TS:=λD σ H=>∃ρ,HR K mg ρ s H/\ER K mg ρ H env σ/\uC K mg ρ H o D
end
def uC.mono(w:uC K mg ρ H o D)(x:Ext ρ H ρ' H')(h:HR K mg ρ' s1 H'):uC K mg ρ' H' o D:=by
 cases o with
 |e fl s'=>
  cases fl with
  |a e=>exact λρ2 H2 N O Q P=>w ρ2 H2 N (x.trans h O) Q P
  |c e=>exact λρ2 H2 N O Q P=>w ρ2 H2 N (x.trans h O) Q P
  |d e=>exact λρ2 H2 N O Q P=>w ρ2 H2 N (x.trans h O) Q P
  |b v=>exact λρ2 H2 y O Q P=>w ρ2 H2 y (x.trans h O) Q P
 |g _ _ _=>exact w
 |d=>exact w
noncomputable def ui:Expr->Bool
 |.ListComp ..|.SetComp ..|.DictComp ..=>false
 |_=>true
def uW(h:ui e=true):DP e t l env=pure false:=by cases e<;>first|rfl|cases h
def uo:Ek [.Tuple ts k p] e l env=pure false:=by cases e<;>rfl
def dR:Ek [.Subscript o i p] e l env=pure false:=by cases e<;>rfl
noncomputable def notTuple:Expr->Bool
 |.Tuple ..=>false
 |_=>true
def iM(h:notTuple e=true):BY [.Tuple ts k p] e env=pure none:=by
 cases e<;>first|(cases h;done)|rfl
def kJ:BY [.Subscript o i p] e env=pure none:=by cases e<;>rfl
def Q0(sc:Scope)(ts vs:List Expr):Bool:=lc ts λt r=>eName t λx N=>lc r λQ O=>eName Q λy py=>
 if O.isEmpty then decide (sc.names.lookup x=some .local)&&decide (sc.names.lookup y=some .local)&&(N.line == py.line)&&decide (x≠y)&&!(vs.all (Fj 8))&&!(vs.all (EZ 8))
 else l1 O λP=>eName P λz R=>decide (sc.names.lookup x=some .local)&&decide (sc.names.lookup y=some .local)&&decide (sc.names.lookup z=some .local)&&(N.line == py.line)&&(N.line == R.line)&&decide (x≠y)&&decide (x≠z)&&decide (y≠z)&&!(vs.all (Fj 8))&&!(vs.all (EZ 8))
noncomputable def Vk(sc:Scope)(ts:List Expr):Bool:=ts.any (λ|.Name x _=>decide (sc.names.lookup x≠some .local)|_=>false)||decide (3<ts.length)
def pE{vs:List Expr}(h:zf vs=true):(vs.any λ|.Starred ..=>true|_=>false)=false:=by
 induction vs with
 |nil=>rfl
 |cons v vs x=>
  rw[zf,cf]at h;rw[List.any_cons,x h.2];cases v<;>first|rfl|(have z:=h.1;cases z)
def kK(W:env.blockKind=.function)(hx:env.kindOf x=some .local)(S:env.kindOf y=some .local)(R:(px.line == py.line)=true)(P:x≠y)(hp:zf [a,b]=true)
 (hf:[a,b].all (Fj 8)=false) (U:[a,b].all (EZ 8)=false):BY [.Tuple [.Name x px,.Name y py] kt pt] (.Tuple [a,b] k2 pt2) env=pure (some [x,y]):=by
 have Q:=pE hp;have O:(py.line == px.line)=true:=by rw[beq_iff_eq]at R ⊢;exact R.symm
 unfold BY;have e1:([x,y].eraseDups.length != [x,y].length)=false:=by
  have:(y == x)=false:=by simpa using A9 P
  simp[List.eraseDups_cons,this]
 simp only[AB,B5,W,hf,Q,U,hx,S,O,List.head?_cons,DL,Option.getD_some,Ba,List.filterMap_nil,beq_self_eq_true,Fm,if_true];have N:(Ez x px).pos.line=px.line:=rfl;refine(if_neg (by decide)).trans ((if_neg (λz=>Ac (Q.symm.trans z))).trans ?_)
 simp only[N,beq_self_eq_true,O,Fm,if_true,e1,AB,B5,bne_self_eq_false,Bool.or_self,A2,if_false];exact if_neg (λz=>Ac (e1.symm.trans (by rw[Fo]at z;exact z)))
def oM(hb:env.blockKind=.function)(hx:env.kindOf x=some .local)(Z:env.kindOf y=some .local)(hz:env.kindOf z=some .local)(Y:(px.line == py.line)=true)(R:(px.line == pz.line)=true)
 (U:x≠y) (Q:x≠z) (P:y≠z) (hp:zf [a,b,c]=true) (hf:[a,b,c].all (Fj 8)=false) (hc:[a,b,c].all (EZ 8)=false):BY [.Tuple [.Name x px,.Name y py,.Name z pz] kt pt] (.Tuple [a,b,c] k2 pt2) env=pure (some [x,y,z]):=by
 have W:=pE hp;have S:(py.line == px.line)=true:=by rw[beq_iff_eq]at Y ⊢;exact Y.symm
 have N:(pz.line == px.line)=true:=by rw[beq_iff_eq]at R ⊢;exact R.symm
 unfold BY;have e1:([x,y,z].eraseDups.length != [x,y,z].length)=false:=by
  have h1:(y == x)=false:=by simpa using A9 U
  have h2:(z == x)=false:=by simpa using A9 Q
  have h3:(z == y)=false:=by simpa using A9 P
  simp[List.eraseDups_cons,h1,h2,h3]
 simp only[AB,B5,hb,hf,W,hc,hx,Z,hz,S,N,List.head?_cons,DL,Option.getD_some,Ba,List.filterMap_nil,beq_self_eq_true,Fm,if_true];have O:(Ez x px).pos.line=px.line:=rfl;refine(if_neg (by decide)).trans ((if_neg (λz=>Ac (W.symm.trans z))).trans ?_)
 simp only[O,beq_self_eq_true,S,N,Fm,if_true,e1,AB,B5,bne_self_eq_false,Bool.or_self,A2,if_false];exact if_neg (λz=>Ac (e1.symm.trans (by rw[Fo]at z;exact z)))
theorem sE{x N:Type}{f:x->Option N}:∀{l:List x},(∃a∈l,f a=none)->(l.filterMap f).length<l.length
 |[],⟨a,h,_⟩=>by cases h
 |b::l,⟨a,h,e⟩=>by
  rw[Ba];have O:=FY f l;rcases Ao.mp h with z|z
  . subst z;rw[e];simp only[AB];omega
  . have:=sE ⟨a,z,e⟩
    cases f b with
    |none=>simp only[AB];omega
    |some _=>simp only[AB];omega
def dZ(h:(∃x p,Ez x p∈ts/\env.kindOf x≠some .local)\/3<ts.length):BY [.Tuple ts kt pt] (.Tuple vs k2 pt2) env=pure none:=by
 unfold BY;simp only[];split
 . rfl
 . rename_i h1
   split
   . rfl
   . rw[if_pos]
     rcases h with⟨x,p,N,hk⟩|h
     . rw[Aw]
       left;rw[bne_iff_ne];refine AI (sE ⟨_,N,?_⟩);have:(env.kindOf x == some .local)=false:=by simpa using hk
       simp only[this,CU,A2,if_false]
     . exfalso
       apply h1;have:(ts.length == 2||ts.length == 3)=false:=by rw[DB];constructor<;>(rw[beq_eq_false_iff_ne];omega)
       rw[this];rfl
def iL(h:plain i=true)v:assign (.Subscript o i p) env v=(do
 let x <-holding [v] (eval o env);let N <-holding [v,x] (eval i env)
 standAt p
 holding [v,x,N] (setItem x N v)
 release [v,x,N] []):=by
 cases i<;>first|rfl|cases h
section
variable {X:L2.Cx}{env:Env}{s:Sto}
def xM{t:L2.TS}(h:∀D σ H,¬t D σ H):L2.PS X st t:=λpins s σ H D I q=>(h D σ H q).elim
def Se(h:∀v s',o≠.e v s'):¬tSt X.K X.d env s o D σ H:=by
 rintro ⟨ρ,_,_,w⟩;cases o with
 |e v s'=>exact h v s' rfl
 |g _ _ _=>exact w
 |d=>exact w
def zQ(h:∀v s',o≠.e v s'):L2.PS X st (tSt X.K X.d env s o):=xM λ_ _ _=>Se h
def Xh(P:ui e=true)(h:L2.PE X e (tV X.K X.d env s o)):L2.PS X (.Expr e pos) (tSt X.K X.d env s (o.bind λ_ s1=>.e (.a env) s1)):=by
 cases o with
 |e v s1=>exact yF (L2.sQ h (uW P)) λD σ H ⟨ρ,hr,er,w⟩=>⟨ρ,hr,er,λρ1 x H1 O N r1=>w ρ1 H1 σ O N (er.mono O)⟩
 |g _ _ _=>exact zQ (zH rfl)
 |d=>exact zQ (zH rfl)
def Uz(h:L2.PE X e (tV X.K X.d env s o)):L2.PS X (.Return (some e) pos) (tSt X.K X.d env s (o.bind λv s1=>.e (.b v) s1)):=by
 cases o with
 |e v s1=>exact yF (L2.wq h) λD σ H ⟨ρ,hr,er,w⟩=>⟨ρ,hr,er,λρ1 x H1 O N r1=>w ρ1 H1 x O N r1⟩
 |g _ _ _=>exact zQ (zH rfl)
 |d=>exact zQ (zH rfl)
def jP(N:L2.PS X st (L2.uv te (L2.xh i)))(h:∀σ H Q,tV X.K X.d env s o σ H Q->te σ H Q):L2.PS X st (tSt X.K X.d env s (o.bind λv s1=>.e (.a (env.set i (some v))) s1)):=by
 cases o with
 |e v s1=>exact yF N λD σ H ⟨ρ,hr,er,w⟩=>h _ _ _ ⟨ρ,hr,er,λρ1 x H1 P O r1=>w ρ1 H1 _ P O ((er.mono P).set i r1)⟩
 |g _ _ _=>exact zQ (zH rfl)
 |d=>exact zQ (zH rfl)
def gR{t:Tgt}{g:L2.TG}{o:Out Val}{st:Stmt}{te:L2.TE}(TG:oA X.K X.d t g)(N:L2.PS X st (L2.uv te g))(h:∀σ H Q,tV X.K X.d env s o σ H Q->te σ H Q) :
 L2.PS X st (tSt X.K X.d env s (o.bind λv s1=>match yZ t v env with|some env'=>.e (.a env') s1|dr=>.d)):=by
 cases o with
 |e v s1=>
  show L2.PS X st (tSt X.K X.d env s (match yZ t v env with|some env'=>.e (.a env') s1|dr=>.d))
  cases hb:yZ t v env with
  |none=>exact zQ (zH rfl)
  |some env'=>exact yF N λD σ H ⟨ρ,hr,er,w⟩=>h _ _ _ ⟨ρ,hr,er,λρ1 x H1 S O r1=>TG ρ1 s1 H1 v x env env' σ _ O r1 (er.mono S) hb λP R=>w ρ1 H1 P S O R⟩
 |g _ _ _=>exact zQ (zH rfl)
 |d=>exact zQ (zH rfl)
def UQ op m:(∃r,L2.PIp X op.op r/\∀i j H Q v s s',binOp m op (.c i) (.c j) s=.e v s'->(∃k:Int,v=.c k/\s'=s/\(Q (.d k) H->r (.d i) (.d j) H Q)))\/(op=.e\/op=.h\/op=.i\/op=.g):=by
 cases op with
 |a=>exact .inl ⟨_,L2.XG,λi j H Q v s s' h=>by cases h;exact⟨_,rfl,rfl,λq=>⟨i,j,rfl,rfl,q⟩⟩⟩
 |f=>exact .inl ⟨_,L2.XJ,λi j H Q v s s' h=>by cases h;exact⟨_,rfl,rfl,λq=>⟨i,j,rfl,rfl,q⟩⟩⟩
 |b=>exact .inl ⟨_,L2.XI,λi j H Q v s s' h=>by
  simp only[binOp]at h;split at h
  . rename_i hz;cases h;exact⟨_,rfl,rfl,λq=>⟨i,j,rfl,rfl,hz,q⟩⟩
  . cases h⟩
 |d=>exact .inl ⟨_,L2.bj,λi j H Q v s s' h=>by
  simp only[binOp]at h;split at h
  . rename_i hz;cases h;exact⟨_,rfl,rfl,λq=>⟨i,j,rfl,rfl,hz,q⟩⟩
  . cases h⟩
 |c=>exact .inl ⟨_,L2.XH,λi j H Q v s s' h=>by
  simp only[binOp]at h;split at h
  . rename_i hz;cases h;exact⟨_,rfl,rfl,λq=>⟨i,j,rfl,rfl,hz,q⟩⟩
  . cases h⟩
 |e=>exact .inr (.inl rfl)
 |h=>exact .inr (.inr (.inl rfl))
 |i=>exact .inr (.inr (.inr (.inl rfl)))
 |g=>exact .inr (.inr (.inr (.inr rfl)))
def Yj{i:Nat}{op:Bop}{f:Sto->Out Val}{r:Fl}{s':Sto}(h:(match env[i]? with
 |some (some (.c x))=>(f s).bind λv s1=>match v with
  |.c y=>(binOp false op (.c x) (.c y) s1).bind λz s2=>.e (Fl.a (env.set i (some z))) s2
  |_=>.d
 |some (some (.f x))=>if op=Bop.a then (f s).bind λv s1=>match v with
  |.f y=>(binOp false .a (.f x) (.f y) s1).bind λz s2=>.e (Fl.a (env.set i (some z))) s2
  |_=>.d
  else .d
 |_=>.d:Out Fl)=.e r s'):(∃a b s1 z,env[i]?=some (some (.c a))/\f s=.e (.c b) s1/\binOp false op (.c a) (.c b) s1=.e z s'/\r=Fl.a (env.set i (some z))) \/
  (op=Bop.a/\∃a b,env[i]?=some (some (.f a))/\f s=.e (.f b) s'/\a.length+b.length<=zW/\r=Fl.a (env.set i (some (.f (a++b))))):=by
 generalize R:env[i]?=o at h;cases o with
 |none=>cases h
 |some O=>
  cases O with
  |none=>cases h
  |some N=>
   cases N with
   |c a=>
    refine .inl ⟨a,?_⟩;generalize P:f s=o at h;cases o with
    |e v s1=>
     cases v with
     |c b=>
      simp only[zM]at h;generalize Q:binOp false op (.c a) (.c b) s1=o at h;cases o with
      |e z s2=>cases h;exact⟨b,s1,z,rfl,rfl,Q,rfl⟩
      |g _ _ _=>cases h
      |d=>cases h
     |_=>cases h
    |g _ _ _=>cases h
    |d=>cases h
   |f a=>
    by_cases ho:op=.a
    . refine .inr ⟨ho,a,?_⟩
      simp only[if_pos ho]at h;generalize P:f s=o at h;cases o with
      |e v s1=>
       cases v with
       |f b=>
        simp only[zM,binOp]at h;by_cases hz:a.length+b.length<=zW
        . rw[if_pos hz]at h;cases h;exact⟨b,rfl,rfl,hz,rfl⟩
        . rw[if_neg hz]at h;cases h
       |_=>cases h
      |g _ _ _=>cases h
      |d=>cases h
    . simp only[if_neg ho]at h;cases h
   |_=>cases h
def Qa(h:∀r s',o=.e r s'->L2.PS X st (tSt X.K X.d env s (.e r s'))):L2.PS X st (tSt X.K X.d env s o):=by
 cases o with
 |e r s'=>exact h r s' rfl
 |g _ _ _=>exact zQ (zH rfl)
 |d=>exact zQ (zH rfl)
def Ux{i:Nat}{x:Str}{e:Expr}{op:Bop}{f:Sto->Out Val}{pos R:Pos}(hop:¬(op=.e\/op=.h\/op=.i\/op=.g))(hN:X.N.Nodup)(hi:X.N[i]?=some x)(hx:L2.Loc X.a.scope x)(hf:X.n x=true\/X.a.scope.names.lookup x=some .local)(h:∀s,L2.PE X e (tV X.K X.d env s (f s))) :
 L2.PS X (.AugAssign (.Name x R) op.op e pos) (tSt X.K X.d env s (match env[i]? with
 |some (some (.c x))=>(f s).bind λv s1=>match v with
  |.c y=>(binOp false op (.c x) (.c y) s1).bind λz s2=>.e (.a (env.set i (some z))) s2
  |_=>.d
 |some (some (.f x))=>if op=.a then (f s).bind λv s1=>match v with
  |.f y=>(binOp false .a (.f x) (.f y) s1).bind λz s2=>.e (.a (env.set i (some z))) s2
  |_=>.d
  else .d
 |_=>.d)):=by
 refine Qa λr s' hO=>?_;have h':=h s;rcases Yj hO with⟨a,b,s1,z,he,U,hb,rfl⟩|⟨rfl,a,b,he,U,hz,rfl⟩
 . rw[U]at h'
   rcases UQ (X:=X) op false with⟨r,Y,hq⟩|z
   . obtain⟨k,rfl,rfl,q⟩:=hq a b (λ_=>none) (λ_ _=>True) z s1 s' hb
     refine yF (L2.Zh hN hi hx h' Y hf) λD σ H S=>?_;obtain⟨ρ,Z,P,w⟩:=S;obtain⟨xv,e1,e2⟩:=P.a i _ he;cases e2;refine⟨_,e1,ρ,Z,P,λρ1 y H1 Q O r1=>?_⟩;cases r1;obtain⟨k',e3,_,q'⟩:=hq a b H1 (λz H2=>D.a (σ.set i (some z)) H2) _ _ _ hb;cases e3;exact q' (w ρ1 H1 _ Q O ((P.mono Q).set i (.l _)))
   . exact absurd z hop
 . rw[U]at h'
   refine yF (L2.Zh hN hi hx h' L2.fi hf) λD σ H S=>?_;obtain⟨ρ,Z,P,w⟩:=S;obtain⟨xv,e1,e2⟩:=P.a i _ he;refine⟨_,e1,ρ,Z,P,λρ1 y H1 Q O r1=>?_⟩;have e3:=e2.mono Q;cases e3 with
   |m n1 h1 q1=>
    cases r1 with
    |m n2 h2 q2=>
     refine⟨_,_,_,_,rfl,rfl,h1,h2,?_,uN O (q1.append q2) λρ2 z H2 x2 W rz=>w ρ2 H2 _ (Q.trans O x2) W ((P.mono (Q.trans O x2)).set i rz)⟩;rw[<-q1.length,<-q2.length,<-yj];exact hz
def aK{a i e:Expr}{o:Out Val}{f2 f3:Sto->Out Val}{p pos:Pos}(hi0:plain i=true)(h1:L2.PE X e (tV X.K X.d env s o))(h2:∀s1,L2.PE X a (tV X.K X.d env s1 (f2 s1)))(h3:∀s1,L2.PE X i (tV X.K X.d env s1 (f3 s1))) :
 L2.PS X (.Assign [.Subscript a i p] e pos) (tSt X.K X.d env s (o.bind λv s1=>(f2 s1).bind λx s2=>(f3 s2).bind λy U=>match x,y with
  |.m r,.c k=>(match U[r]? with
   |some (.c vs)=>(match L2.ixN vs.length k with|some j=>.e (.a env) (upd U r (vs.set j v))|dr=>.d)
   |_=>.d)
  |_,_=>.d)):=by
 cases o with
 |e v s1=>
  have S:=h2 s1;simp only[zM];cases hb:f2 s1 with
  |e x s2=>
   rw[hb]at S;have R:=h3 s2;simp only[zM];cases hc:f3 s2 with
   |e y U=>
    rw[hc]at R;simp only[zM];have O:L2.PS X (.Assign [.Subscript a i p] e pos) (L2.uv _ (L2.RR _ _ L2.VX)):=L2.j4 h1 (L2.T7 S R L2.set_list (iL hi0)) dR kJ;cases x with
    |m r=>
     cases y with
     |c k=>
      simp only[];cases hs:U[r]? with
      |none=>exact zQ (zH rfl)
      |some cl=>
       cases cl with
       |e _=>exact zQ (zH rfl)
       |f _=>exact zQ (zH rfl)
       |d _=>exact zQ (zH rfl)
       |c vs=>
        simp only[];cases hj:L2.ixN vs.length k with
        |none=>exact zQ (zH rfl)
        |some j=>
         refine yF O λD σ H ⟨ρ,hr,er,w⟩=>⟨ρ,hr,er,λρ1 xv H1 x1 Q r1=>⟨ρ1,Q,er.mono x1,λρ2 xo H2 Z P r2=>⟨ρ2,P,(er.mono x1).mono Z,λW xi H3 Y N r3=>?_⟩⟩⟩;cases r3;have r2':=r2.mono Y;cases r2' with
         |C e0 _=>
          obtain⟨b',xs,e1,e2,q⟩:=N.obj r _ hs;rw[e0]at e1;cases e1;have xx:=(x1.trans Q Z).trans P Y;refine⟨_,xs,k,j,rfl,rfl,e2,by rw[<-q.length];exact hj,?_⟩
          exact w W _ σ (xx.trans N (Ext.write N e0 e2 _)) (N.write e0 e2 (RDs.set ((r1.mono Z).mono Y) j q)) ((er.mono xx).mono (Ext.write N e0 e2 _))
     |_=>exact zQ (zH rfl)
    |_=>exact zQ (zH rfl)
   |g _ _ _=>exact zQ (zH rfl)
   |d=>exact zQ (zH rfl)
  |g _ _ _=>exact zQ (zH rfl)
  |d=>exact zQ (zH rfl)
 |g _ _ _=>exact zQ (zH rfl)
 |d=>exact zQ (zH rfl)
end
section
variable {X:L2.Cx}{env:Env}{s:Sto}
def Xi(N:L2.PS X st (L2.Q7 i j ta))(h:∀σ H Q,tVs X.K X.d env s o σ H Q->ta σ H Q) :
 L2.PS X st (tSt X.K X.d env s (o.bind λvs s1=>if vs.length=[i,j].length then .e (.a (([i,j].zip vs).foldl (λe p=>e.set p.1 (some p.2)) env)) s1 else .d)):=by
 cases o with
 |e vs s1=>
  show L2.PS X st (tSt X.K X.d env s (if vs.length=[i,j].length then .e (.a (([i,j].zip vs).foldl (λe p=>e.set p.1 (some p.2)) env)) s1 else .d))
  match vs with
  |[v,w]=>
   refine yF N λD σ H ⟨ρ,hr,er,wt⟩=>h _ _ _ ⟨ρ,hr,er,λρ1 U H1 P O r1=>?_⟩;obtain⟨x,y,rfl,S,R⟩:=dF r1;exact⟨x,y,rfl,wt ρ1 H1 _ P O (((er.mono P).set i S).set j R)⟩
  |[]=>exact zQ (zH rfl)
  |[_]=>exact zQ (zH rfl)
  |_::_::_::r=>exact zQ (λ_ _ e=>by simp at e)
 |g _ _ _=>exact zQ (zH rfl)
 |d=>exact zQ (zH rfl)
def Pq(r:RDs K mg ρ H [v,w,z] xs):∃x y t,xs=[x,y,t]/\RD K mg ρ H v x/\RD K mg ρ H w y/\RD K mg ρ H z t:=by
 cases r with
 |a r1 P=>
  obtain⟨y,t,rfl,O,N⟩:=dF P;exact⟨_,_,_,rfl,r1,O,N⟩
def Xj(N:L2.PS X st (L2.Vf i j k ta))(h:∀σ H Q,tVs X.K X.d env s o σ H Q->ta σ H Q) :
 L2.PS X st (tSt X.K X.d env s (o.bind λvs s1=>if vs.length=[i,j,k].length then .e (.a (([i,j,k].zip vs).foldl (λe p=>e.set p.1 (some p.2)) env)) s1 else .d)):=by
 cases o with
 |e vs s1=>
  show L2.PS X st (tSt X.K X.d env s (if vs.length=[i,j,k].length then .e (.a (([i,j,k].zip vs).foldl (λe p=>e.set p.1 (some p.2)) env)) s1 else .d))
  match vs with
  |[v,w,z]=>
   refine yF N λD σ H ⟨ρ,hr,er,wt⟩=>h _ _ _ ⟨ρ,hr,er,λρ1 W H1 P O r1=>?_⟩;obtain⟨x,y,t,rfl,S,R,U⟩:=Pq r1;exact⟨x,y,t,rfl,wt ρ1 H1 _ P O ((((er.mono P).set i S).set j R).set k U)⟩
  |[]=>exact zQ (zH rfl)
  |[_]=>exact zQ (zH rfl)
  |[_,_]=>exact zQ (zH rfl)
  |_::_::_::_::r=>exact zQ (λ_ _ e=>by simp at e)
 |g _ _ _=>exact zQ (zH rfl)
 |d=>exact zQ (zH rfl)
def uSs(K:KF)(mg:Str->Option Value)(Φ:Calls)(G:Str->Option Val)(b:Sms):L2.TS:=λD σ H=>∃env s,tSt K mg env s (zd Φ G env b s) D σ H
def Rp{f2 f3:Sto->Out Fl}(S:L2.PT X c (tT X.K X.d env s o))(W:L2.PSs X a ta)(U:L2.PSs X b tb)(R:∀s1 D σ H,tSt X.K X.d env s1 (f2 s1) D σ H->ta D σ H)(Q:∀s1 D σ H,tSt X.K X.d env s1 (f3 s1) D σ H->tb D σ H) :
 L2.PS X (.If c a b pos) (tSt X.K X.d env s (o.bind λt s1=>if t then f2 s1 else f3 s1)):=by
 cases o with
 |e v s1=>
  refine yF (L2.nD S W U) λD σ H ⟨ρ,hr,er,wt⟩=>⟨ρ,hr,er,λρ1 x H1 P N r1=>?_⟩;have O:=wt.mono P N;cases r1;cases v with
  |true=>exact L2.rF (R s1 D σ H1 ⟨ρ1,N,er.mono P,O⟩)
  |false=>exact L2.tM (Q s1 D σ H1 ⟨ρ1,N,er.mono P,O⟩)
 |g _ _ _=>exact zQ (zH rfl)
 |d=>exact zQ (zH rfl)
def bT{body:Env->Sto->Out Fl}{tb:L2.TS}(W:Walk K mg ρ H r J)(TG:oA K mg t g)(hb:∀env s D σ H,tSt K mg env s (body env s) D σ H->tb D σ H)
 (hr:HR K mg ρ s H) (er:ER K mg ρ H env σ) (w:uC K mg ρ H (vq r t body r.a env s) D):L2.nE J g tb D σ H:=by
 refine qp (n:=r.a.length) (λi S H2=>∃ρ2 s2 P,HR K mg ρ2 s2 H2/\ER K mg ρ2 H2 P S/\Ext ρ H ρ2 H2/\vq r t body (r.a.drop i) P s2=vq r t body r.a env s) ⟨ρ,s,env,hr,er,Ext.refl,by rw[Dq]⟩ ?_ ?_
 . rintro S H2 ⟨ρ2,s2,P,O,er2,x2,N⟩
   rw[F3,vq]at N;split at N
   . rename_i ho
     rw[<-N]at w;exact⟨W.a ρ2 H2 s2 _ x2.mv O ho rfl,w ρ2 H2 S x2 O er2⟩
   . rw[<-N]at w;exact w.elim
 . rintro i S H2 hi ⟨ρ2,s2,P,O,er2,x2,N⟩
   rw[DO hi,vq]at N;split at N
   . rename_i ho
     obtain⟨hgo,hy⟩:=W.c ρ2 H2 s2 i (r.a[i]) x2.mv O ho (Ai hi);refine⟨hgo,λx H3 y=>?_⟩;obtain⟨hH,rx⟩:=hy x H3 y;split at N
     . rw[<-N]at w;exact w.elim
     . rename_i env' he
       have Y:HR K mg ρ2 s2 H3/\Ext ρ2 H2 ρ2 H3:=by
        rcases hH with e|⟨q,o,hq,e⟩
        . subst e;exact⟨O,Ext.refl⟩
        . subst e;exact⟨O.more hq o,Ext.new O hq o⟩
       have x3:=x2.trans O Y.2;refine TG ρ2 s2 H3 _ x P env' S _ Y.1 rx (er2.mono Y.2) he λσ4 er4=>hb env' s2 _ σ4 H3 ⟨ρ2,Y.1,er4,?_⟩;cases hc:body env' s2 with
       |e fl s5=>
        rw[hc]at N;simp only[zM]at N;cases fl with
        |a e=>exact λQ H5 Z x5 R U=>⟨Q,s5,e,R,U,x3.trans Y.1 x5,N⟩
        |d e=>exact λQ H5 Z x5 R U=>⟨Q,s5,e,R,U,x3.trans Y.1 x5,N⟩
        |c e=>
         simp only[]at N;rw[<-N]at w;exact λQ H5 Z x5 R U=>w Q H5 Z (x3.trans Y.1 x5) R U
        |b v=>
         simp only[]at N;rw[<-N]at w;exact λQ H5 y5 x5 R r5=>w Q H5 y5 (x3.trans Y.1 x5) R r5
       |g _ _ _=>rw[hc]at N;simp only[qY]at N;rw[<-N]at w;exact w.elim
       |d=>rw[hc]at N;simp only[vX]at N;rw[<-N]at w;exact w.elim
   . rw[<-N]at w;exact w.elim
def Uy(hx:X.i=λ_ _=>False)(Q:X.j=true)(hp:plain iter=true)(hi:∀env s,L2.PI X tg iter (tI (K:=X.K) (mg:=X.d) env s (yl Φ G env it s)))(P:L2.PG X tg g)(TG:oA X.K X.d t g)
 (R:L2.PSs X body (uSs X.K X.d Φ G b)):L2.PS X (.For tg iter body [] pos) (tSt X.K X.d env s ((yl Φ G env it s).bind λr s1=>vq r t (λe s'=>zd Φ G e b s') r.a env s1)):=by
 have x:E2 (model X.f X.w) X.A X.a X.i:=by rw[hx];exact E2.never
 refine yF (L2.SE x Q (jx hi) P R (zp hp)) λD σ H ⟨ρ,hr,er,w⟩=>⟨env,s,ρ,hr,er,?_⟩;cases hv:yl Φ G env it s with
 |e r s1=>
  rw[hv]at w;exact λρ1 H1 J O N W=>bT W TG (λenv s D σ H h=>⟨env,s,h⟩) N (er.mono O) (w.mono O N)
 |g _ _ _=>rw[hv]at w;exact w.elim
 |d=>rw[hv]at w;exact w.elim
def iY{c:Env->Sto->Out Bool}{body:Env->Sto->Out Fl}{tc:L2.TT}{tb:L2.TS}(hc:∀env s σ H Q,tT K mg env s (c env s) σ H Q->tc σ H Q)(hb:∀env s D σ H,tSt K mg env s (body env s) D σ H->tb D σ H)
 (hr:HR K mg ρ s H) (er:ER K mg ρ H env σ) (w:uC K mg ρ H (uQ c body n env s) D):L2.YB tc tb D σ H:=by
 refine⟨λm S H2=>∃ρ2 s2 N,HR K mg ρ2 s2 H2/\ER K mg ρ2 H2 N S/\Ext ρ H ρ2 H2/\uQ c body m N s2=uQ c body n env s,⟨n,ρ,s,env,hr,er,Ext.refl,rfl⟩,?_⟩;rintro m S H2 ⟨ρ2,s2,N,hr2,er2,x2,x⟩;cases m with
 |zero=>rw[uQ]at x;rw[<-x]at w;exact w.elim
 |succ m=>
  rw[uQ]at x;refine hc N s2 S H2 _ ⟨ρ2,hr2,er2,?_⟩;cases hv:c N s2 with
  |e t s3=>
   rw[hv]at x;simp only[zM]at x;intro ρ3 t' H3 x3 R e3;cases e3;have U:=x2.trans hr2 x3;cases t with
   |true=>
    refine L2.rF ⟨_,λσ' H' p=>⟨m,CZ m,p⟩,hb N s3 _ S H3 ⟨ρ3,R,er2.mono x3,?_⟩⟩;simp only[if_true]at x;cases hbd:body N s3 with
    |e fl s5=>
     rw[hbd]at x;simp only[zM]at x;cases fl with
     |a e=>exact λO H5 Y Z P W=>⟨O,s5,e,P,W,U.trans R Z,x⟩
     |d e=>exact λO H5 Y Z P W=>⟨O,s5,e,P,W,U.trans R Z,x⟩
     |c e=>
      simp only[]at x;rw[<-x]at w;exact λO H5 Y Z P W=>w O H5 Y (U.trans R Z) P W
     |b v=>
      simp only[]at x;rw[<-x]at w;exact λO H5 y5 Z P r5=>w O H5 y5 (U.trans R Z) P r5
    |g _ _ _=>rw[hbd]at x;simp only[qY]at x;rw[<-x]at w;exact w.elim
    |d=>rw[hbd]at x;simp only[vX]at x;rw[<-x]at w;exact w.elim
   |false=>
    simp only[A2,if_false]at x;rw[<-x]at w;exact L2.tM (w ρ3 H3 S U R (er2.mono x3))
  |g _ _ _=>rw[hv]at x;simp only[qY]at x;rw[<-x]at w;exact w.elim
  |d=>rw[hv]at x;simp only[vX]at x;rw[<-x]at w;exact w.elim
def aL(hx:X.i=λ_ _=>False)(N:∀env s,L2.PT X ce (tT X.K X.d env s (evT Φ G env c s)))(O:L2.PSs X body (uSs X.K X.d Φ G b)) :
 L2.PS X (.While ce body [] pos) (tSt X.K X.d env s (uQ (λe s'=>evT Φ G e c s') (λe s'=>zd Φ G e b s') mz env s)):=by
 have x:E2 (model X.f X.w) X.A X.a X.i:=by rw[hx];exact E2.never
 exact yF (L2.Zk x (Qd N) O) λD σ H ⟨ρ,hr,er,w⟩=>iY (λenv s σ H Q h=>⟨env,s,h⟩) (λenv s D σ H h=>⟨env,s,h⟩) hr er w
def Xk:L2.PSs X [] (tSt X.K X.d env s (.e (.a env) s)):=wA L2.qR λD σ H ⟨ρ,hr,er,w⟩=>w ρ H σ Ext.refl hr er
def aM{st:Stmt}{rest:List Stmt}{o:Out Fl}{f:Env->Sto->Out Fl}{P:L2.TS}(h1:L2.PS X st (tSt X.K X.d env s o))(S:L2.PSs X rest P)(R:∀env s D σ H,tSt X.K X.d env s (f env s) D σ H->P D σ H) :
 L2.PSs X (st::rest) (tSt X.K X.d env s (o.bind λfl s1=>match fl with|.a e=>f e s1|fl=>.e fl s1)):=by
 refine wA (L2.zr h1 S) λD σ H ⟨ρ,hr,er,w⟩=>⟨ρ,hr,er,?_⟩;cases o with
 |e fl s1=>
  simp only[zM]at w;cases fl with
  |a e=>exact λρ1 H1 N Q x O=>R e s1 D N H1 ⟨ρ1,x,O,w.mono Q x⟩
  |c e=>exact w
  |d e=>exact w
  |b v=>exact w
 |g _ _ _=>exact w.elim
 |d=>exact w.elim
end
end M
end
section
namespace M
open PySem PySem.W PyProof.Rows
def km(sc:Scope)(N:List Str)(e:Ex)(l:Expr):Bool:=match e with
 |.h f ver es=>decide (ver=100)&&UA l λa b lsc _=>eCN b λy x=>uH a&&vB sc lsc&&decide (y=f)&&xt lsc y&&!(y == ("__debug__":Str))&&vO es&&ckL lsc N es x&&zf x&&!x.isEmpty&&decide (("!":Str)∈N)
 |_=>false
def mB(h:km sc N e l=true):∃f es x lsc p2 p3 p4,e=.h f 100 es/\l=.Lambda L2.noArgs (.Call (.Name f p2) x [] p3) lsc p4/\vB sc lsc=true/\lsc.names.lookup f=some .globalImplicit/\(f == ("__debug__":Str))=false /\
 vO es=true/\ckL lsc N es x=true/\zf x=true/\x.isEmpty=false/\("!":Str)∈N:=by
 cases e with
 |h f ver es=>
  obtain⟨Z,g1⟩:=zN (show (decide (ver=100)&&_)=true from h);obtain⟨a,b,lsc,p4,rfl,g2⟩:=lK g1;obtain⟨y,p2,x,p3,rfl,g3⟩:=yy g2;obtain rfl:=of_decide_eq_true Z;simp only[cf,decide_eq_true_eq,As,xt]at g3;obtain⟨⟨⟨⟨⟨⟨⟨⟨⟨h1,Y⟩,rfl⟩,W⟩,U⟩,S⟩,R⟩,Q⟩,P⟩,O⟩:=g3;rw[ox h1];exact⟨y,es,x,lsc,p2,p3,p4,rfl,rfl,Y,W,U,S,R,Q,P,O⟩
 |_=>cases h
def cV(sc:Scope)(N:List Str)(i:Nat):Exs->List Stmt->(List Stmt->Bool)->Bool
 |.c,ss,k=>k ss
 |.a e es,ss,k=>lc ss λt ts=>(SO t λy _=>eMt y λob nm ap z cp=>ck sc N (.e i) ob&&qM ob&&decide (nm="append")&&(ap.endLine == cp.line)&&km sc N e z)&&cV sc N i es ts k
def Vz(sc:Scope)(N:List Str)(i:Nat)(e:Expr):Bool:=eG1 e λx tg iter fs csc=>eName tg λc _=>L2.uJ sc N [c] csc [none]&&(decide (csc.names.lookup c=some .local)||decide (csc.names.lookup c=some .cell))&&ck sc N (.e i) iter&&fs.isEmpty&&eCN x λy O=>decide (y=L2.yC false)&&xt csc y&&l1 O λz=>eName z λP _=>decide (P=c)&&!(c == ("__debug__":Str))&&!(c == ("__classdict__":Str))&&plain iter
noncomputable def Exs.app:Exs->Exs->Exs
 |.c,b=>b
 |.a e es,b=>.a e (es.app b)
noncomputable def Exs.len:Exs->Nat
 |.c=>0
 |.a _ es=>es.len+1
theorem i6:∀a:Exs,a.app .c=a
 |.c=>rfl
 |.a e es=>by rw[Exs.app,i6 es]
theorem m9 e b:∀a:Exs,a.app (.a e b)=(a.app (.a e .c)).app b
 |.c=>rfl
 |.a f es=>by rw[Exs.app,m9 e b es];rfl
section
variable {T:Tbl}{n:Nat}{sc:Scope}{N:List Str}{X:L2.Cx}
def fE(X:L2.Cx)(H:L2.Hp)(x:Addr)(l:Expr):Prop:=∃a body lsc p,l=.Lambda a body lsc p/\qW X H x body lsc
def uB(sc:Scope)(N:List Str)(X:L2.Cx)(H:L2.Hp):Exs->List Addr->Prop
 |.c,[]=>True
 |.a e es,lf::r=>(∃l,km sc N e l=true/\fE X H lf l)/\uB sc N X H es r
 |_,_=>False
theorem fE.keep(h:fE X H lf l)(k:Frz H H'):fE X H' lf l:=by obtain⟨a,b,c,p,e,q⟩:=h;exact⟨a,b,c,p,e,q.keep k⟩
theorem uB.keep(k:Frz H H'):∀{L} {r},uB sc N X H L r->uB sc N X H' L r
 |.c,[],_=>AS
 |.c,_::_,h=>h.elim
 |.a _ _,[],h=>h.elim
 |.a e es,lf::r,h=>by obtain⟨⟨l,h1,O⟩,x⟩:=h;exact⟨⟨l,h1,O.keep k⟩,uB.keep k x⟩
theorem uB.snoc(h1:km sc N e l=true)(x:fE X H lf l):∀{L} {r},uB sc N X H L r->uB sc N X H (L.app (.a e .c)) (r++[lf])
 |.c,[],_=>⟨⟨l,h1,x⟩,AS⟩
 |.c,_::_,h=>h.elim
 |.a _ _,[],h=>h.elim
 |.a e es,lf::r,h=>⟨h.1,uB.snoc h1 x h.2⟩
theorem uB.len:∀{L} {r},uB sc N X H L r->r.length=L.len
 |.c,[],_=>rfl
 |.c,_::_,h=>h.elim
 |.a _ _,[],h=>h.elim
 |.a e es,lf::r,h=>by rw[AB,uB.len h.2];rfl
def gu(no:∀f v,100<=v->T.d f v=none)(N:vO es=true)(h:evE (zB T n) T.b env (.h f 100 es) s=.e v s') :
 ∃m vs,n=m+1/\zY (zB T m) T.b env es s=.e vs s/\zi T.f s=true/\T.c false=true/\uU T false (zB T m f 0 vs s) (zO T m f 0 vs s)=.e v s':=by
 obtain⟨vs,s1,e1,h⟩:=zX (show ((zY (zB T n) T.b env es s).bind λvs s1=>zB T n f 100 vs s1)=.e v s' from h);cases n with
 |zero=>cases h
 |succ m=>
  rw[uj (Φ':=zB T m) es s N]at e1;obtain rfl:s=s1:=(uk es _ _ _ N e1).symm;have x:∀ver,ver=100->zB T (m+1) f ver vs s=if (T.c false)&&zi T.f s then uU T false (zB T m f 0 vs s) (zO T m f 0 vs s) else .d:=λver O=>by
   simp only[zB,no f ver ⋯]
   rw[decide_eq_true O,decide_eq_false (show ¬ver=101 by omega),decide_eq_false (show ¬ver=200 by omega),decide_eq_false (show ¬ver=300 by omega),decide_eq_false (show ¬ver=301 by omega),decide_eq_false (show ¬ver=302 by omega),decide_eq_false (show ¬ver=102 by omega)]
   simp only[Bool.true_and,CU,Bool.or_false];congr 1;cases oj vs<;>rfl
  rw[x 100 rfl]at h;split at h
  . rename_i hc
    rw[cf]at hc;exact⟨m,vs,rfl,e1,hc.2,hc.1,h⟩
  . cases h
def teS(T:Tbl)(n:Nat)(sc:Scope)(N:List Str)(X:L2.Cx)(env:Env)(σ:L2.St):L2.TE:=λx H' Q=>∃(O:Addr) (e:Ex) (l:Expr) (s:Sto) (ρ:Own) (v:Val) (s2:Sto),x[0]?=some (some (.c O))/\km sc N e l=true/\fE X H' O l/\HR X.K X.d ρ s H'/\ER X.K X.d ρ H' env σ /\
 evE (zB T n) T.b env e s=.e v s2/\yU X.K X.d (RD X.K X.d) ρ H' (.e v s2) Q
def ZY(o:Ok T n sc N X)(oc:Ok T n csc [cx] (X.comp [cx] csc C s0 H0 ex))(h2:csc.names.lookup (L2.yC false)=some .globalImplicit)
 (hv:csc.names.lookup cx=some .local\/csc.names.lookup cx=some .cell) (hd1:(cx == ("__debug__":Str))=false) (hd2:(cx == ("__classdict__":Str))=false) (I0:L2.Inv X pins0 σ H0 s0) (f0:∀b∈ex,L2.uq X pins0 H0 b) :
 L2.PE (X.comp [cx] csc C s0 H0 ex) (.Call (.Name (L2.yC false) p1) [.Name cx p2] [] p5) (teS T n sc N X env σ):=by
 rintro pins s1 U H1 Q I ⟨lf,e,l,s,ρ,v,s2,h0,hck,⟨a,body,lsc,p,hl,hin⟩,hr,er,hev,wt⟩;refine byG λW O=>?_;obtain⟨f,es,ys,lsc',p2',p3,p4,rfl,hl2,h4,h6,h7,h8,h9,h10,h11,h12⟩:=mB hck;refine O ?_;rw[hl2]at hl;cases hl;refine byG λW O=>?_;obtain⟨m,vs,rfl,ho,htb,P,Z⟩:=gu o.i h8 hev;refine O ?_;have sd:=o.l m rfl ⟨_,P⟩;refine byG λW O=>?_;obtain⟨kx,cs,ws,pre,hue,hhue,KF,SF,CF,RF⟩:=sd.a.a;refine O ?_;obtain⟨fS,SF'⟩:=SF false P;refine byG λW O=>?_;obtain⟨stS,fdS,R,FnS,_⟩:=id SF'.a;refine O ?_;refine BP (L2.xU I (oc.a.b _ h2) R ?_ (by decide))
 have hpa:L2.PA (X.comp [cx] csc C s0 H0 ex) [.Name cx p2] (L2.xa (L2.xf 0) L2.tY):=L2.yO (L2.xV rfl (oc.a.e cx (hv.imp id .inl)) hd1 hd2) L2.yh;refine Dc (h₀:=X.h) I.C.i.a FnS.b (L2.thn (hpa p5 pins s1 U H1 (λvs S=>vs=[L2.V.c lf]/\S=H1) I ⟨_,h0,rfl,rfl⟩) λus s1' ⟨vs',S,I1,r,hvs,hH⟩=>⟨I1.kIn,?_⟩);subst hvs hH;obtain⟨c,ctv,L⟩:=hin.at o h4 I0 f0 I1;have Y:us=[.ref lf]:=by
  cases r with
  |cons r1 r2=>cases r2;cases r1;rfl
 rw[Y];simp only[vB,cf,decide_eq_true_eq,As,Ay,Bo,Aw]at h4;exact nG oc o.a.d (λx hx=>(h4.1.2 x hx).imp id And.left) h8 h9 h10 h11 (.inl ⟨rfl,h6,h7⟩) ho P I1 L hr er (by rw[Z];exact wt) R
def fR(hr:HR X.K X.d ρ s H)(er:ER X.K X.d ρ H env σ)(np:p ∉ ρ.o)(hp:σ[i]?=some (some (.c p)))(hl:H p=some (.b (lfs.map L2.V.c)))(hz:lfs.length<=zW)
 (ls:uB sc N X H L lfs) (hev:zY (zB T n) T.b env L s=.e vs s1) (wt:yU X.K X.d (RD X.K X.d) ρ H (.e (.h vs) s1) Q):L2.vK [none] (L2.VF X.K (L2.xf i)) (L2.xh 0) [] (λacc=>L2.vz acc (teS T n sc N X env σ)) σ H Q:=by
 refine⟨_,hp,p,rfl,⟨_,L2.SqL.of hl⟩,λacc O=>?_⟩;refine qp (n:=lfs.length) (λj U H'=>∃ρ' s' Lr lr done vr,Lp acc ρ H ρ' H'/\HR X.K X.d ρ' s' H'/\(∃W,H' acc=some (.b W)/\RDs X.K X.d ρ' H' done W)/\lfs.drop j=lr/\uB sc N X H' Lr lr/\U.length=1/\done.length=j/\zY (zB T n) T.b env Lr s'=.e vr s1/\done++vr=vs)
  ⟨ρ.hide acc,s,L,lfs,[],vs,Lp.start hr O _,hr.hide O,⟨[],L2.zJ,.d⟩,Dq,ls.keep λa o u e=>by rw[L2.zG (L2.zR e O)];exact e,rfl,rfl,hev,rfl⟩ ?_ ?_
 . rintro U H' ⟨ρ',s',Lr,lr,done,vr,Z,P,⟨W,e1,e2⟩,hd,R,hσ,hdl,he,hv⟩
   have S:=Z.c p _ hl np;refine⟨⟨_,L2.SqL.of S,by rw[Ak];exact Aa _⟩,?_⟩
   rw[F3]at hd;subst hd;cases Lr with
   |a _ _=>exact R.elim
   |c=>
    cases he;rw[A4]at hv;subst hv;exact Z.done hr O P e1 e2 (m:=false) wt
 . rintro j U H' hj ⟨ρ',s',Lr,lr,done,vr,Z,P,⟨W,e1,e2⟩,hd,R,hσ,hdl,he,hv⟩
   have S:=Z.c p _ hl np;rw[DO hj]at hd;subst hd;cases Lr with
   |c=>exact R.elim
   |a e es=>
    obtain⟨⟨l,hck,hin⟩,R⟩:=R;obtain⟨v,s2,ev,he⟩:=zX he;obtain⟨vr',s3,er',he⟩:=zX he;cases he;have hx:(lfs.map L2.V.c)[j]?=some (.c lfs[j]):=by rw[A1,Ai hj];rfl
    refine⟨⟨_,_,L2.SqL.of S,hx⟩,?_⟩;rintro x H'' ⟨rfl,hy⟩;have:=hy _ (L2.SqL.of S);rw[hx]at this;cases this;have ers:ER X.K X.d ρ' H'' env σ:=⟨er.b,λk w e'=>by obtain⟨u,z1,z2⟩:=er.a k w e';exact⟨u,z1,RD.mv (Z.mv O) z2⟩⟩
    show teS T n sc N X env σ _ _ _;refine⟨lfs[j],e,l,s',ρ',v,s2,by rw[AJ ⋯],hck,hin,P,ers,ev,λρ2 y H2 x2 hr2 r2=>?_⟩
    have Y:=Z.step P x2;have e3:H2 acc=some (.b W):=x2.c _ _ e1 (P.d acc Z.here).2;have e4:=e2.mono x2;have mv2:=qJ (H1:=H2) hr2 Y.here (.b (W++[y]));refine⟨W,e3,by rw[<-e2.length,hdl,AK];have:zW=16777216:=rfl;omega,ρ2,s2,es,_,done++[v],vr',Y.emit hr2 O _,hr2.emit Y.here,⟨_,L2.zJ,RDs.mv mv2 (e4.append (.a r2 .d))⟩,rfl,?_,by rw[BN];exact hσ,by rw[An,hdl];rfl,er',by rw[Br];exact hv⟩
    refine(R.keep (P.frz x2)).keep λa o u e'=>?_;rw[L2.zG (λz=>by rw[z,e3]at e';cases e')];exact e'
def Ww(h:ck sc N (.e i) e=true):∃x p,e=.Name x p/\N[i]?=some x/\rm sc x=true/\(x == ("__debug__":Str))=false/\(x == ("__classdict__":Str))=false:=by obtain⟨x,p,rfl,g⟩:=zq (show (eName e λx _=>decide (N[i]?=some x)&&rm sc x&&!(x == ("__debug__":Str))&&!(x == ("__classdict__":Str)))=true from h);simp only[cf,decide_eq_true_eq,As]at g;exact⟨x,p,rfl,g.1.1.1,g.1.1.2,g.1.2,g.2⟩
def VU(o:Ok T n sc N X)(h:ck sc N (.e i) e=true):L2.PE X e (L2.xf i):=by obtain⟨x,p,rfl,h1,Q,P,O⟩:=Ww h;exact L2.xV (by rw[o.a.a];exact h1) (o.a.e x (lO Q)) P O
def tCm(sc:Scope)(N:List Str)(X:L2.Cx)(i:Nat)(L:Exs)(env:Env)(s:Sto)(W:Own->L2.Hp->Prop)(σ:L2.St)(H:L2.Hp):Prop:=∃ρ p x,HR X.K X.d ρ s H/\ER X.K X.d ρ H env σ/\p ∉ ρ.o/\σ[i]?=some (some (.c p))/\H p=some (.b (x.map L2.V.c))/\uB sc N X H L x/\W ρ H
def ZQ(o:Ok T n sc N X)(h:Vz sc N i e=true)(R:zY (zB T n) T.b env L s=.e vs s1)(hz:L.len<=1000) :
 L2.PE X e (λσ H Q=>tCm sc N X i L env s (λρ H=>yU X.K X.d (RD X.K X.d) ρ H (.e (.h vs) s1) Q) σ H):=by
 obtain⟨x,tg,iter,fs,csc,cpos,rfl,a1⟩:=sD h;obtain⟨c,pc,rfl,a2⟩:=zq a1;obtain⟨a3,a4⟩:=zN a2;obtain⟨y,p1,ys,p5,rfl,a5⟩:=yy a4;obtain⟨Y,a7⟩:=zN a5;obtain⟨z,rfl,a8⟩:=yS a7;obtain⟨c',p2,rfl,W⟩:=zq a8;simp only[cf,decide_eq_true_eq,Aw,xt,As]at a3 Y W;obtain⟨⟨⟨h1,U⟩,h3⟩,h4⟩:=a3;obtain⟨rfl,h6⟩:=Y;obtain⟨⟨⟨rfl,g1⟩,g2⟩,g3⟩:=W;cases AN.mp h4;have S:=oh o.a h1;have oc:=o.comp S (by simp) h1
 refine zZ (L2.ZR (tp:=λσ acc=>L2.vz acc (teS T n sc N X env σ)) o.d S (L2.mS (VU o h3)) (L2.YI _ _ _ _ _ _) (λC P H0 ex=>l6 (i:=0) (oc C P H0 ex).a rfl U) (λC P H0 ex=>.b) (λσ C P H0 ex acc ⟨pins',I0,f0⟩=>L2.sN (ZY o (oc C P H0 ex) h6 U g1 g2 I0 f0)) (zp g3)) ?_;rintro σ H Q ⟨ρ,p,lfs,hr,er,Z,hp,hl,O,w⟩;exact fR hr er Z hp hl (by rw[O.len];have:zW=16777216:=rfl;omega) O R w
def Af(sc:Scope)(N:List Str)(X:L2.Cx)(i:Nat)(L:Exs)(env:Env)(s:Sto)(O:Out Fl)(Q:Exs):L2.TS:=λD σ H=>∃ρ0 H0 ρ p x P,HR X.K X.d ρ0 s H0/\H0 p=none/\Lp p ρ0 H0 ρ H/\HR X.K X.d ρ s H/\ER X.K X.d ρ H env σ/\σ[i]?=some (some (.c p))/\H p=some (.b (x.map L2.V.c)) /\
 uB sc N X H P x/\P.app Q=L/\uC X.K X.d ρ0 H0 O D
theorem iz b:∀a:Exs,(a.app b).len=a.len+b.len
 |.c=>(Nat.zero_add _).symm
 |.a e es=>by rw[Exs.app,Exs.len,iz b es,Exs.len];omega
def gL(h:H p=some (.b xs)):Frz H (L2.upd H p (.b ys)):=λa o u e=>by rw[L2.zG (λz=>by rw[z,h]at e;cases e)];exact e
theorem cA(o:Ok T (m+1) sc N X)(Y:zi T.f s=true)(hmd:T.c false=true)(hz:L.len<=1000){k:List Stmt->Bool}(hk:∀Q,k Q=true->L2.PSs X Q (Af sc N X i L env s O .c)) :
 ∀Lr Q,cV sc N i Lr Q k=true->L2.PSs X Q (Af sc N X i L env s O Lr)
 |.c,Q,h=>hk Q h
 |.a e es,Q,h=>by
  obtain⟨t,ts,rfl,a1⟩:=yA h;obtain⟨a2,h2⟩:=zN a1;obtain⟨y,pos,rfl,a3⟩:=pT a2;obtain⟨ob,nm,ap,z,cp,rfl,a4⟩:=gI a3;obtain⟨a5,hlm⟩:=zN a4;simp only[cf,decide_eq_true_eq]at a5;obtain⟨⟨⟨g1,g2⟩,rfl⟩,g3⟩:=a5;obtain⟨f,fs,ys,lsc,p2,p3,p4,he,rfl,h4,h6,h7,h8,h9,h10,h11,h12⟩:=mB hlm;refine wA (L2.zr (L2.sQ (L2.oz (es:=[]) (VU o g1) (ZX o hmd h4 h12) (vW g2) rfl g3)) (cA o Y hmd hz hk es ts h2)) ?_;rintro D σ H ⟨ρ0,H0,ρ,p,P,L1,hr0,Z,lp,hr,er,hp,hl,hls,R,w⟩;refine⟨_,hp,.inl ⟨rfl,_,.of hl⟩,ρ,s,hr,Y,λlf H' x U hin=>?_⟩;have S:=lp.step hr x;have W:H' p=some (.b (P.map L2.V.c)):=x.c _ _ hl (hr.d p lp.here).2;have mv:=qJ (H1:=H') U S.here (.b (P.map L2.V.c++[.c lf]));have hln:P.length=L1.len:=hls.len;have hlt:L1.len<1000:=by have:=iz (.a e es) L1;rw[R]at this;have:(Exs.a e es).len=es.len+1:=rfl;omega
  refine⟨p,P.map L2.V.c,.c lf,rfl,rfl,W,by rw[Ak,AK];omega,ρ0,H0,ρ,p,P++[lf],L1.app (.a e .c),hr0,Z,S.emit U Z _,U.emit S.here,⟨er.b,λj v e'=>?_⟩,hp,by rw[Dg];exact L2.zJ,?_,by rw[<-m9];exact R,w⟩
  . obtain⟨u,z1,z2⟩:=(er.mono x).a j v e'
    exact⟨u,z1,RD.mv mv z2⟩
  . exact uB.snoc hlm ⟨_,_,_,_,rfl,hin.keep (gL W)⟩ ((hls.keep (hr.frz x)).keep (gL W))
def Ye(h:Af sc N X i L env s O .c D σ H):tCm sc N X i L env s (λρ H=>uC X.K X.d ρ H O D) σ H:=by
 obtain⟨ρ0,H0,ρ,p,S,L1,hr0,hn0,P,R,W,hp,hl,U,x,w⟩:=h;rw[i6]at x;subst x;have mv:Mv ρ H ⟨ρ.o,ρ0.h⟩ H:=⟨λa u e n=>⟨e,n.1,λz=>n.2 (by rw[P.d];exact Ag _ z)⟩,λi a e=>e,λ_ _=>rfl⟩
 have Q:HR X.K X.d ⟨ρ.o,ρ0.h⟩ s H:=⟨R.f,R.v,λi ws e=>by obtain⟨a,e1,t⟩:=R.m i ws e;exact⟨a,e1,t.mv mv rfl⟩,λa hm=>R.d a (by rw[P.d];exact Ag _ hm)⟩
 exact⟨⟨ρ.o,ρ0.h⟩,p,S,Q,⟨W.b,λj v e=>by obtain⟨u,Z,Y⟩:=W.a j v e;exact⟨u,Z,RD.mv mv Y⟩⟩,(R.d p P.here).2,hp,hl,U,w.mono ⟨P.f,rfl,P.c,P.g⟩ Q⟩
def TR(o:Ok T (m+1) sc N X)(Y:zi T.f s=true)(Z:T.c false=true)(R:km sc N e l=true)(hi:N[i]?=some x)(hx:sc.names.lookup x=some .local\/sc.names.lookup x=some .cell)
 (hrest:L2.PSs X rest (Af sc N X i (.a e es) (env.set i dr) s O es)):L2.PSs X (.Assign [.Name x px] (.List [l] lp) pos::rest) (tSt X.K X.d env s O):=by
 refine byG λpi gqa=>?_;obtain⟨f,fs,ys,lsc,p2,p3,p4,he,rfl,h4,h6,h7,h8,h9,h10,h11,h12⟩:=mB R;refine gqa ?_;obtain⟨l1,l2⟩:=o.a.c x hx;have hN:X.N.Nodup:=by rw[o.a.a];exact o.a.d
 have U:X.N[i]?=some x:=by rw[o.a.a];exact hi
 rintro pins s0 σ H D I ⟨ρ,hr,er,w⟩;have S:i<σ.length:=by rw[I.P];exact(Au.mp U).1
 refine L2.zr (L2.wu hN U l1 (L2.rN (L2.yO (ZX o Z h4 h12) L2.yh rfl)) (uW rfl) l2) hrest pins s0 σ H D I ⟨ρ,s,hr,Y,λlf H' x' Q hin=>⟨by rw[AK];simp,λp hp=>?_⟩⟩
 refine⟨ρ,H',ρ.hide p,p,[lf],.a e .c,Q,hp,Lp.start Q hp _,Q.hide hp,?_,?_,L2.zJ,⟨⟨_,R,_,_,_,_,rfl,hin.keep λa o' u W=>by rw[L2.zG (L2.zR W hp)];exact W⟩,AS⟩,rfl,w.mono x' Q⟩
 . refine ER.put ⟨er.b,λj v W=>?_⟩
   obtain⟨u,z1,z2⟩:=(er.mono x').a j v W;exact⟨u,z1,RD.mv (qK Q hp _) z2⟩
 . show (σ.set i (some (L2.V.c p)))[i]?=_
   rw[AJ S]
theorem om:∀{l} {s s'},vR s=vR s'->zi l s'=true->zi l s=true
 |[],_,_,_,_=>rfl
 |x::l,s,[],h,h'=>by cases h'
 |x::l,s,c'::s',h,h'=>by
  cases c' with
  |d y=>
   cases s with
   |nil=>cases h
   |cons c s=>
    cases c with
    |d z=>
     have h:z::vR s=y::vR s':=h;injection h with h1 h2
     obtain⟨g1,g2⟩:=zN (show (decide (x=y)&&zi l s')=true from h');show (decide (x=z)&&zi l s)=true;rw[h1,g1,om h2 g2];rfl
    |_=>cases h
  |_=>cases h'
end
end M
end
section
namespace M
open PySem
def cS(c:Const)(k:Str->Bool):Bool:=el c.ctorIdx 5 λh=>Const.str.elim (motive:=λ_=>Bool) c h k
def Vw(h:cS c k=true):∃x,c=.str x/\k x=true:=by obtain⟨N,h⟩:=zx h;obtain⟨x,rfl⟩:∃x,c=.str x:=Const.str.elim (motive:=λc=>∃x,c=Const.str x) c N λx=>⟨x,rfl⟩;exact⟨x,rfl,h⟩
def eS(e:Expr):Bool:=Yy e λc _ _=>cS c λx=>decide (x.length<=1000)
def kr(h:eS e=true):∃x k p,e=.Constant (.str x) k p/\x.length<=1000:=by obtain⟨c,k,p,rfl,h1⟩:=qi h;obtain⟨x,rfl,N⟩:=Vw h1;exact⟨x,k,p,rfl,of_decide_eq_true N⟩
def eF(e:Expr)(k:Expr->Bool):Bool:=RM e λu c s _=>decide (c=-1)&&s.isNone&&k u
def bH(h:eF e k=true):∃u p,e=.FormattedValue u (-1) none p/\k u=true:=by obtain⟨u,c,s,p,rfl,h1⟩:=bI h;obtain⟨x,N⟩:=zN h1;rw[of_decide_eq_true (zN x).1,BW.mp (zN x).2];exact⟨u,p,rfl,N⟩
def eFs(e:Expr)(k:Expr->Expr->Bool):Bool:=eJn e λx _=>lc x λc1 x=>lc x λf1 x=>lc x λc2 x=>lc x λf2 x=>l1 x λc3=>(eS c1&&(eS c2&&eS c3))&&eF f1 λu=>eF f2 λv=>k u v
def Yz(h:eFs e k=true):∃u v c1 c2 c3 k1 k2 k3 p1 p2 p3 p4 p5 pos,e=.JoinedStr [.Constant (.str c1) k1 p1,.FormattedValue u (-1) none p2,.Constant (.str c2) k2 p3,.FormattedValue v (-1) none p4,.Constant (.str c3) k3 p5] pos/\c1.length<=1000/\c2.length<=1000/\c3.length<=1000/\k u v=true:=by obtain⟨x,pos,rfl,h1⟩:=Y0 h;obtain⟨a1,x,rfl,h2⟩:=yA h1;obtain⟨a2,x,rfl,h3⟩:=yA h2;obtain⟨a3,x,rfl,Z⟩:=yA h3;obtain⟨a4,x,rfl,Y⟩:=yA Z;obtain⟨a5,rfl,W⟩:=yS Y;obtain⟨N,U⟩:=zN W;obtain⟨c1,k1,p1,rfl,R⟩:=kr (zN N).1;obtain⟨c2,k2,p3,rfl,Q⟩:=kr (zN (zN N).2).1;obtain⟨c3,k3,p5,rfl,P⟩:=kr (zN (zN N).2).2;obtain⟨u,p2,rfl,S⟩:=bH U;obtain⟨v,p4,rfl,O⟩:=bH S;exact⟨u,v,c1,c2,c3,k1,k2,k3,p1,p2,p3,p4,p5,pos,rfl,R,Q,P,O⟩
def PV(sc:Scope)(N:List Str)(es:Exs)(a:Expr):Bool:=eFs a λu v=>ckL sc N es [u,v]
def Yo(sc:Scope)(N:List Str)(i:Nat)(d:Ex)(op:CmpOp)(e:Expr):Bool:=eC1 e λl o r=>Vz sc N i l&&decide (o=op)&&ck sc N d r&&plain r&&okC .b&&okC .a
noncomputable def UR:Cns->Bool
 |.a=>true
 |_=>false
def V0(sc:Scope)(N:List Str)(i:Nat)(d:Ex)(o:Cns)(t:Expr):Bool:=if UR o then Yo sc N i d .NotEq t else eBl .Or t λa as=>Yo sc N i d .NotEq a&&oC sc N o as
def RH(sc:Scope)(N:List Str)(i:Nat)(L:Exs)(P:List Stmt)(k:List Stmt->Bool):Bool:=match L with
 |.c=>false
 |.a e es=>lc P λO ts=>(dJ O λtg v _=>l1 tg λq=>eName q λx _=>decide (N[i]?=some x)&&(decide (sc.names.lookup x=some .local)||decide (sc.names.lookup x=some .cell))&&UB v λls _=>l1 ls λl=>km sc N e l)&&cV sc N i es ts k
def cW(sc:Scope)(N:List Str)(i k:Nat)(d:Ex)(o:Cns)(O:List Stmt->Bool)(fin:Stmt):Bool:=if k=0 then WW fin λq _=>o1 q λx=>Vz sc N i x else if k=1 then WW fin λq _=>o1 q λx=>Yo sc N i d .Eq x
 else sIf fin λt x y _=>y.isEmpty&&O x&&V0 sc N i d o t
def V1(sc:Scope)(N:List Str)(c:Str)(v:Nat)(es:Exs)(l:List Expr->Bool)(st:Stmt):Bool:=if v=1 then (sRs st λq b _=>b.isNone&&o1 q λq=>eCN q λx O=>decide (x=c)&&xt sc x&&!(x == ("__debug__":Str))&&(l O&&zf O&&decide (O.length=2)&&decide (x="TooGreat"))) else (sRs st λq b _=>b.isNone&&o1 q λq=>eCN q λx O=>l1 O λa=>decide (x=c)&&xt sc x&&!(x == ("__debug__":Str))&&(((l [a]&&plain a)||PV sc N es a)&&decide (x≠"TooGreat")))
mutual
noncomputable def ckS(sc:Scope)(N:List Str):Sm->Stmt->Bool
 |.h e,st=>(SO st λx _=>ck sc N e x&&ui x)
 |.f e,st=>(WW st λq _=>o1 q λx=>ck sc N e x)
 |.s,_=>false
 |.g i e,st=>(dJ st λts v _=>l1 ts λt=>eName t λx _=>decide (N[i]?=some x)&&(decide (sc.names.lookup x=some .local)||decide (sc.names.lookup x=some .cell))&&(ck sc N e v&&R0 e))
 |.n is e,st=>(dJ st λP v _=>l1 P λt=>bL t λts _ _=>xO sc N is ts&&ck sc N e v&&notTuple v)
 |.q is es,st=>(dJ st λP v _=>l1 P λt=>bL t λts _ _=>bL v λvs _ _=>xO sc N is ts&&ckL sc N es vs&&zf vs&&decide (is.length<=8)&&decide is.Nodup&&decide (ts.length=vs.length)&&(Q0 sc ts vs||Vk sc ts))
 |.u i op e,st=>(Qq st λt o v _=>eName t λx _=>decide (N[i]?=some x)&&(decide (sc.names.lookup x=some .local)||decide (sc.names.lookup x=some .cell))&&decide (o=op.op)&&ck sc N e v&&!(decide (op=.e)||decide (op=.h)||decide (op=.i)||decide (op=.g)))
 |.v _ _ _,_=>false
 |.l o i e,st=>(dJ st λts v _=>l1 ts λt=>Y6 t λa b _=>ck sc N o a&&ck sc N i b&&ck sc N e v&&plain b)
 |.j c a b,st=>(sIf st λt x y _=>ckC sc N c t&&rA sc N a x&&rA sc N b y)
 |.k t it b,st=>(Qr st λtg iter body O _=>O.isEmpty&&(ckT sc N t tg&&ckI sc N it iter tg&&rA sc N b body&&plain iter))
 |.m c b,st=>(Qs st λt body O _=>O.isEmpty&&(ckC sc N c t&&rA sc N b body))
 |.r,_=>false
 |.w,_=>false
 |.p,_=>false
 |.d e,st=>(match e with
  |.h c v es=>V1 sc N c v es (λQ=>ckL sc N es Q) st
  |.g _=>true
  |_=>false)
noncomputable def rA(sc:Scope)(N:List Str):Sms->List Stmt->Bool
 |.f,O=>O.isEmpty
 |.e c cs,O=>(lc O λt ts=>ckS sc N c t&&rA sc N cs ts)
 |.g i L .f k d o b cs,O=>decide (L.len<=1000)&&RH sc N i L O λO=>lc O λfin rest=>cW sc N i k d o (λx=>rA sc N b x) fin&&rA sc N cs rest
 |.g ..,_=>false
end
structure OkF(T:Tbl)(n:Nat)(sc:Scope)(N:List Str)(X:L2.Cx):Prop where
 a:Ok T n sc N X
 b:X.a.scope=sc
 bk:X.a.blockKind=.function
section
variable {T:Tbl}{n:Nat}
def JS(T:Tbl)(n:Nat)(a:Sm):Prop:=∀(sc:Scope) (N:List Str) (X:L2.Cx) (st:Stmt),OkF T n sc N X->ckS sc N a st=true->∀env s,L2.PS X st (tSt X.K X.d env s (exS (zB T n) T.b env a s))
def JSs(T:Tbl)(n:Nat)(a:Sms):Prop:=∀(sc:Scope) (N:List Str) (X:L2.Cx) (st:List Stmt),OkF T n sc N X->rA sc N a st=true->∀env s,L2.PSs X st (tSt X.K X.d env s (zd (zB T n) T.b env a s))
def pP(h:∀env s,L2.PSs X st (tSt X.K X.d env s (zd Φ G env b s))):L2.PSs X st (uSs X.K X.d Φ G b):=λpins s σ H D I ⟨env,t,q⟩=>h env t pins s σ H D I q
def Xb:JS T n (.h e):=by intro sc N X st o h env s;replace h:=pT h;obtain⟨x,p1,rfl,h⟩:=h;simp only[cf]at h;exact Xh h.2 (jE T n e _ _ _ _ o.a h.1 env s)
def Uq:JS T n (.f e):=by intro sc N X st o h env s;replace h:=sV h;obtain⟨q1,p1,rfl,h⟩:=h;replace h:=tR h;obtain⟨x,rfl,h⟩:=h;exact Uz (jE T n e _ _ _ _ o.a h env s)
def tW:∃b,DP (.ListComp elt gens csc cpos) (some (.Name y py)) l env=pure b:=⟨_,rfl⟩
noncomputable def XM:Ex->Bool
 |.r ..|.w ..|.z ..=>true
 |_=>false
def lZ(h:ck sc N a e=true)(Q:XM a=false):ui e=true:=by
 have no:∀{e:Expr},ck sc N a e=true->e.ctorIdx=8\/e.ctorIdx=9\/e.ctorIdx=10->False:=λ{e} h O=>by
  have P:(∃x g c p,e=.ListComp x g c p)\/(∃x g c p,e=.SetComp x g c p)\/∃k x g c p,e=.DictComp k x g c p:=by
   rcases O with O|O|O
   . exact .inl (E6 (motive_1:=λe=>∃x g c p,e=Expr.ListComp x g c p) e O λx g c p=>⟨x,g,c,p,rfl⟩)
   . exact .inr (.inl (Expr.SetComp.elim (motive_1:=λe=>∃x g c p,e=Expr.SetComp x g c p) e O λx g c p=>⟨x,g,c,p,rfl⟩))
   . exact .inr (.inr (Expr.DictComp.elim (motive_1:=λe=>∃k x g c p,e=Expr.DictComp k x g c p) e O λk x g c p=>⟨k,x,g,c,p,rfl⟩))
  rcases P with⟨x,g,c,p,rfl⟩|⟨x,g,c,p,rfl⟩|⟨k,x,g,c,p,rfl⟩ <;>
  . cases a with
    |r _ _ _ _ _ _ _=>cases Q
    |w _ _ _ _ _ _ _ _ _ _=>cases Q
    |z _=>cases Q
    |h f v es=>
     have h:(if v<100 then _ else if v<200 then _ else _)=true:=h
     split at h
     . cases h
     . split at h
       . cases h
       . exact absurd (show false=true from (zN h).2) Ac
    |_=>cases h
 cases e with
 |ListComp _ _ _ _=>exact(no h (.inl rfl)).elim
 |SetComp _ _ _ _=>exact(no h (.inr (.inl rfl))).elim
 |DictComp _ _ _ _ _=>exact(no h (.inr (.inr rfl))).elim
 |_=>rfl
def Ul:JS T n (.g i e):=by
 intro sc N X st o h env s;replace h:=vM h;obtain⟨ts1,v,pos,rfl,h⟩:=h;replace h:=yS h;obtain⟨t1,rfl,h⟩:=h;replace h:=zq h;obtain⟨x,px,rfl,h⟩:=h;simp only[cf,decide_eq_true_eq,Aw]at h;obtain⟨⟨h1,h2⟩,R,hns⟩:=h;obtain⟨l1,l2⟩:=o.a.a.c x h2;have hN:X.N.Nodup:=by rw[o.a.a.a];exact o.a.a.d
 have hi:X.N[i]?=some x:=by rw[o.a.a.a];exact h1
 by_cases hn:ui v=true
 . exact jP (L2.wu hN hi l1 (jE T n e _ _ _ _ o.a R env s) (uW hn) l2) λσ H Q q=>q
 . -- a Em
   cases e with
   |r m U fr elt t it ifs=>
    replace R:=sD R;obtain⟨x',tg,iter,fs,csc,cpos,rfl,R⟩:=R;simp only[cf,decide_eq_true_eq]at R;obtain⟨⟨⟨⟨⟨⟨c1,c2⟩,c3⟩,c4⟩,c5⟩,c6⟩,c7⟩:=R;have S:=oh o.a.a c1;have oc:=o.a.comp S c2 c1;obtain⟨g,pg,tg'⟩:=mj o.a oc t tg c3;have hpi:L2.PI X tg iter (uI X.K X.d (zB T n) T.b it):=jx λenv s=>jI T n it _ _ _ _ _ o.a c4 env s;have Z:∀C O H0 ex,L2.PTs (X.comp U csc C O H0 ex) fs (uTs X.K X.d (zB T n) T.b ifs):=λC O H0 ex=>(jCs T n ifs _ _ _ _ (oc C O H0 ex) c5).2.2;have hel:∀C O H0 ex,L2.PE (X.comp U csc C O H0 ex) x' (uE X.K X.d (zB T n) T.b elt):=λC O H0 ex=>dA (X:=X.comp U csc C O H0 ex) λenv s=>jE T n elt _ _ _ _ (oc C O H0 ex) c6 env s;have W:L2.PS X (.Assign [.Name x px] (.ListComp x' [⟨tg,iter,fs,0⟩] csc cpos) pos) (L2.uv (L2.vK fr (uI X.K X.d (zB T n) T.b it) g (uTs X.K X.d (zB T n) T.b ifs) λacc=>L2.vz acc (uE X.K X.d (zB T n) T.b elt)) (L2.xh i)):=by
     obtain⟨b,hb⟩:=tW (elt:=x') (gens:=[⟨tg,iter,fs,0⟩]) (csc:=csc) (cpos:=cpos) (y:=x) (py:=px) (l:=pos.line) (env:=X.a);cases b with
     |true=>exact L2.gb o.a.d S hpi pg Z hel hN hi l1 hb l2 (zp c7)
     |false=>exact L2.wu hN hi l1 (L2.qQ o.a.d S hpi pg Z hel (zp c7)) hb l2
    refine jP (o:=evE (zB T n) T.b env (.r m U fr elt t it ifs) s) W λσ H Q hq=>uf (env:=env) (s:=s) (chk:=false) (m:=m) (body:=u7 (zB T n) T.b elt ifs) tg' wj (λacc ρ0 H0 hn=>pj hn) ?_ λ_ r s1 p s2 hl=>?_
    . simp only[A2,false_implies,if_true];exact hq
    . have:=rX hl
      simpa using this
   |w m U fr elt t it ifs t2 Y ifs2=>
    replace R:=gH R;obtain⟨x',tg,iter,fs,tg2,P,fs2,csc,cpos,rfl,R⟩:=R;simp only[cf,decide_eq_true_eq]at R;obtain⟨⟨⟨⟨⟨⟨⟨⟨⟨⟨c1,c2⟩,c3⟩,c4⟩,c5⟩,c6⟩,c7⟩,c8⟩,c9⟩,c10⟩,c11⟩:=R;have S:=oh o.a.a c1;have oc:=o.a.comp S c2 c1;have tgt:=mj o.a oc;obtain⟨g,pg,tg'⟩:=tgt t tg c3;obtain⟨g2,pg2,tg2'⟩:=tgt t2 tg2 c6;have hpi:L2.PI X tg iter (uI X.K X.d (zB T n) T.b it):=jx λenv s=>jI T n it _ _ _ _ _ o.a c4 env s;have Z:∀C O H0 ex,L2.PTs (X.comp U csc C O H0 ex) fs (uTs X.K X.d (zB T n) T.b ifs):=λC O H0 ex=>(jCs T n ifs _ _ _ _ (oc C O H0 ex) c5).2.2;have hpi2:∀C O H0 ex,L2.PI (X.comp U csc C O H0 ex) tg2 P (uI X.K X.d (zB T n) T.b Y):=λC O H0 ex=>jx (X:=X.comp U csc C O H0 ex) λenv s=>jI T n Y _ _ _ _ _ (oc C O H0 ex) c7 env s;have hts2:∀C O H0 ex,L2.PTs (X.comp U csc C O H0 ex) fs2 (uTs X.K X.d (zB T n) T.b ifs2):=λC O H0 ex=>(jCs T n ifs2 _ _ _ _ (oc C O H0 ex) c8).2.2;have hel:∀C O H0 ex,L2.PE (X.comp U csc C O H0 ex) x' (uE X.K X.d (zB T n) T.b elt):=λC O H0 ex=>dA (X:=X.comp U csc C O H0 ex) λenv s=>jE T n elt _ _ _ _ (oc C O H0 ex) c9 env s;have W:L2.PS X (.Assign [.Name x px] (.ListComp x' [⟨tg,iter,fs,0⟩,⟨tg2,P,fs2,0⟩] csc cpos) pos) (L2.uv (L2.vK fr (uI X.K X.d (zB T n) T.b it) g (uTs X.K X.d (zB T n) T.b ifs) λacc=>L2.pZ (uI X.K X.d (zB T n) T.b Y) g2 (uTs X.K X.d (zB T n) T.b ifs2) (L2.vz acc (uE X.K X.d (zB T n) T.b elt))) (L2.xh i)):=by
     obtain⟨b,hb⟩:=tW (elt:=x') (gens:=[⟨tg,iter,fs,0⟩,⟨tg2,P,fs2,0⟩]) (csc:=csc) (cpos:=cpos) (y:=x) (py:=px) (l:=pos.line) (env:=X.a);cases b with
     |true=>exact L2.Zi o.a.d S hpi pg Z hpi2 pg2 hts2 hel hN hi l1 hb l2 (zp c10) (λenv=>zp c11)
     |false=>exact L2.wu hN hi l1 (L2.ly o.a.d S hpi pg Z hpi2 pg2 hts2 hel (zp c10) (λenv=>zp c11)) hb l2
    refine jP (o:=evE (zB T n) T.b env (.w m U fr elt t it ifs t2 Y ifs2) s) W λσ H Q hq=>uf (env:=env) (s:=s) (chk:=true) (m:=m) (body:=rW (zB T n) T.b elt ifs t2 Y ifs2) tg' sY (λacc ρ0 H0 hn=>nN hn tg2') ?_ λz=>by cases z
    simp only[true_implies];exact hq
   |z _=>cases hns
   |_=>exact absurd (lZ R rfl) hn
def Xa:JS T n (.n is e):=by intro sc N X st o h env s;replace h:=vM h;obtain⟨x,v,pos,rfl,h⟩:=h;replace h:=yS h;obtain⟨R,rfl,h⟩:=h;replace h:=uM h;obtain⟨ts,k,p,rfl,h⟩:=h;simp only[cf]at h;obtain⟨⟨h1,P⟩,O⟩:=h;obtain⟨a,b,c⟩:=wO o.a.a h1;exact gR (t:=.b is) sX (L2.j4 (jE T n e _ _ _ _ o.a P env s) (L2.pM o.a.d a b c) uo (iM O)) λσ H Q q=>q
def su(h:xO sc N is (.Name x p::ts)=true):∃i O,is=i::O/\N[i]?=some x/\xO sc N O ts=true:=by
 cases is with
 |nil=>exact absurd h Ac
 |cons i O=>
  obtain⟨a,b⟩:=zN h;exact⟨i,O,rfl,of_decide_eq_true (zN a).1,b⟩
def m8(h:xO sc N is []=true):is=[]:=by
 cases is with
 |nil=>rfl
 |cons i x=>exact absurd h Ac
def Up:JS T n (.q is es):=by
 intro sc N X st o h env s;replace h:=vM h;obtain⟨ts1,v,pos,rfl,h⟩:=h;replace h:=yS h;obtain⟨t1,rfl,h⟩:=h;replace h:=uM h;obtain⟨ts,k,p,rfl,h⟩:=h;replace h:=uM h;obtain⟨vs,k2,p2,rfl,h⟩:=h;simp only[cf,decide_eq_true_eq,Aw]at h;obtain⟨⟨⟨⟨⟨⟨h1,h2⟩,h3⟩,h4⟩,R⟩,h6⟩,O⟩:=h;have P:=(jL T n es _ _ _ _ o.a h2).1 h3 env s;have hN:X.N.Nodup:=by rw[o.a.a.a];exact o.a.a.d
 have kind:∀x,X.a.kindOf x=sc.names.lookup x:=λx=>by show X.a.scope.names.lookup x=_;rw[o.b]
 rcases O with O|O
 . replace O:=yA O
   obtain⟨t,r,rfl,O⟩:=O;replace O:=zq O;obtain⟨x,px,rfl,O⟩:=O;replace O:=yA O;obtain⟨t,r2,rfl,O⟩:=O;replace O:=zq O;obtain⟨y,py,rfl,O⟩:=O;replace h1:=su h1;obtain⟨i,js,rfl,i1,h1⟩:=h1;replace h1:=su h1;obtain⟨j,js,rfl,j1,h1⟩:=h1;by_cases hr:r2.isEmpty=true
   . rw[if_pos hr]at O
     cases AN.mp hr;cases m8 h1;simp only[cf,decide_eq_true_eq,As]at O;obtain⟨⟨⟨⟨⟨q1,U⟩,W⟩,q4⟩,Z⟩,Y⟩:=O
     . match vs,h6 with
       |[a,b],_=>
        have hij:i≠j:=by rw[B6]at R;exact λz=>R.1 (by rw[z];exact AW.mpr rfl)
        exact Xi (L2.SG o.a.d hN (by rw[o.a.a.a];exact i1) (by rw[o.a.a.a];exact j1) hij (by rw[o.b];exact q1) (by rw[o.b];exact U) P
         (kK o.bk (by rw[kind];exact q1) (by rw[kind];exact U) W q4 h3 Z Y) uo) λσ H Q q=>q
   . rw[if_neg hr]at O
     replace O:=yS O;obtain⟨t,rfl,O⟩:=O;replace O:=zq O;obtain⟨z,pz,rfl,O⟩:=O;replace h1:=su h1;obtain⟨l,js,rfl,l1,h1⟩:=h1;cases m8 h1;simp only[cf,decide_eq_true_eq,As]at O;obtain⟨⟨⟨⟨⟨⟨⟨⟨⟨q1,U⟩,W⟩,q4⟩,Z⟩,Y⟩,q7⟩,q8⟩,q9⟩,q10⟩:=O
     . match vs,h6 with
       |[a,b,c],_=>
        simp only[B6,Ao,Bp,or_false,not_or]at R;exact Xj (L2.WO o.a.d hN (by rw[o.a.a.a];exact i1) (by rw[o.a.a.a];exact j1) (by rw[o.a.a.a];exact l1) R.1.1 R.1.2 R.2.1 (by rw[o.b];exact q1) (by rw[o.b];exact U) (by rw[o.b];exact W) P
         (oM o.bk (by rw[kind];exact q1) (by rw[kind];exact U) (by rw[kind];exact W) q4 Z Y q7 q8 h3 q9 q10) uo) λσ H Q q=>q
 . have hun:(∃x p,Ez x p∈ts/\X.a.kindOf x≠some .local)\/3<ts.length:=by
    unfold Vk at O;simp only[Aw,decide_eq_true_eq,Bo]at O;rcases O with⟨e,hm,he⟩|O
    . cases e with
      |Name x px=>
       simp only[decide_eq_true_eq]at he;exact .inl ⟨x,px,hm,by rw[kind];exact he⟩
      |_=>cases he
    . exact .inr O
   obtain⟨a,b,c⟩:=wO o.a.a h1;have S:=gR (t:=.b is) (env:=env) (s:=s) sX (L2.j4 (pos:=pos) (jN (k:=k2) (pos:=p2) P) (L2.pM (k:=k) (pos:=p) o.a.d a b c) uo (dZ hun)) λσ H Q q=>q;have e:((zY (zB T n) T.b env es s).bind λvs s1=>if vs.length=is.length then (.e:Fl->Sto->Out Fl) (.a ((is.zip vs).foldl (λe p=>e.set p.1 (some p.2)) env)) s1 else .d)=(((zY (zB T n) T.b env es s).bind λvs s1=>if vs.length<=zW then (.e:Val->Sto->Out Val) (.f vs) s1 else .d).bind λv s1=>match yZ (.b is) v env with|some env'=>(.e:Fl->Sto->Out Fl) (.a env') s1|dr=>.d):=by
    cases zY (zB T n) T.b env es s with
    |e ws s1=>
     simp only[zM];by_cases hl:ws.length=is.length
     . have hz:ws.length<=zW:=by rw[hl];exact Az h4 (by decide)
       simp only[if_pos hl,if_pos hz,zM,yZ]
     . rw[if_neg hl]
       by_cases hz:ws.length<=zW
       . simp only[if_neg hl,if_pos hz,zM,yZ]
       . simp only[if_neg hz,vX]
    |g _ _ _=>rfl
    |d=>rfl
   show L2.PS X _ (tSt X.K X.d env s ((zY (zB T n) T.b env es s).bind λvs s1=>if vs.length=is.length then .e (.a ((is.zip vs).foldl (λe p=>e.set p.1 (some p.2)) env)) s1 else .d))
   rw[e];exact S
def Um:JS T n (.u i op e):=by intro sc N X st o h env s;replace h:=Zu h;obtain⟨R,U,v,pos,rfl,h⟩:=h;replace h:=zq h;obtain⟨x,S,rfl,h⟩:=h;simp only[cf,decide_eq_true_eq,Aw,As,DB,decide_eq_false_iff_not]at h;obtain⟨⟨⟨⟨h1,Q⟩,rfl⟩,P⟩,O⟩:=h;obtain⟨l1,l2⟩:=o.a.a.c x Q;exact Ux (f:=evE (zB T n) T.b env e) (by rintro (z|z|z|z);exact O.1.1.1 z;exact O.1.1.2 z;exact O.1.2 z;exact O.2 z) (by rw[o.a.a.a];exact o.a.a.d) (by rw[o.a.a.a];exact h1) l1 l2 λs=>jE T n e _ _ _ _ o.a P env s
def bz:JS T n (.l a i e):=by intro sc N X st o h env s;replace h:=vM h;obtain⟨x,v,pos,rfl,h⟩:=h;replace h:=yS h;obtain⟨O,rfl,h⟩:=h;replace h:=qk h;obtain⟨a1,b1,p1,rfl,h⟩:=h;simp only[cf]at h;exact aK h.2 (jE T n e _ _ _ _ o.a h.1.2 env s) (λs1=>jE T n a _ _ _ _ o.a h.1.1.1 env s1) λs1=>jE T n i _ _ _ _ o.a h.1.1.2 env s1
def Ri(O:JSs T n a)(x:JSs T n b):JS T n (.j c a b):=by intro sc N X st o h env s;replace h:=mZ h;obtain⟨R,Q,P,p1,rfl,h⟩:=h;simp only[cf]at h;exact Rp (jC T n c _ _ _ _ o.a h.1.1 env s) (pP λenv s=>O _ _ _ _ o h.1.2 env s) (pP λenv s=>x _ _ _ _ o h.2 env s) (λs1 D σ H q=>⟨env,s1,q⟩) λs1 D σ H q=>⟨env,s1,q⟩
def Uo(O:JSs T n b):JS T n (.k t it b):=by intro sc N X st o h env s;replace h:=Zv h;obtain⟨x,Q,b1,e1,p1,rfl,h⟩:=h;obtain⟨h0,P⟩:=zN h;cases AN.mp h0;clear h;have h:=P;simp only[cf]at h;obtain⟨g,pg,tg⟩:=QW o.a.a o.a.d h.1.1.1;exact Uy o.a.xe o.a.d h.2 (λenv s=>jI T n it _ _ _ _ _ o.a h.1.1.2 env s) pg tg (pP λenv s=>O _ _ _ _ o h.1.2 env s)
def b9(x:JSs T n b):JS T n (.m c b):=by intro sc N X st o h env s;replace h:=Zw h;obtain⟨P,b1,e1,p1,rfl,h⟩:=h;obtain⟨h0,O⟩:=zN h;cases AN.mp h0;clear h;have h:=O;simp only[cf]at h;exact aL o.a.xe (λenv s=>jC T n c _ _ _ _ o.a h.1 env s) (pP λenv s=>x _ _ _ _ o h.2 env s)
def bx:JS T n (.d e):=λsc N X st o h env s=>zQ (zH rfl)
def Xc:JSs T n .f:=by intro sc N X st o h env s;cases AN.mp h;exact Xk
def aA(P:JS T n c)(x:JSs T n cs):JSs T n (.e c cs):=by intro sc N X st o h env s;replace h:=yA h;obtain⟨Q,O,rfl,h⟩:=h;simp only[cf]at h;exact aM (f:=λe s=>zd (zB T n) T.b e cs s) (P _ _ _ _ o h.1 env s) (pP λenv s=>x _ _ _ _ o h.2 env s) λenv s D σ H q=>⟨env,s,q⟩
def ZO(o:Ok T n sc N X)(hop:op=.b\/op=.a)(h:Yo sc N i d op.op x=true)(Z:zY (zB T n) T.b env L s=.e vs s1)(hz:L.len<=1000)(hd:evE (zB T n) T.b env d s1=.e w s2) :
 L2.PE X x (λσ H Q=>tCm sc N X i L env s (λρ H=>yU X.K X.d (RD X.K X.d) ρ H (zT op (.h vs) w s2) Q) σ H) /\
 L2.PT X x (λσ H Q=>tCm sc N X i L env s (λρ H=>yU X.K X.d (λ_ _ a b=>a=b) ρ H ((zT op (.h vs) w s2).truth) Q) σ H):=by
 obtain⟨l,o1,r,p,rfl,a1⟩:=qH h;simp only[cf,decide_eq_true_eq]at a1;obtain⟨⟨⟨⟨⟨h1,rfl⟩,h2⟩,h3⟩,h4⟩,h5⟩:=a1;have Y:okC op=true:=by rcases hop with rfl|rfl;exact h4;exact h5
 have pd:=jE T n d _ _ _ _ o h2 env s1;rw[hd]at pd;constructor
 . refine zZ (L2.mR (vj (X:=X) o.c op Y) (ZQ o h1 Z hz) pd (xD h3)) ?_
   rintro σ H Q ⟨ρ,p,R,hr,er,np,hp,hl,S,wt⟩;exact⟨ρ,p,R,hr,er,np,hp,hl,S,λρ1 x H1 W P r1=>⟨ρ1,P,er.mono W,λρ2 y H2 U O r2=>⟨ρ2,s2,.h vs,w,O,r1.mono U,r2,wt.mono (W.trans P U) O⟩⟩⟩
 . refine uS (L2.qS (vj (X:=X) o.c op Y) (ZQ o h1 Z hz) pd (xD h3)) ?_
   rintro σ H Q ⟨ρ,p,R,hr,er,np,hp,hl,S,wt⟩;exact⟨ρ,p,R,hr,er,np,hp,hl,S,λρ1 x H1 W P r1=>⟨ρ1,P,er.mono W,λρ2 y H2 U O r2=>⟨ρ2,s2,.h vs,w,O,r1.mono U,r2,tZ (λ_ _ h=>qd h) (wt.mono (W.trans P U) O)⟩⟩⟩
def Qb(o:Ok T n sc N X)(h:V0 sc N i d oo t=true)(Z:zY (zB T n) T.b env L s=.e vs s1)(hz:L.len<=1000)
 (P:((evE (zB T n) T.b env d s1).bind λy s2=>((zT .a (.h vs) y s2).truth).bind λr Y=>if r then .e true Y else tJ (zB T n) T.b env oo Y)=.e r Y) :
 L2.PT X t (λσ H Q=>tCm sc N X i L env s (λρ H=>∀ρ' H',Ext ρ H ρ' H'->HR X.K X.d ρ' Y H'->Q r H') σ H):=by
 obtain⟨w,s2,hd,P⟩:=zX P;obtain⟨c,s4,hc,P⟩:=zX P;unfold V0 at h;split at h
 . have hn:oo=.a:=by cases oo with|a=>rfl|b _ _=>rename_i z;cases z
   subst hn;refine uS (ZO (op:=.a) o (.inr rfl) h Z hz hd).2 ?_;rintro σ H Q ⟨ρ,p,R,hr,er,np,hp,hl,S,W⟩;refine⟨ρ,p,R,hr,er,np,hp,hl,S,?_⟩;rw[hc];intro ρ1 x H1 U O r1;cases r1;cases c with
   |true=>cases P;exact W ρ1 H1 U O
   |false=>cases P;exact W ρ1 H1 U O
 . obtain⟨a,as,p,rfl,h⟩:=qG h
   obtain⟨h1,h2⟩:=zN h;have p1:=(ZO (op:=.a) o (.inr rfl) h1 Z hz hd).2;rw[hc]at p1;have p2:=(jCs T n oo _ _ _ _ o h2).2.1 p env s4;refine L2.PW.pt λwh pins sh σ H Q I h=>?_;obtain⟨ρ,p,R,hr,er,np,hp,hl,S,W⟩:=h;refine PyProof.Rows.isTrue_or (L2.thn (p1 pins sh σ H (λb H1=>if b=true then Q true H1 else tT X.K X.d env s4 (tJ (zB T n) T.b env oo s4) σ H1 Q) I ⟨ρ,p,R,hr,er,np,hp,hl,S,λρ1 x H1 U O r1=>?_⟩) λb s' ⟨H1,I1,q1⟩=>?_)
   . cases r1
     cases c with
     |true=>cases P;exact L2.rF (W ρ1 H1 U O)
     |false=>
      refine L2.tM ⟨ρ1,O,er.mono U,?_⟩;rw[show tJ (zB T n) T.b env oo s4=.e r Y from P];intro ρ2 x H2 x2 hr2 r2;cases r2;exact W ρ2 H2 (U.trans O x2) hr2
   . cases b with
     |true=>exact⟨H1,I1,q1⟩
     |false=>exact p2 wh pins s' σ H1 Q I1 q1
def fY(T:Tbl)(n:Nat)(e0:Env)(L:Exs)(k:Nat)(d:Ex)(P:Cns)(b cs:Sms)(O:Sto):Out Fl:=(zY (zB T n) T.b e0 L O).bind λvs s1=>if k=0 then .e (.b (.h vs)) s1 else
 if k=1 then (evE (zB T n) T.b e0 d s1).bind λy s2=>(zT .b (.h vs) y s2).bind λr x=>.e (.b r) x
 else ((evE (zB T n) T.b e0 d s1).bind λy s2=>((zT .a (.h vs) y s2).truth).bind λr x=>if r then .e true x else tJ (zB T n) T.b e0 P x).bind λr x=>
  (if r then zd (zB T n) T.b e0 b x else .e (.a e0) x).bind λfl N=>match fl with
 |.a e=>zd (zB T n) T.b e cs N
 |fl=>.e fl N
def oa{W:L2.Ends->Own->L2.Hp->Prop}(O:∀D ρ H,W D ρ H->False):L2.PSs X ss (λD σ H=>tCm sc N X i L e0 x (W D) σ H):=by rintro pins x σ H D I ⟨_,_,_,_,_,_,_,_,_,z⟩;exact(O _ _ _ z).elim
def UJ(jb:JSs T n b)(jcs:JSs T n cs)(o:OkF T n sc N X)(hz:L.len<=1000)(hss:(lc ss λfin rest=>cW sc N i k d oo (λx=>rA sc N b x) fin&&rA sc N cs rest)=true) :
 L2.PSs X ss (λD σ H=>tCm sc N X i L e0 s0 (λρ H=>uC X.K X.d ρ H (fY T n e0 L k d oo b cs s0) D) σ H):=by
 generalize P:fY T n e0 L k d oo b cs s0=O;unfold fY at P;cases hev:zY (zB T n) T.b e0 L s0 with
 |g _ _ _=>rw[hev]at P;subst P;exact oa λ_ _ _ z=>z
 |d=>rw[hev]at P;subst P;exact oa λ_ _ _ z=>z
 |e vs s1=>
  rw[hev,zM]at P;obtain⟨fin,rest,rfl,b1⟩:=yA hss;obtain⟨b2,b3⟩:=zN b1;unfold cW at b2;by_cases k0:k=0
  . rw[if_pos k0]at b2 P
    subst P;obtain⟨q,pq,rfl,b4⟩:=sV b2;obtain⟨y,rfl,b5⟩:=tR b4;refine wA (L2.zr (L2.wq (ZQ o.a b5 hev hz)) (u:=λ_ _ _=>False) λ_ _ _ _ _ _ z=>z.elim) λD σ H hq=>?_;obtain⟨ρ,p,S,hr,Z,np,hp,hl,U,w⟩:=hq;exact⟨ρ,p,S,hr,Z,np,hp,hl,U,λρ1 x H1 W Q r1=>w ρ1 H1 x W Q r1⟩
  . rw[if_neg k0]at b2 P
    by_cases k1:k=1
    . rw[if_pos k1]at b2 P
      obtain⟨q,pq,rfl,b4⟩:=sV b2;obtain⟨y,rfl,b5⟩:=tR b4;cases hd:evE (zB T n) T.b e0 d s1 with
      |g _ _ _=>rw[hd]at P;subst P;exact oa λ_ _ _ z=>z
      |d=>rw[hd]at P;subst P;exact oa λ_ _ _ z=>z
      |e w0 s2=>
       rw[hd,zM]at P;refine wA (L2.zr (L2.wq (ZO (op:=.b) o.a (.inl rfl) b5 hev hz hd).1) (u:=λ_ _ _=>False) λ_ _ _ _ _ _ z=>z.elim) λD σ H hq=>?_;obtain⟨ρ,p,S,hr,Z,np,hp,hl,U,w⟩:=hq;refine⟨ρ,p,S,hr,Z,np,hp,hl,U,?_⟩;cases hc:zT .b (.h vs) w0 s2 with
       |g _ _ _=>rw[hc]at P;subst P;exact w.elim
       |d=>rw[hc]at P;subst P;exact w.elim
       |e r Y=>
        rw[hc]at P;subst P;exact λρ1 x H1 W Q r1=>w ρ1 H1 x W Q r1
    . rw[if_neg k1]at b2 P
      obtain⟨t,xb,yb,pq,rfl,b4⟩:=mZ b2;obtain⟨b5,b6⟩:=zN b4;obtain⟨b7,b8⟩:=zN b5;cases AN.mp b7;generalize hT:((evE (zB T n) T.b e0 d s1).bind λy s2=>((zT .a (.h vs) y s2).truth).bind λr Y=>if r then .e true Y else tJ (zB T n) T.b e0 oo Y)=OT at P
      cases OT with
      |g _ _ _=>subst P;exact oa λ_ _ _ z=>z
      |d=>subst P;exact oa λ_ _ _ z=>z
      |e r Y=>
       rw[zM]at P;have pt:=Qb o.a b6 hev hz hT;refine wA (L2.zr (L2.nD pt (pP λenv s=>jb _ _ _ _ o b8 env s) L2.qR) (pP λenv s=>jcs _ _ _ _ o b3 env s)) λD σ H hq=>?_;obtain⟨ρ,p,S,hr,Z,np,hp,hl,U,w⟩:=hq;refine⟨ρ,p,S,hr,Z,np,hp,hl,U,λρ1 H1 W Q=>?_⟩;have R:=w.mono W Q;cases r with
       |false=>
        refine L2.tM ?_;rw[<-P]at R;exact⟨_,Y,ρ1,Q,Z.mono W,R⟩
       |true=>
        refine L2.rF ⟨_,Y,ρ1,Q,Z.mono W,?_⟩;rw[<-P]at R;rw[if_pos rfl]at R;cases hb:zd (zB T n) T.b e0 b Y with
        |g _ _ _=>rw[hb]at R;exact R
        |d=>rw[hb]at R;exact R
        |e fl s4=>
         rw[hb,zM]at R;cases fl with
         |a e'=>exact λρ2 H2 σ2 x2 hr2 er2=>⟨e',s4,ρ2,hr2,er2,R.mono x2 hr2⟩
         |c e'=>exact R
         |d e'=>exact R
         |b v'=>exact R
def eB(o:OkF T n sc N X)(hz:L.len<=1000)(h:RH sc N i L st kk=true)(Z:zY (zB T n) T.b e0 L s0=.e vs s1)(W:vR s=vR s0)
 (hk:∀S,kk S=true->L2.PSs X S (λD σ H=>tCm sc N X i L (env.set i dr) s (λρ H=>uC X.K X.d ρ H O D) σ H)):L2.PSs X st (tSt X.K X.d env s O):=by
 cases L with
 |c=>cases h
 |a e es=>
  obtain⟨t1,ts,rfl,a1⟩:=yA (show (lc st _)=true from h);obtain⟨a2,a3⟩:=zN a1;obtain⟨tg,v,pos,rfl,a4⟩:=vM a2;obtain⟨q,rfl,a5⟩:=yS a4;obtain⟨x,px,rfl,a6⟩:=zq a5;obtain⟨a7,a8⟩:=zN a6;obtain⟨ls,lp,rfl,a9⟩:=qj a8;obtain⟨l,rfl,Q⟩:=yS a9;simp only[cf,decide_eq_true_eq,Aw]at a7;obtain⟨f,fs,ys,lsc,p2,p3,p4,he,_,h4,h6,h7,h8,_⟩:=mB Q;obtain⟨v0,sx,R,_⟩:=zX Z;rw[he]at R;obtain⟨m,us,rfl,_,U,P,_⟩:=gu o.a.i h8 R;have U:=om W U;exact TR o.a U P Q a7.1 a7.2 (cA o.a U P hz (λS Y=>wA (hk S Y) λD σ H hq=>Ye hq) es ts a3)
def fo(R:JSs T n b)(O:JSs T n cs):JSs T n (.g i L .f k d oo b cs):=by
 intro sc N X st o h env s;obtain⟨hz,h⟩:=zN h;have hz:=of_decide_eq_true hz;rw[show zd (zB T n) T.b env (.g i L .f k d oo b cs) s=fY T n (env.set i dr) L k d oo b cs s from if_pos rfl];cases hev:zY (zB T n) T.b (env.set i dr) L s with
 |g _ _ _=>rw[show fY T n (env.set i dr) L k d oo b cs s=_ from congrArg (λx=>Out.bind x _) hev];exact λpins Q σ H D I ⟨_,_,_,z⟩=>z.elim
 |d=>rw[show fY T n (env.set i dr) L k d oo b cs s=_ from congrArg (λx=>Out.bind x _) hev];exact λpins Q σ H D I ⟨_,_,_,z⟩=>z.elim
 |e vs s1=>exact eB o hz h hev rfl λS P=>UJ R O o hz P
end
section
variable (T:Tbl)(n:Nat)
mutual
theorem jS:∀a:Sm,JS T n a
 |.h _=>Xb
 |.f _=>Uq
 |.s=>λsc N X e o h=>by cases h
 |.g _ _=>Ul
 |.n _ _=>Xa
 |.q _ _=>Up
 |.u _ _ _=>Um
 |.l _ _ _=>bz
 |.v _ _ _=>λsc N X e o h=>by cases h
 |.j _ a b=>Ri (jSs a) (jSs b)
 |.k _ _ b=>Uo (jSs b)
 |.m _ b=>b9 (jSs b)
 |.r=>λsc N X e o h=>by cases h
 |.w=>λsc N X e o h=>by cases h
 |.p=>λsc N X e o h=>by cases h
 |.d _=>bx
theorem jSs:∀a:Sms,JSs T n a
 |.f=>Xc
 |.e c cs=>aA (jS c) (jSs cs)
 |.g _ _ .f _ _ _ b cs=>fo (jSs b) (jSs cs)
 |.g _ _ (.e _ _) _ _ _ _ _=>λsc N X st o h=>by cases h
 |.g _ _ (.g ..) _ _ _ _ _=>λsc N X st o h=>by cases h
end
end
structure OkX(T:Tbl)(n:Nat)(sc:Scope)(N:List Str)(X:L2.Cx)(E:L2.XK):Prop where
 a:OkF T n sc N X.nox
 ps:L2.Passes (L2.CXE X.f X.w) X E
 xr:∀C H,E (.ref C) none H->L2.XR X C H
 xg:∀C d H,E (.ref C) (some d) H->L2.XRG X C d H
 lv:Lv T X.f X.w X.K X.d X.h n
 gr:(T.e.lookup ("TooGreat":Str)).isSome=true->tq X.K X.d X.h
 b:∀c,(T.e.lookup c).isSome=true->c≠"TooGreat"->∃C D,X.d c=some (.ref C)/\L2.ClsAt X.h C (.ref D::L2.veM)/\L2.ClsAt X.h D L2.veM
section
variable (K:KF)(mg:Str->Option Value)(E:L2.XK)
def tX(env:Env)(s:Sto)(x:t7):L2.TS:=λ_ σ H=>∃ρ,HR K mg ρ s H/\ER K mg ρ H env σ/\pv K mg ρ H x E
def tXe(env:Env)(s:Sto)(x:t7):L2.TE:=λσ H _=>∃ρ,HR K mg ρ s H/\ER K mg ρ H env σ/\pv K mg ρ H x E
end
def pv.mono(h:pv K mg ρ H x E)(e:Ext ρ H ρ' H')(P:HR K mg ρ' s H'):pv K mg ρ' H' x E:=by
 cases x with
 |none=>exact h
 |some r=>
  obtain⟨c,as,s'⟩:=r;exact λρ2 H2 O N C hC=>h ρ2 H2 (e.trans P O) N C hC
noncomputable abbrev wx(T:Tbl):Str->Bool:=λc=>(T.e.lookup c).isSome
section
variable {T:Tbl}{n:Nat}{sc:Scope}{N:List Str}{X:L2.Cx}{E:L2.XK}
def zh:¬tXe X.K X.d E env s dr σ H Q:=λ⟨_,_,_,z⟩=>z
def yk:¬tX X.K X.d E env s dr D σ H:=λ⟨_,_,_,z⟩=>z
def qZ(h:T.d f v=dr)vs s:zO T n f v vs s=dr:=by
 cases n with
 |zero=>rfl
 |succ n=>simp only[zO,h]
def cq(o:OkX T n sc N X E)(h:(L2.uJ sc N N' csc fr&&decide N'.Nodup&&ckT csc N' t tg&&ckI sc N it iter tg&&oC csc N' ifs fs&&ck csc N' elt x&&plain iter)=true) :
 ∃(S:L2.zm X N' csc fr) (oc:∀C O H0 ex,Ok T n csc N' (X.comp N' csc C O H0 ex)) (g:L2.TG),(∀C O H0 ex,L2.PG (X.comp N' csc C O H0 ex) tg g)/\ckI sc N it iter tg=true/\oC csc N' ifs fs=true/\ck csc N' elt x=true/\plain iter=true:=by
 simp only[cf,decide_eq_true_eq]at h;obtain⟨⟨⟨⟨⟨⟨h1,Y⟩,P⟩,W⟩,U⟩,R⟩,Q⟩:=h;have S:=oh o.a.a.a h1;have oc:=o.a.a.comp S Y h1;refine⟨⟨S.b,S.e,S.a,S.d,S.g,S.f,S.h⟩,oc,?_⟩;cases t with
 |a i=>
  cases tg with
  |Name y p=>
   simp only[ckT,cf,Aw,decide_eq_true_eq]at P;exact⟨_,λC O H0 ex=>l6 (oc C O H0 ex).a P.1 P.2,W,U,R,Q⟩
  |_=>cases P
 |b is=>
  cases tg with
  |Tuple es k p=>
   simp only[ckT,cf,decide_eq_true_eq]at P;refine⟨L2.UL X.K is.length (qv is),λC O H0 ex=>?_,W,U,R,Q⟩;obtain⟨a,b,c⟩:=wO (oc C O H0 ex).a P.1;exact L2.pM (X:=X.comp N' csc C O H0 ex) o.a.a.d a b c
  |_=>cases P
def WJ(h:L2.PE X iter (tXe X.K X.d E env s r)):L2.PE X (.SetComp x (⟨tg,iter,fs,0⟩::gs) csc p) (tXe X.K X.d E env s r):=by intro pins N σ H Q I O;rw[show eval (.SetComp x (⟨tg,iter,fs,0⟩::gs) csc p) X.a=Em (.SetComp x (⟨tg,iter,fs,0⟩::gs) csc p) csc X.a (firstIterPos (⟨tg,iter,fs,0⟩::gs) p) (newSet (.type "set")) (firstAsync (⟨tg,iter,fs,0⟩::gs)) (firstIter (⟨tg,iter,fs,0⟩::gs) X.a) from rfl];unfold Em;refine dS (AF (h pins N σ H (λ_ _=>False) I O) (λu s1 ⟨_,_,_,_,z⟩=>z.elim) λe s' z=>z)
mutual
theorem jxE(o:OkX T n sc N X E):∀(a:Ex) (e:Expr),ck sc N a e=true->∀env s,L2.PE X e (tXe X.K X.d E env s (xE (zB T n) (zO T n) T.b env a s))
 |.h f v es,e,h=>λenv s=>by
  replace h:(if v<100 then ckA sc f (λxs=>ckL sc N es xs) e else if v<200 then ckB sc N f v es (λl W=>ckL l N es W) e else ckV sc N v es (λl W=>ckL l N es W) e)=true:=h
  split at h
  . replace h:=yy h
    obtain⟨x,p,xs,pos,rfl,h⟩:=h;simp only[cf,decide_eq_true_eq,xt,As]at h;obtain⟨⟨⟨⟨rfl,U⟩,Z⟩,P⟩,Y⟩:=h;simp only[XQ];cases hv:zY (zB T n) T.b env es s with
    |g _ _ _=>exact yX λ_ _ _=>zh
    |d=>exact yX λ_ _ _=>zh
    |e vs s1=>
     simp only[];cases hf:T.d x v with
     |none=>rw[qZ hf];exact yX λ_ _ _=>zh
     |some F=>
      obtain⟨fa,fd,e1,e2,e3,e4,e5⟩:=o.lv.a x v F hf;have hp:=(jL T n es _ _ _ _ o.a.a P).1 Y env s;rw[hv]at hp;have hp:=mM hp;cases xs with
      |nil=>
       cases es with
       |a _ _=>cases P
       |c=>
        cases hv;exact zZ (L2.lx e5 o.a.a.c (o.a.a.a.b x U) e1 e2 e3 .nil o.ps Z) λσ H Q ⟨ρ,hr,er,w⟩=>⟨ρ,_,[],hr,.d,.inr w⟩
      |cons y W=>
       rw[zf,cf]at Y;refine zZ (L2.mQ e5 o.a.a.c (o.a.a.a.b x U) e1 e2 e3 .nil o.ps hp Z (L2.zj (zc Y.1)) (yt Y.2)) λσ H Q ⟨ρ,hr,er,w⟩=>⟨ρ,hr,er,λρ1 zs H1 x1 hr1 r1=>?_⟩;show spX T X.K X.d n x v (zs++[]) H1 Q E;rw[A4];exact⟨ρ1,s1,vs,hr1,r1,.inr (w.mono x1 hr1)⟩
  . rename_i hver
    have hx:xE (zB T n) (zO T n) T.b env (.h f v es) s=dr:=by
     simp only[XQ];cases zY (zB T n) T.b env es s with
     |e vs s1=>exact qZ (o.a.a.i f v ⋯) _ _
     |_=>rfl
    rw[hx];exact yX λ_ _ _=>zh
 |.q op a b,e,h=>λenv s=>by
  replace h:=qH h;obtain⟨l1,o1,r1,p1,rfl,h⟩:=h;simp only[cf,decide_eq_true_eq]at h;obtain⟨⟨⟨⟨k1,rfl⟩,h1⟩,U⟩,Z⟩:=h;simp only[XQ];exact zZ (L2.mR (vj (X:=X) o.a.a.c op k1) (jxE o a _ h1 env s) (L2.PE.nox (jE T n b _ _ _ _ o.a.a U env s)) (xD Z)) λσ H Q z=>z
 |.g _,_,_=>λ_ _=>yX λ_ _ _=>zh
 |.e _,_,_=>λ_ _=>yX λ_ _ _=>zh
 |.E _,_,_=>λ_ _=>yX λ_ _ _=>zh
 |.L _ _,_,_=>λ_ _=>yX λ_ _ _=>zh
 |.j m op a b,e,h=>λenv s=>by
  replace h:=lH h;obtain⟨l1,o1,r1,p1,rfl,h⟩:=h;simp only[cf,decide_eq_true_eq]at h;obtain⟨⟨⟨k1,rfl⟩,h1⟩,U⟩:=h;simp only[XQ];exact zZ (L2.l5 (aw (X:=X) m op k1) (jxE o a _ h1 env s) (L2.PE.nox (jE T n b _ _ _ _ o.a.a U env s))) λσ H Q z=>z
 |.D _,_,_=>λ_ _=>yX λ_ _ _=>zh
 |.G _,_,_=>λ_ _=>yX λ_ _ _=>zh
 |.s _ _ _ _ _,_,_=>λ_ _=>yX λ_ _ _=>zh
 |.y _ _,_,_=>λ_ _=>yX λ_ _ _=>zh
 |.I _ _,_,_=>λ_ _=>yX λ_ _ _=>zh
 |.H _ _ _,_,_=>λ_ _=>yX λ_ _ _=>zh
 |.k _,_,_=>λ_ _=>yX λ_ _ _=>zh
 |.u _ _,_,_=>λ_ _=>yX λ_ _ _=>zh
 |.B,_,_=>λ_ _=>yX λ_ _ _=>zh
 |.l f m es,e,h=>λenv s=>by
  replace h:=yy h;obtain⟨x,p,xs,pos,rfl,h⟩:=h;replace h:=yA h;obtain⟨y,W,rfl,h⟩:=h;simp only[cf,decide_eq_true_eq,xt]at h;obtain⟨⟨⟨⟨k1,rfl⟩,U⟩,Z⟩,P⟩:=h;simp only[XQ];have O:=jxL o es (y::W) Z P env s;rw[zf,cf]at P;have bo:=f.boot;have hg:=o.a.a.a.b _ U;have hm:=o.a.a.g _ (cK f);have st:=L2.zj (es:=W) (env:=X.a) (zc P.1);have hn:=yt (pos:=pos) (env:=X.a) P.2;cases f with
  |h=>exact zZ (L2.xK (r:=λ_ _ _=>False) (λ_ _ _ _ _ _ _ _ _ z=>Av z) hg hm bo O (by decide) (by decide) st hn) λσ H Q z=>z
  |i=>exact zZ (L2.xK (r:=λ_ _ _=>False) (λ_ _ _ _ _ _ _ _ _ z=>Av z) hg hm bo O (by decide) (by decide) st hn) λσ H Q z=>z
  |o=>exact zZ (L2.xK (r:=λ_ _ _=>False) (λ_ _ _ _ _ _ _ _ _ z=>Av z) hg hm bo O (by decide) (by decide) st hn) λσ H Q z=>z
  |r=>exact zZ (L2.xK (r:=λ_ _ _=>False) (λ_ _ _ _ _ _ _ _ _ z=>Av z) hg hm bo O (by decide) (by decide) st hn) λσ H Q z=>z
  |_=>exact zZ (L2.sO (r:=λ_ _ _=>False) (λ_ _ _ _ _ _ _ _ _ z=>Av z) hg hm bo O (by decide) (by decide) st hn) λσ H Q z=>z
 |.F _ _,_,_=>λ_ _=>yX λ_ _ _=>zh
 |.M _ _ _ _,_,_=>λ_ _=>yX λ_ _ _=>zh
 |.A _ _,_,_=>λ_ _=>yX λ_ _ _=>zh
 |.J _ _ _ _ _,_,_=>λ_ _=>yX λ_ _ _=>zh
 |.r m N' fr elt t it ifs,e,h=>λenv s=>by
  replace h:=sD h;obtain⟨x,tg,iter,fs,csc,cpos,rfl,h⟩:=h;obtain⟨S,oc,g,pg,P,Y,h6,h7⟩:=cq o h;simp only[XQ];have hel:∀C R H0 ex,L2.PE (X.comp N' csc C R H0 ex) x (uE X.K X.d (zB T n) T.b elt):=λC R H0 ex=>dA (X:=X.comp N' csc C R H0 ex) λenv s=>jE T n elt _ _ _ _ (oc C R H0 ex) h6 env s;have hts:∀C R H0 ex,L2.PTs (X.comp N' csc C R H0 ex) fs (uTs X.K X.d (zB T n) T.b ifs):=λC R H0 ex=>(jCs T n ifs _ _ _ _ (oc C R H0 ex) Y).2.2;exact zZ (L2.qQ o.a.a.d S (jxI o it tg iter P env s) pg hts hel (zp h7)) λσ H Q z=>z
 |.w _ _ _ _ _ _ _ _ _ _,_,_=>λ_ _=>yX λ_ _ _=>zh
 |.p _ _ _ _,_,_=>λ_ _=>yX λ_ _ _=>zh
 |.C _,_,_=>λ_ _=>yX λ_ _ _=>zh
 |.K _ _,_,_=>λ_ _=>yX λ_ _ _=>zh
 |.z a,e,h=>λenv s=>by obtain⟨x,tg,i,fs,gs,csc,p,rfl,h⟩:=bK h;simp only[XQ];exact WJ (jxE o a i h env s)
theorem jxL(o:OkX T n sc N X E):∀(as:Exs) (es:List Expr),ckL sc N as es=true->zf es=true->∀env s,L2.PA X es (λσ H _=>tXe X.K X.d E env s (xL (zB T n) (zO T n) T.b env as s) σ H λ_ _=>False)
 |.c,_,_=>λ_ _ _=>λ_ _ _ _ _ _ _ z=>(zh z).elim
 |.a a as,es,h=>λhp env s=>by
  replace h:=yA h;obtain⟨e,es,rfl,h⟩:=h;obtain⟨h1,O⟩:=zN h;cases as with
  |a _ _=>exact λ_ _ _ _ _ _ _ z=>(zh z).elim
  |c=>
   cases AN.mp O;simp only[XQ];exact λpos pins x σ H Q I z=>L2.yO (jxE o a e h1 env s) L2.yh (L2.zj (zc (by rw[zf,cf]at hp;exact hp.1))) pos pins x σ H Q I z
theorem jxI(o:OkX T n sc N X E):∀(it:Itb) (tg e:Expr),ckI sc N it e tg=true->∀env s,L2.PI X tg e (λσ H _=>tXe X.K X.d E env s (xI (zB T n) (zO T n) T.b env it s) σ H λ_ _=>False)
 |.f a,tg,e,h=>λenv s pins x σ H R I z=>by
  simp only[XQ]at z;exact AF (jxE o a e h env s pins x σ H (λ_ _=>False) I z) (λv s1 ⟨_,_,_,_,q⟩=>q.elim) λ_ _ q=>q
 |.d _,_,_,_=>λ_ _ _ _ _ _ _ _ z=>(zh z).elim
 |.g _ _,_,_,_=>λ_ _ _ _ _ _ _ _ z=>(zh z).elim
 |.i _,_,_,_=>λ_ _ _ _ _ _ _ _ z=>(zh z).elim
 |.j _ _,_,_,_=>λ_ _ _ _ _ _ _ _ z=>(zh z).elim
 |.h _ _ _,_,_,_=>λ_ _ _ _ _ _ _ _ z=>(zh z).elim
end
theorem jxT(o:OkX T n sc N X E):∀c e,ckC sc N c e=true->∀env s,L2.PT X e (λσ H _=>tXe X.K X.d E env s (xT (zB T n) (zO T n) T.b env c s) σ H λ_ _=>False)
 |.a a,e,h=>λenv s=>by
  obtain⟨h1,O⟩:=zN h;cases a with
  |h f v es=>
   simp only[XQ];rcases (Aw _ _).mp O with O|O
   . exact uS (L2.kC (jxE o (.h f v es) e h1 env s) (nB O)) λσ H Q z=>z
   . exfalso
     obtain⟨l,os,P,p,rfl⟩:=cj (of_decide_eq_true O);cases cY h1
  |_=>exact gc λ_ _ _=>zh
 |.b c,e,h=>λenv s=>by
  replace h:=qI h;obtain⟨x,p,rfl,h⟩:=h;simp only[XQ];exact uS (L2.j6 (jxT o c _ h env s)) λσ H Q z=>z
 |.d _ _,_,_=>λ_ _=>gc λ_ _ _=>zh
 |.f _ _,_,_=>λ_ _=>gc λ_ _ _=>zh
def mE(h:rq vs=true):(∃x,vs=[.j x])\/∃i j:Int,vs=[.c i,.c j]/\i.natAbs<2 ^ 64/\j.natAbs<2 ^ 64:=by
 unfold rq at h;split at h
 . exact .inl ⟨_,rfl⟩
 . rw[cf,decide_eq_true_eq,decide_eq_true_eq]at h
   exact .inr ⟨_,_,rfl,h⟩
 . cases h
def aP(o:OkX T n sc N X E)(h:ckS sc N (.d e) st=true)env s:L2.PS X st (tX X.K X.d E env s (xS (wx T) (zB T n) (zO T n) T.b env (.d e) s)):=by
 cases e with
 |h c v es=>
  replace h:V1 sc N c v es (ckL sc N es) st=true:=h;unfold V1 at h;by_cases hv1:v=1
  . rw[if_pos hv1]at h
    replace h:=gk h;obtain⟨q,b,pos,rfl,h⟩:=h;obtain⟨h0,hh⟩:=zN h;cases BW.mp h0;replace h:=tR hh;obtain⟨q,rfl,h⟩:=h;replace h:=yy h;obtain⟨x,np,xs,cpos,rfl,h⟩:=h;simp only[cf,decide_eq_true_eq,xt,As]at h;obtain⟨⟨⟨rfl,h2⟩,h3⟩,⟨⟨P,W⟩,h6⟩,rfl⟩:=h;simp only[XW];cases Q:zY (zB T n) T.b env es s with
    |g _ _ _=>exact xM λ_ _ _=>yk
    |d=>exact xM λ_ _ _=>yk
    |e vs s1=>
     simp only[];by_cases hm:(rq vs&&wx T "TooGreat")=true
     case neg=>rw[if_neg hm];exact xM λ_ _ _=>yk
     rw[if_pos hm];simp only[wx,cf]at hm;obtain⟨hm1,hm2⟩:=hm;obtain⟨C,D,f,fd,Kc,m1,m2,m3,m4,m5,_,_⟩:=o.gr hm2;have hp:=(jL T n es _ _ _ _ o.a.a P).1 W env s;rw[Q]at hp;obtain⟨S,Y,rfl⟩:∃S Y,xs=[S,Y]:=by
      match xs,h6 with
      |[S,Y],_=>exact⟨S,Y,rfl⟩
     rw[zf,cf]at W;have hbd:L2.Binds X.K fd L2.inN []:=by obtain⟨_,_,_,_,_,z,_⟩:=m3.ex;exact z
     refine yF (L2.dE o.a.a.c (o.a.a.a.b _ h2) m1 m2 m3 m4 m5 hbd (mM hp) h3 (L2.zj (zc W.1)) (yt W.2)) λD' σ H ⟨ρ,hr,er,w⟩=>⟨ρ,hr,er,λρ1 ys H1 S O r1=>?_⟩;rcases mE hm1 with⟨x,rfl⟩|⟨i,j,rfl,hi,hj⟩
     . exfalso
       cases es with
       |c=>cases P
       |a e1 es=>
        cases es with
        |c=>replace P:=(zN P).2;cases P
        |a e2 es=>
         obtain⟨v1,s2,q1,Q⟩:=zX Q;obtain⟨vs',s3,R,Q⟩:=zX Q;obtain⟨v2,s4,q3,R⟩:=zX R;obtain⟨vs2,s5,q4,R⟩:=zX R;cases R;cases Q
     . cases r1 with
       |a ra rb=>
        cases rb with
        |a rb rc=>
         cases rc;cases ra;cases rb;refine⟨i,j,rfl,hi,hj,λd hd=>o.xg C d _ (w ρ1 _ (S.trans O (Ext.new O hd _)) (O.more hd _) C m1 _ (.yes L2.zJ (O.new hd)))⟩
  rw[if_neg hv1]at h;replace h:=gk h;obtain⟨q,b,pos,rfl,h⟩:=h;obtain⟨h0,hh⟩:=zN h;cases BW.mp h0;replace h:=tR hh;obtain⟨q,rfl,h⟩:=h;replace h:=yy h;obtain⟨x,np,xs,cpos,rfl,h⟩:=h;replace h:=yS h;obtain⟨a,rfl,h⟩:=h;simp only[cf,decide_eq_true_eq,xt,As,Aw]at h;obtain⟨⟨⟨rfl,h2⟩,h3⟩,P,U⟩:=h;simp only[XW];cases Q:zY (zB T n) T.b env es s with
  |g _ _ _=>exact xM λ_ _ _=>yk
  |d=>exact xM λ_ _ _=>yk
  |e vs s1=>
   simp only[];by_cases hm:(rq vs&&wx T x)=true
   case neg=>rw[if_neg hm];exact xM λ_ _ _=>yk
   rw[if_pos hm];simp only[wx,cf]at hm;obtain⟨C,D,m1,m2,m3⟩:=o.b x hm.2 U;rcases P with⟨P,W⟩|P
   . have hp:=(jL T n es _ _ _ _ o.a.a P).1 (by rw[zf,zf,Fp];exact W) env s
     rw[Q]at hp;refine yF (L2.kB o.a.a.c.a (o.a.a.a.b x h2) m1 m2 m3 (mM hp) h3 (L2.zj (zc W)) rfl) λD' σ H ⟨ρ,hr,er,w⟩=>⟨ρ,hr,er,λρ1 xs H1 S O r1=>⟨?_,o.xr C H1 (w ρ1 H1 S O C m1 _ (.no U))⟩⟩;rw[<-r1.length,AK];rcases mE hm.1 with⟨x,rfl⟩|⟨i,j,rfl,_⟩
     . simp
     . simp
   . replace P:=Yz P
     obtain⟨u,v',c1,c2,c3,k1,k2,k3,p1,p2,p3,p4,p5,Z,rfl,z1,z2,z3,P⟩:=P;obtain⟨e1,e2,rfl,h41,h42⟩:∃e1 e2,es=.a e1 (.a e2 .c)/\ck sc N e1 u=true/\ck sc N e2 v'=true:=by
      cases es with
      |c=>cases P
      |a e1 es=>
       obtain⟨q1,R⟩:=zN P;cases es with
       |c=>cases R
       |a e2 es=>
        obtain⟨q3,q4⟩:=zN R;cases es with
        |c=>exact⟨e1,e2,rfl,q1,q3⟩
        |a _ _=>cases q4
     obtain⟨v1,s2,q1,Q⟩:=zX Q;obtain⟨vs',s3,R,Q⟩:=zX Q;obtain⟨v2,s4,q3,R⟩:=zX R;cases R;cases Q;have pe:=L2.QP (c1:=c1) (c2:=c2) (c3:=c3) (k1:=k1) (k2:=k2) (k3:=k3) (p1:=p1) (p2:=p2) (p3:=p3) (p4:=p4) (p5:=p5) (pos:=Z) (L2.PE.nox (jE T n e1 _ _ _ _ o.a.a h41 env s)) (L2.PE.nox (jE T n e2 _ _ _ _ o.a.a h42 env s2)) z1 z2 z3;rcases mE hm.1 with⟨x,z⟩|⟨i,j,z,hi,hj⟩
     . cases z
     . cases z
       rw[q1,q3]at pe;refine yF (L2.kB o.a.a.c.a (o.a.a.a.b x h2) m1 m2 m3 (L2.yO pe L2.yh) h3 rfl rfl) λD' σ H ⟨ρ,hr,er,w⟩=>⟨ρ,hr,er,λρ1 y1 H1 S O r1=>?_⟩;cases r1;refine⟨i,rfl,hi,ρ1,O,er.mono S,λρ2 y2 H2 Y hr2 r2=>?_⟩;cases r2;exact⟨j,rfl,hj,λz=>⟨by rw[AK];simp,o.xr C H2 (w ρ2 H2 (S.trans O Y) hr2 C m1 _ (.no U))⟩⟩
 |_=>exact xM λ_ _ _=>yk
def U3(o:OkX T n sc N X E)(h:ckS sc N (.g i e) st=true)env s:L2.PS X st (tX X.K X.d E env s (xE (zB T n) (zO T n) T.b env e s)):=by
 replace h:=vM h;obtain⟨ts1,v,pos,rfl,h⟩:=h;replace h:=yS h;obtain⟨t1,rfl,h⟩:=h;replace h:=zq h;obtain⟨x,px,rfl,h⟩:=h;simp only[cf,decide_eq_true_eq,Aw]at h;obtain⟨⟨h1,h2⟩,O,U⟩:=h;obtain⟨l1,l2⟩:=o.a.a.a.c x h2;have W:X.N.Nodup:=by have:=o.a.a.a.a;rw[show X.N=N from this];exact o.a.a.a.d
 have hi:X.N[i]?=some x:=by have:=o.a.a.a.a;rw[show X.N=N from this];exact h1
 by_cases hn:ui v=true
 . exact yF (L2.wu W hi l1 (jxE o e _ O env s) (uW hn) l2) λD σ H z=>z
 . cases e with
   |z _=>cases U
   |h _ _ _=>exact absurd (lZ O rfl) hn
   |q _ _ _=>exact absurd (lZ O rfl) hn
   |j _ _ _ _=>exact absurd (lZ O rfl) hn
   |l _ _ _=>exact absurd (lZ O rfl) hn
   |r m Y fr elt t it ifs=>
    replace O:=sD O;obtain⟨Z,tg,iter,fs,csc,cpos,rfl,O⟩:=O;obtain⟨S,oc,g,pg,c4,c5,c6,c7⟩:=cq o O;have Q:∀C P H0 ex,L2.PTs (X.comp Y csc C P H0 ex) fs (uTs X.K X.d (zB T n) T.b ifs):=λC P H0 ex=>(jCs T n ifs _ _ _ _ (oc C P H0 ex) c5).2.2;have R:∀C P H0 ex,L2.PE (X.comp Y csc C P H0 ex) Z (uE X.K X.d (zB T n) T.b elt):=λC P H0 ex=>dA (X:=X.comp Y csc C P H0 ex) λenv s=>jE T n elt _ _ _ _ (oc C P H0 ex) c6 env s;obtain⟨b,hb⟩:=tW (elt:=Z) (gens:=[⟨tg,iter,fs,0⟩]) (csc:=csc) (cpos:=cpos) (y:=x) (py:=px) (l:=pos.line) (env:=X.a);simp only[XQ];cases b with
    |true=>exact yF (L2.gb o.a.a.d S (jxI o it tg iter c4 env s) pg Q R W hi l1 hb l2 (zp c7)) λD σ H z=>z
    |false=>exact yF (L2.wu W hi l1 (L2.qQ o.a.a.d S (jxI o it tg iter c4 env s) pg Q R (zp c7)) hb l2) λD σ H z=>z
   |_=>exact xM λ_ _ _=>yk
def uX(T:Tbl)(n:Nat)(X:L2.Cx)(E:L2.XK)(b:Sms):L2.TS:=λD σ H=>∃env s,tX X.K X.d E env s (xSs (wx T) (zB T n) (zO T n) T.b env b s) D σ H
mutual
theorem jxS(o:OkX T n sc N X E):∀(a:Sm) (st:Stmt),ckS sc N a st=true->∀env s,L2.PS X st (tX X.K X.d E env s (xS (wx T) (zB T n) (zO T n) T.b env a s))
 |.h e,st,h=>λenv s=>by
  replace h:=pT h;obtain⟨O,p1,rfl,h⟩:=h;simp only[cf]at h;simp only[XW];exact yF (L2.sQ (jxE o e _ h.1 env s) (uW h.2)) λD σ H z=>z
 |.f e,st,h=>λenv s=>by
  replace h:=sV h;obtain⟨q1,p1,rfl,h⟩:=h;replace h:=tR h;obtain⟨O,rfl,h⟩:=h;simp only[XW];exact yF (L2.wq (jxE o e _ h env s)) λD σ H z=>z
 |.g i e,st,h=>λenv s=>by simp only[XW];exact U3 o h env s
 |.d e,st,h=>λenv s=>aP o h env s
 |.j c a b,st,h=>λenv s=>by
  replace h:=mZ h;obtain⟨t1,O,Z,p1,rfl,h⟩:=h;simp only[cf]at h;have R:=L2.PT.nox (jC T n c _ _ _ _ o.a.a h.1.1 env s);have Q:∀{S:List Stmt},L2.PSs X S (λ_ _ _=>False):=λpins P σ H D I q=>q.elim;simp only[XW];cases hc:evT (zB T n) T.b env c s with
  |g _ _ _=>exact yF (L2.nD (jxT o c _ h.1.1 env s) Q Q) λD σ H z=>z
  |d=>exact yF (L2.nD (jxT o c _ h.1.1 env s) Q Q) λD σ H z=>z
  |e t s1=>
   rw[hc]at R;have W:L2.PSs X _ (uX T n X E a):=λpins P σ H D I ⟨env',s',q⟩=>Xl o a _ h.1.2 env' s' pins P σ H D I q;have U:L2.PSs X _ (uX T n X E b):=λpins P σ H D I ⟨env',s',q⟩=>Xl o b _ h.2 env' s' pins P σ H D I q;refine yF (L2.nD R W U) λD σ H ⟨ρ,hr,er,w⟩=>⟨ρ,hr,er,λρ1 t' H1 O x Y=>?_⟩;cases Y;simp only[]at w;cases t with
   |true=>exact L2.rF ⟨env,s1,ρ1,x,er.mono O,pv.mono w O x⟩
   |false=>exact L2.tM ⟨env,s1,ρ1,x,er.mono O,pv.mono w O x⟩
 |.s,_,_=>λ_ _=>xM λ_ _ _=>yk
 |.n _ _,_,_=>λ_ _=>xM λ_ _ _=>yk
 |.q _ _,_,_=>λ_ _=>xM λ_ _ _=>yk
 |.u _ _ _,_,_=>λ_ _=>xM λ_ _ _=>yk
 |.l _ _ _,_,_=>λ_ _=>xM λ_ _ _=>yk
 |.k _ _ _,_,_=>λ_ _=>xM λ_ _ _=>yk
 |.m _ _,_,_=>λ_ _=>xM λ_ _ _=>yk
 |.r,_,_=>λ_ _=>xM λ_ _ _=>yk
 |.w,_,_=>λ_ _=>xM λ_ _ _=>yk
 |.p,_,_=>λ_ _=>xM λ_ _ _=>yk
 |.v _ _ _,_,_=>λ_ _=>xM λ_ _ _=>yk
theorem Xl(o:OkX T n sc N X E):∀(b:Sms) (st:List Stmt),rA sc N b st=true->∀env s,L2.PSs X st (tX X.K X.d E env s (xSs (wx T) (zB T n) (zO T n) T.b env b s))
 |.f,_,_=>λ_ _=>λpins x σ H D I q=>(yk q).elim
 |.e c cs,st,h=>λenv s=>by
  replace h:=yA h;obtain⟨U,ts,rfl,h⟩:=h;rw[cf]at h;simp only[XW];have no:L2.PSs X ts (λ_ _ _=>False):=λpins x σ H D I q=>q.elim;cases hc:exS (zB T n) T.b env c s with
  |g _ _ _=>exact wA (L2.zr (jxS o c _ h.1 env s) no) λD σ H z=>z
  |d=>exact wA (L2.zr (jxS o c _ h.1 env s) no) λD σ H z=>z
  |e fl s1=>
   simp only[];cases fl with
   |a e=>
    have p1:=jS T n c _ _ _ _ o.a h.1 env s;rw[hc]at p1;have P:L2.PS X U (tSt X.K X.d env s (.e (.a e) s1)):=λpins x σ H D I q=>AF (p1 pins x σ H D (I.wZ _) q) (λ_ _ z=>z.xF) λ_ _ z=>Av z;have p2:L2.PSs X ts (uX T n X E cs):=λpins x σ H D I ⟨env',s',q⟩=>Xl o cs _ h.2 env' s' pins x σ H D I q;refine wA (L2.zr P p2) λD σ H ⟨ρ,hr,er,w⟩=>⟨ρ,hr,er,λρ1 H1 R S O Q=>?_⟩;exact⟨e,s1,ρ1,O,Q,pv.mono w S O⟩
   |b _=>exact λpins x σ H D I q=>(yk q).elim
   |c _=>exact λpins x σ H D I q=>(yk q).elim
   |d _=>exact λpins x σ H D I q=>(yk q).elim
 |.g _ _ _ _ _ _ _ _,_,_=>λ_ _=>λpins x σ H D I q=>(yk q).elim
end
end
mutual
noncomputable def nF(n:Nat):Val->Bool
 |.m i|.q i=>decide (i<n)
 |.f vs=>wy n vs
 |.h vs=>wy n vs
 |.g|.e _|.c _|.j _|.o|.p _|.r _|.t _|.u _|.s _ _=>true
noncomputable def wy(n:Nat):List Val->Bool
 |[]=>true
 |v::vs=>nF n v&&wy n vs
end
mutual
theorem sT{n:Nat}{v:Val}(h:v.noRef=true):nF n v=true:=by
 cases v with
 |m _=>cases h
 |q _=>cases h
 |f vs=>exact vL (vs:=vs) h
 |h vs=>exact vL (vs:=vs) h
 |_=>rfl
theorem vL{n:Nat}{vs:List Val}(h:zo vs=true):wy n vs=true:=by
 cases vs with
 |nil=>rfl
 |cons v vs=>
  rw[zo,cf]at h;rw[wy,sT h.1,vL h.2];rfl
end
section
variable {K:KF}{mg:Str->Option Value}
mutual
theorem RD.refs{ρ:Own}{H:L2.Hp}{v:Val}{x:L2.V}(q:RD K mg ρ H v x):nF ρ.o.length v=true:=by
 cases q with
 |m _ _ r=>exact RDs.refs r
 |E _ _ r=>exact RDs.refs r
 |C e _=>exact decide_eq_true (Au.mp e).1
 |A e _=>exact decide_eq_true (Au.mp e).1
 |_=>rfl
theorem RDs.refs{ρ:Own}{H:L2.Hp}{v:List Val}{x:List L2.V}(q:RDs K mg ρ H v x):wy ρ.o.length v=true:=by
 cases q with
 |d=>rfl
 |a r N=>rw[wy,RD.refs r,RDs.refs N];rfl
end
structure Cut(ρ ρ':Own):Prop where
 b:∃new,ρ'.o=ρ.o++new
 d:ρ'.h=ρ.h
theorem Cut.no(c:Cut ρ ρ')(n:ρ'.no a):ρ.no a:=by obtain⟨new,e⟩:=c.b;exact⟨λh=>n.1 (by rw[e];exact Bx _ h),by rw[<-c.d];exact n.2⟩
mutual
theorem RD.uu{ρ ρ':Own}{H:L2.Hp}(c:Cut ρ ρ'){v:Val}{x:L2.V}(q:RD K mg ρ' H v x)(h:nF ρ.o.length v=true):RD K mg ρ H v x:=by
 have N:∀{i:Nat} {a:Addr},ρ'.o[i]?=some a->decide (i<ρ.o.length)=true->ρ.o[i]?=some a:=λ{i a} e h=>by obtain⟨new,O⟩:=c.b;rw[O,A7 (of_decide_eq_true h)]at e;exact e
 cases q with
 |s=>exact .s
 |j b=>exact .j b
 |l i=>exact .l i
 |D t=>exact .D t
 |m n e r=>exact .m (c.no n) e (RDs.uu c r h)
 |E n e r=>exact .E (c.no n) e (RDs.uu c r h)
 |B n e=>exact .B (c.no n) e
 |p g=>exact .p g
 |F g=>
  refine .F ?_;rcases g with⟨n,g⟩|g
  . exact .inl ⟨c.no n,g⟩
  . exact .inr g
 |C e k=>exact .C (N e h) k
 |A e k=>exact .A (N e h) k
 |I e=>exact .I e
 |J n=>exact .J n
 |G a k=>exact .G a k
theorem RDs.uu{ρ ρ':Own}{H:L2.Hp}(c:Cut ρ ρ'){v:List Val}{x:List L2.V}(q:RDs K mg ρ' H v x)(h:wy ρ.o.length v=true):RDs K mg ρ H v x:=by
 cases q with
 |d=>exact .d
 |a r N=>
  rw[wy,cf]at h;exact .a (RD.uu c r h.1) (RDs.uu c N h.2)
end
noncomputable def nj:Cel->List Val
 |.c vs=>vs
 |.e kvs=>kvs.map (·.2)
 |.f kvs=>kvs.map (·.2)
 |.d _=>[]
def CR.vals(h:CR K mg ρ H a c):∃N,RDs K mg ρ H (nj c) N:=by
 cases c with
 |c vs=>obtain⟨N,_,r⟩:=h;exact⟨_,r⟩
 |e O=>obtain⟨N,_,_,r⟩:=h;exact⟨_,r⟩
 |f O=>obtain⟨N,_,_,r⟩:=h;exact⟨_,r⟩
 |d x=>exact⟨[],.d⟩
def fP(h:c.noRef=true):zo (nj c)=true:=by cases c<;>first|exact h|rfl
theorem CR.uu(c:Cut ρ ρ')(h:CR K mg ρ' H a o)(O:wy ρ.o.length (nj o)=true):CR K mg ρ H a o:=by
 cases o with
 |c vs=>obtain⟨x,e,r⟩:=h;exact⟨x,e,RDs.uu c r O⟩
 |e N=>obtain⟨x,e,k,r⟩:=h;exact⟨x,e,k,RDs.uu c r O⟩
 |f N=>obtain⟨x,e,k,r⟩:=h;exact⟨x,e,k,RDs.uu c r O⟩
 |d y=>
  obtain⟨ps,e1,k,r,g⟩:=h;refine⟨ps,e1,k,λpos U S=>?_,g⟩;obtain⟨a,o,vs,t,q1,R,Q,P⟩:=r pos U S;exact⟨a,o,vs,t,q1,c.no R,Q,P⟩
theorem mP{O N:Type}:∀{a b:List (O × N)},a.map (·.1)=b.map (·.1)->a.map (·.2)=b.map (·.2)->a=b
 |[],[],_,_=>rfl
 |[],_::_,h,_=>by cases h
 |_::_,[],h,_=>by cases h
 |x::xs,y::ys,h1,h2=>by
  rw[AZ,AZ]at h1 h2;injection h1 with a1 a2
  injection h2 with b1 b2
  rw[mP a2 b2,FO a1 b1]
theorem lh:∀{s s'} {i} {o'},wV s s'=true->i<s.length->s'[i]?=some o'->o'.noRef=true\/s[i]?=some o'
 |[],_,_,_,_,h,_=>by cases h
 |o::r,[],_,_,h,_,_=>by cases h
 |o::r,o'::r',0,q,h,_,e=>by
  rw[wV,cf,Aw]at h;simp only[List.getElem?_cons_zero,Ec]at e;subst e;rcases h.1 with z|z
  . exact .inl z
  . right
    cases o' with
    |c a=>cases o with
     |c b=>simp only[Cel.beq]at z;rw[t8 z];rfl
     |_=>cases z
    |e a=>cases o with
     |e b=>simp only[Cel.beq,cf,decide_eq_true_eq]at z;rw[mP z.1 (t8 z.2)];rfl
     |_=>cases z
    |f a=>cases o with
     |f b=>simp only[Cel.beq,cf,decide_eq_true_eq]at z;rw[mP z.1 (t8 z.2)];rfl
     |_=>cases z
    |d a=>cases o with
     |d b=>simp only[Cel.beq,decide_eq_true_eq]at z;rw[z];rfl
     |_=>cases z
 |o::r,o'::r',i+1,q,h,hi,e=>by
  rw[wV,cf]at h;have:=lh (i:=i) h.2 (by simpa using hi) (by simpa using e)
  simpa using this
noncomputable def T8:Val->Bool
 |.m _|.q _|.f _=>false
 |.g|.e _|.c _|.j _|.o|.p _|.r _|.t _|.u _|.h _|.s _ _=>true
def XA{n:Nat}{s:Sto}{k i:Nat}:wc n s k (.m i)=if i<n then some (Val.m i) else match s[i]? with
 |some (.c vs)=>if zo vs then some (.h vs) else dr
 |_=>dr:=by cases k<;>rfl
def bU:wc n s k (.q i)=if i<n then some (Val.q i) else dr:=by cases k<;>rfl
def bV(h:T8 v=true):wc n s k v=if v.noRef then some v else dr:=by
 cases v with
 |m _=>cases h
 |q _=>cases h
 |f _=>cases h
 |_=>cases k<;>rfl
def Y9:sG n s k []=some []:=by cases k<;>rfl
mutual
theorem qu{ρ ρ':Own}{H:L2.Hp}{s:Sto}(c:Cut ρ ρ')(O:HR K mg ρ' s H){k:Nat}{v N:Val}{x:L2.V}(r:RD K mg ρ' H v x)(h:wc ρ.o.length s k v=some N):RD K mg ρ H N x:=by
 have U:∀{w:Val},RD K mg ρ' H w x->(if w.noRef then some w else dr)=some N->RD K mg ρ H N x:=λ{w} r h=>by
  split at h
  . rename_i hn;cases h;exact RD.uu c r (sT hn)
  . cases h
 cases v with
 |m i=>
  rw[XA]at h;cases r with
  |C e Q=>
   by_cases hi:i<ρ.o.length
   . rw[if_pos hi]at h
     cases h;exact RD.uu c (.C e Q) (by rw[nF];exact decide_eq_true hi)
   . rw[if_neg hi]at h
     split at h
     . rename_i vs hs
       split at h
       . rename_i hn
         cases h;obtain⟨a,xs,e1,e2,q⟩:=O.obj i vs hs;rw[e]at e1;cases e1;obtain⟨new,e'⟩:=c.b;have W:=A5 e;refine .E ⟨λP=>?_,λY=>?_⟩ e2 (RDs.uu c q (vL hn))
         . obtain⟨j,R,Z⟩:=BG P
           have S:ρ'.o[j]?=ρ'.o[i]?:=by rw[e,e',A7 R,Ai R,Z]
           have:=ai O.v e (S.trans e);exact hi (this▸R)
         . exact(O.d _ (by rw[c.d];exact Y)).2 W
       . cases h
     . cases h
 |q i=>
  rw[bU]at h;split at h
  . rename_i hi
    cases h;exact RD.uu c r (by rw[nF];exact decide_eq_true hi)
  . cases h
 |f vs=>
  cases k with
  |zero=>exact U r h
  |succ k=>
   rw[wc,BC]at h;obtain⟨ws,h1,rfl⟩:=h;cases r with
   |m n e q=>exact .m (c.no n) e (qt c O q h1)
 |_=>exact U r ((bV rfl).symm.trans h)
theorem qt{ρ ρ':Own}{H:L2.Hp}{s:Sto}(c:Cut ρ ρ')(O:HR K mg ρ' s H){k:Nat}{v N:List Val}{x:List L2.V}(r:RDs K mg ρ' H v x)(h:sG ρ.o.length s k v=some N):RDs K mg ρ H N x:=by
 cases r with
 |d=>rw[Y9]at h;cases h;exact .d
 |@a v _ vs _ r1 P=>
  cases k with
  |zero=>cases h
  |succ k=>
   rw[sG]at h;split at h
   . rename_i a b ha hb
     cases h;refine .a ?_ (qt c O P hb);by_cases hn:v.noRef=true
     . rw[if_pos hn]at ha;cases ha;exact RD.uu c r1 (sT hn)
     . rw[if_neg hn]at ha;exact qu c O r1 ha
   . cases h
end
def lT(h0:HR K mg ρ s H)(w:yU K mg (RD K mg) ρ H (leave F s v s1) Q)(X:Ext ρ H ρ' H')(N:HR K mg ρ' s1 H')(r:RD K mg ρ' H' v x):Q x H':=by
 unfold leave at w;by_cases hk:F.c=true
 . rw[if_pos hk]at w;exact w ρ' x H' X N r
 . rw[if_neg hk]at w
   by_cases ho:wV s s1=true
   . rw[if_pos ho]at w
     have c:Cut ρ ρ':=⟨by obtain⟨new,e,_⟩:=X.d;exact⟨new,e⟩,X.f⟩
     cases hf:freeze s.length s1 v with
     |none=>rw[hf]at w;exact w.elim
     |some Y=>
      rw[hf]at w;have P:s.length<=s1.length:=by obtain⟨new,e,_⟩:=X.d;rw[<-h0.f,<-N.f,e,An];omega
      refine w ρ x H' ⟨⟨[],by simp,λa O=>by cases O⟩,rfl,X.c,X.g⟩ ⟨?_,h0.v,λi vs e=>?_,λa O=>?_⟩ ?_
      . rw[BQ,h0.f];omega
      . have hi:i<s.length:=by have:=(Au.mp e).1;rw[BQ]at this;omega
        rw[FN hi]at e;obtain⟨a,e1,q⟩:=N.m i vs e;have e3:ρ.o[i]?=some a:=by
         obtain⟨new,U,_⟩:=X.d;rw[U,A7 (by rw[h0.f];exact hi)]at e1
         exact e1
        refine⟨a,e3,q.uu c ?_⟩;rcases lh ho hi e with z|z
        . exact vL (fP z)
        . obtain⟨b,_,S⟩:=h0.m i vs z
          obtain⟨W,R⟩:=S.vals;exact RDs.refs R
      . obtain⟨z,n⟩:=N.d a (by rw[X.f];exact O)
        exact⟨z,(h0.d a O).2⟩
      . unfold freeze at hf
        by_cases hn:v.noRef=true
        . rw[if_pos hn]at hf;cases hf;exact RD.uu c r (sT hn)
        . rw[if_neg hn,<-h0.f]at hf
          exact qu c N r hf
   . rw[if_neg ho]at w;exact w.elim
def kH(r:RDs K mg ρ H args vs):ER K mg ρ H (zS N args) (L2.start N vs):=by
 refine⟨by unfold zS L2.start;rw[An,An,Ak,Ak,CC,CC,r.length],λi v e=>?_⟩
 unfold zS at e;unfold L2.start;by_cases hi:i<args.length
 . rw[A7 (by simpa using hi),A1]at e
   rw[A7 (by rw[Ak,<-r.length];exact hi),A1]
   cases ha:args[i]? with
   |none=>rw[ha]at e;cases e
   |some a=>
    rw[ha]at e;have:a=v:=AX (AX e);subst this;obtain⟨x,h1,O⟩:=r.get ha;exact⟨x,by rw[h1];rfl,O⟩
 . rw[BR (by simpa using hi),D8]at e
   split at e<;>cases e
end
noncomputable def argNames(a:Eu):Option (List Str):=
 if a.posonlyargs.isEmpty&&a.vararg.isNone&&a.kwonlyargs.isEmpty&&a.kw_defaults.isEmpty&&a.kwarg.isNone&&a.defaults.isEmpty then some (a.args.map (·.arg)) else none
def fQ(st:Stmt)(F:Fn):Bool:=
 match st with
 |.FunctionDef _ args body _ _ _ sc _ _ _=>decide (argNames args=some F.b)&&decide (sc.kind=.function)&&!sc.isCoroutine&&!sc.isGenerator&&decide F.N.Nodup&&decide (F.N.take F.b.length=F.b) &&
  F.b.all (λx=>decide (sc.names.lookup x=some .local)||decide (sc.names.lookup x=some .cell))&&sc.names.all (λy=>decide (y.2≠.free))&&rA sc F.N F.a body
 |_=>false
def jY:∀{ps:List Str} {us:List Value},ps.Nodup->us.length=ps.length->ps.filterMap (λn=>((ps.zip us).lookup n).map (n,·))=ps.zip us:=by
 have N:∀(ps x:List Str) (us ws:List Value),(x++ps).Nodup->us.length=ps.length->ws.length=x.length->ps.filterMap (λn=>(((x++ps).zip (ws++us)).lookup n).map (n,·))=ps.zip us:=by
  intro ps;induction ps with
  |nil=>intro x us ws _ _ _;rfl
  |cons p ps S=>
   intro x us ws nd h1 R;cases us with
   |nil=>cases h1
   |cons u us=>
    have U:((x++p::ps).zip (ws++u::us)).lookup p=some u:=by
     rw[List.zip_append R.symm];have:∀(x:List Str) (ws:List Value),p ∉ x->((x.zip ws)++(p::ps).zip (u::us)).lookup p=some u:=by
      intro x;induction x with
      |nil=>intro ws _;simp
      |cons q x O=>
       intro ws Q;cases ws with
       |nil=>simp
       |cons w ws=>
        have P:(p == q)=false:=by
         have:p≠q:=λz=>Q (by rw[z];exact Ar)
         simpa using this
        rw[List.zip_cons_cons,Cq,Am,P];exact O ws λz=>Q (Ag _ z)
     refine this x ws λz=>?_;rw[FC]at nd;exact nd.2.2 p z p Ar rfl
    rw[Ba,U];have:=S (x++[p]) us (ws++[u]) (by simpa using nd) (by simpa using h1) (by simp[R])
    rw[Br,Br]at this;exact congrArg ((p,u)::·) this
 intro ps us nd h;simpa using N ps [] us [] (by simpa using nd) h rfl
theorem lookup_some:∀{ps:List Str} {us:List Value},us.length=ps.length->∀n∈ps,((ps.zip us).lookup n).isNone=false
 |[],_,_,n,h=>by cases h
 |p::ps,[],h,_,_=>by cases h
 |p::ps,u::us,h,n,hn=>by
  rw[List.zip_cons_cons,Am];cases hb:(n == p) with
  |true=>rfl
  |false=>
   have:n≠p:=by simpa using hb
   rcases Ao.mp hn with z|z
   . exact absurd z this
   . exact lookup_some (by simpa using h) n z
def uF(h:argNames a=some ps)(nd:ps.Nodup)us(O:us.length=ps.length) :
 Gx (BJ x qual a body sc .none kV doc pm an cdv ct) ⟨us,[]⟩=pure (ps.zip us):=by
 unfold argNames at h;split at h
 . rename_i hc
   simp only[cf,AN,BW]at hc;obtain⟨⟨⟨⟨⟨h1,W⟩,U⟩,S⟩,R⟩,Q⟩:=hc;cases h;obtain⟨po,N,va,ko,kd,kw,df⟩:=a;simp only at h1 W U S R Q O nd ⊢;subst h1 W U S R Q;have Z:((N.map (·.arg)).take ((N.map (·.arg)).length-0)).filter (λn=>(((N.map (·.arg)).zip us).lookup n).isNone)=[]:=by rw[List.filter_eq_nil_iff];intro n Y;rw[lookup_some O n (ES Y)];decide
   unfold Gx;have hd:seqItems? Be=pure none:=rfl;have hg:¬(us.length > (N.map (·.arg)).length/\True):=by rintro ⟨z,_⟩;omega
   simp only[BJ,List.map_nil,De,A4,Gs,DU,hd,FQ,List.toList_toArray,B5,List.drop_nil,FU,Option.isNone_none,Fp];rw[if_neg (by rw[Ak]at O;simp;omega)]
   have P:(List.filter (λn=>(Cu n ((Et (λx=>x.arg) N).zip us)).isNone) (List.take (Et (λx=>x.arg) N).length (Et (λx=>x.arg) N)))=[]:=Z;rw[P,if_neg (by decide),List.zip_nil_right,Gs,DU,if_neg (by decide),jY nd O]
 . cases h
def td(K:KF)(x:Str)(st:Stmt):Prop:=∃f fd,BI K AM x=some (some (.ref f))/\L2.Fun K x x st f fd
def V6(a:BI K AM x=some (some (.ref f)))
 (l:K.lookup f=some ⟨oc,od,.func (BJ x x (L2.xP st) (L2.z9 st) (L2.zD st) .none kV doc pm an cdv ct),osl⟩) (c:B1 K cdv x=true) (k:B2 K (.ref f)=true):td K x st:=
 ⟨f,_,a,L2.bW l c k⟩
section
variable {P:Program}{w:World}{K:KF}{mg:Str->Option Value}{base:Heap}{T:Tbl}
structure Top(T:Tbl)(K:KF)(mg:Str->Option Value):Prop where
 a:∀f v F,T.d f v=some F->∃st fa fd,mg f=some (.ref fa)/\L2.Fun K f f st fa fd/\fQ st F=true/\((∃b,T.c b=true)->("!":Str)∈F.N->f∈T.f)
 e:∀x v,T.b x=some v->∃u xv,mg x=some u/\L2.RelV xv u/\∀ρ H,RD K mg ρ H v xv
 d:∀x∈wR,mg x=none
 no:∀f v,100<=v->T.d f v=none
 c:(T.e≠[]\/∃b,T.c b=true)->Sc T K mg
def vY(h:fQ st F=true):argNames (L2.xP st)=some F.b/\L2.x9 F.N F.b (L2.zD st)/\rA (L2.zD st) F.N F.a (L2.z9 st)=true:=by
 unfold fQ at h;split at h
 . simp only[cf,decide_eq_true_eq,As,Ay,Aw]at h
   refine byG λZ x=>?_;obtain⟨⟨⟨⟨⟨⟨⟨⟨h1,Y⟩,W⟩,U⟩,S⟩,R⟩,Q⟩,P⟩,O⟩:=h;refine x ?_;exact⟨h1,⟨Y,W,U,S,R,Q,P⟩,O⟩
 . cases h
def au(top:Top T K mg)(U:∀j,j<=n->Lv T P w K mg base j){F:Fn}(p2:L2.x9 F.N F.b (L2.zD st))
 (S:mg f=some (.ref fa)) (hk:K.lookup fa=some ⟨oc,od,.func (BJ f f (L2.xP st) (L2.z9 st) (L2.zD st) .none kV doc pm an cdv ct),osl⟩) (Q:B1 K cdv f=true) (R:(∃b,T.c b=true)->("!":Str)∈F.N->f∈T.f)
       (hr:L2.xN n (A.deeper (PyProof.Rows.envOfC f (L2.zD st) s.heap.objs.size fa cdv))):OkF T n (L2.zD st) F.N (L2.yo CX P w K mg base F.N f (L2.zD st) fa cdv A outer s H E).nox:=by
 refine⟨⟨rfl,hr,⟨rfl,p2.b,λx hx=>hx,λx hx=>⟨hx,.inl rfl⟩,λx hx=>hx,λx hx=>hx⟩,λg W G hg=>?_,top.e,top.d,rfl,top.no,λm S O=>⟨top.c (.inr O),λj hj=>U j ⋯⟩,λO _ hx=>?_⟩,rfl,?_⟩
 . obtain⟨ga,gd,q1,q2,Z,Y,q5⟩:=(U n (Aa _)).a g W G hg
   exact⟨ga,gd,q1,q2,Z,Y⟩
 . have:∃c,cdv=.ref c:=by
    unfold B1 at Q;split at Q
    . exact⟨_,rfl⟩
    . cases Q
   obtain⟨c,rfl⟩:=this;exact⟨f,R O hx,fa,c,_,_,S,hk,rfl,rfl,rfl,rfl⟩
 . show (if (L2.zD st).kind.isAnnotationScope then ScopeKind.function else (L2.zD st).kind)=.function
   rw[p2.a];rfl
def VC(top:Top T K mg)(IH:∀j,j<=n->Lv T P w K mg base j)(h:T.d f v=some F)(hm:mg f=some (.ref fa))(e2:L2.Fun K f f st fa fd)(e3:fQ st F=true)
 (Z:(∃b,T.c b=true)->("!":Str)∈F.N->f∈T.f):L2.tm P w K mg base L2.CX0 (n+1) fa fd F.b (spN T K mg (n+1) f v):=by
 obtain⟨p1,p2,p3⟩:=vY e3;have O:∀(vs:List Val) (s:Sto),zB T (n+1) f v vs s=run T (zB T n) F vs s:=λvs s=>by simp only[zB,h]
 obtain⟨oc,od,kV,doc,pm,an,cdv,ct,osl,rfl,lk,U⟩:=e2.a;refine L2.VB lk U p2 (λvs H Q E q=>?_) λA outer s H vs Q E hr q=>?_
 . obtain⟨ρ,t,as,_,r,z⟩:=q
   rw[O]at z;unfold run at z;split at z
   . rename_i S;rw[<-r.length];exact S
   . exact z.elim
 . obtain⟨ρ,t,as,h0,r,z⟩:=q
   rw[O]at z;unfold run at z;have S:as.length=F.b.length:=by
    by_cases S:as.length=F.b.length
    . exact S
    . rw[if_neg S]at z;exact z.elim
   rw[if_pos S]at z;have Y:=au (CX:=L2.CX0) (P:=P) (w:=w) (base:=base) (outer:=outer) (s:=s) (H:=H) (E:=E) top IH p2 hm lk U Z hr;refine⟨_,(jSs T n F.a (L2.zD st) F.N _ (L2.z9 st) Y p3 (zS F.N as) t).nox,ρ,h0,kH r,?_⟩;show uC K mg ρ H (zd (zB T n) T.b (zS F.N as) F.a t) _;cases hx:zd (zB T n) T.b (zS F.N as) F.a t with
   |e fl s1=>
    rw[hx]at z;cases fl with
    |a e=>exact λρ1 H1 σ1 W R er1=>lT h0 z W R .s
    |b v'=>exact λρ1 H1 x W R r1=>lT h0 z W R r1
    |c e=>exact z.elim
    |d e=>exact z.elim
   |g _ _ _=>rw[hx]at z;exact z.elim
   |d=>rw[hx]at z;exact z.elim
def PX(top:Top T K mg)(hB:K.In base)(IH:∀j,j<=n->Lv T P w K mg base j)(h:T.d f v=some F)(hm:mg f=some (.ref fa))(e2:L2.Fun K f f st fa fd)(e3:fQ st F=true)
 (htb:(∃b,T.c b=true)->("!":Str)∈F.N->f∈T.f):L2.tm P w K mg base (L2.CXE P w) (n+1) fa fd F.b (λvs H Q E=>∃ρ s args,HR K mg ρ s H/\RDs K mg ρ H args vs/\pv K mg ρ H (zO T (n+1) f v args s) E):=by
 obtain⟨p1,p2,p3⟩:=vY e3;have O:∀(vs:List Val) (s:Sto),zO T (n+1) f v vs s=if vs.length=F.b.length then xSs (wx T) (zB T n) (zO T n) T.b (zS F.N vs) F.a s else dr:=λvs s=>by simp only[zO,h]
 refine byG λY x=>?_;obtain⟨oc,od,kV,doc,pm,an,cdv,ct,osl,rfl,lk,W⟩:=e2.a;refine x ?_;refine L2.VB lk W p2 (λvs H Q E q=>?_) λA outer s H vs Q E hr q=>?_
 . refine byG λY x=>?_
   obtain⟨ρ,t,as,_,r,z⟩:=q;refine x ?_;rw[O]at z;split at z
   . rename_i U;rw[<-r.length];exact U
   . exact z.elim
 . refine byG λY x=>?_
   obtain⟨ρ,t,as,h0,r,z⟩:=q;refine x ?_;rw[O]at z;have U:as.length=F.b.length:=by
    by_cases U:as.length=F.b.length
    . exact U
    . rw[if_neg U]at z;exact z.elim
   rw[if_pos U]at z;have okf:=au (CX:=L2.CXE P w) (P:=P) (w:=w) (base:=base) (outer:=outer) (s:=s) (H:=H) (E:=E) top IH p2 hm lk W htb hr;have Z:OkX T n (L2.zD st) F.N (L2.yo (L2.CXE P w) P w K mg base F.N f (L2.zD st) fa cdv A outer s H E) E:=by
    refine⟨okf,L2.ek,λC H hE=>L2.Wy hE,λC d H hE=>L2.YX hE,IH n (Aa _),λS=>?_,λc S hng=>?_⟩
    . have R:T.e≠[]:=λz=>by rw[z]at S;cases S
      exact(top.c (.inl R)).gr S base hB
    have R:T.e≠[]:=λz=>by rw[z]at S;cases S
    refine byG λY x=>?_;obtain⟨_,_,_,_,hue,_,_,_,_,RF⟩:=(top.c (.inl R)).a;refine x ?_;obtain⟨w',hw⟩:=Ci.mp S;refine byG λY x=>?_;obtain⟨C,q1,q2,q3⟩:=RF c w' hw hng base hB;refine x ?_;exact⟨C,hue,q1,q2,q3⟩
   exact⟨_,Xl Z F.a (L2.z9 st) p3 (zS F.N as) t,ρ,h0,kH r,z⟩
def TM(top:Top T K mg)(hB:K.In base):∀n j,j<=n->Lv T P w K mg base j:=by
 have step:∀n,(∀j,j<n->Lv T P w K mg base j)->Lv T P w K mg base n:=λn IH=>⟨λf v F hf=>by
  obtain⟨st,fa,fd,q1,O,S,W⟩:=top.a f v F hf;obtain⟨r1,U,r3⟩:=vY S;have nd:F.b.Nodup:=by rw[<-U.c];exact U.b.sublist (Ft _ _)
  have hb:L2.Binds K fd F.b []:=O.binds λkV doc pm an cdv ct us hl=>uF r1 nd us hl;cases n with
  |zero=>
   refine⟨fa,fd,q1,O.b,hb,⟨λvs H Q E q=>?_,λA outer s H args us vs Q E _ _ _ _ q=>?_⟩,⟨λvs H Q E q=>?_,λA outer s H args us vs Q E _ _ _ _ q=>?_⟩⟩
   . obtain⟨ρ,t,as,_,_,z⟩:=q;exact z.elim
   . obtain⟨ρ,t,as,_,_,z⟩:=q;exact z.elim
   . obtain⟨ρ,t,as,_,_,z|z⟩:=q<;>exact z.elim
   . obtain⟨ρ,t,as,_,_,z|z⟩:=q<;>exact z.elim
  |succ n=>
   have R:∀j,j<=n->Lv T P w K mg base j:=λj hj=>IH j ⋯
   have a:=VC (P:=P) (w:=w) (base:=base) top R hf q1 O S W;have b:=PX (P:=P) (w:=w) (base:=base) top hB R hf q1 O S W;refine⟨fa,fd,q1,O.b,hb,a,⟨λvs H Q E q=>?_,λA outer s H args us vs Q E h1 h2 h3 h4 q=>?_⟩⟩
   . obtain⟨ρ,t,as,N,x,z|z⟩:=q
     . exact a.b vs H Q E ⟨ρ,t,as,N,x,z⟩
     . exact b.b vs H Q E ⟨ρ,t,as,N,x,z⟩
   . obtain⟨ρ,t,as,N,x,z|z⟩:=q
     . refine CY (a.a A outer s H args us vs Q E h1 h2 h3 h4 ⟨ρ,t,as,N,x,z⟩) λr s' Z=>?_
       cases r with
       |error e=>exact Av Z
       |ok fl=>cases fl<;>exact Z
     . exact b.a A outer s H args us vs Q E h1 h2 h3 h4 ⟨ρ,t,as,N,x,z⟩⟩
 intro n;induction n with
 |zero=>intro j hj;exact step j λi hi=>absurd hi ⋯
 |succ n Y=>
  intro j hj;by_cases h:j<=n
  . exact Y j h
  . have:j=n+1:=by omega
    subst this;exact step _ λi hi=>Y i ⋯
end
end M
end
section
namespace M
open PySem Hd
def fD(K:KF)(x:Str):Val->Prop
 |.c i=>∃t,BI K AM x=some (some (.int i t))
 |.j y=>∃t,BI K AM x=some (some (.str y t))
 |.p ns=>∃a,BI K AM x=some (some (.ref a))/\KT K a (ns.map L2.V.d)
 |_=>False
noncomputable def glO(fnL:List ((Str × Nat) × Fn))(glL:List (Str × Val))(x:Str):Option Val:=match glL.lookup x with
 |some v=>some v
 |dr=>match fnL.lookup (x,0) with
  |some _=>some (.t x)
  |dr=>dr
def kM(fnL:List ((Str × Nat) × Fn))(glL:List (Str × Val))(tb:List Str)(xc:List (Str × Str))(md:Bool->Bool):Tbl:=⟨λf v=>fnL.lookup (f,v),glO fnL glL,tb,xc,md⟩
def nJ(fnL:List ((Str × Nat) × Fn))(D:List (Str × Stmt)):Bool:=fnL.all λp=>decide (p.1.2<100)&&match D.lookup p.1.1 with|some st=>fQ st p.2|none=>false
theorem yz{x N:Type} [BEq x] [LawfulBEq x]:∀{l:List (x × N)} {a:x} {b:N},l.lookup a=some b->(a,b)∈l
 |[],_,_,h=>by cases h
 |(c,d)::l,a,b,h=>by
  rw[Am]at h;cases hb:(a == c) with
  |true=>rw[hb]at h;cases h;rw[Cf hb];exact Ar
  |false=>rw[hb]at h;exact Ag _ (yz h)
def Sl(X:K.In h)(G:h.Ns AM mg)(hd:∀p∈D,td K p.1 p.2)(Y:∀p∈glL,fD K p.1 p.2)(Z:∀x∈wR,BI K AM x=some none)
 (O:nJ fnL D=true)    (Q:(∃b,md b=true)->fnL.all (λp=>!decide (("!":Str)∈p.2.N)||decide (p.1.1∈tb))=true) (sc:(xc≠[]\/∃b,md b=true)->Sc (kM fnL glL tb xc md) K mg):Top (kM fnL glL tb xc md) K mg:=by
 refine⟨λf v F e=>?_,λx v e=>?_,λx hx=>PySem.W.mg_none_of X G (Z x hx),λf v hv=>?_,sc⟩
 . have P:((f,v),F)∈fnL:=yz e
   unfold nJ at O;rw[Ay]at O;have h1:=O _ P;rw[cf]at h1;have h1:=h1.2;split at h1
   . rename_i st hs
     obtain⟨fa,fd,a,U⟩:=hd _ (yz hs);refine⟨st,fa,fd,DI X G a,U,h1,λR hN=>?_⟩;have:=Ay.mp (Q R) _ P;simp only[Aw,As,decide_eq_false_iff_not,decide_eq_true_eq]at this;exact this.resolve_left λz=>z hN
   . cases h1
 case refine_3=>
  show fnL.lookup (f,v)=none;cases e:fnL.lookup (f,v) with
  |none=>rfl
  |some F=>
   have P:((f,v),F)∈fnL:=yz e;unfold nJ at O;rw[Ay]at O;have h1:=O _ P;rw[cf,decide_eq_true_eq]at h1;have S:v<100:=h1.1;omega
 . have e:glO fnL glL x=some v:=e
   unfold glO at e;split at e
   case h_2=>
    split at e
    . rename_i F hF
      cases e;unfold nJ at O;rw[Ay]at O;have h1:=O _ (yz hF);rw[cf]at h1;have h1:=h1.2;split at h1
      . rename_i st hs
        obtain⟨fa,fd,a,U⟩:=hd _ (yz hs);exact⟨_,.c fa,DI X G a,rfl,λρ H=>.I (DI X G a)⟩
      . cases h1
    . cases e
   rename_i v' e';cases e;have P:(x,v)∈glL:=yz e';have h1:=Y _ P;cases v with
   |c i=>
    obtain⟨t,a⟩:=h1;exact⟨_,.d i,DI X G a,⟨t,rfl⟩,λρ H=>.l i⟩
   |j y=>
    obtain⟨t,a⟩:=h1;exact⟨_,.e y,DI X G a,⟨t,rfl⟩,λρ H=>.D y⟩
   |p ns=>
    obtain⟨a,S,h3⟩:=h1;exact⟨_,.c a,DI X G S,rfl,λρ H=>.p h3⟩
   |_=>exact h1.elim
def int_mk(a:BI K AM x=some (some (.int i t))):fD K x (.c i):=⟨t,a⟩
def str_mk(a:BI K AM x=some (some (.str y t))):fD K x (.j y):=⟨t,a⟩
theorem qx:∀{us} {ns},lM us=some ns->L2.Vals (ns.map L2.V.d) us
 |[],_,h=>by cases h;exact .nil
 |u::us,ns,h=>by
  cases u with
  |int i t=>
   simp only[lM,BC]at h;obtain⟨ms,h1,rfl⟩:=h;exact .cons ⟨t,rfl⟩ (qx h1)
  |_=>cases h
def Ys(h:BI K AM x=some (some (.ref a)))
 (l:K.lookup a=some ⟨.type "tuple",od,.seq us.toArray n,sl⟩) (hz:us.length<=1000) (hi:lM us=some ns):fD K x (.p ns):=
 ⟨a,h,_,us.toArray,n,l,rfl,rfl,by rw[Ah,AK];omega,by simpa using qx hi⟩
structure S9(T:Tbl)(K:KF)(mg:Str->Option Value)(h:Heap)(tabs:List Addr):Prop where
 nd:tabs.Nodup
 b:tabs.length=T.f.length
 a:∀(i:Nat) (g:Str),T.f[i]?=some g->∃P,tabs[i]?=some P/\h.get? P=some (EY #[])/\K.lookup P=none/\Gh h P /\
  ∃(fa c:Addr) (o:Obj) (fd:BA),mg g=some (.ref fa)/\K.lookup fa=some o/\o.data=.func fd/\fd.code=.ref c/\∀h':Heap,K.In h'->PySem.W.CodeHd h' c P
def Qy(K:KF)(tabs:List Addr):L2.Sp:=λvs H Q _=>∃(a:Addr) (ns:List Int),vs=[.c a]/\(∀b∈tabs,H b=some (.g #[]))/\L2.SqL K H a (ns.map L2.V.d)/\ns.length<=63/\∀H',Q (.f true) H'
def walk{l:PySem.W.OpenLaw}(hn:l.most=some 63)(hdf:d.params.defaults=[])(hr:L2.xN n callerA)
 (hY:∀w h,YP w h->K.In h) (hF:T.d d.name 0=some F) (hx:F.b=[x])
 (TOP:∀w N mg mb h,PySem.W.Ground q loose [] XP w N mg mb h->K.In h->Top T K mg/\∃tabs,S9 T K mg h tabs)
 (HL:∀ns:List Int,ns.length<=63->∃s',zB T n d.name 0 [.r ns] (T.f.map .d)=.e (.e true) s') :
 PySem.W.WalkO q loose XP YP l.row.toRowW d [] (λf vs=>PySem.call f vs):=by
 refine Att.lA hn hdf λw N O mg mb fa o pm cd doc a vs ns G Y ho hd hcd hmg Z S R hg=>?_;have KX:=hY w _ Y;obtain⟨top,tabs,TE⟩:=TOP w N mg mb _ G KX;obtain⟨st,fa',fd',e1,e2,e3,e4⟩:=top.a _ _ _ hF;obtain⟨p1,p2,p3⟩:=vY e3;have nd:F.b.Nodup:=by rw[<-p2.c];exact p2.b.sublist (Ft _ _)
 rw[e1]at hmg;cases hmg;cases n with
 |zero=>
  obtain⟨s',hs⟩:=HL [] (by decide)
  cases hs
 |succ n=>
  have U:∀b∈tabs,O.heap.get? b=some (EY #[])/\K.lookup b=none/\Gh O.heap b:=λb hb=>by
   obtain⟨i,hi,e⟩:=BG hb;obtain⟨P,q1,q2,q3,q4,_⟩:=TE.a i _ (Ai (by rw[<-TE.b];exact hi))
   rw[Ai hi,e]at q1;cases q1;exact⟨q2,q3,q4⟩
  refine L2.eC (CX:=L2.CX0) (k:=n+1) (fd:=fd') (x:=x) (sp:=Qy K tabs) (tabs:=tabs) KX G.T.g G.T.b G.T.builtins G.T.nolimit hg Z S (Az R (by decide)) hr U (λbase kb nb=>?_) (λs u=>?_) (λH hT hS=>⟨a,ns,rfl,hT,hS,R,λ_=>rfl⟩) λ_ _ _ z=>z
  . have f4:=VC (P:=l.prog) (w:=w) (base:=base) top (λj hj=>TM top kb n j hj) hF e1 e2 e3 e4
    rw[hx]at f4;refine f4.imp λvs H Q E zn=>?_;obtain⟨a,ns,e,hT,hS,hl,hq⟩:=zn;subst e;obtain⟨s',hs⟩:=HL ns hl;refine⟨⟨tabs,[]⟩,T.f.map .d,[.r ns],⟨by rw[Ak];exact TE.b,TE.nd,λi c z=>?_,λa z=>by cases z⟩,.a (.F ?_) .d,?_⟩
    . rw[A1]at z
      cases hg:T.f[i]? with
      |none=>rw[hg]at z;cases z
      |some g=>
       rw[hg]at z;cases z;obtain⟨P,q1,q2,q3,q4,fn⟩:=TE.a i g hg;exact⟨P,q1,#[],hT P (A5 q1),AS,λpos cv hc=>(nomatch hc),fn⟩
    . rcases hS with hS|hS
      . refine .inl ⟨⟨λhm=>?_,by simp⟩,hS⟩
        have:=hT a hm;rcases hS with z|⟨o,z⟩<;>(rw[this]at z;cases z)
      . exact .inr hS
    . rw[hs]
      intro ρ' x' H' _ _ r;cases r;exact hq H'
  . obtain⟨oc,od,kV,doc,pm,an,cdv,ct,osl,e,_⟩:=e2.a
    subst e;refine .of_eq ?_;have:=uF (x:=d.name) (qual:=d.name) (body:=L2.z9 st) (sc:=L2.zD st) (kV:=kV) (doc:=doc) (pm:=pm) (cdv:=cdv) (ct:=ct) (an:=an) p1 nd [u] (by rw[hx];rfl)
    rw[hx]at this;exact this
end M
end
section
namespace F
open PySem M
noncomputable def yD:Fn:=⟨["_law_script","_law_k"],["_law_script","_law_k"],false,(.e (.j (.a (.q .m (.e 1) (.l .a false (.a (.e 0) .c)))) (.e (.f (.A (.e 0) (.e 1))) .f) .f) (.e (.f (.g (.c 0))) .f))⟩
noncomputable def ym:Fn:=⟨["_law_pen_here","_law_many","_law_left","_law_found","_law_mixed"],["_law_pen_here","_law_many"],false,(.e (.j (.a (.q .g (.A (.e 0) (.g (.c 0))) (.g (.c 0)))) (.e (.n [2,3] (.l .c false (.a (.A (.e 0) (.g (.c 0))) (.a (.e 1) .c)))) (.e (.l (.e 0) (.g (.c 0)) (.e 2)) (.e (.f (.e 3)) .f))) .f) (.e (.l (.e 0) (.g (.c 1)) (.j false .c (.j false .a (.j false .b (.A (.e 0) (.g (.c 1))) (.g (.c 48271))) (.g (.c 30269))) (.g (.c 2147483629)))) (.e (.g 4 (.j false .c (.j false .a (.j false .a (.j false .b (.A (.e 0) (.g (.c 1))) (.A (.e 0) (.g (.c 1)))) (.j false .b (.g (.c 40692)) (.A (.e 0) (.g (.c 1))))) (.g (.c 7))) (.g (.c 2147483587)))) (.e (.f (.j false .c (.j false .d (.e 4) (.g (.c 64))) (.e 1))) .f))))⟩
noncomputable def yJ:Fn:=⟨["_law_cell","_law_left"],["_law_cell"],true,(.e (.g 1 (.l .k false (.a (.e 0) (.a (.j false .f (.g (.c 0)) (.e 0)) .c)))) (.e (.f (.u true (.a (.j false .b (.e 1) (.l .o false (.a (.q .i (.e 1) (.j false .e (.g (.c 10)) (.g (.c 18)))) .c))) (.a (.j false .c (.e 1) (.g (.c 2147483629))) .c)))) .f))⟩
noncomputable def yu:Fn:=⟨["_law_pen_here","_law_many"],["_law_pen_here"],false,(.e (.g 1 (.A (.u false (.a (.g (.c 2)) (.a (.g (.c 2)) (.a (.g (.c 3)) (.a (.g (.c 1)) (.a (.g (.c 4)) (.a (.g (.c 2)) .c))))))) (.h "_law_draw" 0 (.a (.e 0) (.a (.g (.c 6)) .c))))) (.e (.f (.l .h false (.a (.r false ["_law_hue","_law_pen_here"] [none,some 0] (.A (.u false (.a (.g (.c 3)) (.a (.g (.c 3)) (.a (.g (.c 4)) (.a (.g (.c 2)) (.a (.g (.c 5)) (.a (.g (.c 3)) (.a (.g (.c 2)) (.a (.g (.c 8)) .c))))))))) (.h "_law_draw" 0 (.a (.e 1) (.a (.g (.c 8)) .c)))) (.a 0) (.d (.e 1)) .a) .c))) .f))⟩
noncomputable def xG:Fn:=⟨["thing"],["thing"],false,(.e (.f (.y (.l .j false (.a (.e 0) (.a (.L "tuple" "tuple") .c))) (.a (.s .c .c (.g (.c 1)) (.l .a false (.a (.e 0) .c)) (.l .a false (.a (.E "HUES") .c))) (.a (.h "are_wholes" 0 (.a (.e 0) (.a (.E "LEAST_SIZE") (.a (.E "MOST_SIZE") .c)))) .c)))) .f)⟩
noncomputable def yv:Fn:=⟨["things","least","most"],["things","least","most"],false,(.e (.f (.l .p false (.a (.r false ["thing","least","most"] [none,some 1,some 2] (.h "is_whole" 0 (.a (.e 0) (.a (.e 1) (.a (.e 2) .c)))) (.a 0) (.f (.e 0)) .a) .c))) .f)⟩
noncomputable def xm:Fn:=⟨["thing","least","most"],["thing","least","most"],false,(.e (.f (.y (.l .j false (.a (.e 0) (.a (.L "int" "int") .c))) (.a (.G (.l .j false (.a (.e 0) (.a (.L "bool" "bool") .c)))) (.a (.s .c .c (.e 1) (.e 0) (.e 2)) .c)))) .f)⟩
noncomputable def yQ:Fn:=⟨["thing"],["thing"],false,(.e (.h (.h "need_whole" 0 (.a (.e 0) (.a (.g (.c 0)) (.a (.E "MOST_PLACES") .c))))) .f)⟩
noncomputable def yL:Fn:=⟨["thing"],["thing"],false,(.e (.j (.b (.a (.h "are_sizes" 0 (.a (.e 0) .c)))) (.e (.d (.h "NoSizes" 0 (.a (.g (.j "one to four sizes are due")) .c))) .f) .f) .f)⟩
noncomputable def yM:Fn:=⟨["thing","least","most"],["thing","least","most"],false,(.e (.j (.b (.a (.h "is_whole" 0 (.a (.e 0) (.a (.e 1) (.a (.e 2) .c)))))) (.e (.d (.h "NoNumber" 0 (.a (.e 1) (.a (.e 2) .c)))) .f) .f) .f)⟩
end F
end
section
namespace M
open PySem L2
def Yv{n f d s:Nat}(hd:0<d)(N:1<=s)(h:f+d*(s-1)<n):yg n (some (f:Int)) (some ((f:Int)+(d:Int)*(s:Int))) (d:Int)=((f:Int),s):=by
 have x:d*s=d*(s-1)+d:=by rw[<-Nat.mul_succ];congr 1;omega
 have e0:(d:Int)*(s:Int)=((d*s:Nat):Int):=(ET d s).symm;have e1:A8 (some (f:Int)) (some ((f:Int)+(d:Int)*(s:Int))) (d:Int) (n:Int)=((f:Int),((min (f+d*s) n:Nat):Int)):=by
  rw[e0];unfold A8;simp only[if_neg (show ¬(d:Int)<0 by omega),if_neg (show ¬(f:Int)<0 by omega),if_neg (show ¬((f:Int)+((d*s:Nat):Int))<0 by omega)]
  refine FO ?_ ?_
  . show min (f:Int) (n:Int)=f;omega
  . show min ((f:Int)+((d*s:Nat):Int)) (n:Int)=_;omega
 unfold yg;rw[e1];refine FO rfl ?_;show BE (f:Int) ((min (f+d*s) n:Nat):Int) (d:Int)=s;unfold BE;rw[if_pos ⋯,if_pos ⋯]
 have e2:(((min (f+d*s) n:Nat):Int)-(f:Int)-1)=((min (f+d*s) n-f-1:Nat):Int):=by omega
 rw[e2,<-Int.natCast_ediv];have e3:(min (f+d*s) n-f-1)/d=s-1:=by
  refine Nat.div_eq_of_lt_le ?_ ?_
  . rw[DT];omega
  . have:(s-1+1)*d=d*s:=by rw[show s-1+1=s by omega,DT]
    omega
 rw[e3];omega
theorem bS{N O:Type}{f}{g:N->O}:∀{l:List N},(∀x∈l,f x=some (g x))->l.filterMap f=l.map g
 |[],_=>rfl
 |x::l,h=>by rw[Ba,h x (Ar ..),AZ,bS λy P=>h y (Ag _ P)]
def Ze{ns:List Int}(h:f+d*(s-1)<ns.length):zy ns (f:Int) (d:Int) s=(AR s).map λk=>ns.getD (f+k*d) 0:=by
 unfold zy;refine bS λk hk=>?_;rw[Bu]at hk;have h1:k*d<=d*(s-1):=by rw[DT];exact Nat.mul_le_mul_left d ⋯
 have e:((f:Int)+(k:Int)*(d:Int)).toNat=f+k*d:=by rw[show (k:Int)*(d:Int)=((k*d:Nat):Int) from (ET k d).symm];omega
 have x:f+k*d<ns.length:=by omega
 rw[e,Ai x];rw[AQ,Ai x];rfl
def Sz(zs:List Int):Prop:=1<=zs.length/\zs.length<=4/\∀x∈zs,2<=x/\x<=8
noncomputable def vy(zs:List Int)(h:Nat):Nat:=(zs.getD h 0).toNat
def Z2(hz:Sz zs)(x:h<zs.length):zs[h]?=some ((vy zs h:Nat):Int)/\2<=vy zs h/\vy zs h<=8:=by
 have e:zs.getD h 0=zs[h]:=by rw[AQ,Ai x];rfl
 have:=hz.2.2 zs[h] (Cr x);unfold vy;rw[e,Ai x];refine⟨?_,⋯,⋯⟩
 congr 1;omega
end M
end
section
namespace M
open PySem
def Out.post{x:Type}(o:Out x)(P:x->Sto->Prop):Prop:=∃a s,o=.e a s/\P a s
def zC{x:Type}{a:x}{s:Sto}{P:x->Sto->Prop}:(Out.e a s).post P↔P a s:=
 ⟨λ⟨_,_,e,h⟩=>(by cases e;exact h),λh=>⟨a,s,rfl,h⟩⟩
def zI{o:Out α}{f}{P:β->Sto->Prop}:(o.bind f).post P↔o.post λa s=>(f a s).post P:=by
 cases o with
 |e a s=>exact(zC (P:=λa s=>(f a s).post P)).symm
 |g c as s=>exact⟨λ⟨_,_,e,_⟩=>(by cases e),λ⟨_,_,e,_⟩=>(by cases e)⟩
 |d=>exact⟨λ⟨_,_,e,_⟩=>(by cases e),λ⟨_,_,e,_⟩=>(by cases e)⟩
def zU{o:Out α}{P Q}(h:o.post P)(i:∀a s,P a s->Q a s):o.post Q:=by obtain⟨a,s,e,h⟩:=h;exact⟨a,s,e,i a s h⟩
def zt{o:Out α}{P Q}(h:∀a s,P a s↔Q a s):o.post P↔o.post Q:=⟨λk=>zU k λa s=>(h a s).mp,λk=>zU k λa s=>(h a s).mpr⟩
def ze{x:Type}{P:x->Sto->Prop}:(Out.d:Out x).post P↔False:=⟨λ⟨_,_,e,_⟩=>(by cases e),Av⟩
def xW{x:Type}{c:Prop} [Decidable c] {a b:Out x}{P:x->Sto->Prop}:(if c then a else b).post P↔if c then a.post P else b.post P:=by split<;>exact CW
def post_eq{o:Out α}{a}:o=.e a s↔o.post λx t=>x=a/\t=s:=⟨λh=>⟨a,s,h,rfl,rfl⟩,λ⟨_,_,h,e1,e2⟩=>(by rw[h,e1,e2])⟩
section
variable {Φ:Calls}{G:Str->Option Val}{env:Env}{s:Sto}
def QF{v:Val}{P:Val->Sto->Prop}:(evE Φ G env (.g v) s).post P↔P v s:=zC
def ZJ{i:Nat}{P:Val->Sto->Prop}:(evE Φ G env (.e i) s).post P↔∃v,env[i]?=some (some v)/\P v s:=by
 show (match env[i]? with|some (some v)=>Out.e v s|_=>.d).post P↔_
 split
 . rename_i v e
   refine zC.trans ⟨λh=>⟨_,e,h⟩,λN=>?_⟩;obtain⟨u,h1,x⟩:=N;rw[e]at h1;cases h1;exact x
 . rename_i hn
   exact⟨λ⟨_,_,e,_⟩=>(by cases e),λ⟨u,h1,x⟩=>absurd h1 (hn u)⟩
def QD{x:Str}{P:Val->Sto->Prop}:(evE Φ G env (.E x) s).post P↔∃v,G x=some v/\P v s:=by
 show (match G x with|some v=>Out.e v s|dr=>.d).post P↔_
 split
 . rename_i v e
   refine zC.trans ⟨λh=>⟨_,e,h⟩,λO=>?_⟩;obtain⟨u,h1,N⟩:=O;rw[e]at h1;cases h1;exact N
 . rename_i e
   exact⟨λ⟨_,_,e,_⟩=>(by cases e),λ⟨u,h1,N⟩=>(by rw[e]at h1;cases h1)⟩
def Pg{x:Str}{n:String}{P:Val->Sto->Prop}:(evE Φ G env (.L x n) s).post P↔P (.u n) s:=zC
def R9{m:Bool}{op:Bop}{a b:Ex}{P:Val->Sto->Prop}:(evE Φ G env (.j m op a b) s).post P↔(evE Φ G env a s).post λx s1=>(evE Φ G env b s1).post λy s2=>(binOp m op x y s2).post P:=by show (Out.bind _ _).post P↔_;simp only[zI]
def QH{a:Ex}{P:Val->Sto->Prop}:(evE Φ G env (.D a) s).post P↔(evE Φ G env a s).post λx s1=>∃i,x=.c i/\P (.c (-i)) s1:=by show (Out.bind _ _).post P↔_;simp only[zI];exact zt λx s1=>by cases x<;>simp[zC,ze]
def QI{a:Ex}{P:Val->Sto->Prop}:(evE Φ G env (.G a) s).post P↔(evE Φ G env a s).post λx s1=>∃b,x=.e b/\P (.e !b) s1:=by show (Out.bind _ _).post P↔_;simp only[zI];exact zt λx s1=>by cases x<;>simp[zC,ze]
def QB{op:Cop}{a b:Ex}{P:Val->Sto->Prop}:(evE Φ G env (.q op a b) s).post P↔(evE Φ G env a s).post λx s1=>(evE Φ G env b s1).post λy s2=>(zT op x y s2).post P:=by show (Out.bind _ _).post P↔_;simp only[zI]
def X7{op N:Cop}{a b c:Ex}{P:Val->Sto->Prop}:(evE Φ G env (.s op N a b c) s).post P↔(evE Φ G env a s).post λx s1=>(evE Φ G env b s1).post λy s2=>(zT op x y s2).post λr O=>∃t,r=.e t/\if t=true then (evE Φ G env c O).post λz Q=>(zT N y z Q).post P else P (.e false) O:=by
 show (Out.bind _ _).post P↔_;simp only[zI];refine zt λx s1=>zt λy s2=>zt λr O=>?_;cases r with
 |e t=>cases t<;>simp[zC,ze,zI]
 |_=>simp[ze]
def R8{a b:Ex}{es:Exs}{P:Val->Sto->Prop}:(evE Φ G env (.y a (.a b es)) s).post P↔(evE Φ G env a s).post λx s1=>∃t,x=.e t/\if t=true then (rl Φ G env (.a b es) s1).post P else P (.e false) s1:=by
 show (Out.bind _ _).post P↔_;simp only[zI];refine zt λx s1=>?_;cases x with
 |e t=>cases t<;>simp[zC,ze]
 |_=>simp[ze]
def Tc{a:Ex}{P:Val->Sto->Prop}:(rl Φ G env (.a a .c) s).post P↔(evE Φ G env a s).post P:=CW
def Td{a b:Ex}{es:Exs}{P:Val->Sto->Prop}:(rl Φ G env (.a a (.a b es)) s).post P↔(evE Φ G env a s).post λx s1=>∃t,x=.e t/\if t=true then (rl Φ G env (.a b es) s1).post P else P (.e false) s1:=by
 show ((evE Φ G env a s).bind λx s1=>match x with
  |.e true=>rl Φ G env (.a b es) s1
  |.e false=>.e (.e false) s1
  |_=>.d).post P↔_
 simp only[zI];refine zt λx s1=>?_;cases x with
 |e t=>cases t<;>simp[zC,ze]
 |_=>simp[ze]
def Pe{a b:Ex}{es:Exs}{P:Val->Sto->Prop}:(evE Φ G env (.I a (.a b es)) s).post P↔(evE Φ G env a s).post λx s1=>∃t,truth s1 x=some t/\if t=true then P x s1 else (lL Φ G env (.a b es) s1).post P:=by
 show (Out.bind _ _).post P↔_;simp only[zI];refine zt λx s1=>?_;cases truth s1 x with
 |some t=>cases t<;>simp[zC,ze]
 |none=>simp[ze]
def QJ{a:Ex}{P:Val->Sto->Prop}:(lL Φ G env (.a a .c) s).post P↔(evE Φ G env a s).post P:=CW
def QK{a b:Ex}{es:Exs}{P:Val->Sto->Prop}:(lL Φ G env (.a a (.a b es)) s).post P↔(evE Φ G env a s).post λx s1=>∃t,truth s1 x=some t/\if t=true then P x s1 else (lL Φ G env (.a b es) s1).post P:=by
 show ((evE Φ G env a s).bind λx s1=>match truth s1 x with
  |some false=>lL Φ G env (.a b es) s1
  |some true=>.e x s1
  |dr=>.d).post P↔_
 simp only[zI];refine zt λx s1=>?_;cases truth s1 x with
 |some t=>cases t<;>simp[zC,ze]
 |none=>simp[ze]
def QE{c:Cn}{a b:Ex}{P:Val->Sto->Prop}:(evE Φ G env (.H c a b) s).post P↔(evT Φ G env c s).post λt s1=>if t=true then (evE Φ G env a s1).post P else (evE Φ G env b s1).post P:=by show (Out.bind _ _).post P↔_;simp only[zI,xW]
def QM{es:Exs}{P:Val->Sto->Prop}:(evE Φ G env (.k es) s).post P↔(zY Φ G env es s).post λvs s1=>(if vs.length<=zW then Out.e (Val.f vs) s1 else .d).post P:=by show (Out.bind _ _).post P↔_;simp only[zI]
def QG{m:Bool}{es:Exs}{P:Val->Sto->Prop}:(evE Φ G env (.u m es) s).post P↔(zY Φ G env es s).post λvs s1=>(if vs.length<=zW then newList m vs s1 else .d).post P:=by show (Out.bind _ _).post P↔_;simp only[zI]
def Te{f:Str}{v:Nat}{es:Exs}{P:Val->Sto->Prop}:(evE Φ G env (.h f v es) s).post P↔(zY Φ G env es s).post λvs s1=>(Φ f v vs s1).post P:=by show (Out.bind _ _).post P↔_;simp only[zI]
def VQ{f:Bf}{m:Bool}{es:Exs}{P:Val->Sto->Prop}:(evE Φ G env (.l f m es) s).post P↔(zY Φ G env es s).post λvs s1=>(blt f m vs s1).post P:=by show (Out.bind _ _).post P↔_;simp only[zI]
def Tj{f:Mf}{m:Bool}{o:Ex}{es:Exs}{P:Val->Sto->Prop}:(evE Φ G env (.M f m o es) s).post P↔(evE Φ G env o s).post λx s1=>(zY Φ G env es s1).post λvs s2=>(xA f x vs s2).post P:=by show (Out.bind _ _).post P↔_;simp only[zI]
def ZE{m:Bool}{a b c:Ex}{P:Val->Sto->Prop}:(evE Φ G env (.p m a b c) s).post P↔(evE Φ G env a s).post λx s1=>(evE Φ G env b s1).post λy s2=>(evE Φ G env c s2).post λz N=>(Rv m x y z N).post P:=by show (Out.bind _ _).post P↔_;simp only[zI]
def Pd{a b:Ex}{P:Val->Sto->Prop}:(evE Φ G env (.A a b) s).post P↔(evE Φ G env a s).post λx s1=>(evE Φ G env b s1).post λy s2=>(vH x y s2).post P:=by show (Out.bind _ _).post P↔_;simp only[zI]
def Pf{m:Bool}{a:Ex}{lo hi st:OEx}{P:Val->Sto->Prop}:(evE Φ G env (.J m a lo hi st) s).post P↔(evE Φ G env a s).post λx s1=>(evO Φ G env lo s1).post λl s2=>(evO Φ G env hi s2).post λh O=>(evO Φ G env st O).post λc N=>(tU m x l h c N).post P:=by show (Out.bind _ _).post P↔_;simp only[zI]
def Tn{P:Option Int->Sto->Prop}:(evO Φ G env .b s).post P↔P none s:=zC
def To{e:Ex}{P:Option Int->Sto->Prop}:(evO Φ G env (.a e) s).post P↔(evE Φ G env e s).post λv s1=>∃i,v=.c i/\P (some i) s1:=by show (Out.bind _ _).post P↔_;simp only[zI];exact zt λx s1=>by cases x<;>simp[zC,ze]
def ZF{P:List Val->Sto->Prop}:(zY Φ G env .c s).post P↔P [] s:=zC
def jt{e:Ex}{es:Exs}{P:List Val->Sto->Prop}:(zY Φ G env (.a e es) s).post P↔(evE Φ G env e s).post λv s1=>(zY Φ G env es s1).post λvs s2=>P (v::vs) s2:=by show (Out.bind _ _).post P↔_;simp only[zI,zC]
def ZI{e:Ex}{P:Bool->Sto->Prop}:(evT Φ G env (.a e) s).post P↔(evE Φ G env e s).post λv s1=>∃b,truth s1 v=some b/\P b s1:=by
 show (Out.bind (evE Φ G env e s) _).post P↔_;simp only[zI];refine⟨λh=>zU h λv s1 h=>?_,λh=>zU h λv s1 h=>?_⟩
 . split at h
   . rename_i b e;exact⟨b,e,zC.mp h⟩
   . obtain⟨_,_,e,_⟩:=h;cases e
 . obtain⟨b,e,h⟩:=h
   rw[e];exact zC.mpr h
def Ts{c:Cn}{P:Bool->Sto->Prop}:(evT Φ G env (.b c) s).post P↔(evT Φ G env c s).post λb s1=>P (!b) s1:=by show (Out.bind _ _).post P↔_;simp only[zI,zC]
def Tr{c:Cn}{cs:Cns}{P:Bool->Sto->Prop}:(evT Φ G env (.d c cs) s).post P↔(evT Φ G env c s).post λb s1=>if b=true then (xQ Φ G env cs s1).post P else P false s1:=by show (Out.bind _ _).post P↔_;simp only[zI,xW,zC]
def QL{c:Cn}{cs:Cns}{P:Bool->Sto->Prop}:(evT Φ G env (.f c cs) s).post P↔(evT Φ G env c s).post λb s1=>if b=true then P true s1 else (tJ Φ G env cs s1).post P:=by show (Out.bind _ _).post P↔_;simp only[zI,xW,zC]
def qP{P:Bool->Sto->Prop}:(xQ Φ G env .a s).post P↔P true s:=zC
def WC{P:Bool->Sto->Prop}:(tJ Φ G env .a s).post P↔P false s:=zC
def ZH{c:Cn}{cs:Cns}{P:Bool->Sto->Prop}:(xQ Φ G env (.b c cs) s).post P↔(evT Φ G env c s).post λb s1=>if b=true then (xQ Φ G env cs s1).post P else P false s1:=by show (Out.bind _ _).post P↔_;simp only[zI,xW,zC]
def ZG{c:Cn}{cs:Cns}{P:Bool->Sto->Prop}:(tJ Φ G env (.b c cs) s).post P↔(evT Φ G env c s).post λb s1=>if b=true then P true s1 else (tJ Φ G env cs s1).post P:=by show (Out.bind _ _).post P↔_;simp only[zI,xW,zC]
def ZD{e:Ex}{P:Src->Sto->Prop}:(yl Φ G env (.f e) s).post P↔(evE Φ G env e s).post λv s1=>∃r,srcOf s1 v=some r/\P r s1:=by
 show (Out.bind _ _).post P↔_;simp only[zI];refine⟨λh=>zU h λv s1 h=>?_,λh=>zU h λv s1 h=>?_⟩
 . split at h
   . rename_i b e;exact⟨b,e,zC.mp h⟩
   . obtain⟨_,_,e,_⟩:=h;cases e
 . obtain⟨b,e,h⟩:=h
   rw[e];exact zC.mpr h
def ll{a:Ex}{P:Src->Sto->Prop}:(yl Φ G env (.d a) s).post P↔(evE Φ G env a s).post λx s1=>∃j,x=.c j/\(-(2 ^ 62)<=j/\j<=zW)/\P ⟨wI 0 j.toNat,dr⟩ s1:=by
 show (Out.bind _ _).post P↔_;simp only[zI];refine⟨λh=>zU h λv s1 h=>?_,λh=>zU h λv s1 h=>?_⟩
 . split at h
   . rw[xW]at h
     split at h
     . rename_i j z;exact⟨_,rfl,z,zC.mp h⟩
     . obtain⟨_,_,e,_⟩:=h;cases e
   . obtain⟨_,_,e,_⟩:=h;cases e
 . obtain⟨j,rfl,z,h⟩:=h
   simp only[if_pos z];exact zC.mpr h
def lq{a b:Ex}{P:Src->Sto->Prop}:(yl Φ G env (.g a b) s).post P↔(evE Φ G env a s).post λx s1=>(evE Φ G env b s1).post λy s2=>∃i j,x=.c i/\y=.c j/\(-(2 ^ 62)<=i/\i<2 ^ 62∧-(2 ^ 62)<=j/\j<2 ^ 62/\j-i<=zW)/\P ⟨wI i (j-i).toNat,dr⟩ s2:=by
 show (Out.bind _ _).post P↔_;simp only[zI];refine⟨λh=>zU h λv s1 h=>zU h λw s2 h=>?_,λh=>zU h λv s1 h=>zU h λw s2 h=>?_⟩
 . split at h
   . rw[xW]at h
     split at h
     . rename_i z;exact⟨_,_,rfl,rfl,z,zC.mp h⟩
     . obtain⟨_,_,e,_⟩:=h;cases e
   . obtain⟨_,_,e,_⟩:=h;cases e
 . obtain⟨i,j,rfl,rfl,z,h⟩:=h
   simp only[if_pos z];exact zC.mpr h
def Tg{a:Ex}{P:Src->Sto->Prop}:(yl Φ G env (.i a) s).post P↔(evE Φ G env a s).post λx s1=>∃vs,(x=.f vs\/x=.h vs)/\P ⟨gK 0 vs,dr⟩ s1:=by
 show (Out.bind _ _).post P↔_;simp only[zI];refine⟨λh=>zU h λv s1 h=>?_,λh=>zU h λv s1 h=>?_⟩
 . split at h
   . exact⟨_,.inl rfl,zC.mp h⟩
   . exact⟨_,.inr rfl,zC.mp h⟩
   . obtain⟨_,_,e,_⟩:=h;cases e
 . obtain⟨j,rfl|rfl,h⟩:=h<;>exact zC.mpr h
def ZC{e:Ex}{P:Fl->Sto->Prop}:(exS Φ G env (.h e) s).post P↔(evE Φ G env e s).post λ_ s1=>P (.a env) s1:=by show (Out.bind _ _).post P↔_;simp only[zI,zC]
def gZ{e:Ex}{P:Fl->Sto->Prop}:(exS Φ G env (.f e) s).post P↔(evE Φ G env e s).post λv s1=>P (.b v) s1:=by show (Out.bind _ _).post P↔_;simp only[zI,zC]
def Tq{P:Fl->Sto->Prop}:(exS Φ G env .s s).post P↔P (.b .g) s:=zC
def VP{i:Nat}{e:Ex}{P:Fl->Sto->Prop}:(exS Φ G env (.g i e) s).post P↔(evE Φ G env e s).post λv s1=>P (.a (env.set i (some v))) s1:=by show (Out.bind _ _).post P↔_;simp only[zI,zC]
def az{is:List Nat}{e:Ex}{P:Fl->Sto->Prop}:(exS Φ G env (.n is e) s).post P↔(evE Φ G env e s).post λv s1=>∃env',yZ (.b is) v env=some env'/\P (.a env') s1:=by
 show (Out.bind _ _).post P↔_;simp only[zI];refine⟨λh=>zU h λv s1 h=>?_,λh=>zU h λv s1 h=>?_⟩
 . split at h
   . rename_i b e;exact⟨b,e,zC.mp h⟩
   . obtain⟨_,_,e,_⟩:=h;cases e
 . obtain⟨b,e,h⟩:=h
   rw[e];exact zC.mpr h
def VR{is:List Nat}{es:Exs}{P:Fl->Sto->Prop}:(exS Φ G env (.q is es) s).post P↔(zY Φ G env es s).post λvs s1=>(if vs.length=is.length then Out.e (Fl.a ((is.zip vs).foldl (λe p=>e.set p.1 (some p.2)) env)) s1 else .d).post P:=by show (Out.bind _ _).post P↔_;simp only[zI]
def WA{o i e:Ex}{P:Fl->Sto->Prop}:(exS Φ G env (.l o i e) s).post P↔(evE Φ G env e s).post λv s1=>(evE Φ G env o s1).post λx s2=>(evE Φ G env i s2).post λy N=>∃r k vs j,x=.m r/\y=.c k/\N[r]?=some (.c vs)/\L2.ixN vs.length k=some j/\P (.a env) (upd N r (vs.set j v)):=by
 show (Out.bind _ _).post P↔_;simp only[zI];refine zt λv s1=>zt λx s2=>zt λy N=>⟨λh=>?_,λ⟨r,k,vs,j,h1,h2,h3,h4,h5⟩=>?_⟩
 . split at h
   . split at h
     . rename_i e3
       split at h
       . rename_i e4;exact⟨_,_,_,_,rfl,rfl,e3,e4,zC.mp h⟩
       . exact(ze.mp h).elim
     . exact(ze.mp h).elim
   . exact(ze.mp h).elim
 . subst h1;subst h2
   simp only[h3,h4];exact zC.mpr h5
def Ti{c:Cn}{a b:Sms}{P:Fl->Sto->Prop}:(exS Φ G env (.j c a b) s).post P↔(evT Φ G env c s).post λt s1=>if t=true then (zd Φ G env a s1).post P else (zd Φ G env b s1).post P:=by show (Out.bind _ _).post P↔_;simp only[zI,xW]
def Tp{P:Fl->Sto->Prop}:(exS Φ G env .r s).post P↔P (.a env) s:=zC
def QA{P:Fl->Sto->Prop}:(exS Φ G env .w s).post P↔P (.c env) s:=zC
def Tf{P:Fl->Sto->Prop}:(exS Φ G env .p s).post P↔P (.d env) s:=zC
def ju{P:Fl->Sto->Prop}:(zd Φ G env .f s).post P↔P (.a env) s:=zC
def ph(Φ:Calls)(G:Str->Option Val)(cs:Sms)(P:Fl->Sto->Prop):Fl->Sto->Prop
 |.a e,s1=>(zd Φ G e cs s1).post P
 |fl,s1=>P fl s1
def z7{c:Sm}{cs:Sms}{P:Fl->Sto->Prop}:(zd Φ G env (.e c cs) s).post P↔(exS Φ G env c s).post (ph Φ G cs P):=by
 show (Out.bind _ _).post P↔_;simp only[zI];have:∀fl s1,(match fl with|.a e=>zd Φ G e cs s1|fl=>Out.e fl s1:Out Fl).post P↔ph Φ G cs P fl s1:=λfl s1=>by
  cases fl with
  |a e=>exact CW
  |_=>exact zC
 exact⟨λh=>zU h λfl s1 h=>(this fl s1).mp h,λh=>zU h λfl s1 h=>(this fl s1).mpr h⟩
def Wr{cs:Sms}{P:Fl->Sto->Prop}{e:Env}:ph Φ G cs P (.a e) s↔(zd Φ G e cs s).post P:=CW
def g9{cs:Sms}{P:Fl->Sto->Prop}{v:Val}:ph Φ G cs P (.b v) s↔P (.b v) s:=CW
def Wo{cs:Sms}{P:Fl->Sto->Prop}{v:Env}:ph Φ G cs P (.c v) s↔P (.c v) s:=CW
def Wq{cs:Sms}{P:Fl->Sto->Prop}{v:Env}:ph Φ G cs P (.d v) s↔P (.d v) s:=CW
theorem vf{I:Env->Prop}(P:r.ok s=true):∀N,(∀x∈N,∀e acc,I e->∃e1 e2,yZ t x e=some e1/\body e1 s acc=.e (acc++g x,e2) s/\I e2)->∀e acc,I e->∃O,I O/\ya r t body N e s acc=.e (acc++N.flatMap g,O) s
 |[],_,e,acc,h0=>⟨e,h0,by simp[ya,P]⟩
 |x::N,h,e,acc,h0=>by obtain⟨e1,e2,h1,W,U⟩:=h x (.head _) e acc h0;obtain⟨O,S,R⟩:=vf P N (λy Q=>h y (.tail _ Q)) e2 (acc++g x) U;refine⟨O,S,?_⟩;simp only[ya,P,if_true,h1,W,zM,R,FD,Br]
def ZA(I:Env->Prop)g
 (h:(yl Φ G env it s).post λr s1=>r.ok s1=true/\I (za fr env)/\(∀x∈r.a,∀e,I e->∃e1,yZ t x e=some e1/\I e1/\(xQ Φ G e1 ifs s1).post λb s2=>s2=s1/\if b=true then (evE Φ G e1 elt s1).post (λv s2=>s2=s1/\g x=[v]) else g x=[])/\(newList m (r.a.flatMap g) s1).post P) :
 (evE Φ G env (.r m N fr elt t it ifs) s).post P:=by
 obtain⟨r,s1,ei,h1,h2,Z,Y⟩:=h;obtain⟨e',_,W⟩:=vf (I:=I) (g:=g) (body:=λe s' acc=>(xQ Φ G e ifs s').bind λb s2=>if b then (evE Φ G e elt s2).bind λv Q=>.e (acc++[v],e) Q else .e (acc,e) s2) h1 r.a (λx hx e acc U=>by
  obtain⟨e1,k1,k2,b,s2,k3,rfl,O⟩:=Z x hx e U;refine⟨e1,e1,k1,?_,k2⟩;rw[k3,zM];cases b with
  |true=>
   rw[if_pos rfl]at O ⊢;obtain⟨v,Q,R,rfl,S⟩:=O;rw[R,zM,S]
  |false=>
   rw[if_neg Ac]at O ⊢;rw[O,A4]) (za fr env) [] h2
 show (Out.bind (yl Φ G env it s) _).post P;rw[ei,zM];rw[W,zM];exact Y
def Small(l:List Val):Prop:=l.length<=zW
def X8(I:Env->Prop)g(J:Val->Env->Prop)(g2:Val->Val->List Val)
 (h:(yl Φ G env it s).post λr s1=>r.ok s1=true/\I (za fr env)/\(∀x∈r.a,∀e,I e->∃e1,yZ t x e=some e1/\(xQ Φ G e1 ifs s1).post λb s2=>s2=s1/\if b=true then (yl Φ G e1 it2 s1).post (λS s2=>s2=s1/\S.ok s1=true/\J x e1/\(∀e,J x e->I e)/\g x=S.a.flatMap (g2 x)/\∀y∈S.a,∀e,J x e->∃e2,yZ t2 y e=some e2/\J x e2/\(xQ Φ G e2 ifs2 s1).post λb s2=>s2=s1/\if b=true then (evE Φ G e2 elt s1).post (λv s2=>s2=s1/\g2 x y=[v]) else g2 x y=[]) else g x=[]/\I e1)/\Small (r.a.flatMap g)/\(newList m (r.a.flatMap g) s1).post P) :
 (evE Φ G env (.w m N fr elt t it ifs t2 it2 ifs2) s).post P:=by
 obtain⟨r,s1,ei,h1,h2,h3,hl,h4⟩:=h;obtain⟨R,_,h5⟩:=vf (I:=I) (g:=g) (body:=λe s' acc=>(xQ Φ G e ifs s').bind λb s2=>if b then (yl Φ G e it2 s2).bind λS Z=>
        ya S t2 (λR Y O=>(xQ Φ G R ifs2 Y).bind λb' U=>if b' then (evE Φ G R elt U).bind λv W=>.e (O++[v],R) W else .e (O,R) U) S.a e Z acc
  else .e (acc,e) s2) h1 r.a (λx hx e acc he=>by
  obtain⟨e1,k1,b,s2,k3,rfl,Q⟩:=h3 x hx e he;cases b with
  |true=>
   rw[if_pos rfl]at Q;obtain⟨S,Z,k5,rfl,k6,k7,k8,k9,k10⟩:=Q;obtain⟨e2,k11,k12⟩:=vf (I:=J x) (g:=g2 x) (body:=λR Y O=>(xQ Φ G R ifs2 Y).bind λb' U=>if b' then (evE Φ G R elt U).bind λv W=>.e (O++[v],R) W else .e (O,R) U) k6 S.a (λy hy e acc he=>by
    obtain⟨e1,k1,k2,b,s2,k3,rfl,Q⟩:=k10 y hy e he;refine⟨e1,e1,k1,?_,k2⟩;rw[k3,zM];cases b with
    |true=>
     rw[if_pos rfl]at Q ⊢;obtain⟨v,Z,kw,rfl,kv⟩:=Q;rw[kw,zM,kv]
    |false=>
     rw[if_neg Ac]at Q ⊢;rw[Q,A4]) e1 acc k7
   refine⟨e1,e2,k1,?_,k8 _ k11⟩;rw[k3,zM,if_pos rfl,k5,zM,k12,k9]
  |false=>
   rw[if_neg Ac]at Q;refine⟨e1,e1,k1,?_,Q.2⟩;rw[k3,zM,if_neg Ac,Q.1,A4]) (za fr env) [] h2
 show (Out.bind (yl Φ G env it s) _).post P;rw[ei,zM];rw[h5,zM];simp only[De];rw[if_pos (show (r.a.flatMap g).length<=zW from hl)];exact h4
theorem ot(Q:List Val->Env->Sto->List Val->Prop):∀N,(∀e s acc,Q [] e s acc->r.ok s=true)->(∀x rest e s acc,Q (x::rest) e s acc->r.ok s=true/\∃e1,yZ t x e=some e1/\(body e1 s acc).post λp s2=>Q rest p.2 s2 p.1)->∀e s acc,Q N e s acc->(ya r t body N e s acc).post λp s2=>Q [] p.2 s2 p.1
 |[],h0,_,e,s,acc,q=>by
  simp only[ya,h0 e s acc q,if_true];exact zC.mpr q
 |x::N,h0,h,e,s,acc,q=>by obtain⟨h1,e1,P,O⟩:=h x N e s acc q;simp only[ya,h1,if_true,P,zI];exact zU O λp s2 q=>ot Q N h0 h p.2 s2 p.1 q
def X9(Q:List Val->Env->Sto->List Val->Prop)
 (h:(yl Φ G env it s).post λr s1=>Q r.a (za fr env) s1 []/\(∀rest e s acc,Q rest e s acc->r.ok s=true)/\(∀x rest e s acc,Q (x::rest) e s acc->∃e1,yZ t x e=some e1/\(xQ Φ G e1 ifs s).post λb s2=>if b=true then (evE Φ G e1 elt s2).post (λv R=>Q rest e1 R (acc++[v])) else Q rest e1 s2 acc)/\∀e s acc,Q [] e s acc->(newList m acc s).post P) :
 (evE Φ G env (.r m N fr elt t it ifs) s).post P:=by
 obtain⟨r,s1,W,h1,O,U,S⟩:=h;show (Out.bind (yl Φ G env it s) _).post P;rw[W,zM,zI];refine zU (ot Q r.a (λe s acc q=>O _ e s acc q) (λx rest e s acc q=>⟨O _ e s acc q,?_⟩) _ _ _ h1) λp s2 q=>S _ _ _ q;obtain⟨e1,k1,k2⟩:=U x rest e s acc q;refine⟨e1,k1,?_⟩;simp only[zI];refine zU k2 λb s2 k=>?_;cases b with
 |true=>
  rw[if_pos rfl]at k ⊢;simp only[zI,zC];exact k
 |false=>
  rw[if_neg Ac]at k ⊢;exact zC.mpr k
theorem rK(Q:List Val->Env->Sto->Prop)(R:Fl->Sto->Prop){r:Src}{t:Tgt}{body:Env->Sto->Out Fl}(h0:∀e s,Q [] e s->R (.a e) s):∀(N:List Val),(∀rest e s,Q rest e s->r.ok s=true)->(∀x rest e s,Q (x::rest) e s->∃e1,yZ t x e=some e1/\(body e1 s).post λfl s2=>match fl with|.a e=>Q rest e s2|.d e=>Q rest e s2|.c e=>R (.a e) s2|.b v=>R (.b v) s2)->∀e s,Q N e s->(vq r t body N e s).post R
 |[],hk,_,e,s,q=>by
  simp only[vq,hk _ _ _ q,if_true];exact zC.mpr (h0 _ _ q)
 |x::N,hk,h,e,s,q=>by
  obtain⟨e1,P,O⟩:=h x N e s q;simp only[vq,hk _ _ _ q,if_true,P,zI];refine zU O λfl s2 q=>?_;cases fl with
  |a e=>exact rK Q R h0 N hk h e s2 q
  |d e=>exact rK Q R h0 N hk h e s2 q
  |c e=>exact zC.mpr q
  |b v=>exact zC.mpr q
def r0(Q:Env->Sto->Prop)(R:Fl->Sto->Prop):Fl->Sto->Prop
 |.a e,s=>Q e s
 |.d e,s=>Q e s
 |.c e,s=>R (.a e) s
 |.b v,s=>R (.b v) s
def We{Q:Env->Sto->Prop}{R:Fl->Sto->Prop}{e:Env}:r0 Q R (.a e) s↔Q e s:=CW
def Wd{Q:Env->Sto->Prop}{R:Fl->Sto->Prop}{e:Env}:r0 Q R (.d e) s↔Q e s:=CW
def Wc{Q:Env->Sto->Prop}{R:Fl->Sto->Prop}{e:Env}:r0 Q R (.c e) s↔R (.a e) s:=CW
def Wf{Q:Env->Sto->Prop}{R:Fl->Sto->Prop}{v:Val}:r0 Q R (.b v) s↔R (.b v) s:=CW
def QC(Q:List Val->Env->Sto->Prop)
 (h:(yl Φ G env it s).post λr s1=>Q r.a env s1/\(∀rest e s,Q rest e s->r.ok s=true)/\(∀x rest e s,Q (x::rest) e s->∃e1,yZ t x e=some e1/\(zd Φ G e1 b s).post (r0 (Q rest) R))/\∀e s,Q [] e s->R (.a e) s) :
 (exS Φ G env (.k t it b) s).post R:=by
 obtain⟨r,s1,S,h1,P,O,N⟩:=h;show (Out.bind (yl Φ G env it s) _).post R;rw[S,zM];refine rK Q R N r.a P (λx rest e s q=>?_) _ _ h1;obtain⟨e1,k1,k2⟩:=O x rest e s q;refine⟨e1,k1,zU k2 λfl s2 k=>?_⟩;cases fl<;>exact k
def vk(Q:List Val->Env->Sto->Prop)xs(hi:yl Φ G env it s=.e ⟨xs,dr⟩ s1)(h0:Q xs env s1)
 (h1:∀x rest e s,Q (x::rest) e s->∃e1,yZ t x e=some e1/\(zd Φ G e1 b s).post (r0 (Q rest) R)) (N:∀e s,Q [] e s->R (.a e) s) :
 (exS Φ G env (.k t it b) s).post R:=QC Q ⟨_,_,hi,h0,λ_ _ _ _=>rfl,h1,N⟩
def gX(I:Env->Prop)g xs(hi:yl Φ G env it s=.e ⟨xs,dr⟩ s1)(h0:I (za fr env))
 (h1:∀x∈xs,∀e,I e->∃e1,yZ t x e=some e1/\I e1/\(xQ Φ G e1 ifs s1).post λb s2=>s2=s1/\if b=true then (evE Φ G e1 elt s1).post (λv s2=>s2=s1/\g x=[v]) else g x=[]) (O:(newList m (xs.flatMap g) s1).post P) :
 (evE Φ G env (.r m N fr elt t it ifs) s).post P:=ZA I g ⟨_,_,hi,rfl,h0,h1,O⟩
def eN(Q:Nat->Env->Sto->Prop)R:∀n k,n<k->(∀n e s,Q n e s->(c e s).post λb s1=>if b=true then (body e s1).post (r0 (λe s=>∃m,m<n/\Q m e s) R) else R (.a e) s1)->∀e s,Q n e s->(uQ c body k e s).post R:=by
 intro n;induction n using Nat.strongRecOn with
 |ind n N=>
  intro k hk h e s q;cases k with
  |zero=>omega
  |succ k=>
   simp only[uQ,zI];refine zU (h n e s q) λb s1 z=>?_;cases b with
   |true=>
    rw[if_pos rfl]at z ⊢;simp only[zI];refine zU z λfl s2 z=>?_;cases fl with
    |a e=>
     obtain⟨m,h1,x⟩:=z;exact N m h1 k ⋯ h e s2 x
    |d e=>
     obtain⟨m,h1,x⟩:=z;exact N m h1 k ⋯ h e s2 x
    |c e=>exact zC.mpr z
    |b v=>exact zC.mpr z
   |false=>
    rw[if_neg Ac]at z ⊢;exact zC.mpr z
def WD n(Q:Nat->Env->Sto->Prop)(x:n<mz)(q:Q n env s)
 (h:∀n e s,Q n e s->(evT Φ G e c s).post λt s1=>if t=true then (zd Φ G e b s1).post (r0 (λe s=>∃m,m<n/\Q m e s) R) else R (.a e) s1) :
 (exS Φ G env (.m c b) s).post R:=eN Q R n mz x h env s q
end
def Ws{s:Sto}:truth s .g=some false:=rfl
def xB{s:Sto}{b:Bool}:truth s (.e b)=some b:=rfl
def So{s:Sto}{i:Int}:truth s (.c i)=some (i != 0):=rfl
def Sq{s:Sto}{vs:List Val}:truth s (.f vs)=some !vs.isEmpty:=rfl
def YD{s:Sto}{vs:List Val}:truth s (.h vs)=some !vs.isEmpty:=rfl
def SV{s:Sto}{vs:List Val}:srcOf s (.f vs)=some ⟨vs,dr⟩:=rfl
def SU{s:Sto}{vs:List Val}:srcOf s (.h vs)=some ⟨vs,dr⟩:=rfl
def Wb{s:Sto}{ns:List Int}:srcOf s (.p ns)=some ⟨ns.map .c,dr⟩:=rfl
def Z5{s:Sto}{x:List Val}:Src.ok ⟨x,dr⟩ s=true:=rfl
def RC{i:Nat}{v:Val}{env:Env}:yZ (.a i) v env=some (env.set i (some v)):=rfl
def Vv{is:List Nat}{vs:List Val}{env:Env}:yZ (.b is) (.f vs) env=if vs.length=is.length then some ((is.zip vs).foldl (λe p=>e.set p.1 (some p.2)) env) else dr:=rfl
def cO vs:sy vs vs=true:=ue vs
def lD(c:Cel):c.beq c=true:=by cases c<;>simp[Cel.beq,cO]
theorem vJ:∀s t,wV s (s++t)=true
 |[],_=>rfl
 |c::r,t=>by simp[wV,lD c,vJ r t]
def jj s:wV s s=true:=by have:=vJ s [];rwa [A4]at this
theorem pI:∀s t i c,c.noRef=true->wV s (s.set i c++t)=true
 |[],_,_,_,_=>by simp[wV]
 |_::r,t,0,c,h=>by simp[wV,h,vJ r t]
 |o::r,t,i+1,c,h=>by simp[wV,lD o,pI r t i c h]
def eT s t i vs(h:zo vs=true):wV s (s.set i (.c vs)++t)=true:=pI s t i _ h
def mG:Val.g.noRef=true:=by rw[Val.noRef]
def vi{b:Bool}:(Val.e b).noRef=true:=by rw[Val.noRef]
def pG{b:Int}:(Val.c b).noRef=true:=by rw[Val.noRef]
def mH{b:Str}:(Val.j b).noRef=true:=by rw[Val.noRef]
def mI{vs:List Val}:(Val.f vs).noRef=zo vs:=by rw[Val.noRef]
def pH{vs:List Val}:(Val.h vs).noRef=zo vs:=by rw[Val.noRef]
def qN:zo []=true:=by rw[zo]
def vI{v:Val}{vs:List Val}:zo (v::vs)=(v.noRef&&zo vs):=by rw[zo]
theorem wH:∀ns:List Int,zo (ns.map .c)=true
 |[]=>rfl
 |_::ns=>by simp[zo,Val.noRef,wH ns]
theorem pC:∀zs:List (Int × Int),zo (zs.map prV)=true
 |[]=>rfl
 |_::zs=>by simp[zo,Val.noRef,prV,pC zs]
def yE(k:Bool)(x:Sto)(v:Val)(s:Sto):Out Val:=
 if k then .e v s
 else if wV x s then (match freeze x.length s v with|some N=>.e N (s.take x.length)|dr=>.d) else .d
def lS{x s:Sto}{v:Val}:yE true x v s=.e v s:=rfl
def vd{k:Bool}{s:Sto}{v:Val}(h:v.noRef=true):yE k s v s=.e v s:=by
 unfold yE;cases k
 . simp[jj,freeze,h]
 . rfl
def jV(h:v.noRef=true):yE false s v (s++t)=.e v s:=by unfold yE;simp[vJ,freeze,h]
def jW(h:v.noRef=true)(x:zo vs=true):yE false s v (s.set i (.c vs)++t)=.e v (s.set i (.c vs)):=by
 unfold yE;have e:s.length=(s.set i (.c vs)).length:=by rw[BN]
 simp only[eT s t i vs x,freeze,h,if_true,A2,if_false,e,List.take_left']
def jU(hi:i ≥ s.length)(x:(s++t)[i]?=some (.c vs))(h:zo vs=true):yE false s (.m i) (s++t)=.e (.h vs) s:=by
 unfold yE;have:¬i<s.length:=by omega
 simp[vJ,freeze,Val.noRef,wc,this,x,h]
def fin(k:Bool)(s:Sto)(P:Val->Sto->Prop):Fl->Sto->Prop
 |.a _,s1=>(yE k s .g s1).post P
 |.b v,s1=>(yE k s v s1).post P
 |_,_=>False
def UI{k:Bool}{s s1:Sto}{P:Val->Sto->Prop}{e:Env}:fin k s P (.a e) s1↔(yE k s .g s1).post P:=CW
def bR{k:Bool}{s s1:Sto}{P:Val->Sto->Prop}{v:Val}:fin k s P (.b v) s1↔(yE k s v s1).post P:=CW
def vv{T:Tbl}{Φ:Calls}{N ps:List Str}{k:Bool}{b:Sms}{vs:List Val}{s:Sto}{P:Val->Sto->Prop}:(run T Φ ⟨N,ps,k,b⟩ vs s).post P↔vs.length=ps.length/\(zd Φ T.b (zS N vs) b s).post (fin k s P):=by
 unfold run;by_cases hl:vs.length=ps.length
 . rw[if_pos hl,zI]
   refine⟨λh=>⟨hl,zU h λfl s1 h=>?_⟩,λh=>zU h.2 λfl s1 h=>?_⟩
   . cases fl<;>first|exact h|exact(ze.mp h).elim
   . cases fl<;>first|exact h|exact h.elim
 . rw[if_neg hl]
   exact⟨λh=>(ze.mp h).elim,λh=>absurd h.1 hl⟩
def zk(h:T.d f v=some F)vs s:zB T (n+1) f v vs s=run T (zB T n) F vs s:=by simp only[zB,h]
def qa(h:T.d f v=some F)(x:vs.length=F.b.length)s:zO T (n+1) f v vs s=xSs (λc=>(T.e.lookup c).isSome) (zB T n) (zO T n) T.b (zS F.N vs) F.a s:=by simp only[zO,h];rw[if_pos x]
def At(T:Tbl)(k:Nat)(C:Calls->Prop):Prop:=∀n,k<=n->C (zB T n)
def EVl:=Ad @QF <| Ad @ZJ <| Ad @QD <| Ad @Pg <| Ad @R9 <| Ad @QH <| Ad @QI <| Ad @QB <| Ad @X7 <| Ad @R8 <| Ad @Tc <| Ad @Td <| Ad @Pe <| Ad @QJ <| Ad @QK <| Ad @QE <| Ad @QM <| Ad @QG <| Ad @Te <| Ad @VQ <| Ad @Tj <| Ad @ZE <| Ad @Pd <| Ad @Pf <| Ad @Tn <| Ad @To <| Ad @ZF <| Ad @jt <| Ad @ZI <| Ad @Ts <| Ad @Tr <| Ad @QL <| Ad @qP <| Ad @WC <| Ad @ZH <| Ad @ZG <| Ad @ZD <| Ad @ll <| Ad @lq <| Ad @Tg <| Ad @ZC <| Ad @gZ <| Ad @Tq <| Ad @VP <| Ad @az <| Ad @VR <| Ad @WA <| Ad @Ti <| Ad @Tp <| Ad @QA <| Ad @Tf <| Ad @ju <| Ad @z7 <| Ad @Wr <| Ad @g9 <| Ad @Wo <| Ad @Wq <| Ad @We <| Ad @Wd <| Ad @Wc <| Ad @Wf <| Ad @zC <| Ad @xW <| Ad @ze <| Ad @Ws <| Ad @xB <| Ad @So <| Ad @Sq <| Ad @YD <| Ad @SV <| Ad @SU <| Ad @Wb <| Ad @Z5 <| Ad @RC <| Ad @Vv <| Ad @vv <| Ad @UI <| Ad @bR <| Ad @lS <| Ad @vd <| Ad @mG <| Ad @vi <| Ad @pG <| Ad @mH <| Ad @mI <| Ad @pH <| Ad @qN <| Ad @vI <| Ad @wH <| @pC
def bnd{o:Out α}{a}{f}{r:Out β}(h:o=.e a s)(k:f a s=r):o.bind f=r:=by rw[h];exact k
def zL:evE Φ G env (.g v) s=.e v s:=rfl
def zF(h:env[i]?=some (some v)):evE Φ G env (.e i) s=.e v s:=post_eq.mpr (ZJ.mpr ⟨v,h,rfl,rfl⟩)
def kQ:evE Φ G env (.L x n) s=.e (.u n) s:=rfl
def mr(h:G x=some v):evE Φ G env (.E x) s=.e v s:=post_eq.mpr (QD.mpr ⟨v,h,rfl,rfl⟩)
def YO(h1:evE Φ G env a s=.e (.e false) s1):evE Φ G env (.y a (.a b es)) s=.e (.e false) s1:=bnd h1 rfl
def YQ(h1:evE Φ G env a s=.e (.e true) s1)(x:evE Φ G env b s1=.e (.e false) s2):evE Φ G env (.y a (.a b (.a c es))) s=.e (.e false) s2:=bnd h1 (show (evE Φ G env b s1).bind _=_ from bnd x rfl)
def YR(h1:evE Φ G env a s=.e (.e true) s1)(N:evE Φ G env b s1=.e (.e true) s2)(x:evE Φ G env c s2=r):evE Φ G env (.y a (.a b (.a c .c))) s=r:=bnd h1 (show (evE Φ G env b s1).bind _=_ from bnd N x)
def YU(h:evE Φ G env a s=.e (.c i) s1):evE Φ G env (.D a) s=.e (.c (-i)) s1:=bnd h rfl
def zu(h1:evE Φ G env a s=.e x s1)(O:evE Φ G env b s1=.e y s2)(N:binOp m op x y s2=r):evE Φ G env (.j m op a b) s=r:=bnd h1 (bnd O N)
def u9(h1:evE Φ G env a s=.e x s1)(O:evE Φ G env b s1=.e y s2)(N:zT op x y s2=r):evE Φ G env (.q op a b) s=r:=bnd h1 (bnd O N)
def pk(h1:evE Φ G env a s=.e x s1)(O:evE Φ G env b s1=.e y s2)(N:vH x y s2=r):evE Φ G env (.A a b) s=r:=bnd h1 (bnd O N)
def mJ:evO Φ G env .b s=.e none s:=rfl
def oy(h:evE Φ G env e s=.e (.c i) s1):evO Φ G env (.a e) s=.e (some i) s1:=bnd h rfl
def YV(h0:evE Φ G env a s=.e x s1)(h1:evO Φ G env lo s1=.e l s2)(P:evO Φ G env hi s2=.e h s3)(O:evO Φ G env st s3=.e c s4)(N:tU m x l h c s4=r):evE Φ G env (.J m a lo hi st) s=r:=bnd h0 (bnd h1 (bnd P (bnd O N)))
def zE:zY Φ G env .c s=.e [] s:=rfl
def zA(h1:evE Φ G env e s=.e v s1)(x:zY Φ G env es s1=.e vs s2):zY Φ G env (.a e es) s=.e (v::vs) s2:=bnd h1 (bnd x rfl)
def gY{P:List Val->Sto->Prop}(h:evE Φ G env e s=.e v s1)(k:(zY Φ G env es s1).post λvs s2=>P (v::vs) s2):(zY Φ G env (.a e es) s).post P:=jt.mpr (by rw[h];exact zC.mpr k)
def xl(h:zY Φ G env es s=.e vs s1)(x:vs.length<=zW):evE Φ G env (.k es) s=.e (.f vs) s1:=bnd h (if_pos x)
def vT(h:zY Φ G env es s=.e vs s1)(x:vs.length<=zW):evE Φ G env (.u false es) s=.e (.h vs) s1:=bnd h (if_pos x)
def wX(h:zY Φ G env es s=.e vs s1)(k:blt f m vs s1=r):evE Φ G env (.l f m es) s=r:=bnd h k
def x_call(h:zY Φ G env es s=.e vs s1)(k:Φ f v vs s1=r):evE Φ G env (.h f v es) s=r:=bnd h k
def vN(h:evE Φ G env e s=.e v s1)(k:(zd Φ G (env.set i (some v)) cs s1).post P):(zd Φ G env (.e (.g i e) cs) s).post P:=z7.mpr (VP.mpr (by rw[h];exact zC.mpr k))
def SR(h:evE Φ G env e s=.e v s1)(x:yZ (.b is) v env=some env')(k:(zd Φ G env' cs s1).post P):(zd Φ G env (.e (.n is e) cs) s).post P:=z7.mpr (az.mpr (by rw[h];exact zC.mpr ⟨env',x,k⟩))
def WX(h:evE Φ G env e s=.e v s1)(k:(zd Φ G env cs s1).post P):(zd Φ G env (.e (.h e) cs) s).post P:=z7.mpr (ZC.mpr (by rw[h];exact zC.mpr k))
def vx(h:evE Φ G env e s=.e v s1)(k:P (.b v) s1):(zd Φ G env (.e (.f e) cs) s).post P:=z7.mpr (gZ.mpr (by rw[h];exact zC.mpr k))
def uO(h:evE Φ G env e s=.e v s1)(k:srcOf s1 v=some ⟨xs,none⟩):yl Φ G env (.f e) s=.e ⟨xs,none⟩ s1:=post_eq.mpr (ZD.mpr (by rw[h];exact zC.mpr ⟨_,k,rfl,rfl⟩))
def u6(h:evE Φ G env e s=.e v s1)(k:truth s1 v=some b):evT Φ G env (.a e) s=.e b s1:=post_eq.mpr (ZI.mpr (by rw[h];exact zC.mpr ⟨_,k,rfl,rfl⟩))
def Vh(h:evT Φ G env c s=.e b s1):evT Φ G env (.b c) s=.e (!b) s1:=bnd h rfl
def Sk:tJ Φ G env .a s=.e false s:=rfl
def pU(h:evT Φ G env c s=.e false s1)(k:(zd Φ G env cs s1).post P):(zd Φ G env (.e (.j c a .f) cs) s).post P:=z7.mpr (Ti.mpr (by rw[h];refine zC.mpr ?_;rw[if_neg Ac];exact ju.mpr k))
def VY(h:evT Φ G env c s=.e true s1)(k:(zd Φ G env a s1).post (ph Φ G cs P)):(zd Φ G env (.e (.j c a b) cs) s).post P:=z7.mpr (Ti.mpr (by rw[h];refine zC.mpr ?_;rw[if_pos rfl];exact k))
def Vl(h:evE Φ G env a s=.e (.e b) s1):evE Φ G env (.G a) s=.e (.e !b) s1:=bnd h rfl
def u0(k:P (.a env) s):(zd Φ G env .f s).post P:=ju.mpr k
def WE{is:List Nat}{vs:List Val}{P:Fl->Sto->Prop}(x:vs.length=is.length)(k:P (.a ((is.zip vs).foldl (λe p=>e.set p.1 (some p.2)) env)) s):(if vs.length=is.length then Out.e (Fl.a ((is.zip vs).foldl (λe p=>e.set p.1 (some p.2)) env)) s else .d).post P:=by rw[if_pos x];exact zC.mpr k
def Ra{k:Nat}(h:evE Φ G env e s=.e (.c (k:Int)) s1)(hk:k<=zW):yl Φ G env (.d e) s=.e ⟨wI 0 k,none⟩ s1:=by rw[post_eq];refine ll.mpr ?_;rw[h];exact zC.mpr ⟨_,rfl,⟨⋯,⋯⟩,by rw[Dk],rfl⟩
def Rb{i j:Nat}(h:evE Φ G env a s=.e (.c (i:Int)) s1)(h':evE Φ G env b s1=.e (.c (j:Int)) s2)(hi:i<=1000)(x:j<=1000):yl Φ G env (.g a b) s=.e ⟨wI i (j-i),none⟩ s2:=by rw[post_eq];refine lq.mpr ?_;rw[h];refine zC.mpr ?_;rw[h'];exact zC.mpr ⟨_,_,rfl,rfl,⟨⋯,⋯,⋯,⋯,by unfold zW;omega⟩,by congr 2;omega,rfl⟩
def gq(Q:evE Φ G env e s=.e v s1)(N:evE Φ G env o s1=.e (.m r) s1)(hi:evE Φ G env i s1=.e (.c k) s1)(x:s1[r]?=some (.c vs))(O:L2.ixN vs.length k=some j)
 (q:(zd Φ G env cs (s1.set r (.c (vs.set j v)))).post P):(zd Φ G env (.e (.l o i e) cs) s).post P:=by
 have e0:exS Φ G env (.l o i e) s=.e (.a env) (s1.set r (.c (vs.set j v))):=by show ((evE Φ G env e s).bind _)=_;rw[Q,zM,N,zM,hi,zM];simp only[x,O];rfl
 refine z7.mpr ?_;rw[e0];exact zC.mpr q
def YS(h1:evE Φ G env a s=.e (.c i) s)(O:evE Φ G env b s=.e (.c j) s)(N:evE Φ G env c s=.e (.c k) s):evE Φ G env (.s .c .c a b c) s=.e (.e (decide (i<=j)&&decide (j<=k))) s:=by
 refine bnd h1 (bnd O (bnd (show zT .c (.c i) (.c j) s=.e (.e (decide (i<=j))) s from rfl) ?_));cases decide (i<=j) with
 |true=>
  show (evE Φ G env c s).bind (λz x=>zT .c (.c j) z x)=_;exact bnd N (by rw[show zT .c (.c j) (.c k) s=.e (.e (decide (j<=k))) s from rfl,Bool.true_and])
 |false=>rfl
def vG(h:v.noRef=true):(yE false s v s).post λx t=>x=v/\t=s:=by rw[vd h];exact zC.mpr ⟨rfl,rfl⟩
noncomputable def z0(l m:Int):Val->Bool
 |.c i=>decide (l<=i)&&decide (i<=m)
 |_=>false
def de(h1:l<=i)(x:i<=m):z0 l m (.c i)=true:=by simp[z0,h1,x]
def kU(Φ:Calls):Prop:=∀(v:Val) (l m:Int) (s:Sto),kindOf v≠none->Φ "is_whole" 0 [v,.c l,.c m] s=.e (.e (z0 l m v)) s
def iq(Φ:Calls):Prop:=∀(vs:List Val) (l m:Int) (s:Sto),(∀v∈vs,kindOf v≠none)->Φ "are_wholes" 0 [.f vs,.c l,.c m] s=.e (.e (vs.all (z0 l m))) s
def aV:blt .a m [.f vs] s=.e (.c vs.length) s:=rfl
def VM:blt .a m [.h vs] s=.e (.c vs.length) s:=rfl
def TJ:blt .a m [.p ns] s=.e (.c ns.length) s:=by simp[blt,wJ]
def aU:blt .a m [.r ns] s=.e (.c ns.length) s:=by simp[blt,wJ]
def le_int:zT .c (.c a) (.c b) s=.e (.e (decide (a<=b))) s:=rfl
def lt_int:zT .m (.c a) (.c b) s=.e (.e (decide (a<b))) s:=rfl
def ge_int:zT .i (.c a) (.c b) s=.e (.e (decide (b<=a))) s:=rfl
def gt_int:zT .g (.c a) (.c b) s=.e (.e (decide (b<a))) s:=rfl
theorem rj{O:Type}f:∀N:List O,boolsOf (N.map λx=>Val.e (f x))=some (N.map f)
 |[]=>rfl
 |x::N=>by simp[boolsOf,rj f N]
def RP{O P:Type}(f:O->P)(N:List O):N.flatMap (λx=>[f x])=N.map f:=by
 induction N with
 |nil=>rfl
 |cons x N Q=>simp[Q]
def fH:binOp m .a (.c i) (.c j) s=.e (.c (i+j)) s:=by simp only[binOp]
def Yk:binOp m .f (.c i) (.c j) s=.e (.c (i-j)) s:=by simp only[binOp]
def W6(h:-1000000<=i/\i<=1000000):binOp m .b (.c i) (.c j) s=.e (.c (i*j)) s:=by simp only[binOp];rw[if_pos (.inl ⋯)]
def lB(h:-1000000<=j/\j<=1000000):binOp m .b (.c i) (.c j) s=.e (.c (i*j)) s:=by simp only[binOp];rw[if_pos (.inr ⋯)]
def jK(h:kindOf v=some a)(h':tN n=some c):blt .j m [v,.u n] s=.e (.e (a.sub c)) s:=by simp only[blt];rw[h,h']
def U6(h:kindOf v=some a):(∃i,v=.c i)\/(∃b,v=.e b)\/(a.sub .b=false/\∀l m,z0 l m v=false):=by
 cases v with
 |c i=>exact .inl ⟨i,rfl⟩
 |e b=>exact .inr (.inl ⟨b,rfl⟩)
 |_=>cases h<;>exact .inr (.inr ⟨rfl,λ_ _=>rfl⟩)
def gU(h:kindOf v≠none):∃a,kindOf v=some a:=Option.ne_none_iff_exists'.mp h
def U7(h:kindOf v=some a):(∃vs,v=.f vs)\/a.sub .d=false:=by
 cases v with
 |f vs=>exact .inl ⟨vs,rfl⟩
 |_=>cases h<;>exact .inr rfl
def dI(hk:kindOf v≠none):run T Φ F.xm [v,.c l,.c m] s=.e (.e (z0 l m v)) s:=by
 obtain⟨a,O⟩:=gU hk;have e1:=jK (m:=false) (s:=s) O (show tN "int"=some .b from rfl);have e2:=jK (m:=false) (s:=s) O (show tN "bool"=some .i from rfl);have N:∀{b:Bool},b=z0 l m v->(yE false s (.e b) s).post λx t=>x=.e (z0 l m v)/\t=s:=λ{b} e=>by rw[vd vi,e];exact zC.mpr ⟨rfl,rfl⟩
 rw[post_eq,F.xm,vv];refine⟨rfl,?_⟩;show (zd Φ T.b [some v,some (.c l),some (.c m)] _ s).post _;rcases U6 O with⟨i,rfl⟩|⟨b,rfl⟩|⟨h1,R⟩
 . cases O
   have Q:evE Φ T.b [some (.c i),some (.c l),some (.c m)] (.s .c .c (.e 1) (.e 0) (.e 2)) s=.e (.e (z0 l m (.c i))) s:=by
    refine bnd (zF rfl) (bnd (zF rfl) (bnd le_int ?_));show (match Val.e (decide (l<=i)) with
     |.e true=>(evE Φ T.b [some (.c i),some (.c l),some (.c m)] (.e 2) s).bind λz P=>zT .c (.c i) z P
     |.e false=>.e (.e false) s
     |_=>.d)=Out.e (.e (decide (l<=i)&&decide (i<=m))) s
    cases decide (l<=i) with
    |true=>exact bnd (zF rfl) le_int
    |false=>rfl
   exact vx (YR (wX (zA (zF rfl) (zA kQ zE)) e1) (Vl (wX (zA (zF rfl) (zA kQ zE)) e2)) Q) (N rfl)
 . cases O
   exact vx (YQ (wX (zA (zF rfl) (zA kQ zE)) e1) (Vl (wX (zA (zF rfl) (zA kQ zE)) e2))) (N rfl)
 . rw[h1]at e1
   exact vx (YO (wX (zA (zF rfl) (zA kQ zE)) e1)) (N (R _ _).symm)
def iF(c:kU Φ)(hk:∀v∈vs,kindOf v≠none):run T Φ F.yv [.f vs,.c l,.c m] s=.e (.e (vs.all (z0 l m))) s:=by
 rw[post_eq];simp[F.yv,EVl,zS,za];refine ZA (λe=>∃o,e=[o,some (.c l),some (.c m)]) (λx=>[.e (z0 l m x)]) ?_;simp[EVl,zS,za];refine⟨?_,?_⟩
 . intro x hx
   simp[EVl,zS,za,c x l m s (hk x hx)]
 . simp[newList,EVl,zS,za,blt,RP,yV,rj]
def gW(h:x∈wI lo n):∃k:Nat,k<n/\x=.c (lo+k):=by unfold wI at h;obtain⟨k,h1,rfl⟩:=Bz.mp h;exact⟨k,Bu.mp h1,rfl⟩
def QZ ns lo st n:L2.zy (ns.map Val.c) lo st n=(L2.zy ns lo st n).map Val.c:=by unfold L2.zy;rw[List.map_filterMap];congr 1;funext k;simp[A1]
def Y8 a b:EN (.int a) (.int b)=decide (a=b):=by by_cases h:a=b<;>simp[EN,h]
def eq_int:zT .b (.c a) (.c b) s=.e (.e (decide (a=b))) s:=by simp[zT,zw,yp,oF,Val.isD,Val.d,PyData.depth,Y8]
def UT{k:Nat}(h:vs[k]?=some v):vH (.f vs) (.c k) s=.e v s:=by simp[vH,wJ,L2.qF h]
def US{ns:List Int}{k:Nat}(h:ns[k]?=some i):vH (.f (ns.map .c)) (.c k) s=.e (.c i) s:=UT (by rw[A1,h];rfl)
def eA{ns:List Int}:∀v∈ns.map Val.c,kindOf v≠none:=λv x=>by obtain⟨i,_,rfl⟩:=Bz.mp x;simp[kindOf]
def ka{ns:List Int}(h:∀x∈ns,l<=x/\x<=m):(ns.map Val.c).all (z0 l m)=true:=by rw[Ay];intro v N;obtain⟨i,hi,rfl⟩:=Bz.mp N;exact de (h i hi).1 (h i hi).2
def Yt{x:List α}(hp:p<=x.length):qf x (some (p:Int)) none=x.drop p:=by
 unfold qf;have h1:HT.sIx x.length 0 (some (p:Int))=p:=by rw[HT.gj];omega
 have N:HT.sIx x.length x.length none=x.length:=rfl;rw[h1,N,List.take_of_length_le (by rw[Cp];omega)]
noncomputable abbrev tpI(ns:List Int):Val:=.f (ns.map .c)
section
variable {T:Tbl}{Φ:Calls}{s:Sto}
def oO(Φ:Calls):Prop:=∀(zs:List Int) (s:Sto),Sz zs->Φ "are_sizes" 0 [tpI zs] s=.e (.e true) s
def tD(Φ:Calls):Prop:=∀(zs:List Int) (s:Sto),Sz zs->Φ "need_sizes" 0 [tpI zs] s=.e .g s
def oH(c:oO Φ)(h:Sz zs):run T Φ F.yL [tpI zs] s=.e .g s:=by rw[post_eq];simp[F.yL,EVl,zS,za,c zs s h]
def iy(h:a.length+b.length<=zW):binOp m .a (.f a) (.f b) s=.e (.f (a++b)) s:=by simp only[binOp];rw[if_pos h]
end
noncomputable def sP(a b:Int):Cel:=.c [.c a,.c b]
def vo(s:Sto)(p:Nat):Prop:=∃a b,s[p]?=some (sP a b)/\0<=b/\b<2147483629
def y9(s:Sto)(p:Nat)(s':Sto):Prop:=∃a b,s'=s.set p (sP a b)/\0<=b/\b<2147483629
def vo.lt(h:vo s p):p<s.length:=by obtain⟨a,b,h,_⟩:=h;exact(Au.mp h).1
def y9.at_(h:y9 s p s')(hp:p<s.length):vo s' p:=by obtain⟨a,b,rfl,h1⟩:=h;exact⟨a,b,AJ hp,h1⟩
def y9.trans(h:y9 s p s1)(k:y9 s1 p s2):y9 s p s2:=by obtain⟨a,b,rfl,h1⟩:=h;obtain⟨c,d,rfl,x⟩:=k;exact⟨c,d,by rw[List.set_set],x⟩
def vo.refl(h:vo s p):y9 s p s:=by obtain⟨a,b,h,h1⟩:=h;obtain⟨hp,e⟩:=Au.mp h;refine⟨a,b,?_,h1⟩;rw[<-e,List.set_getElem_self]
def y9.len(h:y9 s p s'):s'.length=s.length:=by obtain⟨a,b,rfl,_⟩:=h;exact BN ..
def eI(h:y9 s p s')(x:v.noRef=true):yE false s v (s'++t)=.e v s':=by obtain⟨a,b,rfl,_⟩:=h;exact jW x rfl
def tP(h:y9 s p s')(x:v.noRef=true):yE false s v s'=.e v s':=by
 have:=eI (t:=[]) h x
 rwa [A4]at this
def bmod(h:0<j):binOp m .c (.c i) (.c j) s=.e (.c (i%j)) s:=by simp only[binOp];rw[if_pos h]
def bdiv(h:0<j/\j<1073741824):binOp m .d (.c i) (.c j) s=.e (.c (i/j)) s:=by simp only[binOp];rw[if_pos h]
def jM{k:Nat}(h:vs[k]?=some v):vH (.h vs) (.c k) s=.e v s:=by simp[vH,wJ,L2.qF h]
def UU{i k:Nat}(x:s[i]?=some (.c vs))(h:vs[k]?=some v):vH (.m i) (.c k) s=.e v s:=by simp[vH,wJ,x,L2.qF h]
section
variable {T:Tbl}{Φ:Calls}{s:Sto}
def Wz(Φ:Calls):Prop:=∀(ns:List Int) (k:Nat) (s:Sto),∃c,Φ "_law_cell_at" 0 [.r ns,.c k] s=.e (.c c) s
def Sy(Φ:Calls):Prop:=∀(c:Int) (s:Sto),∃a b,Φ "_law_pen" 1 [.c c] s=.e (.m s.length) (s++[sP a b])/\0<=b/\b<2147483629
def ik(Φ:Calls):Prop:=∀(p:Nat) (m:Int) (s:Sto),vo s p->0<m->m<1000000->(Φ "_law_draw" 0 [.m p,.c m] s).post λv s'=>∃r:Nat,v=.c r/\(r:Int)<m/\y9 s p s'
def Zr ns(k:Nat):∃c,run T Φ F.yD [.r ns,.c k] s=.e (.c c) s:=by
 by_cases h:k<ns.length
 . refine⟨ns[k],?_⟩
   rw[post_eq];have h':(k:Int)<ns.length:=by omega
   have e:(ns.map Val.c)[k]?=some (.c ns[k]):=by rw[A1,Ai h];rfl
   have c1:vH (.r ns) (.c k) s=.e (.c ns[k]) s:=by simp[vH,wJ,L2.qF e]
   simp[F.yD,EVl,zS,za,aU,lt_int,h',h,c1]
 . refine⟨0,?_⟩
   rw[post_eq];have h':¬(k:Int)<ns.length:=by omega
   simp[F.yD,EVl,zS,za,aU,lt_int,h',h]
def WV c:∃a b,run T Φ F.yJ [.c c] s=.e (.m s.length) (s++[sP a b])/\0<=b/\b<2147483629:=by
 have x:(run T Φ F.yJ [.c c] s).post λv s'=>∃a b,v=.m s.length/\s'=s++[sP a b]/\0<=b/\b<2147483629:=by
  have c1:∀(i:Int) (b:Bool),binOp false .b (.c i) (.c (if b then 1 else 0)) s=.e (.c (i*(if b then 1 else 0))) s:=λi b=>lB (by cases b<;>simp)
  have c2:∀i:Int,binOp false .c (.c i) (.c 2147483629) s=.e (.c (i%2147483629)) s:=λi=>by simp[binOp]
  have c3:binOp false .e (.c 10) (.c 18) s=.e (.c (10 ^ 18)) s:=by simp[binOp]
  simp[F.yJ,EVl,zS,za,Yk,blt];simp[EVl,zS,za,c1,c2,c3,ge_int,blt,zW,newList,sP];rw[lB (by split<;>omega)]
  simp only[zC];rw[bmod ⋯]
  simp only[zC];exact⟨trivial,_,_,⟨trivial,rfl,rfl⟩,Gf _ ⋯,E9 _ ⋯⟩
 obtain⟨v,s',h,a,b,rfl,rfl,h1⟩:=x;exact⟨a,b,h,h1⟩
def Zs(hp:vo s p)(h0:0<m)(h1:m<1000000):(run T Φ F.ym [.m p,.c m] s).post λv s'=>∃r:Nat,v=.c r/\(r:Int)<m/\y9 s p s':=by
 have R:=hp.lt;obtain⟨a,b,Q,Y,S⟩:=hp;have P:∀{s:Sto} {a b:Int} {k:Nat} {v:Val},s[p]?=some (sP a b)->[Val.c a,.c b][k]?=some v->vH (.m p) (.c k) s=.e v s:=λh h'=>UU h h';have N:∀{x:Int} {s':Sto},y9 s p s'->(yE false s (.c (x%m)) s').post λv s'=>∃r:Nat,v=.c r/\(r:Int)<m/\y9 s p s':=λ{x s'} t=>by
  rw[tP t pG];have h3:=Gf x (show m≠0 by omega)
  have Z:=E9 x h0;exact zC.mpr ⟨(x%m).toNat,by congr 1;omega,⋯,t⟩
 rw[F.ym,vv];refine⟨rfl,?_⟩;show (zd Φ T.b [some (.m p),some (.c m),none,none,none] _ s).post _;have tc:evT Φ T.b [some (.m p),some (.c m),none,none,none] (.a (.q .g (.A (.e 0) (.g (.c 0))) (.g (.c 0)))) s=.e (decide (0<a)) s:=u6 (u9 (pk (zF rfl) zL (P (k:=0) Q rfl)) zL gt_int) xB;cases hd:decide (0<a) with
 |true=>
  rw[hd]at tc;refine VY tc (SR (env':=[some (.m p),some (.c m),some (.c (a/m)),some (.c (a%m)),none]) (wX (zA (pk (zF rfl) zL (P (k:=0) Q rfl)) (zA (zF rfl) zE)) (show blt .c false [.c a,.c m] s=.e (.f [.c (a/m),.c (a%m)]) s by simp only[blt];rw[if_pos ⟨h0,⋯⟩])) rfl ?_)
  exact gq (j:=0) (zF rfl) (zF rfl) zL Q rfl (vx (zF rfl) (N ⟨a/m,b,rfl,Y,S⟩))
 |false=>
  rw[hd]at tc;refine pU tc ?_;refine gq (j:=1) (zu (zu (zu (pk (zF rfl) zL (P (k:=1) Q rfl)) zL (lB ⋯)) zL fH) zL (bmod ⋯)) (zF rfl) zL Q rfl ?_
  generalize hx:(b*48271+30269)%2147483629=x;have W:0<=x:=by rw[<-hx];exact Gf _ ⋯
  have U:x<2147483629:=by rw[<-hx];exact E9 _ ⋯
  have O:(s.set p (sP a x))[p]?=some (sP a x):=AJ R;show (zd Φ T.b [some (.m p),some (.c m),none,none,none] _ (s.set p (sP a x))).post _;refine vN (zu (zu (zu (zu (pk (zF rfl) zL (P (k:=1) O rfl)) (pk (zF rfl) zL (P (k:=1) O rfl)) (show binOp false .b (.c x) (.c x) _=_ by simp only[binOp];rw[if_pos (.inl ⋯)])) (zu zL (pk (zF rfl) zL (P (k:=1) O rfl)) (W6 ⋯)) fH) zL fH) zL (bmod ⋯)) ?_
  exact vx (zu (zu (zF rfl) zL (bdiv ⟨⋯,⋯⟩)) (zF rfl) (bmod h0)) (N ⟨a,x,rfl,W,U⟩)
end
def Yg(h:vs.length<zW):xA .a (.m s.length) [y] (s++[.c vs])=.e .g (s++[.c (vs++[y])]):=by simp[xA,h,upd]
section
variable {T:Tbl}{Φ:Calls}{s:Sto}
def il(Φ:Calls):Prop:=∀(p:Nat) (s:Sto),vo s p->(Φ "_law_sizes" 0 [.m p] s).post λv s'=>∃zs,v=tpI zs/\Sz zs/\y9 s p s'
def QX(h:r<6):∃m:Nat,([2,2,3,1,4,2]:List Int)[r]?=some (m:Int)/\1<=m/\m<=4:=by
 have:r=0\/r=1\/r=2\/r=3\/r=4\/r=5:=by omega
 rcases this with rfl|rfl|rfl|rfl|rfl|rfl
 . exact⟨2,rfl,by decide,by decide⟩
 . exact⟨2,rfl,by decide,by decide⟩
 . exact⟨3,rfl,by decide,by decide⟩
 . exact⟨1,rfl,by decide,by decide⟩
 . exact⟨4,rfl,by decide,by decide⟩
 . exact⟨2,rfl,by decide,by decide⟩
def QY(h:r<8):∃m:Int,([3,3,4,2,5,3,2,8]:List Int)[r]?=some m/\2<=m/\m<=8:=by
 have:r=0\/r=1\/r=2\/r=3\/r=4\/r=5\/r=6\/r=7:=by omega
 rcases this with rfl|rfl|rfl|rfl|rfl|rfl|rfl|rfl
 . exact⟨3,rfl,by decide,by decide⟩
 . exact⟨3,rfl,by decide,by decide⟩
 . exact⟨4,rfl,by decide,by decide⟩
 . exact⟨2,rfl,by decide,by decide⟩
 . exact⟨5,rfl,by decide,by decide⟩
 . exact⟨3,rfl,by decide,by decide⟩
 . exact⟨2,rfl,by decide,by decide⟩
 . exact⟨8,rfl,by decide,by decide⟩
def lW{ns:List Int}{r:Nat}(h:ns[r]?=some m):vH (.h (ns.map .c)) (.c r) s=.e (.c m) s:=jM (by rw[A1,h];rfl)
def WR lo n:(wI lo n).length=n:=by unfold wI;rw[Ak,Dl]
def iC(R:ik Φ)(hp:vo s p):(run T Φ F.yu [.m p] s).post λv s'=>∃zs,v=tpI zs/\Sz zs/\y9 s p s':=by
 rw[F.yu,vv];refine⟨rfl,?_⟩;show (zd Φ T.b [some (.m p),none] _ s).post _;obtain⟨_,s1,hd,r,rfl,Z,O⟩:=R p 6 s hp ⋯ ⋯
 obtain⟨n,e,m1,Y⟩:=QX (r:=r) ⋯
 refine vN (pk (vT (vs:=_) (zA zL (zA zL (zA zL (zA zL (zA zL (zA zL zE)))))) (show 6<=zW by decide)) (x_call (zA (zF rfl) (zA zL zE)) hd) (lW e)) ?_
 show (zd Φ T.b [some (.m p),some (.c n)] _ s1).post _;refine z7.mpr (gZ.mpr (VQ.mpr (jt.mpr (X9 (λrest e s' acc=>(∃o,e=[o,some (.m p)])/\y9 s1 p s'/\∃zs:List Int,acc=zs.map .c/\(∀x∈zs,2<=x/\x<=8)/\zs.length+rest.length=n) ?_))));rw[Ra (zF rfl) (show n<=zW by unfold zW;omega)]
 refine zC.mpr ⟨⟨⟨_,rfl⟩,(O.at_ hp.lt).refl,[],rfl,nofun,by rw[WR];exact Nat.zero_add _⟩,λ_ _ _ _ _=>rfl,?_,?_⟩
 . rintro x rest e s' acc ⟨⟨o,rfl⟩,t,zs,rfl,hz,P⟩
   refine⟨[some x,some (.m p)],rfl,qP.mpr ?_⟩;rw[if_pos rfl];obtain⟨_,s2,Q,U,rfl,W,S⟩:=R p 8 s' (t.at_ (by rw[O.len];exact hp.lt)) ⋯ ⋯
   obtain⟨k,e,k1,k2⟩:=QY (r:=U) ⋯
   rw[pk (vT (vs:=_) (zA zL (zA zL (zA zL (zA zL (zA zL (zA zL (zA zL (zA zL zE)))))))) (show 8<=zW by decide)) (x_call (zA (zF rfl) (zA zL zE)) Q) (lW e)]
   refine zC.mpr ⟨⟨_,rfl⟩,t.trans S,zs++[k],by rw[Dg];rfl,λy N=>?_,by rw[An,BL];rw[AB]at P;omega⟩
   rcases A3.mp N with N|N
   . exact hz y N
   . rw[AW.mp N];exact⟨k1,k2⟩
 . rintro e s' acc ⟨_,t,zs,rfl,hz,P⟩
   refine zC.mpr (ZF.mpr (zC.mpr ?_));show (yE false s (tpI zs) s').post _;rw[tP (O.trans t) (by rw[mI];exact wH _)]
   rw[B5]at P;exact zC.mpr ⟨zs,rfl,⟨⋯,⋯,hz⟩,O.trans t⟩
end
def YT(h:env[i]?=some (some (tpI ns))):evE Φ G env (.l .a m (.a (.e i) .c)) s=.e (.c (ns.length:Nat)) s:=wX (zA (zF h) zE) (by rw[aV,Ak])
def eU(L:L2.uA k w d)(hk:k<=50)(hw:w<=300000)(hd:d.hasDict=false):tS d=true:=by
 have:=L.a;have:=L.f;unfold tS;rw[L.c,L.b,hd,decide_eq_true (show d.depth<=50 by omega),decide_eq_true (show d.weight<=300000 by omega)]
 rfl
def max2:blt .k m [.c i,.c j] s=.e (.c (if j > i then j else i)) s:=rfl
def min2:blt .l m [.c i,.c j] s=.e (.c (if j<i then j else i)) s:=rfl
def bO{K:Nat}(h0:env[0]?=some (some (.r ns)))(x:K<=100) :
 yl Φ G env (.d (.l .k false (.a (.g (.c 1)) (.a (.l .l false (.a (.l .a false (.a (.e 0) .c)) (.a (.g (.c K)) .c))) .c)))) s=.e ⟨wI 0 (max 1 (min ns.length K)),none⟩ s:=by
 rw[post_eq];simp only[EVl,zS,za];refine⟨_,h0,?_⟩;rw[aU];simp only[zC];rw[min2];simp only[zC];rw[max2];simp only[zC];have e:(if (if (K:Int)<(ns.length:Int) then (K:Int) else (ns.length:Int)) > 1 then (if (K:Int)<(ns.length:Int) then (K:Int) else (ns.length:Int)) else 1)=((max 1 (min ns.length K):Nat):Int):=by split<;>split<;>omega
 rw[e];refine⟨_,rfl,⟨⋯,by unfold zW;omega⟩,?_⟩
 simp
end M
end
section
namespace M
open L2
noncomputable def nt(ns:List Int)(z:Nat)(h:Int):Bool:=(AR (ns.length/(z-1))).any λj=>(AR (z-1)).all λk=>decide (ns[ns.length-(k+1)*(j+1)]?=some h)
end M
end
section
namespace F
open PySem M
noncomputable def yc:Fn:=⟨["sizes","strip","place","row"],["sizes","strip"],false,(.e (.h (.h "need_sizes" 0 (.a (.e 0) .c))) (.e (.h (.h "need_strip" 0 (.a (.e 1) .c))) (.e (.g 2 (.h "first_hue_wrong" 0 (.a (.e 0) (.a (.e 1) .c)))) (.e (.j (.a (.q .d (.e 2) (.g .g))) (.e (.f (.k (.a (.g (.j "hue")) (.a (.e 2) .c)))) .f) .f) (.e (.g 3 (.h "first_row_wrong" 0 (.a (.e 0) (.a (.e 1) .c)))) (.e (.f (.H (.a (.q .l (.e 3) (.g .g))) (.g .g) (.k (.a (.g (.j "row")) (.a (.A (.e 3) (.g (.c 0))) (.a (.A (.e 3) (.g (.c 1))) .c)))))) .f))))))⟩
noncomputable def qV:Fn:=⟨["sizes","strip"],["sizes","strip"],false,(.e (.f (.q .l (.h "first_wrong" 0 (.a (.e 0) (.a (.e 1) .c))) (.g .g))) .f)⟩
noncomputable def yw:Fn:=⟨["sizes","strip","hue","end","others","step"],["sizes","strip","hue"],false,(.e (.g 3 (.l .a false (.a (.e 1) .c))) (.e (.g 4 (.j false .f (.A (.e 0) (.e 2)) (.g (.c 1)))) (.e (.k (.a 5) (.g (.g (.c 1)) (.j false .a (.j false .d (.e 3) (.e 4)) (.g (.c 1)))) (.e (.j (.a (.q .b (.M .b false (.J false (.e 1) (.a (.j false .f (.e 3) (.j false .b (.e 4) (.e 5)))) .b (.a (.e 5))) (.a (.e 2) .c)) (.e 4))) (.e (.f (.g (.e false))) .f) .f) .f)) (.e (.f (.g (.e true))) .f))))⟩
end F
end
section
namespace M
open PySem
structure Gl4(T:Tbl):Prop where
 mp:T.b "MOST_PLACES"=some (.c 40)
 ls:T.b "LEAST_SIZE"=some (.c 2)
 ms:T.b "MOST_SIZE"=some (.c 8)
 hu:T.b "HUES"=some (.p [0,1,2,3])
def Yu{n f d s:Nat}(hd:0<d)(x:1<=s)(h:f+d*s=n):L2.yg n (some (f:Int)) none (d:Int)=((f:Int),s):=by
 have N:d*s=d*(s-1)+d:=by rw[<-Nat.mul_succ];congr 1;omega
 have e:=Yv (n:=n) (f:=f) hd x ⋯
 have e2:A8 (some (f:Int)) none (d:Int) (n:Int)=A8 (some (f:Int)) (some ((f:Int)+(d:Int)*(s:Int))) (d:Int) (n:Int):=by
  have e0:(f:Int)+(d:Int)*(s:Int)=(n:Int):=by rw[<-h,Int.natCast_add,ET]
  rw[e0];unfold A8;simp only[if_neg (show ¬(d:Int)<0 by omega),if_neg (show ¬(f:Int)<0 by omega),if_neg (show ¬(n:Int)<0 by omega)]
  refine FO rfl ?_;show (n:Int)=min (n:Int) (n:Int);omega
 unfold L2.yg at e ⊢;rw[e2];exact e
noncomputable def tB(ns:List Int)(z:Nat)(h:Int)(j:Nat):Bool:=(AR (z-1)).all λk=>decide (ns[ns.length-(k+1)*(j+1)]?=some h)
def fT(hz:2<=z)(Q:(z-1)*(j+1)<=ns.length):decide ((((AR (z-1)).map λk=>ns.getD (ns.length-(z-1)*(j+1)+k*(j+1)) 0).count h:Int)=((z-1:Nat):Int))=tB ns z h j:=by
 have O:((AR (z-1)).map λk=>ns.getD (ns.length-(z-1)*(j+1)+k*(j+1)) 0).length=z-1:=by rw[Ak,Dl]
 have N:∀k,k<z-1->ns.length-(z-1)*(j+1)+k*(j+1)=ns.length-((z-2-k)+1)*(j+1)/\ns.length-((z-2-k)+1)*(j+1)<ns.length:=λk hk=>by
  have e2:((z-2-k)+1)*(j+1)+k*(j+1)=(z-1)*(j+1):=by rw[<-Nat.add_mul];congr 1;omega
  have hp:1*1<=((z-2-k)+1)*(j+1):=Gu ⋯ ⋯
  omega
 rw[CB,decide_eq_true_iff];unfold tB;rw[Ay];constructor
 . intro e k hk
   have hk:=Bu.mp hk;have P:=List.count_eq_length.mp (by rw[O];exact Int.ofNat.inj e)
   obtain⟨e1,e2⟩:=N (z-2-k) ⋯
   rw[show z-2-(z-2-k)=k by omega]at e1 e2
   have:=P _ (Bz.mpr ⟨z-2-k,Bu.mpr ⋯,rfl⟩)
   rw[e1,AQ,Ai e2]at this;rw[decide_eq_true_iff,Ai e2];exact congrArg some this.symm
 . intro H
   have:((AR (z-1)).map λk=>ns.getD (ns.length-(z-1)*(j+1)+k*(j+1)) 0).count h=z-1:=by
    rw[List.count_eq_length.mpr,O];intro x hx;obtain⟨k,hk,rfl⟩:=Bz.mp hx;have hk:=Bu.mp hk;obtain⟨e1,e2⟩:=N k hk;have:=of_decide_eq_true (H (z-2-k) (Bu.mpr ⋯))
    rw[e1,AQ,this];rfl
   rw[this]
def Sh:xA .b (tpI st) [.c h] s=.e (.c (st.count h)) s:=by
 have e:∀l:List Int,(l.map Val.c).countP (λz=>eqF z (.c h))=l.count h:=by
  intro l;induction l with
  |nil=>rfl
  |cons a l x=>rw[AZ,Dz,x,List.count_cons];rfl
 have f:(st.map Val.c).all flat=true:=Ay.mpr λv N=>by obtain⟨i,_,rfl⟩:=Bz.mp N;rfl
 show (if (flat (.c h)&&(st.map Val.c).all flat)=true then Out.e (Val.c ((st.map Val.c).countP λz=>eqF z (.c h):Nat)) s else .d)=_
 rw[f,e];rfl
section
variable {T:Tbl}{Φ:Calls}{s:Sto}
def Vn(Φ:Calls):Prop:=∀(zs ns:List Int) (h:Nat) (s:Sto),Sz zs->ns.length<=40->h<zs.length->Φ "may_follow" 0 [tpI zs,tpI ns,.c h] s=.e (.e !(nt ns (vy zs h) h)) s
def WT(hz:Sz zs)(hn:ns.length<=40)(hh:h<zs.length):run T Φ F.yw [tpI zs,tpI ns,.c h] s=.e (.e !(nt ns (vy zs h) h)) s:=by
 obtain⟨z1,z2,z3⟩:=Z2 hz hh;generalize hzz:vy zs h=z at *;have hK:ns.length/(z-1)<=40:=Az (Nat.div_le_self _ _) hn;have hKm:∀j,j<ns.length/(z-1)->(z-1)*(j+1)<=ns.length:=λj O=>by rw[Nat.lt_iff_add_one_le,Nat.le_div_iff_mul_le ⋯,DT]at O;exact O
 have he:nt ns z h=(AR (ns.length/(z-1))).any (tB ns z h):=rfl;have W:binOp false .d (.c (ns.length:Nat)) (.c ((z-1:Nat):Int)) s=.e (.c (ns.length/(z-1):Nat)) s:=by rw[bdiv ⋯,<-Int.natCast_ediv]
 generalize hKK:ns.length/(z-1)=K at *;rw[post_eq,F.yw,vv];refine⟨rfl,?_⟩;show (zd Φ T.b [some (tpI zs),some (tpI ns),some (.c h),none,none,none] _ s).post _;refine vN (YT rfl) (vN (zu (pk (zF rfl) (zF rfl) (US z1)) zL Yk) ?_);rw[show ((z:Int)-1)=((z-1:Nat):Int) by omega]
 show (zd Φ T.b [some (tpI zs),some (tpI ns),some (.c h),some (.c ns.length),some (.c ((z-1:Nat):Int)),none] _ s).post _;refine z7.mpr (vk (λrest e s'=>s'=s/\(∃R,e=[some (tpI zs),some (tpI ns),some (.c h),some (.c ns.length),some (.c ((z-1:Nat):Int)),R])/\∃N:List Nat,rest=N.map (λ(j:Nat)=>Val.c (1+(j:Int)))/\(∀j∈N,j<K)/\nt ns z h=N.any (tB ns z h)) (wI 1 K) (s1:=s) (Rb (i:=1) (j:=K+1) zL (zu (zu (zF rfl) (zF rfl) W) zL fH) ⋯ ⋯) ⟨rfl,⟨_,rfl⟩,AR K,rfl,λj O=>Bu.mp O,he⟩ ?_ ?_)
 . rintro x rest e s' ⟨rfl,⟨R,rfl⟩,N,P,hb,hf⟩
   cases N with
   |nil=>cases P
   |cons j N=>
    rw[AZ]at P;injection P with hx P
    subst hx;refine⟨_,rfl,?_⟩;have O:=hKm j (hb j (.head _));have Q:=fT (h:=(h:Int)) z2 O;obtain⟨d,Z⟩:∃d,d=j+1:=⟨_,rfl⟩;have hd:(1+(j:Int))=(d:Int):=by omega
    rw[<-Z]at O Q;have d0:0<d:=by omega
    obtain⟨w,hw⟩:∃w,w=z-1:=⟨_,rfl⟩;have w1:1<=w:=by omega
    have w8:w<=8:=by omega
    rw[<-hw]at O Q ⊢;have m1:binOp false .b (.c (w:Int)) (.c (d:Int)) s'=.e (.c ((w*d:Nat):Int)) s':=by rw[W6 ⋯,ET]
    obtain⟨f,U⟩:∃f,f=ns.length-w*d:=⟨_,rfl⟩;rw[<-U]at Q;have m2:binOp false .f (.c (ns.length:Nat)) (.c ((w*d:Nat):Int)) s'=.e (.c (f:Int)) s':=by rw[Yk,show ((ns.length:Nat):Int)-((w*d:Nat):Int)=(f:Int) by omega]
    have hm:d*w=d*(w-1)+d:=by rw[<-Nat.mul_succ,Nat.succ_eq_add_one,Nat.sub_add_cancel w1]
    have hcm:=DT d w;have S:tU false (tpI ns) (some (f:Int)) none (some (d:Int)) s'=.e (tpI ((AR w).map λk=>ns.getD (f+k*d) 0)) s':=by
     have e5:L2.yg ns.length (some (f:Int)) none (d:Int)=((f:Int),w):=Yu d0 w1 ⋯
     have hl:w<=zW:=by unfold zW;omega
     have Y:(d:Int)≠0:=by omega
     simp only[tU,Ak,e5];rw[if_pos ⟨Y,hl⟩];simp only[QZ];rw[Ze ⋯]
    generalize (AR w).map (λk=>ns.getD (f+k*d) 0)=xs at *;rw[hd];show (zd Φ T.b [some (tpI zs),some (tpI ns),some (.c h),some (.c ns.length),some (.c (w:Int)),some (.c (d:Int))] _ s').post _;rw[List.any_cons,<-Q]at hf;have tc:evT Φ T.b [some (tpI zs),some (tpI ns),some (.c h),some (.c ns.length),some (.c (w:Int)),some (.c (d:Int))] (.a (.q .b (.M .b false (.J false (.e 1) (.a (.j false .f (.e 3) (.j false .b (.e 4) (.e 5)))) .b (.a (.e 5))) (.a (.e 2) .c)) (.e 4))) s'=.e (decide ((xs.count (h:Int):Int)=(w:Int))) s':=u6 (u9 (bnd (YV (zF rfl) (oy (zu (zF rfl) (zu (zF rfl) (zF rfl) m1) m2)) mJ (oy (zF rfl)) S) (bnd (zA (zF rfl) zE) Sh)) (zF rfl) eq_int) xB;by_cases hq:(xs.count (h:Int):Int)=(w:Int)
    . rw[decide_eq_true hq]at tc hf
      rw[Bool.true_or]at hf;refine VY tc (vx zL ?_);rw[hf];exact vG vi
    . rw[decide_eq_false hq]at tc hf
      rw[Fo]at hf;exact pU tc (u0 ⟨rfl,⟨_,rfl⟩,N,P,λj O=>hb j (.tail _ O),hf⟩)
 . rintro e s' ⟨rfl,⟨R,rfl⟩,N,P,hb,hf⟩
   have ht:N=[]:=by cases N with|nil=>rfl|cons _ _=>cases P
   subst ht;rw[hf];exact vx zL (vG vi)
end
end M
end
section
namespace F12
open PySem M
noncomputable def yK:Fn:=⟨["sizes","length","strips","place"],["sizes","length"],false,(.e (.h (.h "need_small_sizes" 0 (.a (.e 0) .c))) (.e (.h (.h "need_length" 0 (.a (.e 1) .c))) (.e (.g 2 (.u false (.a (.k .c) .c))) (.e (.k (.a 3) (.d (.e 1)) (.e (.g 2 (.h "grown" 0 (.a (.e 0) (.a (.e 2) .c)))) .f)) (.e (.f (.e 2)) .f)))))⟩
noncomputable def yn:Fn:=⟨["sizes"],["sizes"],false,(.e (.f (.j false .f (.l .a false (.a (.h "tally" 0 (.a (.e 0) .c)) .c)) (.g (.c 1)))) .f)⟩
noncomputable def yP:Fn:=⟨["sizes","length","strips"],["sizes","length"],false,(.e (.g 2 (.h "all_strips" 0 (.a (.e 0) (.a (.e 1) .c)))) (.e (.f (.H (.a (.e 2)) (.A (.e 2) (.g (.c 0))) (.g .g))) .f))⟩
noncomputable def ub:Fn:=⟨["sizes","strips"],["sizes","strips"],false,(.e (.f (.w false ["strip","hue","sizes"] [none,none,some 0] (.j false .a (.e 0) (.k (.a (.e 1) .c))) (.a 0) (.f (.e 1)) .a (.a 1) (.d (.l .a false (.a (.e 2) .c))) (.b (.a (.h "may_follow" 0 (.a (.e 2) (.a (.e 0) (.a (.e 1) .c))))) .a))) .f)⟩
noncomputable def wQ:Fn:=⟨["sizes","strip"],["sizes","strip"],false,(.e (.f (.j false .f (.l .a false (.a (.h "led_on" 0 (.a (.e 0) (.a (.e 1) .c))) .c)) (.l .a false (.a (.e 1) .c)))) .f)⟩
noncomputable def w9:Fn:=⟨["sizes","strip","strips","longer"],["sizes","strip"],false,(.e (.h (.h "need_small_sizes" 0 (.a (.e 0) .c))) (.e (.h (.h "need_fit" 0 (.a (.e 0) (.a (.e 1) .c)))) (.e (.g 2 (.u false (.a (.e 1) .c))) (.e (.g 3 (.h "grown" 0 (.a (.e 0) (.a (.e 2) .c)))) (.e (.m (.a (.e 3)) (.e (.g 2 (.e 3)) (.e (.g 3 (.h "grown" 0 (.a (.e 0) (.a (.e 2) .c)))) .f))) (.e (.f (.A (.e 2) (.g (.c 0)))) .f))))))⟩
noncomputable def zV:Fn:=⟨["thing","product"],["thing"],false,(.e (.h (.h "need_sizes" 0 (.a (.e 0) .c))) (.e (.g 1 (.h "product_of" 0 (.a (.e 0) .c))) (.e (.j (.a (.q .g (.e 1) (.E "MOST_PRODUCT"))) (.e (.d (.g .g)) .f) .f) .f)))⟩
noncomputable def yx:Fn:=⟨["numbers","product","number"],["numbers"],false,(.e (.g 1 (.g (.c 1))) (.e (.k (.a 2) (.f (.e 0)) (.e (.u 1 .b (.e 2)) .f)) (.e (.f (.e 1)) .f)))⟩
noncomputable def yd:Fn:=⟨["sizes","length"],["sizes","length"],false,(.e (.f (.l .a false (.a (.h "all_strips" 0 (.a (.e 0) (.a (.e 1) .c))) .c))) .f)⟩
noncomputable def x8:Fn:=⟨["sizes","counts","strips"],["sizes"],false,(.e (.h (.h "need_small_sizes" 0 (.a (.e 0) .c))) (.e (.g 1 (.u true .c)) (.e (.g 2 (.u false (.a (.k .c) .c))) (.e (.m (.a (.e 2)) (.e (.h (.M .a false (.e 1) (.a (.l .a false (.a (.e 2) .c)) .c))) (.e (.g 2 (.h "grown" 0 (.a (.e 0) (.a (.e 2) .c)))) .f))) (.e (.f (.e 1)) .f)))))⟩
end F12
end
section
namespace M
open L2
def okH(zs ns:List Int):List Nat:=(AR zs.length).filter λh=>!nt ns (vy zs h) h
def xJ(zs:List Int)(L:List (List Int)):List (List Int):=L.flatMap λns=>(okH zs ns).map λ(h:Nat)=>ns++[(h:Int)]
def yq(zs:List Int)(L:List (List Int)):Nat->List (List Int)
 |0=>L
 |n+1=>xJ zs (yq zs L n)
def ag:y∈xJ zs L↔∃x∈L,∃h:Nat,h<zs.length/\nt x (vy zs h) h=false/\y=x++[(h:Int)]:=by
 unfold xJ okH;rw[List.mem_flatMap];constructor
 . rintro ⟨x,hx,O⟩
   obtain⟨h,N,rfl⟩:=Bz.mp O;rw[EG,Bu,As]at N;exact⟨x,hx,h,N.1,N.2,rfl⟩
 . rintro ⟨x,hx,h,h1,P,rfl⟩
   refine⟨x,hx,Bz.mpr ⟨h,?_,rfl⟩⟩;rw[EG,Bu,As];exact⟨h1,P⟩
theorem lU(h:∀x∈L,x.length=k):∀n,∀x∈yq zs L n,x.length=k+n
 |0,x,hx=>h x hx
 |n+1,x,hx=>by obtain⟨y,N,a,_,_,rfl⟩:=ag.mp hx;rw[An,lU h n y N];rfl
def dt(L:List (List Int)):Prop:=L.Pairwise λa b=>oG a b=true
theorem gV:∀{a b x y},oG a b=true->oG (a++x) (b++y)=true
 |[],[],_,_,h=>by cases h
 |[],_::_,_,_,h=>by cases h
 |_::_,[],_,_,h=>by cases h
 |u::a,v::b,x,y,h=>by
  rw[Cq,Cq];unfold oG at h ⊢;by_cases e:u=v
  . rw[if_pos e]at h ⊢;exact gV h
  . rw[if_neg e]at h ⊢;exact h
theorem lV:∀{a} {x y},x<y->oG (a++[x]) (a++[y])=true
 |[],x,y,h=>by
  show oG [x] [y]=true;unfold oG;rw[if_neg ⋯];exact decide_eq_true h
 |u::a,x,y,h=>by rw[Cq,Cq];unfold oG;rw[if_pos rfl];exact lV h
def dG(h:dt L):dt (xJ zs L):=by
 unfold dt xJ;rw[List.pairwise_flatMap];refine⟨λa _=>?_,h.imp λ{a b} hab x hx y hy=>?_⟩
 . rw[List.pairwise_map]
   exact(List.pairwise_lt_range.filter _).imp λ{i j} hij=>lV ⋯
 . obtain⟨i,_,rfl⟩:=Bz.mp hx
   obtain⟨j,_,rfl⟩:=Bz.mp hy;exact gV hab
theorem dH(h:dt L):∀n,dt (yq zs L n)
 |0=>h
 |n+1=>dG (dH h n)
theorem qz zs L m:∀n,yq zs (yq zs L m) n=yq zs L (m+n)
 |0=>rfl
 |n+1=>congrArg (xJ zs) (qz zs L m n)
def Yx(zs:List Int):Nat->List (List Int)->Bool
 |0,L=>L.isEmpty
 |n+1,L=>decide (L.length<=100)&&Yx zs n (xJ zs L)
theorem gE:∀{n} {L},Yx zs n L=true->yq zs L n=[]/\∀m,m<n->(yq zs L m).length<=100
 |0,L,h=>⟨AN.mp h,λm x=>absurd x (Nat.not_lt_zero _)⟩
 |n+1,L,h=>by
  unfold Yx at h;rw[cf]at h;have ⟨h1,N⟩:=gE h.2;have e:∀m,yq zs (xJ zs L) m=yq zs L (m+1):=λm=>by have:=qz zs L 1 m;rw[show yq zs L 1=xJ zs L from rfl,Nat.add_comm 1 m]at this;exact this
  rw[e]at h1;refine⟨h1,λm x=>?_⟩;cases m with
  |zero=>exact of_decide_eq_true h.1
  |succ m=>rw[<-e];exact N m ⋯
noncomputable def Z4:List (List Int):=[3,3]::[3,4]::[4,3]::[2,2,3]::[2,3,2]::[3,2,2]::[2,6]::[5,2]::[2,4]::[3,2]::[2,2]::[2,2,2]::[2]::[3]::[5]::[8]::[]
def iJ:(Z4.all λzs=>Yx zs 18 [[]]&&decide (zs.foldl (·*·) 1<=12)&&(decide (1<=zs.length)&&decide (zs.length<=4)&&zs.all λx=>decide (2<=x)&&decide (x<=8)))=true:=by decide +kernel
def q0(h:yq zs L n=[]):∀m,yq zs L (n+m)=[]:=λm=>by
 rw[<-qz,h];induction m with
 |zero=>rfl
 |succ m x=>show xJ zs (yq zs [] m)=[];rw[x];rfl
structure yf(zs:List Int):Prop where
 c:Sz zs
 b:zs.foldl (·*·) 1<=12
 a:∀m,18<=m->yq zs [[]] m=[]
 d:∀m,(yq zs [[]] m).length<=100
def pW(h:zs∈Z4):yf zs:=by
 have:=Ay.mp iJ zs h;simp only[cf,decide_eq_true_eq,Ay]at this;obtain⟨⟨h1,R⟩,⟨Q,P⟩,O⟩:=this;have ⟨d1,d2⟩:=gE h1;have d3:∀m,18<=m->yq zs [[]] m=[]:=λm N=>by
  have:=q0 d1 (m-18)
  rwa [show 18+(m-18)=m by omega]at this
 refine⟨⟨Q,P,λx hx=>O x hx⟩,R,d3,λm=>?_⟩;by_cases N:m<18
 . exact d2 m N
 . rw[d3 m ⋯];simp
end M
end
section
namespace M
open PySem
abbrev tps(L:List (List Int)):List Val:=L.map tpI
noncomputable def unI:Val->List Int
 |.f vs=>vs.map λv=>match v with|.c i=>i|_=>0
 |_=>[]
def iX ns:unI (tpI ns)=ns:=by show (ns.map Val.c).map _=ns;rw[List.map_map];exact List.map_id' ns
theorem pD:∀L:List (List Int),zo (tps L)=true
 |[]=>rfl
 |ns::L=>by show (Val.noRef (tpI ns)&&zo (tps L))=true;rw[pD L,Fp];exact wH ns
def Yd(h:a.length+b.length<=zW):binOp false .a (.h a) (.h b) s=.e (.h (a++b)) s:=by simp only[binOp,yV];rw[if_pos h];rfl
def fZ{G:Nat->Val}{n:Nat}(hF:∀k<n,F (.c k)=if f k then [G k] else []):(wI 0 n).flatMap F=((AR n).filter f).map G:=by
 unfold wI;rw[List.flatMap_map];have:∀l:List Nat,(∀k∈l,k<n)->l.flatMap (λ(k:Nat)=>F (.c (0+(k:Int))))=(l.filter f).map G:=λl=>by
  induction l with
  |nil=>intro _;rfl
  |cons k l x=>
   intro h;rw[FD,x λj N=>h j (.tail _ N),show (0:Int)+(k:Int)=(k:Int) by omega,hF k (h k (.head _)),List.filter_cons]
   cases f k<;>rfl
 exact this _ λk hk=>Bu.mp hk
def Zq(zs ns:List Int):Val->List Val
 |.c a=>if !nt ns (vy zs a.toNat) a then [tpI (ns++[a])] else []
 |_=>[]
def WS zs ns:(wI 0 zs.length).flatMap (Zq zs ns)=tps ((okH zs ns).map λ(h:Nat)=>ns++[(h:Int)]):=by
 rw[fZ (f:=λh=>!nt ns (vy zs h) h) (G:=λh=>tpI (ns++[(h:Int)])) (λk _=>by simp[Zq])]
 show _=Et tpI (Et _ (List.filter _ _));rw[List.map_map];rfl
section
variable {T:Tbl}{Φ:Calls}{s:Sto}
def di(Φ:Calls):Prop:=∀(zs:List Int) (s:Sto),Sz zs->Φ "product_of" 0 [tpI zs] s=.e (.c (zs.foldl (·*·) 1)) s
def Zt(hz:Sz zs):run T Φ F12.yx [tpI zs] s=.e (.c (zs.foldl (·*·) 1)) s:=by
 rw[post_eq];simp[F12.yx,EVl,zS,za];refine vk (λrest e s'=>s'=s/\∃P acc N,e=[some (tpI zs),some (.c acc),P]/\rest=N.map Val.c/\(∀x∈N,2<=x/\x<=8)/\N.foldl (·*·) acc=zs.foldl (·*·) 1) (zs.map .c) (s1:=s) ?_ ⟨rfl,_,_,zs,rfl,rfl,hz.2.2,rfl⟩ ?_ ?_
 . rw[post_eq]
   simp[EVl,zS,za]
 . rintro x rest e s' ⟨rfl,P,acc,N,rfl,O,Q,hf⟩
   cases N with
   |nil=>cases O
   |cons y N=>
    rw[AZ]at O;injection O with h1 h2
    subst h1;have S:=Q y (.head _);refine⟨_,rfl,?_⟩;rw[z7];show (Out.bind (binOp false .b (.c acc) (.c y) s') _).post _;rw[lB ⋯,zM]
    simp only[EVl,zS,za];exact⟨trivial,_,_,N,rfl,h2,λx hx=>Q x (.tail _ hx),hf⟩
 . rintro e s' ⟨rfl,P,acc,N,rfl,O,Q,hf⟩
   have R:N=[]:=by cases N with|nil=>rfl|cons _ _=>cases O
   subst R;simp[EVl,zS,za];exact hf
def qT(Φ:Calls):Prop:=∀(zs:List Int) (s:Sto),yf zs->Φ "need_small_sizes" 0 [tpI zs] s=.e .g s
def bP(c:Vn Φ){L:List (List Int)}(hz:Sz zs)(Z:∀x∈L,x.length<=40)(W:(xJ zs L).length<=zW)(hi:yl Φ G env (.f (.e 1)) s=.e ⟨tps L,at_⟩ s)(S:Src.ok ⟨tps L,at_⟩ s=true)(h0:za [none,none,some 0] env=[none,none,some (tpI zs)])
  (Y:(newList m (tps (xJ zs L)) s).post P) :
 (evE Φ G env (.w m N [none,none,some 0] (.j false .a (.e 0) (.k (.a (.e 1) .c))) (.a 0) (.f (.e 1)) .a (.a 1) (.d (.l .a false (.a (.e 2) .c))) (.b (.a (.h "may_follow" 0 (.a (.e 2) (.a (.e 0) (.a (.e 1) .c))))) .a)) s).post P:=by
 have O:(tps L).flatMap (λx=>tps ((okH zs (unI x)).map λ(h:Nat)=>unI x++[(h:Int)]))=tps (xJ zs L):=by unfold xJ;show _=Et tpI (List.flatMap _ _);rw[List.flatMap_map,List.map_flatMap];congr 1;funext ns;rw[iX]
 refine X8 (λe=>∃a b,e=[a,b,some (tpI zs)]) (λx=>tps ((okH zs (unI x)).map λ(h:Nat)=>unI x++[(h:Int)])) (λx e=>∃b,e=[some x,b,some (tpI zs)]) (λx=>Zq zs (unI x)) ?_;refine⟨_,_,hi,S,⟨_,_,h0⟩,?_,?_,?_⟩
 . rintro x hx e ⟨a,b,rfl⟩
   obtain⟨ns,Q,rfl⟩:=Bz.mp hx;have U:=Z ns Q;refine⟨_,rfl,?_⟩;simp only[EVl,zS,za,if_true];refine⟨trivial,_,rfl,?_⟩;rw[aV,Ak];simp only[zC];refine⟨_,rfl,⟨⋯,by have:=hz.2.1;unfold zW;omega⟩,trivial,trivial,⟨_,rfl⟩,?_,?_,?_⟩
   . rintro e ⟨b,rfl⟩;exact⟨_,_,rfl⟩
   . rw[iX,Dk,WS]
   . rintro y R e ⟨b,rfl⟩
     obtain⟨k,hk,rfl⟩:=gW R;rw[Dk]at hk;rw[show (0:Int)+(k:Int)=(k:Int) by omega]
     refine⟨_,rfl,⟨_,rfl⟩,?_⟩;refine⟨_,rfl,_,rfl,_,rfl,?_⟩;rw[c zs ns k s hz U hk];simp only[zC,xB];refine⟨_,rfl,?_⟩;rw[iX];cases he:nt ns (vy zs k) k with
     |true=>simp[Zq,he]
     |false=>
      simp only[Bool.not_false,if_true,zC,true_and];refine⟨_,rfl,_,rfl,?_⟩;rw[if_pos (by simp[zW]),iy (by simp[zW];omega)]
      simp[Zq,he,EVl,zS,za]
 . show Small ((tps L).flatMap _)
   rw[O];show (tps (xJ zs L)).length<=zW;rw[Ak];exact W
 . show (newList m ((tps L).flatMap _) s).post P
   rw[O];exact Y
def nQ(Φ:Calls):Prop:=∀(zs:List Int) (L:List (List Int)) (s:Sto),Sz zs->(∀x∈L,x.length<=40)->(xJ zs L).length<=zW->Φ "grown" 0 [tpI zs,.h (tps L)] s=.e (.h (tps (xJ zs L))) s
def iB(c:Vn Φ)(hz:Sz zs)(O:∀x∈L,x.length<=40)(N:(xJ zs L).length<=zW):run T Φ F12.ub [tpI zs,.h (tps L)] s=.e (.h (tps (xJ zs L))) s:=by rw[post_eq,F12.ub,vv];refine⟨rfl,?_⟩;rw[z7,gZ];refine bP c hz O N (at_:=none) rfl rfl rfl ?_;simp only[M.newList,A2,if_false,zC,g9,bR];rw[vd (v:=.h (tps (xJ zs L))) (pD _)];exact zC.mpr ⟨rfl,rfl⟩
end
structure Far(zs:List Int)(N:Nat):Prop where
 a:yq zs [[]] N=[]
 on:∀m,m<N->yq zs [[]] m≠[]
 le:N<=18
 pos:0<N
def UH(h:yf zs):∃N,Far zs N:=by
 have O:∀n,yq zs [[]] n=[]->∃N,N<=n/\yq zs [[]] N=[]/\∀m,m<N->yq zs [[]] m≠[]:=λn=>by
  induction n with
  |zero=>intro e;cases e
  |succ n Q=>
   intro e;by_cases hn:yq zs [[]] n=[]
   . obtain⟨N,h1,x,P⟩:=Q hn
     exact⟨N,⋯,x,P⟩
   . refine⟨n+1,Aa _,e,λm S R=>?_⟩
     have:=q0 R (n-m);rw[show m+(n-m)=n by omega]at this
     exact hn this
 obtain⟨N,h1,x,P⟩:=O 18 (h.a 18 ⋯)
 refine⟨N,x,P,h1,?_⟩;cases N with
 |zero=>cases x
 |succ N=>omega
def Xo(h:yf zs)n:∀x∈yq zs [[]] n,x.length=n/\n<18:=λx hx=>by
 have:=lU (k:=0) (L:=[[]]) (zs:=zs) (λx hx=>by rw[AW.mp hx];rfl) n x hx
 refine⟨⋯,?_⟩
 by_cases hn:n<18
 . exact hn
 . rw[h.a n ⋯]at hx;cases hx
def eL(h:yf zs)n:∀x∈yq zs [[]] n,x.length<=40:=λx hx=>by have:=Xo h n x hx;omega
def bQ(h:yf zs)n:(yq zs [[]] n).length<=zW:=Az (h.d n) (by unfold zW;omega)
def sA(zs:List Int)(N:Nat):List Int:=(AR N).map λm=>((yq zs [[]] m).length:Int)
def hJ zs N:(sA zs N).length=N:=by simp[sA]
def cm zs N:sA zs (N+1)=sA zs N++[((yq zs [[]] N).length:Int)]:=by unfold sA;rw[List.range_succ,Dg];rfl
section
variable {T:Tbl}{Φ:Calls}{s:Sto}
def WB(c:nQ Φ)(hz:yf zs)(x:Far zs N)(U:R (.a [some (tpI zs),some (.m s.length),some (.h [])]) (s++[.c ((sA zs N).map .c)])) :
 (exS Φ G [some (tpI zs),some (.m s.length),some (.h [.f []])] (.m (.a (.e 2)) (.e (.h (.M .a false (.e 1) (.a (.l .a false (.a (.e 2) .c)) .c))) (.e (.g 2 (.h "grown" 0 (.a (.e 0) (.a (.e 2) .c)))) .f))) (s++[.c []])).post R:=by
 refine WD N (λk e s'=>∃m,m+k=N/\e=[some (tpI zs),some (.m s.length),some (.h (tps (yq zs [[]] m)))]/\s'=s++[.c ((sA zs m).map .c)]) (by have:=x.le;unfold mz;omega) ⟨0,⋯,rfl,rfl⟩ ?_
 rintro k e s' ⟨m,W,rfl,rfl⟩;simp only[ZI,ZJ];refine⟨_,rfl,_,YD,?_⟩;cases k with
 |zero=>
  have:m=N:=by omega
  subst this;rw[x.a];exact U
 |succ k=>
  have O:=x.on m ⋯
  have Q:(!(tps (yq zs [[]] m)).isEmpty)=true:=by
   cases hL:yq zs [[]] m with
   |nil=>exact absurd hL O
   |cons _ _=>rfl
  rw[Q,if_pos rfl];have P:xA .a (.m s.length) [.c ((yq zs [[]] m).length:Int)] (s++[.c ((sA zs m).map .c)])=.e .g (s++[.c ((sA zs (m+1)).map .c)]):=by rw[Yg (by rw[Ak,hJ];have:=x.le;unfold zW;omega),cm,Dg];rfl
  have S:=c zs (yq zs [[]] m) (s++[.c ((sA zs (m+1)).map .c)]) hz.c (eL hz m) (bQ hz (m+1));simp only[EVl,zS,za];refine⟨_,rfl,_,rfl,?_⟩;rw[VM,Ak];simp only[zC];show (xA .a (.m s.length) [.c ((yq zs [[]] m).length:Int)] (s++[.c ((sA zs m).map .c)])).post _;rw[P];simp only[zC];refine⟨_,rfl,_,rfl,?_⟩;rw[S];simp only[zC];exact⟨k,⋯,m+1,⋯,rfl,rfl⟩
def ip(Φ:Calls):Prop:=∀(zs:List Int) (N:Nat) (s:Sto),yf zs->Far zs N->Φ "tally" 0 [tpI zs] s=.e (.h ((sA zs N).map .c)) s
def iE(c1:qT Φ)(c:nQ Φ)(hz:yf zs)(x:Far zs N):run T Φ F12.x8 [tpI zs] s=.e (.h ((sA zs N).map .c)) s:=by
 rw[post_eq];simp[F12.x8,EVl,zS,za,c1 zs s hz,M.newList,zW];refine WB c hz x ?_;simp only[EVl,zS,za];refine⟨_,rfl,?_⟩;rw[jU (vs:=(sA zs N).map .c) (Aa _) (by simp) (wH _)]
 exact zC.mpr ⟨rfl,rfl⟩
def sj(Φ:Calls):Prop:=∀(zs:List Int) (N:Nat) (s:Sto),yf zs->Far zs N->Φ "farthest" 0 [tpI zs] s=.e (.c ((N:Int)-1)) s
def mY(c:ip Φ)(hz:yf zs)(x:Far zs N):run T Φ F12.yn [tpI zs] s=.e (.c ((N:Int)-1)) s:=by rw[post_eq];simp[F12.yn,EVl,zS,za,c zs N s hz x,VM,Yk,hJ]
end
structure Th(k w:Nat)(v:Val):Prop where
 f:v.noRef=true
 b:kindOf v≠none
 r:v.isR=true
 c:L2.uA k w v.d
 e:v.d.hasDict=false
 a:∀s,yp s v=v
theorem Th.mono(h:Th k w v)(h1:k<=k')(x:w<=w'):Th k' w' v:=⟨h.f,h.b,h.r,h.c.mono h1 x,h.e,h.a⟩
def rT(h1:-(10 ^ 30)<i)(x:i<10 ^ 30):Th 0 100 (.c i):=⟨pG,nofun,by rw[Val.isR],by rw[Val.d];exact L2.aZ h1 x,by rw[Val.d];rfl,λ_=>rfl⟩
def Wm b:Th 0 100 (.e b):=⟨vi,nofun,by rw[Val.isR],by rw[Val.d];exact(L2.eD b).mono (Aa _) (Bs _),by rw[Val.d];rfl,λ_=>rfl⟩
def g8:Th 0 100 .g:=⟨mG,nofun,by rw[Val.isR],by rw[Val.d];exact L2.eH.mono (Aa _) (Bs _),by rw[Val.d];rfl,λ_=>rfl⟩
def Sj(h1:∀c∈x.cps.toList,c<16 ^ 8)(N:x.cps.size<=100):Th 0 100 (.j x):=⟨mH,nofun,by rw[Val.isR],by rw[Val.d];exact L2.aa h1 N,by rw[Val.d];rfl,λ_=>rfl⟩
theorem ths:∀{vs},(∀v∈vs,Th k w v)->zo vs=true/\qB vs=true/\(ds vs).length=vs.length/\∀d∈ds vs,L2.uA k w d/\d.hasDict=false
 |[],_=>⟨qN,by rw[qB],by rw[ds];rfl,λd h=>by rw[ds]at h;cases h⟩
 |v::vs,h=>by
  obtain⟨a,b,c,e⟩:=ths λx hx=>h x (.tail _ hx);have t:=h v (.head _);refine⟨by rw[vI,t.f,a];rfl,by rw[qB,t.r,b];rfl,by rw[ds,AB,AB,c],λd hd=>?_⟩
  rw[ds]at hd;rcases Ao.mp hd with rfl|hd
  . exact⟨t.c,t.e⟩
  . exact e d hd
def iR(h:∀v∈vs,Th k w v)(x:vs.length<=n):Th (k+1) (n*(w+1)) (.f vs):=by
 obtain⟨a,b,c,e⟩:=ths h;refine⟨by rw[mI];exact a,nofun,by rw[Val.isR];exact b,by rw[Val.d];exact L2.jT (λd hd=>(e d hd).1) (by rw[c];exact x),?_,λ_=>rfl⟩
 rw[Val.d,PyData.hasDict];exact L2.rL λd hd=>(e d hd).2
def YC(h:∀v∈vs,Th k w v)(x:vs.length<=n):Th (k+1) (n*(w+1)) (.h vs):=by
 obtain⟨a,b,c,e⟩:=ths h;refine⟨by rw[pH];exact a,nofun,by rw[Val.isR];exact b,by rw[Val.d];exact L2.eE (λd hd=>(e d hd).1) (by rw[c];exact x),?_,λ_=>rfl⟩
 rw[Val.d,PyData.hasDict];exact L2.rL λd hd=>(e d hd).2
structure Thing(v:Val):Prop where
 a:Th 2 200000 v
 el:∀vs,v=.f vs->∀w∈vs,Th 1 1000 w
def kO(h:Th 1 1000 v)(x:∀vs,v≠.f vs):Thing v:=⟨h.mono (by decide) (by decide),λvs e=>absurd e (x vs)⟩
def rV(h:∀v∈vs,Th 1 1000 v)(x:vs.length<=190):Thing (.f vs):=⟨(iR h x).mono (by decide) (by decide),λws e=>by cases e;exact h⟩
def dW(h:∀v∈vs,Th 1 1000 v)(x:vs.length<=190):Thing (.h vs):=⟨(YC h x).mono (by decide) (by decide),λws e=>by cases e⟩
def Thing.kinds(h:Thing v):∀vs,v=.f vs->∀w∈vs,kindOf w≠none:=λvs e w hw=>(h.el vs e w hw).b
theorem Thing.shown(h:Thing v)m s:blt .e m [v] s=.e (.j v.d.shown) s:=by
 have e:zw s v=v:=by
  cases v with
  |f vs=>
   show Val.f (vs.map (yp s))=_;rw[List.map_congr_left (g:=id) λw hw=>(h.el vs rfl w hw).a s,List.map_id]
  |_=>exact h.a.a s
 simp only[blt];rw[e,h.a.r,eU h.a.c (by decide) (by decide) h.a.e]
 rfl
def dP(h1:-1000<=i)(x:i<=1000):Th 1 1000 (.c i):=(rT ⋯ ⋯).mono (by decide) (by decide)
def Wn{ns:List Int}(h:∀x∈ns,-1000<=x/\x<=1000):∀v∈ns.map Val.c,Th 1 1000 v:=λv N=>by obtain⟨i,hi,rfl⟩:=Bz.mp N;exact dP (h i hi).1 (h i hi).2
def pV:tU m (.f vs) lo hi none s=.e (.f (qf vs lo hi)) s:=rfl
noncomputable def P1(zs:List Int):Val->List Val
 |.f [.c i,.c h]=>if (zs.length:Int)<=h then [.c i] else []
 |_=>[]
section
variable {T:Tbl}{Φ:Calls}{s:Sto}
def yH:Val->Bool
 |.f vs=>(decide (1<=vs.length)&&decide (vs.length<=4))&&vs.all (z0 2 8)
 |_=>false
def nR(Φ:Calls):Prop:=∀(v:Val) (s:Sto),kindOf v≠none->(∀vs,v=.f vs->∀w∈vs,kindOf w≠none)->Φ "are_sizes" 0 [v] s=.e (.e (yH v)) s
def Z3{v:Val}(h:∀vs,v≠.f vs):yH v=false:=by
 cases v with
 |f vs=>exact absurd rfl (h vs)
 |_=>rfl
def iD(g:Gl4 T)(c:iq Φ)(hk:kindOf v≠none)(R:∀vs,v=.f vs->∀w∈vs,kindOf w≠none):run T Φ F.xG [v] s=.e (.e (yH v)) s:=by
 obtain⟨a,P⟩:=gU hk;have Q:=jK (m:=false) (s:=s) P (show tN "tuple"=some .d from rfl);have N:∀{b:Bool},b=yH v->(yE false s (.e b) s).post λx t=>x=.e (yH v)/\t=s:=λ{b} e=>by rw[e];exact vG vi
 rw[post_eq,F.xG,vv];refine⟨rfl,?_⟩;show (zd Φ T.b [some v] _ s).post _;rcases U7 P with⟨vs,rfl⟩|S
 . have e1:a=.d:=by cases P;rfl
   subst e1;have e2:(decide ((1:Int)<=(vs.length:Nat))&&decide (((vs.length:Nat):Int)<=4))=(decide (1<=vs.length)&&decide (vs.length<=4)):=by
    congr 1
    . exact decide_eq_decide.mpr ⋯
    . exact decide_eq_decide.mpr ⋯
   have O:=YS (Φ:=Φ) (G:=T.b) (env:=[some (.f vs)]) (s:=s) (a:=.g (.c 1)) (b:=.l .a false (.a (.e 0) .c)) (c:=.l .a false (.a (.E "HUES") .c)) zL (wX (zA (zF rfl) zE) aV) (wX (zA (mr g.hu) zE) TJ);rw[show ((([0,1,2,3]:List Int).length:Nat):Int)=4 from rfl,e2]at O;have e3:yH (.f vs)=((decide (1<=vs.length)&&decide (vs.length<=4))&&vs.all (z0 2 8)):=rfl;cases hb:(decide (1<=vs.length)&&decide (vs.length<=4)) with
   |true=>
    rw[hb]at O e3;exact vx (YR (wX (zA (zF rfl) (zA kQ zE)) Q) O (x_call (zA (zF rfl) (zA (mr g.ls) (zA (mr g.ms) zE))) (c vs 2 8 s (R vs rfl)))) (N (by rw[e3];rfl))
   |false=>
    rw[hb]at O e3;exact vx (YQ (wX (zA (zF rfl) (zA kQ zE)) Q) O) (N e3.symm)
 . rw[S]at Q
   exact vx (YO (wX (zA (zF rfl) (zA kQ zE)) Q)) (N (Z3 λvs e=>by rw[e]at P;cases P;cases S).symm)
end
def SW:Val->Bool
 |.f vs=>decide (vs.length<=40)&&vs.all (z0 0 3)
 |_=>false
end M
end
section
namespace F75
open PySem M
noncomputable def ym:Fn:=⟨["_law_pen_here","_law_bound","_law_found","_law_stir"],["_law_pen_here","_law_bound"],false,(.e (.j (.d (.a (.q .b (.A (.e 0) (.g (.c 1))) (.g (.c 1)))) (.b (.a (.q .g (.A (.e 0) (.g (.c 0))) (.g (.c 0)))) .a)) (.e (.g 2 (.j false .c (.A (.e 0) (.g (.c 0))) (.e 1))) (.e (.l (.e 0) (.g (.c 0)) (.j false .d (.A (.e 0) (.g (.c 0))) (.e 1))) (.e (.f (.e 2)) .f))) .f) (.e (.l (.e 0) (.g (.c 2)) (.j false .a (.A (.e 0) (.g (.c 2))) (.g (.c 1)))) (.e (.g 3 (.j false .c (.j false .b (.j false .a (.A (.e 0) (.g (.c 3))) (.g (.c 17))) (.j false .a (.g (.c 69621)) (.j false .b (.g (.c 2)) (.A (.e 0) (.g (.c 2)))))) (.g (.c 2147483647)))) (.e (.g 3 (.j false .c (.j false .a (.j false .a (.j false .b (.e 3) (.e 3)) (.j false .b (.g (.c 40503)) (.A (.e 0) (.g (.c 2))))) (.g (.c 5))) (.g (.c 2147483629)))) (.e (.f (.j false .c (.j false .d (.j false .c (.j false .b (.e 3) (.g (.c 48271))) (.g (.c 2147483647))) (.g (.c 32))) (.e 1))) .f)))))⟩
noncomputable def yJ:Fn:=⟨["_law_cell"],["_law_cell"],true,(.e (.f (.u true (.a (.e 0) (.a (.l .o false (.a (.q .i (.e 0) (.j false .e (.g (.c 10)) (.g (.c 18)))) .c)) (.a (.g (.c 0)) (.a (.j false .c (.e 0) (.g (.c 1000000007))) .c)))))) .f)⟩
end F75
end
section
namespace M
open PySem
noncomputable def QV(a b c d:Int):Cel:=.c [.c a,.c b,.c c,.c d]
def PM(s:Sto)(p:Nat):Prop:=∃a b c d,s[p]?=some (QV a b c d)/\0<=d/\d<1000000007
def S7(s:Sto)(p:Nat)(s':Sto):Prop:=∃a b c d,s'=s.set p (QV a b c d)/\0<=d/\d<1000000007
def S7.at_(h:S7 s p s')(hp:p<s.length):PM s' p:=by obtain⟨a,b,c,d,rfl,h1⟩:=h;exact⟨a,b,c,d,AJ hp,h1⟩
theorem sL:∀{vs},(∀v∈vs,v.noRef=true)->zo vs=true
 |[],_=>qN
 |v::vs,h=>by rw[vI,h v (.head _),sL λw hw=>h w (.tail _ hw)];rfl
def Zy(hd:v.isD=true)(hp:v.d.depth<=60)(O:∀x,v≠.j x)(N:zw s v=v):zT .a v v s=.e (.e false) s/\zT .b v v s=.e (.e true) s:=by
 have e:oF v v=some true:=by unfold oF;rw[hd,decide_eq_true hp,SeqAt.eqv_refl _ (yB hd)];rfl
 cases v with
 |j x=>exact absurd rfl (O x)
 |_=>exact⟨by simp only[zT,N,e];rfl,by simp only[zT,N,e]⟩
def jR(h:exS Φ G env c s=.e (.a e) s1):zd Φ G env (.e c cs) s=zd Φ G e cs s1:=bnd h rfl
def xu(h:exS Φ G env c s=.d):zd Φ G env (.e c cs) s=.d:=by show (exS Φ G env c s).bind _=_;rw[h];rfl
def U5(h:evT Φ G env c s=.e true s1)(k:zd Φ G env a s1=.d):exS Φ G env (.j c a b) s=.d:=bnd h k
def ug:exS Φ G env (.d e) s=.d:=rfl
def n5(h:evE Φ G env e s=.d):exS Φ G env (.h e) s=.d:=by show (evE Φ G env e s).bind _=_;rw[h];rfl
def gS(h:evE Φ G env e s=.e v s1):exS Φ G env (.h e) s=.e (.a env) s1:=bnd h rfl
def j7(h:exS Φ G env c s=.e (.a e) s1):xSs W Φ Ψ G env (.e c cs) s=xSs W Φ Ψ G e cs s1:=by simp only[XW,h]
def xy(h:exS Φ G env c s=.d):xSs W Φ Ψ G env (.e c cs) s=xS W Φ Ψ G env c s:=by simp only[XW,h]
def SJ(h:evT Φ G env c s=.e true s1):xS W Φ Ψ G env (.j c a b) s=xSs W Φ Ψ G env a s1:=by simp only[XW,h,if_true]
def mU(h:zY Φ G env es s=.e vs s1):xS W Φ Ψ G env (.h (.h f v es)) s=Ψ f v vs s1:=by simp only[XW,XQ,h]
def mV(h:zY Φ G env es s=.e vs s1)(k:(rq vs&&W c)=true):xS W Φ Ψ G env (.d (.h c v es)) s=some (c,vs,s1):=by simp only[XW,h];rw[if_pos k]
def ye(x:vs.length=F.b.length)(h:zd Φ T.b (zS F.N vs) F.a s=.d):run T Φ F vs s=.d:=by unfold run;rw[if_pos x,h];rfl
def Rz(Φ:Calls)(Ψ:yR)(f:Str)(vs:List Val)(s:Sto)(c:Str):Prop:=Φ f 0 vs s=.d/\∃as,Ψ f 0 vs s=some (c,as,s)
def gw(h:Rz (zB T n) (zO T n) f vs s c)(h1:T.d f 100=none)(P:T.c false=true)(O:zi T.f s=true)(N:T.e.lookup c=some w)(x:w≠"great":=by decide):zB T (n+1) f 100 vs s=.e (.j w) s:=by
 obtain⟨a,as,b⟩:=h;have hA:wg false w as=.j w:=by unfold wg;rw[if_neg Ac,if_neg x]
 simp only[zB,h1,a,b,P,O,N,uU];show Out.e (wg false w as) s=_;rw[hA]
section
variable {T:Tbl}{Φ:Calls}{Ψ:yR}{s:Sto}
def W3(Φ:Calls)(Ψ:yR):Prop:=∀(v:Val) (l m:Int) (s:Sto),kindOf v≠none->z0 l m v=false->l.natAbs<2 ^ 64->m.natAbs<2 ^ 64->Rz Φ Ψ "need_whole" [v,.c l,.c m] s "NoNumber"
def Yc(Φ:Calls)(Ψ:yR):Prop:=∀(v:Val) (s:Sto),kindOf v≠none->z0 0 40 v=false->Rz Φ Ψ "need_length" [v] s "NoNumber"
def cI(c:kU Φ)(S:(T.e.lookup ("NoNumber":Str)).isSome=true)(hk:kindOf v≠none)(hw:z0 l m v=false)(R:l.natAbs<2 ^ 64)(Q:m.natAbs<2 ^ 64) :
 run T Φ F.yM [v,.c l,.c m] s=.d/\xSs (λc=>(T.e.lookup c).isSome) Φ Ψ T.b (zS F.yM.N [v,.c l,.c m]) F.yM.a s=some (("NoNumber":Str),[Val.c l,Val.c m],s):=by
 have x:evT Φ T.b [some v,some (.c l),some (.c m)] (.b (.a (.h "is_whole" 0 (.a (.e 0) (.a (.e 1) (.a (.e 2) .c)))))) s=.e true s:=by have P:=c v l m s hk;rw[hw]at P;exact Vh (b:=false) (u6 (x_call (zA (zF rfl) (zA (zF rfl) (zA (zF rfl) zE))) P) xB)
 have O:=U5 (b:=.f) x (xu (cs:=.f) (ug (e:=.h "NoNumber" 0 (.a (.e 1) (.a (.e 2) .c)))));refine⟨ye rfl (xu O),(xy O).trans ((SJ x).trans ((xy ug).trans (mV (zA (zF rfl) (zA (zF rfl) zE)) ?_)))⟩;rw[S];simp[rq,R,Q]
def ke(g:T.b "MOST_PLACES"=some (.c 40))(c:W3 Φ Ψ)(hk:kindOf v≠none)(hw:z0 0 40 v=false) :
 run T Φ F.yQ [v] s=.d/\∃as,xSs (λc=>(T.e.lookup c).isSome) Φ Ψ T.b (zS F.yQ.N [v]) F.yQ.a s=some (("NoNumber":Str),as,s):=by
 obtain⟨a,as,b⟩:=c v 0 40 s hk hw (by decide) (by decide)
 have O:zY Φ T.b [some v] (.a (.e 0) (.a (.g (.c 0)) (.a (.E "MOST_PLACES") .c))) s=.e [v,.c 0,.c 40] s:=zA (zF rfl) (zA zL (zA (mr g) zE));have x:=n5 (x_call O a);exact⟨ye rfl (xu x),as,(xy x).trans ((mU O).trans b)⟩
end
theorem wN:∀{tb} {s},zi tb s=true↔∃r,s=tb.map Cel.d++r
 |[],s=>⟨λ_=>⟨s,rfl⟩,λ_=>rfl⟩
 |x::tb,s=>by
  constructor
  . intro h
    cases s with
    |nil=>cases h
    |cons c r=>
     cases c with
     |d y=>
      have h':(decide (x=y)&&zi tb r)=true:=h;rw[cf,decide_eq_true_eq]at h';obtain⟨N,e⟩:=wN.mp h'.2;exact⟨N,by rw[h'.1,e];rfl⟩
     |_=>cases h
  . rintro ⟨r,rfl⟩
    show (decide (x=x)&&zi tb (tb.map Cel.d++r))=true;rw[decide_eq_true rfl,wN.mpr ⟨r,rfl⟩];rfl
def Wj(h:zi tb s=true):zi tb (s++t)=true:=by obtain⟨r,rfl⟩:=wN.mp h;exact wN.mpr ⟨r++t,Br ..⟩
def Wl(h:zi tb s=true)(hp:tb.length<=p):zi tb (s.set p c)=true:=by obtain⟨r,rfl⟩:=wN.mp h;refine wN.mpr ⟨r.set (p-tb.length) c,?_⟩;rw[List.set_append_right _ _ (by rw[Ak];exact hp),Ak]
def Wk(h:zi tb s=true):tb.length<=s.length:=by obtain⟨r,rfl⟩:=wN.mp h;rw[An,Ak];omega
def eJ(x:zi tb s=true)(h:v.noRef=true):yE false (tb.map Cel.d) v s=.e v (tb.map Cel.d):=by obtain⟨r,rfl⟩:=wN.mp x;exact jV h
def RzF(T:Tbl)(Φ:Calls)(Ψ:yR)(F:Fn)(vs:List Val)(s:Sto)(c:Str):Prop:=run T Φ F vs s=.d/\∃as,xSs (λc=>(T.e.lookup c).isSome) Φ Ψ T.b (zS F.N vs) F.a s=some (c,as,s)
def RzF.up(h:RzF T (zB T n) (zO T n) F vs s c)(hf:T.d f 0=some F)(x:vs.length=F.b.length):Rz (zB T (n+1)) (zO T (n+1)) f vs s c:=by obtain⟨a,as,b⟩:=h;exact⟨by rw[zk hf];exact a,as,by rw[qa hf x];exact b⟩
def oR(P:F.a=.e (.h (.h f 0 es)) cs)(Q:vs.length=F.b.length)(O:zY Φ T.b (zS F.N vs) es s=.e ws s)(h:Rz Φ Ψ f ws s c):RzF T Φ Ψ F vs s c:=by obtain⟨a,as,b⟩:=h;have x:=n5 (x_call O a);refine⟨ye Q (by rw[P];exact xu x),as,by rw[P];exact(xy x).trans ((mU O).trans b)⟩
def kf(Q:F.a=.e (.h (.h f 0 es)) (.e (.h (.h g 0 es2)) cs))(R:vs.length=F.b.length)(S:zY Φ T.b (zS F.N vs) es s=.e ws s)(h1:Φ f 0 ws s=.e v s)(x:zY Φ T.b (zS F.N vs) es2 s=.e ys s)(h:Rz Φ Ψ g ys s c):RzF T Φ Ψ F vs s c:=by obtain⟨a,as,b⟩:=h;have O:=n5 (x_call x a);have P:=gS (x_call S h1);refine⟨ye R (by rw[Q];exact(jR P).trans (xu O)),as,by rw[Q];exact(j7 P).trans ((xy O).trans ((mU x).trans b))⟩
structure Kds(v:Val):Prop where
 kd:kindOf v≠none
 el:∀vs,v=.f vs->∀w∈vs,kindOf w≠none
def lQ ns:Kds (tpI ns):=⟨nofun,λvs e=>by cases e;exact eA⟩
section
variable {T:Tbl}{Φ:Calls}{Ψ:yR}{G:Str->Option Val}{s:Sto}
def cB(c:nR Φ):oO Φ:=λzs s h=>by rw[c _ s (lQ zs).kd (lQ zs).el];show Out.e (Val.e (decide (1<=(zs.map Val.c).length)&&decide ((zs.map Val.c).length<=4)&&(zs.map Val.c).all (z0 2 8))) s=_;rw[Ak,decide_eq_true h.1,decide_eq_true h.2.1,ka h.2.2];rfl
def d8(Φ:Calls)(Ψ:yR):Prop:=∀(v:Val) (s:Sto),Kds v->yH v=false->Rz Φ Ψ "need_sizes" [v] s "NoSizes"
def fG(c:nR Φ)(Q:(T.e.lookup ("NoSizes":Str)).isSome=true)(x:Kds v)(P:yH v=false):RzF T Φ Ψ F.yL [v] s "NoSizes":=by have cs:=c v s x.kd x.el;rw[P]at cs;have N:evT Φ T.b [some v] (.b (.a (.h "are_sizes" 0 (.a (.e 0) .c)))) s=.e true s:=Vh (b:=false) (u6 (x_call (zA (zF rfl) zE) cs) xB);have O:=U5 (b:=.f) N (xu (cs:=.f) (ug (e:=.h "NoSizes" 0 (.a (.g (.j "one to four sizes are due")) .c))));refine⟨ye rfl (xu O),_,(xy O).trans ((SJ N).trans ((xy ug).trans (mV (zA zL zE) ?_)))⟩;rw[Q];rfl
end
def WY(h:(zd Φ G (env.set i none) mid s).post λfl x=>x=s/\∃e0 vs y,fl=.a e0/\zY Φ G e0 L s=.e vs s/\evE Φ G e0 d s=.e y s/\zT .a (.h vs) y s=.e (.e false) s/\tJ Φ G e0 o s=.e false s/\(zd Φ G e0 cs s).post P) :
 (zd Φ G env (.g i L mid 2 d o b cs) s).post P:=by
 obtain⟨fl,x,N,e,e0,vs,y,rfl,h1,S,R,Q,O⟩:=h;subst e;have e:zd Φ G env (.g i L mid 2 d o b cs) x=zd Φ G e0 cs x:=by
  refine bnd N ?_;show (if vR x=vR x then _ else _)=_
  rw[if_pos rfl];refine bnd h1 (bnd (a:=false) (s:=x) (bnd S (bnd (a:=false) (s:=x) ?_ Q)) ?_)
  . rw[R];rfl
  . rfl
 rw[e];exact O
structure Nst(v:Val):Prop where
 kds:Kds v
 no:SW v=false
 sh:∃x,∀s,blt .e false [v] s=.e (.j x) s
 nr:v.noRef=true
def Xr:Nst .o:=⟨⟨nofun,nofun⟩,rfl,⟨_,λs=>by
 have h:(Val.o.isR&&tS Val.o.d)=true:=by rw[Val.isR,Val.d];decide +kernel
 show (if (Val.o.isR&&tS Val.o.d)=true then Out.e (Val.j Val.o.d.shown) s else Out.d)=_
 exact if_pos h⟩,by rw[Val.noRef]⟩
noncomputable def cL:Int:=100000000000000000000000000000
def cM:binOp m .e (.c 10) (.c 29) s=.e (.c cL) s:=by
 simp only[binOp];rw[if_pos (by decide)]
 congr 2
def RzG(Φ:Calls)(Ψ:yR)(f:Str)(vs:List Val)(s:Sto)(c:Str)(as:List Val):Prop:=Φ f 0 vs s=.d/\Ψ f 0 vs s=some (c,as,s)
def wY(T:Tbl)(Φ:Calls)(Ψ:yR)(F:Fn)(vs:List Val)(s:Sto)(c:Str)(as:List Val):Prop:=run T Φ F vs s=.d/\xSs (λc=>(T.e.lookup c).isSome) Φ Ψ T.b (zS F.N vs) F.a s=some (c,as,s)
def RzG.rz(h:RzG Φ Ψ f vs s c as):Rz Φ Ψ f vs s c:=⟨h.1,as,h.2⟩
def wY.up(h:wY T (zB T n) (zO T n) F vs s c as)(hf:T.d f 0=some F)(x:vs.length=F.b.length):RzG (zB T (n+1)) (zO T (n+1)) f vs s c as:=
 ⟨by rw[zk hf];exact h.1,by rw[qa hf x];exact h.2⟩
def U4(h:evE Φ G env e s=.e v s1):exS Φ G env (.g i e) s=.e (.a (env.set i (some v))) s1:=bnd h rfl
end M
end
section
namespace F64
open PySem M
noncomputable def zV:Fn:=⟨["thing","product"],["thing"],false,(.e (.h (.h "need_sizes" 0 (.a (.e 0) .c))) (.e (.g 1 (.h "product_of" 0 (.a (.e 0) .c))) (.e (.j (.a (.q .g (.e 1) (.E "MOST_PRODUCT"))) (.e (.d (.h "TooGreat" 1 (.a (.e 1) (.a (.E "MOST_PRODUCT") .c)))) .f) .f) .f)))⟩
end F64
end
section
namespace M
open PySem
def pS(g:T.b "MOST_PRODUCT"=some (.c 12))(c1:tD Φ)(c2:di Φ)(hz:yf zs):run T Φ F64.zV [tpI zs] s=.e .g s:=by
 have x:¬(12<zs.foldl (·*·) 1):=by have:=hz.b;omega
 rw[post_eq,F64.zV,vv];refine⟨rfl,?_⟩;show (zd Φ T.b [some (tpI zs),none] _ s).post _;refine WX (x_call (zA (zF rfl) zE) (c1 zs s hz.c)) (vN (x_call (zA (zF rfl) zE) (c2 zs s hz.c)) ?_);exact pU (u6 (u9 (zF rfl) (mr g) (by rw[gt_int,decide_eq_false x])) xB) (u0 (vG mG))
def kg(O:d8 Φ Ψ)(x:Kds v)(N:yH v=false):RzF T Φ Ψ F64.zV [v] s "NoSizes":=oR rfl rfl (zA (zF rfl) zE) (O v s x N)
def kh(g:T.b "MOST_PRODUCT"=some (.c 12))(c1:tD Φ)(c2:di Φ)(O:(T.e.lookup ("TooGreat":Str)).isSome=true)(hz:Sz zs)(h1:12<zs.foldl (·*·) 1)(P:zs.foldl (·*·) 1<100000):wY T Φ Ψ F64.zV [tpI zs] s "TooGreat" [.c (zs.foldl (·*·) 1),.c 12]:=by
 have e1:exS Φ T.b [some (tpI zs),none] (.h (.h "need_sizes" 0 (.a (.e 0) .c))) s=.e (.a [some (tpI zs),none]) s:=gS (x_call (zA (zF rfl) zE) (c1 zs s hz));have e2:exS Φ T.b [some (tpI zs),none] (.g 1 (.h "product_of" 0 (.a (.e 0) .c))) s=.e (.a [some (tpI zs),some (.c (zs.foldl (·*·) 1))]) s:=U4 (x_call (zA (zF rfl) zE) (c2 zs s hz))
 have x:evT Φ T.b [some (tpI zs),some (.c (zs.foldl (·*·) 1))] (.a (.q .g (.e 1) (.E "MOST_PRODUCT"))) s=.e true s:=u6 (u9 (zF rfl) (mr g) (show zT .g (.c (zs.foldl (·*·) 1)) (.c 12) s=.e (.e true) s by rw[gt_int,decide_eq_true h1])) xB
 have N:=U5 (b:=.f) x (xu (cs:=.f) (ug (e:=.h "TooGreat" 1 (.a (.e 1) (.a (.E "MOST_PRODUCT") .c)))));refine⟨ye rfl ((jR e1).trans ((jR e2).trans (xu N))),(j7 e1).trans ((j7 e2).trans ((xy N).trans ((SJ x).trans ((xy ug).trans (mV (zA (zF rfl) (zA (mr g) zE)) ?_)))))⟩;rw[O,Fp];show (decide (_<2 ^ 64)&&decide (_<2 ^ 64))=true;rw[decide_eq_true ⋯,decide_eq_true (by decide)];rfl
def xn(P:F.a=.e (.h (.h f 0 es)) cs)(Q:vs.length=F.b.length)(O:zY Φ T.b (zS F.N vs) es s=.e ws s)(h:RzG Φ Ψ f ws s c as):wY T Φ Ψ F vs s c as:=by have x:=n5 (x_call O h.1);refine⟨ye Q (by rw[P];exact xu x),by rw[P];exact(xy x).trans ((mU O).trans h.2)⟩
def cE(P:F.a=.e (.g i (.h f 0 es)) cs)(Q:vs.length=F.b.length)(O:zY Φ T.b (zS F.N vs) es s=.e ws s)(h:RzG Φ Ψ f ws s c as):wY T Φ Ψ F vs s c as:=by
 have x:exS Φ T.b (zS F.N vs) (.g i (.h f 0 es)) s=.d:=by show (evE Φ T.b (zS F.N vs) (.h f 0 es) s).bind _=_;rw[x_call O h.1];rfl
 refine⟨ye Q (by rw[P];exact xu x),?_⟩
 rw[P,xy x];simp only[XW,XQ,O];exact h.2
def cH(P:F.a=.e (.f (.l .a m (.a (.h f 0 es) .c))) cs)(Q:vs.length=F.b.length)(O:zY Φ T.b (zS F.N vs) es s=.e ws s)(h:RzG Φ Ψ f ws s c as):wY T Φ Ψ F vs s c as:=by
 have x:exS Φ T.b (zS F.N vs) (.f (.l .a m (.a (.h f 0 es) .c))) s=.d:=by show (Out.bind (Out.bind (Out.bind (evE Φ T.b (zS F.N vs) (.h f 0 es) s) _) _) _)=_;rw[x_call O h.1];rfl
 refine⟨ye Q (by rw[P];exact xu x),?_⟩
 rw[P,xy x];simp only[XW,XQ,O];exact h.2
def RzG.of(h:Rz Φ Ψ f vs s c):∃as,RzG Φ Ψ f vs s c as:=by obtain⟨a,as,b⟩:=h;exact⟨as,a,b⟩
end M
end
section
namespace F13
open PySem M
noncomputable def yY:Fn:=⟨["_law_sizes_here","_law_other","_law_calls","!"],["_law_sizes_here","_law_other"],false,(.g 2 (.a (.h "farthest" 100 (.a (.e 0) .c)) (.a (.h "tally" 100 (.a (.e 0) .c)) (.a (.h "ends" 100 (.a (.e 0) .c)) (.a (.h "shut_ends" 100 (.a (.e 0) .c)) (.a (.h "strips_many" 100 (.a (.e 0) (.a (.e 1) .c))) (.a (.h "all_strips" 100 (.a (.e 0) (.a (.e 1) .c))) (.a (.h "first_strip" 100 (.a (.e 0) (.a (.e 1) .c))) (.a (.h "kinds" 100 (.a (.e 0) (.a (.e 1) .c))) (.a (.h "led_on" 100 (.a (.e 0) (.a (.e 1) .c))) (.a (.h "led_more" 100 (.a (.e 0) (.a (.e 1) .c))) .c)))))))))) .f 0 (.g .g) .a .f .f)⟩
noncomputable def yI:Fn:=⟨["_law_pen_here","_law_sizes_here","_law_at","_law_to","_law_odd","_law_found"],["_law_pen_here","_law_sizes_here"],false,(.e (.q [2,3] (.a (.h "_law_draw" 0 (.a (.e 0) (.a (.l .a false (.a (.e 1) .c)) .c))) (.a (.h "_law_draw" 0 (.a (.e 0) (.a (.g (.c 9)) .c))) .c))) (.e (.g 4 (.A (.u false (.a (.g (.c 1)) (.a (.g (.c 9)) (.a (.g (.e true)) (.a (.g .g) (.a (.g (.j "3")) (.a (.k (.a (.g (.c 3)) .c)) (.a (.u false (.a (.g (.c 3)) .c)) (.a (.j false .e (.g (.c 10)) (.g (.c 29))) (.a (.g (.c 0)) .c)))))))))) (.e 3))) (.e (.g 5 (.u false (.a (.j false .a (.j false .a (.J false (.e 1) .b (.a (.e 2)) .b) (.k (.a (.e 4) .c))) (.J false (.e 1) (.a (.j false .a (.e 2) (.g (.c 1)))) .b .b)) (.a (.k .c) (.a (.j false .a (.e 1) (.j false .b (.k (.a (.g (.c 2)) .c)) (.g (.c 4)))) (.a (.l .i false (.a (.e 1) .c)) (.a (.g .g) (.a (.g (.c 3)) (.a (.k (.a (.e 1) .c)) (.a .B .c)))))))))) (.e (.f (.j false .a (.e 5) (.u false (.a (.j false .a (.k (.a (.e 4) .c)) (.J false (.e 1) (.a (.g (.c 1))) .b .b)) (.a (.j false .a (.J false (.e 1) .b (.a (.D (.g (.c 1)))) .b) (.k (.a (.e 4) .c))) .c))))) .f))))⟩
noncomputable def yK:Fn:=⟨["sizes","length","strips","place"],["sizes","length"],false,(.e (.h (.h "need_small_sizes" 0 (.a (.e 0) .c))) (.e (.h (.h "need_length" 0 (.a (.e 1) .c))) (.e (.d (.g .g)) (.e (.d (.g .g)) (.e (.d (.g .g)) .f)))))⟩
noncomputable def tE:Fn:=⟨["sizes","found","strips"],["sizes"],false,(.e (.h (.h "need_small_sizes" 0 (.a (.e 0) .c))) (.e (.d (.g .g)) (.e (.d (.g .g)) (.e (.d (.g .g)) (.e (.d (.g .g)) .f)))))⟩
noncomputable def yP:Fn:=⟨["sizes","length","strips"],["sizes","length"],false,(.e (.g 2 (.h "all_strips" 0 (.a (.e 0) (.a (.e 1) .c)))) (.e (.d (.g .g)) .f))⟩
noncomputable def yc:Fn:=⟨["sizes","strip","place","row"],["sizes","strip"],false,(.e (.h (.h "need_sizes" 0 (.a (.e 0) .c))) (.e (.d (.g .g)) (.e (.d (.g .g)) (.e (.d (.g .g)) (.e (.d (.g .g)) (.e (.d (.g .g)) .f))))))⟩
noncomputable def uc:Fn:=⟨["sizes","length"],["sizes","length"],false,(.e (.f (.l .b false (.a (.z (.h "all_strips" 0 (.a (.e 0) (.a (.e 1) .c)))) .c))) .f)⟩
noncomputable def w9:Fn:=⟨["sizes","strip","strips","longer"],["sizes","strip"],false,(.e (.h (.h "need_small_sizes" 0 (.a (.e 0) .c))) (.e (.d (.g .g)) (.e (.d (.g .g)) (.e (.d (.g .g)) (.e (.d (.g .g)) (.e (.d (.g .g)) .f))))))⟩
noncomputable def wB:Fn:=⟨["sizes"],["sizes"],false,(.e (.f (.r false ["strip","sizes"] [none,some 0] (.e 0) (.a 0) (.f (.h "ends" 0 (.a (.e 0) .c))) (.b (.b (.a (.h "leaders" 0 (.a (.e 1) (.a (.e 0) .c))))) .a))) .f)⟩
end F13
end
section
namespace M
open PySem
structure kW(zs:List Int):Prop where
 sz:Sz zs
 lo:12<zs.foldl (·*·) 1
 hi:zs.foldl (·*·) 1<100000
structure XSz(f:Str)(k:Nat)(Φ:Calls)(Ψ:yR):Prop where
 a:∀(v:Val) (tl:List Val) (s:Sto),tl.length=k->Kds v->yH v=false->Rz Φ Ψ f (v::tl) s "NoSizes"
 b:∀(zs:List Int) (tl:List Val) (s:Sto),tl.length=k->kW zs->RzG Φ Ψ f (tpI zs::tl) s "TooGreat" [.c (zs.foldl (·*·) 1),.c 12]
section
variable {T:Tbl}{Φ:Calls}{Ψ:yR}{s:Sto}
def mw(x:F.a=.e st cs)(O:vs.length=F.b.length)(h1:exS Φ T.b (zS F.N vs) st s=.d)(P:xS (λc=>(T.e.lookup c).isSome) Φ Ψ T.b (zS F.N vs) st s=some (c,as,s)):wY T Φ Ψ F vs s c as:=
 ⟨ye O (by rw[x];exact xu h1),by rw[x,xy h1];exact P⟩
def rh(P:F.a=.e (.f (.j m .f (.l .a m2 (.a (.h f 0 es) .c)) b)) cs)(O:vs.length=F.b.length)(x:zY Φ T.b (zS F.N vs) es s=.e ws s)(h:RzG Φ Ψ f ws s c as):wY T Φ Ψ F vs s c as:=by
 refine mw P O ?_ ?_
 . show (Out.bind (Out.bind (Out.bind (Out.bind (evE Φ T.b (zS F.N vs) (.h f 0 es) s) _) _) _) _)=_
   rw[x_call x h.1];rfl
 . simp only[XW,XQ,x]
   exact h.2
def cF(P:F.a=.e (.f (.q op (.h f 0 es) b)) cs)(O:vs.length=F.b.length)(x:zY Φ T.b (zS F.N vs) es s=.e ws s)(h:RzG Φ Ψ f ws s c as):wY T Φ Ψ F vs s c as:=by
 refine mw P O ?_ ?_
 . show (Out.bind (Out.bind (evE Φ T.b (zS F.N vs) (.h f 0 es) s) _) _)=_
   rw[x_call x h.1];rfl
 . simp only[XW,XQ,x]
   exact h.2
def fF(P:F.a=.e (.f (.r m N fr elt t (.f (.h f 0 es)) ifs)) cs)(O:vs.length=F.b.length)(x:zY Φ T.b (zS F.N vs) es s=.e ws s)(h:RzG Φ Ψ f ws s c as):wY T Φ Ψ F vs s c as:=by
 refine mw P O ?_ ?_
 . show (Out.bind (Out.bind (Out.bind (evE Φ T.b (zS F.N vs) (.h f 0 es) s) _) _) _)=_
   rw[x_call x h.1];rfl
 . simp only[XW,XQ,x]
   exact h.2
def cJ(P:F.a=.e (.f (.l g m (.a (.z (.h f 0 es)) .c))) cs)(x:vs.length=F.b.length)(O:zY Φ T.b (zS F.N vs) es s=.e ws s)(h:RzG Φ Ψ f ws s c as):wY T Φ Ψ F vs s c as:=by refine mw P x rfl ?_;simp only[XW,XQ,O];exact h.2
theorem XSz.up{f g:Str}{k N n:Nat}{F:Fn}(h:XSz g N (zB T n) (zO T n))(step:∀(v:Val) (tl:List Val) (s:Sto),tl.length=k->∃x,x.length=N/\∀c as,RzG (zB T n) (zO T n) g (v::x) s c as->wY T (zB T n) (zO T n) F (v::tl) s c as)(hf:T.d f 0=some F)(O:k+1=F.b.length):XSz f k (zB T (n+1)) (zO T (n+1)):=
 ⟨λv tl s h0 h1 P=>by
  obtain⟨x,e,st⟩:=step v tl s h0;obtain⟨as,r⟩:=RzG.of (h.a v x s e h1 P);exact(wY.up (st _ as r) hf (by rw[<-O,AB,h0])).rz,
  λzs tl s h0 h1=>by obtain⟨x,e,st⟩:=step (tpI zs) tl s h0;exact wY.up (st _ _ (h.b zs x s e h1)) hf (by rw[<-O,AB,h0])⟩
def gm(h1:zY Φ G (env.set i none) L s=.e vs s)(h:P (.b (.h vs)) s):(zd Φ G env (.g i L .f 0 d o b cs) s).post P:=by
 have e:zd Φ G env (.g i L .f 0 d o b cs) s=.e (.b (.h vs)) s:=by
  show (if vR s=vR s then _ else _)=_
  rw[if_pos rfl];exact bnd h1 rfl
 rw[e];exact zC.mpr h
def d7(f:Str)(Φ:Calls)(Ψ:yR):Prop:=∀(zs:List Int) (w:Val) (s:Sto),yf zs->kindOf w≠none->z0 0 40 w=false->∃as,RzG Φ Ψ f [tpI zs,w] s "NoNumber" as
theorem d7.up(h:d7 "all_strips" (zB T n) (zO T n))(step:∀v w s c as,RzG (zB T n) (zO T n) "all_strips" [v,w] s c as->wY T (zB T n) (zO T n) F [v,w] s c as)(hf:T.d f 0=some F)(x:2=F.b.length):d7 f (zB T (n+1)) (zO T (n+1)):=λzs w s h0 h1 N=>by obtain⟨as,r⟩:=h zs w s h0 h1 N;exact⟨as,wY.up (step _ w s _ as r) hf x⟩
structure fC(v:Val):Prop where
 a:Kds v
 no:yH v=false
 sh:∃x,∀s,blt .e false [v] s=.e (.j x) s
 nr:v.noRef=true
def oX(h:Thing v)(x:yH v=false):fC v:=⟨⟨h.a.b,h.kinds⟩,x,⟨_,h.shown false⟩,h.a.f⟩
def nY(h:∀v∈vs,Th 1 1000 v)(x:vs.length<=190)(hu:u∈vs)(hw:z0 2 8 u=false):fC (.f vs):=by
 refine oX (rV h x) ?_;cases e:yH (.f vs) with
 |false=>rfl
 |true=>
  have e:((decide (1<=vs.length)&&decide (vs.length<=4))&&vs.all (z0 2 8))=true:=e;rw[cf]at e;rw[Ay.mp e.2 u hu]at hw;cases hw
def mL:List Val:=[.c 1,.c 9,.e true,.g,.j "3",.f [.c 3],.h [.c 3],.c cL,.c 0]
def Xv:∀v∈mL,Th 1 1000 v/\z0 2 8 v=false:=λv x=>by
 have i:∀{k:Int},-(10 ^ 30)<k/\k<10 ^ 30->Th 1 1000 (.c k):=λh=>(rT h.1 h.2).mono (by decide) (by decide)
 have one:∀w∈[Val.c 3],Th 0 100 w:=λw hw=>by rw[AW.mp hw];exact rT (by decide) (by decide)
 simp only[mL,Ao,Bp,or_false]at x;rcases x with rfl|rfl|rfl|rfl|rfl|rfl|rfl|rfl|rfl
 . exact⟨i (by decide),rfl⟩
 . exact⟨i (by decide),rfl⟩
 . exact⟨(Wm true).mono (by decide) (by decide),rfl⟩
 . exact⟨g8.mono (by decide) (by decide),rfl⟩
 . exact⟨(Sj (by decide) (by decide)).mono (by decide) (by decide),rfl⟩
 . exact⟨(iR (n:=1) one (by decide)).mono (by decide) (by decide),rfl⟩
 . exact⟨(YC (n:=1) one (by decide)).mono (by decide) (by decide),rfl⟩
 . exact⟨i (by decide),rfl⟩
 . exact⟨i (by decide),rfl⟩
def cu{a:Nat}:tU false (.f t) none (some (a:Int)) none s=.e (.f (t.take a)) s/\(a<=t.length->tU false (.f t) (some (a:Int)) none none s=.e (.f (t.drop a)) s):=by
 have h1:qf t none (some (a:Int))=t.take a:=by unfold qf;rw[HT.gj];show (t.drop 0).take (min a t.length-0)=_;rw[Dq,FU,<-List.take_eq_take_min]
 exact⟨by rw[pV,h1],λh=>by rw[pV,Yt h]⟩
noncomputable def noZ(V:List Val)(a:Nat)(u:Val):List Val:=[.f (V.take a++[u]++V.drop (a+1)),.f [],.f (V++Aj 4 (.c 2)),.h V,.g,.c 3,.f [.f V],.o]++[.f ([u]++V.drop 1),.f (V.take (V.length-1)++[u])]
def Sx(Φ:Calls):Prop:=∀(p:Nat) (zs:List Int) (s:Sto),vo s p->Sz zs->(Φ "_law_no_sizes" 0 [.m p,tpI zs] s).post λv s'=>∃vs,v=.h vs/\(∀x∈vs,fC x)/\y9 s p s'
def WU(cD:ik Φ)(hp:vo s p)(hz:Sz zs):(run T Φ F13.yI [.m p,tpI zs] s).post λv s'=>∃vs,v=.h vs/\(∀x∈vs,fC x)/\y9 s p s':=by
 have R:1<=zW:=by decide
 have hl:=hz.2.1;have hl1:=hz.1;rw[F13.yI,vv];refine⟨rfl,?_⟩;show (zd Φ T.b [some (.m p),some (tpI zs),none,none,none,none] _ s).post _;obtain⟨_,s1,hd1,a,rfl,ha,t1⟩:=cD p (zs.length:Int) s hp ⋯ ⋯
 obtain⟨_,s2,hd2,k,rfl,hk,t2⟩:=cD p 9 s1 (t1.at_ hp.lt) ⋯ ⋯
 refine z7.mpr (VR.mpr (gY (x_call (zA (zF rfl) (zA (YT rfl) zE)) hd1) (gY (x_call (zA (zF rfl) (zA zL zE)) hd2) (ZF.mpr (WE rfl ?_)))));have tt:=t1.trans t2;generalize s2=s' at *;have U:k<mL.length:=by show k<9;omega
 have hu:mL[k]∈mL:=Cr U;have Y:vH (.h mL) (.c k) s'=.e mL[k] s':=jM (Ai U);generalize mL[k]=u at hu Y;obtain⟨hu1,Q⟩:=Xv u hu;have P:∀v∈zs.map Val.c,Th 1 1000 v:=Wn λx hx=>by have:=hz.2.2 x hx;omega
 show (zd Φ T.b [some (.m p),some (tpI zs),some (.c a),some (.c k),none,none] _ s').post _;refine vN (pk (vT (vs:=mL) (zA zL (zA zL (zA zL (zA zL (zA zL (zA (xl (zA zL zE) R) (zA (vT (zA zL zE) R) (zA (zu zL zL cM) (zA zL zE))))))))) (show 9<=zW by decide)) (zF rfl) Y) ?_
 generalize hV:zs.map Val.c=V at *;have hVl:V.length=zs.length:=by rw[<-hV,Ak]
 have S:tpI zs=.f V:=by rw[<-hV]
 have e1:(a:Int)+1=((a+1:Nat):Int):=by omega
 have hm:tU false (.f V) none (some (-1)) none s'=.e (.f (V.take (V.length-1))) s':=by
  rw[pV];have:qf V none (some (-1))=V.take (V.length-1):=by
   unfold qf;have h1:HT.sIx V.length V.length (some (-1))=V.length-1:=by unfold HT.sIx;simp;omega
   rw[h1];show (V.drop 0).take (V.length-1-0)=_;rw[Dq,FU]
  rw[this]
 rw[S];show (zd Φ T.b [some (.m p),some (.f V),some (.c a),some (.c k),some u,none] _ s').post _;have ap:∀{A B:List Val},A.length+B.length<=1000->binOp false .a (.f A) (.f B) s'=.e (.f (A++B)) s':=λh=>iy (by unfold zW;omega)
 refine vN (vT (vs:=[.f (V.take a++[u]++V.drop (a+1)),.f [],.f (V++Aj 4 (.c 2)),.h V,.g,.c 3,.f [.f V],.o]) (zA (zu (zu (YV (zF rfl) mJ (oy (zF rfl)) mJ cu.1) (xl (zA (zF rfl) zE) R) (ap (by rw[BQ,BL];omega))) (YV (zF rfl) (oy (zu (zF rfl) zL (by rw[fH,e1]))) mJ mJ (cu.2 ⋯)) (ap (by rw[An,BQ,BL,Cp];omega))) (zA (xl zE (Bs _)) (zA (zu (zF rfl) (zu (xl (zA zL zE) R) zL rfl) (ap (show V.length+4<=1000 by omega))) (zA (wX (zA (zF rfl) zE) rfl) (zA zL (zA zL (zA (xl (zA (zF rfl) zE) R) (zA rfl zE)))))))) (show 8<=zW by decide)) ?_
 refine vx (v:=.h (noZ V a u)) (s1:=s') (zu (zF rfl) (vT (zA (zu (xl (zA (zF rfl) zE) R) (YV (zF rfl) (oy zL) mJ mJ ((cu (a:=1)).2 ⋯)) (ap (by rw[BL,Cp];omega))) (zA (zu (YV (zF rfl) mJ (oy (YU zL)) mJ hm) (xl (zA (zF rfl) zE) R) (ap (by rw[BQ,BL];omega))) zE)) (show 2<=zW by decide)) (Yd (show 8+2<=zW by decide))) ?_
 have O:∀x∈noZ V a u,fC x:=λx hx=>by
  have mt:∀{n:Nat},∀v∈V.take n,Th 1 1000 v:=λv N=>P v (ES N);have md:∀{n:Nat},∀v∈V.drop n,Th 1 1000 v:=λv N=>P v (List.mem_of_mem_drop N);have Z:∀v∈[u],Th 1 1000 v:=λv N=>by rw[AW.mp N];exact hu1
  have mp:∀{A B:List Val},(∀v∈A,Th 1 1000 v)->(∀v∈B,Th 1 1000 v)->∀v∈A++B,Th 1 1000 v:=λh1 h2 v N=>(A3.mp N).elim (h1 v) (h2 v);simp only[noZ,Cq,De,Ao,Bp,or_false]at hx;rcases hx with rfl|rfl|rfl|rfl|rfl|rfl|rfl|rfl|rfl|rfl
  . exact nY (u:=u) (mp (mp mt Z) md) (by simp only[An,BQ,Cp,BL];omega) (by simp) Q
  . exact oX (rV (λv N=>nomatch N) (Bs _)) rfl
  . refine oX (rV (mp P λv N=>by rw[D3 N];exact(rT (by decide) (by decide)).mono (by decide) (by decide)) (by rw[An,CC];omega)) ?_
    show ((decide (1<=(V++Aj 4 (Val.c 2)).length)&&decide ((V++Aj 4 (Val.c 2)).length<=4))&&_)=false;rw[decide_eq_false (show ¬(V++Aj 4 (Val.c 2)).length<=4 by rw[An,CC];omega),Bool.and_false];rfl
  . exact oX (dW P ⋯) rfl
  . exact oX (kO (g8.mono (by decide) (by decide)) nofun) rfl
  . exact oX (kO ((rT (by decide) (by decide)).mono (by decide) (by decide)) nofun) rfl
  . refine nY (u:=.f V) (λv N=>?_) (by simp) (by simp) rfl
    rw[AW.mp N,<-S];exact(iR (n:=4) (k:=0) (w:=100) (λv N=>by obtain⟨i,hi,rfl⟩:=Bz.mp N;have:=hz.2.2 i hi;exact rT ⋯ ⋯) (by rw[Ak];exact hl)).mono (by decide) (by decide)
  . exact⟨⟨nofun,nofun⟩,rfl,Xr.sh,rfl⟩
  . exact nY (u:=u) (vs:=u::V.drop 1) (mp (A:=[u]) Z md) (by rw[AB,Cp];omega) (by simp) Q
  . exact nY (u:=u) (mp mt Z) (by rw[An,BQ,BL];omega) (by simp) Q
 generalize noZ V a u=W at O;show (yE false s (.h W) s').post _;rw[tP tt (by rw[pH];exact sL λx hx=>(O x hx).nr)]
 exact zC.mpr ⟨W,rfl,O,tt⟩
end
end M
end
section
namespace M
open PySem Hd
def bX(h:Heap)(a:Addr):Option Obj:=(h.get? a).bind λo=>if yW o then none else some o
def XB(e:h.get? a=some o)(n:yW o=false):bX h a=some o:=by unfold bX;rw[e];show (if yW o=true then none else some o)=some o;rw[n];rfl
def gM(e:bX h a=some o):h.get? a=some o/\yW o=false:=by
 unfold bX at e;obtain⟨x,e1,e2⟩:=D7.mp e;split at e2
 . cases e2
 . rename_i z
   cases e2;exact⟨e1,by simpa using z⟩
def zg(h:Heap):KF:=(AR h.objs.size).filterMap λa=>(bX h a).map λo=>(a,o)
theorem qL{g:Addr->Option Obj}:∀{l:List Addr},a∈l->(l.filterMap λb=>(g b).map λo=>(b,o)).lookup a=g a
 |b::r,hm=>by
  rw[Ba];by_cases e:a=b
  . subst e
    cases hg:g a with
    |none=>
     show (r.filterMap _).lookup a=none;by_cases m:a∈r
     . rw[qL m,hg]
     . exact F6.mpr λp hp=>by
        obtain⟨c,x,e⟩:=Cw.mp hp;obtain⟨o,_,rfl⟩:=BC.mp e;have z:a≠c:=λz=>m (by rw[z];exact x)
        simpa using z
    |some o=>show (Cu a ((a,o)::_))=_;rw[Am,beq_self_eq_true]
  . have m:a∈r:=(Ao.mp hm).resolve_left e
    cases hg:g b with
    |none=>exact qL m
    |some o=>
     show (Cu a ((b,o)::_))=_;rw[Am,beq_false_of_ne e];exact qL m
def zb o(e:h.get? a=some o)(n:yW o=false):(zg h).lookup a=some o:=by rw[<-XB e n];exact qL (Bu.mpr (Al e))
def sF:(zg h).In h:=λa o e=>by obtain⟨c,_,e⟩:=Cw.mp (yz e);obtain⟨x,e1,e2⟩:=BC.mp e;cases e2;exact(gM e1).1
def fe(e:(zg h).lookup a=some o):yW o=false:=by obtain⟨c,_,e⟩:=Cw.mp (yz e);obtain⟨x,e1,e2⟩:=BC.mp e;cases e2;exact(gM e1).2
def rM(e:nsH h x=some v):BI (zg h) AM x=some v:=by
 unfold nsH at e;split at e
 . rename_i o ho
   have N:yW o=false:=by
    unfold BI at e;rw[Am,beq_self_eq_true]at e;dsimp only at e;split at e
    . rename_i hd;cases hd;unfold yW;simp
    . cases e
   unfold BI at e ⊢;rw[zb o ho N];rw[Am,beq_self_eq_true]at e;exact e
 . cases e
def lG(e:hU h cd x=true):B1 (zg h) cd x=true:=by
 unfold hU at e;split at e
 . split at e
   . rename_i c o ho
     rw[cf,As]at e;obtain⟨N,e⟩:=e;unfold B1 at e ⊢;dsimp only at e ⊢;rw[Am,beq_self_eq_true]at e;rw[zb o ho N];exact e
   . cases e
 . cases e
def args_eq st:args st=L2.xP st/\body st=L2.z9 st/\scope st=L2.zD st:=by cases st<;>exact⟨rfl,rfl,rfl⟩
def V7(e:Xs h p.1=Wt p):td (zg h) p.1 p.2:=by
 obtain⟨a1,a2,a3⟩:=args_eq p.2;unfold Wt at e;rw[a1,a2,a3]at e;unfold Xs at e;split at e
 . rename_i f hf
   split at e
   . rename_i oc od fd osl ho
     split at e
     . rename_i hc
       have x:=AX e;obtain⟨n,q,ps,b,sc,g,cl,O,N,P,pm,an,cd,ct,bl⟩:=fd;injection x with e1 e2 e3 e4 e5 e6 e7 e8 _ _ _ _ _ _ e9
       subst e1 e2 e3 e4 e5 e6 e7 e8 e9;exact V6 (rM hf) (zb _ ho (by unfold yW;simp)) (lG hc) (by unfold B2;dsimp only;rw[zb _ ho (by unfold yW;simp)])
     . cases e
   . cases e
 . cases e
noncomputable def gv:G->Val
 |.a i=>.c i
 |.c x=>.j x
 |.b ns=>.p ns
def RS(e:glB h x v=true):fD (zg h) x (gv v):=by
 cases v with
 |a i=>
  unfold glB at e;dsimp only at e;split at e
  . rename_i hn;have:=of_decide_eq_true e;subst this;exact int_mk (rM hn)
  . cases e
 |c y=>
  unfold glB at e;dsimp only at e;split at e
  . rename_i hn;have:=of_decide_eq_true e;subst this;exact str_mk (rM hn)
  . cases e
 |b ns=>
  unfold glB at e;dsimp only at e;split at e
  . rename_i hn
    split at e
    . rename_i n od us k sl ho
      obtain⟨e1,e3⟩:=EU.mp e;obtain⟨e1,e2⟩:=EU.mp e1;have:=of_decide_eq_true e1;subst this;exact Ys (us:=us.toList) (rM hn) (zb _ ho rfl) (of_decide_eq_true e2) (of_decide_eq_true e3)
    . cases e
  . cases e
def W5(e:blB h x=true):BI (zg h) AM x=some none:=by
 unfold blB at e;split at e
 . rename_i hn;exact rM hn
 . cases e
theorem gD:∀{D:List (Str × Stmt)},(D.map λp=>Xs h p.1)=D.map Wt->∀p∈D,td (zg h) p.1 p.2
 |p::D,e,q,x=>by
  rw[AZ,AZ]at e;obtain⟨e1,e2⟩:=GI e;rcases Ao.mp x with rfl|x
  . exact V7 e1
  . exact gD e2 q x
end M
end
section
namespace M
open PySem Hd PySem.W
noncomputable def scB(N ps:List Str)(sc:Scope):Bool:=decide (sc.kind=.function)&&!sc.isCoroutine&&!sc.isGenerator&&decide N.Nodup&&decide (N.take ps.length=ps)&&ps.all (λx=>decide (sc.names.lookup x=some .local)||decide (sc.names.lookup x=some .cell))&&sc.names.all (λy=>decide (y.2≠.free))
def iH(h:scB N ps sc=true):L2.x9 N ps sc:=by unfold scB at h;simp only[cf,decide_eq_true_eq,As,Ay,Aw]at h;obtain⟨⟨⟨⟨⟨⟨h1,S⟩,R⟩,Q⟩,P⟩,O⟩,x⟩:=h;exact⟨h1,S,R,Q,P,O,x⟩
noncomputable def lkB(sc:Scope)(l:List (Str × Dw)):Bool:=l.all λp=>decide (sc.names.lookup p.1=some p.2)
structure kY(st:Stmt)(cs ws:List Str)(pre:Option Str):Prop where
 b:argNames (L2.xP st)=some [("_law_e":Str)]
 c:scB L2.kN ["_law_e"] (L2.zD st)=true
 sh:L2.dm (L2.zD st) cs ws pre (L2.z9 st)
 a:lkB (L2.zD st) [("_law_e",.local),("_law_marks",.local),("_law_words",.local),("isinstance",.globalImplicit),("ValueError",.globalImplicit)]=true
structure nT(m:Bool)(kx:Str)(st:Stmt):Prop where
 b:argNames (L2.xP st)=some [("_law_call":Str)]
 c:scB (L2.xX m) ["_law_call"] (L2.zD st)=true
 sh:L2.dy m kx (L2.z9 st)
 a:lkB (L2.zD st) ((("_law_call":Str),NameKind.local)::(("_law_e":Str),NameKind.local)::(("HueError":Str),Eb)::(kx,Eb)::if m then [] else [(("_law_word":Str),NameKind.local)])=true
noncomputable def wsB(cs ws:List Str)(pre:Option Str):Bool:=decide cs.Nodup&&decide (cs.length<=100)&&decide (ws.length<=100)&&ws.all (λw=>decide (w.length<=100))&&(match pre with|none=>true|some x=>decide (x.length<=100))
def xcB(rz cs ws:List Str)(pre:Option Str)(xc:List (Str × Str)):Bool:=xc.all λp=>decide (p.1∈rz)&&(AR cs.length).any λi=>decide (cs[i]?=some p.1)&&(match ws[i]? with|some x=>decide (p.2=L2.ans pre x)|none=>false)&&(decide (p.2≠"great")||decide (p.1="TooGreat"))
def eh(q:Program)(c:Str):Bool:=(PyProof.Rows.ownsOf q).any λo=>decide (o.name=c)&&(o.bm == Hd.veM)&&(o.newId == "ValueError.__new__")
section
variable {h0 h:Heap}{mg:Str->Option Value}
def nU(e:adH h0 x=some a):nsIn (zg h0) AM x=some (some (.ref a)):=by
 unfold adH at e;split at e
 . rename_i hn;cases e;exact rM hn
 . cases e
def cg(N:p∈V3 h0 x):h0.get? p.1=some p.2/\yW p.2=false:=by
 unfold V3 at N;split at N
 . split at N
   . rename_i a o ho
     split at N
     . rename_i cd hcd
       rcases Ao.mp N with z|z
       . subst z
         refine⟨ho,?_⟩;unfold yW;rw[hcd];simp
       . split at z
         . rename_i n hn
           split at z
           . cases z
           . rename_i hz
             rw[AW]at z;subst z;exact⟨hn,by simpa using hz⟩
         . cases z
     . cases N
   . cases N
 . cases N
theorem n6:∀{xs},p∈kcH h0 xs->h0.get? p.1=some p.2/\yW p.2=false
 |[],hm=>by cases hm
 |x::xs,hm=>by
  rcases A3.mp hm with z|z
  . exact cg z
  . exact n6 z
def gT:L2.tw (kcH h0 xs) (zg h0):=λa o e=>by obtain⟨e1,e2⟩:=n6 (yz e);exact zb o e1 e2
def Xm:L2.tw (kcG h0 xs) (zg h0):=λa o e=>by
 rcases A3.mp (yz e) with z|z
 . split at z
   . rename_i o' ho
     split at z
     . cases z
     . rename_i ht
       rw[AW]at z;cases z;exact zb _ ho (by simpa using ht)
   . cases z
 . obtain⟨e1,e2⟩:=n6 z
   exact zb o e1 e2
def fB(h:fA K C=true):L2.uD K C:=by unfold fA at h;simp only[cf,beq_iff_eq]at h;obtain⟨⟨⟨⟨⟨h1,Q⟩,P⟩,O⟩,N⟩,x⟩:=h;exact⟨h1,Q,P,O,N,x⟩
def lF(T:C4 q loose mean mg mb h)(Y:(zg h0).In h)(KB:(zg h0).In base)(Q:eh q c=true)(hm:mg c=some (.ref C))(P:ah h0 C bm=true):L2.ClsAt base C bm:=by
 unfold eh at Q;rw[Bo]at Q;obtain⟨o,R,Q⟩:=Q;simp only[cf,decide_eq_true_eq,beq_iff_eq]at Q;obtain⟨⟨o1,o2⟩,Z⟩:=Q;obtain⟨C',O,_⟩:=T.own o R;have U:=O.bound;rw[o1,hm]at U;cases U;obtain⟨bm',N,nm,qq,bs,hdct,sn,sub,ab,col,dd,k0,k1,k2,k3,k5,mN,hC,hN,hq,_⟩:=O.obj;rw[Z]at hC;unfold ah at P;split at P
 . rename_i ob hob
   split at P
   . rename_i cd hcd
     rw[cf,beq_iff_eq]at P;obtain⟨W,x⟩:=P;have hk:=zb ob hob (by unfold yW;rw[hcd];simp)
     have e1:=Y _ _ hk;rw[hC]at e1;cases e1;cases hcd;obtain⟨_,rfl⟩:=GI W;split at x
     . rename_i n hn
       have S:=zb n hn (by simpa using x)
       obtain⟨on,es,ep,f1,f2,f3⟩:=hN;rw[Y _ _ S]at f1;cases f1;exact⟨nm,qq,N,bs,hdct,sn,sub,ab,col,dd,k0,k1,k2,k3,k5,mN,KB _ _ hk,⟨n,es,ep,KB _ _ S,f2,f3⟩,hq _ (.head _)⟩
     . cases x
   . cases P
 . cases P
structure dk(st:Stmt):Prop where
 b:argNames (L2.xP st)=some L2.inN
 c:scB L2.inN L2.inN (L2.zD st)=true
 sh:L2.dj (L2.z9 st)
 a:lkB (L2.zD st) [("self",.local),("many",.local),("most",.local),("HueError",.globalImplicit)]=true
def iu(_:Stmt):Prop:=False
def lkk(O:lkB sc l=true)(N:(x,k)∈l):sc.names.lookup x=some k:=of_decide_eq_true (Ay.mp O _ N)
def jA(TT:C4 q loose mean mg mb h)(N:(zg h0).In h)(hD:td (zg h0) "_law_great" st)(S:iu st):∃f,L2.qE (zg h0) mg f:=by exact Av S
def Yp(KB:(zg h0).In base)(O:cb h0 C hue=true)(hi:gN h0 C=some f)(Z:h0.get? f=some o)(hc:o.cls=.type "function")(W:yW o=false):L2.sk base C (.ref hue::L2.veM) f:=by
 unfold cb at O;split at O
 . rename_i n dd cd sl hC
   simp only[cf,decide_eq_true_eq,beq_iff_eq,As]at O;obtain⟨⟨⟨⟨⟨h1,S⟩,R⟩,Q⟩,x⟩,P⟩:=O;subst h1;unfold gN at hi;rw[hC]at hi;dsimp only at hi;split at hi
   . rename_i f' hf
     cases hi;unfold slB at x;split at x
     . rename_i k0 k1 k2 k3 m k5 hsl
       have x:=of_decide_eq_true x;subst x;have Y:sl=#[k0,k1,k2,k3,some (.builtin "ValueError.__new__"),k5]:=Array.toList_inj.mp hsl;subst Y;obtain⟨nm,bs,mro,N,U,hdc,sn,sub,ab,col,hdl⟩:=cd;dsimp only at S R Q P hf;subst S R Q;obtain⟨on,es,ep,n1,n2,n3⟩:=Heap.Ns.of_isNs P;have e1:=KB _ _ (zb _ hC (by unfold yW;simp))
       have e2:=KB _ _ (zb _ n1 (by unfold yW;rw[n2];simp))
       exact⟨nm,U,N,bs,sn,sub,ab,col,dd,k0,k1,k2,k3,k5,h0.nsMap N,o,e1,⟨on,es,ep,e2,n2,n3⟩,hf,KB _ _ (zb _ Z W),hc⟩
     . cases x
   . cases hi
 . cases O
def XE(e:bg h0 C=(YJ st).2):∃f fd o,gN h0 C=some f/\h0.get? f=some o/\o.cls=.type "function"/\yW o=false/\L2.Fun (zg h0) "__init__" "TooGreat.__init__" st f fd:=by
 obtain⟨a1,a2,a3⟩:=args_eq st;unfold YJ at e;dsimp only at e;rw[a1,a2,a3]at e;unfold bg at e;split at e
 . rename_i f hf
   split at e
   . rename_i n od fd osl ho
     split at e
     . rename_i hc
       rw[cf,decide_eq_true_eq]at hc;have x:=AX e;obtain⟨N,q,ps,b,sc,g,cl,P,O,Q,pm,an,cd,ct,bl⟩:=fd;injection x with e1 e2 e3 e4 e5 e6 e7 e8 _ _ _ _ _ _ e9
       subst e1 e2 e3 e4 e5 e6 e7 e8 e9;exact⟨f,_,_,hf,ho,congrArg FE hc.1,by unfold yW;simp,L2.bW (zb _ ho (by unfold yW;simp)) (lG hc.2) (by unfold B2;dsimp only;rw[zb _ ho (by unfold yW;simp)])⟩
     . cases e
   . cases e
 . cases e
def UP(h:UO K C D=true):L2.GrK K C D:=by
 unfold UO at h;simp only[cf,beq_iff_eq]at h;obtain⟨⟨⟨⟨⟨h1,Q⟩,P⟩,O⟩,N⟩,x⟩:=h;refine⟨h1,Q,P,O,N,?_⟩;split at x
 . rename_i m hm
   rw[hm,of_decide_eq_true x]
 . cases x
def bb(TT:C4 q loose mean mg mb h)(N:(zg h0).In h)(ob:Xu X h0=YJ st)(S:dk st):∀base,(zg h0).In base->tq (zg h0) mg base:=λbase KB=>by
 unfold Xu at ob;split at ob
 . rename_i C hC
   split at ob
   . rename_i D hD
     obtain⟨o1,O⟩:=Gi ob;simp only[cf,beq_iff_eq]at o1;obtain⟨⟨⟨g1,g2⟩,g3⟩,Y⟩:=o1;obtain⟨f,fd,o,U,R,Q,P,x⟩:=XE (st:=st) O;exact⟨C,D,f,fd,_,mg_of N TT.g (nU hC),Yp KB g1 U R Q P,⟨⟨_,_,st,x,iH S.c,x.binds λkV doc pm an cdv ct us W=>uF S.b (by decide) us W,S.sh,lkk S.a (by simp),lkk S.a (by simp),lkk S.a (by simp),lkk S.a (by simp)⟩,mg_of N TT.g (nU hD)⟩,UP g2,Xm,fB Y,g3⟩
   . cases ob
 . cases ob
def Qt(U:Bool->Stmt)(TT:C4 q loose mean mg mb h)(Q:(zg h0).In h)(ob:mK X h0=true)
 (hD:td (zg h0) kx kst) (hS:∀b,T.c b=true->td (zg h0) (L2.yC b) (U b)/\nT b kx (U b)) (R:kY kst X.a ws pre) (hb:∀x∈wR,nsIn (zg h0) AM x=some none) (hkd:(kx == ("__debug__":Str))=false)
 (hws:wsB X.a ws pre=true) (hxc:xcB X.c X.a ws pre T.e=true) (jD:((("HueError":Str))::X.c).all (λc=>decide (c="TooGreat")||eh q c)=true) (hgf:bZ T=true->∃f,L2.qE (zg h0) mg f) (hgr:(T.e.lookup ("TooGreat":Str)).isSome=true->∀base,(zg h0).In base->tq (zg h0) mg base):Sc T (zg h0) mg:=by
 unfold mK at ob;split at ob
 . cases ob
 . rename_i hue hhue
   simp only[cf,Ay,decide_eq_true_eq]at ob;obtain⟨⟨⟨⟨⟨x1,x2⟩,x3⟩,x4⟩,W⟩,x6⟩:=ob;have O:=mg_of Q TT.g (nU hhue);have P:∀c a,adH h0 c=some a->mg c=some (.ref a):=λc a e=>mg_of Q TT.g (nU e);simp only[wsB,cf,decide_eq_true_eq,Ay]at hws;obtain⟨⟨⟨⟨w1,w2⟩,w3⟩,w4⟩,w5⟩:=hws;have KFn:L2.nS (zg h0) mg kx X.a ws pre:=by
    obtain⟨f,fd,a1,a2⟩:=hD;refine⟨⟨kst,f,fd,mg_of Q TT.g a1,a2,iH R.c,a2.binds λkV doc pm an cdv ct us hl=>uF R.b (by decide) us hl,R.sh,lkk R.a (by simp),lkk R.a (by simp),lkk R.a (by simp),lkk R.a (by simp),lkk R.a (by simp)⟩,λc hc=>?_,mg_none_of Q TT.g (hb _ (by decide)),mg_none_of Q TT.g (W5 x2),w1,w2,w3,λw hw=>w4 w hw,λx hx=>?_⟩
    . obtain⟨a,e⟩:=Ci.mp (x1 c hc)
      exact⟨a,P c a e⟩
    . subst hx;exact of_decide_eq_true w5
   have N:∀c∈X.c,∃C,mg c=some (.ref C)/\(∃Kc,L2.tw Kc (zg h0)/\exmOne Kc (.ref C) (.ref hue)=some true)/\L2.Named (zg h0) mg X.a C c/\ah h0 C (.ref hue::Hd.veM)=true:=λc hc=>by
    have z:=x3 c hc;split at z
    . cases z
    . rename_i C hC
      simp only[cf,Ay,beq_iff_eq]at z;obtain⟨⟨⟨⟨z1,z2⟩,Y⟩,z4⟩,z5⟩:=z;refine⟨C,P c C hC,⟨_,gT,z2⟩,⟨_,gT,fB z1,λd hd=>?_,z4⟩,z5⟩;obtain⟨a,e⟩:=Ci.mp (x1 d hd);have:=Y d hd;rw[e]at this;rw[L2.d9 (P d a e)];exact this
   have Z:∀c w,T.e.lookup c=some w->c∈X.c/\∃(i:Nat) (x:Str),X.a[i]?=some c/\ws[i]?=some x/\w=L2.ans pre x/\(w="great"->c="TooGreat"):=λc w e=>by
    have z:=Ay.mp hxc _ (yz e);simp only[cf,Aw,decide_eq_true_eq,Bo]at z;obtain⟨z1,i,_,⟨z2,Y⟩,z4⟩:=z;split at Y
    . rename_i x hx
      exact⟨z1,i,x,z2,hx,of_decide_eq_true Y,λhg=>z4.resolve_left λz5=>z5 hg⟩
    . cases Y
   have hw:∀c∈(("HueError":Str))::X.c,c≠"TooGreat"->eh q c=true:=λc hc hn=>by
    have:=Ay.mp jD c hc
    rwa [decide_eq_false hn,Fo]at this
   refine⟨⟨kx,X.a,ws,pre,hue,O,KFn,λb hbm=>?_,λc w e=>?_,λc w e hne base KB=>?_⟩,hgf,hgr,λbase KB=>?_⟩
   . obtain⟨⟨f,fd,a1,a2⟩,S⟩:=hS b hbm
     refine⟨f,⟨⟨U b,fd,mg_of Q TT.g a1,a2,iH S.c,a2.binds λkV doc pm an cdv ct us hl=>uF S.b (by decide) us hl,S.sh,lkk S.a (by simp),lkk S.a (by simp),λhbf=>lkk S.a (by subst hbf;simp),lkk S.a (by simp),lkk S.a (by simp)⟩,hkd⟩⟩
   . obtain⟨y1,i,x,y2,y3,y4,y5⟩:=Z c w e
     obtain⟨C,r1,r2,r3,_⟩:=N c y1;exact⟨C,i,x,r1,r2,r3,y2,y3,y4,y5⟩
   . obtain⟨y1,_⟩:=Z c w e
     obtain⟨C,r1,_,_,r4⟩:=N c y1;exact⟨C,r1,lF TT Q KB (hw c (Ag _ y1) hne) r1 r4,lF TT Q KB (hw _ (Ar ..) (by decide)) O x4⟩
   . obtain⟨bm,obj,b1,b2,b3,b4,b5,b6⟩:=TT.bmain
     unfold bmB at W;split at W
     . rename_i b hbb
       have:=P _ _ hbb;rw[b1]at this;cases this;split at W
       . rename_i o hob
         have hk:=zb o hob (by simpa using W)
         have e1:=Q _ _ hk;rw[b3]at e1;cases e1;exact⟨bm,obj,b1,b2,KB _ _ hk,b4,b5,b6⟩
       . cases W
     . cases W
def tab_of{D:List (Str × Stmt)}(TT:C4 q loose mean mg mb h)(KX:(zg h0).In h)(ob:mK X h0=true)(Y:T.f=X.b)
 (hd:∀p∈D,td (zg h0) p.1 p.2) (jF:X.b.all (λg=>(EX q).any (λd=>decide (d.name=g))&&(D.lookup g).isSome)=true):∃tabs,S9 T (zg h0) mg h tabs:=by
 have nd:(X.b.map (iQ h0)).Nodup:=by
  unfold mK at ob;split at ob
  . cases ob
  . simp only[cf,decide_eq_true_eq]at ob
    exact ob.2
 have one:∀g∈X.b,∃P,iQ h0 g=some P/\h.get? P=some (tabObj #[])/\(zg h0).lookup P=none/\Gh h P/\∃(fa c:Addr) (o:Obj) (fd:BA),mg g=some (.ref fa)/\(zg h0).lookup fa=some o/\o.data=.func fd/\fd.code=.ref c/\∀h':Heap,(zg h0).In h'->CodeHd h' c P:=λg hg=>by
  have z:=Ay.mp jF g hg;rw[cf,Bo]at z;refine byG λU x=>?_;obtain⟨⟨d,d1,d2⟩,z2⟩:=z;refine x ?_;have d2:=of_decide_eq_true d2;obtain⟨st,hst⟩:=Ci.mp z2;refine byG λU x=>?_;obtain⟨fa,fd,a1,a2⟩:=hd _ (yz hst);refine x ?_;refine byG λU x=>?_;obtain⟨oc,od,kV,doc,pm,an,cdv,ct,osl,rfl,lk,O⟩:=a2.a;refine x ?_;have Z:=mg_of KX TT.g a1;refine byG λU x=>?_;obtain⟨a',o',fd',c,P,t1,t2,t3,t4,t5,t6⟩:=TT.tab d d1;refine x ?_;rw[d2,Z]at t1;cases t1;rw[KX _ _ lk]at t2;cases t2;cases t3;have hcdv:cdv=.ref c:=t4;subst hcdv;have N:∃W,(zg h0).lookup c=some W:=by
   unfold codeIn at O;dsimp only at O;split at O
   . rename_i hh;exact⟨_,hh⟩
   . cases O
  obtain⟨W,N⟩:=N;refine byG λU x=>?_;obtain⟨⟨oT,vsT,u1,u2,u3,u4⟩,u5⟩:=id t6;refine x ?_;rw[KX _ _ N]at u1;cases u1;refine⟨P,?_,u5,?_,t6.isCodeTable,fa,c,_,_,Z,lk,rfl,rfl,λh' K'=>?_⟩
  . have g1:adH h0 g=some fa:=by
     unfold adH;have Q:nsIn (zg h0) AM g=some (some (.ref fa)):=a1;unfold nsH;unfold nsIn at Q;split at Q
     . rename_i c1 d1 es n1 s1 hmn
       have:=sF _ _ hmn;rw[this];dsimp only;unfold nsIn;rw[Am,beq_self_eq_true];dsimp only;rw[Q]
     . cases Q
    unfold iQ;rw[g1];dsimp only;rw[sF _ _ lk];dsimp only;rw[sF _ _ N];dsimp only;rw[u3];dsimp only;rw[u4]
  . cases e:(zg h0).lookup P with
    |none=>rfl
    |some o=>
     have n1:=fe e;have e2:=KX _ _ e;rw[u5]at e2;cases e2;cases n1
  . refine byG λU x=>?_
    obtain⟨o2,vs2,file,tf,R,tg,inF,S,tt,v1,v2,v3⟩:=CodeHd.of t5 t6;refine x ?_;rw[KX _ _ N]at v1;cases v1;exact⟨_,vs2,file,tf,R,tg,inF,S,tt,K' _ _ N,v2,v3⟩
 have hmap:X.b.map (iQ h0)=(X.b.map λg=>(iQ h0 g).getD 0).map some:=by rw[List.map_map];refine List.map_congr_left λg hg=>?_;obtain⟨P,e,_⟩:=one g hg;simp[e]
 refine⟨X.b.map λg=>(iQ h0 g).getD 0,?_,by rw[Y,Ak],λi g hi=>?_⟩
 . rw[hmap]at nd
   exact(List.pairwise_map.mp nd).imp λhne z=>hne (by rw[z])
 . rw[Y]at hi
   obtain⟨P,e,r⟩:=one g (A5 hi);refine⟨P,?_,r⟩;rw[A1,hi];simp[e]
end
def dz{N:Type}(D:List (Str × Stmt))(glL:List (Str × Val))(X:XT)(P:Heap->N)(O:N)(K:KF)(h:Heap):Prop:=K.In h/\(∀p∈D,td K p.1 p.2)/\(∀p∈glL,fD K p.1 p.2)/\(∀x∈wR,nsIn K AM x=some none)/\∃h0,K=zg h0/\mK X h0=true/\P h0=O
def Z0(e:(aq D gl s,(mK X s.heap,og s.heap))=(YK D,(true,vg))):∃K,dz D (gl.map λp=>(p.1,gv p.2)) X og vg K s.heap:=by obtain⟨e0,N⟩:=Gi e;obtain⟨N,P⟩:=Gi N;obtain⟨e1,e2⟩:=Gi e0;obtain⟨e2,e3⟩:=EU.mp e2;exact⟨zg s.heap,sF,gD e1,λp hp=>(by obtain⟨O,h1,rfl⟩:=Bz.mp hp;exact RS (Ay.mp e2 O h1)),λx hx=>W5 (Ay.mp e3 x hx),s.heap,rfl,N,P⟩
def V2{og:Heap->γ}{vg}{l:PySem.W.OpenLaw}(P:Bool->Stmt)
 (sW:l.wellSaid=true) (left:PySem.W.LeftO l.row.prog q [] (λs=>Fb l.row.records s) (λz=>(aq D gl z,(mK X z.heap,og z.heap))) (λ_=>(YK D,(true,vg))) N) (hgl:glL=gl.map λp=>(p.1,gv p.2))
 (bc:PySem.W.defOf q l.row.name=some (d,[])) (hp:l.row.prog.theDef l.row.name=some (d.params,d.body,d.scope)) (hk:PySem.W.kwWritten? d.params.kwonlyargs d.params.kw_defaults=some [])
 (hwr:(!l.row.writes||l.row.records.isEmpty)=true) (ok:(PySem.W.chainsOk q&&PySem.W.opensWell l.row.prog&&(PySem.W.frees l.row.toRowW&&l.row.within.isEmpty))=true) (hb:l.row.prog.bare) (hw:l.row.toRowW.promised)
 (hn:l.most=some 63) (hdf:d.params.defaults=[]) (hr:L2.xN n callerA) (hF:(kM fnL glL tb xc md).d d.name 0=some F) (hx:F.b=[x]) (hc:nJ fnL D=true)
 (htb:tb=X.b) (Z:fnL.all (λp=>!decide (("!":Str)∈p.2.N)||decide (p.1.1∈tb))=true) (hkx:D.lookup kx=some kst) (hK:kY kst X.a ws pre) (hS:∀b,md b=true->D.lookup (L2.yC b)=some (P b)/\nT b kx (P b)) (hkd:(kx == ("__debug__":Str))=false)
 (hws:wsB X.a ws pre=true) (hxc:xcB X.c X.a ws pre xc=true) (jD:((("HueError":Str))::X.c).all (λc=>decide (c="TooGreat")||eh q c)=true)
 (hgf:bZ (kM fnL glL tb xc md)=true->∃st,D.lookup ("_law_great":Str)=some st/\iu st) (hgr:(xc.lookup ("TooGreat":Str)).isSome=true->∀loose U mg mb h h0,C4 q loose U mg mb h->(zg h0).In h->og h0=vg->∀base,(zg h0).In base->tq (zg h0) mg base) (jF:X.b.all (λg=>(EX q).any (λd=>decide (d.name=g))&&(D.lookup g).isSome)=true)
 (HL:∀ns:List Int,ns.length<=63->∃s',zB (kM fnL glL tb xc md) n d.name 0 [.r ns] (tb.map .d)=.e (.e true) s'):l.Holds:=by
 refine PySem.W.holds_law sW λQ=>PySem.W.holds_open (q:=q) (loose:=[]) (Xt:=λs=>Fb l.row.records s) (XP:=λ_ _=>True) (YP:=λ_ h=>∃K,dz D glL X og vg K h) left (λw s e=>hgl▸Z0 e)
  (λw h h' ⟨K,a,b⟩ k=>⟨K,a.keeps k,b⟩) (λ_ _=>trivial) (λ_ _ _ _ _=>trivial) bc hp hk (λs e=>PySem.W.recFacts_of e) hwr Q ok hb hw ?_
 rintro w O R mg mb G ⟨K,Y⟩;obtain⟨Y1,Y2,Y3,Y4,h0,rfl,ob,obg⟩:=id Y;refine walk (l:=l) (q:=q) (loose:=[]) (XP:=λ_ _=>True) (YP:=λ_ h=>dz D glL X og vg (zg h0) h) (d:=d) (K:=zg h0) (T:=kM fnL glL tb xc md) hn hdf hr (λ_ _ y=>y.1) hF hx (λw O mg mb h G KX=>⟨?_,?_⟩) HL w O R mg mb G Y
 . exact Sl KX G.T.g Y2 Y3 Y4 hc (λ_=>Z) λ_=>Qt P G.T KX ob (Y2 _ (yz hkx)) (λb hbm=>⟨Y2 _ (yz (hS b hbm).1),(hS b hbm).2⟩) hK Y4 hkd hws hxc jD (λhg=>by obtain⟨st,e,S⟩:=hgf hg;exact jA G.T KX (Y2 _ (yz e)) S) λhg=>hgr hg _ _ _ _ _ _ G.T KX obg
 . exact tab_of G.T KX ob htb Y2 jF
end M
end
section
namespace P13
open PySem M
noncomputable def yY:Fn:=F13.yY
noncomputable def yD:Fn:=F.yD
noncomputable def ym:Fn:=F.ym
noncomputable def yI:Fn:=F13.yI
noncomputable def yJ:Fn:=F.yJ
noncomputable def yu:Fn:=F.yu
noncomputable def yK:Fn:=F13.yK
noncomputable def xG:Fn:=F.xG
noncomputable def yv:Fn:=F.yv
noncomputable def tE:Fn:=F13.tE
noncomputable def yn:Fn:=F12.yn
noncomputable def yP:Fn:=F13.yP
noncomputable def yc:Fn:=F13.yc
noncomputable def qV:Fn:=F.qV
noncomputable def ub:Fn:=F12.ub
noncomputable def xm:Fn:=F.xm
noncomputable def uc:Fn:=F13.uc
noncomputable def oP:Fn:=⟨["_law_script","_law_k","_law_pen_here","_law_bad","_law_as_it_was","_law_other","_law_many","_law_great","_law_sizes_here","_law_limit","_law_size","_law_none","_law_calls","!"],["_law_script"],false,(.e (.k (.a 1) (.d (.l .k false (.a (.g (.c 1)) (.a (.l .l false (.a (.l .a false (.a (.e 0) .c)) (.a (.g (.c 4)) .c))) .c)))) (.e (.g 2 (.h "_law_pen" 1 (.a (.h "_law_cell_at" 0 (.a (.e 0) (.a (.e 1) .c))) .c))) (.e (.k (.a 3) (.f (.h "_law_no_sizes" 0 (.a (.e 2) (.a (.h "_law_sizes" 0 (.a (.e 2) .c)) .c)))) (.e (.g 4 (.l .e false (.a (.e 3) .c))) (.e (.k (.a 5) (.f (.k (.a (.g .g) (.a (.D (.g (.c 1))) (.a (.g (.c 3)) (.a (.k .c) .c)))))) (.e (.j (.a (.q .a (.h "_law_all" 0 (.a (.e 3) (.a (.e 5) .c))) (.j false .b (.u false (.a (.g (.j "sizes")) .c)) (.g (.c 10))))) (.e (.f (.g (.e false))) .f) .f) (.e (.j (.a (.q .a (.r false ["_law_call","_law_bad","_law_other","!"] [none,some 3,some 5,none] (.h "" 300 (.a (.e 0) (.a (.e 1) (.a (.e 2) .c)))) (.a 0) (.f (.k (.a (.E "fits") (.a (.E "first_wrong") .c)))) .a) (.j false .b (.u false (.a (.g (.j "sizes")) .c)) (.g (.c 2))))) (.e (.f (.g (.e false))) .f) .f) .f))) (.e (.j (.a (.q .a (.l .e false (.a (.e 3) .c)) (.e 4))) (.e (.f (.g (.e false))) .f) .f) .f)))) (.e (.g 6 (.j false .a (.g (.c 1)) (.h "_law_draw" 0 (.a (.e 2) (.a (.g (.c 3)) .c))))) (.e (.g 7 (.u false (.a (.k (.a (.g (.c 2)) (.a (.g (.c 7)) .c))) (.a (.k (.a (.g (.c 7)) (.a (.g (.c 2)) .c))) (.a (.k (.a (.g (.c 3)) (.a (.g (.c 5)) .c))) (.a (.k (.a (.g (.c 4)) (.a (.g (.c 4)) .c))) (.a (.k (.a (.g (.c 2)) (.a (.g (.c 2)) (.a (.g (.c 4)) .c)))) (.a (.k (.a (.g (.c 2)) (.a (.g (.c 3)) (.a (.g (.c 3)) .c)))) (.a (.j false .b (.k (.a (.g (.c 2)) .c)) (.g (.c 4))) (.a (.j false .b (.k (.a (.g (.c 8)) .c)) (.g (.c 4))) (.a (.k (.a (.g (.c 8)) (.a (.g (.c 8)) .c))) (.a (.k (.a (.g (.c 2)) (.a (.g (.c 8)) .c))) .c)))))))))))) (.e (.k (.a 8) (.f (.u false (.a (.A (.e 7) (.h "_law_draw" 0 (.a (.e 2) (.a (.g (.c 10)) .c)))) (.a (.j false .a (.j false .b (.k (.a (.g (.c 3)) .c)) (.e 6)) (.k (.a (.g (.c 5)) .c))) .c)))) (.e (.g 9 (.g (.c 1))) (.e (.k (.a 10) (.f (.e 8)) (.e (.g 9 (.j false .b (.e 9) (.e 10))) .f)) (.e (.k (.a 5) (.f (.k (.a (.g .g) (.a (.g (.c 41)) (.a (.g (.c 3)) (.a (.k .c) .c)))))) (.e (.j (.a (.q .a (.h "_law_all" 0 (.a (.e 8) (.a (.e 5) .c))) (.j false .b (.u false (.a (.k (.a (.g (.j "great")) (.a (.e 9) (.a (.g (.c 12)) .c)))) .c)) (.g (.c 10))))) (.e (.f (.g (.e false))) .f) .f) .f)) .f)))) (.e (.k (.a 11) (.f (.k (.a (.g (.c 41)) (.a (.D (.g (.c 1))) (.a (.g (.e true)) (.a (.g (.e false)) (.a (.g .g) (.a (.g (.j "3")) (.a (.j false .e (.g (.c 10)) (.g (.c 29))) .c))))))))) (.g 12 (.a (.h "strips_many" 100 (.a (.k (.a (.g (.c 3)) (.a (.g (.c 4)) .c))) (.a (.e 11) .c))) (.a (.h "all_strips" 100 (.a (.k (.a (.g (.c 3)) (.a (.g (.c 4)) .c))) (.a (.e 11) .c))) (.a (.h "first_strip" 100 (.a (.k (.a (.g (.c 2)) (.a (.g (.c 6)) .c))) (.a (.e 11) .c))) (.a (.h "kinds" 100 (.a (.k (.a (.g (.c 2)) (.a (.g (.c 2)) (.a (.g (.c 3)) .c)))) (.a (.e 11) .c))) .c)))) .f 2 (.j false .b (.u false (.a (.g (.j "number")) .c)) (.g (.c 4))) .a (.e (.f (.g (.e false))) .f) .f)) .f))))))) (.e (.f (.q .b (.r false ["_law_sizes_here"] [none] (.q .i (.h "farthest" 0 (.a (.e 0) .c)) (.g (.c 6))) (.a 0) (.f (.k (.a (.k (.a (.g (.c 2)) (.a (.g (.c 6)) .c))) (.a (.k (.a (.g (.c 2)) (.a (.g (.c 2)) (.a (.g (.c 3)) .c)))) (.a (.k (.a (.g (.c 3)) (.a (.g (.c 4)) .c))) .c))))) .a) (.j false .b (.u false (.a (.g (.e true)) .c)) (.g (.c 3))))) .f))⟩
noncomputable def wQ:Fn:=F12.wQ
noncomputable def w9:Fn:=F13.w9
noncomputable def yw:Fn:=F.yw
noncomputable def yQ:Fn:=F.yQ
noncomputable def yL:Fn:=F.yL
noncomputable def zV:Fn:=F64.zV
noncomputable def yM:Fn:=F.yM
noncomputable def yx:Fn:=F12.yx
noncomputable def wB:Fn:=F13.wB
noncomputable def yd:Fn:=F12.yd
noncomputable def x8:Fn:=F12.x8
def fnL:List ((Str × Nat) × Fn):=((("_law_all":Str),(0:Nat)),yY)::((("_law_cell_at":Str),(0:Nat)),yD)::((("_law_draw":Str),(0:Nat)),ym)::((("_law_no_sizes":Str),(0:Nat)),yI)::((("_law_pen":Str),(1:Nat)),yJ)::((("_law_sizes":Str),(0:Nat)),yu)::((("all_strips":Str),(0:Nat)),yK)::((("are_sizes":Str),(0:Nat)),xG)::((("are_wholes":Str),(0:Nat)),yv)::((("ends":Str),(0:Nat)),tE)::((("farthest":Str),(0:Nat)),yn)::((("first_strip":Str),(0:Nat)),yP)::((("first_wrong":Str),(0:Nat)),yc)::((("fits":Str),(0:Nat)),qV)::((("grown":Str),(0:Nat)),ub)::((("is_whole":Str),(0:Nat)),xm)::((("kinds":Str),(0:Nat)),uc)::((("law":Str),(0:Nat)),oP)::((("led_more":Str),(0:Nat)),wQ)::((("led_on":Str),(0:Nat)),w9)::((("may_follow":Str),(0:Nat)),yw)::((("need_length":Str),(0:Nat)),yQ)::((("need_sizes":Str),(0:Nat)),yL)::((("need_small_sizes":Str),(0:Nat)),zV)::((("need_whole":Str),(0:Nat)),yM)::((("product_of":Str),(0:Nat)),yx)::((("shut_ends":Str),(0:Nat)),wB)::((("strips_many":Str),(0:Nat)),yd)::((("tally":Str),(0:Nat)),x8)::[]
noncomputable def glL:List (Str × Val):=[("MOST_PLACES",.c 40),("LEAST_SIZE",.c 2),("MOST_SIZE",.c 8),("HUES",.p [0,1,2,3]),("MOST_PRODUCT",.c 12)]
noncomputable def tb:List Str:=["_law_all","law"]
noncomputable def xc:List (Str × Str):=[("NoSizes","sizes"),("NoNumber","number"),("TooGreat","great")]
noncomputable def md:Bool->Bool:=λb=>!b
def T:Tbl:=kM fnL glL tb xc md
set_option maxHeartbeats 0 in
def Sg:nJ fnL D=true:=by decide +kernel
def aj:zT .a (.j x) (.j x) s=.e (.e false) s:=by simp[zT]
def iG{T}(h:RzG (zB T n) (zO T n) f vs s "TooGreat" as)(h1:T.d f 100=none)(O:T.c false=true)(N:zi T.f s=true)(x:T.e.lookup ("TooGreat":Str)=some "great"):zB T (n+1) f 100 vs s=.e (.f (.j "great"::as)) s:=by
 obtain⟨a,b⟩:=h;have hA:wg false "great" as=.f (.j "great"::as):=by unfold wg;rw[if_neg Ac,if_pos rfl]
 simp only[zB,h1,a,b,O,N,x,uU];show Out.e (wg false "great" as) s=_;rw[hA]
def kG{T}(h:Rz (zB T n) (zO T n) f vs s c)(h1:T.d "" 300=none)(P:T.c false=true)(O:zi T.f s=true)(N:T.e.lookup c=some w)(x:w≠"great":=by decide):zB T (n+1) "" 300 (.t f::vs) s=.e (.j w) s:=by
 obtain⟨a,as,b⟩:=h;have hA:wg false w as=.j w:=by unfold wg;rw[if_neg Ac,if_neg x]
 simp only[zB,h1,oj,List.tail_cons,a,b,P,O,N,uU];show Out.e (wg false w as) s=_;rw[hA]
def g6(h:zi tb s=true)(hp:tb.length<=p)(t:y9 s p s'):zi tb s'=true:=by obtain⟨a,b,rfl,_⟩:=t;exact Wl h hp
def jh(h:oF (.h vs) (.h ws)=some true):zT .a (.h vs) (.h ws) s=.e (.e false) s:=by simp only[zT,zw,yp,h];rfl
def UE(h:oF (.h vs) (.h ws)=some true):zT .b (.h vs) (.h ws) s=.e (.e true) s:=by simp only[zT,zw,yp,h]
def grt(i:Int):Val:=.f [.j "great",.c i,.c 12]
def TN:zT .a (.h (Aj 10 (grt i))) (.h (Aj 10 (grt i))) s=.e (.e false) s:=by
 refine(Zy ?_ ?_ (λx e=>by cases e) rfl).1
 . have h1:(grt i).isD=true:=by unfold grt;rw[Val.isD,tL,tL,tL,tL,Val.isD,Val.isD,Val.isD];decide +kernel
   have O:∀n,tL (Aj n (grt i))=true:=λn=>by
    induction n with
    |zero=>rw[List.replicate_zero,tL]
    |succ n N=>rw[BF,tL,h1,N];rfl
   rw[Val.isD];exact O 10
 . have h1:(grt i).d=.tuple [.str "great",.int i,.int 12]:=by unfold grt;rw[Val.d,ds,ds,ds,ds,Val.d,Val.d,Val.d]
   have O:∀n,ds (Aj n (grt i))=Aj n (.tuple [.str "great",.int i,.int 12]):=λn=>by
    induction n with
    |zero=>rw[List.replicate_zero,ds];rfl
    |succ n N=>rw[BF,ds,h1,N];rfl
   rw[Val.d,O];exact of_decide_eq_true rfl
structure CSz(f:Str)(k:Nat)(Φ:Calls):Prop where
 a:∀(v:Val) (tl:List Val) (s:Sto),zi tb s=true->tl.length=k->Kds v->yH v=false->Φ f 100 (v::tl) s=.e (.j "sizes") s
 b:∀(zs:List Int) (tl:List Val) (s:Sto),zi tb s=true->tl.length=k->kW zs->Φ f 100 (tpI zs::tl) s=.e (grt (zs.foldl (·*·) 1)) s
structure Ten(Φ:Calls):Prop where
 h:CSz "farthest" 0 Φ
 j:CSz "tally" 0 Φ
 c:CSz "ends" 0 Φ
 f:CSz "shut_ends" 0 Φ
 d:CSz "strips_many" 1 Φ
 g:CSz "all_strips" 1 Φ
 a:CSz "first_strip" 1 Φ
 b:CSz "kinds" 1 Φ
 i:CSz "led_on" 1 Φ
 e:CSz "led_more" 1 Φ
def Sw(Φ:Calls):Prop:=(∀(v w:Val) (s:Sto),zi tb s=true->Kds v->yH v=false->Φ "_law_all" 0 [v,w] s=.e (.h (Aj 10 (.j "sizes"))) s) /\
 ∀(zs:List Int) (w:Val) (s:Sto),zi tb s=true->kW zs->Φ "_law_all" 0 [tpI zs,w] s=.e (.h (Aj 10 (grt (zs.foldl (·*·) 1)))) s
section
variable {Φ:Calls}{s:Sto}
def gh(c:Ten Φ):(∀v w s,zi tb s=true->Kds v->yH v=false->run T Φ F13.yY [v,w] s=.e (.h (Aj 10 (.j "sizes"))) s) /\
 ∀zs w s,zi tb s=true->kW zs->run T Φ F13.yY [tpI zs,w] s=.e (.h (Aj 10 (grt (zs.foldl (·*·) 1)))) s:=by
 have a1:∀{v w:Val} {s:Sto},zY Φ T.b [some v,some w,none,none] (.a (.e 0) .c) s=.e [v] s:=zA (zF rfl) zE;have a2:∀{v w:Val} {s:Sto},zY Φ T.b [some v,some w,none,none] (.a (.e 0) (.a (.e 1) .c)) s=.e [v,w] s:=zA (zF rfl) (zA (zF rfl) zE);refine⟨λv w s N h1 O=>?_,λzs w s N h=>?_⟩
 . rw[post_eq,F13.yY,vv]
   refine⟨rfl,?_⟩;show (zd Φ T.b [some v,some w,none,none] _ s).post _;refine gm (vs:=Aj 10 (.j "sizes")) (zA (x_call a1 (c.h.a v [] s N rfl h1 O)) (zA (x_call a1 (c.j.a v [] s N rfl h1 O)) (zA (x_call a1 (c.c.a v [] s N rfl h1 O)) (zA (x_call a1 (c.f.a v [] s N rfl h1 O)) (zA (x_call a2 (c.d.a v [w] s N rfl h1 O)) (zA (x_call a2 (c.g.a v [w] s N rfl h1 O)) (zA (x_call a2 (c.a.a v [w] s N rfl h1 O)) (zA (x_call a2 (c.b.a v [w] s N rfl h1 O)) (zA (x_call a2 (c.i.a v [w] s N rfl h1 O)) (zA (x_call a2 (c.e.a v [w] s N rfl h1 O)) zE)))))))))) ?_;exact vG (by rw[pH];exact sL λx hx=>by rw[D3 hx];exact mH)
 . rw[post_eq,F13.yY,vv]
   refine⟨rfl,?_⟩;show (zd Φ T.b [some (tpI zs),some w,none,none] _ s).post _;refine gm (vs:=Aj 10 (grt (zs.foldl (·*·) 1))) (zA (x_call a1 (c.h.b zs [] s N rfl h)) (zA (x_call a1 (c.j.b zs [] s N rfl h)) (zA (x_call a1 (c.c.b zs [] s N rfl h)) (zA (x_call a1 (c.f.b zs [] s N rfl h)) (zA (x_call a2 (c.d.b zs [w] s N rfl h)) (zA (x_call a2 (c.g.b zs [w] s N rfl h)) (zA (x_call a2 (c.a.b zs [w] s N rfl h)) (zA (x_call a2 (c.b.b zs [w] s N rfl h)) (zA (x_call a2 (c.i.b zs [w] s N rfl h)) (zA (x_call a2 (c.e.b zs [w] s N rfl h)) zE)))))))))) ?_
   exact vG (by rw[pH];exact sL λx hx=>by rw[D3 hx];unfold grt;rw[mI,vI,vI,vI,qN,mH,pG,pG];rfl)
def Wx{gs:List Str}{env e0}(hi:zY Φ T.b env es s=.e (gs.map .t) s)(Q:gs.length<=100)(h0:za fr env=none::e0)(hf:∀o,zY Φ T.b (o::e0) fs s=.e vs s)(h:∀g∈gs,Φ "" 300 (.t g::vs) s=.e (.j x) s) :
 evE Φ T.b env (.r false N fr (.h "" 300 (.a (.e 0) fs)) (.a 0) (.f (.k es)) .a) s=.e (.h (Aj gs.length (.j x))) s:=by
 rw[post_eq];refine gX (λe=>∃o,e=o::e0) (λ_=>[.j x]) (gs.map .t) (s1:=s) (uO (xl hi (by rw[Ak];unfold zW;omega)) rfl) ⟨none,h0⟩ ?_ ?_
 . rintro v P e ⟨o,rfl⟩
   obtain⟨g,R,rfl⟩:=Bz.mp P;refine⟨some (.t g)::e0,rfl,⟨_,rfl⟩,qP.mpr ⟨rfl,?_⟩⟩;rw[if_pos rfl,x_call (zA (zF rfl) (hf _)) (h g R)];exact zC.mpr ⟨rfl,rfl⟩
 . have e:(gs.map Val.t).flatMap (λ_=>[Val.j x])=Aj gs.length (.j x):=by
    clear hi Q h;induction gs with
    |nil=>rfl
    |cons g gs O=>rw[AZ,FD,O];rfl
   rw[e];exact zC.mpr ⟨rfl,rfl⟩
def sI:List (List Int):=[[2,7],[7,2],[3,5],[4,4],[2,2,4],[2,3,3],[2,2,2,2],[8,8,8,8],[8,8],[2,8],[3,5],[3,3,5],[3,3,3,5]]
def RV(zs:List Int):Bool:=decide (1<=zs.length)&&decide (zs.length<=4)&&zs.all (λx=>decide (2<=x)&&decide (x<=8))&&decide (12<zs.foldl (·*·) 1)&&decide (zs.foldl (·*·) 1<100000)
def XD:sI.all RV=true:=by decide +kernel
def nv(h:zs∈sI):kW zs:=by have:=Ay.mp XD zs h;unfold RV at this;simp only[cf,decide_eq_true_eq,Ay]at this;obtain⟨⟨⟨⟨a,b⟩,c⟩,d⟩,e⟩:=this;exact⟨⟨a,b,c⟩,d,e⟩
def ak:List Val:=[.c 41,.c (-1),.e true,.e false,.g,.j "3",.c cL]
def TQ:∀v∈ak,kindOf v≠none/\z0 0 40 v=false:=λv x=>by
 simp only[ak,Ao,Bp,or_false]at x;rcases x with rfl|rfl|rfl|rfl|rfl|rfl|rfl<;>exact⟨nofun,rfl⟩
def two:List Str:=["fits","first_wrong"]
structure Cs(Φ:Calls):Prop where
 e:Wz Φ
 i:Sy Φ
 b:ik Φ
 sz:il Φ
 h:Sx Φ
 d:Sw Φ
 j:∀g∈two,∀(v w:Val) (s:Sto),zi tb s=true->Kds v->yH v=false->Φ "" 300 [.t g,v,w] s=.e (.j "sizes") s
 a:∀f∈([("strips_many":Str),"all_strips","first_strip","kinds"]:List Str),∀(zs:List Int) (w:Val) (s:Sto),zi tb s=true->yf zs->kindOf w≠none->z0 0 40 w=false->Φ f 100 [tpI zs,w] s=.e (.j "number") s
 c:sj Φ
abbrev en(ns:List Int)(o1 Z Y W U S R Q P O N x:Option Val):M.Env:=[some (.r ns),o1,Z,Y,W,U,S,R,Q,P,O,N,x,none]
def UG(hz:yf zs)(h:yq zs [[]] 6≠[])(c:sj Φ)S:∃i:Int,Φ "farthest" 0 [tpI zs] S=.e (.c i) S/\6<=i:=by
 obtain⟨N,x⟩:=UH hz;refine⟨_,c zs N S hz x,?_⟩;have:¬N<=6:=λO=>h (by
  have:=q0 x.a (6-N)
  rwa [show N+(6-N)=6 by omega]at this)
 omega
def sm1:yf [3,4]:=pW (by decide)
def sm2:yf [2,6]:=pW (by decide)
def sm3:yf [2,2,3]:=pW (by decide)
def aY(c:Cs Φ)ns:(run T Φ oP [.r ns] (tb.map .d)).post λv _=>v=.e true:=by
 have L4:4<=zW:=by decide
 have L3:3<=zW:=by decide
 have L2':2<=zW:=by decide
 have L1:1<=zW:=by decide
 have t1:∀{a:Int} {env:M.Env} {s:Sto},evE Φ T.b env (.k (.a (.g (.c a)) .c)) s=.e (tpI [a]) s:=xl (zA zL zE) L1;have t2:∀{a b:Int} {env:M.Env} {s:Sto},evE Φ T.b env (.k (.a (.g (.c a)) (.a (.g (.c b)) .c))) s=.e (tpI [a,b]) s:=xl (zA zL (zA zL zE)) L2';have t3:∀{a b c:Int} {env:M.Env} {s:Sto},evE Φ T.b env (.k (.a (.g (.c a)) (.a (.g (.c b)) (.a (.g (.c c)) .c)))) s=.e (tpI [a,b,c]) s:=xl (zA zL (zA zL (zA zL zE))) L3;rw[oP,vv];refine⟨rfl,?_⟩;show (zd Φ T.b (en ns none none none none none none none none none none none none) _ (tb.map .d)).post _;refine z7.mpr (vk (λrest e s'=>(∃o1 o2 Z Y U o6 o7 o8 o9 N P O,e=en ns o1 o2 Z Y U o6 o7 o8 o9 N P O)/\zi tb s'=true/\∀x∈rest,∃k:Nat,x=.c k) (wI 0 (max 1 (min ns.length 4))) (s1:=tb.map .d) (bO (K:=4) rfl ⋯) ⟨⟨_,_,_,_,_,_,_,_,_,_,_,_,rfl⟩,wN.mpr ⟨[],by rw[A4]⟩,?_⟩ ?_ ?_)
 . intro x hx
   obtain⟨k,_,rfl⟩:=gW hx;exact⟨k,by congr 1;omega⟩
 . rintro x rest e s' ⟨⟨o1,o2,Z,Y,U,o6,o7,o8,o9,N,P,O,rfl⟩,hZ,hr⟩
   obtain⟨k,rfl⟩:=hr x (.head _);have hr':∀x∈rest,∃k:Nat,x=.c k:=λx hx=>hr x (.tail _ hx);refine⟨_,rfl,?_⟩;obtain⟨cv,hcell⟩:=c.e ns k s';refine byG λpi W=>?_;obtain⟨pa,pb,hpen,hb⟩:=c.i cv s';refine W ?_;show (zd Φ T.b (en ns (some (.c k)) o2 Z Y U o6 o7 o8 o9 N P O) _ s').post _;refine vN (x_call (zA (x_call (zA (zF rfl) (zA (zF rfl) zE)) hcell) zE) hpen) ?_;have hP:vo (s'++[sP pa pb]) s'.length:=⟨pa,pb,by simp,hb⟩
   have hZ1:zi tb (s'++[sP pa pb])=true:=Wj hZ;have hpl:tb.length<=s'.length:=Wk hZ;show (zd Φ T.b (en ns (some (.c k)) (some (.m s'.length)) Z Y U o6 o7 o8 o9 N P O) _ (s'++[sP pa pb])).post _;generalize s'++[sP pa pb]=s1 at hP hZ1;generalize s'.length=p at hP hpl;refine byG λpi W=>?_;obtain⟨_,s2,hd2,zs,rfl,hz,u2⟩:=c.sz p s1 hP;refine W ?_;have hP2:=u2.at_ hP.lt;refine byG λpi W=>?_;obtain⟨_,s3,hd3,bs,rfl,hbs,u3⟩:=c.h p zs s2 hP2 hz;refine W ?_;have hP3:=u3.at_ hP2.lt;have hZ3:=g6 hZ1 hpl (u2.trans u3);refine z7.mpr (vk (λQ e S=>S=s3/\(∃Z Y U,e=en ns (some (.c k)) (some (.m p)) Z Y U o6 o7 o8 o9 N P O)/\∀x∈Q,fC x) bs (s1:=s3) (uO (x_call (zA (zF rfl) (zA (x_call (zA (zF rfl) zE) hd2) zE)) hd3) rfl) ⟨rfl,⟨_,_,_,rfl⟩,hbs⟩ ?_ ?_)
   . rintro x Q e S ⟨rfl,⟨Z,Y,U,rfl⟩,hr2⟩
     have hx:=hr2 x (.head _);obtain⟨t,ht⟩:=hx.sh;refine⟨_,rfl,vN (wX (zA (zF rfl) zE) (ht S)) ?_⟩;show (zd Φ T.b (en ns (some (.c k)) (some (.m p)) (some x) (some (.j t)) U o6 o7 o8 o9 N P O) _ S).post _;refine z7.mpr (vk (λR e S'=>S'=S/\∃U,e=en ns (some (.c k)) (some (.m p)) (some x) (some (.j t)) U o6 o7 o8 o9 N P O) [.g,.c (-1),.c 3,.f []] (s1:=S) (uO (xl (zA zL (zA (YU zL) (zA zL (zA (xl zE (Bs _)) zE)))) L4) rfl) ⟨rfl,_,rfl⟩ ?_ ?_)
     . rintro w R e S' ⟨rfl,U,rfl⟩
       refine⟨en ns (some (.c k)) (some (.m p)) (some x) (some (.j t)) (some w) o6 o7 o8 o9 N P O,rfl,?_⟩;refine pU (u6 (u9 (x_call (zA (zF rfl) (zA (zF rfl) zE)) (c.d.1 x w S' hZ3 hx.a hx.no)) (zu (vT (zA zL zE) L1) zL rfl) (jh (by decide +kernel))) xB) ?_
       exact pU (u6 (u9 (Wx (gs:=two) (vs:=[x,w]) (e0:=[some x,some w,none]) (zA (mr rfl) (zA (mr rfl) zE)) (by decide) rfl (λo=>zA (zF rfl) (zA (zF rfl) zE)) λg hg=>c.j g hg x w S' hZ3 hx.a hx.no) (zu (vT (zA zL zE) L1) zL rfl) (jh (by decide +kernel))) xB) (u0 ⟨rfl,_,rfl⟩)
     . rintro e S' ⟨rfl,U,rfl⟩
       exact pU (u6 (u9 (wX (zA (zF rfl) zE) (ht S')) (zF rfl) aj) xB) (u0 ⟨rfl,⟨_,_,_,rfl⟩,λy hy=>hr2 y (.tail _ hy)⟩)
   rintro e S ⟨rfl,⟨Z,Y,U,rfl⟩,_⟩;refine byG λpi W=>?_;obtain⟨_,s4,hd4,a4,rfl,ha4,u4⟩:=c.b p 3 S hP3 ⋯ ⋯
   refine W ?_;have hP4:=u4.at_ hP3.lt;refine vN (zu zL (x_call (zA (zF rfl) (zA zL zE)) hd4) fH) ?_;refine vN (vT (vs:=(sI.take 10).map tpI) (zA t2 (zA t2 (zA t2 (zA t2 (zA t3 (zA t3 (zA (zu t1 zL rfl) (zA (zu t1 zL rfl) (zA t2 (zA t2 zE)))))))))) (show 10<=zW by decide)) ?_
   show (zd Φ T.b (en ns (some (.c k)) (some (.m p)) Z Y U (some (.c (1+(a4:Int)))) (some (.h ((sI.take 10).map tpI))) o8 o9 N P O) _ s4).post _;refine byG λpi W=>?_;obtain⟨_,s5,hd5,a5,rfl,ha5,u5⟩:=c.b p 10 s4 hP4 ⋯ ⋯
   refine W ?_;have ha5':a5<(sI.take 10).length:=by show a5<10;omega
   have hG:=nv (ES (Cr ha5'));have hgix:vH (.h ((sI.take 10).map tpI)) (.c a5) s5=.e (tpI (sI.take 10)[a5]) s5:=jM (by rw[A1,Ai ha5'];rfl)
   generalize (sI.take 10)[a5]=gs at hG hgix;obtain⟨g2,hG2,e2⟩:∃g2,kW g2/\∀s,(binOp false .b (tpI [3]) (.c (1+(a4:Int))) s).bind (λv s=>binOp false .a v (tpI [5]) s)=.e (tpI g2) s:=by
    have:a4=0\/a4=1\/a4=2:=by omega
    rcases this with rfl|rfl|rfl
    . exact⟨[3,5],nv (by decide),λs=>rfl⟩
    . exact⟨[3,3,5],nv (by decide),λs=>rfl⟩
    . exact⟨[3,3,3,5],nv (by decide),λs=>rfl⟩
   refine byG λpi W=>?_;obtain⟨v1,w1,m1,m2⟩:=zX (e2 s5);refine W ?_;have hw1:w1=s5:=by
    have:a4=0\/a4=1\/a4=2:=by omega
    rcases this with rfl|rfl|rfl<;>(cases m1;rfl)
   subst hw1;have hZ5:=g6 hZ3 hpl (u4.trans u5);refine z7.mpr (vk (λQ e S'=>S'=w1/\(∃U o8 o9 N,e=en ns (some (.c k)) (some (.m p)) Z Y U (some (.c (1+(a4:Int)))) (some (.h ((sI.take 10).map tpI))) o8 o9 N P O)/\∀x∈Q,∃gs,x=tpI gs/\kW gs) [tpI gs,tpI g2] (s1:=w1) (uO (vT (zA (pk (zF rfl) (x_call (zA (zF rfl) (zA zL zE)) hd5) hgix) (zA (zu (zu t1 (zF rfl) m1) t1 m2) zE)) L2') rfl) ⟨rfl,⟨_,_,_,_,rfl⟩,?_⟩ ?_ ?_)
   . intro x hx
     rcases Ao.mp hx with rfl|hx
     . exact⟨gs,rfl,hG⟩
     . rw[AW.mp hx];exact⟨g2,rfl,hG2⟩
   . rintro x Q e S' ⟨rfl,⟨U,o8,o9,N,rfl⟩,hr2⟩
     obtain⟨qs,rfl,hQ⟩:=hr2 x (.head _);refine⟨_,rfl,vN zL ?_⟩;show (zd Φ T.b (en ns (some (.c k)) (some (.m p)) Z Y U (some (.c (1+(a4:Int)))) (some (.h ((sI.take 10).map tpI))) (some (tpI qs)) (some (.c (([]:List Int).foldl (·*·) 1))) N P O) _ S').post _
     refine z7.mpr (vk (λR e S2=>S2=S'/\∃A B N,A++B=qs/\R=B.map .c/\e=en ns (some (.c k)) (some (.m p)) Z Y U (some (.c (1+(a4:Int)))) (some (.h ((sI.take 10).map tpI))) (some (tpI qs)) (some (.c (A.foldl (·*·) 1))) N P O) (qs.map .c) (s1:=S') (uO (zF rfl) rfl) ⟨rfl,[],qs,_,rfl,rfl,rfl⟩ ?_ ?_)
     . rintro x R e S2 ⟨rfl,A,B,N,hAB,hB,rfl⟩
       cases B with
       |nil=>cases hB
       |cons y B=>
        obtain⟨rfl,rfl⟩:=GI hB;have hy:=hQ.sz.2.2 y (by rw[<-hAB];exact Bb _ (.head _))
        refine⟨_,rfl,vN (zu (zF rfl) (zF rfl) (lB ⋯)) (u0 ⟨rfl,A++[y],B,some (.c y),by rw[<-hAB,Br];rfl,rfl,?_⟩)⟩
        rw[List.foldl_append];rfl
     rintro e S2 ⟨rfl,A,B,N,hAB,hB,rfl⟩;have hB0:B=[]:=List.map_eq_nil_iff.mp hB.symm;subst hB0;rw[A4]at hAB;subst hAB;refine z7.mpr (vk (λR e S3=>S3=S2/\∃U,e=en ns (some (.c k)) (some (.m p)) Z Y U (some (.c (1+(a4:Int)))) (some (.h ((sI.take 10).map tpI))) (some (tpI A)) (some (.c (A.foldl (·*·) 1))) N P O) [.g,.c 41,.c 3,.f []] (s1:=S2) (uO (xl (zA zL (zA zL (zA zL (zA (xl zE (Bs _)) zE)))) L4) rfl) ⟨rfl,_,rfl⟩ ?_ ?_)
     . rintro w R e S3 ⟨rfl,U,rfl⟩
       refine⟨en ns (some (.c k)) (some (.m p)) Z Y (some w) (some (.c (1+(a4:Int)))) (some (.h ((sI.take 10).map tpI))) (some (tpI A)) (some (.c (A.foldl (·*·) 1))) N P O,rfl,?_⟩
       exact pU (u6 (u9 (x_call (zA (zF rfl) (zA (zF rfl) zE)) (c.d.2 A w S3 hZ5 hQ)) (zu (vT (zA (xl (zA zL (zA (zF rfl) (zA zL zE))) L3) zE) L1) zL (show binOp false .b (.h [grt (A.foldl (·*·) 1)]) (.c 10) S3=.e (.h (Aj 10 (grt (A.foldl (·*·) 1)))) S3 from rfl)) TN) xB) (u0 ⟨rfl,_,rfl⟩)
     . rintro e S3 ⟨rfl,U,rfl⟩
       exact u0 ⟨rfl,⟨_,_,_,_,rfl⟩,λx hx=>hr2 x (.tail _ hx)⟩
   rintro e S' ⟨rfl,⟨U,o8,o9,N,rfl⟩,_⟩;refine z7.mpr (vk (λQ e S2=>S2=S'/\(∃P O,e=en ns (some (.c k)) (some (.m p)) Z Y U (some (.c (1+(a4:Int)))) (some (.h ((sI.take 10).map tpI))) o8 o9 N P O)/\∀x∈Q,x∈ak) ak (s1:=S') (uO (xl (vs:=ak) (zA zL (zA (YU zL) (zA zL (zA zL (zA zL (zA zL (zA (zu zL zL cM) zE))))))) (show 7<=zW by decide)) rfl) ⟨rfl,⟨_,_,rfl⟩,λx hx=>hx⟩ ?_ ?_)
   . rintro x Q e S2 ⟨rfl,⟨P,O,rfl⟩,hr2⟩
     obtain⟨h1,h2⟩:=TQ x (hr2 x (.head _));refine⟨_,rfl,?_⟩;refine WY (u0 ⟨rfl,_,_,.h [.j "number",.j "number",.j "number",.j "number"],rfl,zA (x_call (zA t2 (zA (zF rfl) zE)) (c.a _ (by simp) [3,4] x S2 hZ5 sm1 h1 h2)) (zA (x_call (zA t2 (zA (zF rfl) zE)) (c.a _ (by simp) [3,4] x S2 hZ5 sm1 h1 h2)) (zA (x_call (zA t2 (zA (zF rfl) zE)) (c.a _ (by simp) [2,6] x S2 hZ5 sm2 h1 h2)) (zA (x_call (zA t3 (zA (zF rfl) zE)) (c.a _ (by simp) [2,2,3] x S2 hZ5 sm3 h1 h2)) zE))),zu (vT (zA zL zE) L1) zL rfl,jh (by decide +kernel),Sk,u0 ⟨rfl,⟨some x,none,rfl⟩,λy hy=>hr2 y (.tail _ hy)⟩⟩)
   rintro e S2 ⟨rfl,⟨P,O,rfl⟩,_⟩;exact u0 ⟨⟨_,_,_,_,_,_,_,_,_,_,_,_,rfl⟩,hZ5,hr'⟩
 . rintro e s' ⟨⟨o1,o2,Z,Y,U,o6,o7,o8,o9,N,P,O,rfl⟩,hZ,_⟩
   have hc:evE Φ T.b (en ns o1 o2 Z Y U o6 o7 o8 o9 N P O) (.r false ["_law_sizes_here"] [none] (.q .i (.h "farthest" 0 (.a (.e 0) .c)) (.g (.c 6))) (.a 0) (.f (.k (.a (.k (.a (.g (.c 2)) (.a (.g (.c 6)) .c))) (.a (.k (.a (.g (.c 2)) (.a (.g (.c 2)) (.a (.g (.c 3)) .c)))) (.a (.k (.a (.g (.c 3)) (.a (.g (.c 4)) .c))) .c))))) .a) s'=.e (.h [.e true,.e true,.e true]) s':=by
    rw[post_eq];refine gX (λe=>∃o,e=[o]) (λ_=>[.e true]) [tpI [2,6],tpI [2,2,3],tpI [3,4]] (s1:=s') (uO (xl (zA t2 (zA t3 (zA t2 zE))) L3) rfl) ⟨none,rfl⟩ ?_ (zC.mpr ⟨rfl,rfl⟩);rintro x hx e ⟨o,rfl⟩;have key:∃i:Int,Φ "farthest" 0 [x] s'=.e (.c i) s'/\6<=i:=by
     simp only[Ao,Bp,or_false]at hx;rcases hx with rfl|rfl|rfl
     . exact UG sm2 (by decide +kernel) c.c s'
     . exact UG sm3 (by decide +kernel) c.c s'
     . exact UG sm1 (by decide +kernel) c.c s'
    obtain⟨i,hi,h6⟩:=key;refine⟨[some x],rfl,⟨_,rfl⟩,qP.mpr ⟨rfl,?_⟩⟩;rw[if_pos rfl,u9 (x_call (zA (zF rfl) zE) hi) zL (show zT .i (.c i) (.c 6) s'=.e (.e true) s' by rw[ge_int,decide_eq_true h6])]
    exact zC.mpr ⟨rfl,rfl⟩
   refine vx (u9 hc (zu (vT (zA zL zE) L1) zL rfl) (UE (by decide +kernel))) ?_
   show (yE false (tb.map .d) (.e true) s').post _;rw[eJ hZ vi];exact zC.mpr rfl
end
def cs:At T 9 Cs:=λn hn=>by
 obtain⟨n,rfl⟩:∃m,n=m+9:=⟨n-9,⋯⟩
 have g4:Gl4 T:=⟨rfl,rfl,rfl,rfl⟩;have g3:T.b "MOST_PLACES"=some (.c 40):=rfl;have gp:T.b "MOST_PRODUCT"=some (.c 12):=rfl;have whole:∀m,kU (zB T (m+1)):=λm v l k s h=>by rw[zk (F:=F.xm) rfl];exact dI h
 have wholes:∀m,iq (zB T (m+2)):=λm vs l k s h=>by rw[zk (F:=F.yv) rfl];exact iF (whole m) h
 have yH:∀m,nR (zB T (m+3)):=λm v s h h'=>by rw[zk (F:=F.xG) rfl];exact iD g4 (wholes m) h h'
 have Q:∀m,tD (zB T (m+4)):=λm zs s h=>by rw[zk (F:=F.yL) rfl];exact oH (cB (yH m)) h
 have prod:∀m,di (zB T (m+1)):=λm zs s h=>by rw[zk (F:=F12.yx) rfl];exact Zt h
 have P:∀m,qT (zB T (m+5)):=λm zs s h=>by rw[zk (F:=F64.zV) rfl];exact pS gp (Q m) (prod (m+3)) h
 have may:∀m,Vn (zB T (m+1)):=λm zs ns h s h1 x h3=>by rw[zk (F:=F.yw) rfl];exact WT h1 x h3
 have grown0:∀m,nQ (zB T (m+2)):=λm zs L s h1 x h3=>by rw[zk (F:=F12.ub) rfl];exact iB (may m) h1 x h3
 have tally0:∀m,ip (zB T (m+6)):=λm zs N s h1 x=>by rw[zk (F:=F12.x8) rfl];exact iE (P m) (grown0 (m+3)) h1 x
 have far:∀m,sj (zB T (m+7)):=λm zs N s h1 x=>by rw[zk (F:=F12.yn) rfl];exact mY (tally0 m) h1 x
 have xNeed:∀m,W3 (zB T (m+2)) (zO T (m+2)):=λm v l k s h1 x h3 h4=>by obtain⟨a,b⟩:=cI (T:=T) (Φ:=zB T (m+1)) (Ψ:=zO T (m+1)) (s:=s) (whole m) rfl h1 x h3 h4;exact⟨by rw[zk (F:=F.yM) rfl];exact a,_,by rw[qa (F:=F.yM) rfl rfl];exact b⟩
 have Z:∀m,Yc (zB T (m+3)) (zO T (m+3)):=λm v s h1 x=>RzF.up (F:=F.yQ) (ke g3 (xNeed m) h1 x) rfl rfl;have S:∀m,d8 (zB T (m+4)) (zO T (m+4)):=λm v s h1 x=>RzF.up (F:=F.yL) (fG (yH m) rfl h1 x) rfl rfl;have O:∀m,XSz "need_small_sizes" 0 (zB T (m+5)) (zO T (m+5)):=λm=>
  ⟨λv tl s h0 h1 x=>by
   obtain rfl:=Bt.mp h0;exact RzF.up (F:=F64.zV) (kg (S m) h1 x) rfl rfl,
   λzs tl s h0 h=>by obtain rfl:=Bt.mp h0;exact wY.up (F:=F64.zV) (kh gp (Q m) (prod (m+3)) rfl h.sz h.lo h.hi) rfl rfl⟩
 have xTally:XSz "tally" 0 (zB T (n+6)) (zO T (n+6)):=(O n).up (F:=F12.x8) (λv tl s h=>⟨[],rfl,λc as r=>by obtain rfl:=Bt.mp h;exact xn (F:=F12.x8) rfl rfl (zA (zF rfl) zE) r⟩) rfl rfl
 have xEnds:XSz "ends" 0 (zB T (n+6)) (zO T (n+6)):=(O n).up (F:=F13.tE) (λv tl s h=>⟨[],rfl,λc as r=>by obtain rfl:=Bt.mp h;exact xn (F:=F13.tE) rfl rfl (zA (zF rfl) zE) r⟩) rfl rfl
 have xAll:∀m,XSz "all_strips" 1 (zB T (m+6)) (zO T (m+6)):=λm=>(O m).up (F:=F13.yK) (λv tl s h=>⟨[],rfl,λc as r=>by obtain⟨w,rfl⟩:=Dj.mp h;exact xn (F:=F13.yK) rfl rfl (zA (zF rfl) zE) r⟩) rfl rfl
 have xLed:∀m,XSz "led_on" 1 (zB T (m+6)) (zO T (m+6)):=λm=>(O m).up (F:=F13.w9) (λv tl s h=>⟨[],rfl,λc as r=>by obtain⟨w,rfl⟩:=Dj.mp h;exact xn (F:=F13.w9) rfl rfl (zA (zF rfl) zE) r⟩) rfl rfl
 have xFar:XSz "farthest" 0 (zB T (n+7)) (zO T (n+7)):=xTally.up (F:=F12.yn) (λv tl s h=>⟨[],rfl,λc as r=>by obtain rfl:=Bt.mp h;exact rh (F:=F12.yn) rfl rfl (zA (zF rfl) zE) r⟩) rfl rfl
 have xShut:XSz "shut_ends" 0 (zB T (n+7)) (zO T (n+7)):=xEnds.up (F:=F13.wB) (λv tl s h=>⟨[],rfl,λc as r=>by obtain rfl:=Bt.mp h;exact fF (F:=F13.wB) rfl rfl (zA (zF rfl) zE) r⟩) rfl rfl
 have xMore:XSz "led_more" 1 (zB T (n+7)) (zO T (n+7)):=(xLed n).up (F:=F12.wQ) (λv tl s h=>⟨tl,h,λc as r=>by obtain⟨w,rfl⟩:=Dj.mp h;exact rh (F:=F12.wQ) rfl rfl (zA (zF rfl) (zA (zF rfl) zE)) r⟩) rfl rfl
 have sMany:∀(m:Nat) (v w:Val) (s:Sto) (c:Str) (as:List Val),RzG (zB T m) (zO T m) "all_strips" [v,w] s c as->wY T (zB T m) (zO T m) F12.yd [v,w] s c as:=λm v w s c as r=>cH (F:=F12.yd) rfl rfl (zA (zF rfl) (zA (zF rfl) zE)) r;have W:∀(m:Nat) (v w:Val) (s:Sto) (c:Str) (as:List Val),RzG (zB T m) (zO T m) "all_strips" [v,w] s c as->wY T (zB T m) (zO T m) F13.yP [v,w] s c as:=λm v w s c as r=>cE (F:=F13.yP) rfl rfl (zA (zF rfl) (zA (zF rfl) zE)) r;have U:∀(m:Nat) (v w:Val) (s:Sto) (c:Str) (as:List Val),RzG (zB T m) (zO T m) "all_strips" [v,w] s c as->wY T (zB T m) (zO T m) F13.uc [v,w] s c as:=λm v w s c as r=>cJ (F:=F13.uc) rfl rfl (zA (zF rfl) (zA (zF rfl) zE)) r;have up1:∀(f:Str) (F:Fn),(∀(m:Nat) (v w:Val) (s:Sto) (c:Str) (as:List Val),RzG (zB T m) (zO T m) "all_strips" [v,w] s c as->wY T (zB T m) (zO T m) F [v,w] s c as)->T.d f 0=some F->2=F.b.length->XSz f 1 (zB T (n+7)) (zO T (n+7)):=λf F st hf hl=>(xAll n).up (F:=F) (λv tl s h=>⟨tl,h,λc as r=>by obtain⟨w,rfl⟩:=Dj.mp h;exact st _ v w s c as r⟩) hf hl
 have R:∀m,d7 "all_strips" (zB T (m+6)) (zO T (m+6)):=λm zs w s h0 h1 x=>RzG.of (RzF.up (F:=F13.yK) (kf (F:=F13.yK) rfl rfl (zA (zF rfl) zE) (P m zs s h0) (zA (zF rfl) zE) (Z (m+2) w s h1 x)) rfl rfl);have fw:∀m (v w:Val) (s:Sto),Kds v->M.yH v=false->Rz (zB T (m+5)) (zO T (m+5)) "first_wrong" [v,w] s "NoSizes":=λm v w s h1 x=>RzF.up (F:=F13.yc) (oR (F:=F13.yc) rfl rfl (zA (zF rfl) zE) (S m v s h1 x)) rfl rfl;have ft:∀m (v w:Val) (s:Sto),Kds v->M.yH v=false->Rz (zB T (m+6)) (zO T (m+6)) "fits" [v,w] s "NoSizes":=λm v w s h1 x=>by obtain⟨as,r⟩:=RzG.of (fw m v w s h1 x);exact(wY.up (F:=F.qV) (cF (F:=F.qV) rfl rfl (zA (zF rfl) (zA (zF rfl) zE)) r) rfl rfl).rz
 have sW:∀(f:Str) (k m:Nat),XSz f k (zB T m) (zO T m)->T.d f 100=none->CSz f k (zB T (m+1)):=λf k m h hf=>
  ⟨λv tl s hz h0 h1 x=>gw (h.a v tl s h0 h1 x) hf rfl hz rfl,λzs tl s hz h0 h1=>iG (h.b zs tl s h0 h1) hf rfl hz rfl⟩
 have Y:XSz "tally" 0 (zB T (n+7)) (zO T (n+7)):=(O (n+1)).up (F:=F12.x8) (λv tl s h=>⟨[],rfl,λc as r=>by obtain rfl:=Bt.mp h;exact xn (F:=F12.x8) rfl rfl (zA (zF rfl) zE) r⟩) rfl rfl
 have xEnds1:XSz "ends" 0 (zB T (n+7)) (zO T (n+7)):=(O (n+1)).up (F:=F13.tE) (λv tl s h=>⟨[],rfl,λc as r=>by obtain rfl:=Bt.mp h;exact xn (F:=F13.tE) rfl rfl (zA (zF rfl) zE) r⟩) rfl rfl
 have ten:Ten (zB T (n+8)):=⟨sW _ _ _ xFar rfl,sW _ _ _ Y rfl,sW _ _ _ xEnds1 rfl,sW _ _ _ xShut rfl,sW _ _ _ (up1 _ _ sMany rfl rfl) rfl,sW _ _ _ (xAll (n+1)) rfl,sW _ _ _ (up1 _ _ W rfl rfl) rfl,sW _ _ _ (up1 _ _ U rfl rfl) rfl,sW _ _ _ (xLed (n+1)) rfl,sW _ _ _ xMore rfl⟩;have all:Sw (zB T (n+9)):=⟨λv w s h1 x h3=>by rw[zk (F:=F13.yY) rfl];exact(gh ten).1 v w s h1 x h3,λzs w s h1 x=>by rw[zk (F:=F13.yY) rfl];exact(gh ten).2 zs w s h1 x⟩
 have cell:∀m,Wz (zB T (m+1)):=λm ns k s=>by obtain⟨c,h⟩:=Zr (T:=T) (Φ:=zB T m) (s:=s) ns k;exact⟨c,by rw[zk (F:=F.yD) rfl];exact h⟩
 have pen:∀m,Sy (zB T (m+1)):=λm c s=>by obtain⟨a,b,h,x⟩:=WV (T:=T) (Φ:=zB T m) (s:=s) c;exact⟨a,b,by rw[zk (F:=F.yJ) rfl];exact h,x⟩
 have draw:∀m,ik (zB T (m+1)):=λm p k s h1 x h3=>by rw[zk (F:=F.ym) rfl];exact Zs h1 x h3
 have sz:∀m,il (zB T (m+2)):=λm p s h=>by rw[zk (F:=F.yu) rfl];exact iC (draw m) h
 have noz:∀m,Sx (zB T (m+2)):=λm p zs s h1 x=>by rw[zk (F:=F13.yI) rfl];exact WU (draw m) h1 x
 refine⟨cell (n+8),pen (n+8),draw (n+8),sz (n+7),noz (n+7),all,λg hg v w s hs h1 x=>?_,λf hf zs w s hs h0 h1 x=>?_,far (n+2)⟩
 . simp only[two,Ao,Bp,or_false]at hg
   rcases hg with rfl|rfl
   . exact kG (ft (n+2) v w s h1 x) rfl rfl hs rfl
   . exact kG (fw (n+3) v w s h1 x) rfl rfl hs rfl
 . have hh:d7 f (zB T (n+8)) (zO T (n+8)):=by
    simp only[Ao,Bp,or_false]at hf;rcases hf with rfl|rfl|rfl|rfl
    . exact(R (n+1)).up (F:=F12.yd) (sMany _) rfl rfl
    . exact R (n+2)
    . exact(R (n+1)).up (F:=F13.yP) (W _) rfl rfl
    . exact(R (n+1)).up (F:=F13.uc) (U _) rfl rfl
   obtain⟨as,r⟩:=hh zs w s h0 h1 x;refine gw r.rz ?_ rfl hs rfl;simp only[Ao,Bp,or_false]at hf;rcases hf with rfl|rfl|rfl|rfl<;>rfl
def TK ns:∃s',zB T 10 "law" 0 [.r ns] (tb.map .d)=.e (.e true) s':=by
 obtain⟨v,s',h,rfl⟩:=aY (cs 9 ⋯) ns
 exact⟨s',by rw[zk (F:=oP) rfl];exact h⟩
end P13
end
section
open PySem PySem.W PyProof.Rows
def P13.hx:P13.oP.b=[("_law_script":Str)]:=by kernel_rfl
def P13.hF:(M.kM P13.fnL P13.glL P13.tb P13.xc P13.md).d P13.dd.name 0=some P13.oP:=by kernel_rfl
def P13.hgl:P13.glL=P13.gl.map λp=>(p.1,M.gv p.2):=by kernel_rfl
def P13.ws1:List Str:=["strip","sizes","number","place","hue","draft","paper","fit","lot"]
def P13.ws2:List Str:=["ring","round","stand","text","deed","line","great"]
def P13.kst:M.kY (P13.top 69) P13.X.a (P13.ws1++P13.ws2) none:=by
 refine⟨by kernel_rfl,by decide +kernel,?_,by decide +kernel⟩
 exact⟨P13.X.a.take 4,(P13.X.a.drop 4).take 4,(P13.X.a.drop 8).take 4,P13.X.a.drop 12,P13.ws1,P13.ws2,_,_,_,_,_,_,_,_,_,_,_,_,_,_,_,_,_,_,_,_,_,_,_,_,_,_,_,_,_,_,_,_,_,_,_,_,_,_,_,_,_,_,_,_,_,_,_,_,_,_,_,_,_,_,default,default,_,_,_,_,0,rfl,rfl,rfl,by decide +kernel,rfl,rfl⟩
def P13.Pr:M.nT false "_law_class" (P13.top 70):=⟨by kernel_rfl,by decide +kernel,⟨_,_,_,_,_,_,_,_,_,_,_,_,_,_,_,_,_,_,_,_,_,_,_,_,_,_,_,_,rfl⟩,by decide +kernel⟩
def P13.ist:M.dk (Hd.jH (P13.top 17)):=⟨by kernel_rfl,by decide +kernel,⟨_,_,_,_,_,_,_,_,_,_,_,_,_,_,_,_,_,_,_,_,_,by decide,rfl,by decide +kernel⟩,by decide +kernel⟩
def P13.hS:∀b,P13.md b=true->P13.D.lookup (L2.yC b)=some ((λb=>match b with|true=>P13.top 0|false=>P13.top 70) b)/\M.nT b "_law_class" ((λb=>match b with|true=>P13.top 0|false=>P13.top 70) b)
 |false,_=>⟨rfl,P13.Pr⟩|true,h=>by cases h
def P13.jD:((("HueError":Str))::P13.X.c).all (λc=>decide (c="TooGreat")||M.eh P13.q c)=true:=by decide +kernel
def P13.jF:P13.X.b.all (λg=>(EX P13.q).any (λd=>decide (d.name=g))&&(P13.D.lookup g).isSome)=true:=by decide +kernel
theorem PySem.Challenge.cw_evenhues_k13_sizes_refused_holds : PySem.Challenge.rw_evenhues_k13_sizes_refused.Holds := by
 exact M.V2 (n:=10) _ P13.sW P13.left P13.hgl P13.bc P13.hp P13.hk P13.hwr P13.ok P13.bare P13.hw (by kernel_rfl) P13.hdf ⟨rfl,by decide,by decide,rfl⟩ P13.hF P13.hx P13.Sg rfl (by decide +kernel) rfl P13.kst P13.hS rfl (by decide +kernel) (by decide +kernel) P13.jD (λh=>by cases h) (λ_ _ _ _ _ _ _ TT KX ob=>M.bb TT KX ob P13.ist) P13.jF (λns _=>P13.TK ns)
end
end
